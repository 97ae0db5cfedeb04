import PyProof.Rows.All
import Wide.All
import OpenK.AllK
import Wide.FinOn
import HandS.ForMost
import HandS.IsInst
import HandS.Deep
import HandS.Codes
import HandS.Flow
import PyProof.Rows.StrMul
import HandS.Ends
import HandS.Strs
import HandS.SetFor
import HandS.More
import KE.DataMinMax
import HandS.SortKw
import ObjForm.LawKit
import HandS.FStr
import HandS.Steps
import KE.GoesMore
import HandS.Conv
import HandS.SetBool
import PyProof.StrWalks
import HandS.Star
import HandS.TupAny
import PyProof.SetRoads
import PyProof.P3In
import HandS.ExcInit
import HandS.ExcOwn
import KE.KExcInit
import KE.KExcIs
import HandS.Defaults
import HandS.WideBits
import HandS.ExcValue
import HandS.TupSets
import HandS.SetKeys
import HandS.DictComp
import PyProof.StrBlockI
import HandS.ExcIs
import KE.KExcLine
import PySem.Challenge.RW_triesgrow_k30_rooms_as_texts
set_option Elab.async false
set_option linter.all false
set_option maxRecDepth 100000
set_option maxHeartbeats 2000000
/-! TL1: data under a heap that grows, the slots of a frame, and what is kept of both. -/
namespace TL
open PySem PySem.Spec L2

/-- all that stands in the one stands in the other -/
def Ex (H H' : Hp) : Prop := ∀ a o, H a = some o → H' a = some o
theorem Ex.refl (H : Hp) : Ex H H := fun _ _ h => h
theorem Ex.trans {H H1 H2 : Hp} (a : Ex H H1) (b : Ex H1 H2) : Ex H H2 := fun x o h => b x o (a x o h)
theorem Ex.new {H : Hp} {p : Addr} {o : HO} (h : H p = none) : Ex H (upd H p o) := fun a u e => by
  rw [upd_ne (ne_of_none e h)]
  exact e
theorem Ex.upd2 {G H : Hp} {p : Addr} {o : HO} (e : Ex G H) : Ex (upd G p o) (upd H p o) := fun a u h => by
  by_cases ha : a = p
  · subst ha
    rw [upd_same] at h ⊢
    exact h
  · rw [upd_ne ha] at h ⊢
    exact e a u h
theorem Ex.none {H H' : Hp} (e : Ex H H') {p : Addr} (h : H' p = Option.none) : H p = Option.none := by
  cases q : H p with
  | none => rfl
  | some o =>
    rw [e p o q] at h
    cases h

/-! ### data -/
/-- an error's object: its class, its dict -/
def errO (e C : Addr) (od : Option Addr) : HO := .ext fun h => ∃ (ox : Obj) (vs : Array Value), h.get? e = some ox ∧ ox.cls = .ref C ∧ ox.dict = od ∧ ox.data = .fields vs
/-- the datum of an error of the class at C with fields of these names, the last told first -/
def errD (C : Addr) (ns : List Str) (ds : List PyData) : PyData := .dict [(.list ds, .tuple (.int (C : Int) :: ns.map PyData.str))]
/-- the datum of a def at f -/
def fnvD (f : Addr) : PyData := .dict [(.list [], .int (f : Int))]
/-- a key as a datum -/
def keyD : Key → PyData
  | .inl i => .int i
  | .inr x => .str x
def isErr : List (PyData × PyData) → Bool
  | (.list _, _) :: _ => true
  | _ => false
mutual
/-- the value v is the datum d, read in the heap G (of a dict only that it is one) -/
inductive Rp (K : PySem.W.Frag) (G : Hp) : V → PyData → Prop
  | non : Rp K G .non .none
  | bl (b : Bool) : Rp K G (.bl b) (.bool b)
  | int (i : Int) : Rp K G (.int i) (.int i)
  | str (x : Str) : Rp K G (.str x) (.str x)
  | lst {a : Addr} {xs : List V} {ds : List PyData} : G a = some (.lst xs) → RpAll K G xs ds → Rp K G (.ref a) (.list ds)
  | tup {a : Addr} {xs : List V} {ds : List PyData} : G a = some (.tup xs) → RpAll K G xs ds → Rp K G (.ref a) (.tuple ds)
  | dic {a : Addr} {o : Obj} {kvs : List (Key × V)} {ds : List (PyData × PyData)} : G a = some (.frz o (.dK kvs)) → RpKv K G kvs ds → isErr ds = false → Rp K G (.ref a) (.dict ds)
  | fn (f : Addr) : Rp K G (.ref f) (fnvD f)
  | err0 {a C : Addr} : G a = some (errO a C none) → Rp K G (.ref a) (errD C [] [])
  | err {a C dd : Addr} {fs : List (Str × V)} {ns : List Str} {vs : List V} {ds : List PyData} : G a = some (errO a C (some dd)) → G dd = some (.xd fs) → fs = ns.zip vs → RpAll K G vs ds → ns.length = ds.length → Rp K G (.ref a) (errD C ns ds)
inductive RpAll (K : PySem.W.Frag) (G : Hp) : List V → List PyData → Prop
  | nil : RpAll K G [] []
  | cons {v : V} {vs : List V} {d : PyData} {ds : List PyData} : Rp K G v d → RpAll K G vs ds → RpAll K G (v :: vs) (d :: ds)
inductive RpKv (K : PySem.W.Frag) (G : Hp) : List (Key × V) → List (PyData × PyData) → Prop
  | nil : RpKv K G [] []
  | cons {k : Key} {v : V} {kvs : List (Key × V)} {d : PyData} {ds : List (PyData × PyData)} : Rp K G v d → RpKv K G kvs ds → RpKv K G ((k, v) :: kvs) ((keyD k, d) :: ds)
end
section
variable {K : PySem.W.Frag} {G G' : Hp}
theorem ex_l {a : Addr} {xs : List V} (e : Ex G G') (h : SqL K G a xs) : SqL K G' a xs := by
  rcases h with (h | ⟨o, h⟩) | h
  · exact .inl (.inl (e _ _ h))
  · exact .inl (.inr ⟨o, e _ _ h⟩)
  · exact .inr h
mutual
theorem Rp.mono (e : Ex G G') : ∀ {d : PyData} {v : V}, Rp K G v d → Rp K G' v d
  | _, _, .non => .non
  | _, _, .bl b => .bl b
  | _, _, .int i => .int i
  | _, _, .str x => .str x
  | _, _, .lst h r => .lst (e _ _ h) (RpAll.mono e r)
  | _, _, .tup h r => .tup (e _ _ h) (RpAll.mono e r)
  | _, _, .dic h r q => .dic (e _ _ h) (RpKv.mono e r) q
  | _, _, .fn f => .fn f
  | _, _, .err0 h => .err0 (e _ _ h)
  | _, _, .err h h2 q r n => .err (e _ _ h) (e _ _ h2) q (RpAll.mono e r) n
theorem RpAll.mono (e : Ex G G') : ∀ {ds : List PyData} {vs : List V}, RpAll K G vs ds → RpAll K G' vs ds
  | _, _, .nil => .nil
  | _, _, .cons h r => .cons (Rp.mono e h) (RpAll.mono e r)
theorem RpKv.mono (e : Ex G G') : ∀ {ds : List (PyData × PyData)} {vs : List (Key × V)}, RpKv K G vs ds → RpKv K G' vs ds
  | _, _, .nil => .nil
  | _, _, .cons h r => .cons (Rp.mono e h) (RpKv.mono e r)
end
theorem RpKv.up {vs : List (Key × V)} {ds : List (PyData × PyData)} (h : RpKv K G vs ds) (e : Ex G G') : RpKv K G' vs ds := RpKv.mono e h
theorem RpKv.len : ∀ {vs : List (Key × V)} {ds : List (PyData × PyData)}, RpKv K G vs ds → vs.length = ds.length
  | _, _, .nil => rfl
  | _, _, .cons _ r => by rw [List.length_cons, List.length_cons, RpKv.len r]
theorem RpKv.noErr : ∀ {vs : List (Key × V)} {ds : List (PyData × PyData)}, RpKv K G vs ds → isErr ds = false
  | _, _, .nil => rfl
  | _, _, .cons (k := k) _ _ => by cases k <;> rfl
theorem Rp.up {v : V} {d : PyData} (h : Rp K G v d) (e : Ex G G') : Rp K G' v d := Rp.mono e h
theorem RpAll.up {vs : List V} {ds : List PyData} (h : RpAll K G vs ds) (e : Ex G G') : RpAll K G' vs ds := RpAll.mono e h
mutual
theorem Rp.dp : ∀ (d : PyData) (v : V), Rp K G v d → d.canLay0 = true → Dp K G v d
  | .none, _, .non, _ => .non
  | .bool _, _, .bl b, _ => .bl b
  | .int _, _, .int i, _ => .int i
  | .str _, _, .str x, _ => .str x
  | .list ds, _, .lst h r, c => .lst (.inl (.inl h)) (RpAll.dp ds _ r (by simpa [PyData.canLay0] using c))
  | .tuple ds, _, .tup h r, c => .tup (.inl (.inl h)) (RpAll.dp ds _ r (by simpa [PyData.canLay0] using c))
  | .dict ds, _, _, c => by simp [PyData.canLay0] at c
theorem RpAll.dp : ∀ (ds : List PyData) (vs : List V), RpAll K G vs ds → PyData.canLayAll0 ds = true → DpAll K G vs ds
  | [], _, .nil, _ => .nil
  | d :: ds, _, .cons h r, c => by
    have c' : d.canLay0 = true ∧ PyData.canLayAll0 ds = true := by simpa [PyData.canLayAll0] using c
    exact .cons (Rp.dp d _ h c'.1) (RpAll.dp ds _ r c'.2)
end
theorem RpAll.len : ∀ {vs : List V} {ds : List PyData}, RpAll K G vs ds → vs.length = ds.length
  | _, _, .nil => rfl
  | _, _, .cons _ r => by rw [List.length_cons, List.length_cons, RpAll.len r]
theorem RpAll.get : ∀ {vs : List V} {ds : List PyData} {i : Nat} {d : PyData}, RpAll K G vs ds → ds[i]? = some d → ∃ v, vs[i]? = some v ∧ Rp K G v d
  | _, _, _, _, .nil, h => by simp at h
  | _, _, 0, _, .cons h _, e => by
    simp at e
    subst e
    exact ⟨_, rfl, h⟩
  | _, _, i + 1, d, .cons _ r, e => by
    obtain ⟨v, h1, h2⟩ := RpAll.get (i := i) (d := d) r (by simpa using e)
    exact ⟨v, by simpa using h1, h2⟩
theorem RpAll.get' : ∀ {vs : List V} {ds : List PyData} {i : Nat} {v : V}, RpAll K G vs ds → vs[i]? = some v → ∃ d, ds[i]? = some d ∧ Rp K G v d
  | _, _, _, _, .nil, h => by simp at h
  | _, _, 0, _, .cons h _, e => by
    simp at e
    subst e
    exact ⟨_, rfl, h⟩
  | _, _, i + 1, v, .cons _ r, e => by
    obtain ⟨d, h1, h2⟩ := RpAll.get' (i := i) (v := v) r (by simpa using e)
    exact ⟨d, by simpa using h1, h2⟩
theorem RpAll.app : ∀ {vs ws : List V} {ds es : List PyData}, RpAll K G vs ds → RpAll K G ws es → RpAll K G (vs ++ ws) (ds ++ es)
  | _, _, _, _, .nil, s => s
  | _, _, _, _, .cons h r, s => .cons h (RpAll.app r s)
theorem RpAll.one {v : V} {d : PyData} (h : Rp K G v d) : RpAll K G [v] [d] := .cons h .nil
theorem RpAll.set {v : V} {d : PyData} (h : Rp K G v d) : ∀ {vs : List V} {ds : List PyData} (i : Nat), RpAll K G vs ds → RpAll K G (vs.set i v) (ds.set i d)
  | _, _, _, .nil => .nil
  | _, _, 0, .cons _ t => .cons h t
  | _, _, i + 1, .cons q t => .cons q (RpAll.set h i t)
theorem RpAll.take : ∀ {vs : List V} {ds : List PyData} (n : Nat), RpAll K G vs ds → RpAll K G (vs.take n) (ds.take n)
  | _, _, 0, _ => .nil
  | _, _, _ + 1, .nil => .nil
  | _, _, n + 1, .cons r t => .cons r (RpAll.take n t)
theorem RpAll.drop : ∀ {vs : List V} {ds : List PyData} (n : Nat), RpAll K G vs ds → RpAll K G (vs.drop n) (ds.drop n)
  | _, _, 0, r => r
  | _, _, _ + 1, .nil => .nil
  | _, _, n + 1, .cons _ t => RpAll.drop n t
/-- what a datum's value is -/
theorem Rp.int_of {v : V} {i : Int} (h : Rp K G v (.int i)) : v = .int i := by cases h; rfl
theorem Rp.bl_of {v : V} {b : Bool} (h : Rp K G v (.bool b)) : v = .bl b := by cases h; rfl
theorem Rp.str_of {v : V} {x : Str} (h : Rp K G v (.str x)) : v = .str x := by cases h; rfl
theorem Rp.non_of {v : V} (h : Rp K G v .none) : v = .non := by cases h; rfl
theorem Rp.lst_of {v : V} {ds : List PyData} (h : Rp K G v (.list ds)) : ∃ a xs, v = .ref a ∧ G a = some (.lst xs) ∧ RpAll K G xs ds := by
  cases h with
  | lst q r => exact ⟨_, _, rfl, q, r⟩
theorem Rp.tup_of {v : V} {ds : List PyData} (h : Rp K G v (.tuple ds)) : ∃ a xs, v = .ref a ∧ G a = some (.tup xs) ∧ RpAll K G xs ds := by
  cases h with
  | tup q r => exact ⟨_, _, rfl, q, r⟩
end

/-! ### the slots of a frame -/
/-- a thing of one's own, whatever it is: what is true of it in the heaps that stays and that changes, and the addresses that are its own -/
structure Box where
  at_ : PySem.W.Frag → Hp → Hp → V → List Addr → Prop
  up : ∀ {K : PySem.W.Frag} {G G' H H' : Hp} {v : V} {S : List Addr}, at_ K G H v S → Ex G G' → (∀ a ∈ S, H' a = H a) → at_ K G' H' v S
  live : ∀ {K : PySem.W.Frag} {G H : Hp} {v : V} {S : List Addr}, at_ K G H v S → ∀ a ∈ S, H a ≠ none
inductive Sl where
  | no
  | dat (d : PyData)
  | own (t : Option Nat) (ds : List PyData)
  | scr (ds : List PyData)
  | box (b : Box)
/-- what a def was called in: the tags' addresses, how many; what stays, the heap; and the lists that are being made -/
structure Cf where
  τ : Nat → Addr
  n : Nat
  G0 : Hp
  H0 : Hp
  hid : List (Addr × HO)
def SlOk (K : PySem.W.Frag) (c : Cf) (G H : Hp) (v : Option (Option V)) : Sl → Prop
  | .no => True
  | .box _ => True
  | .dat d => ∃ x, v = some (some x) ∧ Rp K G x d
  | .scr ds => ∃ a xs, v = some (some (.ref a)) ∧ SqL K G a xs ∧ RpAll K G xs ds
  | .own t ds => ∃ p xs, v = some (some (.ref p)) ∧ G p = none ∧ H p = some (.lst xs) ∧ RpAll K G xs ds ∧
      (match t with
        | some j => j < c.n ∧ p = c.τ j
        | none => c.H0 p = none ∧ ∀ j, j < c.n → p ≠ c.τ j)
/-- an address that no list slot, no tag, nothing hidden, nothing that stays has -/
structure Free (c : Cf) (G : Hp) (σ : L2.St) (δ : List Sl) (a : Addr) : Prop where
  g : G a = none
  h0 : c.H0 a = none
  tg : ∀ j, j < c.n → a ≠ c.τ j
  hd : ∀ o, (a, o) ∉ c.hid
  ow : ∀ (j : Nat) (t : Option Nat) (ds : List PyData), δ[j]? = some (.own t ds) → σ[j]? ≠ some (some (.ref a))
/-- the boxes' footprints are their own -/
def BoxOk (K : PySem.W.Frag) (c : Cf) (G H : Hp) (σ : L2.St) (δ : List Sl) : Prop := ∃ F : Nat → List Addr,
  (∀ (i : Nat) (b : Box), δ[i]? = some (.box b) → (∃ x, σ[i]? = some (some x) ∧ b.at_ K G H x (F i)) ∧ (∀ a ∈ F i, Free c G σ δ a) ∧ ∀ (j : Nat) (b' : Box), j ≠ i → δ[j]? = some (.box b') → ∀ a ∈ F i, a ∉ F j)
theorem BoxOk.none {K : PySem.W.Frag} {c : Cf} {G H : Hp} {σ : L2.St} {δ : List Sl} (h : ∀ (i : Nat) (b : Box), δ[i]? ≠ some (.box b)) : BoxOk K c G H σ δ := ⟨fun _ => [], fun i b e => absurd e (h i b)⟩
theorem BoxOk.step {K : PySem.W.Frag} {c c' : Cf} {G H G' H' : Hp} {σ σ' : L2.St} {δ δ' : List Sl} (B : BoxOk K c G H σ δ) (e : Ex G G') (hs : ∀ (i : Nat) (b : Box), δ'[i]? = some (.box b) → δ[i]? = some (.box b) ∧ σ'[i]? = σ[i]?)
    (hf : ∀ a, H a ≠ Option.none → Free c G σ δ a → H' a = H a ∧ Free c' G' σ' δ' a) : BoxOk K c' G' H' σ' δ' := by
  obtain ⟨F, h⟩ := B
  refine ⟨F, fun i b q => ?_⟩
  obtain ⟨q1, q2⟩ := hs i b q
  obtain ⟨⟨x, hx, hb⟩, hF, hd⟩ := h i b q1
  refine ⟨⟨x, by rw [q2]; exact hx, b.up hb e fun a ha => (hf a (b.live hb a ha) (hF a ha)).1⟩, fun a ha => (hf a (b.live hb a ha) (hF a ha)).2, fun j b' hj q' => hd j b' hj (hs j b' q').1⟩
theorem BoxOk.like {K : PySem.W.Frag} {c c' : Cf} {G H : Hp} {σ : L2.St} {δ : List Sl} (B : BoxOk K c G H σ δ) (h0 : c'.H0 = c.H0) (hτ : c'.τ = c.τ) (hn : c'.n = c.n) (hh : ∀ x ∈ c'.hid, x ∈ c.hid) : BoxOk K c' G H σ δ :=
  B.step (Ex.refl _) (fun _ _ h => ⟨h, rfl⟩) fun _ _ f => ⟨rfl, f.g, by rw [h0]; exact f.h0, by rw [hn, hτ]; exact f.tg, fun o h => f.hd o (hh _ h), f.ow⟩
def Sl.plain : Sl → Bool
  | .own _ _ => false
  | .box _ => false
  | _ => true
theorem set_box {δ : List Sl} {i j : Nat} {s : Sl} {b : Box} (hp : ∀ b, s ≠ .box b) (h : (δ.set i s)[j]? = some (.box b)) : i ≠ j ∧ δ[j]? = some (.box b) := by
  rw [List.getElem?_set] at h
  by_cases hj : i = j
  · rw [if_pos hj] at h
    split at h
    · exact absurd (Option.some.inj h) (hp b)
    · cases h
  · rw [if_neg hj] at h
    exact ⟨hj, h⟩
theorem set_own {δ : List Sl} {i j : Nat} {s : Sl} {t : Option Nat} {ds : List PyData} (hp : ∀ t ds, s ≠ .own t ds) (h : (δ.set i s)[j]? = some (.own t ds)) : i ≠ j ∧ δ[j]? = some (.own t ds) := by
  rw [List.getElem?_set] at h
  by_cases hj : i = j
  · rw [if_pos hj] at h
    split at h
    · exact absurd (Option.some.inj h) (hp t ds)
    · cases h
  · rw [if_neg hj] at h
    exact ⟨hj, h⟩
theorem BoxOk.setP {K : PySem.W.Frag} {c : Cf} {G H : Hp} {σ : L2.St} {δ : List Sl} (B : BoxOk K c G H σ δ) (i : Nat) (x : Option V) {s : Sl} (hp : s.plain = true) : BoxOk K c G H (σ.set i x) (δ.set i s) := by
  have n1 : ∀ b, s ≠ .box b := fun b e => by rw [e] at hp; cases hp
  have n2 : ∀ t ds, s ≠ .own t ds := fun t ds e => by rw [e] at hp; cases hp
  refine B.step (Ex.refl _) (fun j b h => ?_) fun a _ f => ⟨rfl, f.g, f.h0, f.tg, f.hd, fun j t ds h => ?_⟩
  · obtain ⟨hj, h⟩ := set_box n1 h
    exact ⟨h, List.getElem?_set_ne hj⟩
  · obtain ⟨hj, h⟩ := set_own n2 h
    rw [List.getElem?_set_ne hj]
    exact f.ow j t ds h
structure EnvC (K : PySem.W.Frag) (c : Cf) (G H : Hp) (σ : L2.St) (δ : List Sl) : Prop where
  g0 : Ex c.G0 G
  ex : Ex G H
  fr : ∀ a o, c.H0 a = some o → (∀ j, j < c.n → a ≠ c.τ j) → H a = some o
  fs : ∀ a, c.G0 a = none → c.H0 a ≠ none → G a = none
  tg : ∀ j, j < c.n → H (c.τ j) ≠ none ∧ G (c.τ j) = none
  len : σ.length = δ.length
  sl : ∀ (i : Nat) (s : Sl), δ[i]? = some s → SlOk K c G H (σ[i]?) s
  ap : ∀ (i j : Nat) (t1 : Option Nat) (d1 : List PyData) (t2 : Option Nat) (d2 : List PyData), i ≠ j → δ[i]? = some (.own t1 d1) → δ[j]? = some (.own t2 d2) → σ[i]? ≠ σ[j]?
  hd : ∀ p o, (p, o) ∈ c.hid → H p = some o ∧ G p = none ∧ c.H0 p = none ∧ (∀ j, j < c.n → p ≠ c.τ j) ∧ ∀ (i : Nat) (t : Option Nat) (ds : List PyData), δ[i]? = some (.own t ds) → σ[i]? ≠ some (some (.ref p))
  bx : BoxOk K c G H σ δ
/-- of an error that leaves: its class, its dict, its datum -/
inductive ErrRp (K : PySem.W.Frag) (G : Hp) : Value → Option Addr → PyData → Prop
  | none {C : Addr} : ErrRp K G (.ref C) none (errD C [] [])
  | some {C dd : Addr} {fs : List (Str × V)} {ns : List Str} {vs : List V} {ds : List PyData} : G dd = some (.xd fs) → fs = ns.zip vs → RpAll K G vs ds → ns.length = ds.length → ErrRp K G (.ref C) (some dd) (errD C ns ds)
/-- where errors go: what is wished of them, and the reading of that -/
class XW where
  w : Value → Option Addr → L2.St → Hp → Prop
  xr : PyData → List Sl → Prop
/-- nowhere -/
instance XW0 : XW := ⟨fun _ _ _ _ => False, fun _ _ => False⟩
structure EnvOk [XW] (K : PySem.W.Frag) (c : Cf) (G H : Hp) (σ : L2.St) (δ : List Sl) : Prop extends EnvC K c G H σ δ where
  xw : ∀ (cls : Value) (d : Option Addr) (err : PyData) (G' H' : Hp) (σ' : L2.St) (δ' : List Sl), XW.xr err δ' → EnvC K { c with hid := [] } G' H' σ' δ' → ErrRp K G' cls d err → XW.w cls d σ' H'
theorem EnvC.ok {K : PySem.W.Frag} {c : Cf} {G H : Hp} {σ : L2.St} {δ : List Sl} (E : EnvC K c G H σ δ) : EnvOk K c G H σ δ := ⟨E, fun _ _ _ _ _ _ _ h _ _ => h.elim⟩
variable [XW]
/-- new things were laid -/
structure Al (G H G' H' : Hp) : Prop where
  g : Ex G G'
  h : Ex H H'
  ex : Ex G' H'
  fs : ∀ a, G a = none → H a ≠ none → G' a = none
theorem Al.refl {G H : Hp} (e : Ex G H) : Al G H G H := ⟨Ex.refl _, Ex.refl _, e, fun _ h _ => h⟩
theorem Al.trans {G H G1 H1 G2 H2 : Hp} (a : Al G H G1 H1) (b : Al G1 H1 G2 H2) : Al G H G2 H2 := ⟨a.g.trans b.g, a.h.trans b.h, b.ex, fun x h1 h2 => by
  refine b.fs x (a.fs x h1 h2) ?_
  cases q : H x with
  | none => exact absurd q h2
  | some o =>
    rw [a.h x o q]
    exact fun z => nomatch z⟩
/-- a new thing that stays -/
theorem Al.new {G H : Hp} {p : Addr} {o : HO} (e : Ex G H) (hp : H p = none) : Al G H (upd G p o) (upd H p o) := ⟨Ex.new (e.none hp), Ex.new hp, e.upd2, fun a h1 h2 => by
  have ha : a ≠ p := fun z => h2 (by rw [z]; exact hp)
  rw [upd_ne ha]
  exact h1⟩
/-- a new thing that is to change -/
theorem Al.tmp {G H : Hp} {p : Addr} {o : HO} (e : Ex G H) (hp : H p = none) : Al G H G (upd H p o) := ⟨Ex.refl _, Ex.new hp, e.trans (Ex.new hp), fun a h1 _ => h1⟩
section
variable {K : PySem.W.Frag} {c : Cf} {G H G' H' : Hp} {σ : L2.St} {δ : List Sl}
theorem SlOk.al (A : Al G H G' H') {v : Option (Option V)} {s : Sl} (h : SlOk K c G H v s) : SlOk K c G' H' v s := by
  cases s with
  | no => trivial
  | box b => trivial
  | dat d =>
    obtain ⟨x, e, r⟩ := h
    exact ⟨x, e, r.up A.g⟩
  | scr ds =>
    obtain ⟨a, xs, e, h, r⟩ := h
    exact ⟨a, xs, e, ex_l A.g h, r.up A.g⟩
  | own t ds =>
    obtain ⟨p, xs, e, g, hh, r, q⟩ := h
    exact ⟨p, xs, e, A.fs p g (by rw [hh]; exact fun z => nomatch z), A.h _ _ hh, r.up A.g, q⟩
theorem EnvOk.al (E : EnvOk K c G H σ δ) (A : Al G H G' H') : EnvOk K c G' H' σ δ where
  g0 := E.g0.trans A.g
  xw := E.xw
  ex := A.ex
  fr := fun a o h q => A.h _ _ (E.fr a o h q)
  fs := fun a h1 h2 => by
    by_cases ht : ∃ j, j < c.n ∧ a = c.τ j
    · obtain ⟨j, hj, rfl⟩ := ht
      exact A.fs _ (E.tg j hj).2 (E.tg j hj).1
    · refine A.fs a (E.fs a h1 h2) ?_
      cases q : c.H0 a with
      | none => exact absurd q h2
      | some o =>
        rw [E.fr a o q fun j hj z => ht ⟨j, hj, z⟩]
        exact fun z => nomatch z
  tg := fun j hj => by
    obtain ⟨h1, h2⟩ := E.tg j hj
    refine ⟨fun z => h1 (A.h.none z), A.fs _ h2 h1⟩
  len := E.len
  sl := fun i s h => (E.sl i s h).al A
  ap := E.ap
  hd := fun p xs h => by
    obtain ⟨h1, h2, h3⟩ := E.hd p xs h
    exact ⟨A.h _ _ h1, A.fs p h2 (by rw [h1]; exact fun z => nomatch z), h3⟩
  bx := E.bx.step A.g (fun i b h => ⟨h, rfl⟩) fun a h f => ⟨by
    cases q : H a with
    | none => exact absurd q h
    | some o => exact A.h _ _ q, A.fs a f.g h, f.h0, f.tg, f.hd, f.ow⟩
/-- a slot is given a datum -/
theorem EnvOk.put (E : EnvOk K c G H σ δ) {i : Nat} {v : V} {d : PyData} (r : Rp K G v d) : EnvOk K c G H (σ.set i (some v)) (δ.set i (.dat d)) where
  g0 := E.g0
  xw := E.xw
  ex := E.ex
  fr := E.fr
  fs := E.fs
  tg := E.tg
  len := by rw [List.length_set, List.length_set, E.len]
  sl := fun j s h => by
    rw [List.getElem?_set] at h ⊢
    by_cases hj : i = j
    · rw [if_pos hj] at h ⊢
      by_cases hl : i < δ.length
      · rw [if_pos (by omega)] at h
        rw [if_pos (by rw [E.len]; omega)]
        cases h
        exact ⟨v, rfl, r⟩
      · rw [if_neg (by omega)] at h
        cases h
    · rw [if_neg hj] at h ⊢
      exact E.sl j s h
  ap := fun a b t1 d1 t2 d2 hab h1 h2 => by
    rw [List.getElem?_set] at h1 h2
    by_cases ha : i = a
    · rw [if_pos ha] at h1
      split at h1 <;> cases h1
    · by_cases hb : i = b
      · rw [if_pos hb] at h2
        split at h2 <;> cases h2
      · rw [if_neg ha] at h1
        rw [if_neg hb] at h2
        rw [List.getElem?_set_ne ha, List.getElem?_set_ne hb]
        exact E.ap a b t1 d1 t2 d2 hab h1 h2
  hd := fun p xs h => by
    obtain ⟨h1, h2, h3, h4, h5⟩ := E.hd p xs h
    refine ⟨h1, h2, h3, h4, fun j t ds hj => ?_⟩
    rw [List.getElem?_set] at hj
    by_cases hi : i = j
    · rw [if_pos hi] at hj
      split at hj <;> cases hj
    · rw [if_neg hi] at hj
      rw [List.getElem?_set_ne hi]
      exact h5 j t ds hj
  bx := E.bx.setP i _ rfl
/-- a slot is forgotten -/
theorem EnvOk.drop (E : EnvOk K c G H σ δ) {i : Nat} {v : Option V} : EnvOk K c G H (σ.set i v) (δ.set i .no) where
  g0 := E.g0
  xw := E.xw
  ex := E.ex
  fr := E.fr
  fs := E.fs
  tg := E.tg
  len := by rw [List.length_set, List.length_set, E.len]
  sl := fun j s h => by
    rw [List.getElem?_set] at h ⊢
    by_cases hj : i = j
    · rw [if_pos hj] at h
      split at h
      · cases h
        trivial
      · cases h
    · rw [if_neg hj] at h ⊢
      exact E.sl j s h
  ap := fun a b t1 d1 t2 d2 hab h1 h2 => by
    rw [List.getElem?_set] at h1 h2
    by_cases ha : i = a
    · rw [if_pos ha] at h1
      split at h1 <;> cases h1
    · by_cases hb : i = b
      · rw [if_pos hb] at h2
        split at h2 <;> cases h2
      · rw [if_neg ha] at h1
        rw [if_neg hb] at h2
        rw [List.getElem?_set_ne ha, List.getElem?_set_ne hb]
        exact E.ap a b t1 d1 t2 d2 hab h1 h2
  hd := fun p xs h => by
    obtain ⟨h1, h2, h3, h4, h5⟩ := E.hd p xs h
    refine ⟨h1, h2, h3, h4, fun j t ds hj => ?_⟩
    rw [List.getElem?_set] at hj
    by_cases hi : i = j
    · rw [if_pos hi] at hj
      split at hj <;> cases hj
    · rw [if_neg hi] at hj
      rw [List.getElem?_set_ne hi]
      exact h5 j t ds hj
  bx := E.bx.setP i _ rfl
/-- the list in a slot stays from here on -/
theorem EnvOk.freeze (E : EnvOk K c G H σ δ) {i : Nat} {p : Addr} {ds : List PyData} (hs : δ[i]? = some (.own none ds)) (hp : σ[i]? = some (some (.ref p))) :
    ∃ G', Ex G G' ∧ Rp K G' (.ref p) (.list ds) ∧ EnvOk K c G' H σ (δ.set i (.dat (.list ds))) := by
  obtain ⟨p', xs, e, hg, hh, r, h0, hne⟩ := E.sl i _ hs
  rw [hp] at e
  obtain rfl : p = p' := by
    have e1 := Option.some.inj (Option.some.inj e)
    exact V.ref.inj e1
  have eg : Ex G (upd G p (.lst xs)) := Ex.new hg
  have rp : Rp K (upd G p (.lst xs)) (.ref p) (.list ds) := .lst upd_same (r.up eg)
  refine ⟨upd G p (.lst xs), eg, rp, ?_⟩
  have other : ∀ j s, i ≠ j → δ[j]? = some s → SlOk K c (upd G p (.lst xs)) H (σ[j]?) s := fun j s hj h => by
    have q := E.sl j s h
    cases s with
    | no => trivial
    | dat d =>
      obtain ⟨x, e1, r1⟩ := q
      exact ⟨x, e1, r1.up eg⟩
    | scr es =>
      obtain ⟨a, ys, e1, h1, r1⟩ := q
      exact ⟨a, ys, e1, ex_l eg h1, r1.up eg⟩
    | box b => trivial
    | own t es =>
      obtain ⟨p1, ys, e1, g1, h1, r1, q1⟩ := q
      have ne : p1 ≠ p := fun z => E.ap i j _ _ _ _ hj hs h (by rw [hp, e1, z])
      exact ⟨p1, ys, e1, by rw [upd_ne ne]; exact g1, h1, r1.up eg, q1⟩
  exact {
    g0 := E.g0.trans eg
    xw := E.xw
    ex := fun a o h => by
      by_cases ha : a = p
      · subst ha
        rw [upd_same] at h
        cases h
        exact hh
      · rw [upd_ne ha] at h
        exact E.ex a o h
    fr := E.fr
    fs := fun a h1 h2 => by
      have ha : a ≠ p := fun z => h2 (by rw [z]; exact h0)
      rw [upd_ne ha]
      exact E.fs a h1 h2
    tg := fun j hj => ⟨(E.tg j hj).1, by rw [upd_ne (hne j hj).symm]; exact (E.tg j hj).2⟩
    len := by rw [List.length_set, E.len]
    sl := fun j s h => by
      rw [List.getElem?_set] at h
      by_cases hj : i = j
      · rw [if_pos hj] at h
        split at h
        · cases h
          exact ⟨_, by rw [← hj]; exact hp, rp⟩
        · cases h
      · rw [if_neg hj] at h
        exact other j s hj h
    ap := fun a b t1 d1 t2 d2 hab h1 h2 => by
      rw [List.getElem?_set] at h1 h2
      by_cases ha : i = a
      · rw [if_pos ha] at h1
        split at h1 <;> cases h1
      · by_cases hb : i = b
        · rw [if_pos hb] at h2
          split at h2 <;> cases h2
        · rw [if_neg ha] at h1
          rw [if_neg hb] at h2
          exact E.ap a b t1 d1 t2 d2 hab h1 h2
    hd := fun q ys h => by
      obtain ⟨h1, h2, h3, h4, h5⟩ := E.hd q ys h
      have ne : q ≠ p := fun z => h5 i _ _ hs (by rw [hp, z])
      refine ⟨h1, by rw [upd_ne ne]; exact h2, h3, h4, fun j t es hj => ?_⟩
      rw [List.getElem?_set] at hj
      by_cases hi : i = j
      · rw [if_pos hi] at hj
        split at hj <;> cases hj
      · rw [if_neg hi] at hj
        exact h5 j t es hj
    bx := E.bx.step eg (fun j b h => ⟨(set_box (by intro b z; cases z) h).2, rfl⟩) fun a _ f => ⟨rfl, by rw [upd_ne (fun z => f.ow i _ _ hs (by rw [hp, z]))]; exact f.g, f.h0, f.tg, f.hd, fun j t es h => f.ow j t es (set_own (by intro t d z; cases z) h).2⟩ }
/-- the list in a slot is changed -/
theorem EnvOk.poke (E : EnvOk K c G H σ δ) {i : Nat} {p : Addr} {t : Option Nat} {ds es : List PyData} {ys : List V} (hs : δ[i]? = some (.own t ds)) (hp : σ[i]? = some (some (.ref p))) (r : RpAll K G ys es) :
    EnvOk K c G (upd H p (.lst ys)) σ (δ.set i (.own t es)) := by
  obtain ⟨p', xs, e, hg, hh, _, q⟩ := E.sl i _ hs
  rw [hp] at e
  obtain rfl : p = p' := by
    have e1 := Option.some.inj (Option.some.inj e)
    exact V.ref.inj e1
  exact {
    g0 := E.g0
    xw := E.xw
    ex := fun a o h => by
      rw [upd_ne (ne_of_none h hg)]
      exact E.ex a o h
    fr := fun a o h k => by
      have ha : a ≠ p := by
        cases t with
        | none =>
          intro z
          rw [z, q.1] at h
          cases h
        | some j => exact fun z => k j q.1 (z.trans q.2)
      rw [upd_ne ha]
      exact E.fr a o h k
    fs := E.fs
    tg := fun j hj => by
      refine ⟨?_, (E.tg j hj).2⟩
      by_cases ha : c.τ j = p
      · rw [ha, upd_same]
        exact fun z => nomatch z
      · rw [upd_ne ha]
        exact (E.tg j hj).1
    len := by rw [List.length_set, E.len]
    sl := fun j s h => by
      rw [List.getElem?_set] at h
      by_cases hj : i = j
      · rw [if_pos hj] at h
        split at h
        · cases h
          subst hj
          exact ⟨p, ys, hp, hg, upd_same, r, q⟩
        · cases h
      · rw [if_neg hj] at h
        have z := E.sl j s h
        cases s with
        | no => trivial
        | dat d => exact z
        | scr es => exact z
        | box b => trivial
        | own t' es' =>
          obtain ⟨p1, zs, e1, g1, h1, r1, q1⟩ := z
          have ne : p1 ≠ p := fun z => E.ap i j _ _ _ _ hj hs h (by rw [hp, e1, z])
          exact ⟨p1, zs, e1, g1, by rw [upd_ne ne]; exact h1, r1, q1⟩
    ap := fun a b t1 d1 t2 d2 hab h1 h2 => by
      have f : ∀ (a : Nat) (t1 : Option Nat) (d1 : List PyData), (δ.set i (Sl.own t es))[a]? = some (Sl.own t1 d1) → ∃ (t3 : Option Nat) (d3 : List PyData), δ[a]? = some (Sl.own t3 d3) := fun a t1 d1 h1 => by
        rw [List.getElem?_set] at h1
        by_cases ha : i = a
        · subst ha
          exact ⟨_, _, hs⟩
        · rw [if_neg ha] at h1
          exact ⟨_, _, h1⟩
      obtain ⟨t3, d3, e3⟩ := f a t1 d1 h1
      obtain ⟨t4, d4, e4⟩ := f b t2 d2 h2
      exact E.ap a b t3 d3 t4 d4 hab e3 e4
    hd := fun w zs h => by
      obtain ⟨h1, h2, h3, h4, h5⟩ := E.hd w zs h
      have ne : w ≠ p := fun z => h5 i _ _ hs (by rw [hp, z])
      refine ⟨by rw [upd_ne ne]; exact h1, h2, h3, h4, fun j t' es' hj => ?_⟩
      rw [List.getElem?_set] at hj
      by_cases hi : i = j
      · subst hi
        exact h5 i _ _ hs
      · rw [if_neg hi] at hj
        exact h5 j t' es' hj
    bx := E.bx.step (Ex.refl _) (fun j b h => ⟨(set_box (by intro b z; cases z) h).2, rfl⟩) fun a _ f => ⟨upd_ne (fun z => f.ow i _ _ hs (by rw [hp, z])), f.g, f.h0, f.tg, f.hd, fun j t' es' h => by
      rw [List.getElem?_set] at h
      by_cases hj : i = j
      · subst hj
        exact f.ow i _ _ hs
      · rw [if_neg hj] at h
        exact f.ow j t' es' h⟩ }
/-- a new list in a slot -/
theorem EnvOk.fresh (E : EnvOk K c G H σ δ) {i : Nat} {p : Addr} {ds : List PyData} {xs : List V} (hp : H p = none) (h0 : c.H0 p = none) (r : RpAll K G xs ds) :
    EnvOk K c G (upd H p (.lst xs)) (σ.set i (some (.ref p))) (δ.set i (.own none ds)) := by
  have E1 := E.al (Al.tmp (o := .lst xs) E.ex hp)
  have ht : ∀ j, j < c.n → p ≠ c.τ j := fun j hj z => (E.tg j hj).1 (by rw [← z]; exact hp)
  have old : ∀ (j : Nat) (t : Option Nat) (es : List PyData), δ[j]? = some (Sl.own t es) → σ[j]? ≠ some (some (V.ref p)) := fun j t es h z => by
    obtain ⟨p', ys, e, _, hh, _⟩ := E.sl j _ h
    rw [z] at e
    have e1 := V.ref.inj (Option.some.inj (Option.some.inj e))
    rw [← e1, hp] at hh
    cases hh
  exact {
    g0 := E1.g0
    xw := E1.xw
    ex := E1.ex
    fr := E1.fr
    fs := E1.fs
    tg := E1.tg
    len := by rw [List.length_set, List.length_set, E.len]
    sl := fun j s h => by
      rw [List.getElem?_set] at h ⊢
      by_cases hj : i = j
      · rw [if_pos hj] at h ⊢
        by_cases hl : i < δ.length
        · rw [if_pos (by omega)] at h
          rw [if_pos (by rw [E.len]; omega)]
          cases h
          exact ⟨p, xs, rfl, E.ex.none hp, upd_same, r, h0, ht⟩
        · rw [if_neg (by omega)] at h
          cases h
      · rw [if_neg hj] at h ⊢
        exact E1.sl j s h
    ap := fun a b t1 d1 t2 d2 hab h1 h2 => by
      rw [List.getElem?_set] at h1 h2
      by_cases ha : i = a
      · rw [if_neg (fun z => hab (ha.symm.trans z))] at h2
        rw [List.getElem?_set, if_pos ha]
        split
        · rw [List.getElem?_set_ne (fun z => hab (ha.symm.trans z))]
          exact fun z => old b _ _ h2 z.symm
        · rw [if_pos ha] at h1
          split at h1
          · rename_i u w
            rw [E.len] at u
            exact absurd w u
          · cases h1
      · rw [if_neg ha] at h1
        by_cases hb : i = b
        · rw [List.getElem?_set_ne ha, List.getElem?_set, if_pos hb]
          split
          · exact old a _ _ h1
          · rw [if_pos hb] at h2
            split at h2
            · rename_i u w
              rw [E.len] at u
              exact absurd w u
            · cases h2
        · rw [if_neg hb] at h2
          rw [List.getElem?_set_ne ha, List.getElem?_set_ne hb]
          exact E.ap a b t1 d1 t2 d2 hab h1 h2
    hd := fun w zs h => by
      obtain ⟨h1, h2, h3, h4, h5⟩ := E1.hd w zs h
      have ne : w ≠ p := fun z => by
        have h1' := (E.hd w zs h).1
        rw [z, hp] at h1'
        cases h1'
      refine ⟨h1, h2, h3, h4, fun j t' es' hj => ?_⟩
      rw [List.getElem?_set] at hj ⊢
      by_cases hi : i = j
      · rw [if_pos hi]
        split
        · exact fun z => ne (V.ref.inj (Option.some.inj (Option.some.inj z))).symm
        · exact fun z => nomatch z
      · rw [if_neg hi] at hj ⊢
        exact h5 j t' es' hj
    bx := E.bx.step (Ex.refl _) (fun j b h => by
      obtain ⟨hj, h⟩ := set_box (by intro b z; cases z) h
      exact ⟨h, List.getElem?_set_ne hj⟩) fun a ha f => by
      have ne : a ≠ p := fun z => ha (by rw [z]; exact hp)
      refine ⟨upd_ne ne, f.g, f.h0, f.tg, f.hd, fun j t' es' h => ?_⟩
      rw [List.getElem?_set] at h ⊢
      by_cases hj : i = j
      · rw [if_pos hj]
        split
        · exact fun z => ne (V.ref.inj (Option.some.inj (Option.some.inj z))).symm
        · exact fun z => nomatch z
      · rw [if_neg hj] at h ⊢
        exact f.ow j t' es' h }
/-- a list is being made beside -/
theorem EnvOk.hide (E : EnvOk K c G H σ δ) {p : Addr} {ob : HO} (hp : H p = none) (h0 : c.H0 p = none) : EnvOk K { c with hid := (p, ob) :: c.hid } G (upd H p ob) σ δ := by
  have E1 := E.al (Al.tmp (o := ob) E.ex hp)
  exact {
    g0 := E1.g0
    xw := E1.xw
    ex := E1.ex
    fr := E1.fr
    fs := E1.fs
    tg := E1.tg
    len := E1.len
    sl := fun i s h => by
      have z := E1.sl i s h
      cases s with
      | no => trivial
      | dat d => exact z
      | scr es => exact z
      | box b => trivial
      | own t ds => exact z
    ap := E1.ap
    hd := fun q ys h => by
      rcases List.mem_cons.mp h with e | h
      · cases e
        refine ⟨upd_same, E.ex.none hp, h0, fun j hj z => (E.tg j hj).1 (by rw [← z]; exact hp), fun i t ds hs z => ?_⟩
        obtain ⟨p', zs, e, _, hh, _⟩ := E.sl i _ hs
        rw [z] at e
        rw [← V.ref.inj (Option.some.inj (Option.some.inj e)), hp] at hh
        cases hh
      · exact E1.hd q ys h
    bx := E.bx.step (Ex.refl _) (fun j b h => ⟨h, rfl⟩) fun a ha f => by
      have ne : a ≠ p := fun z => ha (by rw [z]; exact hp)
      refine ⟨upd_ne ne, f.g, f.h0, f.tg, fun o h => ?_, f.ow⟩
      rcases List.mem_cons.mp h with e | h
      · cases e
        exact ne rfl
      · exact f.hd o h }
/-- .. and grows -/
theorem EnvOk.grow {p : Addr} {ob ob' : HO} (E : EnvOk K { c with hid := (p, ob) :: c.hid } G H σ δ) (hn : ∀ zs, (p, zs) ∉ c.hid) : EnvOk K { c with hid := (p, ob') :: c.hid } G (upd H p ob') σ δ := by
  obtain ⟨a1, a2, a3, a4, a5⟩ := E.hd p ob List.mem_cons_self
  exact {
    g0 := E.g0
    xw := E.xw
    ex := fun a o h => by
      rw [upd_ne (ne_of_none h a2)]
      exact E.ex a o h
    fr := fun a o h k => by
      rw [upd_ne (ne_of_none h a3)]
      exact E.fr a o h k
    fs := E.fs
    tg := fun j hj => by
      refine ⟨?_, (E.tg j hj).2⟩
      rw [upd_ne (a4 j hj).symm]
      exact (E.tg j hj).1
    len := E.len
    sl := fun i s h => by
      have z := E.sl i s h
      cases s with
      | no => trivial
      | dat d => exact z
      | scr es => exact z
      | box b => trivial
      | own t ds =>
        obtain ⟨p1, zs, e1, g1, h1, r1, q1⟩ := z
        have ne : p1 ≠ p := fun z => a5 i t ds h (by rw [e1, z])
        exact ⟨p1, zs, e1, g1, by rw [upd_ne ne]; exact h1, r1, q1⟩
    ap := E.ap
    hd := fun q zs h => by
      rcases List.mem_cons.mp h with e | h
      · cases e
        exact ⟨upd_same, a2, a3, a4, a5⟩
      · obtain ⟨h1, h2, h3⟩ := E.hd q zs (List.mem_cons_of_mem _ h)
        have ne : q ≠ p := fun z => hn zs (by rw [← z]; exact h)
        exact ⟨by rw [upd_ne ne]; exact h1, h2, h3⟩
    bx := E.bx.step (Ex.refl _) (fun j b h => ⟨h, rfl⟩) fun a ha f => by
      have ne : a ≠ p := fun z => f.hd ob (by rw [z]; exact List.mem_cons_self)
      refine ⟨upd_ne ne, f.g, f.h0, f.tg, fun o h => ?_, f.ow⟩
      rcases List.mem_cons.mp h with e | h
      · cases e
        exact ne rfl
      · exact f.hd o (List.mem_cons_of_mem _ h) }
/-- .. and is there -/
theorem EnvOk.show {p : Addr} {xs : List V} {ds : List PyData} (E : EnvOk K { c with hid := (p, .lst xs) :: c.hid } G H σ δ) (hn : ∀ zs, (p, zs) ∉ c.hid) (r : RpAll K G xs ds) :
    ∃ G', Ex G G' ∧ Rp K G' (.ref p) (.list ds) ∧ EnvOk K c G' H σ δ := by
  obtain ⟨a1, a2, a3, a4, a5⟩ := E.hd p (.lst xs) List.mem_cons_self
  have eg : Ex G (upd G p (.lst xs)) := Ex.new a2
  refine ⟨upd G p (.lst xs), eg, .lst upd_same (r.up eg), ?_⟩
  exact {
    g0 := E.g0.trans eg
    xw := E.xw
    ex := fun a o h => by
      by_cases ha : a = p
      · subst ha
        rw [upd_same] at h
        cases h
        exact a1
      · rw [upd_ne ha] at h
        exact E.ex a o h
    fr := E.fr
    fs := fun a h1 h2 => by
      have ha : a ≠ p := fun z => h2 (by rw [z]; exact a3)
      rw [upd_ne ha]
      exact E.fs a h1 h2
    tg := fun j hj => ⟨(E.tg j hj).1, by rw [upd_ne (a4 j hj).symm]; exact (E.tg j hj).2⟩
    len := E.len
    sl := fun i s h => by
      have z := E.sl i s h
      cases s with
      | no => trivial
      | dat d =>
        obtain ⟨x, e1, r1⟩ := z
        exact ⟨x, e1, r1.up eg⟩
      | scr es =>
        obtain ⟨a, ys, e1, h1, r1⟩ := z
        exact ⟨a, ys, e1, ex_l eg h1, r1.up eg⟩
      | box b => trivial
      | own t es =>
        obtain ⟨p1, zs, e1, g1, h1, r1, q1⟩ := z
        have ne : p1 ≠ p := fun z => a5 i t es h (by rw [e1, z])
        exact ⟨p1, zs, e1, by rw [upd_ne ne]; exact g1, h1, r1.up eg, q1⟩
    ap := E.ap
    hd := fun q zs h => by
      obtain ⟨h1, h2, h3⟩ := E.hd q zs (List.mem_cons_of_mem _ h)
      have ne : q ≠ p := fun z => hn zs (by rw [← z]; exact h)
      exact ⟨h1, by rw [upd_ne ne]; exact h2, h3⟩
    bx := E.bx.step eg (fun j b h => ⟨h, rfl⟩) fun a ha f => by
      have ne : a ≠ p := fun z => f.hd _ (by rw [z]; exact List.mem_cons_self)
      exact ⟨rfl, by rw [upd_ne ne]; exact f.g, f.h0, f.tg, fun o h => f.hd o (List.mem_cons_of_mem _ h), f.ow⟩ }
/-- .. and is forgotten -/
theorem EnvOk.unhide {p : Addr} {ob : HO} (E : EnvOk K { c with hid := (p, ob) :: c.hid } G H σ δ) : EnvOk K c G H σ δ where
  g0 := E.g0
  xw := E.xw
  ex := E.ex
  fr := E.fr
  fs := E.fs
  tg := E.tg
  len := E.len
  sl := fun i s h => by
    have z := E.sl i s h
    cases s with
    | no => trivial
    | dat d => exact z
    | scr es => exact z
    | box b => trivial
    | own t ds => exact z
  ap := E.ap
  hd := fun q zs h => E.hd q zs (List.mem_cons_of_mem _ h)
  bx := E.bx.step (Ex.refl _) (fun j b h => ⟨h, rfl⟩) fun a ha f => ⟨rfl, f.g, f.h0, f.tg, fun o h => f.hd o (List.mem_cons_of_mem _ h), f.ow⟩
end
end TL

set_option Elab.async false
set_option linter.all false
set_option maxRecDepth 100000
set_option maxHeartbeats 2000000
/-! TL2: expressions by data. -/
namespace TL
open PySem PySem.Spec L2
variable [XW]

abbrev DQ := PyData → List Sl → Prop
abbrev DTE := List Sl → DQ → Prop
abbrev DTT := List Sl → (Bool → List Sl → Prop) → Prop
abbrev DTA := List Sl → (List PyData → List Sl → Prop) → Prop
abbrev DTO := List Sl → (Option Int → List Sl → Prop) → Prop
abbrev R2D := PyData → PyData → (PyData → Prop) → Prop
abbrev R1D := PyData → (PyData → Prop) → Prop

def RE (K : PySem.W.Frag) (t : TE) (u : DTE) : Prop := ∀ (c : Cf) (σ : L2.St) (G H : Hp) (δ : List Sl) (Q : VK) (R : DQ), EnvOk K c G H σ δ → u δ R →
  (∀ d δ' v G' H', R d δ' → EnvOk K c G' H' σ δ' → Ex G G' → Rp K G' v d → Q v H') → t σ H Q
def RT (K : PySem.W.Frag) (t : TT) (u : DTT) : Prop := ∀ (c : Cf) (σ : L2.St) (G H : Hp) (δ : List Sl) (Q : Bool → Hp → Prop) (R : Bool → List Sl → Prop), EnvOk K c G H σ δ → u δ R →
  (∀ b δ' G' H', R b δ' → EnvOk K c G' H' σ δ' → Ex G G' → Q b H') → t σ H Q
def RA (K : PySem.W.Frag) (t : TA) (u : DTA) : Prop := ∀ (c : Cf) (σ : L2.St) (G H : Hp) (δ : List Sl) (Q : List V → Hp → Prop) (R : List PyData → List Sl → Prop), EnvOk K c G H σ δ → u δ R →
  (∀ ds δ' vs G' H', R ds δ' → EnvOk K c G' H' σ δ' → Ex G G' → RpAll K G' vs ds → Q vs H') → t σ H Q
def ROp (K : PySem.W.Frag) (t : TO) (u : DTO) : Prop := ∀ (c : Cf) (σ : L2.St) (G H : Hp) (δ : List Sl) (Q : Option Int → Hp → Prop) (R : Option Int → List Sl → Prop), EnvOk K c G H σ δ → u δ R →
  (∀ o δ' G' H', R o δ' → EnvOk K c G' H' σ δ' → Ex G G' → Q o H') → t σ H Q
structure DE (X : Cx) (e : Expr) (t : TE) (u : DTE) : Prop where
  pe : PE X e t
  re : RE X.K t u
structure DT (X : Cx) (e : Expr) (t : TT) (u : DTT) : Prop where
  pt : PT X e t
  rt : RT X.K t u
structure DW (X : Cx) (e : Expr) (t : TT) (u : DTT) : Prop where
  pw : PW X e t
  rt : RT X.K t u
structure DA (X : Cx) (es : List Expr) (t : TA) (u : DTA) : Prop where
  pa : PA X es t
  ra : RA X.K t u
structure DO (X : Cx) (e : Option Expr) (t : TO) (u : DTO) : Prop where
  po : PO X e t
  ro : ROp X.K t u

/-- an operation by values -/
def RO (K : PySem.W.Frag) (r : R2) (rd : R2D) : Prop := ∀ (G H : Hp) (x y : V) (d1 d2 : PyData) (Q : VK) (R : PyData → Prop), Ex G H → Rp K G x d1 → Rp K G y d2 → rd d1 d2 R →
  (∀ d v G' H', R d → Al G H G' H' → Rp K G' v d → Q v H') → r x y H Q
def R1 (K : PySem.W.Frag) (r : V → Hp → VK → Prop) (rd : R1D) : Prop := ∀ (G H : Hp) (x : V) (d : PyData) (Q : VK) (R : PyData → Prop), Ex G H → Rp K G x d → rd d R →
  (∀ d v G' H', R d → Al G H G' H' → Rp K G' v d → Q v H') → r x H Q

/-! ### readings -/
def dVar (i : Nat) : DTE := fun δ R => match δ[i]? with
  | some (.dat d) => R d δ
  | some (.own none ds) => R (.list ds) (δ.set i (.dat (.list ds)))
  | _ => False
def dC (d : PyData) : DTE := fun δ R => R d δ
def dOp (rd : R2D) (ua ub : DTE) : DTE := fun δ R => ua δ fun d1 δ1 => ub δ1 fun d2 δ2 => rd d1 d2 fun d => R d δ2
def dUn (rd : R1D) (ua : DTE) : DTE := fun δ R => ua δ fun d1 δ1 => rd d1 fun d => R d δ1
def dTest (u : DTE) : DTT := fun δ R => u δ fun d δ' => match d with
  | .bool b => R b δ'
  | _ => False
def dAnd (t u : DTT) : DTT := fun δ R => t δ fun b δ1 => if b = true then u δ1 R else R false δ1
def dOr (t u : DTT) : DTT := fun δ R => t δ fun b δ1 => if b = true then R true δ1 else u δ1 R
def dNot (t : DTT) : DTT := fun δ R => t δ fun b δ1 => R (!b) δ1
def dAndV (ua ub : DTE) : DTE := fun δ R => ua δ fun d δ1 => match d with
  | .bool b => if b = true then ub δ1 R else R (.bool false) δ1
  | _ => False
def dOrV (ua ub : DTE) : DTE := fun δ R => ua δ fun d δ1 => match d with
  | .bool b => if b = true then R (.bool true) δ1 else ub δ1 R
  | _ => False
def dNotV (ua : DTE) : DTE := fun δ R => ua δ fun d δ1 => match d with
  | .bool b => R (.bool (!b)) δ1
  | _ => False
def dIf (t : DTT) (ua ub : DTE) : DTE := fun δ R => t δ fun b δ1 => if b = true then ua δ1 R else ub δ1 R
def dNil : DTA := fun δ R => R [] δ
def dCons (u : DTE) (ur : DTA) : DTA := fun δ R => u δ fun d δ1 => ur δ1 fun ds δ2 => R (d :: ds) δ2
def dTup (u : DTA) : DTE := fun δ R => u δ fun ds δ1 => ds.length ≤ sizeLine ∧ R (.tuple ds) δ1
def dLst (u : DTA) : DTE := fun δ R => u δ fun ds δ1 => ds.length ≤ sizeLine ∧ R (.list ds) δ1
def dNoPart : DTO := fun δ R => R none δ
def dPart (u : DTE) : DTO := fun δ R => u δ fun d δ1 => match d with
  | .int i => R (some i) δ1
  | _ => False

section
variable {K : PySem.W.Frag} {ta tb : TE} {ua ub : DTE} {t t' : TT} {u u' : DTT} {r : R2} {rd : R2D}
theorem re_var {i : Nat} : RE K (tVar i) (dVar i) := by
  intro c σ G H δ Q R E h k
  have h : (match δ[i]? with
    | some (.dat d) => R d δ
    | some (.own none ds) => R (.list ds) (δ.set i (.dat (.list ds)))
    | _ => False) := h
  cases hs : δ[i]? with
  | none =>
    rw [hs] at h
    exact h.elim
  | some s =>
    rw [hs] at h
    have z := E.sl i s hs
    cases s with
    | no => exact h.elim
    | box b => exact h.elim
    | scr ds => exact h.elim
    | dat d =>
      obtain ⟨x, e, r⟩ := z
      exact ⟨x, e, k d δ x G H h E (Ex.refl _) r⟩
    | own t ds =>
      cases t with
      | some j => exact h.elim
      | none =>
        obtain ⟨p, xs, e, _⟩ := z
        obtain ⟨G', eg, rp, E'⟩ := E.freeze hs e
        exact ⟨.ref p, e, k _ _ _ G' H h E' eg rp⟩
theorem re_c {v : V} {d : PyData} (h : ∀ G, Rp K G v d) : RE K (tC v) (dC d) := fun c σ G H δ Q R E hu k => k d δ v G H hu E (Ex.refl _) (h G)
theorem re_op (ha : RE K ta ua) (hb : RE K tb ub) (hr : RO K r rd) : RE K (tOp r ta tb) (dOp rd ua ub) := by
  intro c σ G H δ Q R E h k
  refine ha c σ G H δ _ _ E h fun d1 δ1 v1 G1 H1 h1 E1 e1 r1 => ?_
  refine hb c σ G1 H1 δ1 _ _ E1 h1 fun d2 δ2 v2 G2 H2 h2 E2 e2 r2 => ?_
  refine hr G2 H2 v1 v2 d1 d2 _ _ E2.ex (r1.up e2) r2 h2 fun d v G3 H3 h3 A r3 => ?_
  exact k d δ2 v G3 H3 h3 (E2.al A) ((e1.trans e2).trans A.g) r3
theorem re_un {r : V → Hp → VK → Prop} {rd : R1D} (ha : RE K ta ua) (hr : R1 K r rd) : RE K (tUn r ta) (dUn rd ua) := by
  intro c σ G H δ Q R E h k
  refine ha c σ G H δ _ _ E h fun d1 δ1 v1 G1 H1 h1 E1 e1 r1 => ?_
  refine hr G1 H1 v1 d1 _ _ E1.ex r1 h1 fun d v G3 H3 h3 A r3 => ?_
  exact k d δ1 v G3 H3 h3 (E1.al A) (e1.trans A.g) r3
theorem rt_test (ha : RE K ta ua) : RT K (tTest ta) (dTest ua) := by
  intro c σ G H δ Q R E h k
  refine ha c σ G H δ _ _ E h fun d δ1 v G1 H1 h1 E1 e1 r1 => ?_
  cases d with
  | bool b => exact ⟨b, r1.bl_of, k b δ1 G1 H1 h1 E1 e1⟩
  | _ => exact False.elim h1
theorem rt_and (h1 : RT K t u) (h2 : RT K t' u') : RT K (tAnd t t') (dAnd u u') := by
  intro c σ G H δ Q R E h k
  refine h1 c σ G H δ _ _ E h fun b δ1 G1 H1 q E1 e1 => ?_
  cases b with
  | true => exact h2 c σ G1 H1 δ1 Q R E1 q fun b δ2 G2 H2 q2 E2 e2 => k b δ2 G2 H2 q2 E2 (e1.trans e2)
  | false => exact k false δ1 G1 H1 q E1 e1
theorem rt_or (h1 : RT K t u) (h2 : RT K t' u') : RT K (tOr t t') (dOr u u') := by
  intro c σ G H δ Q R E h k
  refine h1 c σ G H δ _ _ E h fun b δ1 G1 H1 q E1 e1 => ?_
  cases b with
  | false => exact h2 c σ G1 H1 δ1 Q R E1 q fun b δ2 G2 H2 q2 E2 e2 => k b δ2 G2 H2 q2 E2 (e1.trans e2)
  | true => exact k true δ1 G1 H1 q E1 e1
theorem rt_not (h1 : RT K t u) : RT K (tNot t) (dNot u) := by
  intro c σ G H δ Q R E h k
  exact h1 c σ G H δ _ _ E h fun b δ1 G1 H1 q E1 e1 => k (!b) δ1 G1 H1 q E1 e1
theorem re_and (ha : RE K ta ua) (hb : RE K tb ub) : RE K (tAndV ta tb) (dAndV ua ub) := by
  intro c σ G H δ Q R E h k
  refine ha c σ G H δ _ _ E h fun d δ1 v G1 H1 h1 E1 e1 r1 => ?_
  cases d with
  | bool b =>
    refine ⟨b, r1.bl_of, ?_⟩
    cases b with
    | true => exact hb c σ G1 H1 δ1 Q R E1 h1 fun d δ2 v G2 H2 q2 E2 e2 r2 => k d δ2 v G2 H2 q2 E2 (e1.trans e2) r2
    | false => exact k _ δ1 _ G1 H1 h1 E1 e1 (.bl false)
  | _ => exact False.elim h1
theorem re_or (ha : RE K ta ua) (hb : RE K tb ub) : RE K (tOrV ta tb) (dOrV ua ub) := by
  intro c σ G H δ Q R E h k
  refine ha c σ G H δ _ _ E h fun d δ1 v G1 H1 h1 E1 e1 r1 => ?_
  cases d with
  | bool b =>
    refine ⟨b, r1.bl_of, ?_⟩
    cases b with
    | false => exact hb c σ G1 H1 δ1 Q R E1 h1 fun d δ2 v G2 H2 q2 E2 e2 r2 => k d δ2 v G2 H2 q2 E2 (e1.trans e2) r2
    | true => exact k _ δ1 _ G1 H1 h1 E1 e1 (.bl true)
  | _ => exact False.elim h1
theorem re_not (ha : RE K ta ua) : RE K (tNotV ta) (dNotV ua) := by
  intro c σ G H δ Q R E h k
  refine ha c σ G H δ _ _ E h fun d δ1 v G1 H1 h1 E1 e1 r1 => ?_
  cases d with
  | bool b => exact ⟨b, r1.bl_of, k _ δ1 _ G1 H1 h1 E1 e1 (.bl _)⟩
  | _ => exact False.elim h1
theorem re_if (hc : RT K t u) (ha : RE K ta ua) (hb : RE K tb ub) : RE K (tIf t ta tb) (dIf u ua ub) := by
  intro c σ G H δ Q R E h k
  refine hc c σ G H δ _ _ E h fun b δ1 G1 H1 q E1 e1 => ?_
  cases b with
  | true => exact ha c σ G1 H1 δ1 Q R E1 q fun d δ2 v G2 H2 q2 E2 e2 r2 => k d δ2 v G2 H2 q2 E2 (e1.trans e2) r2
  | false => exact hb c σ G1 H1 δ1 Q R E1 q fun d δ2 v G2 H2 q2 E2 e2 r2 => k d δ2 v G2 H2 q2 E2 (e1.trans e2) r2
theorem ra_nil : RA K tNil dNil := fun c σ G H δ Q R E h k => k [] δ [] G H h E (Ex.refl _) .nil
theorem ra_cons {tr : TA} {ur : DTA} (ha : RE K ta ua) (hr : RA K tr ur) : RA K (tCons ta tr) (dCons ua ur) := by
  intro c σ G H δ Q R E h k
  refine ha c σ G H δ _ _ E h fun d δ1 v G1 H1 h1 E1 e1 r1 => ?_
  exact hr c σ G1 H1 δ1 _ _ E1 h1 fun ds δ2 vs G2 H2 h2 E2 e2 r2 => k _ δ2 _ G2 H2 h2 E2 (e1.trans e2) (.cons (r1.up e2) r2)
theorem re_tup {tr : TA} {ur : DTA} (hr : RA K tr ur) : RE K (tTup tr) (dTup ur) := by
  intro c σ G H δ Q R E h k
  refine hr c σ G H δ _ _ E h fun ds δ1 vs G1 H1 h1 E1 e1 r1 => ?_
  refine ⟨by rw [r1.len]; exact h1.1, fun p hp => ?_⟩
  have A := Al.new (o := .tup vs) E1.ex hp
  exact k _ δ1 _ _ _ h1.2 (E1.al A) (e1.trans A.g) (.tup upd_same (r1.up A.g))
theorem re_lst {tr : TA} {ur : DTA} (hr : RA K tr ur) : RE K (tLst tr) (dLst ur) := by
  intro c σ G H δ Q R E h k
  refine hr c σ G H δ _ _ E h fun ds δ1 vs G1 H1 h1 E1 e1 r1 => ?_
  refine ⟨by rw [r1.len]; exact h1.1, fun p hp => ?_⟩
  have A := Al.new (o := .lst vs) E1.ex hp
  exact k _ δ1 _ _ _ h1.2 (E1.al A) (e1.trans A.g) (.lst upd_same (r1.up A.g))
theorem ro_none : ROp K tNoPart dNoPart := fun c σ G H δ Q R E h k => k none δ G H h E (Ex.refl _)
theorem ro_part (ha : RE K ta ua) : ROp K (tPart ta) (dPart ua) := by
  intro c σ G H δ Q R E h k
  refine ha c σ G H δ _ _ E h fun d δ1 v G1 H1 h1 E1 e1 r1 => ?_
  cases d with
  | int i => exact ⟨i, r1.int_of, k (some i) δ1 G1 H1 h1 E1 e1⟩
  | _ => exact False.elim h1

/-! ### operations by data -/
def dI (g : Int → Int → Int) : R2D := fun a b R => match a, b with
  | .int i, .int j => R (.int (g i j))
  | _, _ => False
def dIC (C : Int → Int → Prop) (g : Int → Int → Int) : R2D := fun a b R => match a, b with
  | .int i, .int j => C i j ∧ R (.int (g i j))
  | _, _ => False
def dB (g : Int → Int → Bool) : R2D := fun a b R => match a, b with
  | .int i, .int j => R (.bool (g i j))
  | _, _ => False
def dS (g : Str → Str → Bool) : R2D := fun a b R => match a, b with
  | .str i, .str j => R (.bool (g i j))
  | _, _ => False
def dCat : R2D := fun a b R => match a, b with
  | .list x, .list y => x.length + y.length ≤ sizeLine ∧ R (.list (x ++ y))
  | _, _ => False
def dAddS : R2D := fun a b R => match a, b with
  | .str x, .str y => x.length + y.length ≤ sizeLine ∧ R (.str (x ++ y))
  | _, _ => False
def dMulS : R2D := fun a b R => match a, b with
  | .str x, .int i => (-(2 ^ 63 : Int) ≤ i ∧ i ≤ 20000 ∧ x.length ≤ 800) ∧ R (.str (Txt.mul x i))
  | _, _ => False
def dEq : R2D := fun a b R => SeqAt.shaped a = true ∧ SeqAt.shaped b = true ∧ R (.bool (PyData.eqv a b))
def dNe : R2D := fun a b R => SeqAt.shaped a = true ∧ SeqAt.shaped b = true ∧ R (.bool (!PyData.eqv a b))
def dIn : R2D := fun a b R => match b with
  | .list ds => SeqAt.shaped a = true ∧ SeqAt.shaped (.list ds) = true ∧ R (.bool (ds.any fun z => PyData.eqv z a))
  | _ => False
def dNotIn : R2D := fun a b R => match b with
  | .list ds => SeqAt.shaped a = true ∧ SeqAt.shaped (.list ds) = true ∧ R (.bool (!ds.any fun z => PyData.eqv z a))
  | _ => False
def dIxL : R2D := fun a b R => match a, b with
  | .list ds, .int i => (match atI ds i with
    | some d => R d
    | none => False)
  | _, _ => False
def dIxT : R2D := fun a b R => match a, b with
  | .tuple ds, .int i => (match atI ds i with
    | some d => R d
    | none => False)
  | _, _ => False
def dIxS : R2D := fun a b R => match a, b with
  | .str z, .int i => z.length ≤ sizeLine ∧ (match atI z.cps.toList i with
    | some c => R (.str ⟨#[c]⟩)
    | none => False)
  | _, _ => False
theorem ro_I {g : Int → Int → Int} : RO K (rI0 fun i j => .int (g i j)) (dI g) := by
  intro G H x y d1 d2 Q R e r1 r2 h k
  cases d1 <;> cases d2 <;> first
    | exact False.elim h
    | exact ⟨_, _, r1.int_of, r2.int_of, k _ _ G H h (Al.refl e) (.int _)⟩
theorem ro_IC {C : Int → Int → Prop} {g : Int → Int → Int} : RO K (rI C fun i j => .int (g i j)) (dIC C g) := by
  intro G H x y d1 d2 Q R e r1 r2 h k
  cases d1 <;> cases d2 <;> first
    | exact False.elim h
    | exact ⟨_, _, r1.int_of, r2.int_of, h.1, k _ _ G H h.2 (Al.refl e) (.int _)⟩
theorem ro_B {g : Int → Int → Bool} : RO K (rI0 fun i j => .bl (g i j)) (dB g) := by
  intro G H x y d1 d2 Q R e r1 r2 h k
  cases d1 <;> cases d2 <;> first
    | exact False.elim h
    | exact ⟨_, _, r1.int_of, r2.int_of, k _ _ G H h (Al.refl e) (.bl _)⟩
theorem ro_S {g : Str → Str → Bool} : RO K (fun x y H Q => ∃ i j, x = .str i ∧ y = .str j ∧ Q (.bl (g i j)) H) (dS g) := by
  intro G H x y d1 d2 Q R e r1 r2 h k
  cases d1 <;> cases d2 <;> first
    | exact False.elim h
    | exact ⟨_, _, r1.str_of, r2.str_of, k _ _ G H h (Al.refl e) (.bl _)⟩
theorem ro_cat : RO K rCat dCat := by
  intro G H x y d1 d2 Q R e r1 r2 h k
  cases d1 <;> cases d2 <;> first
    | exact False.elim h
    | skip
  obtain ⟨a, xs, rfl, h1, q1⟩ := r1.lst_of
  obtain ⟨b, ys, rfl, h2, q2⟩ := r2.lst_of
  refine ⟨a, b, xs, ys, rfl, rfl, e _ _ h1, e _ _ h2, by rw [q1.len, q2.len]; exact h.1, fun p hp => ?_⟩
  have A := Al.new (o := .lst (xs ++ ys)) e hp
  exact k _ _ _ _ h.2 A (.lst upd_same ((q1.app q2).up A.g))
theorem ro_addS : RO K (fun x y H Q => ∃ i j, x = .str i ∧ y = .str j ∧ i.length + j.length ≤ sizeLine ∧ Q (.str (i ++ j)) H) dAddS := by
  intro G H x y d1 d2 Q R e r1 r2 h k
  cases d1 <;> cases d2 <;> first
    | exact False.elim h
    | exact ⟨_, _, r1.str_of, r2.str_of, h.1, k _ _ G H h.2 (Al.refl e) (.str _)⟩
def rMulS : R2 := fun x y H Q => ∃ z i, x = .str z ∧ y = .int i ∧ (-(2 ^ 63 : Int) ≤ i ∧ i ≤ 20000 ∧ z.length ≤ 800) ∧ Q (.str (Txt.mul z i)) H
theorem ro_mulS : RO K rMulS dMulS := by
  intro G H x y d1 d2 Q R e r1 r2 h k
  cases d1 <;> cases d2 <;> first
    | exact False.elim h
    | exact ⟨_, _, r1.str_of, r2.int_of, h.1, k _ _ G H h.2 (Al.refl e) (.str _)⟩
theorem ro_eq : RO K (rEqD K) dEq := by
  intro G H x y d1 d2 Q R e r1 r2 h k
  exact ⟨d1, d2, (r1.up e).dp _ _ (SeqAt.canLay_of_shaped h.1), (r2.up e).dp _ _ (SeqAt.canLay_of_shaped h.2.1), h.1, h.2.1, k _ _ G H h.2.2 (Al.refl e) (.bl _)⟩
theorem ro_ne : RO K (rNeD K) dNe := by
  intro G H x y d1 d2 Q R e r1 r2 h k
  exact ⟨d1, d2, (r1.up e).dp _ _ (SeqAt.canLay_of_shaped h.1), (r2.up e).dp _ _ (SeqAt.canLay_of_shaped h.2.1), h.1, h.2.1, k _ _ G H h.2.2 (Al.refl e) (.bl _)⟩
theorem ro_in : RO K (rInD K) dIn := by
  intro G H x y d1 d2 Q R e r1 r2 h k
  cases d2 <;> first
    | exact False.elim h
    | exact ⟨d1, _, (r1.up e).dp _ _ (SeqAt.canLay_of_shaped h.1), (r2.up e).dp _ _ (SeqAt.canLay_of_shaped h.2.1), h.1, h.2.1, k _ _ G H h.2.2 (Al.refl e) (.bl _)⟩
theorem ro_notIn : RO K (rNotInD K) dNotIn := by
  intro G H x y d1 d2 Q R e r1 r2 h k
  cases d2 <;> first
    | exact False.elim h
    | exact ⟨d1, _, (r1.up e).dp _ _ (SeqAt.canLay_of_shaped h.1), (r2.up e).dp _ _ (SeqAt.canLay_of_shaped h.2.1), h.1, h.2.1, k _ _ G H h.2.2 (Al.refl e) (.bl _)⟩
theorem at_rp {G : Hp} {xs : List V} {ds : List PyData} (r : RpAll K G xs ds) {i : Int} {d : PyData} (h : atI ds i = some d) : ∃ v, atI xs i = some v ∧ Rp K G v d := by
  unfold atI at h ⊢
  rw [r.len]
  cases q : ixN ds.length i with
  | none =>
    rw [q] at h
    cases h
  | some j =>
    rw [q] at h
    exact r.get h
theorem ro_ixL : RO K (rIxL K) dIxL := by
  intro G H x y d1 d2 Q R e r1 r2 h k
  cases d1 <;> cases d2 <;> first
    | exact False.elim h
    | skip
  rename_i ds i
  obtain ⟨a, xs, rfl, h1, q1⟩ := r1.lst_of
  have h : (match atI ds i with
    | some d => R d
    | none => False) := h
  cases q : atI ds i with
  | none =>
    rw [q] at h
    exact h.elim
  | some d =>
    rw [q] at h
    obtain ⟨v, hv, rv⟩ := at_rp q1 q
    exact ⟨a, xs, i, v, rfl, r2.int_of, .inl (.inl (e _ _ h1)), hv, k d v G H h (Al.refl e) rv⟩
theorem ro_ixT : RO K (rIxT K) dIxT := by
  intro G H x y d1 d2 Q R e r1 r2 h k
  cases d1 <;> cases d2 <;> first
    | exact False.elim h
    | skip
  rename_i ds i
  obtain ⟨a, xs, rfl, h1, q1⟩ := r1.tup_of
  have h : (match atI ds i with
    | some d => R d
    | none => False) := h
  cases q : atI ds i with
  | none =>
    rw [q] at h
    exact h.elim
  | some d =>
    rw [q] at h
    obtain ⟨v, hv, rv⟩ := at_rp q1 q
    exact ⟨a, xs, i, v, rfl, r2.int_of, .inl (.inl (e _ _ h1)), hv, k d v G H h (Al.refl e) rv⟩
theorem ro_ixS : RO K rIxS dIxS := by
  intro G H x y d1 d2 Q R e r1 r2 h k
  cases d1 <;> cases d2 <;> first
    | exact False.elim h
    | skip
  rename_i z i
  obtain ⟨hz, h⟩ := h
  have h : (match atI z.cps.toList i with
    | some c => R (.str ⟨#[c]⟩)
    | none => False) := h
  cases q : atI z.cps.toList i with
  | none =>
    rw [q] at h
    exact h.elim
  | some c =>
    rw [q] at h
    exact ⟨z, i, c, r1.str_of, r2.int_of, hz, q, k _ _ G H h (Al.refl e) (.str _)⟩

/-! ### slices -/
abbrev R3D := PyData → Option Int → Option Int → (PyData → Prop) → Prop
def RSl (K : PySem.W.Frag) (r : V → Option Int → Option Int → Hp → VK → Prop) (rd : R3D) : Prop := ∀ (G H : Hp) (x : V) (d : PyData) (lo hi : Option Int) (Q : VK) (R : PyData → Prop), Ex G H → Rp K G x d → rd d lo hi R →
  (∀ d v G' H', R d → Al G H G' H' → Rp K G' v d → Q v H') → r x lo hi H Q
def dSl (rd : R3D) (u : DTE) (ul uh : DTO) : DTE := fun δ R => u δ fun d δ1 => ul δ1 fun lo δ2 => uh δ2 fun hi δ3 => rd d lo hi fun d' => R d' δ3
theorem re_sl {r : V → Option Int → Option Int → Hp → VK → Prop} {rd : R3D} {tl th : TO} {ul uh : DTO} (ha : RE K ta ua) (hl : ROp K tl ul) (hh : ROp K th uh) (hr : RSl K r rd) : RE K (tSl r ta tl th) (dSl rd ua ul uh) := by
  intro c σ G H δ Q R E h k
  refine ha c σ G H δ _ _ E h fun d1 δ1 v1 G1 H1 h1 E1 e1 r1 => ?_
  refine hl c σ G1 H1 δ1 _ _ E1 h1 fun lo δ2 G2 H2 h2 E2 e2 => ?_
  refine hh c σ G2 H2 δ2 _ _ E2 h2 fun hi δ3 G3 H3 h3 E3 e3 => ?_
  refine hr G3 H3 v1 d1 lo hi _ _ E3.ex ((r1.up e2).up e3) h3 fun d v G4 H4 h4 A r4 => ?_
  exact k d δ3 v G4 H4 h4 (E3.al A) (((e1.trans e2).trans e3).trans A.g) r4
def cutP (ds : List PyData) (lo hi : Option Int) : List PyData := (ds.drop (HT.sIx ds.length 0 lo)).take (HT.sIx ds.length ds.length hi - HT.sIx ds.length 0 lo)
theorem cut_rp {G : Hp} {xs : List V} {ds : List PyData} (r : RpAll K G xs ds) (lo hi : Option Int) : RpAll K G (cutV xs lo hi) (cutP ds lo hi) := by
  unfold cutV cutP
  rw [r.len]
  exact (r.drop _).take _
def dSlL : R3D := fun d lo hi R => match d with
  | .list ds => R (.list (cutP ds lo hi))
  | _ => False
def dSlS : R3D := fun d lo hi R => match d with
  | .str z => z.length ≤ sizeLine ∧ R (.str (cutS z lo hi))
  | _ => False
def dSlT : R3D := fun d lo hi R => match d with
  | .tuple ds => ¬ (HT.sIx ds.length 0 lo = 0 ∧ HT.sIx ds.length ds.length hi = ds.length) ∧ R (.tuple (cutP ds lo hi))
  | _ => False
theorem rsl_list : RSl K (rSlL K) dSlL := by
  intro G H x d lo hi Q R e r h k
  cases d <;> first
    | exact False.elim h
    | skip
  obtain ⟨a, xs, rfl, h1, q1⟩ := r.lst_of
  refine ⟨a, xs, rfl, .inl (.inl (e _ _ h1)), fun p hp => ?_⟩
  have A := Al.new (o := .lst (cutV xs lo hi)) e hp
  exact k _ _ _ _ h A (.lst upd_same ((cut_rp q1 lo hi).up A.g))
theorem rsl_tup : RSl K (rSlT K) dSlT := by
  intro G H x d lo hi Q R e r h k
  cases d <;> first
    | exact False.elim h
    | skip
  obtain ⟨a, xs, rfl, h1, q1⟩ := r.tup_of
  refine ⟨a, xs, rfl, .inl (.inl (e _ _ h1)), by rw [q1.len]; exact h.1, fun p hp => ?_⟩
  have A := Al.new (o := .tup (cutV xs lo hi)) e hp
  exact k _ _ _ _ h.2 A (.tup upd_same ((cut_rp q1 lo hi).up A.g))
theorem rsl_str : RSl K rSlS dSlS := by
  intro G H x d lo hi Q R e r h k
  cases d <;> first
    | exact False.elim h
    | exact ⟨_, r.str_of, h.1, k _ _ G H h.2 (Al.refl e) (.str _)⟩
/-- a slice of what was handed in -/
def dSlScr (i : Nat) (ul uh : DTO) : DTE := fun δ R => match δ[i]? with
  | some (.scr ds) => ul δ fun lo δ2 => uh δ2 fun hi δ3 => R (.list (cutP ds lo hi)) δ3
  | _ => False
theorem re_slScr {i : Nat} {tl th : TO} {ul uh : DTO} (hl : ROp K tl ul) (hh : ROp K th uh) : RE K (tSl (rSlL K) (tVar i) tl th) (dSlScr i ul uh) := by
  intro c σ G H δ Q R E h k
  have h : (match δ[i]? with
    | some (.scr ds) => ul δ fun lo δ2 => uh δ2 fun hi δ3 => R (.list (cutP ds lo hi)) δ3
    | _ => False) := h
  cases hs : δ[i]? with
  | none =>
    rw [hs] at h
    exact h.elim
  | some s =>
    rw [hs] at h
    have z := E.sl i s hs
    cases s with
    | no => exact h.elim
    | box b => exact h.elim
    | dat d => exact h.elim
    | own t ds => exact h.elim
    | scr ds =>
      obtain ⟨a, xs, e, sq, r⟩ := z
      refine ⟨.ref a, e, ?_⟩
      refine hl c σ G H δ _ _ E h fun lo δ2 G2 H2 h2 E2 e2 => ?_
      refine hh c σ G2 H2 δ2 _ _ E2 h2 fun hi δ3 G3 H3 h3 E3 e3 => ?_
      refine ⟨a, xs, rfl, ex_l E3.ex (ex_l e3 (ex_l e2 sq)), fun p hp => ?_⟩
      have A := Al.new (o := .lst (cutV xs lo hi)) E3.ex hp
      exact k _ _ _ _ _ h3 (E3.al A) ((e2.trans e3).trans A.g) (.lst upd_same ((cut_rp r lo hi).up ((e2.trans e3).trans A.g)))
end

section
variable {X : Cx} {a b c e : Expr} {es : List Expr} {ta tb tc te : TE} {ua ub uc ue : DTE} {pos p p2 : Pos} {t t' : TT} {u u' : DTT} {tr : TA} {ur : DTA}
theorem de_var (i : Nat) {x : Str} (hN : X.N[i]? = some x := by rfl) (hv : Vis X.env.scope x := by first | exact Or.inl rfl | exact Or.inr (Or.inl rfl) | exact Or.inr (Or.inr rfl)) (hd : (x == ("__debug__" : Str)) = false := by decide)
    (hcd : (x == ("__classdict__" : Str)) = false := by decide) : DE X (.Name x pos) (tVar i) (dVar i) := ⟨pe_var hN hv hd hcd, re_var⟩
theorem de_int {i j} : DE X (.Constant (.int i) j pos) (tC (.int i)) (dC (.int i)) := ⟨pe_int, re_c fun _ => .int i⟩
theorem de_bl {k j} : DE X (.Constant (.bool k) j pos) (tC (.bl k)) (dC (.bool k)) := ⟨pe_bl, re_c fun _ => .bl k⟩
theorem de_non {j} : DE X (.Constant .none j pos) (tC .non) (dC .none) := ⟨pe_non, re_c fun _ => .non⟩
theorem de_str {x j} : DE X (.Constant (.str x) j pos) (tC (.str x)) (dC (.str x)) := ⟨pe_str, re_c fun _ => .str x⟩
/-- a constant of the module -/
theorem de_gint {x : Str} {i : Int} (hg : Gl X x) (h : ∃ tk, X.mg x = some (.int i tk)) (hd : (x == ("__debug__" : Str)) = false := by decide) : DE X (.Name x pos) (tC (.int i)) (dC (.int i)) := by
  obtain ⟨tk, h⟩ := h
  exact ⟨pe_glob hg h ⟨_, rfl⟩ hd, re_c fun _ => .int i⟩
theorem de_op {op : Operator} {r : R2} {rd : R2D} (ho : OpR X (binaryOp op) r) (hr : RO X.K r rd) (ha : DE X a ta ua) (hb : DE X b tb ub) : DE X (.BinOp a op b pos) (tOp r ta tb) (dOp rd ua ub) := ⟨pe_op ho ha.pe hb.pe, re_op ha.re hb.re hr⟩
theorem de_cmp {op : CmpOp} {r : R2} {rd : R2D} (ho : OpR X (compareOp op) r) (hr : RO X.K r rd) (hm : behindInMarks op b = false) (ha : DE X a ta ua) (hb : DE X b tb ub) : DE X (.Compare a [op] [b] pos) (tOp r ta tb) (dOp rd ua ub) := ⟨pe_cmpR ho ha.pe hb.pe hm, re_op ha.re hb.re hr⟩
theorem dt_cmp {op : CmpOp} {r : R2} {rd : R2D} (ho : OpR X (compareOp op) r) (hr : RO X.K r rd) (hm : behindInMarks op b = false) (ha : DE X a ta ua) (hb : DE X b tb ub) : DT X (.Compare a [op] [b] pos) (tTest (tOp r ta tb)) (dTest (dOp rd ua ub)) := ⟨pt_cmpR ho ha.pe hb.pe hm, rt_test (re_op ha.re hb.re hr)⟩
theorem dt_val (h : DE X e te ue) (he : ∀ whole, isTrue e X.env whole = (do let v ← whole; standAt e.pos; holding [v] (truthy v)) := by intro _; rfl) : DT X e (tTest te) (dTest ue) := ⟨pt_val h.pe he, rt_test h.re⟩
theorem dt_not (h : DT X a t u) : DT X (.UnaryOp .Not a pos) (tNot t) (dNot u) := ⟨pt_not h.pt, rt_not h.rt⟩
theorem dw_and1 (h : DT X a t u) : DW X (.BoolOp .And [a] pos) t u := ⟨pw_and1 h.pt, h.rt⟩
theorem dw_or1 (h : DT X a t u) : DW X (.BoolOp .Or [a] pos) t u := ⟨pw_or1 h.pt, h.rt⟩
theorem dw_and {rest : List Expr} (ha : DT X a t u) (hb : DW X (.BoolOp .And (b :: rest) pos) t' u') : DW X (.BoolOp .And (a :: b :: rest) pos) (tAnd t t') (dAnd u u') := ⟨pw_and ha.pt hb.pw, rt_and ha.rt hb.rt⟩
theorem dw_or {rest : List Expr} (ha : DT X a t u) (hb : DW X (.BoolOp .Or (b :: rest) pos) t' u') : DW X (.BoolOp .Or (a :: b :: rest) pos) (tOr t t') (dOr u u') := ⟨pw_or ha.pt hb.pw, rt_or ha.rt hb.rt⟩
theorem dt_w (h : DW X e t u) : DT X e t u := ⟨h.pw.pt, h.rt⟩
theorem de_one {op} (h : DE X a ta ua) : DE X (.BoolOp op [a] pos) ta ua := ⟨pe_one h.pe, h.re⟩
theorem de_and {rest : List Expr} (ha : DE X a ta ua) (hb : DE X (.BoolOp .And (b :: rest) pos) tb ub) : DE X (.BoolOp .And (a :: b :: rest) pos) (tAndV ta tb) (dAndV ua ub) := ⟨pe_and ha.pe hb.pe, re_and ha.re hb.re⟩
theorem de_or {rest : List Expr} (ha : DE X a ta ua) (hb : DE X (.BoolOp .Or (b :: rest) pos) tb ub) : DE X (.BoolOp .Or (a :: b :: rest) pos) (tOrV ta tb) (dOrV ua ub) := ⟨pe_or ha.pe hb.pe, re_or ha.re hb.re⟩
theorem de_not (ha : DE X a ta ua) : DE X (.UnaryOp .Not a pos) (tNotV ta) (dNotV ua) := ⟨pe_not ha.pe, re_not ha.re⟩
theorem de_if (hc : DT X c t u) (ha : DE X a ta ua) (hb : DE X b tb ub) : DE X (.IfExp c a b pos) (tIf t ta tb) (dIf u ua ub) := ⟨pe_ifExp hc.pt ha.pe hb.pe, re_if hc.rt ha.re hb.re⟩
theorem da_nil : DA X [] tNil dNil := ⟨pa_nil, ra_nil⟩
theorem da_cons (ha : DE X e te ue) (hr : DA X es tr ur) (hs : starEach (e :: es) X.env = (false, eval e X.env) :: starEach es X.env := by rfl) : DA X (e :: es) (tCons te tr) (dCons ue ur) := ⟨pa_cons ha.pe hr.pa hs, ra_cons ha.re hr.ra⟩
theorem de_tup {x1} (h : DA X es tr ur) : DE X (.Tuple es x1 pos) (tTup tr) (dTup ur) := ⟨pe_tup h.pa, re_tup h.ra⟩
theorem de_lst (h : DA X es tr ur) : DE X (.List es pos) (tLst tr) (dLst ur) := ⟨pe_lst h.pa, re_lst h.ra⟩
theorem do_none : DO X none tNoPart dNoPart := ⟨po_none, ro_none⟩
theorem do_some (h : DE X e te ue) : DO X (some e) (tPart te) (dPart ue) := ⟨po_some h.pe, ro_part h.re⟩
theorem de_ix {r : R2} {rd : R2D} (hi : IxR X r) (hr : RO X.K r rd) (ha : DE X a ta ua) (hb : DE X b tb ub) (hs : PlainIx b := by exact fun _ _ => rfl) : DE X (.Subscript a b pos) (tOp r ta tb) (dOp rd ua ub) := ⟨pe_ix hi ha.pe hb.pe hs, re_op ha.re hb.re hr⟩
theorem de_sl {r : V → Option Int → Option Int → Hp → VK → Prop} {rd : R3D} {lo hi : Option Expr} {tl th : TO} {ul uh : DTO} (hs : SlR X r) (hr : RSl X.K r rd) (he : DE X e te ue) (hl : DO X lo tl ul) (hh : DO X hi th uh) :
    DE X (.Subscript e (.Slice lo hi none p2) pos) (tSl r te tl th) (dSl rd ue ul uh) := ⟨pe_slice hs he.pe hl.po hh.po, re_sl he.re hl.ro hh.ro hr⟩
theorem de_slScr (i : Nat) {x : Str} {lo hi : Option Expr} {tl th : TO} {ul uh : DTO} (hl : DO X lo tl ul) (hh : DO X hi th uh) (hN : X.N[i]? = some x := by rfl) (hv : Vis X.env.scope x := by first | exact Or.inl rfl | exact Or.inr (Or.inl rfl) | exact Or.inr (Or.inr rfl)) (hd : (x == ("__debug__" : Str)) = false := by decide)
    (hcd : (x == ("__classdict__" : Str)) = false := by decide) :
    DE X (.Subscript (.Name x p) (.Slice lo hi none p2) pos) (tSl (rSlL X.K) (tVar i) tl th) (dSlScr i ul uh) := ⟨pe_slice sl_list (pe_var hN hv hd hcd) hl.po hh.po, re_slScr hl.ro hh.ro⟩
theorem op_mulS : OpR X (binaryOp .Mult) rMulS := by
  intro pins s σ H x y v u Q I rx ry h
  obtain ⟨z, i, rfl, rfl, ⟨h1, h2, h3⟩, q⟩ := h
  obtain ⟨t, rfl⟩ := rx
  obtain ⟨t', rfl⟩ := ry
  exact SB.mul (PyProof.Rows.mulOk_of 800 20000 h3 h2 h1 (by decide) (by decide)) fun t' k => ⟨.str _, H, I.tok k, ⟨t', rfl⟩, q⟩
/-- 'a' <= x <= 'z' and its like -/
def dChain (r r' : R2D) (ua ub uc : DTE) : DTE := fun δ R => ua δ fun d1 δ1 => ub δ1 fun d2 δ2 => r d1 d2 fun d => match d with
  | .bool k => if k = true then uc δ2 fun d3 δ3 => r' d2 d3 fun d' => R d' δ3 else R (.bool false) δ2
  | _ => False
end
end TL

set_option Elab.async false
set_option linter.all false
set_option maxRecDepth 100000
set_option maxHeartbeats 2000000
/-! TL3: statements, loops, comprehensions by data. -/
namespace TL
open PySem PySem.Spec L2
variable [XW]

theorem EnvOk.new0 {K : PySem.W.Frag} {c : Cf} {G H : Hp} {σ : L2.St} {δ : List Sl} (E : EnvOk K c G H σ δ) {p : Addr} (hp : H p = none) : c.H0 p = none := by
  cases q : c.H0 p with
  | none => rfl
  | some o =>
    by_cases ht : ∃ j, j < c.n ∧ p = c.τ j
    · obtain ⟨j, hj, e⟩ := ht
      exact absurd (by rw [← e]; exact hp) (E.tg j hj).1
    · have z := E.fr p o q fun j hj e => ht ⟨j, hj, e⟩
      rw [hp] at z
      cases z

/-! ### what is left of expressions -/
section
variable {K : PySem.W.Frag} {ta tb tc : TE} {ua ub uc : DTE} {r r' : R2} {rd rd' : R2D}
theorem re_chain (ha : RE K ta ua) (hb : RE K tb ub) (hc : RE K tc uc) (hr : RO K r rd) (hr' : RO K r' rd') : RE K (tChain r r' ta tb tc) (dChain rd rd' ua ub uc) := by
  intro c σ G H δ Q R E h k
  refine ha c σ G H δ _ _ E h fun d1 δ1 v1 G1 H1 h1 E1 e1 r1 => ?_
  refine hb c σ G1 H1 δ1 _ _ E1 h1 fun d2 δ2 v2 G2 H2 h2 E2 e2 r2 => ?_
  refine hr G2 H2 v1 v2 d1 d2 _ _ E2.ex (r1.up e2) r2 h2 fun d v G3 H3 h3 A r3 => ?_
  cases d with
  | bool b =>
    refine ⟨b, r3.bl_of, ?_⟩
    cases b with
    | true =>
      refine hc c σ G3 H3 δ2 _ _ (E2.al A) h3 fun d3 δ3 v3 G4 H4 h4 E4 e4 r4 => ?_
      refine hr' G4 H4 v2 v3 d2 d3 _ _ E4.ex ((r2.up A.g).up e4) r4 h4 fun d v G5 H5 h5 A5 r5 => ?_
      exact k d δ3 v G5 H5 h5 (E4.al A5) ((((e1.trans e2).trans A.g).trans e4).trans A5.g) r5
    | false => exact k _ δ2 _ G3 H3 h3 (E2.al A) ((e1.trans e2).trans A.g) (.bl false)
  | _ => exact False.elim h3
/-- a list that stands in a slot, one that is being made too -/
def slL : Option Sl → Option (List PyData)
  | some (.own _ ds) => some ds
  | some (.dat (.list ds)) => some ds
  | _ => none
theorem slL_ok {c : Cf} {G H : Hp} {σ : L2.St} {δ : List Sl} (E : EnvOk K c G H σ δ) {i : Nat} {ds : List PyData} (h : slL δ[i]? = some ds) : ∃ p xs, σ[i]? = some (some (.ref p)) ∧ H p = some (.lst xs) ∧ RpAll K G xs ds := by
  cases hs : δ[i]? with
  | none =>
    rw [hs] at h
    cases h
  | some s =>
    rw [hs] at h
    have z := E.sl i s hs
    cases s with
    | no => cases h
    | box b => cases h
    | scr es => cases h
    | own t es =>
      have e := Option.some.inj h
      subst e
      obtain ⟨p, xs, e, _, hh, r, _⟩ := z
      exact ⟨p, xs, e, hh, r⟩
    | dat x =>
      cases x <;> first
        | cases h
        | skip
      obtain ⟨x, e, rx⟩ := z
      obtain ⟨a, xs, rfl, q1, q2⟩ := rx.lst_of
      exact ⟨a, xs, e, E.ex _ _ q1, q2⟩
/-- an item of a list by its name -/
def dIxV (i : Nat) (ub : DTE) : DTE := fun δ R => (slL δ[i]?).isSome = true ∧ ub δ fun d δ1 => match slL δ1[i]?, d with
  | some ds, .int k => (match atI ds k with
    | some x => R x δ1
    | none => False)
  | _, _ => False
theorem re_ixV {i : Nat} (hb : RE K tb ub) : RE K (tOp (rIxL K) (tVar i) tb) (dIxV i ub) := by
  intro c σ G H δ Q R E h k
  obtain ⟨h0, h⟩ := h
  obtain ⟨ds0, h0⟩ := Option.isSome_iff_exists.mp h0
  obtain ⟨p, xs0, hv, _, _⟩ := slL_ok E h0
  refine ⟨.ref p, hv, ?_⟩
  refine hb c σ G H δ _ _ E h fun d δ1 y G1 H1 h1 E1 e1 r1 => ?_
  cases hs : slL δ1[i]? with
  | none =>
    rw [hs] at h1
    exact False.elim h1
  | some ds =>
    rw [hs] at h1
    cases d <;> first
      | exact False.elim h1
      | skip
    rename_i j
    have h1 : (match atI ds j with
      | some x => R x δ1
      | none => False) := h1
    obtain ⟨p', xs, hv', hh, rr⟩ := slL_ok E1 hs
    rw [hv] at hv'
    have ev := V.ref.inj (Option.some.inj (Option.some.inj hv'))
    subst ev
    cases q : atI ds j with
    | none =>
      rw [q] at h1
      exact h1.elim
    | some w =>
      rw [q] at h1
      obtain ⟨u, hu, ru⟩ := at_rp rr q
      exact ⟨p, xs, j, u, rfl, r1.int_of, .inl (.inl hh), hu, k w δ1 u G1 H1 h1 E1 e1 ru⟩
/-- how long something is -/
def dLen (u : DTE) : DTE := fun δ R => u δ fun d δ1 => match d with
  | .str x => x.length ≤ sizeLine ∧ R (.int (x.length : Int)) δ1
  | .list ds => R (.int (ds.length : Int)) δ1
  | .tuple ds => R (.int (ds.length : Int)) δ1
  | _ => False
def rLen (K : PySem.W.Frag) : List V → Hp → VK → Prop := fun xs H Q => ∃ x n, xs = [x] ∧ LenV K x H n ∧ Q (.int n) H
theorem re_len (ha : RE K ta ua) : RE K (tCB (rLen K) (tCons ta tNil)) (dLen ua) := by
  intro c σ G H δ Q R E h k
  refine ha c σ G H δ _ _ E h fun d δ1 v G1 H1 h1 E1 e1 r1 => ?_
  cases d <;> first
    | exact False.elim h1
    | skip
  · have e := r1.str_of
    subst e
    exact ⟨_, _, rfl, ⟨h1.1, rfl⟩, k _ δ1 _ G1 H1 h1.2 E1 e1 (.int _)⟩
  · obtain ⟨a, xs, rfl, q1, q2⟩ := r1.lst_of
    exact ⟨_, _, rfl, .inl ⟨xs, .inl (.inl (E1.ex _ _ q1)), rfl⟩, by rw [q2.len]; exact k _ δ1 _ G1 H1 h1 E1 e1 (.int _)⟩
  · obtain ⟨a, xs, rfl, q1, q2⟩ := r1.tup_of
    exact ⟨_, _, rfl, .inr ⟨xs, .inl (.inl (E1.ex _ _ q1)), rfl⟩, by rw [q2.len]; exact k _ δ1 _ G1 H1 h1 E1 e1 (.int _)⟩
/-- .. of a list, or of what was handed in, by its name -/
def dLenV (i : Nat) : DTE := fun δ R => match δ[i]? with
  | some (.own _ ds) => R (.int (ds.length : Int)) δ
  | some (.dat (.list ds)) => R (.int (ds.length : Int)) δ
  | some (.scr ds) => R (.int (ds.length : Int)) δ
  | _ => False
theorem re_lenV {i : Nat} : RE K (tCB (rLen K) (tCons (tVar i) tNil)) (dLenV i) := by
  intro c σ G H δ Q R E h k
  have fin : ∀ p xs (ds : List PyData), σ[i]? = some (some (.ref p)) → SqL K H p xs → RpAll K G xs ds → R (.int (ds.length : Int)) δ → tCB (rLen K) (tCons (tVar i) tNil) σ H Q := fun p xs ds e q r hr =>
    ⟨_, e, _, _, rfl, .inl ⟨xs, q, rfl⟩, by rw [r.len]; exact k _ δ _ G H hr E (Ex.refl _) (.int _)⟩
  cases hs : δ[i]? with
  | none =>
    unfold dLenV at h
    rw [hs] at h
    exact False.elim h
  | some s =>
    have z := E.sl i s hs
    unfold dLenV at h
    rw [hs] at h
    cases s with
    | no => exact False.elim h
    | box b => exact False.elim h
    | scr ds =>
      obtain ⟨a, xs, e, q, r⟩ := z
      exact fin a xs ds e (ex_l E.ex q) r h
    | own t ds =>
      obtain ⟨p, xs, e, _, hh, r, _⟩ := z
      exact fin p xs ds e (.inl (.inl hh)) r h
    | dat d =>
      cases d <;> first
        | exact False.elim h
        | skip
      obtain ⟨x, e, rx⟩ := z
      obtain ⟨a, xs, rfl, q1, q2⟩ := rx.lst_of
      exact fin a xs _ e (.inl (.inl (E.ex _ _ q1))) q2 h
/-- isinstance with a built-in type -/
def tyD : PyData → String
  | .none => "NoneType"
  | .bool _ => "bool"
  | .int _ => "int"
  | .str _ => "str"
  | .list _ => "list"
  | .tuple _ => "tuple"
  | .dict ds => if isErr ds = true then "" else "dict"
def dIsi (T : String) (u : DTE) : DTE := fun δ R => u δ fun d δ1 => match kitB (tyD d) T with
  | some b => R (.bool b) δ1
  | none => False
theorem re_isi {T : String} (ha : RE K ta ua) (hT : kitB "" T = none := by decide +kernel) : RE K (tCB (rIsi K) (tCons ta (tCons (tC (.ty T)) tNil))) (dIsi T ua) := by
  intro c σ G H δ Q R E h k
  refine ha c σ G H δ _ _ E h fun d δ1 v G1 H1 h1 E1 e1 r1 => ?_
  have h1 : (match kitB (tyD d) T with
    | some b => R (.bool b) δ1
    | none => False) := h1
  have ty : TyX K H1 v (.type (tyD d)) := by
    cases r1 with
    | non => exact .base .non
    | bl b => exact .base (.bl b)
    | int i => exact .base (.int i)
    | str x => exact .base (.str x)
    | lst q r => exact .base (.lst (E1.ex _ _ q))
    | tup q r => exact .base (.tup (E1.ex _ _ q))
    | dic q r n =>
      rw [show tyD (.dict _) = "dict" from if_neg (by rw [n]; exact Bool.false_ne_true)]
      exact .fDict (E1.ex _ _ q)
    | fn q =>
      have z : (match kitB "" T with
        | some b => R (.bool b) δ1
        | none => False) := h1
      rw [hT] at z
      exact z.elim
    | err0 q =>
      have z : (match kitB "" T with
        | some b => R (.bool b) δ1
        | none => False) := h1
      rw [hT] at z
      exact z.elim
    | err q1 q2 q3 q4 q5 =>
      have z : (match kitB "" T with
        | some b => R (.bool b) δ1
        | none => False) := h1
      rw [hT] at z
      exact z.elim
  cases q : kitB (tyD d) T with
  | none =>
    rw [q] at h1
    exact h1.elim
  | some b =>
    rw [q] at h1
    exact ⟨v, .ty T, _, _, b, rfl, .ty T, ty, kit_ty q, k _ δ1 _ G1 H1 h1 E1 e1 (.bl b)⟩
/-- int(..) -/
def dInt1 (u : DTE) : DTE := fun δ R => u δ fun d δ1 => match d with
  | .int i => R (.int i) δ1
  | .bool b => R (.int (if b then 1 else 0)) δ1
  | _ => False
def rInt1 : List V → Hp → VK → Prop := fun xs H Q => (∃ i, xs = [.int i] ∧ Q (.int i) H) ∨ ∃ k, xs = [.bl k] ∧ Q (.int (if k then 1 else 0)) H
theorem re_int1 (ha : RE K ta ua) : RE K (tCB rInt1 (tCons ta tNil)) (dInt1 ua) := by
  intro c σ G H δ Q R E h k
  refine ha c σ G H δ _ _ E h fun d δ1 v G1 H1 h1 E1 e1 r1 => ?_
  cases d <;> first
    | exact False.elim h1
    | skip
  · have e := r1.bl_of
    subst e
    exact .inr ⟨_, rfl, k _ δ1 _ G1 H1 h1 E1 e1 (.int _)⟩
  · have e := r1.int_of
    subst e
    exact .inl ⟨_, rfl, k _ δ1 _ G1 H1 h1 E1 e1 (.int _)⟩
/-- a.join(list of texts) -/
def strsOf : List PyData → Option (List Str)
  | [] => some []
  | .str x :: r => (strsOf r).map (x :: ·)
  | _ :: _ => none
theorem strs_rp {G : Hp} : ∀ {ds : List PyData} {xs : List V} {ys : List Str}, RpAll K G xs ds → strsOf ds = some ys → xs = ys.map V.str
  | _, _, _, .nil, h => by
    cases h
    rfl
  | d :: ds, _, ys, .cons (v := v) (vs := vs) r rr, h => by
    cases d <;> first
      | (cases h; done)
      | skip
    rename_i x
    have h : (strsOf ds).map (x :: ·) = some ys := h
    cases q : strsOf ds with
    | none =>
      rw [q] at h
      cases h
    | some zs =>
      rw [q] at h
      cases h
      rw [strs_rp rr q, r.str_of]
      rfl
def dJoin (ua ub : DTE) : DTE := fun δ R => ua δ fun d1 δ1 => match d1 with
  | .str a => ub δ1 fun d2 δ2 => (match d2 with
    | .list ds => (match strsOf ds with
      | some ys => (ys.map (·.length)).sum + ys.length * a.length ≤ 16777216 ∧ R (.str (Txt.join a ys)) δ2
      | none => False)
    | _ => False)
  | _ => False
def rJoin (K : PySem.W.Frag) : V → List V → Hp → VK → Prop := fun x xs H Q => ∃ a p, ∃ ys : List Str, x = .str a ∧ xs = [.ref p] ∧ (SqL K H p (ys.map V.str) ∨ SqT K H p (ys.map V.str)) ∧
      (ys.map (·.length)).sum + ys.length * a.length ≤ 16777216 ∧ Q (.str (Txt.join a ys)) H
theorem re_join (ha : RE K ta ua) (hb : RE K tb ub) : RE K (tM1 (rJoin K) ta tb) (dJoin ua ub) := by
  intro c σ G H δ Q R E h k
  refine ha c σ G H δ _ _ E h fun d1 δ1 v1 G1 H1 h1 E1 e1 r1 => ?_
  have sv : ∃ a, d1 = .str a := by
    cases d1 <;> first
      | exact ⟨_, rfl⟩
      | exact False.elim h1
  obtain ⟨a, rfl⟩ := sv
  refine ⟨⟨a, r1.str_of⟩, ?_⟩
  refine hb c σ G1 H1 δ1 _ _ E1 h1 fun d2 δ2 v2 G2 H2 h2 E2 e2 r2 => ?_
  cases d2 <;> first
    | exact False.elim h2
    | skip
  rename_i ds
  have h2 : (match strsOf ds with
    | some ys => (ys.map (·.length)).sum + ys.length * a.length ≤ 16777216 ∧ R (.str (Txt.join a ys)) δ2
    | none => False) := h2
  obtain ⟨p, xs, rfl, q1, q2⟩ := r2.lst_of
  cases q : strsOf ds with
  | none =>
    rw [q] at h2
    exact h2.elim
  | some ys =>
    rw [q] at h2
    exact ⟨a, p, ys, r1.str_of, rfl, .inl (.inl (.inl (by rw [← strs_rp q2 q]; exact E2.ex _ _ q1))), h2.1, k _ δ2 _ G2 H2 h2.2 E2 (e1.trans e2) (.str _)⟩
end
end TL

set_option Elab.async false
set_option linter.all false
set_option maxRecDepth 100000
set_option maxHeartbeats 2000000
/-! TL4: statements, loops, comprehensions by data. -/
namespace TL
open PySem PySem.Spec L2
variable [XW]

structure DEnds where
  nx : List Sl → Prop
  rt : PyData → List Sl → Prop
  bk : List Sl → Prop := fun _ => False
  ct : List Sl → Prop := fun _ => False
  rn : List PyData → List Sl → Prop := fun _ _ => False
abbrev DTS := DEnds → List Sl → Prop
structure EndsOk (K : PySem.W.Frag) (c : Cf) (G : Hp) (E : DEnds) (D : Ends) : Prop where
  nx : ∀ σ' G' H' δ', E.nx δ' → EnvOk K c G' H' σ' δ' → Ex G G' → D.nx σ' H'
  rt : ∀ d δ' v σ' G' H', E.rt d δ' → EnvOk K c G' H' σ' δ' → Ex G G' → Rp K G' v d → D.rt v H'
  bk : ∀ σ' G' H' δ', E.bk δ' → EnvOk K c G' H' σ' δ' → Ex G G' → D.bk σ' H'
  ct : ∀ σ' G' H' δ', E.ct δ' → EnvOk K c G' H' σ' δ' → Ex G G' → D.ct σ' H'
  rn : ∀ ds δ' p xs σ' G' H', E.rn ds δ' → EnvOk K { c with hid := (p, .lst xs) :: c.hid } G' H' σ' δ' → (∀ zs, (p, zs) ∉ c.hid) → Ex G G' → RpAll K G' xs ds → D.rt (.ref p) H'
  h0 : c.hid = []
theorem EndsOk.up {K : PySem.W.Frag} {c : Cf} {G G1 : Hp} {E : DEnds} {D : Ends} (h : EndsOk K c G E D) (e : Ex G G1) : EndsOk K c G1 E D :=
  ⟨fun σ' G' H' δ' a b k => h.nx σ' G' H' δ' a b (e.trans k), fun d δ' v σ' G' H' a b k r => h.rt d δ' v σ' G' H' a b (e.trans k) r, fun σ' G' H' δ' a b k => h.bk σ' G' H' δ' a b (e.trans k), fun σ' G' H' δ' a b k => h.ct σ' G' H' δ' a b (e.trans k), fun ds δ' p xs σ' G' H' a b n k r => h.rn ds δ' p xs σ' G' H' a b n (e.trans k) r, h.h0⟩
def RS (K : PySem.W.Frag) (t : TS) (u : DTS) : Prop := ∀ (c : Cf) (σ : L2.St) (G H : Hp) (δ : List Sl) (D : Ends) (E : DEnds), EnvOk K c G H σ δ → u E δ → EndsOk K c G E D → t D σ H
structure DS (X : Cx) (st : Stmt) (t : TS) (u : DTS) : Prop where
  ps : PS X st t
  rs : RS X.K t u
structure DSs (X : Cx) (st : List Stmt) (t : TS) (u : DTS) : Prop where
  ps : PSs X st t
  rs : RS X.K t u

/-! ### targets -/
abbrev DTG := PyData → List Sl → (List Sl → Prop) → Prop
abbrev DTGs := List PyData → List Sl → (List Sl → Prop) → Prop
/-- js: the slots that are stored to -/
def RG (K : PySem.W.Frag) (g : TG) (u : DTG) (js : List Nat) : Prop := ∀ (c : Cf) (σ : L2.St) (G H : Hp) (δ : List Sl) (v : V) (d : PyData) (Q : L2.St → Hp → Prop) (R : List Sl → Prop), EnvOk K c G H σ δ → Rp K G v d → u d δ R →
  (∀ σ' δ', R δ' → EnvOk K c G H σ' δ' → σ'.length = σ.length → (∀ i, i ∉ js → σ'[i]? = σ[i]?) → Q σ' H) → g v σ H Q
def RGs (K : PySem.W.Frag) (g : TGs) (u : DTGs) (js : List Nat) : Prop := ∀ (c : Cf) (σ : L2.St) (G H : Hp) (δ : List Sl) (vs : List V) (ds : List PyData) (Q : L2.St → Hp → Prop) (R : List Sl → Prop), EnvOk K c G H σ δ → RpAll K G vs ds → u ds δ R →
  (∀ σ' δ', R δ' → EnvOk K c G H σ' δ' → σ'.length = σ.length → (∀ i, i ∉ js → σ'[i]? = σ[i]?) → Q σ' H) → g vs σ H Q
structure DG (X : Cx) (e : Expr) (g : TG) (u : DTG) (js : List Nat) : Prop where
  pg : PG X e g
  rg : RG X.K g u js
structure DGs (X : Cx) (es : List Expr) (g : TGs) (u : DTGs) (js : List Nat) : Prop where
  pg : PGs X es g
  rg : RGs X.K g u js
def dgName (i : Nat) : DTG := fun d δ R => R (δ.set i (.dat d))
def dgNil : DTGs := fun ds δ R => match ds with
  | [] => R δ
  | _ => False
def dgCons (u : DTG) (us : DTGs) : DTGs := fun ds δ R => match ds with
  | d :: r => u d δ fun δ1 => us r δ1 R
  | [] => False
def dgTup (n : Nat) (us : DTGs) : DTG := fun d δ R => match d with
  | .tuple ds => ds.length = n ∧ us ds δ R
  | _ => False
section
variable {K : PySem.W.Frag}
theorem rg_name {i : Nat} : RG K (gName i) (dgName i) [i] := by
  intro c σ G H δ v d Q R E r h k
  refine k _ _ h (E.put r) List.length_set fun j hj => ?_
  rw [List.getElem?_set_ne]
  exact fun z => hj (by rw [z]; exact List.mem_singleton.mpr rfl)
theorem rgs_nil : RGs K gNil dgNil [] := by
  intro c σ G H δ vs ds Q R E r h k
  cases r with
  | nil => exact ⟨rfl, k σ δ h E rfl fun _ _ => rfl⟩
  | cons _ _ => exact False.elim h
theorem rgs_cons {g : TG} {u : DTG} {gs : TGs} {us : DTGs} {js js' : List Nat} (h1 : RG K g u js) (h2 : RGs K gs us js') : RGs K (gCons g gs) (dgCons u us) (js ++ js') := by
  intro c σ G H δ vs ds Q R E r h k
  cases r with
  | nil => exact False.elim h
  | cons r rr =>
    refine ⟨_, _, rfl, ?_⟩
    refine h1 c σ G H δ _ _ _ _ E r h fun σ1 δ1 q1 E1 l1 s1 => ?_
    refine h2 c σ1 G H δ1 _ _ _ _ E1 rr q1 fun σ2 δ2 q2 E2 l2 s2 => ?_
    exact k σ2 δ2 q2 E2 (l2.trans l1) fun i hi => (s2 i fun z => hi (List.mem_append_right _ z)).trans (s1 i fun z => hi (List.mem_append_left _ z))
theorem rg_tup {n : Nat} {gs : TGs} {us : DTGs} {js : List Nat} (h1 : RGs K gs us js) : RG K (gTup K n gs) (dgTup n us) js := by
  intro c σ G H δ v d Q R E r h k
  cases d <;> first
    | exact False.elim h
    | skip
  obtain ⟨a, xs, rfl, q1, q2⟩ := r.tup_of
  exact ⟨a, xs, rfl, .inl (.inl (E.ex _ _ q1)), by rw [q2.len]; exact h.1, h1 c σ G H δ xs _ Q R E q2 h.2 k⟩
end

/-! ### statements -/
def dNext : DTS := fun E δ => E.nx δ
def dSeq (u u' : DTS) : DTS := fun E δ => u { E with nx := u' E } δ
def dBreak : DTS := fun E δ => E.bk δ
def dCont : DTS := fun E δ => E.ct δ
def dDrop (u : DTE) : DTS := fun E δ => u δ fun _ δ1 => E.nx δ1
def dRet (u : DTE) : DTS := fun E δ => u δ E.rt
/-- return [..], a list that the asker may change -/
def dRetNew (u : DTA) : DTS := fun E δ => u δ fun ds δ1 => ds.length ≤ sizeLine ∧ E.rn ds δ1
def dRetN : DTS := fun E δ => E.rt .none δ
def dIfS (t : DTT) (u u' : DTS) : DTS := fun E δ => t δ fun b δ1 => if b = true then u E δ1 else u' E δ1
def dAsg (u : DTE) (g : DTG) : DTS := fun E δ => u δ fun d δ1 => g d δ1 E.nx
/-- name op= e, of iotaD -/
def dAug (f : Int → Int → Int) (i : Nat) (u : DTE) : DTS := fun E δ => match δ[i]? with
  | some (.dat (.int a)) => u δ fun d δ1 => (match d with
    | .int b => E.nx (δ1.set i (.dat (.int (f a b))))
    | _ => False)
  | _ => False
/-- xs[i] = e, xs a name -/
def dSetI (i : Nat) (u ui : DTE) : DTS := fun E δ => u δ fun d δ1 => (slL δ1[i]?).isSome = true ∧ ui δ1 fun di δ2 => match δ2[i]?, di with
  | some (.own t ds), .int k => (match ixN ds.length k with
    | some j => E.nx (δ2.set i (.own t (ds.set j d)))
    | none => False)
  | _, _ => False
/-- xs.append(e), xs a name -/
def dApp (i : Nat) (u : DTE) : DTS := fun E δ => (slL δ[i]?).isSome = true ∧ u δ fun d δ1 => match δ1[i]? with
  | some (.own t ds) => ds.length < sizeLine ∧ E.nx (δ1.set i (.own t (ds ++ [d])))
  | _ => False
/-- xs = [..], a list that is to change -/
def dAsgOwn (i : Nat) (u : DTA) : DTS := fun E δ => u δ fun ds δ1 => ds.length ≤ sizeLine ∧ E.nx (δ1.set i (.own none ds))
section
variable {K : PySem.W.Frag} {te tb : TE} {ue ub : DTE} {t t' : TS} {u u' : DTS} {g : TG} {ug : DTG} {js : List Nat}
theorem rs_next : RS K tNext dNext := fun c σ G H δ D E EV h k => k.nx σ G H δ h EV (Ex.refl _)
theorem rs_break : RS K tBreak dBreak := fun c σ G H δ D E EV h k => k.bk σ G H δ h EV (Ex.refl _)
theorem rs_cont : RS K tCont dCont := fun c σ G H δ D E EV h k => k.ct σ G H δ h EV (Ex.refl _)
theorem rs_seq (h1 : RS K t u) (h2 : RS K t' u') : RS K (tSeq t t') (dSeq u u') := by
  intro c σ G H δ D E EV h k
  refine h1 c σ G H δ { D with nx := t' D } { E with nx := u' E } EV h ⟨fun σ' G' H' δ' a b e => ?_, k.rt, k.bk, k.ct, k.rn, k.h0⟩
  exact h2 c σ' G' H' δ' D E b a (k.up e)
theorem rs_drop (ha : RE K te ue) : RS K (tDrop te) (dDrop ue) := by
  intro c σ G H δ D E EV h k
  exact ha c σ G H δ _ _ EV h fun d δ1 v G1 H1 h1 E1 e1 _ => k.nx σ G1 H1 δ1 h1 E1 e1
theorem rs_ret (ha : RE K te ue) : RS K (tRet te) (dRet ue) := by
  intro c σ G H δ D E EV h k
  exact ha c σ G H δ _ _ EV h fun d δ1 v G1 H1 h1 E1 e1 r => k.rt d δ1 v σ G1 H1 h1 E1 e1 r
theorem rs_retNew {ta : TA} {ua : DTA} (ha : RA K ta ua) : RS K (tRet (tLst ta)) (dRetNew ua) := by
  intro c σ G H δ D E EV h k
  refine ha c σ G H δ _ _ EV h fun ds δ1 vs G1 H1 h1 E1 e1 r => ?_
  refine ⟨by rw [r.len]; exact h1.1, fun p hp => ?_⟩
  refine k.rn ds δ1 p vs σ G1 _ h1.2 (E1.hide hp (E1.new0 hp)) (fun zs z => ?_) e1 r
  have q := (E1.hd p zs z).1
  rw [hp] at q
  cases q
theorem rs_retN : RS K tRetN dRetN := fun c σ G H δ D E EV h k => k.rt .none δ .non σ G H h EV (Ex.refl _) .non
theorem rs_if {tc : TT} {uc : DTT} (hc : RT K tc uc) (h1 : RS K t u) (h2 : RS K t' u') : RS K (tIfS tc t t') (dIfS uc u u') := by
  intro c σ G H δ D E EV h k
  refine hc c σ G H δ _ _ EV h fun b δ1 G1 H1 q E1 e1 => ?_
  cases b with
  | true => exact h1 c σ G1 H1 δ1 D E E1 q (k.up e1)
  | false => exact h2 c σ G1 H1 δ1 D E E1 q (k.up e1)
theorem rs_asg (ha : RE K te ue) (hg : RG K g ug js) : RS K (tAsg te g) (dAsg ue ug) := by
  intro c σ G H δ D E EV h k
  refine ha c σ G H δ _ _ EV h fun d δ1 v G1 H1 h1 E1 e1 r => ?_
  exact hg c σ G1 H1 δ1 v d _ _ E1 r h1 fun σ' δ' q E2 _ _ => k.nx σ' G1 H1 δ' q E2 e1
theorem rs_aug {f : Int → Int → Int} {i : Nat} (ha : RE K te ue) : RS K (tAug i te (ipI f)) (dAug f i ue) := by
  intro c σ G H δ D E EV h k
  unfold dAug at h
  cases hs : δ[i]? with
  | none =>
    rw [hs] at h
    exact False.elim h
  | some s =>
    rw [hs] at h
    have z := EV.sl i s hs
    cases s <;> first
      | exact False.elim h
      | skip
    rename_i d0
    cases d0 <;> first
      | exact False.elim h
      | skip
    rename_i a
    obtain ⟨x, e, rx⟩ := z
    have ex := rx.int_of
    subst ex
    refine ⟨_, e, ?_⟩
    refine ha c σ G H δ _ _ EV h fun d δ1 v G1 H1 h1 E1 e1 r => ?_
    cases d <;> first
      | exact False.elim h1
      | skip
    rename_i b
    exact ⟨a, b, rfl, r.int_of, k.nx _ G1 H1 _ h1 (E1.put (.int _)) e1⟩
theorem rs_setI {i : Nat} (ha : RE K te ue) (hi : RE K tb ub) : RS K (tAsg te (gSub (tVar i) tb rSetL)) (dSetI i ue ub) := by
  intro c σ G H δ D E EV h k
  refine ha c σ G H δ _ _ EV h fun d δ1 v G1 H1 h1 E1 e1 r => ?_
  obtain ⟨hsome, h1⟩ := h1
  obtain ⟨ds0, h0⟩ := Option.isSome_iff_exists.mp hsome
  obtain ⟨p, xs0, hv, _, _⟩ := slL_ok E1 h0
  refine ⟨.ref p, hv, ?_⟩
  refine hi c σ G1 H1 δ1 _ _ E1 h1 fun di δ2 y G2 H2 h2 E2 e2 r2 => ?_
  cases hs : δ2[i]? with
  | none =>
    rw [hs] at h2
    exact False.elim h2
  | some s =>
    rw [hs] at h2
    cases s <;> first
      | exact False.elim h2
      | skip
    rename_i tg ds
    cases di <;> first
      | exact False.elim h2
      | skip
    rename_i kk
    have h2 : (match ixN ds.length kk with
      | some j => E.nx (δ2.set i (.own tg (ds.set j d)))
      | none => False) := h2
    obtain ⟨p', xs, e, hg, hh, rr, q⟩ := E2.sl i _ hs
    have e' := e
    rw [hv] at e'
    have ev := V.ref.inj (Option.some.inj (Option.some.inj e'))
    subst ev
    cases q : ixN ds.length kk with
    | none =>
      rw [q] at h2
      exact h2.elim
    | some j =>
      rw [q] at h2
      refine ⟨p, xs, kk, j, rfl, r2.int_of, hh, by rw [rr.len]; exact q, ?_⟩
      exact k.nx σ G2 _ _ h2 (E2.poke hs hv (RpAll.set (r.up e2) j rr)) (e1.trans e2)
theorem rs_app {i : Nat} (ha : RE K te ue) : RS K (tDrop (tBM K "list" rAppend (tVar i) (tCons te tNil))) (dApp i ue) := by
  intro c σ G H δ D E EV h k
  obtain ⟨hsome, h⟩ := h
  obtain ⟨ds0, h0⟩ := Option.isSome_iff_exists.mp hsome
  obtain ⟨p, xs0, hv, hh0, _⟩ := slL_ok EV h0
  refine ⟨.ref p, hv, .inl ⟨rfl, _, .inl (.inl hh0)⟩, ?_⟩
  refine ha c σ G H δ _ _ EV h fun d δ1 v G1 H1 h1 E1 e1 r => ?_
  cases hs : δ1[i]? with
  | none =>
    rw [hs] at h1
    exact False.elim h1
  | some s =>
    rw [hs] at h1
    cases s <;> first
      | exact False.elim h1
      | skip
    rename_i tg ds
    obtain ⟨p', xs, e, hg, hh, rr, q⟩ := E1.sl i _ hs
    have e' := e
    rw [hv] at e'
    have ev := V.ref.inj (Option.some.inj (Option.some.inj e'))
    subst ev
    refine ⟨p, xs, v, rfl, rfl, hh, by rw [rr.len]; exact h1.1, ?_⟩
    exact k.nx σ G1 _ _ h1.2 (E1.poke hs hv (rr.app (.one r))) e1
theorem rs_asgOwn {i : Nat} {ta : TA} {ua : DTA} (ha : RA K ta ua) : RS K (tAsg (tLst ta) (gName i)) (dAsgOwn i ua) := by
  intro c σ G H δ D E EV h k
  refine ha c σ G H δ _ _ EV h fun ds δ1 vs G1 H1 h1 E1 e1 r => ?_
  refine ⟨by rw [r.len]; exact h1.1, fun p hp => ?_⟩
  exact k.nx _ G1 _ _ h1.2 (E1.fresh hp (E1.new0 hp) r) e1
end

/-! ### what is walked -/
structure Yields (K : PySem.W.Frag) (G : Hp) (J : It) (ds : List PyData) : Prop where
  stop : ∀ G1 H1, Ex G G1 → Ex G1 H1 → J.stop ds.length H1
  go : ∀ G1 H1 i d, Ex G G1 → Ex G1 H1 → ds[i]? = some d → J.go i H1 ∧ ∀ x H2, J.yld i H1 x H2 → ∃ G2, Al G1 H1 G2 H2 ∧ Rp K G2 x d
abbrev DTI := List Sl → (List PyData → List Sl → Prop) → Prop
def RI (K : PySem.W.Frag) (w : TI) (u : DTI) : Prop := ∀ (c : Cf) (σ : L2.St) (G H : Hp) (δ : List Sl) (Q : It → Hp → Prop) (R : List PyData → List Sl → Prop), EnvOk K c G H σ δ → u δ R →
  (∀ ds δ' J G' H', R ds δ' → EnvOk K c G' H' σ δ' → Ex G G' → Yields K G' J ds → Q J H') → w σ H Q
structure DI (X : Cx) (tg iter : Expr) (w : TI) (u : DTI) : Prop where
  pi : PI X tg iter w
  ri : RI X.K w u
def diL (u : DTE) : DTI := fun δ R => u δ fun d δ1 => match d with
  | .list ds => R ds δ1
  | _ => False
def diT (u : DTE) : DTI := fun δ R => u δ fun d δ1 => match d with
  | .tuple ds => R ds δ1
  | _ => False
def diS (u : DTE) : DTI := fun δ R => u δ fun d δ1 => match d with
  | .str x => R (x.cps.toList.map fun c => .str ⟨#[c]⟩) δ1
  | _ => False
def iotaD (lo : Int) (n : Nat) : List PyData := (List.range n).map fun (i : Nat) => PyData.int (lo + (i : Int))
def diR1 (u : DTE) : DTI := fun δ R => u δ fun d δ1 => match d with
  | .int n => (-(2 ^ 62) ≤ n ∧ n < 2 ^ 62) ∧ R (iotaD 0 n.toNat) δ1
  | _ => False
def diR2 (u u' : DTE) : DTI := fun δ R => u δ fun d δ1 => u' δ1 fun d' δ2 => match d, d' with
  | .int m, .int n => (-(2 ^ 62) ≤ m ∧ m < 2 ^ 62 ∧ -(2 ^ 62) ≤ n ∧ n < 2 ^ 62) ∧ R (iotaD m (n - m).toNat) δ2
  | _, _ => False
section
variable {K : PySem.W.Frag} {te tb : TE} {ue ub : DTE}
theorem ri_list (ha : RE K te ue) : RI K (iList K te) (diL ue) := by
  intro c σ G H δ Q R E h k
  refine ha c σ G H δ _ _ E h fun d δ1 v G1 H1 h1 E1 e1 r => ?_
  cases d <;> first
    | exact False.elim h1
    | skip
  rename_i ds
  obtain ⟨a, xs, rfl, q1, q2⟩ := r.lst_of
  refine ⟨a, rfl, ⟨xs, .inl (.inl (E1.ex _ _ q1))⟩, k ds δ1 _ G1 H1 h1 E1 e1 ⟨fun G2 H2 a1 a2 => ⟨xs, .inl (.inl (a2 _ _ (a1 _ _ q1))), by rw [q2.len]; exact Nat.le_refl _⟩, fun G2 H2 i d a1 a2 hd => ?_⟩⟩
  obtain ⟨v, hv, rv⟩ := q2.get hd
  have hq : SqL K H2 a xs := .inl (.inl (a2 _ _ (a1 _ _ q1)))
  refine ⟨⟨xs, v, hq, hv⟩, fun x H3 hy => ?_⟩
  obtain ⟨rfl, hy⟩ := hy
  have e := (hy xs hq).symm.trans hv
  cases e
  exact ⟨G2, Al.refl a2, rv.up a1⟩
theorem ri_tup (ha : RE K te ue) : RI K (iTup K te) (diT ue) := by
  intro c σ G H δ Q R E h k
  refine ha c σ G H δ _ _ E h fun d δ1 v G1 H1 h1 E1 e1 r => ?_
  cases d <;> first
    | exact False.elim h1
    | skip
  rename_i ds
  obtain ⟨a, xs, rfl, q1, q2⟩ := r.tup_of
  refine ⟨a, rfl, ⟨xs, .inl (.inl (E1.ex _ _ q1))⟩, k ds δ1 _ G1 H1 h1 E1 e1 ⟨fun G2 H2 a1 a2 => ⟨xs, .inl (.inl (a2 _ _ (a1 _ _ q1))), by rw [q2.len]; exact Nat.le_refl _⟩, fun G2 H2 i d a1 a2 hd => ?_⟩⟩
  obtain ⟨v, hv, rv⟩ := q2.get hd
  have hq : SqT K H2 a xs := .inl (.inl (a2 _ _ (a1 _ _ q1)))
  refine ⟨⟨xs, v, hq, hv⟩, fun x H3 hy => ?_⟩
  obtain ⟨rfl, hy⟩ := hy
  have e := (hy xs hq).symm.trans hv
  cases e
  exact ⟨G2, Al.refl a2, rv.up a1⟩
theorem ri_str (ha : RE K te ue) : RI K (iStr te) (diS ue) := by
  intro c σ G H δ Q R E h k
  refine ha c σ G H δ _ _ E h fun d δ1 v G1 H1 h1 E1 e1 r => ?_
  cases d <;> first
    | exact False.elim h1
    | skip
  rename_i x
  refine ⟨x, r.str_of, k _ δ1 _ G1 H1 h1 E1 e1 ⟨fun G2 H2 a1 a2 => ?_, fun G2 H2 i d a1 a2 hd => ?_⟩⟩
  · show x.cps.size ≤ (x.cps.toList.map fun c => PyData.str ⟨#[c]⟩).length
    rw [List.length_map, Array.length_toList]
    exact Nat.le_refl _
  · rw [List.getElem?_map] at hd
    cases q : x.cps.toList[i]? with
    | none =>
      rw [q] at hd
      cases hd
    | some ch =>
      rw [q] at hd
      cases hd
      have hl := (List.getElem?_eq_some_iff.mp q).1
      rw [Array.length_toList] at hl
      refine ⟨hl, fun y H3 hy => ?_⟩
      obtain ⟨rfl, ch', hc, rfl⟩ := hy
      rw [Array.getElem?_toList] at q
      rw [q] at hc
      cases hc
      exact ⟨G2, Al.refl a2, .str _⟩
theorem iotaD_get {lo : Int} {n i : Nat} {d : PyData} (h : (iotaD lo n)[i]? = some d) : i < n ∧ d = .int (lo + (i : Int)) := by
  unfold iotaD at h
  rw [List.getElem?_map] at h
  cases q : (List.range n)[i]? with
  | none =>
    rw [q] at h
    cases h
  | some j =>
    rw [q] at h
    obtain ⟨h1, h2⟩ := List.getElem?_eq_some_iff.mp q
    rw [List.getElem_range] at h2
    subst h2
    rw [List.length_range] at h1
    exact ⟨h1, (Option.some.inj h).symm⟩
theorem yld_iotaD {G : Hp} {lo : Int} {n : Nat} : Yields K G (Itr lo n) (iotaD lo n) := ⟨fun G2 H2 a1 a2 => by
    show n ≤ (iotaD lo n).length
    unfold iotaD
    rw [List.length_map, List.length_range]
    exact Nat.le_refl _, fun G2 H2 i d a1 a2 hd => by
    obtain ⟨h1, rfl⟩ := iotaD_get hd
    refine ⟨h1, fun x H3 hy => ?_⟩
    obtain ⟨rfl, rfl⟩ := hy
    exact ⟨G2, Al.refl a2, .int _⟩⟩
theorem ri_r1 (ha : RE K te ue) : RI K (iRng1 (tCons te tNil)) (diR1 ue) := by
  intro c σ G H δ Q R E h k
  refine ha c σ G H δ _ _ E h fun d δ1 v G1 H1 h1 E1 e1 r => ?_
  cases d <;> first
    | exact False.elim h1
    | skip
  rename_i n
  have e := r.int_of
  subst e
  exact ⟨n, rfl, h1.1.1, h1.1.2, k _ δ1 _ G1 H1 h1.2 E1 e1 yld_iotaD⟩
theorem ri_r2 (ha : RE K te ue) (hb : RE K tb ub) : RI K (iRng2 (tCons te (tCons tb tNil))) (diR2 ue ub) := by
  intro c σ G H δ Q R E h k
  refine ha c σ G H δ _ _ E h fun d δ1 v G1 H1 h1 E1 e1 r => ?_
  refine hb c σ G1 H1 δ1 _ _ E1 h1 fun d2 δ2 v2 G2 H2 h2 E2 e2 r2 => ?_
  cases d <;> cases d2 <;> first
    | exact False.elim h2
    | skip
  rename_i m n
  have e := r.int_of
  subst e
  have e' := r2.int_of
  subst e'
  exact ⟨m, n, rfl, h2.1, k _ δ2 _ G2 H2 h2.2 E2 (e1.trans e2) yld_iotaD⟩
end

/-! ### loops -/
def forW (g : DTG) (u : DTS) (E : DEnds) : List PyData → List Sl → Prop
  | [], δ => E.nx δ
  | d :: r, δ => g d δ fun δ1 => u { E with nx := forW g u E r, ct := forW g u E r, bk := E.nx } δ1
def dFor (w : DTI) (g : DTG) (u : DTS) : DTS := fun E δ => w δ fun ds δ1 => forW g u E ds δ1
def whW (t : DTT) (u : DTS) (E : DEnds) : Nat → List Sl → Prop
  | 0, _ => False
  | n + 1, δ => t δ fun b δ1 => if b = true then u { E with nx := whW t u E n, ct := whW t u E n, bk := E.nx } δ1 else E.nx δ1
def dWhile (t : DTT) (u : DTS) : DTS := fun E δ => ∃ n, whW t u E n δ
section
variable {K : PySem.W.Frag} {w : TI} {uw : DTI} {g : TG} {ug : DTG} {js : List Nat} {t : TS} {u : DTS} {tc : TT} {uc : DTT}
theorem rs_for (hw : RI K w uw) (hg : RG K g ug js) (hb : RS K t u) : RS K (tFor w g t) (dFor uw ug u) := by
  intro c σ G H δ D E EV h k
  refine hw c σ G H δ _ _ EV h fun ds δ1 J G1 H1 h1 E1 e1 Y => ?_
  refine ⟨fun i m σ H => ∃ G δ, EnvOk K c G H σ δ ∧ Ex G1 G ∧ i ≤ ds.length ∧ m = ds.length - i ∧ forW ug u E (ds.drop i) δ, ⟨ds.length, G1, δ1, E1, Ex.refl _, Nat.zero_le _, rfl, h1⟩, ?_⟩
  rintro i m σ2 H2 ⟨G2, δ2, E2, e2, hi, rfl, h2⟩
  by_cases hlt : i < ds.length
  · have hd : ds[i]? = some ds[i] := List.getElem?_eq_getElem hlt
    rw [List.drop_eq_getElem_cons hlt] at h2
    obtain ⟨hgo, hy⟩ := Y.go G2 H2 i _ e2 E2.ex hd
    refine .inr ⟨hgo, fun σ' H' => ∃ G δ, EnvOk K c G H' σ' δ ∧ Ex G1 G ∧ forW ug u E (ds.drop (i + 1)) δ, fun σ' H' ⟨G', δ', a1, a2, a3⟩ => ⟨ds.length - (i + 1), by omega, G', δ', a1, a2, hlt, rfl, a3⟩, fun x H3 hx => ?_⟩
    obtain ⟨G3, A, rx⟩ := hy x H3 hx
    refine hg c σ2 G3 H3 δ2 x _ _ _ (E2.al A) rx h2 fun σ4 δ4 h4 E4 _ _ => ?_
    have e13 : Ex G1 G3 := e2.trans A.g
    refine hb c σ4 G3 H3 δ4 _ { E with nx := forW ug u E (ds.drop (i + 1)), ct := forW ug u E (ds.drop (i + 1)), bk := E.nx } E4 h4 ⟨?_, ?_, ?_, ?_, ?_, k.h0⟩
    · exact fun σ' G' H' δ' a b e => ⟨G', δ', b, e13.trans e, a⟩
    · exact fun d δ' v σ' G' H' a b e r => k.rt d δ' v σ' G' H' a b ((e1.trans e13).trans e) r
    · exact fun σ' G' H' δ' a b e => k.nx σ' G' H' δ' a b ((e1.trans e13).trans e)
    · exact fun σ' G' H' δ' a b e => ⟨G', δ', b, e13.trans e, a⟩
    · exact fun ds δ' p xs σ' G' H' a b n e r => k.rn ds δ' p xs σ' G' H' a b n ((e1.trans e13).trans e) r
  · have ei : i = ds.length := by omega
    subst ei
    rw [List.drop_length] at h2
    exact .inl ⟨Y.stop G2 H2 e2 E2.ex, k.nx σ2 G2 H2 δ2 h2 E2 (e1.trans e2)⟩
theorem rs_while (hc : RT K tc uc) (hb : RS K t u) : RS K (tWhile tc t) (dWhile uc u) := by
  intro c σ G H δ D E EV h k
  obtain ⟨n, h⟩ := h
  refine ⟨fun m σ H => ∃ G' δ, EnvOk K c G' H σ δ ∧ Ex G G' ∧ whW uc u E m δ, ⟨n, G, δ, EV, Ex.refl _, h⟩, ?_⟩
  rintro m σ1 H1 ⟨G1, δ1, E1, e1, h1⟩
  cases m with
  | zero => exact False.elim h1
  | succ m =>
    refine hc c σ1 G1 H1 δ1 _ _ E1 h1 fun b δ2 G2 H2 h2 E2 e2 => ?_
    cases b with
    | false =>
      exact k.nx σ1 G2 H2 δ2 h2 E2 (e1.trans e2)
    | true =>
      refine ⟨fun σ' H' => ∃ G' δ, EnvOk K c G' H' σ' δ ∧ Ex G G' ∧ whW uc u E m δ, fun σ' H' q => ⟨m, Nat.lt_succ_self m, q⟩, ?_⟩
      refine hb c σ1 G2 H2 δ2 _ { E with nx := whW uc u E m, ct := whW uc u E m, bk := E.nx } E2 h2 ⟨?_, ?_, ?_, ?_, ?_, k.h0⟩
      · exact fun σ' G' H' δ' a b e => ⟨G', δ', b, (e1.trans e2).trans e, a⟩
      · exact fun d δ' v σ' G' H' a b e r => k.rt d δ' v σ' G' H' a b ((e1.trans e2).trans e) r
      · exact fun σ' G' H' δ' a b e => k.nx σ' G' H' δ' a b ((e1.trans e2).trans e)
      · exact fun σ' G' H' δ' a b e => ⟨G', δ', b, (e1.trans e2).trans e, a⟩
      · exact fun ds δ' p xs σ' G' H' a b n e r => k.rn ds δ' p xs σ' G' H' a b n ((e1.trans e2).trans e) r
end

/-! ### comprehensions -/
def wipeS (δ : List Sl) : List Nat → List Sl
  | [] => δ
  | v :: vs => (wipeS δ vs).set v .no
def lcW (vs : List Nat) (g : DTG) (t : DTT) (u : DTE) (R : List PyData → List Sl → Prop) : List PyData → List PyData → List Sl → Prop
  | [], acc, δ => R acc δ
  | d :: r, acc, δ => g d (wipeS δ vs) fun δ1 => t δ1 fun b δ2 => if b = true then u δ2 fun y δ3 => acc.length < sizeLine ∧ lcW vs g t u R r (acc ++ [y]) (wipeS δ3 vs) else lcW vs g t u R r acc (wipeS δ2 vs)
def dLc (w : DTI) (g : DTG) (t : DTT) (u : DTE) (vs : List Nat) : DTE := fun δ R => w δ fun ds δ1 => lcW vs g t u (fun acc δ' => R (.list acc) δ') ds [] δ1
/-- .. given to a name that is to change -/
def dLcOwn (i : Nat) (w : DTI) (g : DTG) (t : DTT) (u : DTE) (vs : List Nat) : DTS := fun E δ => w δ fun ds δ1 => lcW vs g t u (fun acc δ' => E.nx (δ'.set i (.own none acc))) ds [] δ1
def dYes : DTT := fun δ R => R true δ
section
variable {K : PySem.W.Frag} {w : TI} {uw : DTI} {g : TG} {ug : DTG} {js : List Nat} {tt : TT} {ut : DTT} {te : TE} {ue : DTE}
theorem rt_yes : RT K tYes dYes := fun c σ G H δ Q R E h k => k true δ G H h E (Ex.refl _)
theorem wipe_get (σ : L2.St) (i : Nat) : ∀ vs : List Nat, (wipe σ vs)[i]? = if i ∈ vs ∧ i < σ.length then some none else σ[i]?
  | [] => by simp [wipe]
  | v :: vs => by
    have ih := wipe_get σ i vs
    show ((wipe σ vs).set v none)[i]? = _
    rw [List.getElem?_set, wipe_length]
    by_cases h : v = i
    · subst h
      by_cases hl : v < σ.length
      · simp [hl]
      · simp [hl]
    · rw [if_neg h, ih]
      have e : (i ∈ v :: vs) ↔ i ∈ vs := by
        rw [List.mem_cons]
        exact ⟨fun z => z.elim (fun z => absurd z.symm h) id, Or.inr⟩
      by_cases hm : i ∈ vs
      · by_cases hl : i < σ.length
        · simp [hm, hl]
        · simp [hm, hl]
      · simp [hm, Ne.symm h]
theorem wipe_eq {σ σ' : L2.St} {vs : List Nat} (hl : σ'.length = σ.length) (h : ∀ i, i ∉ vs → σ'[i]? = σ[i]?) : wipe σ' vs = wipe σ vs := by
  apply List.ext_getElem?
  intro i
  rw [wipe_get, wipe_get, hl]
  by_cases hm : i ∈ vs
  · by_cases hi : i < σ.length
    · simp [hm, hi]
    · rw [if_neg (fun z => hi z.2), if_neg (fun z => hi z.2), List.getElem?_eq_none (by omega), List.getElem?_eq_none (by omega)]
  · rw [if_neg (fun z => hm z.1), if_neg (fun z => hm z.1)]
    exact h i hm
theorem EnvOk.wipe {c : Cf} {G H : Hp} {σ : L2.St} {δ : List Sl} (E : EnvOk K c G H σ δ) : ∀ vs : List Nat, EnvOk K c G H (L2.wipe σ vs) (wipeS δ vs)
  | [] => E
  | v :: vs => (EnvOk.wipe E vs).drop
theorem wipeS_no {δ : List Sl} {i : Nat} {s : Sl} : ∀ (vs : List Nat), i ∈ vs → (wipeS δ vs)[i]? = some s → s = Sl.no
  | [], hi, _ => nomatch hi
  | v :: vs, hi, hs => by
    have hs : ((wipeS δ vs).set v Sl.no)[i]? = some s := hs
    rw [List.getElem?_set] at hs
    by_cases hv : v = i
    · rw [if_pos hv] at hs
      split at hs
      · exact (Option.some.inj hs).symm
      · cases hs
    · rw [if_neg hv] at hs
      rcases List.mem_cons.mp hi with z | z
      · exact absurd z.symm hv
      · exact wipeS_no vs z hs
/-- other values in slots that nothing is known of -/
theorem EnvOk.other {c : Cf} {G H : Hp} {σ σ' : L2.St} {δ : List Sl} {vs : List Nat} (E : EnvOk K c G H σ (wipeS δ vs)) (hl : σ'.length = σ.length) (h : ∀ i, i ∉ vs → σ'[i]? = σ[i]?) : EnvOk K c G H σ' (wipeS δ vs) := by
  have same : ∀ (i : Nat) (s : Sl), (wipeS δ vs)[i]? = some s → s ≠ Sl.no → σ'[i]? = σ[i]? := fun i s hs hn => h i fun z => hn (wipeS_no vs z hs)
  exact {
    xw := E.xw, g0 := E.g0, ex := E.ex, fr := E.fr, fs := E.fs, tg := E.tg
    len := by rw [hl]; exact E.len
    sl := fun i s hs => by
      cases s with
      | no => trivial
      | box b => trivial
      | dat d => rw [same i _ hs (by intro z; cases z)]; exact E.sl i _ hs
      | scr d => rw [same i _ hs (by intro z; cases z)]; exact E.sl i _ hs
      | own t d => rw [same i _ hs (by intro z; cases z)]; exact E.sl i _ hs
    ap := fun i j t1 d1 t2 d2 hij h1 h2 => by
      rw [same i _ h1 (by intro z; cases z), same j _ h2 (by intro z; cases z)]
      exact E.ap i j t1 d1 t2 d2 hij h1 h2
    hd := fun p xs hm => by
      obtain ⟨a1, a2, a3, a4, a5⟩ := E.hd p xs hm
      refine ⟨a1, a2, a3, a4, fun i t ds hs => ?_⟩
      rw [same i _ hs (by intro z; cases z)]
      exact a5 i t ds hs
    bx := E.bx.step (Ex.refl _) (fun i b hs => ⟨hs, same i _ hs (by intro z; cases z)⟩) fun a _ f => ⟨rfl, f.g, f.h0, f.tg, f.hd, fun i t ds hs => by
      rw [same i _ hs (by intro z; cases z)]
      exact f.ow i t ds hs⟩ }
end
end TL

set_option Elab.async false
set_option linter.all false
set_option maxRecDepth 100000
set_option maxHeartbeats 2000000
/-! TL5: comprehensions, calls, defs by data. -/
namespace TL
open PySem PySem.Spec L2
variable [XW]

section
variable {K : PySem.W.Frag} {w : TI} {uw : DTI} {g : TG} {ug : DTG} {js vs : List Nat} {tt : TT} {ut : DTT} {te : TE} {ue : DTE}
/-- the turns of a comprehension, from the list that is being made at D -/
theorem lc_turns (hg : RG K g ug js) (ht : RT K tt ut) (he : RE K te ue) (hj : ∀ j ∈ js, j ∈ vs) {c : Cf} {σ : L2.St} {G1 : Hp} {ds : List PyData} {J : It} {D : Addr} {Q : VK} {R : List PyData → List Sl → Prop} {H1 : Hp} {δ1 : List Sl}
    (E1 : EnvOk K { c with hid := (D, .lst []) :: c.hid } G1 H1 σ δ1) (hn : ∀ zs, (D, zs) ∉ c.hid) (Y : Yields K G1 J ds) (h : lcW vs ug ut ue R ds [] δ1)
    (k : ∀ acc δ' xs G' H', R acc δ' → EnvOk K { c with hid := (D, .lst xs) :: c.hid } G' H' σ δ' → Ex G1 G' → RpAll K G' xs acc → Q (.ref D) H') :
    ∃ W : Nat → Nat → Hp → Prop, (∃ m, W 0 m H1) ∧ ∀ i m H, W i m H →
      (J.stop i H ∧ Q (.ref D) H) ∨ (J.go i H ∧ ∃ Nx : Hp → Prop, (∀ H', Nx H' → ∃ m', m' < m ∧ W (i + 1) m' H') ∧ ∀ x H', J.yld i H x H' → g x (wipe σ vs) H' fun σ2 H2 => wipe σ2 vs = wipe σ vs ∧ tt σ2 H2 fun b H3 =>
        if b = true then te σ2 H3 fun y H4 => ∃ acc, H4 D = some (.lst acc) ∧ acc.length < sizeLine ∧ Nx (upd H4 D (.lst (acc ++ [y]))) else Nx H3) := by
  refine ⟨fun i m H => ∃ G δ acc xs, EnvOk K { c with hid := (D, .lst xs) :: c.hid } G H σ δ ∧ Ex G1 G ∧ RpAll K G xs acc ∧ i ≤ ds.length ∧ m = ds.length - i ∧ lcW vs ug ut ue R (ds.drop i) acc δ, ⟨ds.length, G1, δ1, [], [], E1, Ex.refl _, .nil, Nat.zero_le _, rfl, h⟩, ?_⟩
  rintro i m H ⟨G, δ, acc, xs, E, e, r, hi, rfl, h⟩
  by_cases hlt : i < ds.length
  · have hd : ds[i]? = some ds[i] := List.getElem?_eq_getElem hlt
    rw [List.drop_eq_getElem_cons hlt] at h
    obtain ⟨hgo, hy⟩ := Y.go G H i _ e E.ex hd
    refine .inr ⟨hgo, fun H' => ∃ G δ acc xs, EnvOk K { c with hid := (D, .lst xs) :: c.hid } G H' σ δ ∧ Ex G1 G ∧ RpAll K G xs acc ∧ lcW vs ug ut ue R (ds.drop (i + 1)) acc δ, fun H' ⟨G', δ', acc', xs', a1, a2, a3, a4⟩ => ⟨ds.length - (i + 1), by omega, G', δ', acc', xs', a1, a2, a3, hlt, rfl, a4⟩, fun x H2 hx => ?_⟩
    obtain ⟨G2, A, rx⟩ := hy x H2 hx
    have E2 := (E.al A).wipe vs
    refine hg _ (wipe σ vs) G2 H2 _ x _ _ _ E2 rx h fun σ3 δ3 h3 E3 l3 s3 => ?_
    rw [wipe_length] at l3
    have o3 : ∀ i, i ∉ vs → σ3[i]? = σ[i]? := fun i hi => by
      rw [s3 i fun z => hi (hj i z), wipe_get, if_neg fun z => hi z.1]
    refine ⟨wipe_eq l3 o3, ?_⟩
    have back : ∀ {cc : Cf} {G H : Hp} {δ : List Sl}, EnvOk K cc G H σ3 δ → EnvOk K cc G H σ (wipeS δ vs) := fun {cc G H δ} E => by
      have z := E.wipe vs
      rw [wipe_eq l3 o3] at z
      refine z.other (by rw [wipe_length]) fun i hi => ?_
      rw [wipe_get, if_neg fun z => hi z.1]
    refine ht _ σ3 G2 H2 δ3 _ _ E3 h3 fun b δ4 G4 H4 h4 E4 e4 => ?_
    have e14 : Ex G1 G4 := (e.trans A.g).trans e4
    cases b with
    | false => exact ⟨G4, wipeS δ4 vs, acc, xs, back E4, e14, r.up (A.g.trans e4), h4⟩
    | true =>
      refine he _ σ3 G4 H4 δ4 _ _ E4 h4 fun y δ5 v G5 H5 h5 E5 e5 r5 => ?_
      have r' : RpAll K G5 xs acc := r.up ((A.g.trans e4).trans e5)
      obtain ⟨q1, q2⟩ := E5.hd D (.lst xs) List.mem_cons_self
      refine ⟨xs, q1, by rw [r'.len]; exact h5.1, G5, wipeS δ5 vs, acc ++ [y], xs ++ [v], (back E5).grow hn, e14.trans e5, r'.app (.one r5), h5.2⟩
  · have ei : i = ds.length := by omega
    subst ei
    rw [List.drop_length] at h
    exact .inl ⟨Y.stop G H e E.ex, k acc δ xs G H h E e r⟩
theorem hid_new {c : Cf} {G H : Hp} {σ : L2.St} {δ : List Sl} (E : EnvOk K c G H σ δ) {D : Addr} (hD : H D = none) : ∀ zs, (D, zs) ∉ c.hid := fun zs z => by
  have q := (E.hd D zs z).1
  rw [hD] at q
  cases q
theorem Yields.up {G G' : Hp} {J : It} {ds : List PyData} (Y : Yields K G J ds) (e : Ex G G') : Yields K G' J ds := ⟨fun G1 H1 a b => Y.stop G1 H1 (e.trans a) b, fun G1 H1 i d a b h => Y.go G1 H1 i d (e.trans a) b h⟩
theorem re_lc (hw : RI K w uw) (hg : RG K g ug js) (ht : RT K tt ut) (he : RE K te ue) (hj : ∀ j ∈ js, j ∈ vs) : RE K (tLc w g tt te vs) (dLc uw ug ut ue vs) := by
  intro c σ G H δ Q R E h k
  refine hw c σ G H δ _ _ E h fun ds δ1 J G1 H1 h1 E1 e1 Y => ?_
  intro D hD
  have hn := hid_new E1 hD
  refine lc_turns hg ht he hj (E1.hide (ob := .lst []) hD (E1.new0 hD)) hn Y h1 fun acc δ' xs G' H' hR E' e' r' => ?_
  obtain ⟨G2, e2, rp, E2⟩ := E'.show hn r'
  exact k _ δ' _ G2 H' hR E2 ((e1.trans e').trans e2) rp
/-- what was made beside is given to a name -/
theorem EnvOk.give {c : Cf} {G H : Hp} {σ : L2.St} {δ : List Sl} {p : Addr} {xs : List V} {ds : List PyData} (E : EnvOk K { c with hid := (p, .lst xs) :: c.hid } G H σ δ) (hn : ∀ zs, (p, zs) ∉ c.hid) (r : RpAll K G xs ds) (i : Nat) :
    EnvOk K c G H (σ.set i (some (.ref p))) (δ.set i (.own none ds)) := by
  obtain ⟨a1, a2, a3, a4, a5⟩ := E.hd p (.lst xs) List.mem_cons_self
  exact {
    xw := E.xw, g0 := E.g0, ex := E.ex, fr := E.fr, fs := E.fs, tg := E.tg
    len := by rw [List.length_set, List.length_set, E.len]
    sl := fun j s h => by
      rw [List.getElem?_set] at h ⊢
      by_cases hj : i = j
      · rw [if_pos hj] at h ⊢
        by_cases hl : i < δ.length
        · rw [if_pos hl] at h
          rw [if_pos (by rw [E.len]; exact hl)]
          cases h
          exact ⟨p, xs, rfl, a2, a1, r, a3, a4⟩
        · rw [if_neg hl] at h
          cases h
      · rw [if_neg hj] at h ⊢
        have z := E.sl j s h
        cases s with
        | no => trivial
        | box b => trivial
        | dat d => exact z
        | scr d => exact z
        | own t d => exact z
    ap := fun a b t1 d1 t2 d2 hab h1 h2 => by
      rw [List.getElem?_set] at h1 h2
      by_cases ha : i = a
      · have hb : ¬ i = b := fun z => hab (ha.symm.trans z)
        rw [if_neg hb] at h2
        rw [List.getElem?_set, if_pos ha, List.getElem?_set_ne hb]
        split
        · exact fun z => a5 b t2 d2 h2 z.symm
        · rw [if_pos ha] at h1
          split at h1
          · rename_i u w
            rw [E.len] at u
            exact absurd w u
          · cases h1
      · rw [if_neg ha] at h1
        rw [List.getElem?_set_ne ha]
        by_cases hb : i = b
        · rw [List.getElem?_set, if_pos hb]
          split
          · exact a5 a t1 d1 h1
          · rw [if_pos hb] at h2
            split at h2
            · rename_i u w
              rw [E.len] at u
              exact absurd w u
            · cases h2
        · rw [if_neg hb] at h2
          rw [List.getElem?_set_ne hb]
          exact E.ap a b t1 d1 t2 d2 hab h1 h2
    hd := fun q ys h => by
      obtain ⟨h1, h2, h3, h4, h5⟩ := E.hd q ys (List.mem_cons_of_mem _ h)
      have ne : q ≠ p := fun z => hn ys (by rw [← z]; exact h)
      refine ⟨h1, h2, h3, h4, fun j t es hs => ?_⟩
      rw [List.getElem?_set] at hs ⊢
      by_cases hj : i = j
      · rw [if_pos hj]
        split
        · exact fun z => ne (V.ref.inj (Option.some.inj (Option.some.inj z))).symm
        · exact fun z => nomatch z
      · rw [if_neg hj] at hs ⊢
        exact h5 j t es hs
    bx := E.bx.step (Ex.refl _) (fun j b h => by
      obtain ⟨hj, h⟩ := set_box (by intro b z; cases z) h
      exact ⟨h, List.getElem?_set_ne hj⟩) fun a _ f => by
      have ne : a ≠ p := fun z => f.hd _ (by rw [z]; exact List.mem_cons_self)
      refine ⟨rfl, f.g, f.h0, f.tg, fun o h => f.hd o (List.mem_cons_of_mem _ h), fun j t es hs => ?_⟩
      rw [List.getElem?_set] at hs ⊢
      by_cases hj : i = j
      · rw [if_pos hj]
        split
        · exact fun z => ne (V.ref.inj (Option.some.inj (Option.some.inj z))).symm
        · exact fun z => nomatch z
      · rw [if_neg hj] at hs ⊢
        exact f.ow j t es hs }
theorem rs_lcOwn {i : Nat} (hw : RI K w uw) (hg : RG K g ug js) (ht : RT K tt ut) (he : RE K te ue) (hj : ∀ j ∈ js, j ∈ vs) : RS K (tAsg (tLc w g tt te vs) (gName i)) (dLcOwn i uw ug ut ue vs) := by
  intro c σ G H δ D' E EV h k
  refine hw c σ G H δ _ _ EV h fun ds δ1 J G1 H1 h1 E1 e1 Y => ?_
  intro D hD
  have hn := hid_new E1 hD
  refine lc_turns (Q := fun x H1 => gName i x σ H1 D'.nx) hg ht he hj (E1.hide (ob := .lst []) hD (E1.new0 hD)) hn Y h1 fun acc δ' xs G' H' hR E' e' r' => ?_
  exact k.nx _ G' H' _ hR (E'.give hn r' i) (e1.trans e')
end
end TL

set_option Elab.async false
set_option linter.all false
set_option maxRecDepth 100000
set_option maxHeartbeats 2000000
/-! TL6: calls and defs by data. -/
namespace TL
open PySem PySem.Spec L2
variable [XW]

/-- an argument: a datum, or a slot handed on (a list that the callee may change, or what was handed in) -/
inductive CA where
  | d (d : PyData)
  | s (i : Nat)
inductive CAs (K : PySem.W.Frag) (G : Hp) (σ : L2.St) : List V → List CA → Prop
  | nil : CAs K G σ [] []
  | d {v : V} {d : PyData} {vs : List V} {cs : List CA} : Rp K G v d → CAs K G σ vs cs → CAs K G σ (v :: vs) (.d d :: cs)
  | s {v : V} {i : Nat} {vs : List V} {cs : List CA} : σ[i]? = some (some v) → CAs K G σ vs cs → CAs K G σ (v :: vs) (.s i :: cs)
theorem CAs.up {K : PySem.W.Frag} {G G' : Hp} {σ : L2.St} (e : Ex G G') : ∀ {vs : List V} {cs : List CA}, CAs K G σ vs cs → CAs K G' σ vs cs
  | _, _, .nil => .nil
  | _, _, .d r t => .d (r.up e) (CAs.up e t)
  | _, _, .s r t => .s r (CAs.up e t)
theorem CAs.len {K : PySem.W.Frag} {G : Hp} {σ : L2.St} : ∀ {vs : List V} {cs : List CA}, CAs K G σ vs cs → vs.length = cs.length
  | _, _, .nil => rfl
  | _, _, .d r t => by rw [List.length_cons, List.length_cons, CAs.len t]
  | _, _, .s r t => by rw [List.length_cons, List.length_cons, CAs.len t]
abbrev DCA := List Sl → (List CA → List Sl → Prop) → Prop
def RCA (K : PySem.W.Frag) (t : TA) (u : DCA) : Prop := ∀ (c : Cf) (σ : L2.St) (G H : Hp) (δ : List Sl) (Q : List V → Hp → Prop) (R : List CA → List Sl → Prop), EnvOk K c G H σ δ → u δ R →
  (∀ cs δ' vs G' H', R cs δ' → EnvOk K c G' H' σ δ' → Ex G G' → CAs K G' σ vs cs → Q vs H') → t σ H Q
structure DCa (X : Cx) (es : List Expr) (t : TA) (u : DCA) : Prop where
  pa : PA X es t
  ra : RCA X.K t u
def cNil : DCA := fun δ R => R [] δ
def cD (u : DTE) (ur : DCA) : DCA := fun δ R => u δ fun d δ1 => ur δ1 fun cs δ2 => R (.d d :: cs) δ2
def isS : Option Sl → Bool
  | some (.own _ _) => true
  | some (.scr _) => true
  | _ => false
def cS (i : Nat) (ur : DCA) : DCA := fun δ R => isS δ[i]? = true ∧ ur δ fun cs δ2 => R (.s i :: cs) δ2
section
variable {K : PySem.W.Frag} {te : TE} {ue : DTE} {tr : TA} {ur : DCA}
theorem rca_nil : RCA K tNil cNil := fun c σ G H δ Q R E h k => k [] δ [] G H h E (Ex.refl _) .nil
theorem rca_d (ha : RE K te ue) (hr : RCA K tr ur) : RCA K (tCons te tr) (cD ue ur) := by
  intro c σ G H δ Q R E h k
  refine ha c σ G H δ _ _ E h fun d δ1 v1 G1 H1 h1 E1 e1 r1 => ?_
  exact hr c σ G1 H1 δ1 _ _ E1 h1 fun ds δ2 vs G2 H2 h2 E2 e2 r2 => k _ δ2 _ G2 H2 h2 E2 (e1.trans e2) (.d (r1.up e2) r2)
theorem rca_s {i : Nat} (hr : RCA K tr ur) : RCA K (tCons (tVar i) tr) (cS i ur) := by
  intro c σ G H δ Q R E h k
  obtain ⟨h0, h⟩ := h
  have val : ∃ v, σ[i]? = some (some v) := by
    cases hs : δ[i]? with
    | none =>
      rw [hs] at h0
      cases h0
    | some s =>
      rw [hs] at h0
      have z := E.sl i s hs
      cases s with
      | no => cases h0
      | box b => cases h0
      | dat d => cases h0
      | scr ds =>
        obtain ⟨a, xs, e, _⟩ := z
        exact ⟨_, e⟩
      | own t ds =>
        obtain ⟨a, xs, e, _⟩ := z
        exact ⟨_, e⟩
  obtain ⟨v, hv⟩ := val
  refine ⟨v, hv, ?_⟩
  exact hr c σ G H δ _ _ E h fun ds δ2 vs G2 H2 h2 E2 e2 r2 => k _ δ2 _ G2 H2 h2 E2 e2 (.s hv r2)
end
/-- the slots that the callee gets -/
def asOf (δ : List Sl) : List CA → Nat → List Sl
  | [], _ => []
  | .d d :: r, j => .dat d :: asOf δ r j
  | .s i :: r, j => match δ[i]? with
    | some (.own _ ds) => .own (some j) ds :: asOf δ r (j + 1)
    | some (.scr ds) => .scr ds :: asOf δ r j
    | _ => .no :: asOf δ r j
/-- the slots whose lists it may change -/
def muts (δ : List Sl) : List CA → List Nat
  | [] => []
  | .d _ :: r => muts δ r
  | .s i :: r => match δ[i]? with
    | some (.own _ _) => i :: muts δ r
    | _ => muts δ r
def setOut (δ : List Sl) (i : Nat) (o : List PyData) : List Sl := match δ[i]? with
  | some (.own t _) => δ.set i (.own t o)
  | _ => δ
def setOuts : List Sl → List Nat → List (List PyData) → List Sl
  | δ, i :: M, o :: os => setOuts (setOut δ i o) M os
  | δ, _, _ => δ
def addr (σ : L2.St) (i : Nat) : Addr := match σ[i]? with
  | some (some (.ref p)) => p
  | _ => 0
abbrev DSp := List Sl → (PyData → List (List PyData) → Prop) → Prop
/-- what is left behind a def -/
structure Fin (K : PySem.W.Frag) (c : Cf) (G H : Hp) (outs : List (List PyData)) : Prop where
  g0 : Ex c.G0 G
  ex : Ex G H
  fr : ∀ a o, c.H0 a = some o → (∀ j, j < c.n → a ≠ c.τ j) → H a = some o
  fs : ∀ a, c.G0 a = none → c.H0 a ≠ none → G a = none
  tg : ∀ j, j < c.n → H (c.τ j) ≠ none ∧ G (c.τ j) = none
  out : ∀ j cs, outs[j]? = some cs → ∃ xs, H (c.τ j) = some (.lst xs) ∧ RpAll K G xs cs
def spD (K : PySem.W.Frag) (S : DSp) : Sp := fun vs H Q _ => ∃ (c : Cf) (as : List Sl) (R : PyData → List (List PyData) → Prop), c.hid = [] ∧ c.H0 = H ∧ EnvC K c c.G0 H (vs.map some) as ∧ S as R ∧
  ∀ d outs v G' H', R d outs → Fin K c G' H' outs → Rp K G' v d → Q v H'
/-- .. and a new list comes back, the asker's own -/
abbrev DSn := List Sl → (List PyData → List (List PyData) → Prop) → Prop
def spN (K : PySem.W.Frag) (S : DSn) : Sp := fun vs H Q _ => ∃ (c : Cf) (as : List Sl) (R : List PyData → List (List PyData) → Prop), c.hid = [] ∧ c.H0 = H ∧ EnvC K c c.G0 H (vs.map some) as ∧ S as R ∧
  ∀ ds outs p xs G' H', R ds outs → Fin K c G' H' outs → H p = none → G' p = none → H' p = some (.lst xs) → RpAll K G' xs ds → Q (.ref p) H'
/-- name = f(..), a new list, to change -/
def dCallOwn (i : Nat) (S : DSn) (ua : DCA) (E : List Sl → Prop) (δ : List Sl) : Prop := ua δ fun cs δ1 => (muts δ1 cs).Nodup ∧ S (asOf δ1 cs 0) fun ds outs => outs.length = (muts δ1 cs).length ∧ E ((setOuts δ1 (muts δ1 cs) outs).set i (.own none ds))
def dCall (S : DSp) (ua : DCA) : DTE := fun δ R => ua δ fun cs δ1 => (muts δ1 cs).Nodup ∧ S (asOf δ1 cs 0) fun d outs => outs.length = (muts δ1 cs).length ∧ R d (setOuts δ1 (muts δ1 cs) outs)

/-! ### the slots handed on -/
theorem muts_own {δ : List Sl} : ∀ {cs : List CA} {i : Nat}, i ∈ muts δ cs → ∃ t ds, δ[i]? = some (.own t ds)
  | [], i, h => nomatch h
  | .d _ :: r, i, h => muts_own (cs := r) h
  | .s k :: r, i, h => by
    cases hs : δ[k]? with
    | none =>
      have h : i ∈ (match δ[k]? with
        | some (.own _ _) => k :: muts δ r
        | _ => muts δ r) := h
      rw [hs] at h
      exact muts_own (cs := r) h
    | some s =>
      have h : i ∈ (match δ[k]? with
        | some (.own _ _) => k :: muts δ r
        | _ => muts δ r) := h
      rw [hs] at h
      cases s with
      | own t ds =>
        rcases List.mem_cons.mp h with e | h
        · rw [e]
          exact ⟨t, ds, hs⟩
        · exact muts_own (cs := r) h
      | no => exact muts_own (cs := r) h
      | box b => exact muts_own (cs := r) h
      | dat d => exact muts_own (cs := r) h
      | scr d => exact muts_own (cs := r) h
theorem asOf_own {δ : List Sl} : ∀ {cs : List CA} {j0 i : Nat} {t : Option Nat} {ds : List PyData}, (asOf δ cs j0)[i]? = some (.own t ds) → ∃ k i' t', t = some (j0 + k) ∧ (muts δ cs)[k]? = some i' ∧ δ[i']? = some (.own t' ds) ∧ cs[i]? = some (.s i')
  | [], j0, i, t, ds, h => by
    have h : ([] : List Sl)[i]? = some (.own t ds) := h
    simp at h
  | .d x :: r, j0, i, t, ds, h => by
    cases i with
    | zero =>
      have h : some (Sl.dat x) = some (.own t ds) := h
      cases h
    | succ i =>
      have h : (asOf δ r j0)[i]? = some (.own t ds) := h
      exact asOf_own (cs := r) (i := i) (j0 := j0) h
  | .s k :: r, j0, i, t, ds, h => by
    have hm : muts δ (.s k :: r) = (match δ[k]? with
        | some (.own _ _) => k :: muts δ r
        | _ => muts δ r) := rfl
    have ha : asOf δ (.s k :: r) j0 = (match δ[k]? with
        | some (.own _ ds) => .own (some j0) ds :: asOf δ r (j0 + 1)
        | some (.scr ds) => .scr ds :: asOf δ r j0
        | _ => .no :: asOf δ r j0) := rfl
    rw [ha] at h
    rw [hm]
    have rest : ∀ i, (asOf δ r j0)[i]? = some (.own t ds) → ∃ k' i' t', t = some (j0 + k') ∧ (muts δ r)[k']? = some i' ∧ δ[i']? = some (.own t' ds) ∧ (CA.s k :: r)[i + 1]? = some (.s i') := fun i h => asOf_own (cs := r) (i := i) (j0 := j0) h
    cases hs : δ[k]? with
    | none =>
      rw [hs] at h
      cases i with
      | zero => cases (show some Sl.no = some (.own t ds) from h)
      | succ i => exact rest i h
    | some s =>
      rw [hs] at h
      cases s with
      | no =>
        cases i with
        | zero => cases (show some Sl.no = some (.own t ds) from h)
        | succ i => exact rest i h
      | box b =>
        cases i with
        | zero => cases (show some Sl.no = some (.own t ds) from h)
        | succ i => exact rest i h
      | dat d =>
        cases i with
        | zero => cases (show some Sl.no = some (.own t ds) from h)
        | succ i => exact rest i h
      | scr d =>
        cases i with
        | zero => cases (show some (Sl.scr d) = some (.own t ds) from h)
        | succ i => exact rest i h
      | own t0 d =>
        cases i with
        | zero =>
          cases (show some (Sl.own (some j0) d) = some (.own t ds) from h)
          exact ⟨0, k, t0, rfl, rfl, hs, rfl⟩
        | succ i =>
          have h : (asOf δ r (j0 + 1))[i]? = some (.own t ds) := h
          obtain ⟨k', i', t', e, a, b, cc⟩ := asOf_own (cs := r) (i := i) (j0 := j0 + 1) h
          exact ⟨k' + 1, i', t', by rw [e]; congr 1; omega, a, b, cc⟩
theorem asOf_tag {δ : List Sl} {cs : List CA} {i i' j : Nat} {ds ds' : List PyData} (hn : (muts δ cs).Nodup) : ∀ {cs' : List CA} {j0 : Nat}, (asOf δ cs' j0)[i]? = some (.own (some j) ds) → (asOf δ cs' j0)[i']? = some (.own (some j) ds') → i = i' := by
  intro cs'
  induction cs' generalizing i i' with
  | nil =>
    intro j0 h
    simp [asOf] at h
  | cons a r ih =>
    intro j0 h h'
    have ge : ∀ {q : Nat} {es : List PyData} {j1 : Nat}, (asOf δ r j1)[q]? = some (.own (some j) es) → j1 ≤ j := fun {q es j1} h => by
      obtain ⟨k, _, _, e, _⟩ := asOf_own (cs := r) h
      have := Option.some.inj e
      omega
    cases a with
    | d x =>
      cases i with
      | zero => cases (show some (Sl.dat x) = some (.own (some j) ds) from h)
      | succ i =>
        cases i' with
        | zero => cases (show some (Sl.dat x) = some (.own (some j) ds') from h')
        | succ i' => rw [ih (i := i) (i' := i') (j0 := j0) h h']
    | s k =>
      have ha : asOf δ (.s k :: r) j0 = (match δ[k]? with
        | some (.own _ ds) => .own (some j0) ds :: asOf δ r (j0 + 1)
        | some (.scr ds) => .scr ds :: asOf δ r j0
        | _ => .no :: asOf δ r j0) := rfl
      rw [ha] at h h'
      cases hs : δ[k]? with
      | none =>
        rw [hs] at h h'
        cases i with
        | zero => cases (show some Sl.no = some (.own (some j) ds) from h)
        | succ i =>
          cases i' with
          | zero => cases (show some Sl.no = some (.own (some j) ds') from h')
          | succ i' => rw [ih (i := i) (i' := i') (j0 := j0) h h']
      | some s =>
        rw [hs] at h h'
        cases s with
        | no =>
          cases i with
          | zero => cases (show some Sl.no = some (.own (some j) ds) from h)
          | succ i =>
            cases i' with
            | zero => cases (show some Sl.no = some (.own (some j) ds') from h')
            | succ i' => rw [ih (i := i) (i' := i') (j0 := j0) h h']
        | box b =>
          cases i with
          | zero => cases (show some Sl.no = some (.own (some j) ds) from h)
          | succ i =>
            cases i' with
            | zero => cases (show some Sl.no = some (.own (some j) ds') from h')
            | succ i' => rw [ih (i := i) (i' := i') (j0 := j0) h h']
        | dat d =>
          cases i with
          | zero => cases (show some Sl.no = some (.own (some j) ds) from h)
          | succ i =>
            cases i' with
            | zero => cases (show some Sl.no = some (.own (some j) ds') from h')
            | succ i' => rw [ih (i := i) (i' := i') (j0 := j0) h h']
        | scr d =>
          cases i with
          | zero => cases (show some (Sl.scr d) = some (.own (some j) ds) from h)
          | succ i =>
            cases i' with
            | zero => cases (show some (Sl.scr d) = some (.own (some j) ds') from h')
            | succ i' => rw [ih (i := i) (i' := i') (j0 := j0) h h']
        | own t0 d =>
          cases i with
          | zero =>
            cases (show some (Sl.own (some j0) d) = some (.own (some j) ds) from h)
            cases i' with
            | zero => rfl
            | succ i' =>
              have h' : (asOf δ r (j + 1))[i']? = some (.own (some j) ds') := h'
              have := ge h'
              omega
          | succ i =>
            have h : (asOf δ r (j0 + 1))[i]? = some (.own (some j) ds) := h
            cases i' with
            | zero =>
              cases (show some (Sl.own (some j0) d) = some (.own (some j) ds') from h')
              have := ge h
              omega
            | succ i' => rw [ih (i := i) (i' := i') (j0 := j0 + 1) h h']
theorem asOf_len {δ : List Sl} : ∀ (cs : List CA) (j0 : Nat), (asOf δ cs j0).length = cs.length
  | [], _ => rfl
  | .d x :: r, j0 => by
    show (asOf δ r j0).length + 1 = r.length + 1
    rw [asOf_len r]
  | .s k :: r, j0 => by
    show (match δ[k]? with
        | some (.own _ ds) => Sl.own (some j0) ds :: asOf δ r (j0 + 1)
        | some (.scr ds) => .scr ds :: asOf δ r j0
        | _ => .no :: asOf δ r j0).length = r.length + 1
    split <;> rw [List.length_cons, asOf_len r]
theorem asOf_dat {δ : List Sl} : ∀ {cs : List CA} {j0 i : Nat} {x : PyData}, (asOf δ cs j0)[i]? = some (.dat x) → cs[i]? = some (.d x)
  | [], _, i, _, h => by
    have h : ([] : List Sl)[i]? = some _ := h
    simp at h
  | .d y :: r, j0, i, x, h => by
    cases i with
    | zero =>
      cases (show some (Sl.dat y) = some (.dat x) from h)
      rfl
    | succ i => exact asOf_dat (cs := r) (j0 := j0) h
  | .s k :: r, j0, i, x, h => by
    have h : (match δ[k]? with
        | some (.own _ ds) => Sl.own (some j0) ds :: asOf δ r (j0 + 1)
        | some (.scr ds) => .scr ds :: asOf δ r j0
        | _ => .no :: asOf δ r j0)[i]? = some (.dat x) := h
    split at h
    · cases i with
      | zero => simp at h
      | succ i => exact asOf_dat (cs := r) (j0 := j0 + 1) h
    · cases i with
      | zero => simp at h
      | succ i => exact asOf_dat (cs := r) (j0 := j0) h
    · cases i with
      | zero => simp at h
      | succ i => exact asOf_dat (cs := r) (j0 := j0) h
theorem asOf_scr {δ : List Sl} : ∀ {cs : List CA} {j0 i : Nat} {x : List PyData}, (asOf δ cs j0)[i]? = some (.scr x) → ∃ k, cs[i]? = some (.s k) ∧ δ[k]? = some (.scr x)
  | [], _, i, _, h => by
    have h : ([] : List Sl)[i]? = some _ := h
    simp at h
  | .d y :: r, j0, i, x, h => by
    cases i with
    | zero => cases (show some (Sl.dat y) = some (.scr x) from h)
    | succ i => exact asOf_scr (cs := r) (j0 := j0) h
  | .s k :: r, j0, i, x, h => by
    have h : (match δ[k]? with
        | some (.own _ ds) => Sl.own (some j0) ds :: asOf δ r (j0 + 1)
        | some (.scr ds) => .scr ds :: asOf δ r j0
        | _ => .no :: asOf δ r j0)[i]? = some (.scr x) := h
    split at h
    · cases i with
      | zero => simp at h
      | succ i => exact asOf_scr (cs := r) (j0 := j0 + 1) h
    · rename_i ds hk
      cases i with
      | zero =>
        cases (show some (Sl.scr ds) = some (.scr x) from h)
        exact ⟨k, rfl, hk⟩
      | succ i => exact asOf_scr (cs := r) (j0 := j0) h
    · cases i with
      | zero => simp at h
      | succ i => exact asOf_scr (cs := r) (j0 := j0) h
theorem CAs.get_s {K : PySem.W.Frag} {G : Hp} {σ : L2.St} : ∀ {vs : List V} {cs : List CA} {i k : Nat}, CAs K G σ vs cs → cs[i]? = some (.s k) → ∃ v, vs[i]? = some v ∧ σ[k]? = some (some v)
  | _, _, _, _, .nil, h => by simp at h
  | _, _, 0, k, .d _ _, h => by simp at h
  | _, _, 0, k, .s q _, h => by
    simp at h
    subst h
    exact ⟨_, rfl, q⟩
  | _, _, i + 1, k, .d _ t, h => by
    obtain ⟨v, a, b⟩ := CAs.get_s (i := i) (k := k) t (by simpa using h)
    exact ⟨v, by simpa using a, b⟩
  | _, _, i + 1, k, .s _ t, h => by
    obtain ⟨v, a, b⟩ := CAs.get_s (i := i) (k := k) t (by simpa using h)
    exact ⟨v, by simpa using a, b⟩
theorem CAs.get_d {K : PySem.W.Frag} {G : Hp} {σ : L2.St} : ∀ {vs : List V} {cs : List CA} {i : Nat} {x : PyData}, CAs K G σ vs cs → cs[i]? = some (.d x) → ∃ v, vs[i]? = some v ∧ Rp K G v x
  | _, _, _, _, .nil, h => by simp at h
  | _, _, 0, x, .d q _, h => by
    simp at h
    subst h
    exact ⟨_, rfl, q⟩
  | _, _, 0, x, .s _ _, h => by simp at h
  | _, _, i + 1, x, .d _ t, h => by
    obtain ⟨v, a, b⟩ := CAs.get_d (i := i) (x := x) t (by simpa using h)
    exact ⟨v, by simpa using a, b⟩
  | _, _, i + 1, x, .s _ t, h => by
    obtain ⟨v, a, b⟩ := CAs.get_d (i := i) (x := x) t (by simpa using h)
    exact ⟨v, by simpa using a, b⟩
theorem setOut_len {δ : List Sl} {i : Nat} {o : List PyData} : (setOut δ i o).length = δ.length := by
  unfold setOut
  split
  · rw [List.length_set]
  · rfl
theorem setOut_get {δ : List Sl} {i k : Nat} {o : List PyData} {t : Option Nat} {ds : List PyData} (hi : δ[i]? = some (.own t ds)) : (setOut δ i o)[k]? = if i = k then some (.own t o) else δ[k]? := by
  unfold setOut
  rw [hi]
  show (δ.set i (.own t o))[k]? = _
  rw [List.getElem?_set]
  by_cases h : i = k
  · rw [if_pos h, if_pos h, if_pos (List.getElem?_eq_some_iff.mp hi).1]
  · rw [if_neg h, if_neg h]
theorem setOuts_get : ∀ {M : List Nat} {δ : List Sl} {outs : List (List PyData)} {k : Nat}, M.Nodup → outs.length = M.length → (∀ i ∈ M, ∃ t ds, δ[i]? = some (.own t ds)) →
    (setOuts δ M outs).length = δ.length ∧ (k ∉ M → (setOuts δ M outs)[k]? = δ[k]?) ∧ (∀ (j : Nat) (t : Option Nat) (ds : List PyData), M[j]? = some k → δ[k]? = some (.own t ds) → ∃ o, outs[j]? = some o ∧ (setOuts δ M outs)[k]? = some (.own t o))
  | [], δ, outs, k, _, _, _ => ⟨rfl, fun _ => rfl, fun j t ds h => by simp at h⟩
  | i :: M, δ, [], k, _, hl, _ => by simp at hl
  | i :: M, δ, o :: os, k, hn, hl, ho => by
    obtain ⟨hi, hn'⟩ := List.nodup_cons.mp hn
    obtain ⟨t0, ds0, h0⟩ := ho i List.mem_cons_self
    have ho' : ∀ q ∈ M, ∃ t ds, (setOut δ i o)[q]? = some (.own t ds) := fun q hq => by
      obtain ⟨t, ds, h⟩ := ho q (List.mem_cons_of_mem _ hq)
      rw [setOut_get h0, if_neg (fun z => hi (by rw [z]; exact hq))]
      exact ⟨t, ds, h⟩
    obtain ⟨a, b, cc⟩ := setOuts_get (M := M) (δ := setOut δ i o) (outs := os) (k := k) hn' (by simpa using hl) ho'
    show (setOuts (setOut δ i o) M os).length = δ.length ∧ _ ∧ _
    refine ⟨by rw [a, setOut_len], fun hk => ?_, fun j t ds hj hd => ?_⟩
    · show (setOuts (setOut δ i o) M os)[k]? = δ[k]?
      rw [b fun z => hk (List.mem_cons_of_mem _ z), setOut_get h0, if_neg fun z => hk (by rw [z]; exact List.mem_cons_self)]
    · show ∃ o', (o :: os)[j]? = some o' ∧ (setOuts (setOut δ i o) M os)[k]? = some (.own t o')
      cases j with
      | zero =>
        have e : i = k := by simpa using hj
        subst e
        rw [h0] at hd
        cases hd
        refine ⟨o, rfl, ?_⟩
        rw [b hi, setOut_get h0, if_pos rfl]
      | succ j =>
        have hj' : M[j]? = some k := by simpa using hj
        have ne : ¬ i = k := fun z => hi (by rw [z]; exact List.mem_of_getElem? hj')
        obtain ⟨o', q1, q2⟩ := cc j t ds hj' (by rw [setOut_get h0, if_neg ne]; exact hd)
        exact ⟨o', by simpa using q1, q2⟩
end TL

set_option Elab.async false
set_option linter.all false
set_option maxRecDepth 100000
set_option maxHeartbeats 2000000
/-! TLg: defs that run where nothing is being shown by repr (so that repr tells one text for one datum). -/
namespace TL
open PySem PySem.Spec PyProof.Rows L2

/-- room, and no repr under way -/
structure RoomG (k : Nat) (A : Around) : Prop where
  room : Room k A
  gd : A.guards = some []
theorem RoomG.mono {j k : Nat} {A : Around} (r : RoomG k A) (h : j ≤ k) : RoomG j A := ⟨r.room.mono h, r.gd⟩
theorem RoomG.deeper {k : Nat} {A : Around} (r : RoomG (k + 1) A) (env : Env) : RoomG k (A.deeper env) := ⟨r.room.deeper env, r.gd⟩
theorem RoomG.un {k : Nat} {A : Around} (r : RoomG k A) : A.units + 16 * k + 200 < cLine := r.room.un
theorem RoomG.units {k : Nat} {A : Around} (r : RoomG k A) : A.units + 64 < cLine := by
  have := r.un
  omega
theorem RoomG.units1 {k : Nat} {A : Around} (r : RoomG k A) : A.units + 65 < cLine := by
  have := r.un
  omega
structure FnOkG (P : Program) (w : World) (K : PySem.W.Frag) (mg : Str → Option Value) (base : Heap) (CX : CXT) (k : Nat) (f : Addr) (fd : FuncData) (ps : List Str) (sp : Sp) : Prop where
  len : ∀ vs H Q E, sp vs H Q E → vs.length = ps.length
  run : ∀ (B : Around) (out : List Env) (t : Shared) (H : Hp) (as : Args) (us : List Value) (vs : List V) (Q : VK) (E : XK), RoomG k B → Env0 P w K mg base B out t H → BindsTo t fd as (ps.zip us) → Vals vs us → sp vs H Q E →
    codeAny (model P w) B (.call (.ref f) as) (CR CX out P w H t Q E) t
section
variable {P : Program} {w : World} {K : PySem.W.Frag} {mg : Str → Option Value} {base : Heap} {CX : CXT} {j k : Nat} {f : Addr} {fd : FuncData} {ps : List Str} {sp sp' : Sp}
theorem FnOkG.mono (F : FnOkG P w K mg base CX j f fd ps sp) (h : j ≤ k) : FnOkG P w K mg base CX k f fd ps sp := ⟨F.len, fun B o t H as us vs Q E r => F.run B o t H as us vs Q E (r.mono h)⟩
theorem FnOkG.imp (F : FnOkG P w K mg base CX k f fd ps sp) (h : ∀ vs H Q E, sp' vs H Q E → sp vs H Q E) : FnOkG P w K mg base CX k f fd ps sp' :=
  ⟨fun vs H Q E q => F.len vs H Q E (h _ _ _ _ q), fun B o t H as us vs Q E r e b v q => F.run B o t H as us vs Q E r e b v (h _ _ _ _ q)⟩
end
section
variable {X : Cx} {CX : CXT} {k : Nat} {f : Addr} {fd : FuncData} {ps ks : List Str} {sp : Sp} {dvs : List V} {ds : List Value} {E : XK} {x : Str} {p pos : Pos} {e : Expr} {es : List Expr} {kws : List Keyword} {t tk : TA}
/-- the callee runs -/
theorem run_fnG {pins : List (Addr × Obj)} {σ : L2.St} {H : Hp} {z : Shared} {Q : VK} {us : List Value} {vs : List V} (F : FnOkG X.prog X.w X.K X.mg X.base CX k f fd ps sp) (hr : RoomG k X.A) (hb : Binds X.K fd ps ds) (hd : Vals dvs ds) (hx : Passes CX X E)
    (I : Inv X pins σ H z) (r : Vals vs us) (h : sp (vs ++ dvs) H Q E) : wpAny (model X.prog X.w) X.A (call (.ref f) us) (EP X pins σ Q) X.xe z := by
  have rr := r.append hd
  have len := rr.length.symm.trans (F.len _ _ _ _ h)
  refine wpAny_call (codeAny_mono (F.run X.A X.stack z H _ _ _ Q E hr I.env0 (hb z us I.kIn len) rr h) ?_)
  rintro (er | fl) z' hq
  · exact hx pins σ H z er z' I hq
  · cases fl <;> first
      | exact I.after hq
      | exact False.elim hq
theorem run_fnkG {g : List Value → List Value → List Value} {gV : List V → List V → List V} {pins : List (Addr × Obj)} {σ : L2.St} {H : Hp} {z : Shared} {Q : VK} {us ws : List Value} {vs zs : List V} (F : FnOkG X.prog X.w X.K X.mg X.base CX k f fd ps sp) (hr : RoomG k X.A)
    (hb : KBinds X.K fd ps ks g gV) (hx : Passes CX X E) (I : Inv X pins σ H z) (r : Vals vs us) (rz : Vals zs ws) (h : sp (gV vs zs) H Q E) : wpAny (model X.prog X.w) X.A (call (.ref f) us (ks.zip ws)) (EP X pins σ Q) X.xe z := by
  have rr := hb.rel r rz
  have len := rr.length.symm.trans (F.len _ _ _ _ h)
  refine wpAny_call (codeAny_mono (F.run X.A X.stack z H _ _ _ Q E hr I.env0 (hb.to z us ws I.kIn len) rr h) ?_)
  rintro (er | fl) z' hq
  · exact hx pins σ H z er z' I hq
  · cases fl <;> first
      | exact I.after hq
      | exact False.elim hq
theorem pe_callG (F : FnOkG X.prog X.w X.K X.mg X.base CX k f fd ps sp) (hr : RoomG k X.A) (hg : Gl X x) (hm : X.mg x = some (.ref f)) (hk : PySem.W.keepIn X.K (.ref f) = true) (hb : Binds X.K fd ps ds) (hd : Vals dvs ds) (hx : Passes CX X E) (ha : PA X (e :: es) t)
    (hdb : (x == ("__debug__" : Str)) = false := by decide) (he : starEach (e :: es) X.env = (false, eval e X.env) :: starEach es X.env := by rfl) (hpl : (backTo pos (starEach es X.env)).any (·.1) = false := by rfl) : PE X (.Call (.Name x p) (e :: es) [] pos) (tCall sp dvs E t) := by
  constructor
  intro pins z σ H Q I h
  refine wpAny_Call_Name_kw (ld_glob I hg hm ?_ hdb)
  exact PySem.W.callWith_K (h₀ := X.base) I.ok.mod.kin hk (thn (ha.run pos pins z σ H _ I h) fun us z1 ⟨vs, H1, I1, r, q⟩ => ⟨I1.kIn, run_fnG F hr hb hd hx I1 r q⟩) he hpl
theorem pe_callG0 (F : FnOkG X.prog X.w X.K X.mg X.base CX k f fd ps sp) (hr : RoomG k X.A) (hg : Gl X x) (hm : X.mg x = some (.ref f)) (hk : PySem.W.keepIn X.K (.ref f) = true) (hb : Binds X.K fd ps ds) (hd : Vals dvs ds) (hx : Passes CX X E)
    (hdb : (x == ("__debug__" : Str)) = false := by decide) : PE X (.Call (.Name x p) [] [] pos) (tCall sp dvs E tNil) := by
  constructor
  intro pins z σ H Q I h
  exact wpAny_Call_Name_kw (ld_glob I hg hm (PySem.W.callWith_K0 I.kIn hk (run_fnG (us := []) F hr hb hd hx I .nil h)) hdb)
end
section
variable {P : Program} {w : World} {K : PySem.W.Frag} {mg : Str → Option Value} {base : Heap} {CX : CXT}
/-- a def by its body -/
theorem fn_ofG {k : Nat} {f : Addr} {name qual : Str} {params : Arguments} {body : List Stmt} {scope : Scope} {dV kV doc pm cdv ct oc : Value} {an od : Option Addr} {osl : Array (Option Value)} {N ps : List Str} {sp : Sp}
    (lk : K.lookup f = some ⟨oc, od, .func (PySem.W.fnOf name qual params body scope dV kV doc pm an cdv ct), osl⟩) (hcd : PySem.W.codeIn K cdv qual = true) (S : FnScope N ps scope) (len : ∀ vs H Q E, sp vs H Q E → vs.length = ps.length)
    (hbody : ∀ (B : Around) (out : List Env) (z : Shared) (H : Hp) (vs : List V) (Q : VK) (E : XK), RoomG k (B.deeper (envOfC qual scope z.heap.objs.size f cdv)) → sp vs H Q E →
      ∃ t, PSs (cxOf CX P w K mg base N qual scope f cdv B out z H E) body t ∧ t { nx := fun _ H' => Q .non H', rt := Q } (start N vs) H) : FnOkG P w K mg base CX (k + 1) f (PySem.W.fnOf name qual params body scope dV kV doc pm an cdv ct) ps sp := by
  constructor
  · exact len
  intro B out z H as us vs Q E hr e0 hb r hsp
  have KZ := e0.mod.kin.keeps fun b o e => (e0.bs b o e).1
  have room := hr.deeper (envOfC qual scope z.heap.objs.size f cdv)
  obtain ⟨t, ht, hq⟩ := hbody B out z H vs Q E room hsp
  have kinds : ∀ y ∈ ps.zip us, scope.names.lookup y.1 = some .local ∨ (scope.names.lookup y.1 = some .cell ∧ ((cellsFrom (z.heap.objs.size + 1) scope.names []).lookup y.1).isSome = true) := by
    rintro ⟨n, v⟩ hy
    cases S.par n (List.of_mem_zip hy).1 with
    | inl q => exact Or.inl q
    | inr q => exact Or.inr ⟨q, PySem.W.cellsFrom_some _ _ _ (Or.inl q)⟩
  refine codeAny_call_function hr.room.depth (KZ _ _ lk) rfl S.co S.gen rfl (PySem.W.codeRec_of KZ hcd) (hb _ _ _ _ (wpAny_newFunctionEnv_cells S.kind kinds ?_))
  rintro env rfl z1 x
  have lim := (e0.mod.nolimit.keeps fun b o e => (e0.bs b o e).1).keeps x.toInCall.keep
  refine ⟨lim, codeAny_func ?_⟩
  have I := inv_start (CX := CX) (E := E) S hr.room.hd e0 (len _ _ _ _ hsp) r x
  refine wpAny_mono (ht.run [] z1 (start N vs) H _ I hq) ?_ (fun e s' hs => hs)
  intro fl z2 hs
  cases fl with
  | ret u =>
    obtain ⟨v, σ', H', J, rv, q⟩ := hs
    exact ⟨v, H', J.os, J.bare, J.base, J.hok, rv, q⟩
  | next =>
    obtain ⟨σ', H', J, q⟩ := hs
    exact ⟨V.non, H', J.os, J.bare, J.base, J.hok, rfl, q⟩
  | brk =>
    obtain ⟨_, _, _, q⟩ := hs
    cases q
  | cont =>
    obtain ⟨_, _, _, q⟩ := hs
    cases q
theorem fun_okG {x qual : Str} {st : Stmt} {f : Addr} {fd : FuncData} {N ps : List Str} {k : Nat} {sp : Sp} (F : Fun K x qual st f fd) (S : FnScope N ps (defScope st)) (len : ∀ vs H Q E, sp vs H Q E → vs.length = ps.length)
    (hbody : ∀ (cdv : Value) (B : Around) (out : List Env) (z : Shared) (H : Hp) (vs : List V) (Q : VK) (E : XK), RoomG k (B.deeper (envOfC qual (defScope st) z.heap.objs.size f cdv)) → sp vs H Q E →
      ∃ t, PSs (cxOf CX P w K mg base N qual (defScope st) f cdv B out z H E) (defBody st) t ∧ t { nx := fun _ H' => Q .non H', rt := Q } (start N vs) H) : FnOkG P w K mg base CX (k + 1) f fd ps sp := by
  obtain ⟨oc, od, kV, doc, pm, an, cdv, ct, osl, e, lk, hcd⟩ := F.ex
  subst e
  exact fn_ofG lk hcd S len (hbody cdv)

/-! ### the law's call -/
/-- nothing but the script is tracked -/
theorem law_at {fa a : Addr} {fd : FuncData} {x : Str} {k : Nat} {sp : Sp} {z : Shared} {us : List Value} {ns : List Int} {mb : Str → Option Value} (KX : K.In z.heap) (hns : z.heap.Ns mainGlobals mg) (hb : z.heap.Ns builtinsNs mb) (hbb : ∀ x : Str, x ≠ "__name__" → mb x = bootBuiltins x) (hlim : z.heap.NoLimit) (hg : z.gens = #[])
    (ha : z.heap.get? a = some { cls := .type "list", data := .seq us.toArray }) (hr : RoomG k callerA) (F : ∀ base : Heap, K.In base → base.Ns mainGlobals mg → FnOkG P w K mg base CX0 k fa fd [x] sp) (hbind : ∀ (s : Shared) (u : Value), BindsTo s fd ⟨[u], []⟩ [(x, u)])
    (H : Hp) (hO : Only H) (hok : HOk P w H z.heap) (hA : ∀ b, H b ≠ none → b = a ∧ K.lookup a = none) (hsp : sp [.ref a] H (fun v _ => v = .bl true) fun _ _ _ => False) :
    codeAny (model P w) callerA (.call (.ref fa) ⟨[.ref a], []⟩) (fun r s' => r = .ok (.ret (.bool true)) ∧ OldK z.heap s'.heap ∧ s'.os = z.os ∧ AllBare s'.gens) z := by
  have dict0 : ∀ {b : Addr} {o : Obj} {es : Array DictEntry} {ep : Nat}, z.heap.get? b = some o → o.data = .dict es ep → H b = none := by
    intro b o es ep e d
    by_cases q : H b = none
    · exact q
    · have eb := (hA b q).1
      rw [eb, ha] at e
      cases e
      cases (show Data.seq us.toArray _ = Data.dict es ep from d)
  have ns0 : ∀ {b : Addr} {m : Str → Option Value}, z.heap.Ns b m → (hidT z.heap H).Ns b m := by
    rintro b m ⟨o, es, ep, e, d, r⟩
    exact ⟨o, es, ep, hidT_get e (dict0 e d), d, r⟩
  have K0 : K.In (hidT z.heap H) := by
    intro b o e
    refine hidT_get (KX b o e) ?_
    by_cases q : H b = none
    · exact q
    · obtain ⟨eb, hk⟩ := hA b q
      rw [eb, hk] at e
      cases e
  obtain ⟨mc, l1, l2⟩ := hlim
  have M0 : Mod K mg (hidT z.heap H) := { kin := K0, glob := ns0 hns, blt := ⟨mb, ns0 hb, hbb⟩, nolimit := ⟨mc, ns0 l1, l2⟩ }
  have E0' : Env0 P w K mg (hidT z.heap H) callerA [] z H := { frames := rfl, mod := M0, bs := fun b o e => of_hidT e, bsz := Nat.le_of_eq (hidT_size _ _), funs := trivial, frf := (fun b hb => nomatch (show b ∈ ([] : List Addr) from hb)), hok := hok, bare := .of_eq hg }
  refine codeAny_mono ((F _ K0 (ns0 hns)).run callerA [] z H _ [.ref a] [.ref a] _ _ hr E0' (hbind z (.ref a)) (.cons rfl .nil) hsp) ?_
  rintro (er | fl) s' h
  · exact False.elim h
  cases fl <;> first
    | exact False.elim h
    | skip
  rename_i u
  obtain ⟨v, H', os, bare, un, hok', r', q⟩ := h
  have q : v = .bl true := q
  subst q
  have r' : u = Value.bool true := r'
  subst r'
  refine ⟨rfl, OldK.of_keep ?_, os, bare⟩
  intro b o e
  rcases hO b with q | ⟨ob, xs, q⟩
  · exact un.keep b o e q (fun m => nomatch (show b ∈ ([] : List Addr) from m)) (fun m => nomatch m)
  · obtain ⟨e1, _⟩ := hok b _ q
    obtain ⟨e2, _⟩ := hok' b _ (un.frzs b ob _ q)
    rw [e] at e1
    cases e1
    exact e2
theorem law_callG {fa a : Addr} {fd : FuncData} {x : Str} {k : Nat} {sp : Sp} {z : Shared} {us : List Value} {ns : List Int} {mb : Str → Option Value} (KX : K.In z.heap) (hns : z.heap.Ns mainGlobals mg) (hb : z.heap.Ns builtinsNs mb) (hbb : ∀ x : Str, x ≠ "__name__" → mb x = bootBuiltins x) (hlim : z.heap.NoLimit) (hg : z.gens = #[])
    (ha : z.heap.get? a = some { cls := .type "list", data := .seq us.toArray }) (hi : IntsAre us ns) (hl : ns.length ≤ sizeLine) (hr : RoomG k callerA) (F : ∀ base : Heap, K.In base → base.Ns mainGlobals mg → FnOkG P w K mg base CX0 k fa fd [x] sp) (hbind : ∀ (s : Shared) (u : Value), BindsTo s fd ⟨[u], []⟩ [(x, u)])
    (hsp : ∀ H : Hp, Only H → SqL K H a (ns.map V.int) → sp [.ref a] H (fun v _ => v = .bl true) fun _ _ _ => False) :
    codeAny (model P w) callerA (.call (.ref fa) ⟨[.ref a], []⟩) (fun r s' => r = .ok (.ret (.bool true)) ∧ OldK z.heap s'.heap ∧ s'.os = z.os ∧ AllBare s'.gens) z := by
  have rv := vals_ints hi
  have at_ := fun H hO hok hA hS => law_at (ns := ns) KX hns hb hbb hlim hg ha hr F hbind H hO hok hA (hsp H hO hS)
  cases hk : K.lookup a with
  | some o =>
    have e := KX a o hk
    rw [ha] at e
    cases e
    refine at_ (fun _ => none) (fun _ => .inl rfl) (fun b u q => nomatch (show (none : Option HO) = some u from q)) (fun b q => absurd rfl q) ?_
    exact .inr ⟨_, us.toArray, _, hk, rfl, rfl, rfl, by rw [List.size_toArray, hi.length]; exact hl, by simpa using rv⟩
  | none =>
    have on : ∀ {b : Addr} {u : HO}, (fun b => if b = a then some (HO.frz { cls := .type "list", data := .seq us.toArray } (.lst (ns.map V.int))) else none) b = some u → b = a ∧ u = .frz { cls := .type "list", data := .seq us.toArray } (.lst (ns.map V.int)) := by
      intro b u q
      by_cases h : b = a
      · exact ⟨h, (Option.some.inj ((if_pos h).symm.trans q)).symm⟩
      · cases (if_neg h).symm.trans q
    refine at_ (fun b => if b = a then some (.frz { cls := .type "list", data := .seq us.toArray } (.lst (ns.map V.int))) else none) (fun b => ?_) (fun b u q => ?_) (fun b q => ?_) (.inl (.inr ⟨_, if_pos rfl⟩))
    · by_cases h : b = a
      · exact .inr ⟨_, _, if_pos h⟩
      · exact .inl (if_neg h)
    · obtain ⟨rfl, rfl⟩ := on q
      exact ⟨ha, by rw [List.length_map]; exact hl, us, _, rv, ha⟩
    · by_cases h : b = a
      · exact ⟨h, hk⟩
      · exact absurd (if_neg h) q
theorem walk_ofG {l : PySem.W.OpenLaw} {n k : Nat} {q : Program} {loose : List Str} {XP : (Str → Option Value) → Heap → Prop} {YP : World → Heap → Prop} {d : DefRec} {K : Params → PySem.W.Frag} {sp : World → Sp} {x : Str}
    (hn : l.most = some n) (hn2 : n ≤ sizeLine) (hdf : d.params.defaults = []) (hr : Room k callerA) (hY : ∀ (w : World) (h : Heap), YP w h → (K w.params).In h)
    (F : ∀ (w : World) (mg : Str → Option Value) (fa : Addr) (h : Heap), (K w.params).In h → h.Ns mainGlobals mg → mg d.name = some (.ref fa) →
      ∃ fd : FuncData, (∀ (s : Shared) (u : Value), BindsTo s fd ⟨[u], []⟩ [(x, u)]) ∧ ∀ base : Heap, (K w.params).In base → base.Ns mainGlobals mg → FnOkG l.prog w (K w.params) mg base CX0 k fa fd [x] (sp w))
    (hsp : ∀ (w : World) (H : Hp) (a : Addr) (ns : List Int), ns.length ≤ n → Only H → SqL (K w.params) H a (ns.map V.int) → sp w [.ref a] H (fun v _ => v = .bl true) fun _ _ _ => False) :
    PySem.W.WalkO q loose XP YP l.row.toRowW d [] (fun f vs => PySem.call f vs) := by
  refine Att.attach_call hn hdf ?_
  intro w s0 z mg mb fa o pm cd doc a us ns G Y ho hd hcd hmg hobj hints hlen hg
  have KX := hY w _ Y
  obtain ⟨fd, hb, hF⟩ := F w mg fa _ KX G.T.g hmg
  exact law_callG KX G.T.g G.T.b G.T.builtins G.T.nolimit hg hobj hints (Nat.le_trans hlen hn2) ⟨hr, rfl⟩ hF hb fun H hO hS => hsp w H a ns hlen hO hS
end
end TL

set_option Elab.async false
set_option linter.all false
set_option maxRecDepth 100000
set_option maxHeartbeats 2000000
/-! TL7: calls and defs by data, the rules. -/
namespace TL
open PySem PySem.Spec L2

theorem map_some_get {vs : List V} {i : Nat} {v : V} (h : vs[i]? = some v) : (vs.map some)[i]? = some (some v) := by
  rw [List.getElem?_map, h]
  rfl
theorem addr_of {σ : L2.St} {i : Nat} {p : Addr} (h : σ[i]? = some (some (.ref p))) : addr σ i = p := by
  unfold addr
  rw [h]
theorem getD_of {M : List Nat} {j i : Nat} (h : M[j]? = some i) : M.getD j 0 = i := by
  rw [List.getD_eq_getElem?_getD, h]
  rfl
section
variable [XW]
variable {K : PySem.W.Frag} {c : Cf} {G H G' H' : Hp} {σ : L2.St} {δ : List Sl} {cs : List CA} {vs : List V} {outs : List (List PyData)}
abbrev calleeC (σ : L2.St) (M : List Nat) (G H : Hp) : Cf := ⟨fun j => addr σ (M.getD j 0), M.length, G, H, []⟩
/-- the list in a slot handed on -/
theorem mut_at (E : EnvOk K c G H σ δ) {j : Nat} (hj : j < (muts δ cs).length) : ∃ i t ds p xs, (muts δ cs)[j]? = some i ∧ δ[i]? = some (.own t ds) ∧ σ[i]? = some (some (.ref p)) ∧ G p = none ∧ H p = some (.lst xs) ∧ RpAll K G xs ds ∧ addr σ ((muts δ cs).getD j 0) = p ∧
    (match t with
        | some j => j < c.n ∧ p = c.τ j
        | none => c.H0 p = none ∧ ∀ j, j < c.n → p ≠ c.τ j) := by
  have hi : (muts δ cs)[j]? = some (muts δ cs)[j] := List.getElem?_eq_getElem hj
  obtain ⟨t, ds, h⟩ := muts_own (List.mem_of_getElem? hi)
  obtain ⟨p, xs, e, g, hh, r, q⟩ := E.sl _ _ h
  exact ⟨_, t, ds, p, xs, hi, h, e, g, hh, r, by rw [getD_of hi]; exact addr_of e, q⟩
theorem asOf_box {δ : List Sl} : ∀ {cs : List CA} {j0 i : Nat} {b : Box}, (asOf δ cs j0)[i]? ≠ some (.box b)
  | [], j0, i, b, h => by
    have h : ([] : List Sl)[i]? = some (.box b) := h
    simp at h
  | .d x :: r, j0, i, b, h => by
    cases i with
    | zero => cases (show some (Sl.dat x) = some (.box b) from h)
    | succ i => exact asOf_box (cs := r) (i := i) (j0 := j0) h
  | .s k :: r, j0, i, b, h => by
    have ha : asOf δ (.s k :: r) j0 = (match δ[k]? with
        | some (.own _ ds) => .own (some j0) ds :: asOf δ r (j0 + 1)
        | some (.scr ds) => .scr ds :: asOf δ r j0
        | _ => .no :: asOf δ r j0) := rfl
    rw [ha] at h
    cases i with
    | zero => split at h <;> cases h
    | succ i =>
      split at h
      · exact asOf_box (cs := r) (i := i) (j0 := j0 + 1) h
      · exact asOf_box (cs := r) (i := i) (j0 := j0) h
      · exact asOf_box (cs := r) (i := i) (j0 := j0) h
theorem callee_env (E : EnvOk K c G H σ δ) (r : CAs K G σ vs cs) (hn : (muts δ cs).Nodup) : EnvC K (calleeC σ (muts δ cs) G H) G H (vs.map some) (asOf δ cs 0) where
  g0 := Ex.refl _
  ex := E.ex
  fr := fun a o h _ => h
  fs := fun a h _ => h
  tg := fun j hj => by
    obtain ⟨i, t, ds, p, xs, _, _, _, g, hh, _, ea, _⟩ := mut_at E hj
    show H (addr σ ((muts δ cs).getD j 0)) ≠ none ∧ G (addr σ ((muts δ cs).getD j 0)) = none
    rw [ea, hh]
    exact ⟨(by intro z; cases z), g⟩
  len := by rw [List.length_map, r.len, asOf_len]
  sl := fun i s h => by
    cases s with
    | no => trivial
    | box b => trivial
    | dat x =>
      obtain ⟨v, hv, rv⟩ := r.get_d (asOf_dat h)
      exact ⟨v, map_some_get hv, rv⟩
    | scr x =>
      obtain ⟨k, h1, h2⟩ := asOf_scr h
      obtain ⟨v, hv, hσ⟩ := r.get_s h1
      obtain ⟨a, xs, e, q, rr⟩ := E.sl k _ h2
      rw [hσ] at e
      have ev := Option.some.inj (Option.some.inj e)
      subst ev
      exact ⟨a, xs, map_some_get hv, q, rr⟩
    | own t ds =>
      obtain ⟨k, i', t', et, hM, hδ, hc⟩ := asOf_own h
      obtain ⟨v, hv, hσ⟩ := r.get_s hc
      obtain ⟨p, xs, e, g, hh, rr, _⟩ := E.sl i' _ hδ
      rw [hσ] at e
      have ev := Option.some.inj (Option.some.inj e)
      subst ev
      refine ⟨p, xs, map_some_get hv, g, hh, rr, ?_⟩
      rw [et, Nat.zero_add]
      refine ⟨(List.getElem?_eq_some_iff.mp hM).1, ?_⟩
      show p = addr σ ((muts δ cs).getD k 0)
      rw [getD_of hM, addr_of hσ]
  ap := fun i j t1 d1 t2 d2 hij h1 h2 => by
    obtain ⟨k1, i1, t1', e1, hM1, hδ1, hc1⟩ := asOf_own h1
    obtain ⟨k2, i2, t2', e2, hM2, hδ2, hc2⟩ := asOf_own h2
    obtain ⟨v1, hv1, hσ1⟩ := r.get_s hc1
    obtain ⟨v2, hv2, hσ2⟩ := r.get_s hc2
    rw [map_some_get hv1, map_some_get hv2]
    intro z
    have ev := Option.some.inj (Option.some.inj z)
    by_cases hk : k1 = k2
    · subst hk
      rw [e1] at h1
      rw [e2] at h2
      exact hij (asOf_tag hn h1 h2)
    · have ne : i1 ≠ i2 := fun q => hk (nd_ix hn hM1 (by rw [q]; exact hM2))
      exact E.ap i1 i2 _ _ _ _ ne hδ1 hδ2 (by rw [hσ1, hσ2, ev])
  hd := fun p xs h => nomatch h
  bx := BoxOk.none fun i b => asOf_box
theorem caller_box (E : EnvOk K c G H σ δ) (hn : (muts δ cs).Nodup) (hl : outs.length = (muts δ cs).length) (F : Fin K (calleeC σ (muts δ cs) G H) G' H' outs) {c' : Cf} (h0 : c'.H0 = c.H0) (hτ : c'.τ = c.τ) (hN : c'.n = c.n)
    (hh : ∀ a, H a ≠ none → (∀ o, (a, o) ∉ c.hid) → ∀ o, (a, o) ∉ c'.hid) : BoxOk K c' G' H' σ (setOuts δ (muts δ cs) outs) := by
  have so := fun k => setOuts_get (M := muts δ cs) (δ := δ) (outs := outs) (k := k) hn hl fun i hi => muts_own hi
  refine E.bx.step F.g0 (fun k b h => ?_) fun a ha f => ⟨?_, F.fs a f.g ha, by rw [h0]; exact f.h0, by rw [hN, hτ]; exact f.tg, hh a ha f.hd, fun k t ds h => ?_⟩
  · by_cases hk : k ∈ muts δ cs
    · obtain ⟨j, hj, e⟩ := List.mem_iff_getElem.mp hk
      obtain ⟨t', ds', hd⟩ := muts_own hk
      obtain ⟨o, _, q⟩ := (so k).2.2 j t' ds' (by rw [List.getElem?_eq_getElem hj, e]) hd
      rw [h] at q
      cases q
    · rw [(so k).2.1 hk] at h
      exact ⟨h, rfl⟩
  · cases q : H a with
    | none => exact absurd q ha
    | some o =>
      refine F.fr a o q fun j hj z => ?_
      obtain ⟨i, t, ds, p, xs, hi, hd, hσ, _, _, _, ea, _⟩ := mut_at E hj
      have z : a = addr σ ((muts δ cs).getD j 0) := z
      rw [ea] at z
      exact f.ow i t ds hd (by rw [hσ, z])
  · by_cases hk : k ∈ muts δ cs
    · obtain ⟨t', ds', hd⟩ := muts_own hk
      exact f.ow k t' ds' hd
    · rw [(so k).2.1 hk] at h
      exact f.ow k t ds h
theorem caller_back (E : EnvOk K c G H σ δ) (hn : (muts δ cs).Nodup) (hl : outs.length = (muts δ cs).length) (F : Fin K (calleeC σ (muts δ cs) G H) G' H' outs) : EnvOk K c G' H' σ (setOuts δ (muts δ cs) outs) := by
  have so := fun k => setOuts_get (M := muts δ cs) (δ := δ) (outs := outs) (k := k) hn hl fun i hi => muts_own hi
  -- what is no callee's own list stays
  have far : ∀ a, (∀ (i : Nat) (t : Option Nat) (ds : List PyData), i ∈ muts δ cs → δ[i]? = some (.own t ds) → σ[i]? ≠ some (some (.ref a))) → ∀ o, H a = some o → H' a = some o := fun a ha o h => by
    refine F.fr a o h fun j hj z => ?_
    obtain ⟨i, t, ds, p, xs, hi, hd, hσ, _, _, _, ea, _⟩ := mut_at E hj
    have z : a = addr σ ((muts δ cs).getD j 0) := z
    rw [ea] at z
    exact ha i t ds (List.mem_of_getElem? hi) hd (by rw [hσ, z])
  have gno : ∀ a, G a = none → H a ≠ none → G' a = none := F.fs
  have back : ∀ (k : Nat) (t : Option Nat) (ds : List PyData), (setOuts δ (muts δ cs) outs)[k]? = some (.own t ds) → ∃ ds', δ[k]? = some (.own t ds') := fun k t ds h => by
    by_cases hk : k ∈ muts δ cs
    · obtain ⟨j, hj, e⟩ := List.mem_iff_getElem.mp hk
      obtain ⟨t', ds', hd⟩ := muts_own hk
      obtain ⟨o, _, q⟩ := (so k).2.2 j t' ds' (by rw [List.getElem?_eq_getElem hj, e]) hd
      rw [h] at q
      cases q
      exact ⟨ds', hd⟩
    · rw [(so k).2.1 hk] at h
      exact ⟨ds, h⟩
  have tagH : ∀ j, j < c.n → H' (c.τ j) ≠ none := fun j hj => by
    by_cases hk : ∃ j', j' < (muts δ cs).length ∧ c.τ j = addr σ ((muts δ cs).getD j' 0)
    · obtain ⟨j', hj', e⟩ := hk
      rw [e]
      exact (F.tg j' hj').1
    · cases q : H (c.τ j) with
      | none => exact absurd q (E.tg j hj).1
      | some o =>
        rw [F.fr _ o q fun j' hj' z => hk ⟨j', hj', z⟩]
        exact fun z => nomatch z
  exact {
    xw := E.xw
    g0 := E.g0.trans F.g0
    ex := F.ex
    fr := fun a o h k => by
      refine far a (fun i t ds _ hd hσ => ?_) o (E.fr a o h k)
      obtain ⟨p, xs, e, _, _, _, q⟩ := E.sl i _ hd
      rw [hσ] at e
      have ev := V.ref.inj (Option.some.inj (Option.some.inj e))
      subst ev
      cases t with
      | none =>
        rw [q.1] at h
        cases h
      | some j => exact k j q.1 q.2
    fs := fun a h1 h2 => by
      by_cases ht : ∃ j, j < c.n ∧ a = c.τ j
      · obtain ⟨j, hj, rfl⟩ := ht
        exact gno _ (E.tg j hj).2 (E.tg j hj).1
      · refine gno a (E.fs a h1 h2) ?_
        cases q : c.H0 a with
        | none => exact absurd q h2
        | some o =>
          rw [E.fr a o q fun j hj z => ht ⟨j, hj, z⟩]
          exact fun z => nomatch z
    tg := fun j hj => ⟨tagH j hj, gno _ (E.tg j hj).2 (E.tg j hj).1⟩
    len := by rw [E.len, (so 0).1]
    sl := fun k s h => by
      by_cases hk : k ∈ muts δ cs
      · obtain ⟨j, hj, e⟩ := List.mem_iff_getElem.mp hk
        have hj' : (muts δ cs)[j]? = some k := by rw [List.getElem?_eq_getElem hj, e]
        obtain ⟨i, t, ds, p, xs, hi, hd, hσ, g, hh, _, ea, q⟩ := mut_at E hj
        rw [hj'] at hi
        cases hi
        obtain ⟨o, ho, so'⟩ := (so k).2.2 j t ds hj' hd
        rw [h] at so'
        cases so'
        obtain ⟨ys, f1, f2⟩ := F.out j o ho
        have f1 : H' (addr σ ((muts δ cs).getD j 0)) = some (.lst ys) := f1
        rw [ea] at f1
        exact ⟨p, ys, hσ, gno p g (by rw [hh]; exact fun z => nomatch z), f1, f2, q⟩
      · rw [(so k).2.1 hk] at h
        have z := E.sl k s h
        cases s with
        | no => trivial
        | box b => trivial
        | dat d =>
          obtain ⟨x, e, r⟩ := z
          exact ⟨x, e, r.up F.g0⟩
        | scr d =>
          obtain ⟨a, xs, e, q, r⟩ := z
          exact ⟨a, xs, e, ex_l F.g0 q, r.up F.g0⟩
        | own t ds =>
          obtain ⟨p, xs, e, g, hh, r, q⟩ := z
          refine ⟨p, xs, e, gno p g (by rw [hh]; exact fun z => nomatch z), far p (fun i t' ds' hi hd hσ => ?_) _ hh, r.up F.g0, q⟩
          exact E.ap k i _ _ _ _ (fun z => hk (by rw [z]; exact hi)) h hd (by rw [e, hσ])
    ap := fun i j t1 d1 t2 d2 hij h1 h2 => by
      obtain ⟨e1, b1⟩ := back i t1 d1 h1
      obtain ⟨e2, b2⟩ := back j t2 d2 h2
      exact E.ap i j _ _ _ _ hij b1 b2
    hd := fun p xs hm => by
      obtain ⟨a1, a2, a3, a4, a5⟩ := E.hd p xs hm
      refine ⟨far p (fun i t ds _ hd => a5 i t ds hd) _ a1, gno p a2 (by rw [a1]; exact fun z => nomatch z), a3, a4, fun i t ds hs => ?_⟩
      obtain ⟨ds', b⟩ := back i t ds hs
      exact a5 i t ds' b
    bx := caller_box E hn hl F rfl rfl rfl fun _ _ h => h }
theorem re_call {S : DSp} {t : TA} {ua : DCA} (ha : RCA K t ua) : RE K (tCall (spD K S) [] E0 t) (dCall S ua) := by
  intro c σ G H δ Q R E h k
  refine ha c σ G H δ _ _ E h fun cs δ1 vs G1 H1 h1 E1 e1 r1 => ?_
  obtain ⟨hn, hS⟩ := h1
  show spD K S (vs ++ []) H1 Q E0
  rw [List.append_nil]
  refine ⟨calleeC σ (muts δ1 cs) G1 H1, asOf δ1 cs 0, _, rfl, rfl, callee_env E1 r1 hn, hS, fun d outs v G' H' hR F rv => ?_⟩
  exact k d _ v G' H' hR.2 (caller_back E1 hn hR.1 F) (e1.trans F.g0) rv
theorem rs_callOwn {S : DSn} {t : TA} {ua : DCA} {i : Nat} (ha : RCA K t ua) : RS K (tAsg (tCall (spN K S) [] E0 t) (gName i)) (fun E δ => dCallOwn i S ua E.nx δ) := by
  intro c σ G H δ D E EV h k
  refine ha c σ G H δ _ _ EV h fun cs δ1 vs G1 H1 h1 E1 e1 r1 => ?_
  obtain ⟨hn, hS⟩ := h1
  show spN K S (vs ++ []) H1 _ E0
  rw [List.append_nil]
  refine ⟨calleeC σ (muts δ1 cs) G1 H1, asOf δ1 cs 0, _, rfl, rfl, callee_env E1 r1 hn, hS, fun ds outs p xs G' H' hR F hp gp hh rr => ?_⟩
  have EB := caller_back E1 hn hR.1 F
  have old : ∀ (j : Nat) (t : Option Nat) (es : List PyData), (setOuts δ1 (muts δ1 cs) outs)[j]? = some (Sl.own t es) → σ[j]? ≠ some (some (V.ref p)) := fun j t es hs z => by
    have so := setOuts_get (M := muts δ1 cs) (δ := δ1) (outs := outs) (k := j) hn hR.1 fun i hi => muts_own hi
    have hd : ∃ t' ds', δ1[j]? = some (Sl.own t' ds') := by
      by_cases hj : j ∈ muts δ1 cs
      · exact muts_own hj
      · rw [so.2.1 hj] at hs
        exact ⟨_, _, hs⟩
    obtain ⟨t', ds', hd⟩ := hd
    obtain ⟨q, ys, e, _, q1, _⟩ := E1.sl j _ hd
    rw [z] at e
    rw [← V.ref.inj (Option.some.inj (Option.some.inj e)), hp] at q1
    cases q1
  have n0 : ∀ zs, (p, zs) ∉ c.hid := fun zs z => by
    have q := (E1.hd p zs z).1
    rw [hp] at q
    cases q
  have EH : EnvOk K { c with hid := (p, .lst xs) :: c.hid } G' H' σ (setOuts δ1 (muts δ1 cs) outs) := {
    xw := EB.xw, g0 := EB.g0, ex := EB.ex, fr := EB.fr, fs := EB.fs, tg := EB.tg, len := EB.len
    sl := fun i s h => by
      have z := EB.sl i s h
      cases s with
      | no => trivial
      | box b => trivial
      | dat d => exact z
      | scr d => exact z
      | own t d => exact z
    ap := EB.ap
    hd := fun q ys hm => by
      rcases List.mem_cons.mp hm with e | hm
      · cases e
        exact ⟨hh, gp, E1.new0 hp, fun j hj z => (E1.tg j hj).1 (by rw [← z]; exact hp), old⟩
      · exact EB.hd q ys hm
    bx := caller_box E1 hn hR.1 F rfl rfl rfl fun a ha h o hm => by
      rcases List.mem_cons.mp hm with e | hm
      · cases e
        exact ha hp
      · exact h o hm }
  exact k.nx _ G' H' _ hR.2 (EH.give n0 rr i) (e1.trans F.g0)
end

/-! ### a def -/
def OutsIn (δ : List Sl) (outs : List (List PyData)) : Prop := ∀ (j : Nat) (cs : List PyData), outs[j]? = some cs → ∃ i : Nat, δ[i]? = some (Sl.own (some j) cs)
theorem outs0 {δ : List Sl} : OutsIn δ [] := fun j cs h => by simp at h
def endsOf (R : PyData → List (List PyData) → Prop) : DEnds where
  nx := fun δ => ∃ outs, R .none outs ∧ OutsIn δ outs
  rt := fun d δ => ∃ outs, R d outs ∧ OutsIn δ outs
section
variable {P : Program} {w : World} {K : PySem.W.Frag} {mg : Str → Option Value} {base : Heap}
theorem EnvC.more {c : Cf} {G H : Hp} {σ : L2.St} {δ : List Sl} (E : EnvC K c G H σ δ) (n : Nat) : EnvC K c G H (σ ++ List.replicate n none) (δ ++ List.replicate n .no) := by
  have g1 : ∀ (i : Nat) (s : Sl), (δ ++ List.replicate n Sl.no)[i]? = some s → s ≠ Sl.no → δ[i]? = some s ∧ (σ ++ List.replicate n none)[i]? = σ[i]? := fun i s h hs => by
    by_cases hi : i < δ.length
    · rw [List.getElem?_append_left hi] at h
      exact ⟨h, List.getElem?_append_left (by rw [E.len]; exact hi)⟩
    · rw [List.getElem?_append_right (by omega), List.getElem?_replicate] at h
      split at h
      · exact absurd (Option.some.inj h).symm hs
      · cases h
  exact {
    g0 := E.g0, ex := E.ex, fr := E.fr, fs := E.fs, tg := E.tg
    len := by rw [List.length_append, List.length_append, List.length_replicate, List.length_replicate, E.len]
    sl := fun i s h => by
      cases s with
      | no => trivial
      | box b => trivial
      | dat d =>
        obtain ⟨a, b⟩ := g1 i _ h (by intro z; cases z)
        rw [b]
        exact E.sl i _ a
      | scr d =>
        obtain ⟨a, b⟩ := g1 i _ h (by intro z; cases z)
        rw [b]
        exact E.sl i _ a
      | own t d =>
        obtain ⟨a, b⟩ := g1 i _ h (by intro z; cases z)
        rw [b]
        exact E.sl i _ a
    ap := fun i j t1 d1 t2 d2 hij h1 h2 => by
      obtain ⟨a, b⟩ := g1 i _ h1 (by intro z; cases z)
      obtain ⟨a', b'⟩ := g1 j _ h2 (by intro z; cases z)
      rw [b, b']
      exact E.ap i j _ _ _ _ hij a a'
    hd := fun p xs h => by
      obtain ⟨a1, a2, a3, a4, a5⟩ := E.hd p xs h
      refine ⟨a1, a2, a3, a4, fun i t ds hs => ?_⟩
      obtain ⟨a, b⟩ := g1 i _ hs (by intro z; cases z)
      rw [b]
      exact a5 i t ds a
    bx := E.bx.step (Ex.refl _) (fun i b h => g1 i _ h (by intro z; cases z)) fun a _ f => ⟨rfl, f.g, f.h0, f.tg, f.hd, fun i t ds hs => by
      obtain ⟨h1, h2⟩ := g1 i _ hs (by intro z; cases z)
      rw [h2]
      exact f.ow i t ds h1⟩ }
theorem fnD {x qual : Str} {st : Stmt} {f : Addr} {fd : FuncData} {N ps : List Str} {k : Nat} {S : DSp} (F : Fun K x qual st f fd) (sc : FnScope N ps (defScope st)) (len : ∀ as R, S as R → as.length = ps.length)
    (hbody : ∀ (cdv : Value) (A : Around) (outer : List Env) (s : Shared) (H : Hp) (E : XK), RoomG k (A.deeper (PyProof.Rows.envOfC qual (defScope st) s.heap.objs.size f cdv)) →
      ∃ t u, DSs (cxOf CX0 P w K mg base N qual (defScope st) f cdv A outer s H E).nox (defBody st) t u ∧ ∀ as R, S as R → u (endsOf R) (as ++ List.replicate (N.length - ps.length) .no)) : FnOkG P w K mg base CX0 (k + 1) f fd ps (spD K S) := by
  refine fun_okG F sc (fun vs H Q E h => ?_) (fun cdv A outer s H vs Q E hr h => ?_)
  · obtain ⟨c, as, R, _, _, EV, hS, _⟩ := h
    have := EV.len
    rw [List.length_map] at this
    rw [this]
    exact len as R hS
  · obtain ⟨c, as, R, hh, h0, EV, hS, k⟩ := h
    obtain ⟨t, u, D, red⟩ := hbody cdv A outer s H E hr
    refine ⟨t, D.ps.nox, ?_⟩
    have l1 : vs.length = ps.length := by
      have := EV.len
      rw [List.length_map] at this
      rw [this]
      exact len as R hS
    have EV' : EnvOk K c c.G0 H (L2.start N vs) (as ++ List.replicate (N.length - ps.length) .no) := by
      have z := (EV.more (N.length - ps.length)).ok
      unfold L2.start
      rw [l1]
      exact z
    have fin : ∀ {σ' : L2.St} {G' H' : Hp} {δ' : List Sl} {outs : List (List PyData)}, EnvOk K c G' H' σ' δ' → OutsIn δ' outs → Fin K c G' H' outs := fun {σ' G' H' δ' outs} E ho =>
      ⟨E.g0, E.ex, E.fr, E.fs, E.tg, fun j cs hj => by
        obtain ⟨i, hi⟩ := ho j cs hj
        obtain ⟨p, xs, _, _, hh, r, q⟩ := E.sl i _ hi
        exact ⟨xs, by rw [← q.2]; exact hh, r⟩⟩
    refine D.rs c (L2.start N vs) c.G0 H _ _ (endsOf R) EV' (red as R hS) ⟨?_, ?_, ?_, ?_, ?_, hh⟩
    · rintro σ' G' H' δ' ⟨outs, hR, ho⟩ E' e
      exact k .none outs .non G' H' hR (fin E' ho) .non
    · rintro d δ' v σ' G' H' ⟨outs, hR, ho⟩ E' e r
      exact k d outs v G' H' hR (fin E' ho) r
    · exact fun σ' G' H' δ' a _ _ => False.elim a
    · exact fun σ' G' H' δ' a _ _ => False.elim a
    · exact fun ds δ' p xs σ' G' H' a _ _ _ _ => False.elim a
def endsNew (R : List PyData → List (List PyData) → Prop) : DEnds where
  nx := fun _ => False
  rt := fun _ _ => False
  rn := fun ds δ => ∃ outs, R ds outs ∧ OutsIn δ outs
/-- a def that hands back a new list -/
theorem fnN {x qual : Str} {st : Stmt} {f : Addr} {fd : FuncData} {N ps : List Str} {k : Nat} {S : DSn} (F : Fun K x qual st f fd) (sc : FnScope N ps (defScope st)) (len : ∀ as R, S as R → as.length = ps.length)
    (hbody : ∀ (cdv : Value) (A : Around) (outer : List Env) (s : Shared) (H : Hp) (E : XK), RoomG k (A.deeper (PyProof.Rows.envOfC qual (defScope st) s.heap.objs.size f cdv)) →
      ∃ t u, DSs (cxOf CX0 P w K mg base N qual (defScope st) f cdv A outer s H E).nox (defBody st) t u ∧ ∀ as R, S as R → u (endsNew R) (as ++ List.replicate (N.length - ps.length) .no)) : FnOkG P w K mg base CX0 (k + 1) f fd ps (spN K S) := by
  refine fun_okG F sc (fun vs H Q E h => ?_) (fun cdv A outer s H vs Q E hr h => ?_)
  · obtain ⟨c, as, R, _, _, EV, hS, _⟩ := h
    have := EV.len
    rw [List.length_map] at this
    rw [this]
    exact len as R hS
  · obtain ⟨c, as, R, hh, h0, EV, hS, k⟩ := h
    obtain ⟨t, u, D, red⟩ := hbody cdv A outer s H E hr
    refine ⟨t, D.ps.nox, ?_⟩
    have l1 : vs.length = ps.length := by
      have := EV.len
      rw [List.length_map] at this
      rw [this]
      exact len as R hS
    have EV' : EnvOk K c c.G0 H (L2.start N vs) (as ++ List.replicate (N.length - ps.length) .no) := by
      have z := (EV.more (N.length - ps.length)).ok
      unfold L2.start
      rw [l1]
      exact z
    refine D.rs c (L2.start N vs) c.G0 H _ _ (endsNew R) EV' (red as R hS) ⟨fun σ' G' H' δ' a _ _ => False.elim a, fun d δ' v σ' G' H' a _ _ _ => False.elim a, fun σ' G' H' δ' a _ _ => False.elim a, fun σ' G' H' δ' a _ _ => False.elim a, ?_, hh⟩
    rintro ds δ' p xs σ' G' H' ⟨outs, hR, ho⟩ E' hn e r
    obtain ⟨q1, q2, q3, q4, q5⟩ := E'.hd p _ List.mem_cons_self
    refine k ds outs p xs G' H' hR ⟨E'.g0, E'.ex, E'.fr, E'.fs, E'.tg, fun j cs hj => ?_⟩ (by rw [← h0]; exact q3) q2 q1 r
    obtain ⟨i, hi⟩ := ho j cs hj
    obtain ⟨p', ys, _, _, hh', r', q⟩ := E'.sl i _ hi
    exact ⟨ys, by rw [← q.2]; exact hh', r'⟩
end
end TL

set_option Elab.async false
set_option linter.all false
set_option maxRecDepth 100000
set_option maxHeartbeats 2000000
/-! TL8: the rules by syntax. -/
namespace TL
open PySem PySem.Spec L2
variable [XW]

/-- a def that may be called by its name -/
structure Kn (P : Program) (w : World) (K : PySem.W.Frag) (mg : Str → Option Value) (base : Heap) (k : Nat) (x : Str) (S : DSp) : Prop where
  ex : ∃ (f : Addr) (fd : FuncData) (ps : List Str), FnOkG P w K mg base CX0 k f fd ps (spD K S) ∧ mg x = some (.ref f) ∧ PySem.W.keepIn K (.ref f) = true ∧ Binds K fd ps []
section
variable {X : Cx} {a b c e : Expr} {es : List Expr} {ta tb tc te : TE} {ua ub uc ue : DTE} {pos p p2 : Pos} {t t' : TS} {u u' : DTS} {tt : TT} {ut : DTT} {tr : TA} {ur : DTA} {tca : TA} {uca : DCA}
theorem de_chain {op op' : CmpOp} {r r' : R2} {rd rd' : R2D} (ho : OpR X (compareOp op) r) (hr : RO X.K r rd) (ho' : OpR X (compareOp op') r') (hr' : RO X.K r' rd') (ha : DE X a ta ua) (hb : DE X b tb ub) (hc : DE X c tc uc)
    (hm : lastMarks [op, op'] [b, c] = false := by with_unfolding_all rfl) : DE X (.Compare a [op, op'] [b, c] pos) (tChain r r' ta tb tc) (dChain rd rd' ua ub uc) := ⟨pe_chain ho ho' ha.pe hb.pe hc.pe hm, re_chain ha.re hb.re hc.re hr hr'⟩
theorem dt_chain {op op' : CmpOp} {r r' : R2} {rd rd' : R2D} (ho : OpR X (compareOp op) r) (hr : RO X.K r rd) (ho' : OpR X (compareOp op') r') (hr' : RO X.K r' rd') (ha : DE X a ta ua) (hb : DE X b tb ub) (hc : DE X c tc uc)
    (hm : lastMarks [op, op'] [b, c] = false := by with_unfolding_all rfl) : DT X (.Compare a [op, op'] [b, c] pos) (tTest (tChain r r' ta tb tc)) (dTest (dChain rd rd' ua ub uc)) := ⟨pt_chain ho ho' ha.pe hb.pe hc.pe hm, rt_test (re_chain ha.re hb.re hc.re hr hr')⟩
theorem de_ixV (i : Nat) {x : Str} (hb : DE X b tb ub) (hN : X.N[i]? = some x := by rfl) (hv : Vis X.env.scope x := by first | exact Or.inl rfl | exact Or.inr (Or.inl rfl) | exact Or.inr (Or.inr rfl)) (hd : (x == ("__debug__" : Str)) = false := by decide)
    (hcd : (x == ("__classdict__" : Str)) = false := by decide) (hs : PlainIx b := by exact fun _ _ => rfl) : DE X (.Subscript (.Name x p) b pos) (tOp (rIxL X.K) (tVar i) tb) (dIxV i ub) := ⟨pe_ix ix_list (pe_var hN hv hd hcd) hb.pe hs, re_ixV hb.re⟩
theorem de_len {ps : Pos} (hm : X.mg "len" = none) (ha : DE X e te ue) (hg : Gl X "len" := by rfl) (hs : starEach [e] X.env = (false, eval e X.env) :: starEach [] X.env := by rfl) (hpl : (backTo pos (starEach [] X.env)).any (·.1) = false := by rfl) :
    DE X (.Call (.Name "len" p) [e] [] pos) (tCB (rLen X.K) (tCons te tNil)) (dLen ue) := ⟨pe_callB call_len hg hm PySem.boot_len (pa_cons ha.pe pa_nil hs) (by decide) (by decide) hs hpl, re_len ha.re⟩
theorem de_lenV (i : Nat) {x : Str} (hm : X.mg "len" = none) (hN : X.N[i]? = some x := by rfl) (hv : Vis X.env.scope x := by first | exact Or.inl rfl | exact Or.inr (Or.inl rfl) | exact Or.inr (Or.inr rfl)) (hd : (x == ("__debug__" : Str)) = false := by decide)
    (hcd : (x == ("__classdict__" : Str)) = false := by decide) (hg : Gl X "len" := by rfl) (hs : starEach [.Name x p2] X.env = (false, eval (.Name x p2) X.env) :: starEach [] X.env := by rfl) (hpl : (backTo pos (starEach [] X.env)).any (·.1) = false := by rfl) :
    DE X (.Call (.Name "len" p) [.Name x p2] [] pos) (tCB (rLen X.K) (tCons (tVar i) tNil)) (dLenV i) := ⟨pe_callB call_len hg hm PySem.boot_len (pa_cons (pe_var hN hv hd hcd) pa_nil hs) (by decide) (by decide) hs hpl, re_lenV⟩
theorem de_isi {T : String} {Tn : Str} (hm : X.mg "isinstance" = none) (hT : X.mg Tn = none) (hv : bootBuiltins Tn = some (.type T)) (ha : DE X e te ue) (hg : Gl X "isinstance" := by rfl) (hgT : Gl X Tn := by rfl) (hb : bootBuiltins "isinstance" = some (.builtin "isinstance") := by decide +kernel)
    (hn : Tn ≠ "__name__" := by decide) (hd : (Tn == ("__debug__" : Str)) = false := by decide)
    (hs : starEach [e, .Name Tn p2] X.env = (false, eval e X.env) :: starEach [.Name Tn p2] X.env := by rfl) (hs2 : starEach [.Name Tn p2] X.env = (false, eval (.Name Tn p2) X.env) :: starEach [] X.env := by rfl) (hpl : (backTo pos (starEach [.Name Tn p2] X.env)).any (·.1) = false := by rfl) (hTe : kitB "" T = none := by decide +kernel) :
    DE X (.Call (.Name "isinstance" p) [e, .Name Tn p2] [] pos) (tCB (rIsi X.K) (tCons te (tCons (tC (.ty T)) tNil))) (dIsi T ue) :=
  ⟨pe_callB call_isi hg hm hb (pa_cons ha.pe (pa_cons (pe_bltn (v := .ty T) hgT hT hv rfl hn hd) pa_nil hs2) hs) (by decide) (by decide) hs hpl, re_isi ha.re hTe⟩
theorem de_int1 (hm : X.mg "int" = none) (ha : DE X e te ue) (hg : Gl X "int" := by rfl) (hb : bootBuiltins "int" = some (.type "int") := by decide +kernel) (hs : starEach [e] X.env = (false, eval e X.env) :: starEach [] X.env := by rfl) (hpl : (backTo pos (starEach [] X.env)).any (·.1) = false := by rfl) :
    DE X (.Call (.Name "int" p) [e] [] pos) (tCB rInt1 (tCons te tNil)) (dInt1 ue) := ⟨pe_callTy call_int1 hg hm hb (pa_cons ha.pe pa_nil hs) (by decide) (by decide) hs hpl, re_int1 ha.re⟩
theorem de_join {apos : Pos} (ha : DE X a ta ua) (hb : DE X b tb ub) (hs : starEach [b] X.env = [(false, eval b X.env)] := by rfl) (hbase : attributeBase a "join" X.env (eval a X.env) = eval a X.env := by rfl) (hline : (apos.endLine == pos.line) = true := by rfl) :
    DE X (.Call (.Attribute a "join" apos) [b] [] pos) (tM1 (rJoin X.K) ta tb) (dJoin ua ub) := ⟨pe_join ha.pe hb.pe hs hbase hline, re_join ha.re hb.re⟩
theorem dca_nil : DCa X [] tNil cNil := ⟨pa_nil, rca_nil⟩
theorem dca_d (ha : DE X e te ue) (hr : DCa X es tca uca) (hs : starEach (e :: es) X.env = (false, eval e X.env) :: starEach es X.env := by rfl) : DCa X (e :: es) (tCons te tca) (cD ue uca) := ⟨pa_cons ha.pe hr.pa hs, rca_d ha.re hr.ra⟩
theorem dca_s (i : Nat) {x : Str} (hr : DCa X es tca uca) (hN : X.N[i]? = some x := by rfl) (hv : Vis X.env.scope x := by first | exact Or.inl rfl | exact Or.inr (Or.inl rfl) | exact Or.inr (Or.inr rfl)) (hd : (x == ("__debug__" : Str)) = false := by decide)
    (hcd : (x == ("__classdict__" : Str)) = false := by decide) (hs : starEach (.Name x p :: es) X.env = (false, eval (.Name x p) X.env) :: starEach es X.env := by rfl) : DCa X (.Name x p :: es) (tCons (tVar i) tca) (cS i uca) := ⟨pa_cons (pe_var hN hv hd hcd) hr.pa hs, rca_s hr.ra⟩
theorem de_call {x : Str} {S : DSp} {k j : Nat} (kn : Kn X.prog X.w X.K X.mg X.base k x S) (hr : RoomG j X.A) (hk : k ≤ j) (ha : DCa X (e :: es) tca uca) (hg : Gl X x := by rfl) (hdb : (x == ("__debug__" : Str)) = false := by decide)
    (he : starEach (e :: es) X.env = (false, eval e X.env) :: starEach es X.env := by rfl) (hpl : (backTo pos (starEach es X.env)).any (·.1) = false := by rfl) : DE X (.Call (.Name x p) (e :: es) [] pos) (tCall (spD X.K S) [] E0 tca) (dCall S uca) := by
  obtain ⟨f, fd, ps, F, hm, kp, b⟩ := kn.ex
  exact ⟨pe_callG F (hr.mono hk) hg hm kp b .nil pass0 ha.pa hdb he hpl, re_call ha.ra⟩
theorem de_call0 {x : Str} {S : DSp} {k j : Nat} (kn : Kn X.prog X.w X.K X.mg X.base k x S) (hr : RoomG j X.A) (hk : k ≤ j) (hg : Gl X x := by rfl) (hdb : (x == ("__debug__" : Str)) = false := by decide) :
    DE X (.Call (.Name x p) [] [] pos) (tCall (spD X.K S) [] E0 tNil) (dCall S cNil) := by
  obtain ⟨f, fd, ps, F, hm, kp, b⟩ := kn.ex
  exact ⟨pe_callG0 F (hr.mono hk) hg hm kp b .nil pass0 hdb, re_call rca_nil⟩

/-- a def that hands back a new list -/
structure KnN (P : Program) (w : World) (K : PySem.W.Frag) (mg : Str → Option Value) (base : Heap) (k : Nat) (x : Str) (S : DSn) : Prop where
  ex : ∃ (f : Addr) (fd : FuncData) (ps : List Str), FnOkG P w K mg base CX0 k f fd ps (spN K S) ∧ mg x = some (.ref f) ∧ PySem.W.keepIn K (.ref f) = true ∧ Binds K fd ps []
theorem ds_callOwn (i : Nat) {x y : Str} {cpos : Pos} {S : DSn} {k j : Nat} (hN : X.N.Nodup) (kn : KnN X.prog X.w X.K X.mg X.base k x S) (hr : RoomG j X.A) (hk : k ≤ j) (ha : DCa X (e :: es) tca uca) (hi : X.N[i]? = some y := by rfl) (hx : Loc X.env.scope y := by first | exact Or.inl rfl | exact Or.inr rfl)
    (hs : swapsWith (.Call (.Name x p) (e :: es) [] cpos) (some (.Name y p2)) pos.line X.env = pure false := by rfl) (hf : X.fn y = true ∨ X.env.scope.names.lookup y = some .local := by first | exact .inl rfl | exact .inr rfl | assumption)
    (hg : Gl X x := by rfl) (hdb : (x == ("__debug__" : Str)) = false := by decide)
    (he : starEach (e :: es) X.env = (false, eval e X.env) :: starEach es X.env := by rfl) (hpl : (backTo cpos (starEach es X.env)).any (·.1) = false := by rfl) :
    DS X (.Assign [.Name y p2] (.Call (.Name x p) (e :: es) [] cpos) pos) (tAsg (tCall (spN X.K S) [] E0 tca) (gName i)) (fun E δ => dCallOwn i S uca E.nx δ) := by
  obtain ⟨f, fd, ps, F, hm, kp, b⟩ := kn.ex
  exact ⟨ps_set hN hi hx (pe_callG F (hr.mono hk) hg hm kp b .nil pass0 ha.pa hdb he hpl) hs hf, rs_callOwn ha.ra⟩
theorem ds_retNew (he : DA X es tr ur) : DS X (.Return (some (.List es p)) pos) (tRet (tLst tr)) (dRetNew ur) := ⟨ps_ret (pe_lst he.pa), rs_retNew he.ra⟩
/-! ### statements -/
theorem dss_nil : DSs X [] tNext dNext := ⟨pss_nil, rs_next⟩
theorem dss_cons {st : Stmt} {rest : List Stmt} (h1 : DS X st t u) (h2 : DSs X rest t' u') : DSs X (st :: rest) (tSeq t t') (dSeq u u') := ⟨pss_cons h1.ps h2.ps, rs_seq h1.rs h2.rs⟩
theorem dss_one {st : Stmt} (h1 : DS X st t u) : DSs X [st] t u := ⟨pss_one h1.ps, h1.rs⟩
theorem ds_pass : DS X (.Pass pos) tNext dNext := ⟨ps_pass, rs_next⟩
theorem ds_break : DS X (.Break pos) tBreak dBreak := ⟨ps_break, rs_break⟩
theorem ds_cont : DS X (.Continue pos) tCont dCont := ⟨ps_continue, rs_cont⟩
theorem ds_expr (he : DE X e te ue) (hs : swapsWith e none pos.line X.env = pure false := by rfl) : DS X (.Expr e pos) (tDrop te) (dDrop ue) := ⟨ps_expr he.pe hs, rs_drop he.re⟩
theorem ds_ret (he : DE X e te ue) : DS X (.Return (some e) pos) (tRet te) (dRet ue) := ⟨ps_ret he.pe, rs_ret he.re⟩
theorem ds_retN : DS X (.Return none pos) tRetN dRetN := ⟨ps_retN, rs_retN⟩
theorem ds_if {st st' : List Stmt} (hc : DT X c tt ut) (h1 : DSs X st t u) (h2 : DSs X st' t' u') : DS X (.If c st st' pos) (tIfS tt t t') (dIfS ut u u') := ⟨ps_if hc.pt h1.ps h2.ps, rs_if hc.rt h1.rs h2.rs⟩
theorem dg_name (i : Nat) {x : Str} (hN : X.N.Nodup) (hi : X.N[i]? = some x := by rfl) (hx : Loc X.env.scope x := by first | exact Or.inl rfl | exact Or.inr rfl) (hf : X.fn x = true ∨ X.env.scope.names.lookup x = some .local := by first | exact .inl rfl | exact .inr rfl | assumption) :
    DG X (.Name x pos) (gName i) (dgName i) [i] := ⟨pg_name hN hi hx hf, rg_name⟩
theorem dgs_nil : DGs X [] gNil dgNil [] := ⟨pgs_nil, rgs_nil⟩
theorem dgs_cons {g : TG} {ug : DTG} {gs : TGs} {ugs : DTGs} {js js' : List Nat} (h1 : DG X e g ug js) (h2 : DGs X es gs ugs js') (hs : (assignEach (e :: es) X.env).map (·.2) = assign e X.env :: (assignEach es X.env).map (·.2) := by rfl) :
    DGs X (e :: es) (gCons g gs) (dgCons ug ugs) (js ++ js') := ⟨pgs_cons h1.pg h2.pg hs, rgs_cons h1.rg h2.rg⟩
theorem dg_tup {gs : TGs} {ugs : DTGs} {js : List Nat} {k n : Nat} (hc : X.calm = true) (h : DGs X es gs ugs js) (hn : (assignEach es X.env).length = n := by rfl) (hst : (assignEach es X.env).findIdx? (·.1) = none := by rfl) : DG X (.Tuple es k pos) (gTup X.K n gs) (dgTup n ugs) js :=
  ⟨pg_tup hc h.pg hn hst, rg_tup h.rg⟩
theorem ds_set (i : Nat) {x : Str} (hN : X.N.Nodup) (he : DE X e te ue) (hi : X.N[i]? = some x := by rfl) (hx : Loc X.env.scope x := by first | exact Or.inl rfl | exact Or.inr rfl) (hs : swapsWith e (some (.Name x p)) pos.line X.env = pure false := by rfl)
    (hf : X.fn x = true ∨ X.env.scope.names.lookup x = some .local := by first | exact .inl rfl | exact .inr rfl | assumption) : DS X (.Assign [.Name x p] e pos) (tAsg te (gName i)) (dAsg ue (dgName i)) := ⟨ps_set hN hi hx he.pe hs hf, rs_asg he.re rg_name⟩
theorem ds_setTup {g : TG} {ug : DTG} {js : List Nat} (he : DE X e te ue) (hg : DG X a g ug js) (hs : swapsWithSole [a] e pos.line X.env = pure false := by rfl) (hw : swappedStores [a] e X.env = pure none := by rfl)
    (h1 : (assignEach [a] X.env).map (·.2) = [assign a X.env] := by rfl) : DS X (.Assign [a] e pos) (tAsg te g) (dAsg ue ug) := ⟨ps_asg he.pe hg.pg hs hw h1, rs_asg he.re hg.rg⟩
/-- xs = [..], to change -/
theorem ds_own (i : Nat) {x : Str} (hN : X.N.Nodup) (he : DA X es tr ur) (hi : X.N[i]? = some x := by rfl) (hx : Loc X.env.scope x := by first | exact Or.inl rfl | exact Or.inr rfl) (hs : swapsWith (.List es p2) (some (.Name x p)) pos.line X.env = pure false := by rfl)
    (hf : X.fn x = true ∨ X.env.scope.names.lookup x = some .local := by first | exact .inl rfl | exact .inr rfl | assumption) : DS X (.Assign [.Name x p] (.List es p2) pos) (tAsg (tLst tr) (gName i)) (dAsgOwn i ur) := ⟨ps_set hN hi hx (pe_lst he.pa) hs hf, rs_asgOwn he.ra⟩
theorem ds_setI (i : Nat) {x : Str} (he : DE X e te ue) (hb : DE X b tb ub) (hN : X.N[i]? = some x := by rfl) (hv : Vis X.env.scope x := by first | exact Or.inl rfl | exact Or.inr (Or.inl rfl) | exact Or.inr (Or.inr rfl)) (hd : (x == ("__debug__" : Str)) = false := by decide)
    (hcd : (x == ("__classdict__" : Str)) = false := by decide)
    (hs : swapsWithSole [.Subscript (.Name x p) b p2] e pos.line X.env = pure false := by rfl) (hw : swappedStores [.Subscript (.Name x p) b p2] e X.env = pure none := by rfl) (h1 : (assignEach [.Subscript (.Name x p) b p2] X.env).map (·.2) = [assign (.Subscript (.Name x p) b p2) X.env] := by rfl)
    (ha : ∀ v, assign (.Subscript (.Name x p) b p2) X.env v = (do
      let ov ← holding [v] (eval (.Name x p) X.env)
      let iv ← holding [v, ov] (eval b X.env)
      standAt p2
      holding [v, ov, iv] (setItem ov iv v)
      release [v, ov, iv] []) := by intro _; rfl) :
    DS X (.Assign [.Subscript (.Name x p) b p2] e pos) (tAsg te (gSub (tVar i) tb rSetL)) (dSetI i ue ub) := ⟨ps_asg he.pe (pg_sub (pe_var hN hv hd hcd) hb.pe set_list ha) hs hw h1, rs_setI he.re hb.re⟩
theorem ds_aug (i : Nat) {x : Str} {op : Operator} {f : Int → Int → Int} (hN : X.N.Nodup) (ho : PIp X op (ipI f)) (he : DE X e te ue) (hi : X.N[i]? = some x := by rfl) (hx : Loc X.env.scope x := by first | exact Or.inl rfl | exact Or.inr rfl)
    (hf : X.fn x = true ∨ X.env.scope.names.lookup x = some .local := by first | exact .inl rfl | exact .inr rfl | assumption) : DS X (.AugAssign (.Name x p) op e pos) (tAug i te (ipI f)) (dAug f i ue) := ⟨ps_aug hN hi hx he.pe ho hf, rs_aug he.re⟩
theorem di_list (h : DE X e te ue) : DI X a e (iList X.K te) (diL ue) := ⟨pi_list h.pe, ri_list h.re⟩
theorem di_tup (h : DE X e te ue) : DI X a e (iTup X.K te) (diT ue) := ⟨pi_tup h.pe, ri_tup h.re⟩
theorem di_str (h : DE X e te ue) : DI X a e (iStr te) (diS ue) := ⟨pi_str h.pe, ri_str h.re⟩
theorem di_r1 (hm : X.mg "range" = none) (h : DE X e te ue) (hg : Gl X "range" := by rfl) (hs : starEach [e] X.env = [(false, eval e X.env)] := by rfl) : DI X a (.Call (.Name "range" p) [e] [] pos) (iRng1 (tCons te tNil)) (diR1 ue) := ⟨pi_range1 hg hm (pa_cons h.pe pa_nil hs) hs, ri_r1 h.re⟩
theorem di_r2 (hm : X.mg "range" = none) (h : DE X e te ue) (h' : DE X b tb ub) (hg : Gl X "range" := by rfl) (hs : starEach [e, b] X.env = [(false, eval e X.env), (false, eval b X.env)] := by rfl) (hs2 : starEach [b] X.env = [(false, eval b X.env)] := by rfl) :
    DI X a (.Call (.Name "range" p) [e, b] [] pos) (iRng2 (tCons te (tCons tb tNil))) (diR2 ue ub) := ⟨pi_range2 hg hm (pa_cons h.pe (pa_cons h'.pe pa_nil hs2) (by rw [hs, hs2])) hs hs2, ri_r2 h.re h'.re⟩
theorem ds_for {g : TG} {ug : DTG} {js : List Nat} {w : TI} {uw : DTI} {body : List Stmt} (hp : PassesOwn (model X.prog X.w) X.A X.env X.xe) (hc : X.calm = true) (hi : DI X a e w uw) (hg : DG X a g ug js) (hb : DSs X body t u) (hs : ∀ x, foldedSetIterable e X.env x = pure x := by intro _; rfl) :
    DS X (.For a e body [] pos) (tFor w g t) (dFor uw ug u) := ⟨ps_for hp hc hi.pi hg.pg hb.ps hs, rs_for hi.ri hg.rg hb.rs⟩
theorem ds_while {body : List Stmt} (hp : PassesOwn (model X.prog X.w) X.A X.env X.xe) (hc : DT X c tt ut) (hb : DSs X body t u) : DS X (.While c body [] pos) (tWhile tt t) (dWhile ut u) := ⟨ps_while hp hc.pt hb.ps, rs_while hc.rt hb.rs⟩
theorem ds_app (i : Nat) {x : Str} {apos cpos : Pos} (he : DE X e te ue) (pb : PE X (.Call (.Attribute (.Name x p) "append" apos) [e] [] cpos) (tBM X.K "list" rAppend (tVar i) (tCons te tNil))) (hs : swapsWith (.Call (.Attribute (.Name x p) "append" apos) [e] [] cpos) none pos.line X.env = pure false := by rfl) :
    DS X (.Expr (.Call (.Attribute (.Name x p) "append" apos) [e] [] cpos) pos) (tDrop (tBM X.K "list" rAppend (tVar i) (tCons te tNil))) (dApp i ue) := ⟨ps_expr pb hs, rs_app he.re⟩
/-! ### comprehensions -/
structure DTs (X : Cx) (ifs : List Expr) (t : TT) (u : DTT) : Prop where
  pt : PTs X ifs t
  rt : RT X.K t u
theorem dts_nil : DTs X [] tYes dYes := ⟨pts_nil, rt_yes⟩
theorem dts_one (h : DT X c tt ut) : DTs X [c] tt ut := ⟨pts_one h.pt, h.rt⟩
theorem de_lc {elt tg iter : Expr} {ifs : List Expr} {scope : Scope} (own : List (Str × Nat)) {w : TI} {uw : DTI} {g : TG} {ug : DTG} {js : List Nat} (hc : X.calm = true) (hN : X.N.Nodup) (hi : DI X tg iter w uw) (ok : BlkOk X.N X.env.scope scope own)
    (hg : ∀ (s : Shared) (H : Hp) (C : Addr) (cl : List (Str × Addr)) (fp : List Addr), DG (X.blk s H scope (compEnvC scope cl C X.env) fp) tg g ug js) (ht : ∀ (s : Shared) (H : Hp) (C : Addr) (cl : List (Str × Addr)) (fp : List Addr), DTs (X.blk s H scope (compEnvC scope cl C X.env) fp) ifs tt ut)
    (he : ∀ (s : Shared) (H : Hp) (C : Addr) (cl : List (Str × Addr)) (fp : List Addr), DE (X.blk s H scope (compEnvC scope cl C X.env) fp) elt te ue) (hj : ∀ j ∈ js, j ∈ own.map (·.2)) (hs : ∀ x, foldedSetIterable iter X.env x = pure x := by intro _; rfl) :
    DE X (.ListComp elt [⟨tg, iter, ifs, 0⟩] scope pos) (tLc w g tt te (own.map (·.2))) (dLc uw ug ut ue (own.map (·.2))) :=
  ⟨pe_lc hc hN hi.pi ok (fun a b c d e => (hg a b c d e).pg) (fun a b c d e => (ht a b c d e).pt) (fun a b c d e => (he a b c d e).pe) hs,
   re_lc hi.ri (hg X.s_0 X.H_0 0 [] []).rg (ht X.s_0 X.H_0 0 [] []).rt (he X.s_0 X.H_0 0 [] []).re hj⟩
theorem ds_setLc (i : Nat) {y : Str} {py spos : Pos} {elt tg iter : Expr} {ifs : List Expr} {scope : Scope} (own : List (Str × Nat)) {w : TI} {uw : DTI} {g : TG} {ug : DTG} {js : List Nat} (hc : X.calm = true) (hN : X.N.Nodup) (hi : DI X tg iter w uw) (ok : BlkOk X.N X.env.scope scope own)
    (hg : ∀ (s : Shared) (H : Hp) (C : Addr) (cl : List (Str × Addr)) (fp : List Addr), DG (X.blk s H scope (compEnvC scope cl C X.env) fp) tg g ug js) (ht : ∀ (s : Shared) (H : Hp) (C : Addr) (cl : List (Str × Addr)) (fp : List Addr), DTs (X.blk s H scope (compEnvC scope cl C X.env) fp) ifs tt ut)
    (he : ∀ (s : Shared) (H : Hp) (C : Addr) (cl : List (Str × Addr)) (fp : List Addr), DE (X.blk s H scope (compEnvC scope cl C X.env) fp) elt te ue) (hj : ∀ j ∈ js, j ∈ own.map (·.2))
    (hsw : swapsWith (.ListComp elt [⟨tg, iter, ifs, 0⟩] scope pos) (some (.Name y py)) spos.line X.env = pure true) (hy : X.N[i]? = some y := by rfl) (hyl : X.env.scope.names.lookup y = some .local := by rfl) (hs : ∀ x, foldedSetIterable iter X.env x = pure x := by intro _; rfl) :
    DS X (.Assign [.Name y py] (.ListComp elt [⟨tg, iter, ifs, 0⟩] scope pos) spos) (tAsg (tLc w g tt te (own.map (·.2))) (gName i)) (dAsg (dLc uw ug ut ue (own.map (·.2))) (dgName i)) :=
  ⟨ps_setLc hc hN hy hyl hsw hi.pi ok (fun a b c d e => (hg a b c d e).pg) (fun a b c d e => (ht a b c d e).pt) (fun a b c d e => (he a b c d e).pe) hs,
   rs_asg (re_lc hi.ri (hg X.s_0 X.H_0 0 [] []).rg (ht X.s_0 X.H_0 0 [] []).rt (he X.s_0 X.H_0 0 [] []).re hj) rg_name⟩
end
end TL

set_option Elab.async false
set_option linter.all false
set_option maxRecDepth 100000
set_option maxHeartbeats 2000000
/-! TL9: small dicts, min, max; what stands of texts; a look at what is shaped. -/
namespace TL
open PySem PySem.Spec L2
variable [XW]

section
variable {K : PySem.W.Frag} {ta tb : TE} {ua ub : DTE}
/-- a dict that will not change any more -/
def tFix (t : TE) : TE := fun σ H Q => t σ H fun v H1 => ∃ (a : Addr) (kvs : List (Key × V)), v = .ref a ∧ H1 a = some (.dK kvs) ∧ ∀ o : Obj, Q v (upd H1 a (.frz o (.dK kvs)))
theorem pe_fix {X : Cx} {e : Expr} {t : TE} (h : PE X e t) : PE X e (tFix t) := by
  refine ⟨fun pins s σ H Q I hw => thn (h.run pins s σ H _ I hw) fun v s1 ⟨x, H1, I1, r, a, kvs, ex, ea, q⟩ => ?_⟩
  obtain ⟨od, I2⟩ := I1.lock ea (by trivial)
  exact ⟨x, _, I2, r, q od⟩
theorem re_dict0 : RE K (tFix tDNewK) (dC (.dict [])) := fun c σ G H δ Q R E h k p hp => by
  refine ⟨p, [], rfl, upd_same, fun o => ?_⟩
  rw [upd_upd]
  have A := Al.new (o := .frz o (.dK [])) E.ex hp
  exact k _ δ _ _ _ h (E.al A) A.g (.dic upd_same .nil rfl)
theorem re_dict1 {x : Str} {v : V} {d : PyData} (hv : ∀ G, Rp K G v d) : RE K (tFix (tDisp [(tC (.str x), tC v)])) (dC (.dict [(.str x, d)])) := fun c σ G H δ Q R E h k p hp => by
  refine ⟨upd_same, [(.inr x, v)], rfl, by show 1 ≤ 15; decide, p, _, rfl, upd_same, fun o => ?_⟩
  rw [upd_upd, upd_upd]
  have A := Al.new (o := .frz o (.dK (mergeK [] [((.inr x : Key), v)]))) E.ex hp
  exact k _ δ _ _ _ h (E.al A) A.g (.dic upd_same (.cons (k := Sum.inr x) (hv _) .nil) rfl)
def rMax2 : List V → Hp → VK → Prop := fun xs H Q => ∃ i j, xs = [.int i, .int j] ∧ Q (.int (if j > i then j else i)) H
def rMin2 : List V → Hp → VK → Prop := fun xs H Q => ∃ i j, xs = [.int i, .int j] ∧ Q (.int (if j < i then j else i)) H
def dII (f : Int → Int → Int) (ua ub : DTE) : DTE := fun δ R => ua δ fun d1 δ1 => ub δ1 fun d2 δ2 => match d1, d2 with
  | .int i, .int j => R (.int (f i j)) δ2
  | _, _ => False
theorem re_max2 (ha : RE K ta ua) (hb : RE K tb ub) : RE K (tCB rMax2 (tCons ta (tCons tb tNil))) (dII (fun i j => if j > i then j else i) ua ub) := by
  intro c σ G H δ Q R E h k
  refine ha c σ G H δ _ _ E h fun d1 δ1 v1 G1 H1 h1 E1 e1 r1 => ?_
  refine hb c σ G1 H1 δ1 _ _ E1 h1 fun d2 δ2 v2 G2 H2 h2 E2 e2 r2 => ?_
  cases d1 <;> cases d2 <;> first
    | exact False.elim h2
    | exact ⟨_, _, by rw [r1.int_of, r2.int_of], k _ δ2 _ G2 H2 h2 E2 (e1.trans e2) (.int _)⟩
theorem re_min2 (ha : RE K ta ua) (hb : RE K tb ub) : RE K (tCB rMin2 (tCons ta (tCons tb tNil))) (dII (fun i j => if j < i then j else i) ua ub) := by
  intro c σ G H δ Q R E h k
  refine ha c σ G H δ _ _ E h fun d1 δ1 v1 G1 H1 h1 E1 e1 r1 => ?_
  refine hb c σ G1 H1 δ1 _ _ E1 h1 fun d2 δ2 v2 G2 H2 h2 E2 e2 r2 => ?_
  cases d1 <;> cases d2 <;> first
    | exact False.elim h2
    | exact ⟨_, _, by rw [r1.int_of, r2.int_of], k _ δ2 _ G2 H2 h2 E2 (e1.trans e2) (.int _)⟩
theorem r1_neg : R1 K (rU fun i => .int (-i)) (fun d R => match d with
  | .int i => R (.int (-i))
  | _ => False) := by
  intro G H x d Q R e r h k
  cases d <;> first
    | exact False.elim h
    | exact ⟨_, r.int_of, k _ _ G H h (Al.refl e) (.int _)⟩
end
section
variable {X : Cx} {a b e v : Expr} {ta tb te tv : TE} {ua ub ue uv : DTE} {pos p : Pos}
theorem de_dict0 : DE X (.Dict [] [] pos) (tFix tDNewK) (dC (.dict [])) := ⟨pe_fix pe_dnewK, re_dict0⟩
theorem de_dict1 {x : Str} {j : Nat} {q : Pos} {y : V} {d : PyData} (hv : PE X v (tC y)) (hr : ∀ G, Rp X.K G y d) : DE X (.Dict [some (.Constant (.str x) j q)] [v] pos) (tFix (tDisp [(tC (.str x), tC y)])) (dC (.dict [(.str x, d)])) :=
  ⟨pe_fix (pe_disp (pps_cons pe_str hv pps_nil) rfl rfl (by simp) (by show 1 ≤ 15; decide)), re_dict1 hr⟩
theorem de_un {op : UnaryOp} {r : V → Hp → VK → Prop} {rd : R1D} (ho : UnR X (unaryOp op) r) (hr : R1 X.K r rd) (ha : DE X a ta ua) : DE X (.UnaryOp op a pos) (tUn r ta) (dUn rd ua) := ⟨pe_un ho ha.pe, re_un ha.re hr⟩
theorem de_max2 (hm : X.mg "max" = none) (ha : DE X a ta ua) (hb : DE X b tb ub) (hc : X.calm = true := by rfl) (hg : Gl X "max" := by rfl) (hs : starEach [a, b] X.env = (false, eval a X.env) :: starEach [b] X.env := by rfl) (hs2 : starEach [b] X.env = (false, eval b X.env) :: starEach [] X.env := by rfl) (hpl : (backTo pos (starEach [b] X.env)).any (·.1) = false := by rfl) :
    DE X (.Call (.Name "max" p) [a, b] [] pos) (tCB rMax2 (tCons ta (tCons tb tNil))) (dII (fun i j => if j > i then j else i) ua ub) := ⟨pe_callB (call_max2 hc) hg hm PyProof.Rows.boot_max (pa_cons ha.pe (pa_cons hb.pe pa_nil hs2) hs) (by decide) (by decide) hs hpl, re_max2 ha.re hb.re⟩
theorem de_min2 (hm : X.mg "min" = none) (ha : DE X a ta ua) (hb : DE X b tb ub) (hc : X.calm = true := by rfl) (hg : Gl X "min" := by rfl) (hs : starEach [a, b] X.env = (false, eval a X.env) :: starEach [b] X.env := by rfl) (hs2 : starEach [b] X.env = (false, eval b X.env) :: starEach [] X.env := by rfl) (hpl : (backTo pos (starEach [b] X.env)).any (·.1) = false := by rfl) :
    DE X (.Call (.Name "min" p) [a, b] [] pos) (tCB rMin2 (tCons ta (tCons tb tNil))) (dII (fun i j => if j < i then j else i) ua ub) := ⟨pe_callB (call_min2 hc) hg hm PyProof.Rows.boot_min (pa_cons ha.pe (pa_cons hb.pe pa_nil hs2) hs) (by decide) (by decide) hs hpl, re_min2 ha.re hb.re⟩
end

/-! ### the law's own run -/
def spLaw (K : PySem.W.Frag) : Sp := fun vs H Q _ => ∃ (a : Addr) (ns : List Int), vs = [.ref a] ∧ SqL K H a (ns.map V.int) ∧ ns.length ≤ 63 ∧ ∀ H', Q (.bl true) H'
/-- by data: handed in are at most 63 ints, True comes out -/
def S_law : DSp := fun as R => ∃ ns : List Int, ns.length ≤ 63 ∧ as = [.scr (ns.map PyData.int)] ∧ R (.bool true) []
theorem ints_rp {K : PySem.W.Frag} {G : Hp} : ∀ ns : List Int, RpAll K G (ns.map V.int) (ns.map PyData.int)
  | [] => .nil
  | n :: r => .cons (.int n) (ints_rp r)
theorem law_by {P : Program} {w : World} {K : PySem.W.Frag} {mg : Str → Option Value} {base : Heap} {k : Nat} {f : Addr} {fd : FuncData} {ps : List Str} (F : FnOkG P w K mg base CX0 k f fd ps (spD K S_law)) : FnOkG P w K mg base CX0 k f fd ps (spLaw K) :=
  F.imp fun vs H Q E h => by
    obtain ⟨a, ns, rfl, hS, hl, q⟩ := h
    refine ⟨⟨fun _ => 0, 0, H, H, []⟩, [.scr (ns.map PyData.int)], fun d outs => d = .bool true, rfl, rfl, ?_, ⟨ns, hl, rfl, rfl⟩, fun d outs v G' H' hd _ r => ?_⟩
    · exact {
        g0 := Ex.refl _, ex := Ex.refl _, fr := fun a o h _ => h, fs := fun a h _ => h
        tg := fun j hj => absurd hj (Nat.not_lt_zero j)
        len := rfl
        sl := fun i s h => by
          cases i with
          | zero =>
            cases (show some (Sl.scr (ns.map PyData.int)) = some s from h)
            exact ⟨a, _, rfl, hS, ints_rp ns⟩
          | succ i => simp at h
        ap := fun i j t1 d1 t2 d2 hij h1 h2 => by
          cases i with
          | zero => cases (show some (Sl.scr (ns.map PyData.int)) = some (.own t1 d1) from h1)
          | succ i => simp at h1
        hd := fun p xs h => nomatch h
        bx := BoxOk.none fun i b h => by
          cases i with
          | zero => cases (show some (Sl.scr (ns.map PyData.int)) = some (.box b) from h)
          | succ i => simp at h }
    · subst hd
      rw [r.bl_of]
      exact q H'
end TL

set_option Elab.async false
set_option linter.all false
set_option maxRecDepth 100000
set_option maxHeartbeats 4000000
/-! TLs: what the readings are reckoned with. -/
namespace TL
open PySem PySem.Spec L2
variable [XW]
theorem kb_ss : kitB "str" "str" = some true := by decide +kernel
theorem kb_ns : kitB "NoneType" "str" = some false := by decide +kernel
theorem kb_bs : kitB "bool" "str" = some false := by decide +kernel
theorem kb_is : kitB "int" "str" = some false := by decide +kernel
theorem kb_ls : kitB "list" "str" = some false := by decide +kernel
theorem kb_ts : kitB "tuple" "str" = some false := by decide +kernel
theorem kb_ds : kitB "dict" "str" = some false := by decide +kernel
theorem kb_bb : kitB "bool" "bool" = some true := by decide +kernel
theorem sh_int (i : Int) : SeqAt.shaped (.int i) = true := rfl
theorem sh_bool (b : Bool) : SeqAt.shaped (.bool b) = true := rfl
theorem sh_none : SeqAt.shaped .none = true := rfl
theorem sh_str {x : Str} (h : PyData.strOk x = true) : SeqAt.shaped (.str x) = true := by
  unfold SeqAt.shaped
  rw [Bool.and_eq_true]
  exact ⟨by simpa [PyData.canLay0] using h, rfl⟩
theorem ev_ii (i j : Int) : PyData.eqv (.int i) (.int j) = (i == j) := by simp [PyData.eqv]
theorem ev_bb (i j : Bool) : PyData.eqv (.bool i) (.bool j) = (i == j) := by simp [PyData.eqv]
theorem ev_ss (i j : Str) : PyData.eqv (.str i) (.str j) = (i == j) := by simp [PyData.eqv]
/-- codes that a text may have -/
def okC (z : Str) : Prop := ∀ c ∈ z.cps.toList, c < 1114112
theorem strOk_of {z : Str} (h : okC z) : PyData.strOk z = true := by
  unfold PyData.strOk
  rw [← Array.all_toList, List.all_eq_true]
  intro c hc
  exact decide_eq_true (h c hc)
/-- one sign below another -/
theorem lt_one {a b : Nat} : decide (([a] : List Nat) < [b]) = decide (a < b) := by
  apply decide_eq_decide.mpr
  constructor
  · intro h
    cases h with
    | rel h => exact h
    | cons h => cases h
  · intro h
    exact List.Lex.rel h
theorem lt_one' {a b : Nat} : ([a] : List Nat) < [b] ↔ a < b := by
  have := lt_one (a := a) (b := b)
  simpa using this
theorem le_one' {a b : Nat} : ([a] : List Nat) ≤ [b] ↔ a ≤ b := by
  show ¬ (([b] : List Nat) < [a]) ↔ _
  rw [lt_one']
  omega
theorem cps_a : (Str.ofString "a").cps.toList = [97] := by decide +kernel
theorem cps_z : (Str.ofString "z").cps.toList = [122] := by decide +kernel
theorem cps_one (c : Nat) : (Str.mk #[c]).cps.toList = [c] := rfl
theorem len_one (c : Nat) : (Str.mk #[c]).length = 1 := rfl

end TL

set_option Elab.async false
set_option linter.all false
set_option maxRecDepth 100000
set_option maxHeartbeats 4000000
/-! TLd: the drawing hand; comprehensions by filter and map. -/
namespace TL
open PySem PySem.Spec L2
def S_hand : DSn := fun as R => ∃ (ns : List Int) (k : Int), as = [.scr (ns.map PyData.int), .dat (.int k)] ∧ ns.length ≤ 63 ∧ (0 ≤ k ∧ k ≤ 63) ∧ ∀ x y : Int, 0 ≤ x → 0 ≤ y → y < 2147483648 → R [.int x, .int y] []
/-- a hand -/
def okH (x y : Int) : Prop := 0 ≤ x ∧ 0 ≤ y ∧ y < 2147483648
def S_draw : DSp := fun as R => ∃ x y n : Int, as = [.own (some 0) [.int x, .int y], .dat (.int n)] ∧ okH x y ∧ (0 < n ∧ n < 1073741824) ∧
  ∀ r x' y' : Int, (0 ≤ r ∧ r < n) → okH x' y' → R (.int r) [[.int x', .int y']]
theorem call_draw {i : Nat} {u : DTE} {δ : List Sl} {R : DQ} {t : Option Nat} {x y n : Int} (hs : δ[i]? = some (.own t [.int x, .int y])) (hv : okH x y) (hn : 0 < n ∧ n < 1073741824) (hu : ∀ Q : DQ, Q (.int n) δ → u δ Q)
    (k : ∀ r x' y' : Int, (0 ≤ r ∧ r < n) → okH x' y' → R (.int r) (δ.set i (.own t [.int x', .int y']))) : dCall S_draw (cS i (cD u cNil)) δ R := by
  refine ⟨by rw [hs]; rfl, hu _ ?_⟩
  have hm : muts δ [.s i, .d (.int n)] = [i] := by
    show (match δ[i]? with
      | some (.own _ _) => i :: muts δ [.d (.int n)]
      | _ => muts δ [.d (.int n)]) = [i]
    rw [hs]
    rfl
  have ha : asOf δ [.s i, .d (.int n)] 0 = [.own (some 0) [.int x, .int y], .dat (.int n)] := by
    show (match δ[i]? with
      | some (.own _ ds) => Sl.own (some 0) ds :: asOf δ [.d (.int n)] 1
      | some (.scr ds) => .scr ds :: asOf δ [.d (.int n)] 0
      | _ => .no :: asOf δ [.d (.int n)] 0) = _
    rw [hs]
    rfl
  show (muts δ [.s i, .d (.int n)]).Nodup ∧ S_draw (asOf δ [.s i, .d (.int n)] 0) fun d outs => outs.length = (muts δ [.s i, .d (.int n)]).length ∧ R d (setOuts δ (muts δ [.s i, .d (.int n)]) outs)
  rw [hm, ha]
  refine ⟨by simp, x, y, n, rfl, hv, hn, fun r x' y' hr hv' => ⟨rfl, ?_⟩⟩
  have e : setOuts δ [i] [[.int x', .int y']] = δ.set i (.own t [.int x', .int y']) := by
    show setOut δ i [.int x', .int y'] = _
    unfold setOut
    rw [hs]
  rw [e]
  exact k r x' y' hr hv'
theorem outs1 {δ : List Sl} {cs : List PyData} (i : Nat) (h : δ[i]? = some (.own (some 0) cs)) : OutsIn δ [cs] := fun j ds hj => by
  cases j with
  | zero =>
    have e : cs = ds := by simpa using hj
    exact ⟨i, by rw [← e]; exact h⟩
  | succ j => simp at hj
/-- a comprehension that changes nothing -/
theorem lc_fm {vs : List Nat} {g : DTG} {t : DTT} {u : DTE} {R : List PyData → List Sl → Prop} (p : PyData → Bool) (f : PyData → PyData) {δ0 : List Sl} : ∀ (ds acc : List PyData) (δ : List Sl), wipeS δ vs = δ0 → acc.length + ds.length ≤ 16777216 →
    (∀ d ∈ ds, ∀ (Y : PyData → List Sl → Prop) (N : List Sl → Prop), (p d = true → ∀ δ3, wipeS δ3 vs = δ0 → Y (f d) δ3) → (p d = false → ∀ δ2, wipeS δ2 vs = δ0 → N δ2) → g d δ0 (fun δ1 => t δ1 fun b δ2 => if b = true then u δ2 Y else N δ2)) →
    wipeS δ0 vs = δ0 → (∀ δ', wipeS δ' vs = δ0 → R (acc ++ (ds.filter p).map f) δ') → lcW vs g t u R ds acc δ
  | [], acc, δ, h0, hl, hs, h00, k => by
    have z := k δ h0
    simp at z
    exact z
  | d :: r, acc, δ, h0, hl, hs, h00, k => by
    show g d (wipeS δ vs) fun δ1 => t δ1 fun b δ2 => if b = true then u δ2 fun y δ3 => acc.length < sizeLine ∧ lcW vs g t u R r (acc ++ [y]) (wipeS δ3 vs) else lcW vs g t u R r acc (wipeS δ2 vs)
    rw [h0]
    have hl' : acc.length + r.length + 1 ≤ 16777216 := by
      rw [List.length_cons] at hl
      omega
    refine hs d List.mem_cons_self (fun y δ3 => acc.length < sizeLine ∧ lcW vs g t u R r (acc ++ [y]) (wipeS δ3 vs)) _ (fun hp δ3 h3 => ⟨by rw [sizeLine_eq]; omega, ?_⟩) (fun hp δ2 h2 => ?_)
    · rw [h3]
      refine lc_fm p f r (acc ++ [f d]) δ0 h00 (by rw [List.length_append, List.length_singleton]; omega) (fun d' hd' => hs d' (List.mem_cons_of_mem _ hd')) h00 fun δ' h' => ?_
      have z := k δ' h'
      rw [List.filter_cons, if_pos hp, List.map_cons] at z
      rw [List.append_assoc]
      exact z
    · rw [h2]
      refine lc_fm p f r acc δ0 h00 (by omega) (fun d' hd' => hs d' (List.mem_cons_of_mem _ hd')) h00 fun δ' h' => ?_
      have z := k δ' h'
      rw [List.filter_cons, if_neg (by rw [hp]; decide)] at z
      exact z
theorem at0 {α : Type} (a : α) (l : List α) : atI (a :: l) 0 = some a := by
  unfold atI ixN
  rw [if_pos (by decide), if_pos (by simp only [List.length_cons]; omega)]
  rfl
theorem at1 {α : Type} (a b : α) (l : List α) : atI (a :: b :: l) 1 = some b := by
  unfold atI ixN
  rw [if_pos (by decide), if_pos (by simp only [List.length_cons]; omega)]
  rfl
theorem ix20 : ixN 2 0 = some 0 := rfl
theorem ix21 : ixN 2 1 = some 1 := rfl
theorem cutP_map (ns : List Int) (lo hi : Option Int) : ∃ ms : List Int, cutP (ns.map PyData.int) lo hi = ms.map PyData.int ∧ ms.length ≤ ns.length := by
  refine ⟨(ns.drop (HT.sIx ns.length 0 lo)).take (HT.sIx ns.length ns.length hi - HT.sIx ns.length 0 lo), ?_, ?_⟩
  · unfold cutP
    rw [List.length_map, List.map_take, List.map_drop]
  · rw [List.length_take, List.length_drop]
    omega
theorem cell_at (ns : List Int) (lo hi : Option Int) : ∃ z : Int, atI (cutP (ns.map PyData.int) lo hi ++ [PyData.int 0]) 0 = some (.int z) := by
  obtain ⟨ms, e, _⟩ := cutP_map ns lo hi
  rw [e]
  cases ms with
  | nil => exact ⟨0, rfl⟩
  | cons m r => exact ⟨m, at0 _ _⟩
theorem nat_le_size {n : Nat} (h : n ≤ 16777216) : n ≤ sizeLine := by
  rw [sizeLine_eq]
  exact h
end TL

set_option Elab.async false
set_option linter.all false
set_option maxRecDepth 100000
set_option maxHeartbeats 4000000
/-! TLe: calls by their kinds; loops by an invariant; texts. -/
namespace TL
open PySem PySem.Spec L2
theorem asOf_d (δ : List Sl) : ∀ (ds : List PyData) (j : Nat), asOf δ (ds.map CA.d) j = ds.map Sl.dat
  | [], _ => rfl
  | d :: r, j => by
    show Sl.dat d :: asOf δ (r.map CA.d) j = _
    rw [asOf_d δ r j]
    rfl
theorem muts_d (δ : List Sl) : ∀ ds : List PyData, muts δ (ds.map CA.d) = []
  | [] => rfl
  | d :: r => muts_d δ r
/-- a call by data alone -/
theorem call_pure {S : DSp} {ua : DCA} {δ : List Sl} {R : DQ} (ds : List PyData) (hu : ∀ Q : List CA → List Sl → Prop, Q (ds.map CA.d) δ → ua δ Q) (k : S (ds.map Sl.dat) fun d outs => outs = [] ∧ R d δ) (mono : ∀ R R' : PyData → List (List PyData) → Prop, (∀ d o, R d o → R' d o) → S (ds.map Sl.dat) R → S (ds.map Sl.dat) R') : dCall S ua δ R := by
  refine hu _ ?_
  rw [muts_d, asOf_d]
  refine ⟨List.nodup_nil, mono _ _ (fun d o h => ?_) k⟩
  obtain ⟨rfl, h⟩ := h
  exact ⟨rfl, h⟩
/-- a call that may change the list in slot i, its first argument -/
theorem call_own1 {S : DSp} {ua : DCA} {δ : List Sl} {R : DQ} {i : Nat} {t : Option Nat} {cs : List PyData} (hs : δ[i]? = some (.own t cs)) (ds : List PyData) (hu : ∀ Q : List CA → List Sl → Prop, Q (ds.map CA.d) δ → ua δ Q)
    (k : S (.own (some 0) cs :: ds.map Sl.dat) fun d outs => ∃ o, outs = [o] ∧ R d (δ.set i (.own t o))) (mono : ∀ R R' : PyData → List (List PyData) → Prop, (∀ d o, R d o → R' d o) → S (.own (some 0) cs :: ds.map Sl.dat) R → S (.own (some 0) cs :: ds.map Sl.dat) R') : dCall S (cS i ua) δ R := by
  refine ⟨by rw [hs]; rfl, hu _ ?_⟩
  have hm : muts δ (.s i :: ds.map CA.d) = [i] := by
    show (match δ[i]? with
      | some (.own _ _) => i :: muts δ (ds.map CA.d)
      | _ => muts δ (ds.map CA.d)) = [i]
    rw [hs, muts_d]
  have ha : asOf δ (.s i :: ds.map CA.d) 0 = .own (some 0) cs :: ds.map Sl.dat := by
    show (match δ[i]? with
      | some (.own _ ds') => Sl.own (some 0) ds' :: asOf δ (ds.map CA.d) 1
      | some (.scr ds') => .scr ds' :: asOf δ (ds.map CA.d) 0
      | _ => .no :: asOf δ (ds.map CA.d) 0) = _
    rw [hs, asOf_d]
  show (muts δ (.s i :: ds.map CA.d)).Nodup ∧ S (asOf δ (.s i :: ds.map CA.d) 0) fun d outs => outs.length = (muts δ (.s i :: ds.map CA.d)).length ∧ R d (setOuts δ (muts δ (.s i :: ds.map CA.d)) outs)
  rw [hm, ha]
  refine ⟨by simp, mono _ _ (fun d o h => ?_) k⟩
  obtain ⟨o, rfl, h⟩ := h
  refine ⟨rfl, ?_⟩
  have e : setOuts δ [i] [o] = δ.set i (.own t o) := by
    show setOut δ i o = _
    unfold setOut
    rw [hs]
  rw [e]
  exact h
/-- a new hand -/
theorem call_hand {i j q : Nat} {δ : List Sl} {E : List Sl → Prop} {ns : List Int} {k : Int} (hs : δ[j]? = some (.scr (ns.map PyData.int))) (hk : δ[q]? = some (.dat (.int k))) (hl : ns.length ≤ 63) (hb : 0 ≤ k ∧ k ≤ 63)
    (h : ∀ x y : Int, okH x y → E (δ.set i (.own none [.int x, .int y]))) : dCallOwn i S_hand (cS j (cD (dVar q) cNil)) E δ := by
  refine ⟨by rw [hs]; rfl, ?_⟩
  show dVar q δ _
  unfold dVar
  rw [hk]
  have hm : muts δ [.s j, .d (.int k)] = [] := by
    show (match δ[j]? with
      | some (.own _ _) => j :: muts δ [.d (.int k)]
      | _ => muts δ [.d (.int k)]) = []
    rw [hs]
    rfl
  have ha : asOf δ [.s j, .d (.int k)] 0 = [.scr (ns.map PyData.int), .dat (.int k)] := by
    show (match δ[j]? with
      | some (.own _ ds) => Sl.own (some 0) ds :: asOf δ [.d (.int k)] 1
      | some (.scr ds) => .scr ds :: asOf δ [.d (.int k)] 0
      | _ => .no :: asOf δ [.d (.int k)] 0) = _
    rw [hs]
    rfl
  show (muts δ [.s j, .d (.int k)]).Nodup ∧ S_hand (asOf δ [.s j, .d (.int k)] 0) fun ds outs => outs.length = (muts δ [.s j, .d (.int k)]).length ∧ E ((setOuts δ (muts δ [.s j, .d (.int k)]) outs).set i (.own none ds))
  rw [hm, ha]
  exact ⟨List.nodup_nil, ns, k, rfl, hl, hb, fun x y a b c => ⟨rfl, h x y ⟨a, b, c⟩⟩⟩
theorem for_inv {g : DTG} {u : DTS} {E : DEnds} (I : List Sl → Prop) (he : ∀ δ, I δ → E.nx δ) : ∀ (ds : List PyData) (δ : List Sl), I δ →
    (∀ d ∈ ds, ∀ δ, I δ → ∀ N : List Sl → Prop, (∀ δ', I δ' → N δ') → g d δ fun δ1 => u { E with nx := N, ct := N, bk := E.nx } δ1) → forW g u E ds δ
  | [], δ, hi, _ => he δ hi
  | d :: r, δ, hi, hs => hs d List.mem_cons_self δ hi _ fun δ' h' => for_inv I he r δ' h' fun d' hd' => hs d' (List.mem_cons_of_mem _ hd')
/-- texts -/
theorem okC_cut {z : Str} (h : okC z) (lo hi : Option Int) : okC (cutS z lo hi) := fun c hc => by
  have hc : c ∈ (z.cps.toList.drop (HT.sIx z.length 0 lo)).take (HT.sIx z.length z.length hi - HT.sIx z.length 0 lo) := hc
  exact h c (List.mem_of_mem_drop (List.mem_of_mem_take hc))
theorem tl_app (x y : Str) : (x ++ y).cps.toList = x.cps.toList ++ y.cps.toList := TL.tl_append x y
theorem okC_app {x y : Str} (hx : okC x) (hy : okC y) : okC (x ++ y) := fun c hc => by
  rw [tl_app, List.mem_append] at hc
  exact hc.elim (hx c) (hy c)
theorem len_app (x y : Str) : (x ++ y).length = x.length + y.length := PySem.Str.length_append x y
theorem okC_one {c : Nat} (h : c < 1114112) : okC ⟨#[c]⟩ := fun d hd => by
  have e : d = c := by simpa using hd
  rw [e]
  exact h
theorem mul01 {x : Str} {i : Int} (h0 : 0 ≤ i) (h1 : i < 2) : (Txt.mul x i = Str.empty) ∨ Txt.mul x i = x := by
  have hi : i = 0 ∨ i = 1 := by omega
  rcases hi with rfl | rfl
  · left
    unfold Txt.mul
    rw [if_pos (by decide)]
  · right
    unfold Txt.mul
    rw [if_neg (by decide), if_pos (by simp)]
theorem join_ones : ∀ cs : List Nat, Txt.join (Str.ofString "") (cs.map fun c => (⟨#[c]⟩ : Str)) = ⟨cs.toArray⟩ := fun cs => by
  apply TL.ext_tl
  rw [TL.join_eq]
  show TL.tl (Str.join _ _) = cs
  rw [TL.tl_join]
  have e0 : TL.tl (Str.ofString "") = [] := by decide +kernel
  rw [e0]
  induction cs with
  | nil => rfl
  | cons c r ih =>
    cases r with
    | nil => rfl
    | cons d r =>
      show [c] ++ ([] ++ TL.joinL [] _) = c :: d :: r
      rw [List.nil_append]
      exact congrArg (c :: ·) ih
theorem strsOf_ones : ∀ cs : List Nat, strsOf (cs.map fun c => PyData.str ⟨#[c]⟩) = some (cs.map fun c => (⟨#[c]⟩ : Str))
  | [] => rfl
  | c :: r => by
    show (strsOf (r.map fun c => PyData.str ⟨#[c]⟩)).map _ = _
    rw [strsOf_ones r]
    rfl
end TL

set_option Elab.async false
set_option linter.all false
set_option maxRecDepth 100000
set_option maxHeartbeats 4000000
/-! TLp: slices of texts with a step; sums, greatest; find; the set of a list of ints, sorted. -/
namespace TL
open PySem PySem.Spec L2
variable [XW]

/-! ### z[a:b:k] -/
def sliceS (z : Str) (a b k : Int) : Str :=
  if (k == 1 && (Builtin.Str.strSliceIndices (some a) (some b) k z.length).length == z.length) = true then z
  else ⟨((Builtin.Str.strSliceIndices (some a) (some b) k z.length).filterMap (z.cps[·]?)).toArray⟩
def tSlStep (te ta tb tk : TE) : TE := fun σ H Q => te σ H fun x H1 => ta σ H1 fun a H2 => tb σ H2 fun b H3 => tk σ H3 fun k H4 =>
  ∃ z i j n, x = .str z ∧ a = .int i ∧ b = .int j ∧ k = .int n ∧ n ≠ 0 ∧ z.length ≤ sizeLine ∧ Q (.str (sliceS z i j n)) H4
section
variable {X : Cx} {e a b k : Expr} {te ta tb tk : TE} {pos p2 : Pos}
open PyProof.Rows in
theorem pe_slStep (he : PE X e te) (ha : PE X a ta) (hb : PE X b tb) (hk : PE X k tk) : PE X (.Subscript e (.Slice (some a) (some b) (some k) p2) pos) (tSlStep te ta tb tk) := by
  refine ⟨fun pins s σ H Q I h => ?_⟩
  refine PyProof.Rows.Subscript_ (thn (he.run pins s σ H _ I h) fun v s1 ⟨x, H1, I1, r1, q1⟩ => ?_)
  refine wpAny_Slice ?_
  rw [evalPart_some]
  refine thn (ha.run pins s1 σ H1 _ I1 q1) fun va s2 ⟨x2, H2, I2, r2, q2⟩ => ?_
  rw [evalPart_some]
  refine thn (hb.run pins s2 σ H2 _ I2 q2) fun vb s3 ⟨x3, H3, I3, r3, q3⟩ => ?_
  rw [evalPart_some]
  refine thn (hk.run pins s3 σ H3 _ I3 q3) fun vk s4 ⟨x4, H4, I4, r4, q4⟩ => ?_
  obtain ⟨z, i, j, n, rfl, rfl, rfl, rfl, hn, hz, q⟩ := q4
  obtain ⟨t1, rfl⟩ := r1
  obtain ⟨t2, rfl⟩ := r2
  obtain ⟨t3, rfl⟩ := r3
  obtain ⟨t4, rfl⟩ := r4
  have I5 : Inv X pins σ H4 { s4 with heap := s4.heap.push { cls := .type "slice", data := .fields #[.int i t2, .int j t3, .int n t4] } } := I4.kept (t' := s4.toks) fun b ob q => Heap.get?_push_of_some _ q
  refine tail_any (ops := [.ref s4.heap.objs.size, .str z t1]) (typeIs_str _ _ _) F.slot_str_getitem.lookup ?_ (by with_unfolding_all rfl)
  refine wpAny_getItem_str_slice (l := some (i, t2)) (u := some (j, t3)) (st := some (n, t4)) ⟨_, Heap.get?_push_size _ rfl, rfl, rfl⟩ (by simpa using hn) ?_
  unfold sliceMade slicePicked
  unfold sliceS at q
  show Made.post (if (n == 1 && (Builtin.Str.strSliceIndices (some i) (some j) n z.length).length == z.length) = true then Made.val (.str z t1) else _) _ _
  by_cases c : (n == 1 && (Builtin.Str.strSliceIndices (some i) (some j) n z.length).length == z.length) = true
  · rw [if_pos c] at q ⊢
    exact ⟨.str z, H4, I5, ⟨_, rfl⟩, q⟩
  · rw [if_neg c] at q ⊢
    refine ⟨?_, .str _, H4, I5.tok _, ⟨_, rfl⟩, q⟩
    show (((Builtin.Str.strSliceIndices (some i) (some j) n z.length).filterMap (z.cps[·]?)).toArray).size ≤ sizeLine
    rw [List.size_toArray]
    exact Nat.le_trans (List.length_filterMap_le _ _) (Nat.le_trans (sliceIndicesBy_le _ _ n hn z.length) hz)
def dSlStep (ue ua ub uk : DTE) : DTE := fun δ R => ue δ fun d δ1 => ua δ1 fun d1 δ2 => ub δ2 fun d2 δ3 => uk δ3 fun d3 δ4 => match d, d1, d2, d3 with
  | .str z, .int i, .int j, .int n => (n ≠ 0 ∧ z.length ≤ sizeLine) ∧ R (.str (sliceS z i j n)) δ4
  | _, _, _, _ => False
theorem re_slStep {K : PySem.W.Frag} {ue ua ub uk : DTE} (he : RE K te ue) (ha : RE K ta ua) (hb : RE K tb ub) (hk : RE K tk uk) : RE K (tSlStep te ta tb tk) (dSlStep ue ua ub uk) := by
  intro c σ G H δ Q R E h kk
  refine he c σ G H δ _ _ E h fun d δ1 v G1 H1 h1 E1 e1 r => ?_
  refine ha c σ G1 H1 δ1 _ _ E1 h1 fun d1 δ2 v1 G2 H2 h2 E2 e2 r1 => ?_
  refine hb c σ G2 H2 δ2 _ _ E2 h2 fun d2 δ3 v2 G3 H3 h3 E3 e3 r2 => ?_
  refine hk c σ G3 H3 δ3 _ _ E3 h3 fun d3 δ4 v3 G4 H4 h4 E4 e4 r3 => ?_
  cases d <;> first
    | exact False.elim h4
    | skip
  cases d1 <;> first
    | exact False.elim h4
    | skip
  cases d2 <;> first
    | exact False.elim h4
    | skip
  cases d3 <;> first
    | exact False.elim h4
    | skip
  exact ⟨_, _, _, _, r.str_of, r1.int_of, r2.int_of, r3.int_of, h4.1.1, h4.1.2, kk _ δ4 _ G4 H4 h4.2 E4 (((e1.trans e2).trans e3).trans e4) (.str _)⟩
theorem de_slStep {ue ua ub uk : DTE} (he : DE X e te ue) (ha : DE X a ta ua) (hb : DE X b tb ub) (hk : DE X k tk uk) : DE X (.Subscript e (.Slice (some a) (some b) (some k) p2) pos) (tSlStep te ta tb tk) (dSlStep ue ua ub uk) :=
  ⟨pe_slStep he.pe ha.pe hb.pe hk.pe, re_slStep he.re ha.re hb.re hk.re⟩
end

/-! ### sums, the greatest, find -/
def intsOf : List PyData → Option (List Int)
  | [] => some []
  | .int x :: r => (intsOf r).map (x :: ·)
  | _ :: _ => none
theorem intsOf_map : ∀ ns : List Int, intsOf (ns.map PyData.int) = some ns
  | [] => rfl
  | n :: r => by
    show (intsOf (r.map PyData.int)).map _ = _
    rw [intsOf_map r]
    rfl
section
variable {K : PySem.W.Frag} {ta tb : TE} {ua ub : DTE}
theorem ints_of_rp {G : Hp} : ∀ {ds : List PyData} {xs : List V} {ys : List Int}, RpAll K G xs ds → intsOf ds = some ys → xs = ys.map V.int
  | _, _, _, .nil, h => by
    cases h
    rfl
  | d :: ds, _, ys, .cons (v := v) (vs := vs) r rr, h => by
    cases d <;> first
      | (cases h; done)
      | skip
    rename_i x
    have h : (intsOf ds).map (x :: ·) = some ys := h
    cases q : intsOf ds with
    | none =>
      rw [q] at h
      cases h
    | some zs =>
      rw [q] at h
      cases h
      rw [ints_of_rp rr q, r.int_of]
      rfl
def dSum (u : DTE) : DTE := fun δ R => u δ fun d δ1 => match d with
  | .list ds => (match intsOf ds with
    | some ns => R (.int ns.sum) δ1
    | none => False)
  | _ => False
theorem re_sum (ha : RE K ta ua) : RE K (tCB (rSum K) (tCons ta tNil)) (dSum ua) := by
  intro c σ G H δ Q R E h k
  refine ha c σ G H δ _ _ E h fun d δ1 v G1 H1 h1 E1 e1 r => ?_
  cases d <;> first
    | exact False.elim h1
    | skip
  rename_i ds
  have h1 : (match intsOf ds with
    | some ns => R (.int ns.sum) δ1
    | none => False) := h1
  obtain ⟨a, xs, rfl, q1, q2⟩ := r.lst_of
  cases q : intsOf ds with
  | none =>
    rw [q] at h1
    exact h1.elim
  | some ns =>
    rw [q] at h1
    exact ⟨a, ns, rfl, .inl (.inl (by rw [← ints_of_rp q2 q]; exact E1.ex _ _ q1)), k _ δ1 _ G1 H1 h1 E1 e1 (.int _)⟩
/-- the greatest of a list that is not empty -/
def dMaxL (u : DTE) : DTE := fun δ R => u δ fun d δ1 => match d with
  | .list ds => (match intsOf ds with
    | some ns => 0 < ns.length ∧ ∀ m, m ∈ ns → (∀ y, y ∈ ns → y ≤ m) → R (.int m) δ1
    | none => False)
  | _ => False
theorem re_maxL (ha : RE K ta ua) : RE K (tCB (rMax K) (tCons ta tNil)) (dMaxL ua) := by
  intro c σ G H δ Q R E h k
  refine ha c σ G H δ _ _ E h fun d δ1 v G1 H1 h1 E1 e1 r => ?_
  cases d <;> first
    | exact False.elim h1
    | skip
  rename_i ds
  have h1 : (match intsOf ds with
    | some ns => 0 < ns.length ∧ ∀ m, m ∈ ns → (∀ y, y ∈ ns → y ≤ m) → R (.int m) δ1
    | none => False) := h1
  obtain ⟨a, xs, rfl, q1, q2⟩ := r.lst_of
  cases q : intsOf ds with
  | none =>
    rw [q] at h1
    exact h1.elim
  | some ns =>
    rw [q] at h1
    exact ⟨a, ns, rfl, .inl (.inl (by rw [← ints_of_rp q2 q]; exact E1.ex _ _ q1)), h1.1, fun m hm hy => k _ δ1 _ G1 H1 (h1.2 m hm hy) E1 e1 (.int _)⟩
def rFind : V → List V → Hp → VK → Prop := fun x xs H Q => ∃ a b, x = .str a ∧ xs = [.str b] ∧ Q (.int (Txt.find a b)) H
def dFind (ua ub : DTE) : DTE := fun δ R => ua δ fun d1 δ1 => match d1 with
  | .str a => ub δ1 fun d2 δ2 => (match d2 with
    | .str b => R (.int (Txt.find a b)) δ2
    | _ => False)
  | _ => False
theorem re_find (ha : RE K ta ua) (hb : RE K tb ub) : RE K (tM1 rFind ta tb) (dFind ua ub) := by
  intro c σ G H δ Q R E h k
  refine ha c σ G H δ _ _ E h fun d1 δ1 v1 G1 H1 h1 E1 e1 r1 => ?_
  cases d1 <;> first
    | exact False.elim h1
    | skip
  rename_i a
  refine ⟨⟨a, r1.str_of⟩, ?_⟩
  refine hb c σ G1 H1 δ1 _ _ E1 h1 fun d2 δ2 v2 G2 H2 h2 E2 e2 r2 => ?_
  cases d2 <;> first
    | exact False.elim h2
    | exact ⟨a, _, r1.str_of, by rw [r2.str_of], k _ δ2 _ G2 H2 h2 E2 (e1.trans e2) (.int _)⟩
end
section
variable {X : Cx} {a b : Expr} {ta tb : TE} {ua ub : DTE} {pos p : Pos}
theorem de_sum1 (hm : X.mg "sum" = none) (ha : DE X a ta ua) (hc : X.calm = true := by rfl) (hg : Gl X "sum" := by rfl) (hv : bootBuiltins "sum" = some (.builtin "sum") := by decide +kernel) (hs : starEach [a] X.env = (false, eval a X.env) :: starEach [] X.env := by rfl) (hpl : (backTo pos (starEach [] X.env)).any (·.1) = false := by rfl) :
    DE X (.Call (.Name "sum" p) [a] [] pos) (tCB (rSum X.K) (tCons ta tNil)) (dSum ua) := ⟨pe_callB (cr_sum hc) hg hm hv (pa_cons ha.pe pa_nil hs) (by decide) (by decide) hs hpl, re_sum ha.re⟩
theorem de_max1 (hm : X.mg "max" = none) (ha : DE X a ta ua) (hc : X.calm = true := by rfl) (hg : Gl X "max" := by rfl) (hs : starEach [a] X.env = (false, eval a X.env) :: starEach [] X.env := by rfl) (hpl : (backTo pos (starEach [] X.env)).any (·.1) = false := by rfl) :
    DE X (.Call (.Name "max" p) [a] [] pos) (tCB (rMax X.K) (tCons ta tNil)) (dMaxL ua) := ⟨pe_callB (cr_max hc) hg hm PyProof.Rows.boot_max (pa_cons ha.pe pa_nil hs) (by decide) (by decide) hs hpl, re_maxL ha.re⟩
theorem de_m_find {apos : Pos} (ha : DE X a ta ua) (hb : DE X b tb ub) (hs : starEach [b] X.env = [(false, eval b X.env)] := by rfl) (hbase : attributeBase a "find" X.env (eval a X.env) = eval a X.env := by rfl) (hline : (apos.endLine == pos.line) = true := by rfl) :
    DE X (.Call (.Attribute a "find" apos) [b] [] pos) (tM1 rFind ta tb) (dFind ua ub) := ⟨pe_m1 F.slot_str_find F.type_str_find mt_find ha.pe hb.pe hs hbase hline, re_find ha.re hb.re⟩
end
end TL

set_option Elab.async false
set_option linter.all false
set_option maxRecDepth 100000
set_option maxHeartbeats 4000000
/-! TLq: the set of a list of ints, made by the type's call; sorted of it. -/
namespace TL
open PySem PySem.Spec PyProof.Rows L2
variable [XW]
/-- a set without members, as it is laid -/
abbrev setE (w : World) : Obj := { cls := .type "set", dict := none, data := .set #[] 0 (.fresh 0 0 (!w.params.followText "set-order")) }
section
variable {P : Program} {w : World} {A : Around} {E : Value → Shared → Prop} {s : Shared}
/-- what is known behind the filling -/
def Filled (w : World) (s : Shared) (ns : List Int) (s2 : Shared) : Prop := ∃ (g : Heap) (k n : Nat), s2 = { s with heap := g, toks := k } ∧ SetR w g s.heap.objs.size (fun j => decide (j ∈ ns)) n ∧ n ≤ ns.length ∧ ∀ b o, s.heap.get? b = some o → g.get? b = some o
set_option maxHeartbeats 4000000 in
theorem fill_list {l : Addr} {its : Array Value} {ns : List Int} (calm : A.handled = none) (L : s.heap.IsList l its) (hit : IntsAre its.toList ns) (room : ns.length + 1 < scanBound) :
    codeAny (model P w) A (.call (.builtin "set.__init__") ⟨[.ref s.heap.objs.size, .ref l], []⟩) (wants (fun r s2 => r = .none ∧ Filled w s ns s2) E) { s with heap := s.heap.push (setE w) } := by
  have e0 : (s.heap.push (setE w)).get? s.heap.objs.size = some (setE w) := Heap.get?_push_size _ rfl
  have ty : Shared.TypeIs { s with heap := s.heap.push (setE w) } (.ref s.heap.objs.size) "set" := ⟨_, e0, rfl⟩
  have isz : its.size = ns.length := by
    have q := IntsAre.length hit
    rwa [Array.length_toList] at q
  refine codeAny_call_builtin F.called_set.init.plain F.entry_set_init (check_set_init_1 ty ?_)
  have L1 : (s.heap.push (setE w)).IsList l its := L.push _
  obtain ⟨⟨oc, od, ob, os⟩, ho, hc, n0, hd⟩ := L
  simp only at hc hd
  subst hc hd
  have hlt : l < s.heap.objs.size := Heap.lt_size ho
  have ho1 : (s.heap.push (setE w)).get? l = some { cls := .type "list", dict := od, data := .seq its n0, slots := os } := Heap.get?_push_of_some _ ho
  have f1 := F.sub_list_set
  have f2 := F.sub_list_frozenset
  have f3 : (Value.type "list" == Value.type "dict") = false := by decide
  unfold Builtin.«set.__init__» noKeywords Builtin.Frozenset.updateFrom
  generalize hp : pyIter = PI
  wp_walk
  subst hp
  refine wpAny_pyIter_list L1 ?_
  refine wpAny_bind (wpAny_runValue ?_)
  have c3 : A.in1.in1.handled = none := by simp [calm]
  have n1 : (s.heap.push (setE w)).objs.size = s.heap.objs.size + 1 := Heap.size_push ..
  have n2 : l ≠ (s.heap.push (setE w)).objs.size := by
    rw [n1]
    exact Nat.ne_of_lt (Nat.lt_succ_of_lt hlt)
  have n3 : s.heap.objs.size ∉ [(s.heap.push (setE w)).objs.size, l] := by
    rw [n1]
    intro z
    rcases List.mem_cons.mp z with z | z
    · exact absurd z (Nat.ne_of_lt (Nat.lt_succ_self _))
    · exact absurd (List.mem_singleton.mp z) (Nat.ne_of_gt hlt)
  have vals : ∀ (i : Nat) (v : Value), its[i]? = some v → ∃ k t, ns[i]? = some k ∧ v = .int k t := fun i v hv => by
    have hi : i < ns.length := by
      rw [← isz]
      exact (Array.getElem?_eq_some_iff.mp hv).1
    obtain ⟨t, e⟩ := IntsAre.int_at hit i v (by rw [Array.getElem?_toList]; exact hv)
    refine ⟨ns[i], t, List.getElem?_eq_getElem hi, ?_⟩
    rw [e, List.getD_eq_getElem?_getD, List.getElem?_eq_getElem hi]
    rfl
  refine set_update_ints ((Walks.list c3 _ l n2 its).toS) s.heap.objs.size n3 ns isz room vals (its.size - 0) 0 _ (by omega) (Nat.zero_le _) ?_ ?_ ?_
  · exact ⟨⟨_, Heap.get?_push_size _ rfl, rfl, rfl⟩, L1.push _⟩
  · exact ⟨0, Nat.le_refl 0, setR_new_at (Heap.get?_push_of_some _ e0)⟩
  · intro s3 n mv hn S
    obtain ⟨g, gs, dr, tk, oo⟩ := s3
    obtain rfl : gs = s.gens := mv.gens
    obtain rfl : dr = s.drawn := mv.drawn
    obtain rfl : oo = s.os := mv.os
    show wpAny _ _ _ _ _ _
    refine wpAny_pure ?_
    show wpAny _ _ (ret Value.none) _ _ _
    refine wpAny_pure ⟨rfl, g, tk, n, rfl, S, by rw [isz] at hn; exact hn, fun b o e => ?_⟩
    have b0 : b < s.heap.objs.size := Heap.lt_size e
    refine mv.heap b o (fun z => ?_) (Heap.get?_push_of_some _ (Heap.get?_push_of_some _ e))
    rcases List.mem_cons.mp z with z | z
    · exact absurd z (Nat.ne_of_lt b0)
    · have z := List.mem_singleton.mp z
      rw [n1] at z
      exact absurd z (Nat.ne_of_lt (Nat.lt_succ_of_lt b0))
/-- set(xs), xs a list of ints -/
theorem set_of_ints {l : Addr} {its : Array Value} {ns : List Int} {Q : Value → Shared → Prop} (calm : A.handled = none) (L : s.heap.IsList l its) (hit : IntsAre its.toList ns) (room : ns.length + 1 < scanBound)
    (k : ∀ s2, Filled w s ns s2 → Q (.ref s.heap.objs.size) s2) : wpAny (model P w) A (call (.type "set") [.ref l]) Q E s := by
  obtain ⟨m1, m2, m3⟩ := F.called_set.mro; have m4 := F.called_set.made; have m5 := F.called_set.sub
  refine wpAny_call (codeAny_of_tree ?tree); case tree =>
  show wpAny _ _ (callAny (.type "set") ⟨[.ref l], []⟩) _ _ _
  refine wpAny_pure ⟨Code.quiet_builtin _ (by decide +kernel), codeAny_builtin F.entry_type_call ?body⟩; case body =>
  rw [Around.under_plain (weight_type_call_type "set" [.ref l] []) rfl]; have m6 := F.called_set.notType; have m7 := F.called_set.canCreate; have m8 := F.typeCall_set_1 (.ref l)
  repeat (any_goals first | assumption | wp_step)
  refine codeAny_mono (code_set_led1 (.ref l) (E := E) (Q₁ := fun v s1 => v = .ref s.heap.objs.size ∧ s1 = { s with heap := s.heap.push (setE w) }) ⟨rfl, rfl⟩) ?after
  case after =>
    rintro (e | f) s1 hr
    · exact hr
    · cases f with
      | ret v =>
        obtain ⟨rfl, rfl⟩ := hr
        have e0 : (s.heap.push (setE w)).get? s.heap.objs.size = some (setE w) := Heap.get?_push_size _ rfl
        have ty : Shared.TypeIs { s with heap := s.heap.push (setE w) } (.ref s.heap.objs.size) "set" := ⟨_, e0, rfl⟩
        have i1 := F.called_set.init.lookup; have i2 := F.called_set.init.bind (.ref s.heap.objs.size)
        repeat (any_goals first | assumption | wp_step)
        refine codeAny_mono (fill_list (E := E) (by first | exact calm | simp [calm]) L hit room) ?done
        case done =>
          rintro (e | f) s2 hr2
          · exact hr2
          · cases f with
            | ret r =>
              obtain ⟨rfl, hf⟩ := hr2
              repeat (any_goals first | assumption | wp_step)
              exact k _ hf
            | _ => exact hr2.elim
      | _ => exact hr.elim
end
/-! ### over the layer -/
section
variable {X : Cx}
/-- set(xs) -/
def rSetI (K : PySem.W.Frag) (w : World) : List V → Hp → VK → Prop := fun xs H Q => ∃ (a : Addr) (ns : List Int), xs = [V.ref a] ∧ SqL K H a (ns.map V.int) ∧ ns.length < 60 ∧
  ∀ (p : Addr) (n : Nat), H p = none → n ≤ ns.length → Q (.ref p) (upd H p (SetO w p (fun j => decide (j ∈ ns)) n))
theorem cr_setI (hc : X.calm = true) : CallR X (.type "set") (rSetI X.K X.w) := by
  intro pins s σ H xs us Q I r h
  obtain ⟨a, ns, rfl, hS, hl, q⟩ := h
  rw [Vals.ref1 r]
  obtain ⟨its, rv, pl, hz⟩ := I.list hS
  refine set_of_ints (I.ok.hd hc) pl.isList (by rw [List.toList_toArray]; exact ints_of_vals rv) (by unfold scanBound; omega) fun s2 hf => ?_
  obtain ⟨g, k, n, rfl, S, hn, kept⟩ := hf
  have free : H s.heap.objs.size = none := I.hok.fresh (Nat.le_refl _)
  exact ⟨.ref _, _, I.laid (t' := k) kept (Nat.le_refl _) (setO_new S), rfl, q _ n free hn⟩
end
end TL

set_option Elab.async false
set_option linter.all false
set_option maxRecDepth 100000
set_option maxHeartbeats 4000000
/-! TLr: max with default=, sorted(set(ints)), tuples put together, calls by keywords alone. -/
namespace TL
open PySem PySem.Spec L2
variable [XW]
section
variable {X : Cx}
/-- max(xs, default=d) -/
def rMaxDf (K : PySem.W.Frag) : List V → List V → Hp → VK → Prop := fun xs zs H Q => ∃ (a : Addr) (ns : List Int) (d : Int), xs = [V.ref a] ∧ zs = [V.int d] ∧ SqL K H a (ns.map V.int) ∧ (ns = [] → Q (.int d) H) ∧ ∀ m, m ∈ ns → (∀ y, y ∈ ns → y ≤ m) → Q (.int m) H
theorem foldmax_in : ∀ (r : List Int) (n : Int), r.foldl max n ∈ n :: r ∧ ∀ y ∈ n :: r, y ≤ r.foldl max n
  | [], n => ⟨List.mem_cons_self, fun y hy => by rw [List.mem_singleton.mp hy]; exact Int.le_refl _⟩
  | k :: r, n => by
    obtain ⟨h1, h2⟩ := foldmax_in r (max n k)
    rw [List.foldl_cons]
    constructor
    · rcases List.mem_cons.mp h1 with e | e
      · rw [e]
        by_cases hk : n ≤ k
        · rw [Int.max_eq_right hk]
          exact List.mem_cons_of_mem _ List.mem_cons_self
        · rw [Int.max_eq_left (by omega)]
          exact List.mem_cons_self
      · exact List.mem_cons_of_mem _ (List.mem_cons_of_mem _ e)
    · intro y hy
      have top := h2 _ List.mem_cons_self
      rcases List.mem_cons.mp hy with e | hy
      · rw [e]
        exact Int.le_trans (Int.le_max_left _ _) top
      · rcases List.mem_cons.mp hy with e | hy
        · rw [e]
          exact Int.le_trans (Int.le_max_right _ _) top
        · exact h2 y (List.mem_cons_of_mem _ hy)
theorem depth_ints : ∀ ns : List Int, PyData.depthAll (ns.map PyData.int) = 0
  | [] => rfl
  | n :: r => by
    show max (PyData.depth (.int n)) (PyData.depthAll (r.map PyData.int)) = 0
    rw [depth_ints r]
    rfl
theorem cr_maxDf (hc : X.calm = true) (hu : X.A.units + 65 < cLine) : CallRK X (.builtin "max") [Str.ofString "default"] (rMaxDf X.K) := by
  intro pins s σ H xs zs us ws Q I r rz h
  obtain ⟨a, ns, d, rfl, rfl, hs, q0, q1⟩ := h
  obtain ⟨its, rv, hl, _⟩ := I.list hs
  rw [Vals.ref1 r]
  obtain ⟨u, rfl, ru⟩ := L2.vals1 rz
  obtain ⟨t, rfl⟩ := ru
  show wpAny _ _ (call (.builtin "max") [.ref a] [(Str.ofString "default", .int d t)]) _ _ _
  refine PySem.W.max_list_default (xs := ns.map PyData.int) (as := []) (I.ok.hd hc) hl.isList (by rw [List.toList_toArray]; exact PyProof.Rows.ints_readAll _ rv.ints) ⟨fun x hx y hy => ?_, fun x hx => ?_⟩ (by rw [depth_ints]; omega) (fun e h' tk hk => ?_) (fun y ys i v h' tk bs e hv rd hk => ?_)
  · obtain ⟨i, _, rfl⟩ := List.mem_map.mp hx
    obtain ⟨j, _, rfl⟩ := List.mem_map.mp hy
    rfl
  · obtain ⟨i, _, rfl⟩ := List.mem_map.mp hx
    exact fun z => nomatch z
  · exact ⟨.int d, H, I.kept hk, ⟨_, rfl⟩, q0 (List.map_eq_nil_iff.mp e)⟩
  · cases ns with
    | nil => cases e
    | cons n r =>
      rw [List.map_cons] at e
      obtain ⟨rfl, rfl⟩ := List.cons.inj e
      rw [PySem.W.maxD_ints] at rd
      obtain ⟨h1, h2⟩ := foldmax_in r n
      cases rd
      exact ⟨.int _, H, I.kept hk, ⟨_, rfl⟩, q1 _ h1 h2⟩
end
section
variable {K : PySem.W.Frag} {ta tb : TE} {ua ub : DTE}
def dMaxDf (u : DTE) (k : Int) : DTE := fun δ R => u δ fun d δ1 => match d with
  | .list ds => (match intsOf ds with
    | some ns => (ns = [] → R (.int k) δ1) ∧ ∀ m, m ∈ ns → (∀ y, y ∈ ns → y ≤ m) → R (.int m) δ1
    | none => False)
  | _ => False
theorem re_maxDf {k0 : Int} (ha : RE K ta ua) : RE K (tCKw (rMaxDf K) (tCons ta tNil) (tCons (tC (.int k0)) tNil)) (dMaxDf ua k0) := by
  intro c σ G H δ Q R E h k
  refine ha c σ G H δ _ _ E h fun d δ1 v G1 H1 h1 E1 e1 r => ?_
  cases d <;> first
    | exact False.elim h1
    | skip
  rename_i ds
  have h1 : (match intsOf ds with
    | some ns => (ns = [] → R (.int k0) δ1) ∧ ∀ m, m ∈ ns → (∀ y, y ∈ ns → y ≤ m) → R (.int m) δ1
    | none => False) := h1
  obtain ⟨a, xs, rfl, q1, q2⟩ := r.lst_of
  cases q : intsOf ds with
  | none =>
    rw [q] at h1
    exact h1.elim
  | some ns =>
    rw [q] at h1
    exact ⟨a, ns, k0, rfl, rfl, .inl (.inl (by rw [← ints_of_rp q2 q]; exact E1.ex _ _ q1)), fun z => k _ δ1 _ G1 H1 (h1.1 z) E1 e1 (.int _), fun m hm hy => k _ δ1 _ G1 H1 (h1.2 m hm hy) E1 e1 (.int _)⟩
/-- sorted(set(xs)), xs a list of ints -/
def dSortSet (u : DTE) : DTE := fun δ R => u δ fun d δ1 => match d with
  | .list ds => (match intsOf ds with
    | some ns => ns.length < 60 ∧ ∀ ms : List Int, ms.Pairwise (· < ·) → (∀ k, k ∈ ms ↔ k ∈ ns) → R (.list (ms.map PyData.int)) δ1
    | none => False)
  | _ => False
theorem re_sortSet {w : World} (ha : RE K ta ua) : RE K (tCB (rSortedSet w) (tCons (tCB (rSetI K w) (tCons ta tNil)) tNil)) (dSortSet ua) := by
  intro c σ G H δ Q R E h k
  refine ha c σ G H δ _ _ E h fun d δ1 v G1 H1 h1 E1 e1 r => ?_
  cases d <;> first
    | exact False.elim h1
    | skip
  rename_i ds
  have h1 : (match intsOf ds with
    | some ns => ns.length < 60 ∧ ∀ ms : List Int, ms.Pairwise (· < ·) → (∀ k, k ∈ ms ↔ k ∈ ns) → R (.list (ms.map PyData.int)) δ1
    | none => False) := h1
  obtain ⟨a, xs, rfl, q1, q2⟩ := r.lst_of
  cases q : intsOf ds with
  | none =>
    rw [q] at h1
    exact h1.elim
  | some ns =>
    rw [q] at h1
    obtain ⟨hl, h1⟩ := h1
    refine ⟨a, ns, rfl, .inl (.inl (by rw [← ints_of_rp q2 q]; exact E1.ex _ _ q1)), hl, fun p n hp hn => ?_⟩
    refine ⟨p, _, n, rfl, upd_same, by omega, fun ms p2 hs hm hlen hp2 => ?_⟩
    have A1 : Al G1 H1 G1 (upd H1 p (SetO w p (fun j => decide (j ∈ ns)) n)) := Al.tmp E1.ex hp
    have A2 := Al.new (o := .lst (ms.map V.int)) A1.ex hp2
    have A := A1.trans A2
    have rp : Rp K (upd G1 p2 (.lst (ms.map V.int))) (.ref p2) (.list (ms.map PyData.int)) := .lst upd_same (ints_rp ms)
    refine k _ δ1 _ _ _ (h1 ms hs fun j => ?_) (E1.al A) (e1.trans A.g) rp
    rw [hm j]
    exact decide_eq_true_iff
/-- two tuples put together, the one ahead not empty -/
def rdCatT : R2D := fun d1 d2 R => match d1, d2 with
  | .tuple xs, .tuple ys => 0 < xs.length ∧ xs.length + ys.length ≤ sizeLine ∧ R (.tuple (xs ++ ys))
  | _, _ => False
theorem ro_catT : RO K (rCatT K) rdCatT := by
  intro G H x y d1 d2 Q R e r1 r2 h k
  cases d1 <;> first
    | exact False.elim h
    | skip
  cases d2 <;> first
    | exact False.elim h
    | skip
  rename_i xs ys
  obtain ⟨h0, hz, h⟩ := h
  obtain ⟨a, vs, rfl, a1, a2⟩ := r1.tup_of
  obtain ⟨b, us, rfl, b1, b2⟩ := r2.tup_of
  have l1 := a2.len
  have l2 := b2.len
  refine ⟨a, b, vs, us, rfl, rfl, .inl (.inl (e _ _ a1)), .inl (.inl (e _ _ b1)), fun z => by rw [z] at l1; simp at l1; omega, by omega, fun z => ?_, fun z p hp => ?_⟩
  · subst z
    cases b2
    rw [List.append_nil] at h
    exact k _ _ G H h (Al.refl e) (.tup a1 a2)
  · have A := Al.new (o := .tup (vs ++ us)) e hp
    exact k _ _ _ _ h A (.tup upd_same (RpAll.app (a2.up A.g) (b2.up A.g)))
end
section
variable {X : Cx} {a b e : Expr} {ta tb : TE} {ua ub : DTE} {pos p p2 pk : Pos}
theorem de_maxDf {k0 : Int} {nm : Option Str} {v : Expr} (hm : X.mg "max" = none) (hu : X.A.units + 65 < cLine) (ha : DE X a ta ua) (hv : PE X v (tC (.int k0))) (hc : X.calm = true := by rfl) (hg : Gl X "max" := by rfl)
    (he : backTo pos (starEach [a] X.env) = (false, eval a X.env) :: backTo pos (starEach [] X.env) := by rfl) (hpl : (backTo pos (starEach [a] X.env)).any (·.1) = false := by rfl) (hs : starEach [a] X.env = (false, eval a X.env) :: starEach [] X.env := by rfl)
    (hall : (backToKw pos (keywordEach [⟨nm, v, pk⟩] X.env)).all (·.1.isSome) = true := by rfl) (hnone : (backToKw pos (keywordEach [⟨nm, v, pk⟩] X.env)).any (·.1.isNone) = false := by rfl) (hks : (backToKw pos (keywordEach [⟨nm, v, pk⟩] X.env)).filterMap (·.1) = [Str.ofString "default"] := by rfl) :
    DE X (.Call (.Name "max" p) [a] [⟨nm, v, pk⟩] pos) (tCKw (rMaxDf X.K) (tCons ta tNil) (tCons (tC (.int k0)) tNil)) (dMaxDf ua k0) :=
  ⟨pe_callBK (cr_maxDf hc hu) hg hm PyProof.Rows.boot_max (pa_cons ha.pe pa_nil hs) (pk_cons hv pk_nil) (by decide) (by decide) he hpl hall hnone hks, re_maxDf ha.re⟩
theorem de_sortSet (hm : X.mg "sorted" = none) (hm2 : X.mg "set" = none) (ha : DE X a ta ua) (hc : X.calm = true := by rfl) (hg : Gl X "sorted" := by rfl) (hg2 : Gl X "set" := by rfl)
    (hv : bootBuiltins "sorted" = some (.builtin "sorted") := by decide +kernel) (hv2 : bootBuiltins "set" = some (.type "set") := by decide +kernel)
    (hs : starEach [a] X.env = (false, eval a X.env) :: starEach [] X.env := by rfl) (hpl : (backTo p2 (starEach [] X.env)).any (·.1) = false := by rfl)
    (hs2 : starEach [.Call (.Name "set" pk) [a] [] p2] X.env = (false, eval (.Call (.Name "set" pk) [a] [] p2) X.env) :: starEach [] X.env := by rfl) (hpl2 : (backTo pos (starEach [] X.env)).any (·.1) = false := by rfl) :
    DE X (.Call (.Name "sorted" p) [.Call (.Name "set" pk) [a] [] p2] [] pos) (tCB (rSortedSet X.w) (tCons (tCB (rSetI X.K X.w) (tCons ta tNil)) tNil)) (dSortSet ua) :=
  ⟨pe_callB (cr_sortedSet hc) hg hm hv (pa_cons (pe_callTy (cr_setI hc) hg2 hm2 hv2 (pa_cons ha.pe pa_nil hs) (by decide) (by decide) hs hpl) pa_nil hs2) (by decide) (by decide) hs2 hpl2, re_sortSet ha.re⟩
end
end TL

set_option Elab.async false
set_option linter.all false
set_option maxRecDepth 100000
set_option maxHeartbeats 4000000
/-! TLk: own defs called by keywords alone. -/
namespace TL
open PySem PySem.Spec L2
variable [XW]
/-- a def that may be called by the names of its parameters, too -/
structure KnK (P : Program) (w : World) (K : PySem.W.Frag) (mg : Str → Option Value) (base : Heap) (k : Nat) (x : Str) (ks : List Str) (S : DSp) : Prop where
  ex : ∃ (f : Addr) (fd : FuncData) (ps : List Str), FnOkG P w K mg base CX0 k f fd ps (spD K S) ∧ mg x = some (.ref f) ∧ PySem.W.keepIn K (.ref f) = true ∧ KBinds K fd ps ks (fun us ws => us ++ ws) (fun us ws => us ++ ws)
section
variable {X : Cx} {CX : CXT} {k : Nat} {f : Addr} {fd : FuncData} {ps ks : List Str} {sp : Sp} {E : XK} {x : Str} {p pos pk : Pos} {kws : List Keyword} {tk : TA} {g : List Value → List Value → List Value} {gV : List V → List V → List V}
theorem pe_callK0 (F : FnOkG X.prog X.w X.K X.mg X.base CX k f fd ps sp) (hr : RoomG k X.A) (hg : Gl X x) (hm : X.mg x = some (.ref f)) (hk : PySem.W.keepIn X.K (.ref f) = true) (hb : KBinds X.K fd ps ks g gV) (hx : Passes CX X E)
    (hkw : PK X kws tk) (hall : (backToKw pos (keywordEach kws X.env)).all (·.1.isSome) = true := by rfl) (hks : (backToKw pos (keywordEach kws X.env)).filterMap (·.1) = ks := by rfl)
    (hdb : (x == ("__debug__" : Str)) = false := by decide)
    (hpl : ((backTo pos (starEach [] X.env)).any (·.1) || (backToKw pos (keywordEach kws X.env)).any (·.1.isNone)) = false := by rfl) :
    PE X (.Call (.Name x p) [] kws pos) (tCallK sp gV E tNil tk) := by
  refine ⟨fun pins s σ H Q I h => ?_⟩
  refine wpAny_Call_Name_kw (ld_glob I hg hm ?_ hdb)
  refine PySem.W.callWith_KW0 (h₀ := X.base) I.ok.mod.kin hk hall (thn (hkw.run pos pins s σ H _ I h) fun ws s2 ⟨zs, H2, I2, rz, q2⟩ => ⟨I2.kIn, ?_⟩) hpl
  rw [hks]
  exact run_fnkG F hr hb hx I2 .nil rz q2
theorem pk_of_pa : ∀ {kws : List Keyword} {t : TA}, (∃ e te nm q, kws = [⟨nm, e, q⟩] ∧ PE X e te ∧ t = tCons te tNil) → PK X kws t := fun {kws t} ⟨e, te, nm, q, h1, h2, h3⟩ => by
  subst h1 h3
  exact pk_cons h2 pk_nil
theorem de_callKw {v : Expr} {tv : TE} {uv : DTE} {nm : Option Str} {S : DSp} {j : Nat} (kn : KnK X.prog X.w X.K X.mg X.base k x ks S) (hr : RoomG j X.A) (hk : k ≤ j) (hv : DE X v tv uv) (hg : Gl X x := by rfl) (hdb : (x == ("__debug__" : Str)) = false := by decide)
    (hall : (backToKw pos (keywordEach [⟨nm, v, pk⟩] X.env)).all (·.1.isSome) = true := by rfl) (hks : (backToKw pos (keywordEach [⟨nm, v, pk⟩] X.env)).filterMap (·.1) = ks := by rfl)
    (hpl : ((backTo pos (starEach [] X.env)).any (·.1) || (backToKw pos (keywordEach [⟨nm, v, pk⟩] X.env)).any (·.1.isNone)) = false := by rfl) :
    DE X (.Call (.Name x p) [] [⟨nm, v, pk⟩] pos) (tCall (spD X.K S) [] E0 (tCons tv tNil)) (dCall S (cD uv cNil)) := by
  obtain ⟨f, fd, ps, F, hm, kp, b⟩ := kn.ex
  refine ⟨?_, re_call (rca_d hv.re rca_nil)⟩
  have q := pe_callK0 (p := p) (tk := tCons tv tNil) F (hr.mono hk) hg hm kp b pass0 (pk_cons hv.pe pk_nil) hall hks hdb hpl
  have e : tCallK (spD X.K S) (fun us ws => us ++ ws) E0 tNil (tCons tv tNil) = tCall (spD X.K S) [] E0 (tCons tv tNil) := by
    funext σ H Q
    show (tv σ H fun z H2 => spD X.K S ([] ++ [z]) H2 Q E0) = (tv σ H fun z H2 => spD X.K S ([z] ++ []) H2 Q E0)
    rfl
  rw [← e]
  exact q
end
theorem kbinds1 {K : PySem.W.Frag} {x qual : Str} {st : Stmt} {f : Addr} {fd : FuncData} {y : Str} (F : Fun K x qual st f fd)
    (h1 : ∀ (kV doc pm : Value) (an : Option Addr) (cdv ct u : Value), bindArgs (PySem.W.fnOf x qual (defArgs st) (defBody st) (defScope st) .none kV doc pm an cdv ct) ⟨[u], []⟩ = pure [(y, u)])
    (h2 : ∀ (kV doc pm : Value) (an : Option Addr) (cdv ct u : Value), bindArgs (PySem.W.fnOf x qual (defArgs st) (defBody st) (defScope st) .none kV doc pm an cdv ct) ⟨[], [(y, u)]⟩ = pure [(y, u)]) :
    KBinds K fd [y] [y] (fun us ws => us ++ ws) (fun us ws => us ++ ws) := by
  obtain ⟨oc, od, kV, doc, pm, an, cdv, ct, osl, rfl, lk, hcd⟩ := F.ex
  refine ⟨fun s us ws _ hl => ?_, fun r rz => r.append rz⟩
  rw [List.length_append] at hl
  rcases us with _ | ⟨u, us⟩
  · rcases ws with _ | ⟨u, ws⟩
    · simp at hl
    · have e : ws = [] := by
        simp at hl
        exact hl
      subst e
      exact .of_eq (h2 kV doc pm an cdv ct u)
  · have e : us = [] ∧ ws = [] := by
      constructor <;> apply List.eq_nil_of_length_eq_zero <;> simp at hl <;> omega
    obtain ⟨rfl, rfl⟩ := e
    exact .of_eq (h1 kV doc pm an cdv ct u)
end TL

set_option Elab.async false
set_option linter.all false
set_option maxRecDepth 100000
set_option maxHeartbeats 4000000
/-! TLt: calls in a comprehension; a call whose later arguments change its first; a promise that asks for nothing. -/
namespace TL
open PySem PySem.Spec L2
variable [XW]
def MonoS (S : DSp) : Prop := ∀ (as : List Sl) (R R' : PyData → List (List PyData) → Prop), (∀ d o, R d o → R' d o) → S as R → S as R'
theorem var_at {i : Nat} {δ : List Sl} {R : DQ} {d : PyData} (h : δ[i]? = some (.dat d)) (k : R d δ) : dVar i δ R := by
  unfold dVar
  rw [h]
  exact k
theorem own_tail {S : DSp} {δ : List Sl} {R : DQ} {i : Nat} {t : Option Nat} {cs : List PyData} (hs : δ[i]? = some (.own t cs)) (ds : List PyData) (mono : MonoS S)
    (k : S (.own (some 0) cs :: ds.map Sl.dat) fun d outs => ∃ o, outs = [o] ∧ R d (δ.set i (.own t o))) :
    (muts δ (.s i :: ds.map CA.d)).Nodup ∧ S (asOf δ (.s i :: ds.map CA.d) 0) fun d outs => outs.length = (muts δ (.s i :: ds.map CA.d)).length ∧ R d (setOuts δ (muts δ (.s i :: ds.map CA.d)) outs) := by
  have z := call_own1 (R := R) (ua := fun δ Q => Q (ds.map CA.d) δ) hs ds (fun Q q => q) k (mono _)
  exact z.2
theorem lc_calls {i : Nat} {S : DSp} {R : List PyData → List Sl → Prop} (mono : MonoS S) {δ0 : List Sl} (h00 : wipeS δ0 [i] = δ0) (hi : i < δ0.length) : ∀ (ps : List (PyData × PyData)) (acc : List PyData) (δ : List Sl), wipeS δ [i] = δ0 → acc.length + ps.length ≤ 16777216 →
    (∀ q ∈ ps, ∀ R' : PyData → List (List PyData) → Prop, R' q.2 [] → S [.dat q.1] R') → (∀ δ', wipeS δ' [i] = δ0 → R (acc ++ ps.map (·.2)) δ') → lcW [i] (dgName i) dYes (dCall S (cD (dVar i) cNil)) R (ps.map (·.1)) acc δ
  | [], acc, δ, h0, hl, hs, k => by
    have z := k δ h0
    rw [List.map_nil, List.append_nil] at z
    exact z
  | q :: r, acc, δ, h0, hl, hs, k => by
    have hl' : acc.length + r.length + 1 ≤ 16777216 := by
      rw [List.length_cons] at hl
      omega
    show dCall S (cD (dVar i) cNil) ((wipeS δ [i]).set i (.dat q.1)) fun y δ3 => acc.length < sizeLine ∧ lcW [i] (dgName i) dYes (dCall S (cD (dVar i) cNil)) R (r.map (·.1)) (acc ++ [y]) (wipeS δ3 [i])
    rw [h0]
    refine call_pure [q.1] (fun Q z => ?_) ?_ (mono _)
    · exact var_at (by rw [List.getElem?_set_self hi]) z
    · refine hs q List.mem_cons_self _ ⟨rfl, by rw [sizeLine_eq]; omega, ?_⟩
      have e : wipeS (δ0.set i (.dat q.1)) [i] = δ0 := by
        show (δ0.set i (.dat q.1)).set i .no = δ0
        rw [List.set_set]
        exact h00
      rw [e]
      refine lc_calls mono h00 hi r (acc ++ [q.2]) δ0 h00 (by rw [List.length_append, List.length_singleton]; omega) (fun q' hq' => hs q' (List.mem_cons_of_mem _ hq')) fun δ' h' => ?_
      have z := k δ' h'
      rw [List.map_cons] at z
      rw [List.append_assoc]
      exact z
theorem fn_none {P : Program} {w : World} {K : PySem.W.Frag} {mg : Str → Option Value} {base : Heap} {k : Nat} {f : Addr} {fd : FuncData} {ps : List Str} {S : DSp} (h : ∀ as R, ¬ S as R) : FnOkG P w K mg base CX0 k f fd ps (spD K S) :=
  ⟨fun vs H Q E ⟨_, _, _, _, _, _, z, _⟩ => absurd z (h _ _), fun A outer s H args us vs Q E _ _ _ _ ⟨_, _, _, _, _, _, z, _⟩ => absurd z (h _ _)⟩
end TL

set_option Elab.async false
set_option linter.all false
set_option maxRecDepth 100000
set_option maxHeartbeats 4000000
/-! TLi: the rules that name the frozen part of the heap, told again so that they may stand in a comprehension. -/
namespace TL
open PySem PySem.Spec L2
variable [XW]
section
variable {X : Cx} {K : PySem.W.Frag} {a b e : Expr} {es : List Expr} {ta tb te : TE} {ua ub ue : DTE} {pos p p2 : Pos} {tca : TA} {uca : DCA}
theorem de_callI {P : Program} {w : World} {mg : Str → Option Value} {base : Heap} {x : Str} {S : DSp} {k j : Nat} (kn : Kn P w K mg base k x S) (hr : RoomG j X.A) (hk : k ≤ j) (ha : DCa X (e :: es) tca uca)
    (hX : X.prog = P ∧ X.w = w ∧ X.K = K ∧ X.mg = mg ∧ X.base = base := by exact ⟨rfl, rfl, rfl, rfl, rfl⟩) (hg : Gl X x := by rfl) (hdb : (x == ("__debug__" : Str)) = false := by decide)
    (he : starEach (e :: es) X.env = (false, eval e X.env) :: starEach es X.env := by rfl) (hpl : (backTo pos (starEach es X.env)).any (·.1) = false := by rfl) : DE X (.Call (.Name x p) (e :: es) [] pos) (tCall (spD K S) [] E0 tca) (dCall S uca) := by
  obtain ⟨rfl, rfl, rfl, rfl, rfl⟩ := hX
  exact de_call kn hr hk ha hg hdb he hpl
theorem de_ixVI (i : Nat) {x : Str} (hb : DE X b tb ub) (hK : X.K = K := by rfl) (hN : X.N[i]? = some x := by rfl) (hv : Vis X.env.scope x := by first | exact Or.inl rfl | exact Or.inr (Or.inl rfl) | exact Or.inr (Or.inr rfl)) (hd : (x == ("__debug__" : Str)) = false := by decide)
    (hcd : (x == ("__classdict__" : Str)) = false := by decide) (hs : PlainIx b := by exact fun _ _ => rfl) : DE X (.Subscript (.Name x p) b pos) (tOp (rIxL K) (tVar i) tb) (dIxV i ub) := by
  subst hK
  exact de_ixV i hb hN hv hd hcd hs
theorem de_lenI {ps : Pos} (hm : X.mg "len" = none) (ha : DE X e te ue) (hK : X.K = K := by rfl) (hg : Gl X "len" := by rfl) (hs : starEach [e] X.env = (false, eval e X.env) :: starEach [] X.env := by rfl) (hpl : (backTo pos (starEach [] X.env)).any (·.1) = false := by rfl) :
    DE X (.Call (.Name "len" p) [e] [] pos) (tCB (rLen K) (tCons te tNil)) (dLen ue) := by
  subst hK
  exact de_len (ps := default) hm ha hg hs hpl
theorem de_isiI {T : String} {Tn : Str} (hm : X.mg "isinstance" = none) (hT : X.mg Tn = none) (hv : bootBuiltins Tn = some (.type T)) (ha : DE X e te ue) (hK : X.K = K := by rfl) (hg : Gl X "isinstance" := by rfl) (hgT : Gl X Tn := by rfl) (hb : bootBuiltins "isinstance" = some (.builtin "isinstance") := by decide +kernel)
    (hn : Tn ≠ "__name__" := by decide) (hd : (Tn == ("__debug__" : Str)) = false := by decide)
    (hs : starEach [e, .Name Tn p2] X.env = (false, eval e X.env) :: starEach [.Name Tn p2] X.env := by rfl) (hs2 : starEach [.Name Tn p2] X.env = (false, eval (.Name Tn p2) X.env) :: starEach [] X.env := by rfl) (hpl : (backTo pos (starEach [.Name Tn p2] X.env)).any (·.1) = false := by rfl) (hTe : kitB "" T = none := by decide +kernel) :
    DE X (.Call (.Name "isinstance" p) [e, .Name Tn p2] [] pos) (tCB (rIsi K) (tCons te (tCons (tC (.ty T)) tNil))) (dIsi T ue) := by
  subst hK
  exact de_isi hm hT hv ha hg hgT hb hn hd hs hs2 hpl hTe
end
end TL

set_option Elab.async false
set_option linter.all false
set_option maxRecDepth 100000
set_option maxHeartbeats 4000000
/-! TLm: what K03 found out and other laws want too; statements that are never reached. -/
namespace TL
open PySem PySem.Spec L2
variable [XW]
def isNon : PyData → Bool
  | .none => true
  | _ => false
def dIsN : R2D := fun a b R => match b with
  | .none => R (.bool (isNon a))
  | _ => False
def dNotN : R2D := fun a b R => match b with
  | .none => R (.bool (!isNon a))
  | _ => False
theorem isNon_rp {K : PySem.W.Frag} {G : Hp} {x : V} {d : PyData} (r : Rp K G x d) : decide (x = V.non) = isNon d := by
  cases r <;> simp [isNon, errD, fnvD]
theorem ro_isN {K : PySem.W.Frag} : RO K (fun x y H Q => y = .non ∧ Q (.bl (decide (x = .non))) H) dIsN := by
  intro G H x y d1 d2 Q R e r1 r2 h k
  cases d2 <;> first
    | exact False.elim h
    | skip
  refine ⟨r2.non_of, ?_⟩
  rw [isNon_rp r1]
  exact k _ _ G H h (Al.refl e) (.bl _)
theorem ro_notN {K : PySem.W.Frag} : RO K (fun x y H Q => y = .non ∧ Q (.bl (!decide (x = .non))) H) dNotN := by
  intro G H x y d1 d2 Q R e r1 r2 h k
  cases d2 <;> first
    | exact False.elim h
    | skip
  refine ⟨r2.non_of, ?_⟩
  rw [isNon_rp r1]
  exact k _ _ G H h (Al.refl e) (.bl _)
theorem call_own_late {S : DSp} {R : DQ} {i : Nat} {t : Option Nat} {δ : List Sl} {ua : DCA} (P : List PyData → List PyData → List Sl → Prop) (hi : isS δ[i]? = true)
    (hu : ∀ Q : List CA → List Sl → Prop, (∀ ds cs δ2, P ds cs δ2 → Q (ds.map CA.d) δ2) → ua δ Q) (mono : MonoS S)
    (k : ∀ ds cs δ2, P ds cs δ2 → δ2[i]? = some (.own t cs) ∧ S (.own (some 0) cs :: ds.map Sl.dat) fun d outs => ∃ o, outs = [o] ∧ R d (δ2.set i (.own t o))) : dCall S (cS i ua) δ R :=
  ⟨hi, hu _ fun ds cs δ2 h => own_tail (k ds cs δ2 h).1 ds mono (k ds cs δ2 h).2⟩
theorem eqv_ints : ∀ ns : List Int, PyData.eqvAll (ns.map PyData.int) (ns.map PyData.int) = true
  | [] => by simp [PyData.eqvAll]
  | n :: r => by
    show PyData.eqvAll (.int n :: r.map PyData.int) (.int n :: r.map PyData.int) = true
    simp [PyData.eqvAll, ev_ii, eqv_ints r]
theorem eqv_lints (ns : List Int) : PyData.eqv (.list (ns.map PyData.int)) (.list (ns.map PyData.int)) = true := by
  simp [PyData.eqv, eqv_ints ns]
theorem sh_ints (ns : List Int) : SeqAt.shaped (.list (ns.map PyData.int)) = true := by
  have a : PyData.canLayAll0 (ns.map PyData.int) = true := by
    induction ns with
    | nil => rfl
    | cons n r ih =>
      show (PyData.canLay0 (.int n) && PyData.canLayAll0 (r.map PyData.int)) = true
      rw [ih]
      rfl
  unfold SeqAt.shaped
  rw [Bool.and_eq_true]
  refine ⟨a, decide_eq_true ?_⟩
  show PyData.depthAll _ + 1 ≤ 64
  rw [depth_ints]
  decide
/-- two rising lists with the same members are one -/
theorem rise_eq : ∀ {a b : List Int}, a.Pairwise (· < ·) → b.Pairwise (· < ·) → (∀ k, k ∈ a ↔ k ∈ b) → a = b
  | [], [], _, _, _ => rfl
  | [], y :: b, _, _, h => absurd ((h y).mpr List.mem_cons_self) (by simp)
  | x :: a, [], _, _, h => absurd ((h x).mp List.mem_cons_self) (by simp)
  | x :: a, y :: b, ha, hb, h => by
    have ha' := List.pairwise_cons.mp ha
    have hb' := List.pairwise_cons.mp hb
    have e : x = y := by
      rcases List.mem_cons.mp ((h x).mp List.mem_cons_self) with e | h1
      · exact e
      · rcases List.mem_cons.mp ((h y).mpr List.mem_cons_self) with e | h2
        · exact e.symm
        · have := hb'.1 x h1
          have := ha'.1 y h2
          omega
    subst e
    refine congrArg (x :: ·) (rise_eq ha'.2 hb'.2 fun k => ⟨fun hk => ?_, fun hk => ?_⟩)
    · rcases List.mem_cons.mp ((h k).mp (List.mem_cons_of_mem _ hk)) with e | h1
      · have := ha'.1 k hk
        omega
      · exact h1
    · rcases List.mem_cons.mp ((h k).mpr (List.mem_cons_of_mem _ hk)) with e | h1
      · have := hb'.1 k hk
        omega
      · exact h1
/-- a statement that is never reached -/
def tNever : TS := fun _ _ _ => False
def dNever : DTS := fun _ _ => False
theorem ds_never {X : Cx} {st : Stmt} : DS X st tNever dNever := ⟨⟨fun _ _ _ _ _ _ h => False.elim h⟩, fun _ _ _ _ _ _ _ _ h _ => False.elim h⟩
end TL

set_option Elab.async false
set_option linter.all false
set_option maxRecDepth 100000
set_option maxHeartbeats 4000000
/-! TLo: all and any of a list of truths. -/
namespace TL
open PySem PySem.Spec L2
variable [XW]
def boolsOf : List PyData → Option (List Bool)
  | [] => some []
  | .bool b :: r => (boolsOf r).map (b :: ·)
  | _ :: _ => none
theorem boolsOf_map : ∀ bs : List Bool, boolsOf (bs.map PyData.bool) = some bs
  | [] => rfl
  | b :: r => by
    show (boolsOf (r.map PyData.bool)).map (b :: ·) = some (b :: r)
    rw [boolsOf_map r]
    rfl
section
variable {K : PySem.W.Frag} {ta : TE} {ua : DTE}
theorem bools_of_rp {G : Hp} : ∀ {ds : List PyData} {xs : List V} {ys : List Bool}, RpAll K G xs ds → boolsOf ds = some ys → xs = ys.map V.bl
  | _, _, _, .nil, h => by
    cases h
    rfl
  | d :: ds, _, ys, .cons (v := v) (vs := vs) r rr, h => by
    cases d <;> first
      | (cases h; done)
      | skip
    rename_i x
    have h : (boolsOf ds).map (x :: ·) = some ys := h
    cases q : boolsOf ds with
    | none =>
      rw [q] at h
      cases h
    | some zs =>
      rw [q] at h
      cases h
      rw [bools_of_rp rr q, r.bl_of]
      rfl
def dBools (f : List Bool → Bool) (u : DTE) : DTE := fun δ R => u δ fun d δ1 => match d with
  | .list ds => (match boolsOf ds with
    | some bs => R (.bool (f bs)) δ1
    | none => False)
  | _ => False
theorem re_bools {r : List V → Hp → VK → Prop} {f : List Bool → Bool} (hr : ∀ (a : Addr) (bs : List Bool) (H : Hp) (Q : VK), SqL K H a (bs.map V.bl) → Q (.bl (f bs)) H → r [V.ref a] H Q) (ha : RE K ta ua) : RE K (tCB r (tCons ta tNil)) (dBools f ua) := by
  intro c σ G H δ Q R E h k
  refine ha c σ G H δ _ _ E h fun d δ1 v G1 H1 h1 E1 e1 rr => ?_
  cases d <;> first
    | exact False.elim h1
    | skip
  rename_i ds
  have h1 : (match boolsOf ds with
    | some bs => R (.bool (f bs)) δ1
    | none => False) := h1
  obtain ⟨a, xs, rfl, q1, q2⟩ := rr.lst_of
  cases q : boolsOf ds with
  | none =>
    rw [q] at h1
    exact h1.elim
  | some bs =>
    rw [q] at h1
    exact hr a bs H1 _ (.inl (.inl (by rw [← bools_of_rp q2 q]; exact E1.ex _ _ q1))) (k _ δ1 _ G1 H1 h1 E1 e1 (.bl _))
end
section
variable {X : Cx} {a : Expr} {ta : TE} {ua : DTE} {pos p : Pos}
theorem de_all1 (hm : X.mg "all" = none) (ha : DE X a ta ua) (hc : X.calm = true := by rfl) (hg : Gl X "all" := by rfl) (hv : bootBuiltins "all" = some (.builtin "all") := by decide +kernel) (hs : starEach [a] X.env = (false, eval a X.env) :: starEach [] X.env := by rfl) (hpl : (backTo pos (starEach [] X.env)).any (·.1) = false := by rfl) :
    DE X (.Call (.Name "all" p) [a] [] pos) (tCB (rAll X.K) (tCons ta tNil)) (dBools (fun bs => bs.all id) ua) := ⟨pe_callB (cr_all hc) hg hm hv (pa_cons ha.pe pa_nil hs) (by decide) (by decide) hs hpl, re_bools (fun a bs H Q h q => ⟨a, bs, rfl, h, q⟩) ha.re⟩
theorem de_any1 (hm : X.mg "any" = none) (ha : DE X a ta ua) (hc : X.calm = true := by rfl) (hg : Gl X "any" := by rfl) (hv : bootBuiltins "any" = some (.builtin "any") := by decide +kernel) (hs : starEach [a] X.env = (false, eval a X.env) :: starEach [] X.env := by rfl) (hpl : (backTo pos (starEach [] X.env)).any (·.1) = false := by rfl) :
    DE X (.Call (.Name "any" p) [a] [] pos) (tCB (rAny X.K) (tCons ta tNil)) (dBools (fun bs => bs.any id) ua) := ⟨pe_callB (cr_any hc) hg hm hv (pa_cons ha.pe pa_nil hs) (by decide) (by decide) hs hpl, re_bools (fun a bs H Q h q => ⟨a, bs, rfl, h, q⟩) ha.re⟩
end
end TL

set_option Elab.async false
set_option linter.all false
set_option maxRecDepth 100000
set_option maxHeartbeats 4000000
/-! TLu: f-texts, pop, a text in a list that grows, written dicts of the module, repr of data, a sign in a text, truth. -/
namespace TL
open PySem PySem.Spec L2
variable [XW]

/-! ### f-texts -/
def dFmt (u : DTE) : DTE := fun δ R => u δ fun d δ1 => match d with
  | .str y => y.length ≤ sizeLine ∧ R (.str y) δ1
  | .int i => i.natAbs.log2 < 1920 ∧ R (.str (toString i)) δ1
  | _ => False
def dJs : List DTE → Str → List Sl → (Str → List Sl → Prop) → Prop
  | [], acc, δ, R => R acc δ
  | u :: us, acc, δ, R => u δ fun d δ1 => match d with
    | .str y => (acc ++ y).length ≤ sizeLine ∧ dJs us (acc ++ y) δ1 R
    | _ => False
def dJoined (us : List DTE) : DTE := fun δ R => dJs us Str.empty δ fun out δ1 => R (.str out) δ1
inductive DJ (X : Cx) : List Expr → List TE → List DTE → Prop where
  | nil : DJ X [] [] []
  | cons {e : Expr} {t : TE} {u : DTE} {es : List Expr} {ts : List TE} {us : List DTE} (h : DE X e t u) (r : DJ X es ts us) : DJ X (e :: es) (t :: ts) (u :: us)
theorem DJ.pj {X : Cx} {es : List Expr} {ts : List TE} {us : List DTE} (h : DJ X es ts us) : PJ X es ts := by
  induction h with
  | nil => exact .nil
  | cons h _ ih => exact .cons h.pe ih
theorem DJ.rj {X : Cx} {es : List Expr} {ts : List TE} {us : List DTE} (h : DJ X es ts us) : ∀ (c : Cf) (σ : L2.St) (G H : Hp) (δ : List Sl) (acc : Str) (Q : Str → Hp → Prop) (R : Str → List Sl → Prop), EnvOk X.K c G H σ δ → dJs us acc δ R →
    (∀ out δ' G' H', R out δ' → EnvOk X.K c G' H' σ δ' → Ex G G' → Q out H') → tJs ts acc σ H Q := by
  induction h with
  | nil =>
    intro c σ G H δ acc Q R E h k
    exact k acc δ G H h E (Ex.refl _)
  | cons h _ ih =>
    intro c σ G H δ acc Q R E hh k
    refine h.re c σ G H δ _ _ E hh fun d δ1 v G1 H1 h1 E1 e1 r1 => ?_
    cases d <;> first
      | exact False.elim h1
      | skip
    exact ⟨_, r1.str_of, h1.1, ih c σ G1 H1 δ1 _ Q R E1 h1.2 fun out δ' G' H' a b e => k out δ' G' H' a b (e1.trans e)⟩
section
variable {X : Cx} {e v1 v2 : Expr} {rest : List Expr} {te : TE} {ue : DTE} {ts : List TE} {us : List DTE} {pos : Pos}
theorem re_fmt {K : PySem.W.Frag} (ha : RE K te ue) : RE K (tFmt te) (dFmt ue) := by
  intro c σ G H δ Q R E h k
  refine ha c σ G H δ _ _ E h fun d δ1 v G1 H1 h1 E1 e1 r1 => ?_
  cases d <;> first
    | exact False.elim h1
    | skip
  · exact .inr ⟨_, r1.int_of, h1.1, k _ δ1 _ G1 H1 h1.2 E1 e1 (.str _)⟩
  · exact .inl ⟨_, r1.str_of, h1.1, k _ δ1 _ G1 H1 h1.2 E1 e1 (.str _)⟩
theorem de_fmt (h : DE X e te ue) : DE X (.FormattedValue e (-1) none pos) (tFmt te) (dFmt ue) := ⟨pe_fmt h.pe, re_fmt h.re⟩
theorem dj_nil : DJ X [] [] [] := .nil
theorem dj_cons (h : DE X e te ue) (r : DJ X rest ts us) : DJ X (e :: rest) (te :: ts) (ue :: us) := .cons h r
theorem de_joined (h : DJ X (v1 :: v2 :: rest) ts us) : DE X (.JoinedStr (v1 :: v2 :: rest) pos) (fun σ H Q => tJs ts Str.empty σ H fun out H1 => Q (.str out) H1) (dJoined us) :=
  ⟨pe_joined h.pj, fun c σ G H δ Q R E hh k => h.rj c σ G H δ Str.empty _ _ E hh fun out δ' G' H' a b e => k _ δ' _ G' H' a b e (.str _)⟩
end

/-! ### pop -/
def dPop (i : Nat) : DTE := fun δ R => match δ[i]? with
  | some (.own t ds) => (match ds.getLast? with
    | some d => R d (δ.set i (.own t ds.dropLast))
    | none => False)
  | _ => False
theorem RpAll.init {K : PySem.W.Frag} {G : Hp} : ∀ {vs : List V} {ds : List PyData}, RpAll K G vs ds → RpAll K G vs.dropLast ds.dropLast
  | _, _, .nil => .nil
  | _, _, .cons _ .nil => .nil
  | _, _, .cons r (.cons q t) => .cons r (RpAll.init (.cons q t))
theorem re_pop {K : PySem.W.Frag} {i : Nat} : RE K (tBM0 K "list" rPop (tVar i)) (dPop i) := by
  intro c σ G H δ Q R E h k
  unfold dPop at h
  cases hs : δ[i]? with
  | none =>
    rw [hs] at h
    exact False.elim h
  | some s =>
    rw [hs] at h
    cases s <;> first
      | exact False.elim h
      | skip
    rename_i t ds
    have h : (match ds.getLast? with
      | some d => R d (δ.set i (.own t ds.dropLast))
      | none => False) := h
    obtain ⟨p, xs, e, hg, hh, r, _⟩ := E.sl i _ hs
    cases q : ds.getLast? with
    | none =>
      rw [q] at h
      exact False.elim h
    | some d =>
      rw [q] at h
      have hd : ds[ds.length - 1]? = some d := by rw [← List.getLast?_eq_getElem?]; exact q
      obtain ⟨v, hv, rv⟩ := r.get hd
      refine ⟨.ref p, e, .inl ⟨rfl, _, .inl (.inl hh)⟩, p, xs, v, rfl, rfl, hh, by rw [r.len]; exact hv, ?_⟩
      exact k d _ v G _ h (E.poke hs e (RpAll.init r)) (Ex.refl _) rv
/-! ### xs[k] += text -/
def dAugI (i : Nat) (ui u : DTE) (f : PyData → PyData → (PyData → Prop) → Prop) : DTS := fun E δ => (slL δ[i]?).isSome = true ∧ ui δ fun di δ1 => match δ1[i]?, di with
  | some (.own _ ds), .int k => (match ixN ds.length k with
    | some j => (match ds[j]? with
      | some old => u δ1 fun d δ2 => f old d fun new => (match δ2[i]? with
        | some (.own t2 ds2) => (match ixN ds2.length k with
          | some j2 => E.nx (δ2.set i (.own t2 (ds2.set j2 new)))
          | none => False)
        | _ => False)
      | none => False)
    | none => False)
  | _, _ => False
/-- an operation in place, of data that are laid nowhere anew -/
def RIp (K : PySem.W.Frag) (r : TIp) (rd : R2D) : Prop := RO K r rd
theorem get_own {K : PySem.W.Frag} {G : Hp} {xs : List V} {ds : List PyData} (r : RpAll K G xs ds) {k : Int} {j : Nat} {d : PyData} (h : ixN ds.length k = some j) (hd : ds[j]? = some d) : ∃ v, atI xs k = some v ∧ Rp K G v d := by
  refine at_rp r ?_
  unfold atI
  rw [h]
  exact hd
theorem rs_augI {K : PySem.W.Frag} {i : Nat} {ti te : TE} {ui ue : DTE} {r : TIp} {rd : R2D} (hi : RE K ti ui) (ha : RE K te ue) (hr : RO K r rd) : RS K (tAugS (tVar i) ti te (rIxL K) r rSetL) (dAugI i ui ue rd) := by
  intro c σ G H δ D E EV h k
  obtain ⟨hsome, h⟩ := h
  obtain ⟨ds0, h0⟩ := Option.isSome_iff_exists.mp hsome
  obtain ⟨p, xs0, hv, _, _⟩ := slL_ok EV h0
  refine ⟨.ref p, hv, ?_⟩
  refine hi c σ G H δ _ _ EV h fun di δ1 y G1 H1 h1 E1 e1 r1 => ?_
  cases hs : δ1[i]? with
  | none =>
    rw [hs] at h1
    exact False.elim h1
  | some s =>
    rw [hs] at h1
    cases s <;> first
      | exact False.elim h1
      | skip
    rename_i tg ds
    cases di <;> first
      | exact False.elim h1
      | skip
    rename_i kk
    have h1 : (match ixN ds.length kk with
      | some j => (match ds[j]? with
        | some old => ue δ1 fun d δ2 => rd old d fun new => (match δ2[i]? with
          | some (.own t2 ds2) => (match ixN ds2.length kk with
            | some j2 => E.nx (δ2.set i (.own t2 (ds2.set j2 new)))
            | none => False)
          | _ => False)
        | none => False)
      | none => False) := h1
    obtain ⟨p', xs, e, hg, hh, rr, q⟩ := E1.sl i _ hs
    have e' := e
    rw [hv] at e'
    have ev := V.ref.inj (Option.some.inj (Option.some.inj e'))
    subst ev
    cases q1 : ixN ds.length kk with
    | none =>
      rw [q1] at h1
      exact h1.elim
    | some j =>
      rw [q1] at h1
      have h1 : (match ds[j]? with
        | some old => ue δ1 fun d δ2 => rd old d fun new => (match δ2[i]? with
          | some (.own t2 ds2) => (match ixN ds2.length kk with
            | some j2 => E.nx (δ2.set i (.own t2 (ds2.set j2 new)))
            | none => False)
          | _ => False)
        | none => False) := h1
      cases q2 : ds[j]? with
      | none =>
        rw [q2] at h1
        exact h1.elim
      | some old =>
        rw [q2] at h1
        obtain ⟨v, av, rv⟩ := get_own rr q1 q2
        refine ⟨p, xs, kk, v, rfl, r1.int_of, .inl (.inl hh), av, ?_⟩
        refine ha c σ G1 H1 δ1 _ _ E1 h1 fun d δ2 z G2 H2 h2 E2 e2 r2 => ?_
        refine hr G2 H2 v z old d _ _ E2.ex (rv.up e2) r2 h2 fun new w G3 H3 h3 A r3 => ?_
        have E3 := E2.al A
        cases hs2 : δ2[i]? with
        | none =>
          rw [hs2] at h3
          exact False.elim h3
        | some s2 =>
          rw [hs2] at h3
          cases s2 <;> first
            | exact False.elim h3
            | skip
          rename_i t2 ds2
          have h3 : (match ixN ds2.length kk with
            | some j2 => E.nx (δ2.set i (.own t2 (ds2.set j2 new)))
            | none => False) := h3
          obtain ⟨p2, ys, e3, hg3, hh3, rr3, _⟩ := E3.sl i _ hs2
          have e3' := e3
          rw [hv] at e3'
          have ev3 := V.ref.inj (Option.some.inj (Option.some.inj e3'))
          subst ev3
          cases q3 : ixN ds2.length kk with
          | none =>
            rw [q3] at h3
            exact h3.elim
          | some j2 =>
            rw [q3] at h3
            refine ⟨p, ys, kk, j2, rfl, r1.int_of, hh3, by rw [rr3.len]; exact q3, ?_⟩
            exact k.nx σ G3 _ _ h3 (E3.poke hs2 hv (RpAll.set r3 j2 rr3)) ((e1.trans e2).trans A.g)
theorem pget_list {X : Cx} : PGet X (rIxL X.K) := by
  intro pins s σ H x y v u Q I rx ry h
  obtain ⟨p, xs, i, z, rfl, rfl, hq, he, q⟩ := h
  cases rx
  obtain ⟨t, rfl⟩ := ry
  obtain ⟨its, r, pl, hz⟩ := I.list hq
  obtain ⟨j, h1, h2, h3, h4, h5⟩ := atI_get he
  obtain ⟨w, ew, rw'⟩ := r.get h2
  have hl := r.length
  have hn := line63
  have fin : EP X pins σ Q w s := ⟨z, H, I, rw', q⟩
  have sz : its.toArray.size = its.length := List.size_toArray
  by_cases h0 : 0 ≤ i
  · have hj : i.toNat = j := by
      rw [seqIndex_of h0 h5] at h1
      exact Option.some.inj h1
    exact wpAny_getItem_list pl.isList h0 (by omega) (by rw [hj]; simpa using ew) fin
  · have hj : (i + (its.toArray.size : Int)).toNat = j := by
      rw [seqIndex_neg (by omega) h4] at h1
      rw [sz, ← hl]
      exact Option.some.inj h1
    exact wpAny_getItem_list_neg pl.isList (by omega) (by omega) (by omega) (by rw [hj]; simpa using ew) fin
/-- name += text -/
def dAugT (i : Nat) (u : DTE) : DTS := fun E δ => match δ[i]? with
  | some (.dat (.str a)) => u δ fun d δ1 => (match d with
    | .str b => a.length + b.length ≤ sizeLine ∧ E.nx (δ1.set i (.dat (.str (a ++ b))))
    | _ => False)
  | _ => False
def rAddT : TIp := fun x y H Q => ∃ i j, x = .str i ∧ y = .str j ∧ i.length + j.length ≤ sizeLine ∧ Q (.str (i ++ j)) H
theorem rs_augT {K : PySem.W.Frag} {i : Nat} {te : TE} {ue : DTE} (ha : RE K te ue) : RS K (tAug i te rAddT) (dAugT i ue) := by
  intro c σ G H δ D E EV h k
  unfold dAugT at h
  cases hs : δ[i]? with
  | none =>
    rw [hs] at h
    exact False.elim h
  | some s =>
    rw [hs] at h
    have z := EV.sl i s hs
    cases s <;> first
      | exact False.elim h
      | skip
    rename_i d0
    cases d0 <;> first
      | exact False.elim h
      | skip
    rename_i a
    obtain ⟨x, e, rx⟩ := z
    have ex := rx.str_of
    subst ex
    refine ⟨_, e, ?_⟩
    refine ha c σ G H δ _ _ EV h fun d δ1 v G1 H1 h1 E1 e1 r => ?_
    cases d <;> first
      | exact False.elim h1
      | skip
    rename_i b
    exact ⟨a, b, rfl, r.str_of, h1.1, k.nx _ G1 H1 _ h1.2 (E1.put (.str _)) e1⟩
/-! ### a sign in a text; truth -/
def dInT (neg : Bool) : R2D := fun a b R => match a, b with
  | .str x, .str z => (match x.cps.toList with
    | [c] => R (.bool (if neg = true then !decide (c ∈ z.cps.toList) else decide (c ∈ z.cps.toList)))
    | _ => False)
  | _, _ => False
theorem one_of {x : Str} {c : Nat} (h : x.cps.toList = [c]) : x = ⟨#[c]⟩ := by
  cases x
  rename_i a
  have : a = #[c] := by
    apply Array.toList_inj.mp
    exact h
  rw [this]
theorem ro_inT (neg : Bool) {K : PySem.W.Frag} {r : R2} (hr : ∀ (c : Nat) (z : Str) (H : Hp) (Q : VK), Q (.bl (if neg = true then !decide (c ∈ z.cps.toList) else decide (c ∈ z.cps.toList))) H → r (.str ⟨#[c]⟩) (.str z) H Q) : RO K r (dInT neg) := by
  intro G H x y d1 d2 Q R e r1 r2 h k
  cases d1 <;> cases d2 <;> first
    | exact False.elim h
    | skip
  rename_i x z
  have e1 := r1.str_of
  have e2 := r2.str_of
  subst e1 e2
  have h : (match x.cps.toList with
    | [c] => R (.bool (if neg = true then !decide (c ∈ z.cps.toList) else decide (c ∈ z.cps.toList)))
    | _ => False) := h
  match q : x.cps.toList, h with
  | [c], h =>
    rw [one_of q]
    exact hr c z H Q (k _ _ G H h (Al.refl e) (.bl _))
theorem ro_inS {K : PySem.W.Frag} : RO K rInS (dInT false) := ro_inT false fun c z H Q q => ⟨c, z, rfl, rfl, q⟩
theorem ro_notInS {K : PySem.W.Frag} : RO K rNotInS (dInT true) := ro_inT true fun c z H Q q => ⟨c, z, rfl, rfl, q⟩
/-- the truth of a text, a list, a tuple, a truth -/
def dTru (u : DTE) : DTT := fun δ R => u δ fun d δ1 => match d with
  | .bool b => R b δ1
  | .str x => x.length ≤ sizeLine ∧ R ((x.length : Int) != 0) δ1
  | .int i => R (i != 0) δ1
  | .list ds => R (!ds.isEmpty) δ1
  | .tuple ds => R (!ds.isEmpty) δ1
  | .none => R false δ1
  | _ => False
theorem empty_rp {K : PySem.W.Frag} {G : Hp} {xs : List V} {ds : List PyData} (r : RpAll K G xs ds) : xs.isEmpty = ds.isEmpty := by
  cases r <;> rfl
theorem rt_tru {K : PySem.W.Frag} {te : TE} {ue : DTE} (ha : RE K te ue) : RT K (fun σ H Q => te σ H fun x H' => ∃ k, TruV K x H' k ∧ Q k H') (dTru ue) := by
  intro c σ G H δ Q R E h k
  refine ha c σ G H δ _ _ E h fun d δ1 v G1 H1 h1 E1 e1 r1 => ?_
  cases d <;> first
    | exact False.elim h1
    | skip
  · rw [r1.non_of]
    exact ⟨false, rfl, k _ δ1 G1 H1 h1 E1 e1⟩
  · rw [r1.bl_of]
    exact ⟨_, rfl, k _ δ1 G1 H1 h1 E1 e1⟩
  · rw [r1.int_of]
    exact ⟨_, rfl, k _ δ1 G1 H1 h1 E1 e1⟩
  · rw [r1.str_of]
    exact ⟨_, ⟨h1.1, rfl⟩, k _ δ1 G1 H1 h1.2 E1 e1⟩
  · obtain ⟨a, xs, rfl, q1, q2⟩ := r1.lst_of
    exact ⟨_, .inl ⟨xs, .inl (.inl (E1.ex _ _ q1)), rfl⟩, by rw [empty_rp q2]; exact k _ δ1 G1 H1 h1 E1 e1⟩
  · obtain ⟨a, xs, rfl, q1, q2⟩ := r1.tup_of
    exact ⟨_, .inr (.inl ⟨xs, .inl (.inl (E1.ex _ _ q1)), rfl⟩), by rw [empty_rp q2]; exact k _ δ1 G1 H1 h1 E1 e1⟩
/-! ### repr of data -/
def rRepr (K : PySem.W.Frag) : List V → Hp → VK → Prop := fun xs H Q => ∃ x d, xs = [x] ∧ Dp K H x d ∧ SeqAt.shaped d = true ∧ d.showable = true ∧ d.shown.length ≤ sizeLine ∧ Q (.str d.shown) H
theorem call_reprD {X : Cx} (hg : X.A.guards = some []) (hu : X.A.units + 65 < cLine) : CallR X (.builtin "repr") (rRepr X.K) := by
  intro pins s σ H xs us Q I r h
  obtain ⟨x, d, rfl, hd, sh, hs, hz, q⟩ := h
  obtain ⟨u, rfl, ru⟩ := L2.vals1 r
  have lay := SeqAt.canLay_of_shaped sh
  have dep : d.depth ≤ 64 := by
    have z : (d.canLay0 && decide (d.depth ≤ 64)) = true := sh
    rw [Bool.and_eq_true] at z
    exact of_decide_eq_true z.2
  obtain ⟨as, rd⟩ := Dp.reads I d x u hd ru
  have nod := PyData.noDict_hsm (as := as) (PyData.hasDict_of_canLay d lay)
  have big : ∀ (a : Addr), u = .ref a → wpAny (model X.prog X.w) X.A (call (.builtin "repr") [u]) (EP X pins σ Q) X.xe s := fun a e => by
    subst e
    exact repr_of_reads' rd hs nod hg (by omega) (fun _ _ e => e) (fun h' u tk hk => ⟨.str d.shown, H, I.kept hk, ⟨_, rfl⟩, q⟩) hz
  cases hd with
  | non =>
    obtain rfl : u = Value.none := ru
    exact PySem.P.repr_of_none ⟨.str (PyData.shown .none), H, I.tok _, ⟨_, rfl⟩, q⟩
  | bl b =>
    obtain rfl : u = Value.bool b := ru
    exact PySem.P.repr_of_bool ⟨.str (PyData.shown (.bool b)), H, I.tok _, ⟨_, rfl⟩, q⟩
  | int i =>
    obtain ⟨t, rfl⟩ := ru
    exact PySem.P.repr_of_int (of_decide_eq_true hs) ⟨.str (PyData.shown (.int i)), H, I.tok _, ⟨_, rfl⟩, q⟩
  | str y =>
    obtain ⟨t, rfl⟩ := ru
    exact PySem.P.repr_of_str ⟨.str (PyData.shown (.str y)), H, I.tok _, ⟨_, rfl⟩, q⟩ hz
  | lst _ _ => exact big _ ru
  | tup _ _ => exact big _ ru
def dRepr (u : DTE) : DTE := fun δ R => u δ fun d δ1 => SeqAt.shaped d = true ∧ d.showable = true ∧ d.shown.length ≤ sizeLine ∧ R (.str d.shown) δ1
theorem re_repr {K : PySem.W.Frag} {te : TE} {ue : DTE} (ha : RE K te ue) : RE K (tCB (rRepr K) (tCons te tNil)) (dRepr ue) := by
  intro c σ G H δ Q R E h k
  refine ha c σ G H δ _ _ E h fun d δ1 v G1 H1 h1 E1 e1 r1 => ?_
  exact ⟨v, d, rfl, (r1.up E1.ex).dp _ _ (SeqAt.canLay_of_shaped h1.1), h1.1, h1.2.1, h1.2.2.1, k _ δ1 _ G1 H1 h1.2.2.2 E1 e1 (.str _)⟩
/-! ### a written dict of the module -/
def rGetK (K : PySem.W.Frag) (d : Addr) : R2 := fun x y H Q => ∃ (z : Str) (u0 : Value) (v0 : V), x = .ref d ∧ y = .str z ∧ PySem.W.nsIn K d z = some (some u0) ∧ RelV v0 u0 ∧ Q v0 H
/-- D[text]: m tells the datum at a text -/
def dGetK (m : Str → Option PyData) (u : DTE) : DTE := fun δ R => u δ fun d δ1 => match d with
  | .str z => (match m z with
    | some x => R x δ1
    | none => False)
  | _ => False
/-- the dict at d tells what m tells, of texts alone -/
def KMap (K : PySem.W.Frag) (d : Addr) (m : Str → Option PyData) : Prop := ∀ z x, m z = some x → ∃ u0 v0, PySem.W.nsIn K d z = some (some u0) ∧ RelV v0 u0 ∧ ∀ G, Rp K G v0 x
theorem re_getK {K : PySem.W.Frag} {d : Addr} {m : Str → Option PyData} {te : TE} {ue : DTE} (hm : KMap K d m) (ha : RE K te ue) : RE K (tOp (rGetK K d) (tC (.ref d)) te) (dGetK m ue) := by
  intro c σ G H δ Q R E h k
  refine ha c σ G H δ _ _ E h fun y δ1 v G1 H1 h1 E1 e1 r1 => ?_
  cases y <;> first
    | exact False.elim h1
    | skip
  rename_i z
  have h1 : (match m z with
    | some x => R x δ1
    | none => False) := h1
  cases q : m z with
  | none =>
    rw [q] at h1
    exact h1.elim
  | some x =>
    rw [q] at h1
    obtain ⟨u0, v0, a1, a2, a3⟩ := hm z x q
    exact ⟨z, u0, v0, rfl, r1.str_of, a1, a2, k _ δ1 _ G1 H1 h1 E1 e1 (a3 G1)⟩
section
variable {X : Cx} {a b e : Expr} {ta tb te : TE} {ua ub ue : DTE} {pos p p2 : Pos}
theorem ix_getK {d : Addr} {es : Array DictEntry} {n : Nat} (D : KDict X.K X.w d es n) : IxR X (rGetK X.K d) := by
  intro value slice pins s σ H x y v u Q I rx ry h hs
  have h' := h
  obtain ⟨z, u0, v0, rfl, rfl, _⟩ := h'
  have rx' : v = .ref d := rx
  subst rx'
  exact PyProof.Rows.tail_any (kd_type D I) F.slot_dict_getitem.lookup (op_item_kd D pins s σ H _ _ _ _ Q I rx ry h) hs
theorem de_getK {x : Str} {d : Addr} {es : Array DictEntry} {n : Nat} {m : Str → Option PyData} (D : KDict X.K X.w d es n) (hm : KMap X.K d m) (hx : X.mg x = some (.ref d)) (hb : DE X b tb ub) (hg : Gl X x := by rfl) (hd : (x == ("__debug__" : Str)) = false := by decide)
    (hs : PlainIx b := by exact fun _ _ => rfl) : DE X (.Subscript (.Name x p) b pos) (tOp (rGetK X.K d) (tC (.ref d)) tb) (dGetK m ub) := ⟨pe_ix (ix_getK D) (pe_glob hg hx rfl hd) hb.pe hs, re_getK hm hb.re⟩
theorem de_repr1 (hm : X.mg "repr" = none) (hgd : X.A.guards = some []) (hu : X.A.units + 65 < cLine) (ha : DE X a ta ua) (hg : Gl X "repr" := by rfl) (hv : bootBuiltins "repr" = some (.builtin "repr") := by decide +kernel) (hs : starEach [a] X.env = (false, eval a X.env) :: starEach [] X.env := by rfl) (hpl : (backTo pos (starEach [] X.env)).any (·.1) = false := by rfl) :
    DE X (.Call (.Name "repr" p) [a] [] pos) (tCB (rRepr X.K) (tCons ta tNil)) (dRepr ua) := ⟨pe_callB (call_reprD hgd hu) hg hm hv (pa_cons ha.pe pa_nil hs) (by decide) (by decide) hs hpl, re_repr ha.re⟩
theorem dt_tru (h : DE X e te ue) (he : ∀ whole, isTrue e X.env whole = (do let v ← whole; standAt e.pos; holding [v] (truthy v)) := by intro _; rfl) : DT X e (fun σ H Q => te σ H fun x H' => ∃ k, TruV X.K x H' k ∧ Q k H') (dTru ue) := ⟨pt_truth h.pe he, rt_tru h.re⟩
theorem ds_augT (i : Nat) {x : Str} (hN : X.N.Nodup) (he : DE X e te ue) (hi : X.N[i]? = some x := by rfl) (hx : Loc X.env.scope x := by first | exact Or.inl rfl | exact Or.inr rfl)
    (hf : X.fn x = true ∨ X.env.scope.names.lookup x = some .local := by first | exact .inl rfl | exact .inr rfl | assumption) : DS X (.AugAssign (.Name x p) .Add e pos) (tAug i te rAddT) (dAugT i ue) := ⟨ps_aug hN hi hx he.pe iop_add_str hf, rs_augT he.re⟩
theorem ds_augI (i : Nat) {x : Str} (hb : DE X b tb ub) (he : DE X e te ue) (hN : X.N[i]? = some x := by rfl) (hv : Vis X.env.scope x := by first | exact Or.inl rfl | exact Or.inr (Or.inl rfl) | exact Or.inr (Or.inr rfl)) (hd : (x == ("__debug__" : Str)) = false := by decide)
    (hcd : (x == ("__classdict__" : Str)) = false := by decide) (ha : ∀ ov iv new, augStore b ov iv new = (do holding [new, ov, iv] (setItem ov iv new); release [new, ov, iv] []; pure .next) := by intros; rfl) :
    DS X (.AugAssign (.Subscript (.Name x p) b p2) .Add e pos) (tAugS (tVar i) tb te (rIxL X.K) rAddT rSetL) (dAugI i ub ue dAddS) := ⟨ps_augS (pe_var hN hv hd hcd) hb.pe pget_list he.pe iop_add_str set_list ha, rs_augI hb.re he.re ro_addS⟩
theorem de_pop (i : Nat) {x : Str} {apos : Pos} (pb : PE X (.Call (.Attribute (.Name x p) "pop" apos) [] [] pos) (tBM0 X.K "list" rPop (tVar i))) : DE X (.Call (.Attribute (.Name x p) "pop" apos) [] [] pos) (tBM0 X.K "list" rPop (tVar i)) (dPop i) := ⟨pb, re_pop⟩
end
end TL

set_option Elab.async false
set_option linter.all false
set_option maxRecDepth 100000
set_option maxHeartbeats 4000000
/-! TLv: calls that may change two lists. -/
namespace TL
open PySem PySem.Spec L2
variable [XW]
theorem asOf_app (δ : List Sl) : ∀ (ds : List PyData) (cs : List CA) (j : Nat), asOf δ (ds.map CA.d ++ cs) j = ds.map Sl.dat ++ asOf δ cs j
  | [], _, _ => rfl
  | d :: r, cs, j => by
    show Sl.dat d :: asOf δ (r.map CA.d ++ cs) j = _
    rw [asOf_app δ r cs j]
    rfl
theorem muts_app (δ : List Sl) : ∀ (ds : List PyData) (cs : List CA), muts δ (ds.map CA.d ++ cs) = muts δ cs
  | [], _ => rfl
  | d :: r, cs => muts_app δ r cs
theorem call_own2 {S : DSp} {ua : DCA} {δ δ' : List Sl} {R : DQ} {i j : Nat} {t1 t2 : Option Nat} {c1 c2 : List PyData} (ds : List PyData) (hu : ∀ Q : List CA → List Sl → Prop, Q (ds.map CA.d ++ [.s i, .s j]) δ' → ua δ Q) (hij : i ≠ j) (hi : δ'[i]? = some (.own t1 c1)) (hj : δ'[j]? = some (.own t2 c2)) (mono : MonoS S)
    (k : S (ds.map Sl.dat ++ [.own (some 0) c1, .own (some 1) c2]) fun d outs => ∃ o1 o2, outs = [o1, o2] ∧ R d ((δ'.set i (.own t1 o1)).set j (.own t2 o2))) : dCall S ua δ R := by
  have m1 : muts δ' [.s i, .s j] = [i, j] := by
    show (match δ'[i]? with
      | some (.own _ _) => i :: muts δ' [.s j]
      | _ => muts δ' [.s j]) = _
    rw [hi]
    show i :: (match δ'[j]? with
      | some (.own _ _) => j :: muts δ' []
      | _ => muts δ' []) = _
    rw [hj]
    rfl
  have a1 : asOf δ' [.s i, .s j] 0 = [.own (some 0) c1, .own (some 1) c2] := by
    show (match δ'[i]? with
      | some (.own _ ds) => Sl.own (some 0) ds :: asOf δ' [.s j] 1
      | some (.scr ds) => .scr ds :: asOf δ' [.s j] 0
      | _ => .no :: asOf δ' [.s j] 0) = _
    rw [hi]
    show Sl.own (some 0) c1 :: (match δ'[j]? with
      | some (.own _ ds) => Sl.own (some 1) ds :: asOf δ' [] 2
      | some (.scr ds) => .scr ds :: asOf δ' [] 1
      | _ => .no :: asOf δ' [] 1) = _
    rw [hj]
    rfl
  refine hu _ ?_
  rw [muts_app, asOf_app, m1, a1]
  refine ⟨by simp [hij], mono _ _ _ (fun d o h => ?_) k⟩
  obtain ⟨o1, o2, rfl, h⟩ := h
  refine ⟨rfl, ?_⟩
  have e : setOuts δ' [i, j] [o1, o2] = (δ'.set i (.own t1 o1)).set j (.own t2 o2) := by
    show setOut (setOut δ' i o1) j o2 = _
    have e1 : setOut δ' i o1 = δ'.set i (.own t1 o1) := by
      unfold setOut
      rw [hi]
    have e2 : (δ'.set i (.own t1 o1))[j]? = some (.own t2 c2) := by rw [List.getElem?_set_ne hij, hj]
    rw [e1]
    unfold setOut
    rw [e2]
  rw [e]
  exact h
/-- a call by data alone, whose arguments change lists -/
theorem call_pure2 {S : DSp} {ua : DCA} {δ δ' : List Sl} {R : DQ} (ds : List PyData) (hu : ∀ Q : List CA → List Sl → Prop, Q (ds.map CA.d) δ' → ua δ Q) (mono : MonoS S) (k : S (ds.map Sl.dat) fun d outs => outs = [] ∧ R d δ') : dCall S ua δ R := by
  refine hu _ ?_
  rw [muts_d, asOf_d]
  refine ⟨List.nodup_nil, mono _ _ _ (fun d o h => ?_) k⟩
  obtain ⟨rfl, h⟩ := h
  exact ⟨rfl, h⟩
theorem pop_at {δ : List Sl} {i : Nat} {t : Option Nat} {l : List PyData} {x : PyData} {R : DQ} (h : δ[i]? = some (.own t (l ++ [x]))) (k : R x (δ.set i (.own t l))) : dPop i δ R := by
  unfold dPop
  rw [h]
  show (match (l ++ [x]).getLast? with
    | some d => R d (δ.set i (.own t (l ++ [x]).dropLast))
    | none => False)
  rw [List.getLast?_append, List.dropLast_append_of_ne_nil (by simp)]
  simpa using k
/-- two texts -/
def dEqT : R2D := fun a b R => match a, b with
  | .str x, .str y => R (.bool (x == y))
  | _, _ => False
theorem ro_eqT {K : PySem.W.Frag} : RO K rEq dEqT := by
  intro G H x y d1 d2 Q R e r1 r2 h k
  cases d1 <;> cases d2 <;> first
    | exact False.elim h
    | skip
  have e1 := r1.str_of
  have e2 := r2.str_of
  subst e1 e2
  refine ⟨rfl, ?_⟩
  rw [dec_str]
  exact k _ _ G H h (Al.refl e) (.bl _)
/-- outs of two lists that were handed on -/
theorem outs2 {δ : List Sl} {a b : List PyData} (i j : Nat) (h0 : δ[i]? = some (.own (some 0) a)) (h1 : δ[j]? = some (.own (some 1) b)) : OutsIn δ [a, b] := by
  intro q cs hq
  rcases q with _ | _ | q
  · exact ⟨i, by rw [show cs = a by simpa using hq.symm]; exact h0⟩
  · exact ⟨j, by rw [show cs = b by simpa using hq.symm]; exact h1⟩
  · simp at hq
end TL

set_option Elab.async false
set_option linter.all false
set_option maxRecDepth 100000
set_option maxHeartbeats 2000000
/-! TLw: zip of two texts; repr of data with empty dicts in it; a tuple held against the empty one; get of a written dict; a list told again and again; tuple of a list; all of truths. -/
namespace TL
open PySem PySem.Spec L2
variable [XW]

/-! ### zip of two texts -/
def ItzS (x y : Str) : It :=
  ⟨fun i _ => i < x.cps.size ∧ i < y.cps.size,
    fun i H v H' => ∃ T c d, v = .ref T ∧ H T = none ∧ H' = upd H T (.tup [.str ⟨#[c]⟩, .str ⟨#[d]⟩]) ∧ x.cps[i]? = some c ∧ y.cps[i]? = some d,
    fun i _ => i = min x.cps.size y.cps.size⟩
theorem turn_zipS {P : Program} {w : World} {K : PySem.W.Frag} {elts : List Expr} {kk : Nat} {tpos : Pos} {z zi zo i1 i2 : Addr} {x y : Str} {t u : Tok} (D : ZipSep2 z zi zo i1 i2 [i1] [i2]) :
    Turn P w K (.Tuple elts kk tpos) (ItzS x y) [z, zi, zo, i1, i2] z (fun i h => IsZip h z zi zo .none ∧ IsTupOf2 h zi (.ref i1) (.ref i2) ∧ (∃ a b, IsTupOf2 h zo a b) ∧ h.IsStrIter i1 (strIterType x) x t i ∧ h.IsStrIter i2 (strIterType y) y u i) where
  mem := by simp
  obj := fun i h st c hc => by
    obtain ⟨hz, hTI, ⟨x0, y0, hTO⟩, ⟨o1, e1, c1, d1⟩, ⟨o2, e2, c2, d2⟩⟩ := st
    have e' : c = z ∨ c = zi ∨ c = zo ∨ c = i1 ∨ c = i2 := by simpa using hc
    rcases e' with q | q | q | q | q
    · rw [q]; exact ⟨_, hz, fun v q => nomatch q⟩
    · rw [q]; exact ⟨_, hTI, fun v q => nomatch q⟩
    · rw [q]; exact ⟨_, hTO, fun v q => nomatch q⟩
    · rw [q]; exact ⟨o1, e1, fun v q => by rw [d1] at q; cases q⟩
    · rw [q]; exact ⟨o2, e2, fun v q => by rw [d2] at q; cases q⟩
  keep := fun i h h' st k => by
    obtain ⟨hz, hTI, ⟨x0, y0, hTO⟩, ⟨o1, e1, r1⟩, ⟨o2, e2, r2⟩⟩ := st
    exact ⟨k z (by simp) _ hz, k zi (by simp) _ hTI, ⟨x0, y0, k zo (by simp) _ hTO⟩, ⟨o1, k i1 (by simp) o1 e1, r1⟩, ⟨o2, k i2 (by simp) o2 e2, r2⟩⟩
  item := by
    intro X hP hw hK hc i pins s σ H E I hf st hg
    subst hP hw hK
    obtain ⟨hz, hTI, ⟨x0, y0, hTO⟩, h1, h2⟩ := st
    have hd : X.A.in1.handled = none := I.ok.hd hc
    have D1 := Draws.text (prog := X.prog) (w := X.w) hd i1 x t
    have D2 := Draws.text (prog := X.prog) (w := X.w) hd i2 y u
    have hzl : z < s.heap.objs.size := Heap.lt_size hz
    refine wpAny_pyNext_zipD2_item D D1 D2 hz hTI hTO h1 h2 hg.1 hg.2 fun v1 v2 h' tk y1 y2 z' TO' h1' h2' hT hsz hk => ?_
    obtain ⟨c, u1, hc1, rfl⟩ := y1
    obtain ⟨d, u2, hd1, rfl⟩ := y2
    refine ⟨_, rfl, wpAny_letOwnedTupleGo_zip (s := { s with heap := h', toks := tk }) z' fun h'' z'' sb => ?_⟩
    have hT2 : h''.get? s.heap.objs.size = some { cls := .type "tuple", data := .seq #[.str ⟨#[c]⟩ u1, .str ⟨#[d]⟩ u2] } := (sb.2 _ (Nat.ne_of_gt hzl)).trans hT
    have new : ObjOk X.prog X.w (upd H s.heap.objs.size (.tup [.str ⟨#[c]⟩, .str ⟨#[d]⟩])) h'' s.heap.objs.size (.tup [.str ⟨#[c]⟩, .str ⟨#[d]⟩]) :=
      ⟨by show 2 ≤ sizeLine; decide, [.str ⟨#[c]⟩ u1, .str ⟨#[d]⟩ u2], .cons ⟨u1, rfl⟩ (.cons ⟨u2, rfl⟩ .nil), ⟨_, hT2, rfl, _, rfl⟩⟩
    have I1 : Inv X pins σ (upd H s.heap.objs.size (.tup [.str ⟨#[c]⟩, .str ⟨#[d]⟩])) { s with heap := h'', toks := tk } :=
      I.turnedNew (t' := tk) (ch := [z, zi, zo, i1, i2]) (fun c o hb q => (sb.2 c (fun q' => hb (by simp [q']))).trans (hk c o (fun q' => hb (by simp [q'])) (fun q' => hb (by simp [q'])) (fun q' => hb (by simp [q'])) (fun q' => hb (by simp [q'])) q)) hf (Nat.le_refl _) new
    have i1z : i1 ≠ z := D.zi1.symm
    have i2z : i2 ≠ z := D.zi2.symm
    refine ⟨.ref s.heap.objs.size, _, I1, rfl, ⟨_, c, d, rfl, I.hok.fresh (Nat.le_refl _), rfl, hc1, hd1⟩, ⟨z'', ?_, ⟨.str ⟨#[c]⟩ u1, .str ⟨#[d]⟩ u2, ?_⟩, ?_, ?_⟩, fun c hcm => ?_⟩
    · exact (sb.2 _ D.TIz).trans (hk _ _ D.TIz D.TITO D.TIi1 D.TIi2 hTI)
    · exact (sb.2 _ D.TOz).trans TO'
    · obtain ⟨o, e, r⟩ := h1'; exact ⟨o, (sb.2 _ i1z).trans e, r⟩
    · obtain ⟨o, e, r⟩ := h2'; exact ⟨o, (sb.2 _ i2z).trans e, r⟩
    · have hlt : c < s.heap.objs.size := by
        have e' : c = z ∨ c = zi ∨ c = zo ∨ c = i1 ∨ c = i2 := by simpa using hcm
        rcases e' with q | q | q | q | q
        · rw [q]; exact hzl
        · rw [q]; exact Heap.lt_size hTI
        · rw [q]; exact Heap.lt_size hTO
        · rw [q]; obtain ⟨_, e1, _⟩ := h1; exact Heap.lt_size e1
        · rw [q]; obtain ⟨_, e2, _⟩ := h2; exact Heap.lt_size e2
      rw [upd_ne (Nat.ne_of_lt hlt)]
      exact (hf c hcm).1
  done := by
    intro X hP hw hK hc i pins s σ H E I hf st hg
    subst hP hw hK
    obtain ⟨hz, hTI, ⟨x0, y0, hTO⟩, h1, h2⟩ := st
    have hd : X.A.in1.handled = none := I.ok.hd hc
    have D1 := Draws.text (prog := X.prog) (w := X.w) hd i1 x t
    have D2 := Draws.text (prog := X.prog) (w := X.w) hd i2 y u
    have hg' : i = min x.cps.size y.cps.size := hg
    exact wpAny_pyNext_zipD2_end D D1 D2 hz hTI hTO h1 h2 (by omega) (by omega) (by omega) fun h' tk hk => ⟨rfl, I.turnedL (t' := tk) (ch := [z, zi, zo, i1, i2]) (fun c o hb q =>
      hk c o (fun q' => hb (by simp [q'])) (fun q' => hb (by simp [q'])) (fun q' => hb (by simp [q'])) (fun q' => hb (by simp [q'])) q) hf⟩
  self := fun A i s Q E st h => wpAny_pyIter_zip st.1 h
def iZipS (ta : TA) : L2.TI := fun σ H R => ta σ H fun vs H1 => ∃ x y, vs = [.str x, .str y] ∧ R (ItzS x y) H1
theorem pi_zipS {X : Cx} {e e2 : Expr} {ta : TA} {p pos tpos : Pos} {elts : List Expr} {kk : Nat} (hg : Gl X "zip") (hm : X.mg "zip" = none) (ha : PA X [e, e2] ta)
    (hs : starEach [e, e2] X.env = (false, eval e X.env) :: starEach [e2] X.env := by rfl) (hpl : (backTo pos (starEach [e2] X.env)).any (·.1) = false := by rfl) :
    PI X (.Tuple elts kk tpos) (.Call (.Name "zip" p) [e, e2] [] pos) (iZipS ta) := by
  refine ⟨fun pins s σ H R I h => ?_⟩
  refine PyProof.Rows.Call_ (ld_blt I hg hm PyProof.Rows.boot_zip (PyProof.Rows.callWith_type1 (thn (ha.run pos pins s σ H _ I h) fun us s1 ⟨vs, H1, I1, r1, q1⟩ => ?_) hs hpl))
  obtain ⟨x, y, ex, q1⟩ := q1
  subst ex
  cases r1 with
  | cons r rr =>
    cases rr with
    | cons r' rr =>
      cases rr
      obtain ⟨t, rfl⟩ := r
      obtain ⟨u, rfl⟩ := r'
      have fresh5 : ∀ c, c ∈ [s1.heap.objs.size + 4, s1.heap.objs.size + 2, s1.heap.objs.size + 3, s1.heap.objs.size, s1.heap.objs.size + 1] → FpOk X pins H1 c := fun c hcm => by
        have e' : c = s1.heap.objs.size + 4 ∨ c = s1.heap.objs.size + 2 ∨ c = s1.heap.objs.size + 3 ∨ c = s1.heap.objs.size ∨ c = s1.heap.objs.size + 1 := by simpa using hcm
        have hle : s1.heap.objs.size ≤ c := by
          rcases e' with z | z | z | z | z
          · rw [z]; exact Nat.le_add_right _ _
          · rw [z]; exact Nat.le_add_right _ _
          · rw [z]; exact Nat.le_add_right _ _
          · rw [z]; exact Nat.le_refl _
          · rw [z]; exact Nat.le_add_right _ _
        exact I1.fpOk hle (I1.hok.fresh hle)
      refine zip_begins2 (begins_text x t) (begins_text y u) trivial trivial fun h' hz hTI hTO h1 h2 hsz hk => wpAny_pyIter_zip hz ?_
      have I2 : Inv X pins σ H1 { s1 with heap := h' } := I1.kept (t' := s1.toks) hk
      have sep : ZipSep2 (s1.heap.objs.size + 4) (s1.heap.objs.size + 2) (s1.heap.objs.size + 3) s1.heap.objs.size (s1.heap.objs.size + 1) [s1.heap.objs.size] [s1.heap.objs.size + 1] := by
        constructor <;> simp
      exact ⟨s1.heap.objs.size + 4, [s1.heap.objs.size + 4, s1.heap.objs.size + 2, s1.heap.objs.size + 3, s1.heap.objs.size, s1.heap.objs.size + 1], _, _, H1, rfl, I2, turn_zipS (x := x) (y := y) (t := t) (u := u) sep, ⟨hz, hTI, ⟨_, _, hTO⟩, ⟨_, h1, rfl, rfl⟩, ⟨_, h2, rfl, rfl⟩⟩, fresh5, q1⟩
/-- the pairs of two texts -/
def zipS (x y : Str) : List PyData := (x.cps.toList.zip y.cps.toList).map fun p => .tuple [.str ⟨#[p.1]⟩, .str ⟨#[p.2]⟩]
def diZS (ua ub : DTE) : DTI := fun δ R => ua δ fun d1 δ1 => ub δ1 fun d2 δ2 => match d1, d2 with
  | .str x, .str y => R (zipS x y) δ2
  | _, _ => False
theorem ri_zipS {K : PySem.W.Frag} {ta tb : TE} {ua ub : DTE} (ha : RE K ta ua) (hb : RE K tb ub) : RI K (iZipS (tCons ta (tCons tb tNil))) (diZS ua ub) := by
  intro c σ G H δ Q R E h k
  refine ha c σ G H δ _ _ E h fun d1 δ1 v1 G1 H1 h1 E1 e1 r1 => ?_
  refine hb c σ G1 H1 δ1 _ _ E1 h1 fun d2 δ2 v2 G2 H2 h2 E2 e2 r2 => ?_
  cases d1 <;> cases d2 <;> first
    | exact False.elim h2
    | skip
  rename_i x y
  refine ⟨x, y, by rw [r1.str_of, r2.str_of], k _ δ2 _ G2 H2 h2 E2 (e1.trans e2) ⟨fun G3 H3 a1 a2 => ?_, fun G3 H3 i d a1 a2 hd => ?_⟩⟩
  · show (zipS x y).length = min x.cps.size y.cps.size
    unfold zipS
    rw [List.length_map, List.length_zip, Array.length_toList, Array.length_toList]
  · unfold zipS at hd
    rw [List.getElem?_map] at hd
    cases q : (x.cps.toList.zip y.cps.toList)[i]? with
    | none =>
      rw [q] at hd
      cases hd
    | some ch =>
      rw [q] at hd
      cases hd
      rw [List.getElem?_zip_eq_some] at q
      obtain ⟨qa, qb⟩ := q
      have la := (List.getElem?_eq_some_iff.mp qa).1
      have lb := (List.getElem?_eq_some_iff.mp qb).1
      rw [Array.length_toList] at la lb
      rw [Array.getElem?_toList] at qa qb
      refine ⟨⟨la, lb⟩, fun z H4 hy => ?_⟩
      obtain ⟨T, c, d, rfl, hT, rfl, hc, hd⟩ := hy
      rw [qa] at hc
      rw [qb] at hd
      cases hc
      cases hd
      have A := Al.new (o := .tup [.str ⟨#[ch.1]⟩, .str ⟨#[ch.2]⟩]) a2 hT
      exact ⟨_, A, .tup upd_same (.cons (.str _) (.cons (.str _) .nil))⟩
theorem di_zipS {X : Cx} {a b : Expr} {ta tb : TE} {ua ub : DTE} {p pos tpos : Pos} {elts : List Expr} {kk : Nat} (hm : X.mg "zip" = none) (ha : DE X a ta ua) (hb : DE X b tb ub) (hg : Gl X "zip" := by rfl)
    (hs : starEach [a, b] X.env = (false, eval a X.env) :: starEach [b] X.env := by rfl) (hs2 : starEach [b] X.env = (false, eval b X.env) :: starEach [] X.env := by rfl) (hpl : (backTo pos (starEach [b] X.env)).any (·.1) = false := by rfl) :
    DI X (.Tuple elts kk tpos) (.Call (.Name "zip" p) [a, b] [] pos) (iZipS (tCons ta (tCons tb tNil))) (diZS ua ub) :=
  ⟨pi_zipS hg hm (pa_cons ha.pe (pa_cons hb.pe pa_nil hs2) hs) hs hpl, ri_zipS ha.re hb.re⟩
end TL

set_option Elab.async false
set_option linter.all false
set_option maxRecDepth 100000
set_option maxHeartbeats 2000000
/-! TLx: repr of data with empty dicts in it; a tuple held against the empty one; get of a written dict; a list told again and again; tuple of a list. -/
namespace TL
open PySem PySem.Spec L2
variable [XW]

/-! ### repr of data with empty dicts -/
mutual
/-- no dict but an empty one -/
def okD : PyData → Bool
  | .none => true
  | .bool _ => true
  | .int _ => true
  | .str _ => true
  | .list ds => okDs ds
  | .tuple ds => okDs ds
  | .dict ds => ds.isEmpty
def okDs : List PyData → Bool
  | [] => true
  | d :: ds => okD d && okDs ds
end
section
variable {X : Cx} {pins : List (Addr × Obj)} {σ : St} {H : Hp} {s : Shared}
theorem dict_empty (I : Inv X pins σ H s) {a : Addr} {od : Obj} (h : H a = some (.frz od (.dK []))) : ∃ o es n, s.heap.get? a = some o ∧ o.cls = .type "dict" ∧ o.data = .dict es n ∧ es.toList = [] ∧ (a == sysModules) = false := by
  obtain ⟨_, hd, vs, rel, o, es, ep, ho, hx, hdat, _, hp, _⟩ := dk_rd I.hok (.inr ⟨od, h⟩)
  cases rel
  refine ⟨o, es, ep, ho, hx.1, hdat, ?_, hd⟩
  generalize es.toList = l at hp
  cases hp
  rfl
mutual
theorem rp_repr (I : Inv X pins σ H s) : ∀ (d : PyData) (v : V) (u : Value), Rp X.K H v d → RelV v u → okD d = true → d.showable = true → d.shown.length ≤ sizeLine →
    ∃ as bs, Reads s.heap u d as ∧ ReadAtMost s.heap d.depth bs ∧ ReprK X.prog X.w bs s.heap d.depth u d.shown
  | .none, _, _, h, r, _, _, _ => by
    cases h
    cases r
    exact ⟨[], [], Reads.none, (fun _ h => nomatch h), by simp only [PyData.shown]; exact .of_is ReprIs.none _ _ _⟩
  | .bool b, _, _, h, r, _, _, _ => by
    cases h
    cases r
    exact ⟨[], [], Reads.bool b, (fun _ h => nomatch h), by simp only [PyData.shown]; exact .of_is (ReprIs.bool b) _ _ _⟩
  | .int i, _, _, h, r, _, hs, _ => by
    cases h
    obtain ⟨t, rfl⟩ := r
    exact ⟨[], [], Reads.int i t, (fun _ h => nomatch h), by simp only [PyData.shown]; exact .of_is (ReprIs.int t (by simpa [PyData.showable] using hs)) _ _ _⟩
  | .str x, _, _, h, r, _, _, hz => by
    cases h
    obtain ⟨t, rfl⟩ := r
    exact ⟨[], [], Reads.str x t, (fun _ h => nomatch h), by simp only [PyData.shown]; exact .of_is (ReprIs.str x t (by simpa only [PyData.shown] using hz)) _ _ _⟩
  | .list ds, _, _, h, r, ho, hs, hz => by
    cases h with
    | lst ha hr =>
      cases r
      rename_i a xs
      obtain ⟨its, rv, ⟨o, n, h1, h2, _, h3⟩, _⟩ := I.list (.inl (.inl ha))
      have hz' : (listText (PyData.shownAll ds)).length ≤ sizeLine := by simpa only [PyData.shown] using hz
      obtain ⟨as, bs, h4, hb, hk⟩ := rp_reprAll I ds _ its hr rv (by simpa [okD] using ho) (by simpa [PyData.showable] using hs) (fun t ht => Nat.le_trans (listText_mem_le ht) hz')
      have r : Reads s.heap (.ref a) (.list ds) _ := .list h1 h2 h3 (by simpa using h4)
      have hna : a ∉ bs := not_mem_of_deeper r (by simp only [PyData.depth]; omega) hb
      refine ⟨_, a :: bs, r, ReadAtMost.cons r (by simp only [PyData.depth]; omega) hb, ?_⟩
      simp only [PyData.depth, PyData.shown]
      cases its with
      | nil =>
        cases h4
        simp only [PyData.shownAll, listText_nil]
        exact ReprK.listEmpty h1 h2 h3
      | cons x l => exact ReprK.list h1 h2 h3 hna (by simpa using hk.length_eq) (fun i y e => hk.item i y (by simpa using e))
  | .tuple ds, _, _, h, r, ho, hs, hz => by
    cases h with
    | tup ha hr =>
      cases r
      rename_i a xs
      obtain ⟨its, rv, ⟨o, h1, h2, n, h3⟩, _⟩ := I.tuple (.inl (.inl ha))
      have hz' : (tupleText (PyData.shownAll ds)).length ≤ sizeLine := by simpa only [PyData.shown] using hz
      obtain ⟨as, bs, h4, hb, hk⟩ := rp_reprAll I ds _ its hr rv (by simpa [okD] using ho) (by simpa [PyData.showable] using hs) (fun t ht => Nat.le_trans (tupleText_mem_le ht) hz')
      have r : Reads s.heap (.ref a) (.tuple ds) _ := .tuple h1 h2 h3 (by simpa using h4)
      have hna : a ∉ bs := not_mem_of_deeper r (by simp only [PyData.depth]; omega) hb
      refine ⟨_, a :: bs, r, ReadAtMost.cons r (by simp only [PyData.depth]; omega) hb, ?_⟩
      simp only [PyData.depth, PyData.shown]
      exact ReprK.tuple h1 h2 h3 hna (by simpa using hk)
  | .dict ds, _, _, h, r, ho, hs, hz => by
    cases h with
    | err0 => cases (show false = true from ho)
    | err => cases (show false = true from ho)
    | fn => cases (show false = true from ho)
    | dic ha hl _ =>
      cases r
      rename_i a ob kvs _
      cases ds with
      | cons p q => cases (show false = true from ho)
      | nil =>
        have e : kvs = [] := List.length_eq_zero_iff.mp hl.len
        subst e
        obtain ⟨o, es, n, h1, h2, h3, h4, h5⟩ := dict_empty I ha
        have r : Reads s.heap (.ref a) (.dict []) _ := .dict (kvs := []) h1 h2 h3 (by rw [h4]; exact .nil) (by rw [h4]; exact .nil)
        have hb : ReadAtMost s.heap (PyData.depthKv []) [] := fun _ h => nomatch h
        refine ⟨_, [a], r, ReadAtMost.cons r (by simp only [PyData.depth]; omega) hb, ?_⟩
        simp only [PyData.depth, PyData.shown]
        exact ReprK.dict h1 h2 h3 h5 (fun h => nomatch h) (by rw [h4]; simp only [PyData.shownKv]; exact .nil)
theorem rp_reprAll (I : Inv X pins σ H s) : ∀ (ds : List PyData) (vs : List V) (us : List Value), RpAll X.K H vs ds → Vals vs us → okDs ds = true → PyData.showableAll ds = true → (∀ t ∈ PyData.shownAll ds, t.length ≤ sizeLine) →
    ∃ as bs, ReadsAll s.heap us ds as ∧ ReadAtMost s.heap (PyData.depthAll ds) bs ∧ ReprAllK X.prog X.w bs s.heap (PyData.depthAll ds) us (PyData.shownAll ds)
  | [], _, _, h, r, _, _, _ => by
    cases h
    cases r
    exact ⟨[], [], .nil, (fun _ h => nomatch h), by simp only [PyData.shownAll]; exact .nil⟩
  | d :: ds, _, _, h, r, ho, hs, hz => by
    cases h with
    | cons h1 h2 =>
      cases r with
      | cons r1 r2 =>
        have ho' : okD d = true ∧ okDs ds = true := by simpa [okDs] using ho
        have hs' : d.showable = true ∧ PyData.showableAll ds = true := by simpa [PyData.showableAll] using hs
        obtain ⟨as1, b1, q1, hb1, k1⟩ := rp_repr I d _ _ h1 r1 ho'.1 hs'.1 (hz _ (by simp only [PyData.shownAll]; exact List.mem_cons_self ..))
        obtain ⟨as2, b2, q2, hb2, k2⟩ := rp_reprAll I ds _ _ h2 r2 ho'.2 hs'.2 (fun t ht => hz t (by simp only [PyData.shownAll]; exact List.mem_cons_of_mem _ ht))
        refine ⟨_, b1 ++ b2, .cons q1 q2, ?_, ?_⟩
        · intro b hm
          simp only [PyData.depthAll]
          rcases List.mem_append.mp hm with hm | hm
          · obtain ⟨d', as', r', hd'⟩ := hb1 b hm
            exact ⟨d', as', r', Nat.le_trans hd' (Nat.le_max_left _ _)⟩
          · obtain ⟨d', as', r', hd'⟩ := hb2 b hm
            exact ⟨d', as', r', Nat.le_trans hd' (Nat.le_max_right _ _)⟩
        · simp only [PyData.depthAll, PyData.shownAll]
          exact .cons ((k1.more fun b hb => List.mem_append_left _ hb).level_le (Nat.le_max_left _ _)) (k2.more_le (fun b hb => List.mem_append_right _ hb) (Nat.le_max_right _ _))
end
end
def rReprX (K : PySem.W.Frag) : List V → Hp → VK → Prop := fun xs H Q => ∃ x d, xs = [x] ∧ Rp K H x d ∧ okD d = true ∧ d.showable = true ∧ d.shown.length ≤ sizeLine ∧ d.depth ≤ 64 ∧ Q (.str d.shown) H
theorem call_reprX {X : Cx} (hg : X.A.guards = some []) (hu : X.A.units + 65 < cLine) : CallR X (.builtin "repr") (rReprX X.K) := by
  intro pins s σ H xs us Q I r h
  obtain ⟨x, d, rfl, hd, ho, hs, hz, hdp, q⟩ := h
  obtain ⟨u, rfl, ru⟩ := L2.vals1 r
  have kk : ∀ b o, s.heap.get? b = some o → s.heap.get? b = some o := fun _ _ e => e
  have fin : ∀ (h' : Heap) (u : Tok) (tk : Tok), (∀ b o, s.heap.get? b = some o → h'.get? b = some o) → ∃ x t, Value.str d.shown u = .str x t ∧ EP X pins σ Q (.str d.shown u) { s with heap := h', toks := tk } := fun h' u tk hk => ⟨_, _, rfl, .str d.shown, H, I.kept hk, ⟨_, rfl⟩, q⟩
  cases hd with
  | err0 => cases (show false = true from ho)
  | fn => cases (show false = true from ho)
  | err => cases (show false = true from ho)
  | non =>
    obtain rfl : u = Value.none := ru
    exact PySem.P.repr_of_none ⟨.str (PyData.shown .none), H, I.tok _, ⟨_, rfl⟩, q⟩
  | bl b =>
    obtain rfl : u = Value.bool b := ru
    exact PySem.P.repr_of_bool ⟨.str (PyData.shown (.bool b)), H, I.tok _, ⟨_, rfl⟩, q⟩
  | int i =>
    obtain ⟨t, rfl⟩ := ru
    exact PySem.P.repr_of_int (of_decide_eq_true hs) ⟨.str (PyData.shown (.int i)), H, I.tok _, ⟨_, rfl⟩, q⟩
  | str y =>
    obtain ⟨t, rfl⟩ := ru
    exact PySem.P.repr_of_str ⟨.str (PyData.shown (.str y)), H, I.tok _, ⟨_, rfl⟩, q⟩ hz
  | @lst a xs ds ha hr =>
    obtain rfl : u = Value.ref a := ru
    obtain ⟨its, rv, ⟨o, n, h1, h2, _, h3⟩, _⟩ := I.list (.inl (.inl ha))
    have hz' : (listText (PyData.shownAll ds)).length ≤ sizeLine := by simpa only [PyData.shown] using hz
    obtain ⟨as, bs, h4, hb, hk⟩ := rp_reprAll I ds _ its hr rv (by simpa [okD] using ho) (by simpa [PyData.showable] using hs) (fun t ht => Nat.le_trans (listText_mem_le ht) hz')
    have r : Reads s.heap (.ref a) (.list ds) _ := .list h1 h2 h3 (by simpa using h4)
    have hna : a ∉ bs := not_mem_of_deeper r (by simp only [PyData.depth]; omega) hb
    simp only [PyData.depth] at hdp
    simp only [PyData.shown] at fin
    refine call_repr_slot (by omega) ⟨o, h1, h2⟩ F.slot_list_repr.toG ?_
    cases its with
    | nil =>
      cases h4
      simp only [PyData.shownAll, listText_nil] at fin
      exact call_list_repr_empty ⟨o, h1, h2⟩ h1 h3 (fin s.heap _ _ kk)
    | cons x l =>
      exact call_list_reprK h1 h2 h3 hna (by simpa using hk.length_eq) (fun i y e => hk.item i y (by simpa using e)) hg (fun b _ => Clear.nil b) (by show X.A.units + 1 + _ < cLine; omega) kk fin hz'
  | @tup a xs ds ha hr =>
    obtain rfl : u = Value.ref a := ru
    obtain ⟨its, rv, ⟨o, h1, h2, n, h3⟩, _⟩ := I.tuple (.inl (.inl ha))
    have hz' : (tupleText (PyData.shownAll ds)).length ≤ sizeLine := by simpa only [PyData.shown] using hz
    obtain ⟨as, bs, h4, hb, hk⟩ := rp_reprAll I ds _ its hr rv (by simpa [okD] using ho) (by simpa [PyData.showable] using hs) (fun t ht => Nat.le_trans (tupleText_mem_le ht) hz')
    have r : Reads s.heap (.ref a) (.tuple ds) _ := .tuple h1 h2 h3 (by simpa using h4)
    have hna : a ∉ bs := not_mem_of_deeper r (by simp only [PyData.depth]; omega) hb
    simp only [PyData.depth] at hdp
    simp only [PyData.shown] at fin
    refine call_repr_slot (by omega) ⟨o, h1, h2⟩ F.slot_tuple_repr ?_
    exact call_tuple_reprK h1 h2 h3 hna (by simpa using hk) hg (fun b _ => Clear.nil b) (by show X.A.units + 1 + _ < cLine; omega) kk fin hz'
  | @dic a ob kvs ds ha hl _ =>
    obtain rfl : u = Value.ref a := ru
    cases ds with
    | cons p q => cases (show false = true from ho)
    | nil =>
      have e : kvs = [] := List.length_eq_zero_iff.mp hl.len
      subst e
      obtain ⟨o, es, n, h1, h2, h3, h4, h5⟩ := dict_empty I ha
      have hz' : (dictText (PyData.shownKv [])).length ≤ sizeLine := by simpa only [PyData.shown] using hz
      simp only [PyData.shown] at fin
      refine call_repr_slot (by omega) ⟨o, h1, h2⟩ F.slot_dict_repr ?_
      exact call_dict_reprK (as := []) (d := 0) h1 h2 h3 h5 (fun h => nomatch h) (by rw [h4]; simp only [PyData.shownKv]; exact .nil) hg (fun b _ => Clear.nil b) (by show X.A.units + 1 + _ < cLine; omega) kk fin hz'
def dReprX (u : DTE) : DTE := fun δ R => u δ fun d δ1 => okD d = true ∧ d.showable = true ∧ d.shown.length ≤ sizeLine ∧ d.depth ≤ 64 ∧ R (.str d.shown) δ1
theorem re_reprX {K : PySem.W.Frag} {te : TE} {ue : DTE} (ha : RE K te ue) : RE K (tCB (rReprX K) (tCons te tNil)) (dReprX ue) := by
  intro c σ G H δ Q R E h k
  refine ha c σ G H δ _ _ E h fun d δ1 v G1 H1 h1 E1 e1 r1 => ?_
  exact ⟨v, d, rfl, r1.up E1.ex, h1.1, h1.2.1, h1.2.2.1, h1.2.2.2.1, k _ δ1 _ G1 H1 h1.2.2.2.2 E1 e1 (.str _)⟩

/-! ### a tuple held against the empty one -/
def rEqT0 (K : PySem.W.Frag) : R2 := fun x y H Q => ∃ a b xs, x = .ref a ∧ y = .ref b ∧ SqT K H a xs ∧ SqT K H b [] ∧ Q (.bl xs.isEmpty) H
theorem op_eqT0 {X : Cx} (hu : X.A.units < cLine) : OpR X (compareOp .Eq) (rEqT0 X.K) := by
  intro pins s σ H x y v u Q I rx ry h
  obtain ⟨a, b, xs, rfl, rfl, h1, h2, q⟩ := h
  cases rx
  cases ry
  obtain ⟨its, rv, p, _⟩ := I.tuple h1
  obtain ⟨its2, rv2, p2, _⟩ := I.tuple h2
  cases rv2
  refine SeqAt.eq_tupleAt (e := fun _ => true) (show s.heap.IsTuple a its.toArray from p) (show s.heap.IsTuple b #[] from p2) hu (fun j _ h => absurd h (Nat.not_lt_zero j)) ⟨.bl xs.isEmpty, H, I, ?_, q⟩
  have e : ((List.range (min its.toArray.size (#[] : Array Value).size)).all (fun _ => true) && its.toArray.size == (#[] : Array Value).size) = xs.isEmpty := by
    have l := rv.length
    cases xs with
    | nil =>
      cases its with
      | nil => rfl
      | cons x r => cases l
    | cons x r =>
      cases its with
      | nil => cases l
      | cons y r => simp
  rw [e]
  rfl
def rdEqT0 : R2D := fun d1 d2 R => match d1, d2 with
  | .tuple xs, .tuple [] => R (.bool xs.isEmpty)
  | _, _ => False
theorem ro_eqT0 {K : PySem.W.Frag} : RO K (rEqT0 K) rdEqT0 := by
  intro G H x y d1 d2 Q R e r1 r2 h k
  cases d1 <;> first
    | exact False.elim h
    | skip
  cases d2 <;> first
    | exact False.elim h
    | skip
  rename_i xs ys
  cases ys with
  | cons y r => exact False.elim h
  | nil =>
    obtain ⟨a, vs, rfl, a1, a2⟩ := r1.tup_of
    obtain ⟨b, us, rfl, b1, b2⟩ := r2.tup_of
    cases b2
    exact ⟨a, b, vs, rfl, rfl, .inl (.inl (e _ _ a1)), .inl (.inl (e _ _ b1)), by rw [empty_rp a2]; exact k _ _ G H h (Al.refl e) (.bl _)⟩

/-! ### get of a written dict -/
def tKG (K : PySem.W.Frag) (d : Addr) (ty : TE) : TE := fun σ H Q => ty σ H fun y H1 => ∃ (z : Str) (r : Option Value) (v : V), y = .str z ∧ PySem.W.nsIn K d z = some r ∧ RelV v (r.getD .none) ∧ Q v H1
theorem pe_kget {X : Cx} {x : Str} {e : Expr} {p apos cpos : Pos} {ty : TE} {d : Addr} {es : Array DictEntry} {n : Nat} (D : KDict X.K X.w d es n) (hx : X.mg x = some (.ref d)) (he : PE X e ty) (hg : Gl X x) (hd : (x == ("__debug__" : Str)) = false)
    (m : M1 X (.Name x p) "get" apos e cpos) : PE X (.Call (.Attribute (.Name x p) "get" apos) [e] [] cpos) (tKG X.K d ty) := by
  refine ⟨fun pins s σ H Q I h => ?_⟩
  refine wpAny_Call_method m.base m.few m.line PySem.F.plainAttrs_dict PySem.F.slot_dict_get PySem.F.type_dict_get (thn ((pe_glob (v := .ref d) hg hx rfl hd).run pins s σ H (fun v H1 => v = .ref d ∧ H1 = H) I ⟨rfl, rfl⟩) fun u s1 ⟨x, H1, I1, rx, ex, eh⟩ => ?_)
  subst ex eh
  obtain rfl : u = Value.ref d := rx
  have hm := PySem.W.mapOf_K (prog := X.prog) (w := X.w) I1.kIn D.at_ D.lit
  refine ⟨hm.typeIs, hm.noDict, ?_⟩
  rw [m.trees]
  refine Calls.callWith_builtin rfl (Calls.evalArgs_plain (Calls.spliced_cons (thn (he.run pins s1 σ H1 _ I1 h) fun iv s2 ⟨y, H2, I2, ry, z, r, v, ey, hn, rv, q2⟩ => Calls.spliced_nil ?_)))
  subst ey
  obtain ⟨t, rfl⟩ := ry
  have hm2 := PySem.W.mapOf_K (prog := X.prog) (w := X.w) I2.kIn D.at_ D.lit
  refine call_meetsIn PySem.F.slot_dict_get hm2.typeIs PySem.F.entry_dict_get (PySem.F.args_dict_get_2 _ _) (meets_dict_get (strKind X.prog X.w) d (PySem.strKind_is X.prog X.w z t) D.low) ⟨_, hm2, v, H2, I2.tok _, ?_, q2⟩
  rw [PySem.W.find_K D.at_ hn]
  exact rv
/-- the dict at d tells at every text what m tells -/
def KMap0 (K : PySem.W.Frag) (d : Addr) (m : Str → PyData) : Prop := ∀ z, ∃ r v, PySem.W.nsIn K d z = some r ∧ RelV v (r.getD .none) ∧ ∀ G, Rp K G v (m z)
def dKG (m : Str → PyData) (u : DTE) : DTE := fun δ R => u δ fun d δ1 => match d with
  | .str z => R (m z) δ1
  | _ => False
theorem re_kget {K : PySem.W.Frag} {d : Addr} {m : Str → PyData} {te : TE} {ue : DTE} (hm : KMap0 K d m) (ha : RE K te ue) : RE K (tKG K d te) (dKG m ue) := by
  intro c σ G H δ Q R E h k
  refine ha c σ G H δ _ _ E h fun y δ1 v G1 H1 h1 E1 e1 r1 => ?_
  cases y <;> first
    | exact False.elim h1
    | skip
  rename_i z
  obtain ⟨r, v0, a1, a2, a3⟩ := hm z
  exact ⟨z, r, v0, r1.str_of, a1, a2, k _ δ1 _ G1 H1 h1 E1 e1 (a3 G1)⟩
/-- a written dict whose texts and ints are known -/
theorem kmap0 {K : PySem.W.Frag} {d : Addr} {es : Array DictEntry} {n : Nat} (hl : K.lookup d = some ⟨.type "dict", none, .dict es n, #[]⟩) (kvs : List (Str × Int)) (h : ∃ f : Nat → Tok × Tok, es.toList.map (fun e => (e.key, e.val)) = kvs.mapIdx fun i p => (Value.str p.1 (f i).1, Value.int p.2 (f i).2)) :
    KMap0 K d fun z => match kvs.find? (·.1 == z) with
      | some p => .int p.2
      | none => .none := by
  intro z
  obtain ⟨f, h⟩ := h
  have key : ∀ (l : List DictEntry) (kvs : List (Str × Int)) (f : Nat → Tok × Tok), l.map (fun e => (e.key, e.val)) = kvs.mapIdx (fun i p => (Value.str p.1 (f i).1, Value.int p.2 (f i).2)) →
      ((∃ e p t, l.find? (·.key.isStr z) = some e ∧ kvs.find? (·.1 == z) = some p ∧ e.val = Value.int p.2 t) ∨ (l.find? (·.key.isStr z) = none ∧ kvs.find? (·.1 == z) = none)) ∧ l.any (·.refKey) = false := by
    intro l
    induction l with
    | nil =>
      intro kvs f h
      cases kvs with
      | nil => exact ⟨.inr ⟨rfl, rfl⟩, rfl⟩
      | cons p q => simp at h
    | cons e l ih =>
      intro kvs f h
      cases kvs with
      | nil => simp at h
      | cons p q =>
        rw [List.map_cons, List.mapIdx_cons] at h
        injection h with h1 h2
        injection h1 with hk hv
        obtain ⟨i1, i2⟩ := ih q (fun i => f (i + 1)) h2
        have e1 : e.key.isStr z = (p.1 == z) := by rw [hk]; rfl
        have e2 : e.refKey = false := by unfold DictEntry.refKey; rw [hk]
        refine ⟨?_, by rw [List.any_cons, e2, i2]; rfl⟩
        rw [List.find?_cons, List.find?_cons, e1]
        cases hp : (p.1 == z) with
        | true => exact .inl ⟨e, p, _, rfl, rfl, hv⟩
        | false => exact i1
  obtain ⟨k1, k2⟩ := key es.toList kvs f h
  have en : PySem.W.nsIn K d z = (match es.toList.find? (·.key.isStr z) with
      | some e => some (some e.val)
      | none => if es.toList.any (·.refKey) then none else some none) := by
    unfold PySem.W.nsIn
    rw [hl]
    rfl
  rcases k1 with ⟨e, p, t, a1, a2, a3⟩ | ⟨a1, a2⟩
  · refine ⟨some e.val, .int p.2, by rw [en]; simp only [a1], ⟨t, a3⟩, fun G => ?_⟩
    dsimp only
    rw [a2]
    exact .int _
  · refine ⟨none, .non, by rw [en]; simp only [a1, k2]; rfl, rfl, fun G => ?_⟩
    dsimp only
    rw [a2]
    exact .non

/-! ### a list again and again; tuple of a list -/
theorem RpAll.flat {K : PySem.W.Frag} {G : Hp} {xs : List V} {ds : List PyData} (r : RpAll K G xs ds) : ∀ n : Nat, RpAll K G (List.replicate n xs).flatten (List.replicate n ds).flatten
  | 0 => .nil
  | n + 1 => by
    rw [List.replicate_succ, List.replicate_succ, List.flatten_cons, List.flatten_cons]
    exact r.app (RpAll.flat r n)
def rdRep : R2D := fun d1 d2 R => match d1, d2 with
  | .list xs, .int k => -(2 ^ 63 : Int) ≤ k ∧ k < 2 ^ 63 ∧ xs.length * k.toNat ≤ sizeLine ∧ R (.list (List.replicate k.toNat xs).flatten)
  | _, _ => False
theorem ro_rep {K : PySem.W.Frag} : RO K rRep rdRep := by
  intro G H x y d1 d2 Q R e r1 r2 h k
  cases d1 <;> cases d2 <;> first
    | exact False.elim h
    | skip
  rename_i ds i
  obtain ⟨h1, h2, hz, h⟩ := h
  obtain ⟨a, xs, rfl, a1, a2⟩ := r1.lst_of
  refine ⟨a, i, xs, rfl, r2.int_of, e _ _ a1, h1, h2, by rw [a2.len]; exact hz, fun p hp => ?_⟩
  have A := Al.new (o := .lst (List.replicate i.toNat xs).flatten) e hp
  exact k _ _ _ _ h A (.lst upd_same ((a2.flat i.toNat).up A.g))
def dTupOf (u : DTE) : DTE := fun δ R => u δ fun d δ1 => match d with
  | .list ds => R (.tuple ds) δ1
  | .tuple ds => R (.tuple ds) δ1
  | _ => False
theorem re_tupOf {K : PySem.W.Frag} {ta : TE} {ua : DTE} (ha : RE K ta ua) : RE K (tThen ta (kTup K)) (dTupOf ua) := by
  intro c σ G H δ Q R E h k
  refine ha c σ G H δ _ _ E h fun d δ1 v G1 H1 h1 E1 e1 r1 => ?_
  cases d <;> first
    | exact False.elim h1
    | skip
  · obtain ⟨a, xs, rfl, q1, q2⟩ := r1.lst_of
    refine .inl ⟨a, xs, rfl, .inl (.inl (E1.ex _ _ q1)), fun p hp => ?_⟩
    have A := Al.new (o := .tup xs) E1.ex hp
    exact k _ δ1 _ _ _ h1 (E1.al A) (e1.trans A.g) (.tup upd_same (q2.up A.g))
  · obtain ⟨a, xs, rfl, q1, q2⟩ := r1.tup_of
    exact .inr ⟨a, xs, rfl, .inl (.inl (E1.ex _ _ q1)), k _ δ1 _ G1 H1 h1 E1 e1 r1⟩
section
variable {X : Cx} {a e : Expr} {ta te : TE} {ua ue : DTE} {pos p apos : Pos}
theorem de_reprX (hm : X.mg "repr" = none) (hgd : X.A.guards = some []) (hu : X.A.units + 65 < cLine) (ha : DE X a ta ua) (hg : Gl X "repr" := by rfl) (hv : bootBuiltins "repr" = some (.builtin "repr") := by decide +kernel) (hs : starEach [a] X.env = (false, eval a X.env) :: starEach [] X.env := by rfl) (hpl : (backTo pos (starEach [] X.env)).any (·.1) = false := by rfl) :
    DE X (.Call (.Name "repr" p) [a] [] pos) (tCB (rReprX X.K) (tCons ta tNil)) (dReprX ua) := ⟨pe_callB (call_reprX hgd hu) hg hm hv (pa_cons ha.pe pa_nil hs) (by decide) (by decide) hs hpl, re_reprX ha.re⟩
theorem de_kget {x : Str} {d : Addr} {es : Array DictEntry} {n : Nat} {m : Str → PyData} (D : KDict X.K X.w d es n) (hm : KMap0 X.K d m) (hx : X.mg x = some (.ref d)) (he : DE X e te ue) (hg : Gl X x := by rfl) (hd : (x == ("__debug__" : Str)) = false := by decide)
    (mm : M1 X (.Name x p) "get" apos e pos := by exact ⟨rfl, rfl, rfl, rfl⟩) : DE X (.Call (.Attribute (.Name x p) "get" apos) [e] [] pos) (tKG X.K d te) (dKG m ue) := ⟨pe_kget D hx he.pe hg hd mm, re_kget hm he.re⟩
theorem de_tuple1 (hm : X.mg "tuple" = none) (ha : DE X a ta ua) (hg : Gl X "tuple" := by rfl) (na : starEach [a] X.env = (false, eval a X.env) :: starEach [] X.env := by rfl) :
    DE X (.Call (.Name "tuple" p) [a] [] pos) (tThen ta (kTup X.K)) (dTupOf ua) := ⟨pe_tupleOf hg hm ha.pe na, re_tupOf ha.re⟩
end
end TL

set_option Elab.async false
set_option linter.all false
set_option maxRecDepth 100000
set_option maxHeartbeats 4000000
/-! TLy: sets of texts that can be walked: one more text, set(text), set comprehensions of texts, sorted of them, len of them. -/
namespace TL
open PySem PySem.Spec L2
variable [XW]

/-- the text of an entry -/
def kT (e : Int × Value) : Str := match e.2 with
  | .str x _ => x
  | _ => Str.empty
def isT (w : World) (e : Int × Value) : Prop := ∃ x t, e = (hashStr w x, Value.str x t)
/-- what stands at a: a set of texts, l its members, each once -/
def SetT (w : World) (h : Heap) (a : Addr) (l : List Str) : Prop :=
  ∃ o es ep t, h.get? a = some o ∧ o.ExactSet ∧ o.data = .set es ep t ∧ (∀ e ∈ es.toList, isT w e) ∧ (es.toList.map kT).Perm l ∧ l.Nodup ∧
    es.size < scanBound ∧ t.fits es.size = true ∧ Ris t.place.toList ∧ (w.params.followText "set-order" = true ∨ t.led = true)
section
variable {P : Program} {w : World} {h h' : Heap} {a : Addr} {l : List Str}
theorem SetT.at (R : SetT w h a l) (k : ∀ o, h.get? a = some o → h'.get? a = some o) : SetT w h' a l := by
  obtain ⟨o, es, ep, t, ho, r⟩ := R
  exact ⟨o, es, ep, t, k o ho, r⟩
theorem isT_el {m : List (Int × Value)} (g : ∀ e ∈ m, isT w e) : ElemsOf (PySem.strKind P w) m := fun e he => by
  obtain ⟨x, t, rfl⟩ := g e he
  exact ⟨⟨x, strKind_is P w x t, rfl⟩, rfl⟩
theorem isT_is {e : Int × Value} (g : isT w e) (x : Str) : (PySem.strKind P w).is x e.2 = true ↔ kT e = x := by
  obtain ⟨y, t, rfl⟩ := g
  constructor
  · intro z
    exact (PySem.strKind P w).inj _ _ _ (strKind_is P w y t) z
  · intro z
    have z : y = x := z
    rw [z]
    exact strKind_is P w x t
theorem isT_mem {m : List (Int × Value)} (g : ∀ e ∈ m, isT w e) (x : Str) : x ∈ m.map kT ↔ ∃ e ∈ m, (PySem.strKind P w).is x e.2 = true := by
  rw [List.mem_map]
  exact ⟨fun ⟨e, he, q⟩ => ⟨e, he, (isT_is (g e he) x).mpr q⟩, fun ⟨e, he, q⟩ => ⟨e, he, (isT_is (g e he) x).mp q⟩⟩
theorem SetT.len (R : SetT w h a l) : ∃ o es ep t, h.get? a = some o ∧ o.data = .set es ep t ∧ es.size = l.length := by
  obtain ⟨o, es, ep, t, ho, _, hd, _, pm, _⟩ := R
  refine ⟨o, es, ep, t, ho, hd, ?_⟩
  rw [← pm.length_eq, List.length_map, Array.length_toList]
theorem SetT.setOf (R : SetT w h a l) : h.SetOf (PySem.strKind P w) a (fun x => decide (x ∈ l)) l.length := by
  obtain ⟨o, es, ep, t, ho, hx, hd, g, pm, _, hb, hf, _⟩ := R
  refine ⟨o, es, ep, t, ho, hx, hd, isT_el g, fun x => ?_, hb, hf, ?_⟩
  · rw [decide_eq_true_iff, ← pm.mem_iff]
    exact isT_mem g x
  · rw [← pm.length_eq, List.length_map, Array.length_toList]
end
section
variable {P : Program} {w : World} {A : Around} {E : Value → Shared → Prop} {s : Shared} {a : Addr} {l : List Str}
/-- the tail of an add: what was laid stays, grown or not -/
theorem addT_tail {g : Bool → Sem Unit} (hgv : ∀ (b : Bool) (z : Shared) (Q' : Unit → Shared → Prop), Q' () z → wpAny (model P w) A (g b) Q' E z)
    {o : Obj} {es es1 : Array (Int × Value)} {ep : Nat} {t t2 : SetTable} (ho : s.heap.get? a = some o) (hx : o.ExactSet) (hd : o.data = .set es ep t)
    (g1 : ∀ e ∈ es1.toList, isT w e) (p1 : (es1.toList.map kT).Perm l) (nd : l.Nodup) (b1 : es1.size < scanBound) (f1 : t2.fits es1.size = true) (r1 : Ris t2.place.toList)
    (l1 : w.params.followText "set-order" = true ∨ t2.led = true) {dm : Bool} {R : Option Bool → Shared → Prop} (k : ∀ h', Heap.SameBut a s.heap h' → SetT w h' a l → R (some true) { s with heap := h' }) :
    wpAny (model P w) A (do
        storeSet a es1 t2
        if (!dm && t2.tooFull) = true then do
            g (relayAll t2 es1 (SetTable.grown es1.size)).2.2
            storeSet a (relayAll t2 es1 (SetTable.grown es1.size)).1 (relayAll t2 es1 (SetTable.grown es1.size)).2.1
            pure (some true)
          else pure (some true)) R E s := by
  have z1 := store_at (es' := es1) (t' := t2) ho hd
  have y1 := Heap.SameBut.update s.heap a (Obj.putSet es1 t2)
  refine wpAny_bind (wpAny_storeSet_of ho hd ?_ (fits_of_scanBound b1))
  by_cases hc : (!dm && t2.tooFull) = true
  · rw [if_pos hc]
    have q1 := relayAll_perm t2 es1 (SetTable.grown es1.size)
    have q2 := relayAll_fits t2 es1 (SetTable.grown es1.size)
    have q3 := relayAll_ris t2 es1 (SetTable.grown es1.size)
    have q4 := relayAll_led t2 es1 (SetTable.grown es1.size)
    generalize relayAll t2 es1 (SetTable.grown es1.size) = Z at q1 q2 q3 q4 ⊢
    obtain ⟨es2, t3, gv⟩ := Z
    dsimp only at q1 q2 q3 q4 ⊢
    have sz : es2.size = es1.size := by
      have z := q1.length_eq
      rw [Array.length_toList, Array.length_toList] at z
      exact z
    have b2 : es2.size < scanBound := by
      rw [sz]
      exact b1
    refine wpAny_bind (hgv _ _ _ (wpAny_bind (wpAny_storeSet_of z1 rfl (wpAny_pure (k _ (y1.trans (Heap.SameBut.update _ a _)) ?_)) (fits_of_scanBound b2))))
    exact ⟨_, es2, _, t3, store_at (es' := es2) (t' := t3) z1 rfl, hx, rfl, fun e he => g1 e (q1.mem_iff.mp he), (q1.map kT).trans p1, nd, b2, q2, q3, l1.imp id fun z => q4.trans z⟩
  · rw [if_neg hc]
    exact wpAny_pure (k _ y1 ⟨_, es1, _, t2, z1, hx, rfl, g1, p1, nd, b1, f1, r1, l1⟩)
/-- .. and its head -/
theorem addT_hashed {x : Str} {tk : Tok} {Q : Bool → Shared → Prop} (R : SetT w s.heap a l) (room : l.length + 1 < scanBound)
    (k : ∀ h', Heap.SameBut a s.heap h' → SetT w h' a (if x ∈ l then l else x :: l) → Q (!decide (x ∈ l)) { s with heap := h' }) :
    wpAny (model P w) A (setAddHashed a (.str x tk) ((PySem.strKind P w).hash x)) Q E s := by
  obtain ⟨o, es, ep, t, ho, hx, hd, g, pm, nd, hb, hf, hr, hl⟩ := id R
  have key : (PySem.strKind P w).is x (.str x tk) = true := strKind_is P w x tk
  have el : ElemsOf (PySem.strKind P w) es.toList := isT_el g
  have sc : (Value.str x tk).scannable = true := rfl
  unfold setAddHashed setAddHashedIn
  refine wpAny_holding (wpAny_bind (wpAny_setState_of ho hd hf ?_))
  dsimp only
  rw [byScan_of sc hb el]
  simp only [↓reduceIte]
  unfold setAddByScan
  refine wpAny_bind (wpAny_bind (wpAny_rule (wpAny_bind (wpAny_setScan_of key ho hd hf el ?_))))
  cases found : List.findIdx? (fun e => (PySem.strKind P w).is x e.2) es.toList with
  | some j =>
    dsimp only
    obtain ⟨hj, pj, _⟩ := List.findIdx?_eq_some_iff_getElem.mp found
    have hm : x ∈ l := pm.mem_iff.mp ((isT_mem (P := P) g x).mpr ⟨es.toList[j], List.getElem_mem hj, pj⟩)
    have q := k s.heap (Heap.SameBut.refl a s.heap) (by rw [if_pos hm]; exact R)
    rw [decide_eq_true hm] at q
    exact wpAny_pure (wpAny_pure q)
  | none =>
    dsimp only
    have hm : x ∉ l := fun z => by
      obtain ⟨e, he, q⟩ := (isT_mem (P := P) g x).mp (pm.mem_iff.mpr z)
      have c := List.findIdx?_eq_none_iff.mp found e he
      rw [q] at c
      cases c
    have way : ∀ (b : Bool) {z : Shared} {Q' : Unit → Shared → Prop}, Q' () z → wpAny (model P w) A (match b with | true => rule "set.scan.the-table-gave-way" | false => pure ()) Q' E z := fun b z Q' q => by
      cases b with
      | true => exact wpAny_rule q
      | false => exact wpAny_pure q
    have q1 := layNew_perm t es ((PySem.strKind P w).hash x) (.str x tk)
    have q2 := layNew_fits t es ((PySem.strKind P w).hash x) (.str x tk)
    have q3 := layNew_ris t es ((PySem.strKind P w).hash x) (.str x tk) hr
    have q4 := layNew_led t es ((PySem.strKind P w).hash x) (.str x tk)
    generalize layNew t es ((PySem.strKind P w).hash x) (.str x tk) = Z at q1 q2 q3 q4 ⊢
    obtain ⟨es1, t1, dm, gave⟩ := Z
    dsimp only at q1 q2 q3 q4 ⊢
    rw [Array.toList_push] at q1
    have pc : es1.toList.Perm (((PySem.strKind P w).hash x, Value.str x tk) :: es.toList) := q1.trans (List.perm_append_singleton _ _)
    have g1 : ∀ e ∈ es1.toList, isT w e := fun e he => (List.mem_cons.mp (pc.mem_iff.mp he)).elim (fun z => ⟨x, tk, z⟩) (g e)
    have p1 : (es1.toList.map kT).Perm (x :: l) := (pc.map kT).trans (.cons x pm)
    have nd1 : (x :: l).Nodup := List.nodup_cons.mpr ⟨hm, nd⟩
    have sz : es1.size = l.length + 1 := by
      have z := p1.length_eq
      rw [List.length_map, Array.length_toList] at z
      exact z
    have b1 : es1.size < scanBound := by
      rw [sz]
      exact room
    have ld : w.params.followText "set-order" = true ∨ t1.led = true := hl.imp id fun z => q4.trans z
    have fin : ∀ h', Heap.SameBut a s.heap h' → SetT w h' a (x :: l) → Q true { s with heap := h' } := fun h' sb r => by
      have q := k h' sb (by rw [if_neg hm]; exact r)
      rw [decide_eq_false hm] at q
      exact q
    refine wpAny_bind (way _ ?_)
    split
    · refine wpAny_bind ?_
      rw [hashByValue_scannable 8 sc]
      refine wpAny_pure (addT_tail (l := x :: l) (fun b z Q' q => way b q) ho hx hd g1 p1 nd1 b1 ?_ ?_ ?_ fun h' sb r => ?_)
      · first
          | (split <;> first | exact q2 | exact SetTable.fits_plain_off q2)
          | exact q2
      · first
          | (split <;> exact q3)
          | exact q3
      · first
          | (split <;> exact ld)
          | exact ld
      · dsimp only
        exact wpAny_pure (fin h' sb r)
    · refine wpAny_bind (wpAny_pure ?_)
      simp only [↓reduceIte]
      refine addT_tail (l := x :: l) (fun b z Q' q => way b q) ho hx hd g1 p1 nd1 b1 q2 q3 ld fun h' sb r => ?_
      dsimp only
      exact wpAny_pure (fin h' sb r)
/-- found.add(x) -/
theorem addT {x : Str} {tk : Tok} {Q : Value → Shared → Prop} (R : SetT w s.heap a l) (room : l.length + 1 < scanBound)
    (k : ∀ h', Heap.SameBut a s.heap h' → SetT w h' a (if x ∈ l then l else x :: l) → Q .none { s with heap := h', toks := s.toks + 1 }) :
    wpAny (model P w) A (call (.builtin "set.add") [.ref a, .str x tk]) Q E s := by
  refine wpAny_call_entry F.slot_set_add (R.setOf (P := P)).typeIs F.entry_set_add ?_ (F.args_set_add_2 _ _)
  unfold Builtin.«set.add» Builtin.Frozenset.oneOther
  simp only [List.isEmpty_nil, bind_assoc]
  unfold Builtin.Frozenset.addrOf setAdd
  refine wpAny_bind (wpAny_pure ?_)
  try dsimp only
  refine wpAny_bind (wpAny_pure ?_)
  try dsimp only
  refine wpAny_bind (wpAny_holding (wpAny_bind ((PySem.strKind P w).pyHash (strKind_is P w x tk) ?_)))
  refine addT_hashed (s := { s with toks := s.toks + 1 }) R room fun h' sb r => ?_
  show wpAny _ _ (ret Value.none) _ _ _
  exact wpAny_pure ⟨_, rfl, k h' sb r⟩
theorem setT_fresh {h : Heap} (ho : h.get? a = some (setE w)) : SetT w h a [] :=
  ⟨_, #[], 0, _, ho, ⟨rfl, rfl, rfl⟩, rfl, (fun e he => by simp at he), (by simp), .nil, (by decide), (by rfl), List.Pairwise.nil, by
    show _ ∨ (!w.params.followText "set-order") = true
    cases w.params.followText "set-order" <;> simp⟩
end
/-! ### over the layer -/
def setTO (w : World) (a : Addr) (l : List Str) : HO := .ext fun h => SetT w h a l
section
variable {X : Cx} {pins : List (Addr × Obj)} {σ : L2.St} {H : Hp} {s : Shared}
theorem setTO_ok {P : Program} {w : World} {h : Heap} {a : Addr} {l : List Str} (R : SetT w h a l) : ObjOk P w H h a (setTO w a l) := by
  have ⟨o, _, _, _, ho, _⟩ := R
  exact ⟨R, ⟨o, ho⟩, fun h1 h2 p k => SetT.at p k⟩
theorem setTO_get {a : Addr} {l : List Str} (I : Inv X pins σ H s) (ha : H a = some (setTO X.w a l)) : SetT X.w s.heap a l := (I.hok a _ ha).1
/-- one more of whatever kind is put into the set at D -/
abbrev AddW := Addr → V → Hp → (Hp → Prop) → Prop
def AddR (P : Program) (w : World) (r : AddW) : Prop := ∀ (X : Cx), X.prog = P → X.w = w → ∀ (pins : List (Addr × Obj)) (σ : L2.St) (H : Hp) (s : Shared) (D : Addr) (y : V) (u : Value) (N : Hp → Prop) (Q E : Value → Shared → Prop), Inv X pins σ H s → RelV y u → r D y H N →
  (∀ v s' H', Inv X pins σ H' s' → N H' → Q v s') → wpAny (model X.prog X.w) X.A (call (.builtin "set.add") [.ref D, u]) Q E s
def rAddTx (w : World) : AddW := fun D y H N => ∃ z l, y = .str z ∧ H D = some (setTO w D l) ∧ l.length + 1 < scanBound ∧ N (upd H D (setTO w D (if z ∈ l then l else z :: l)))
theorem addR_text {P : Program} {w : World} : AddR P w (rAddTx w) := by
  intro X hp hw pins σ H s D y u N Q E I ry h k
  subst hp hw
  obtain ⟨z, l, rfl, hD, hl, hn⟩ := h
  obtain ⟨t, rfl⟩ := ry
  refine addT (setTO_get I hD) hl fun h' sb new => ?_
  have there : ∃ v, h'.get? D = some v := by
    have ⟨o, _, _, _, ho, _⟩ := new
    exact ⟨o, ho⟩
  exact k _ _ _ (I.write (e := D) (t' := s.toks + 1) (by rw [hD]; trivial) (.inl rfl) (fun b v hb hv => (sb.2 b hb).trans hv) there (setTO_ok new)) hn
/-- {elt for target in iter if ..}: D the new set, o what stands there at first -/
def tScG (r : AddW) (o0 : Addr → HO) (wi : L2.TI) (g : TG) (tt : TT) (te : TE) (vs : List Nat) : TE := fun σ H Q => wi σ H fun J H1 => ∀ D, H1 D = none → ∃ W : Nat → Nat → Hp → Prop, (∃ m, W 0 m (upd H1 D (o0 D))) ∧ ∀ i m H, W i m H →
  (J.stop i H ∧ Q (.ref D) H) ∨ (J.go i H ∧ ∃ Nx : Hp → Prop, (∀ H', Nx H' → ∃ m', m' < m ∧ W (i + 1) m' H') ∧ ∀ x H', J.yld i H x H' → g x (wipe σ vs) H' fun σ2 H2 => wipe σ2 vs = wipe σ vs ∧ tt σ2 H2 fun b H3 =>
    if b = true then te σ2 H3 fun y H4 => r D y H4 Nx else Nx H3)
/-- what is laid first -/
def FreshR (P : Program) (w : World) (o0 : Addr → HO) : Prop := ∀ (H : Hp) (h : Heap) (a : Addr), h.get? a = some (setE w) → ObjOk P w H h a (o0 a)
theorem fresh_text {P : Program} {w : World} : FreshR P w fun a => setTO w a [] := fun H h a e => setTO_ok (setT_fresh e)
theorem pe_scG {r : AddW} {o0 : Addr → HO} {elt tg iter : Expr} {ifs : List Expr} {scope : Scope} {own : List (Str × Nat)} {pos : Pos} {wi : L2.TI} {g : TG} {tt : TT} {te : TE} (ar : AddR X.prog X.w r) (fr : FreshR X.prog X.w o0) (hc : X.calm = true) (hN : X.N.Nodup) (hi : PI X tg iter wi)
    (ok : BlkOk X.N X.env.scope scope own) (hg : ∀ (s : Shared) (H : Hp) (C : Addr) (cl : List (Str × Addr)) (fp : List Addr), PG (X.blk s H scope (compEnvC scope cl C X.env) fp) tg g)
    (ht : ∀ (s : Shared) (H : Hp) (C : Addr) (cl : List (Str × Addr)) (fp : List Addr), PTs (X.blk s H scope (compEnvC scope cl C X.env) fp) ifs tt)
    (he : ∀ (s : Shared) (H : Hp) (C : Addr) (cl : List (Str × Addr)) (fp : List Addr), PE (X.blk s H scope (compEnvC scope cl C X.env) fp) elt te) (hs : ∀ x, foldedSetIterable iter X.env x = pure x := by intro _; rfl) :
    PE X (.SetComp elt [⟨tg, iter, ifs, 0⟩] scope pos) (tScG r o0 wi g tt te (own.map (·.2))) := by
  refine ⟨fun pins s σ H Q I h => ?_⟩
  rw [PpSet.eval_SetComp]
  have cells : ∀ y ∈ scope.names, y.2 = .free → ∃ c, X.env.cells.lookup y.1 = some c := fun y hy e => (ok.free y hy e).elim (fun k => I.ok.has _ (.inl k)) fun k => I.ok.has _ (.inr k)
  refine wpAny_comprehension_free rfl hs (closure_ok cells) ok.kind (fun y hy e => by rw [ok.uniq y hy, e]) (thn (hi.run pins s σ H _ I h) fun xv s1 hx => thn hx fun itv s2 h2 => ?_)
  obtain ⟨it, fp, tn, J, H2, rfl, I2, T, st2, f2, q⟩ := h2
  refine PpSet.newSet_ok (newEnv_comp ?_)
  have hDn : H2 s2.heap.objs.size = none := I2.hok.fresh (Nat.le_refl _)
  obtain ⟨W, ⟨m0, w0⟩, turn⟩ := q s2.heap.objs.size hDn
  generalize hD : s2.heap.objs.size = D at *
  generalize hs3 : ({ s2 with heap := s2.heap.push (setE X.w) } : Shared) = s3
  have h3 : s3.heap = s2.heap.push (setE X.w) := by rw [← hs3]
  have e3 : s3.heap.get? D = some (setE X.w) := by
    rw [h3, ← hD]
    exact Heap.get?_push_size _ rfl
  have I3 : Inv X pins σ (upd H2 D (o0 D)) s3 := by
    rw [← hs3]
    refine I2.laid (t' := s2.toks) (fun b o e => Heap.get?_push_of_some _ e) (Nat.le_of_eq hD) (fr _ _ _ ?_)
    rw [← hD]
    exact Heap.get?_push_size _ rfl
  have lo : ∀ b ∈ fp, b < s2.heap.objs.size := fun b hb => by
    obtain ⟨o, e, _⟩ := T.obj _ _ st2 b hb
    exact Heap.lt_size e
  have f3 : ∀ b ∈ fp, FpOk X pins (upd H2 D (o0 D)) b ∧ b < s3.heap.objs.size := fun b hb => by
    have hlt := lo b hb
    constructor
    · refine ⟨?_, (f2 b hb).2⟩
      rw [upd_ne (by rw [← hD]; exact Nat.ne_of_lt hlt)]
      exact (f2 b hb).1
    · rw [h3, Heap.size_push]
      exact Nat.lt_succ_of_lt hlt
  have st3 : tn 0 s3.heap := T.keep _ _ _ st2 fun b _ o e => by
    rw [h3]
    exact Heap.get?_push_of_some _ e
  have I4 := block_start I3 ok hN f3
  have pg := hg s3 (upd H2 D (o0 D)) s3.heap.objs.size (cellsFrom (s3.heap.objs.size + 1) scope.names (cloFrom X.env.cells scope.names [])) fp
  have pt := ht s3 (upd H2 D (o0 D)) s3.heap.objs.size (cellsFrom (s3.heap.objs.size + 1) scope.names (cloFrom X.env.cells scope.names [])) fp
  have pe := he s3 (upd H2 D (o0 D)) s3.heap.objs.size (cellsFrom (s3.heap.objs.size + 1) scope.names (cloFrom X.env.cells scope.names [])) fp
  show codeAny _ _ (.compStart (.SetComp elt [⟨tg, iter, ifs, 0⟩] scope pos) 0 (.ref it) (.ref D) (compEnvC scope (cellsFrom (s3.heap.objs.size + 1) scope.names (cloFrom X.env.cells scope.names [])) s3.heap.objs.size X.env)) _ _
  have none_fp : ∀ b ∈ fp, (upd H2 D (o0 D)) b = none := fun b hb => (f3 b hb).1.1
  generalize hce : compEnvC scope (cellsFrom (s3.heap.objs.size + 1) scope.names (cloFrom X.env.cells scope.names [])) s3.heap.objs.size X.env = ce at I4 pg pt pe ⊢
  have cL : ce.locals = s3.heap.objs.size := by
    subst hce
    rfl
  generalize hH3 : upd H2 D (o0 D) = H3 at I3 I4 pg pt pe w0 none_fp f3
  generalize hs4 : ({ s3 with heap := pushCells (s3.heap.push { cls := .type "dict", data := .dict #[] }) scope.names } : Shared) = s4 at I4 ⊢
  have st4 : tn 0 s4.heap := T.keep _ _ _ st3 fun b _ o e => by
    rw [← hs4]
    exact pushCells_keeps _ _ _ _ (Heap.get?_push_of_some _ e)
  have own_fp : ∀ {σ' : L2.St} {H' : Hp} {z : Shared}, Inv (X.blk s3 H3 scope ce fp) [] σ' H' z → (∀ b ∈ fp, H' b = none) → ∀ b ∈ fp, FpOk (X.blk s3 H3 scope ce fp) [] H' b := fun {σ' H' z} I' hn b hb =>
    ⟨hn b hb, (I'.ok.exf b hb).1, I'.ok.exfs b hb, .inl hb, fun x c e => (I'.ok.exf b hb).2 x c e, fun p hp => absurd (show p ∈ ([] : List (Addr × Obj)) ++ [] from hp) (by simp)⟩
  refine PpSet.codeAny_compStart_set ?loop (T.self X.A 0 _ _ _ st4 ?loop)
  case loop =>
    refine PpSet.compLoopS_any (fun n z => ∃ i H', Inv (X.blk s3 H3 scope ce fp) [] (wipe σ (own.map (·.2))) H' z ∧ tn i z.heap ∧ (∀ b ∈ fp, H' b = none) ∧ W i n H') ?_ m0 ⟨0, H3, I4, st4, none_fp, w0⟩
    rintro n s5 ⟨i, H5, I5, st5, n5, w5⟩
    rcases turn i n H5 w5 with ⟨stop, qq⟩ | ⟨go, Nx, hNx, step⟩
    · refine thnF (T.done (X.blk s3 H3 scope ce fp) rfl rfl rfl hc i [] s5 _ H5 (fun _ _ => False) I5 (own_fp I5 n5) st5 stop) fun r s6 ⟨hr, I6⟩ => ?_
      subst hr
      have I7 : Inv X pins σ H5 s6 := I3.call' (ch := fp) I6.os I6.base I6.hok I6.bare fun b hb => ⟨(f3 b hb).1.2.2.2.1, (f3 b hb).1.2.1, (f3 b hb).1.2.2.2.2.1, (f3 b hb).1.2.2.2.2.2⟩
      have nC : H5 s3.heap.objs.size = none := by
        have z : H5 ce.locals = none := I6.free
        rwa [cL] at z
      obtain ⟨m, hn, _⟩ := I6.loc
      have hn : s6.heap.Ns ce.locals m := hn
      rw [cL] at hn
      refine ⟨m, hn, fun h'' sb => ?_⟩
      obtain ⟨a0, a1, a2, a3, a4, a5⟩ := I3.fpOk (Nat.le_refl _) nC
      exact ⟨.ref D, H5, I7.turned (t' := s6.toks) (fun b o hb e => (sb.2 b hb).trans e) a0 a1 a3 a4 a5, rfl, qq⟩
    · refine thnF (T.item (X.blk s3 H3 scope ce fp) rfl rfl rfl hc i [] s5 _ H5 (fun _ _ => False) I5 (own_fp I5 n5) st5 go) fun o6 s6 ⟨u, hr, h6⟩ => ?_
      subst hr
      refine thnF h6 fun _ s7 ⟨x, H7, I7, r7, y7, st7, n7⟩ => ?_
      have I8 := I7.pinned (own_fp I7 n7) (T.obj _ _ st7)
      refine thnF (pg.run _ s7 _ H7 x u _ I8 r7 (step x H7 y7)) fun _ s8 ⟨σ8, H8, I9, hw8, q8⟩ => ?_
      refine thnF (pt.run _ s8 σ8 H8 _ I9 q8) fun b s9 ⟨H9, I10, q9⟩ => ?_
      have fin : ∀ {z : Shared} {H' : Hp}, Inv (X.blk s3 H3 scope ce fp) ([] ++ pinsAt fp s7.heap) σ8 H' z → Nx H' →
          ∃ m, m < n ∧ ∃ i H', Inv (X.blk s3 H3 scope ce fp) [] (wipe σ (own.map (·.2))) H' z ∧ tn i z.heap ∧ (∀ b ∈ fp, H' b = none) ∧ W i m H' := fun {z H'} I' nx => by
        obtain ⟨m', hm, w'⟩ := hNx H' nx
        have pin : ∀ b ∈ fp, ∀ o, s7.heap.get? b = some o → z.heap.get? b = some o ∧ H' b = none := fun b hb o e =>
          let y := I'.pin (b, o) (List.mem_append_right _ (List.mem_append_right _ (mem_pinsAt hb e)))
          ⟨y.1, y.2.1⟩
        have hl : (wipe σ (own.map (·.2))).length = σ8.length := by rw [← hw8, wipe_length]
        refine ⟨m', hm, i + 1, H', (I'.unpinned (pins := [])).weak hl (fun j v e => ?_), T.keep _ _ _ st7 fun b hb o e => (pin b hb o e).1, fun b hb => ?_, w'⟩
        · rw [← hw8] at e
          exact (wipe_some e).1
        · obtain ⟨o, e, _⟩ := T.obj _ _ st7 b hb
          exact (pin b hb o e).2
      cases b with
      | false =>
        simp only [Bool.false_eq_true, if_false] at q9 ⊢
        exact fin I10 q9
      | true =>
        simp only [if_true] at q9 ⊢
        refine thnF (pe.run _ s9 σ8 H9 _ I10 q9) fun z s10 ⟨yv, H10, I11, r11, nx⟩ => ?_
        exact ar (X.blk s3 H3 scope ce fp) rfl rfl _ _ _ _ D yv z Nx _ _ I11 r11 nx fun _ s11 H11 I12 n12 => fin I12 n12
/-- sorted(found), fewer than 64 texts -/
def rSortT (w : World) : List V → Hp → VK → Prop := fun vs H Q => ∃ (a : Addr) (l : List Str), vs = [V.ref a] ∧ H a = some (setTO w a l) ∧ l.length < 64 ∧
  ∀ (ys : List Str) (p : Addr), ys.Perm l → PyProof.Rows.sortedS ys = true → H p = none → Q (.ref p) (upd H p (.lst (ys.map V.str)))
theorem cr_sortT (hc : X.calm = true) : CallR X (.builtin "sorted") (rSortT X.w) := by
  intro pins s σ H vs us Q I r h
  obtain ⟨a, l, rfl, ha, h64, q⟩ := h
  rw [Vals.ref1 r]
  obtain ⟨o, es, ep, t, ho, hx, hd, g, pm, nd, hb, hf, hr, hl⟩ := setTO_get I ha
  refine Calls.call_function_entry PyProof.Rows.kind_sorted PyProof.Rows.plain_sorted PyProof.Rows.entry_sorted (PyProof.Rows.args_sorted1 _) ?_
  unfold Builtin.«sorted»
  refine wpAny_bind (m := checkCount "sorted" 1 1 _) (wpAny_pure ?_)
  refine wpAny_bind (collect_set (A := X.A.in1) (I.ok.hd hc) ⟨o, ho, hx.1, hd⟩ hf hb hr hl fun s1 out k1 hz g1 o1 po => ?_)
  have el : ∀ v ∈ out, ∃ x t, v = Value.str x t := fun v hv => by
    obtain ⟨e, he, rfl⟩ := List.mem_map.mp (po.mem_iff.mp hv)
    obtain ⟨x, t, rfl⟩ := g e he
    exact ⟨x, t, rfl⟩
  have hS := PyProof.Rows.strsAre_map out el
  have pl : (out.map PyProof.Rows.strOf).Perm l := by
    have z := po.map PyProof.Rows.strOf
    rw [List.map_map] at z
    refine z.trans (.trans (.of_eq (List.map_congr_left fun e he => ?_)) pm)
    obtain ⟨x, t, rfl⟩ := g e he
    rfl
  have ol : out.length = l.length := by
    rw [← pl.length_eq, List.length_map]
  have I1 : Inv X pins σ H s1 := I.call' (ch := []) o1 (Un.kept k1) (I.hok.kept k1) (by rw [g1]; exact I.bare) (fun _ z => nomatch z)
  refine wpAny_bind (wpAny_newList ?_ (by rw [ol, sizeLine_eq]; omega))
  have hL : (s1.heap.push (PyProof.Rows.seqObj "list" out.toArray 0)).get? s1.heap.objs.size = some (PyProof.Rows.seqObj "list" out.toArray 0) := Heap.get?_push_size _ rfl
  refine wpAny_bind (wpAny_holding (wpAny_call_entry PyProof.Rows.slot_list_sort ⟨_, hL, rfl⟩ PyProof.Rows.entry_list_sort
    (PyProof.Rows.list_sort_treeK PyProof.Rows.strKind_oneLt hL hS.keysOf (fun v₁ v₂ rest e => PyProof.Rows.keyKind_strs (by rw [← e]; exact hS)) (by rw [ol]; exact h64) fun st' hp hs => ⟨_, rfl, ?_⟩) (PyProof.Rows.args_list_sort _)))
  obtain ⟨ys, y1, y2, y3⟩ := PyProof.Rows.sorted_out_str hS hp hs
  obtain ⟨e', he'⟩ := PyProof.Rows.sortedHeap_at (vs := out) (out := (PyProof.Rows.arrOf st').map (·.2)) hL
  have py := y2.trans pl
  have hlen : (ys.map V.str).length ≤ sizeLine := by
    rw [List.length_map, py.length_eq]
    exact Nat.le_trans (Nat.le_of_lt h64) (by decide)
  refine wpAny_pure ⟨_, rfl, .ref s1.heap.objs.size, upd H s1.heap.objs.size (.lst (ys.map V.str)), I1.laid (t' := s1.toks) (fun b u e => ?_) (Nat.le_refl _)
    (show ObjOk X.prog X.w _ _ _ (.lst (ys.map V.str)) from ⟨hlen, ((PyProof.Rows.arrOf st').map (·.2)).toList, e', vals_of_strs y1, by rw [Array.toArray_toList]; exact he'⟩), rfl, q ys _ py y3 (I1.hok.fresh (Nat.le_refl _))⟩
  have hb' : b < s1.heap.objs.size := Heap.lt_size e
  rw [PyProof.Rows.sortedHeap_old (Nat.ne_of_lt hb') (by rw [PyProof.Rows.size_push']; exact Nat.lt_succ_of_lt hb')]
  exact Heap.get?_push_of_some _ e
end
end TL

set_option Elab.async false
set_option linter.all false
set_option maxRecDepth 100000
set_option maxHeartbeats 4000000
/-! TLz: set(text), len of it; sorted set comprehensions of texts by data; stars in tuples; x in a tuple; == with a written tuple; zip of lists. -/
namespace TL
open PySem PySem.Spec PyProof.Rows L2
variable [XW]
/-! ### set(x), x a text -/
section
variable {P : Program} {w : World} {A : Around} {E : Value → Shared → Prop} {s : Shared}
/-- the signs of a text, each once -/
def Signs (x : Str) (l : List Str) : Prop := ∀ z, z ∈ l ↔ ∃ c ∈ x.cps.toList, z = ⟨#[c]⟩
theorem fill_text {I : Addr} {fp wr : List Addr} {n : Nat} {Pv : Nat → Value → Prop} {St : Nat → Heap → Prop} {R : Result → Shared → Prop} (W : Walks P w A.in1 I fp wr n Pv St) (S : Addr) (hSf : S ∉ fp)
    (x : Str) (hn : n = x.cps.size) (hb : x.cps.size + 1 < scanBound) (hv : ∀ i v, Pv i v → ∃ c u, x.cps[i]? = some c ∧ v = Value.str ⟨#[c]⟩ u) :
    ∀ (k i : Nat) (s : Shared) (l : List Str), n - i = k → i ≤ n → St i s.heap → l.length ≤ i → SetT w s.heap S l → (∀ z, z ∈ l ↔ ∃ c ∈ x.cps.toList.take i, z = ⟨#[c]⟩) →
      (∀ s' l, Moved (S :: wr) (fun a b => b = a) s s' → SetT w s'.heap S l → Signs x l → l.length ≤ n → R (.ok (.ret .none)) s') →
      codeAny (model P w) A (.builtin "set.update.loop" ⟨[.ref S, .ref I], []⟩) R s := by
  have WS := W.toS
  have hSw : S ∉ wr := fun h => hSf (W.sub _ h)
  intro k
  induction k with
  | zero =>
    intro i s l hk hi hst hl hS hm hR
    have e : i = n := by omega
    subst e
    refine codeAny_builtin F.entry_set_update_loop ?_
    rw [Around.under_plainId F.plain_set_update_loop _]
    show wpAny _ A.in1 (pyNext (.ref I) >>= _) _ _ s
    refine wpAny_bind (WS.done s _ _ hst fun s' mv => ?_)
    show wpAny _ A.in1 (ret Value.none) _ _ s'
    refine wpAny_pure (hR s' l (mv.mono fun b hb => List.mem_cons_of_mem _ hb) (hS.at fun o e => mv.heap S o hSw e) (fun z => ?_) hl)
    rw [hm z, List.take_of_length_le (by rw [Array.length_toList, hn]; exact Nat.le_refl _)]
  | succ k ih =>
    intro i s l hk hi hst hl hS hm hR
    have lt : i < n := by omega
    refine codeAny_builtin F.entry_set_update_loop ?_
    rw [Around.under_plainId F.plain_set_update_loop _]
    show wpAny _ A.in1 (pyNext (.ref I) >>= _) _ _ s
    refine wpAny_bind (WS.item i s _ _ lt hst fun v s' hP hst' mv => ?_)
    obtain ⟨c, u, hc, rfl⟩ := hv i v hP
    have hS' : SetT w s'.heap S l := hS.at fun o e => mv.heap S o hSw e
    show wpAny _ A.in1 (holding [Value.str ⟨#[c]⟩ u] (setAdd S (.str ⟨#[c]⟩ u)) >>= _) _ _ s'
    refine wpAny_bind (wpAny_holding ?_)
    unfold setAdd
    refine wpAny_holding (wpAny_bind ((PySem.strKind P w).pyHash (strKind_is P w ⟨#[c]⟩ u) ?_))
    refine addT_hashed (s := { s' with toks := s'.toks + 1 }) hS' (by omega) fun h' sb S2 => ?_
    have len2 : (if (⟨#[c]⟩ : Str) ∈ l then l else ⟨#[c]⟩ :: l).length ≤ i + 1 := by
      split
      · omega
      · rw [List.length_cons]
        omega
    have mem2 : ∀ z, z ∈ (if (⟨#[c]⟩ : Str) ∈ l then l else ⟨#[c]⟩ :: l) ↔ ∃ d ∈ x.cps.toList.take (i + 1), z = ⟨#[d]⟩ := fun z => by
      have e : x.cps.toList.take (i + 1) = x.cps.toList.take i ++ [c] := by
        rw [List.take_add_one, Array.getElem?_toList, hc]
        rfl
      rw [e]
      have base : (∃ d ∈ x.cps.toList.take i ++ [c], z = ⟨#[d]⟩) ↔ z ∈ l ∨ z = ⟨#[c]⟩ := by
        rw [hm z]
        constructor
        · rintro ⟨d, hd, rfl⟩
          rcases List.mem_append.mp hd with hd | hd
          · exact .inl ⟨d, hd, rfl⟩
          · rw [List.mem_singleton.mp hd]
            exact .inr rfl
        · rintro (⟨d, hd, rfl⟩ | rfl)
          · exact ⟨d, List.mem_append_left _ hd, rfl⟩
          · exact ⟨c, List.mem_append_right _ (List.mem_singleton.mpr rfl), rfl⟩
      rw [base]
      split
      · rename_i hin
        exact ⟨.inl, fun z => z.elim id fun e => e ▸ hin⟩
      · rw [List.mem_cons]
        exact Or.comm
    refine wpAny_pure ⟨plainId_quiet F.plain_set_update_loop _, ih (i + 1) _ _ (by omega) lt (WS.frame _ s' _ _ hst' (Nat.le_succ _) fun b hb o e => ?_) len2 S2 mem2 fun s'' l2 m2 S3 g3 n3 => ?_⟩
    · rw [sb.2 b (fun h : b = S => hSf (by rw [← h]; exact hb))]
      exact e
    · refine hR s'' l2 (Moved.trans WS.gtrans ((mv.mono fun b hb => List.mem_cons_of_mem _ hb).then_heap (Nat.le_succ _) fun b o hb e => ?_) m2) S3 g3 n3
      rw [sb.2 b (fun h : b = S => hb (by rw [h]; exact List.mem_cons_self))]
      exact e
end
section
variable {P : Program} {w : World} {A : Around} {E : Value → Shared → Prop} {s : Shared}
set_option maxHeartbeats 4000000 in
theorem init_text {x : Str} {u : Tok} (calm : A.handled = none) (hb : x.cps.size + 1 < scanBound) :
    codeAny (model P w) A (.call (.builtin "set.__init__") ⟨[.ref s.heap.objs.size, .str x u], []⟩)
      (wants (fun r s2 => r = .none ∧ ∃ (g : Heap) (k : Nat) (l : List Str), s2 = { s with heap := g, toks := k } ∧ SetT w g s.heap.objs.size l ∧ Signs x l ∧ l.length ≤ x.cps.size ∧ ∀ b o, s.heap.get? b = some o → g.get? b = some o) E)
      { s with heap := s.heap.push (setE w) } := by
  have e0 : (s.heap.push (setE w)).get? s.heap.objs.size = some (setE w) := Heap.get?_push_size _ rfl
  have ty : Shared.TypeIs { s with heap := s.heap.push (setE w) } (.ref s.heap.objs.size) "set" := ⟨_, e0, rfl⟩
  refine codeAny_call_builtin F.called_set.init.plain F.entry_set_init (check_set_init_1 ty ?_)
  have f1 := F.sub_str_set
  have f2 := F.sub_str_frozenset
  have f3 : (Value.type "str" == Value.type "dict") = false := by decide
  unfold Builtin.«set.__init__» noKeywords Builtin.Frozenset.updateFrom
  generalize hp : pyIter = PI
  wp_walk
  subst hp
  refine wpAny_pyIter_str fun o St hW st0 => ?_
  refine wpAny_bind (wpAny_runValue ?_)
  have c3 : A.in1.in1.handled = none := by simp [calm]
  have n1 : (s.heap.push (setE w)).objs.size = s.heap.objs.size + 1 := Heap.size_push ..
  have n3 : s.heap.objs.size ∉ [(s.heap.push (setE w)).objs.size] := by
    rw [n1]
    intro z
    exact absurd (List.mem_singleton.mp z) (Nat.ne_of_lt (Nat.lt_succ_self _))
  refine fill_text (hW _ c3) s.heap.objs.size n3 x rfl hb (fun i v h => h) (x.cps.size - 0) 0 _ [] (by omega) (Nat.zero_le _) st0 (Nat.le_refl _) (setT_fresh (Heap.get?_push_of_some _ e0)) (by simp) ?_
  intro s3 l mv S g3 hl
  obtain ⟨g, gs, dr, tk, oo⟩ := s3
  obtain rfl : gs = s.gens := mv.gens
  obtain rfl : dr = s.drawn := mv.drawn
  obtain rfl : oo = s.os := mv.os
  show wpAny _ _ _ _ _ _
  refine wpAny_pure ?_
  show wpAny _ _ (ret Value.none) _ _ _
  refine wpAny_pure ⟨rfl, g, tk, l, rfl, S, g3, hl, fun b ob e => ?_⟩
  have b0 : b < s.heap.objs.size := Heap.lt_size e
  refine mv.heap b ob (fun z => ?_) (Heap.get?_push_of_some _ (Heap.get?_push_of_some _ e))
  rcases List.mem_cons.mp z with z | z
  · exact absurd z (Nat.ne_of_lt b0)
  · have z := List.mem_singleton.mp z
    rw [n1] at z
    exact absurd z (Nat.ne_of_lt (Nat.lt_succ_of_lt b0))
/-- set(x) -/
theorem set_of_text {x : Str} {u : Tok} {Q : Value → Shared → Prop} (calm : A.handled = none) (hb : x.cps.size + 1 < scanBound)
    (k : ∀ (g : Heap) (t : Nat) (l : List Str), SetT w g s.heap.objs.size l → Signs x l → l.length ≤ x.cps.size → (∀ b o, s.heap.get? b = some o → g.get? b = some o) → Q (.ref s.heap.objs.size) { s with heap := g, toks := t }) :
    wpAny (model P w) A (call (.type "set") [.str x u]) Q E s := by
  obtain ⟨m1, m2, m3⟩ := F.called_set.mro; have m4 := F.called_set.made; have m5 := F.called_set.sub
  refine wpAny_call (codeAny_of_tree ?tree); case tree =>
  show wpAny _ _ (callAny (.type "set") ⟨[.str x u], []⟩) _ _ _
  refine wpAny_pure ⟨Code.quiet_builtin _ (by decide +kernel), codeAny_builtin F.entry_type_call ?body⟩; case body =>
  rw [Around.under_plain (weight_type_call_type "set" [.str x u] []) rfl]; have m6 := F.called_set.notType; have m7 := F.called_set.canCreate; have m8 := F.typeCall_set_1 (.str x u)
  repeat (any_goals first | assumption | wp_step)
  refine codeAny_mono (code_set_led1 (.str x u) (E := E) (Q₁ := fun v s1 => v = .ref s.heap.objs.size ∧ s1 = { s with heap := s.heap.push (setE w) }) ⟨rfl, rfl⟩) ?after
  case after =>
    rintro (e | f) s1 hr
    · exact hr
    · cases f with
      | ret v =>
        obtain ⟨rfl, rfl⟩ := hr
        have e0 : (s.heap.push (setE w)).get? s.heap.objs.size = some (setE w) := Heap.get?_push_size _ rfl
        have ty : Shared.TypeIs { s with heap := s.heap.push (setE w) } (.ref s.heap.objs.size) "set" := ⟨_, e0, rfl⟩
        have i1 := F.called_set.init.lookup; have i2 := F.called_set.init.bind (.ref s.heap.objs.size)
        repeat (any_goals first | assumption | wp_step)
        refine codeAny_mono (init_text (E := E) (by first | exact calm | simp [calm]) hb) ?done
        case done =>
          rintro (e | f) s2 hr2
          · exact hr2
          · cases f with
            | ret r =>
              obtain ⟨rfl, g, t, l, rfl, S, g3, hl, kept⟩ := hr2
              repeat (any_goals first | assumption | wp_step)
              exact k g t l S g3 hl kept
            | _ => exact hr2.elim
      | _ => exact hr.elim
end
section
variable {X : Cx}
def rSetS (w : World) : List V → Hp → VK → Prop := fun xs H Q => ∃ x : Str, xs = [V.str x] ∧ x.cps.size < 4000 ∧ ∀ (p : Addr) (l : List Str), H p = none → Signs x l → l.Nodup → Q (.ref p) (upd H p (setTO w p l))
theorem cr_setS (hc : X.calm = true) : CallR X (.type "set") (rSetS X.w) := by
  intro pins s σ H xs us Q I r h
  obtain ⟨x, rfl, hl, q⟩ := h
  obtain ⟨u, rfl, t, rfl⟩ := L2.vals1 r
  refine set_of_text (I.ok.hd hc) (by unfold scanBound; omega) fun g k l S g3 _ kept => ?_
  have free : H s.heap.objs.size = none := I.hok.fresh (Nat.le_refl _)
  have nd : l.Nodup := by
    obtain ⟨_, _, _, _, _, _, _, _, _, nd, _⟩ := S
    exact nd
  exact ⟨.ref _, _, I.laid (t' := k) kept (Nat.le_refl _) (setTO_ok S), rfl, q _ l free g3 nd⟩
/-- len(found) -/
def rLenT (w : World) : List V → Hp → VK → Prop := fun xs H Q => ∃ (a : Addr) (l : List Str), xs = [V.ref a] ∧ H a = some (setTO w a l) ∧ Q (.int (l.length : Nat)) H
theorem cr_lenT : CallR X (.builtin "len") (rLenT X.w) := by
  intro pins s σ H xs us Q I r h
  obtain ⟨a, l, rfl, ha, q⟩ := h
  rw [Vals.ref1 r]
  obtain ⟨o, es, ep, t, ho, hx, hd, g, pm, nd, hb, hf, hr, hl⟩ := setTO_get I ha
  have sz : es.size = l.length := by rw [← pm.length_eq, List.length_map, Array.length_toList]
  refine call_len_set ho hx hd hf ?_ ?_
  · unfold scanBound at hb
    omega
  · rw [sz]
    exact ⟨.int _, H, (I.tok _).tok _, ⟨_, rfl⟩, q⟩
end
/-! ### by data -/
section
variable {K : PySem.W.Frag} {ta tb te : TE} {ua ub ue : DTE}
/-- len(set(x)) -/
def dLenSet (u : DTE) : DTE := fun δ R => u δ fun d δ1 => match d with
  | .str x => x.cps.size < 4000 ∧ ∀ l, Signs x l → l.Nodup → R (.int (l.length : Nat)) δ1
  | _ => False
theorem re_lenSet {w : World} (ha : RE K ta ua) : RE K (tCB (rLenT w) (tCons (tCB (rSetS w) (tCons ta tNil)) tNil)) (dLenSet ua) := by
  intro c σ G H δ Q R E h k
  refine ha c σ G H δ _ _ E h fun d δ1 v G1 H1 h1 E1 e1 r => ?_
  cases d <;> first
    | exact False.elim h1
    | skip
  rename_i x
  obtain ⟨hl, h1⟩ := h1
  have e := r.str_of
  subst e
  refine ⟨x, rfl, hl, fun p l hp g nd => ?_⟩
  have A1 : Al G1 H1 G1 (upd H1 p (setTO w p l)) := Al.tmp E1.ex hp
  exact ⟨p, l, rfl, upd_same, k _ δ1 _ _ _ (h1 l g nd) (E1.al A1) (e1.trans A1.g) (.int _)⟩
/-- the turns of a set comprehension -/
def scW (vs : List Nat) (g : DTG) (t : DTT) (u : DTE) (R : List Str → List Sl → Prop) : List PyData → List Str → List Sl → Prop
  | [], acc, δ => R acc δ
  | d :: r, acc, δ => g d (wipeS δ vs) fun δ1 => t δ1 fun b δ2 => if b = true then u δ2 fun y δ3 => (match y with
    | .str z => acc.length < 4000 ∧ scW vs g t u R r (acc ++ [z]) (wipeS δ3 vs)
    | _ => False) else scW vs g t u R r acc (wipeS δ2 vs)
/-- sorted({..}), of texts -/
def dSortSc (w : DTI) (g : DTG) (t : DTT) (u : DTE) (vs : List Nat) : DTE := fun δ R => w δ fun ds δ1 => scW vs g t u (fun acc δ' => (∀ l : List Str, l.Nodup → (∀ z, z ∈ l ↔ z ∈ acc) → l.length < 64) ∧
  ∀ ms : List Str, PyProof.Rows.sortedS ms = true → ms.Nodup → (∀ z, z ∈ ms ↔ z ∈ acc) → R (.list (ms.map PyData.str)) δ') ds [] δ1
theorem strs_rpD {G : Hp} : ∀ ms : List Str, RpAll K G (ms.map V.str) (ms.map PyData.str)
  | [] => .nil
  | z :: r => .cons (.str z) (strs_rpD r)
section
variable {wi : L2.TI} {uw : DTI} {g : TG} {ug : DTG} {js vs : List Nat} {tt : TT} {ut : DTT}
theorem re_sortSc {w : World} (hw : RI K wi uw) (hg : RG K g ug js) (ht : RT K tt ut) (he : RE K te ue) (hj : ∀ j ∈ js, j ∈ vs) : RE K (tCB (rSortT w) (tCons (tScG (rAddTx w) (fun a => setTO w a []) wi g tt te vs) tNil)) (dSortSc uw ug ut ue vs) := by
  intro c σ G H δ Q R E h k
  refine hw c σ G H δ _ _ E h fun ds δ1 J G1 H1 h1 E1 e1 Y => ?_
  intro D hD
  have hn := hid_new E1 hD
  refine ⟨fun i m H => ∃ G δ acc l, EnvOk K { c with hid := (D, setTO w D l) :: c.hid } G H σ δ ∧ Ex G1 G ∧ l.Nodup ∧ (∀ z, z ∈ l ↔ z ∈ acc) ∧ l.length ≤ acc.length ∧ i ≤ ds.length ∧ m = ds.length - i ∧
    scW vs ug ut ue (fun acc δ' => (∀ l : List Str, l.Nodup → (∀ z, z ∈ l ↔ z ∈ acc) → l.length < 64) ∧ ∀ ms : List Str, PyProof.Rows.sortedS ms = true → ms.Nodup → (∀ z, z ∈ ms ↔ z ∈ acc) → R (.list (ms.map PyData.str)) δ') (ds.drop i) acc δ,
    ⟨ds.length, G1, δ1, [], [], E1.hide (ob := setTO w D []) hD (E1.new0 hD), Ex.refl _, .nil, fun _ => Iff.rfl, Nat.le_refl _, Nat.zero_le _, rfl, h1⟩, ?_⟩
  rintro i m H2 ⟨G2, δ2, acc, l, E2, e2, nd, hm, hll, hi, rfl, h2⟩
  by_cases hlt : i < ds.length
  · have hd : ds[i]? = some ds[i] := List.getElem?_eq_getElem hlt
    rw [List.drop_eq_getElem_cons hlt] at h2
    obtain ⟨hgo, hy⟩ := Y.go G2 H2 i _ e2 E2.ex hd
    refine .inr ⟨hgo, fun H' => ∃ G δ acc l, EnvOk K { c with hid := (D, setTO w D l) :: c.hid } G H' σ δ ∧ Ex G1 G ∧ l.Nodup ∧ (∀ z, z ∈ l ↔ z ∈ acc) ∧ l.length ≤ acc.length ∧
      scW vs ug ut ue (fun acc δ' => (∀ l : List Str, l.Nodup → (∀ z, z ∈ l ↔ z ∈ acc) → l.length < 64) ∧ ∀ ms : List Str, PyProof.Rows.sortedS ms = true → ms.Nodup → (∀ z, z ∈ ms ↔ z ∈ acc) → R (.list (ms.map PyData.str)) δ') (ds.drop (i + 1)) acc δ,
      fun H' ⟨G', δ', acc', l', a1, a2, a3, a4, a5, a6⟩ => ⟨ds.length - (i + 1), by omega, G', δ', acc', l', a1, a2, a3, a4, a5, hlt, rfl, a6⟩, fun x H3 hx => ?_⟩
    obtain ⟨G3, A, rx⟩ := hy x H3 hx
    have E3 := (E2.al A).wipe vs
    refine hg _ (wipe σ vs) G3 H3 _ x _ _ _ E3 rx h2 fun σ4 δ4 h4 E4 l4 s4 => ?_
    rw [wipe_length] at l4
    have o4 : ∀ i, i ∉ vs → σ4[i]? = σ[i]? := fun i hi => by
      rw [s4 i fun z => hi (hj i z), wipe_get, if_neg fun z => hi z.1]
    refine ⟨wipe_eq l4 o4, ?_⟩
    have back : ∀ {cc : Cf} {G H : Hp} {δ : List Sl}, EnvOk K cc G H σ4 δ → EnvOk K cc G H σ (wipeS δ vs) := fun {cc G H δ} E => by
      have z := E.wipe vs
      rw [wipe_eq l4 o4] at z
      refine z.other (by rw [wipe_length]) fun i hi => ?_
      rw [wipe_get, if_neg fun z => hi z.1]
    refine ht _ σ4 G3 H3 δ4 _ _ E4 h4 fun b δ5 G5 H5 h5 E5 e5 => ?_
    have e15 : Ex G1 G5 := (e2.trans A.g).trans e5
    cases b with
    | false => exact ⟨G5, wipeS δ5 vs, acc, l, back E5, e15, nd, hm, hll, h5⟩
    | true =>
      refine he _ σ4 G5 H5 δ5 _ _ E5 h5 fun y δ6 v G6 H6 h6 E6 e6 r6 => ?_
      cases y <;> first
        | exact False.elim h6
        | skip
      rename_i z
      obtain ⟨q1, q2⟩ := E6.hd D _ List.mem_cons_self
      have h6 : acc.length < 4000 ∧ scW vs ug ut ue _ (ds.drop (i + 1)) (acc ++ [z]) (wipeS δ6 vs) := h6
      refine ⟨z, l, r6.str_of, q1, by unfold scanBound; omega, G6, wipeS δ6 vs, acc ++ [z], _, (back E6).grow hn, e15.trans e6, ?_, fun y => ?_, ?_, h6.2⟩
      · split
        · exact nd
        · rename_i hz
          exact List.nodup_cons.mpr ⟨hz, nd⟩
      · rw [List.mem_append, List.mem_singleton, ← hm y]
        split
        · rename_i hz
          exact ⟨.inl, fun q => q.elim id fun e => e ▸ hz⟩
        · rw [List.mem_cons]
          exact Or.comm
      · rw [List.length_append, List.length_singleton]
        split
        · omega
        · rw [List.length_cons]
          omega
  · have ei : i = ds.length := by omega
    subst ei
    rw [List.drop_length] at h2
    obtain ⟨h64, h2⟩ := h2
    obtain ⟨q1, q2⟩ := E2.hd D _ List.mem_cons_self
    refine .inl ⟨Y.stop G2 H2 e2 E2.ex, D, l, rfl, q1, h64 l nd hm, fun ys p py sy hp => ?_⟩
    have A2 := Al.new (o := .lst (ys.map V.str)) E2.ex hp
    refine k _ δ2 _ _ _ (h2 ys sy (py.nodup_iff.mpr nd) fun z => (py.mem_iff).trans (hm z)) (E2.unhide.al A2) ((e1.trans e2).trans A2.g) (.lst upd_same (strs_rpD ys))
end
/-- a slice of a tuple, the whole one too -/
def dSlA : R3D := fun d lo hi R => match d with
  | .tuple ds => R (.tuple (cutP ds lo hi))
  | _ => False
theorem rsl_tupA : RSl K (rSlA K) dSlA := by
  intro G H x d lo hi Q R e r h k
  cases d <;> first
    | exact False.elim h
    | skip
  rename_i ds
  obtain ⟨a, xs, rfl, h1, q1⟩ := r.tup_of
  refine ⟨a, xs, rfl, .inl (.inl (e _ _ h1)), fun hw => ?_, fun _ p hp => ?_⟩
  · rw [q1.len] at hw
    have e1 : cutP ds lo hi = ds := by
      unfold cutP
      rw [hw.1, hw.2, List.drop_zero, Nat.sub_zero, List.take_length]
    have h : R (.tuple (cutP ds lo hi)) := h
    rw [e1] at h
    exact k _ _ G H h (Al.refl e) (.tup h1 q1)
  · have A := Al.new (o := .tup (cutV xs lo hi)) e hp
    exact k _ _ _ _ h A (.tup upd_same ((cut_rp q1 lo hi).up A.g))
/-- *e in a display -/
def dStar (u : DTE) (ur : DTA) : DTA := fun δ R => u δ fun d δ1 => match d with
  | .list ds => ur δ1 fun es δ2 => R (ds ++ es) δ2
  | .tuple ds => ur δ1 fun es δ2 => R (ds ++ es) δ2
  | _ => False
theorem ra_star {tr : TA} {ur : DTA} (ha : RE K te ue) (hr : RA K tr ur) : RA K (StX.tStar K te tr) (dStar ue ur) := by
  intro c σ G H δ Q R E h k
  refine ha c σ G H δ _ _ E h fun d δ1 v G1 H1 h1 E1 e1 r1 => ?_
  cases d <;> first
    | exact False.elim h1
    | skip
  · obtain ⟨a, xs, rfl, q1, q2⟩ := r1.lst_of
    refine ⟨a, xs, rfl, .inr (.inl (.inl (E1.ex _ _ q1))), ?_⟩
    exact hr c σ G1 H1 δ1 _ _ E1 h1 fun es δ2 vs G2 H2 h2 E2 e2 r2 => k _ δ2 _ G2 H2 h2 E2 (e1.trans e2) (RpAll.app (q2.up e2) r2)
  · obtain ⟨a, xs, rfl, q1, q2⟩ := r1.tup_of
    refine ⟨a, xs, rfl, .inl (.inl (.inl (E1.ex _ _ q1))), ?_⟩
    exact hr c σ G1 H1 δ1 _ _ E1 h1 fun es δ2 vs G2 H2 h2 E2 e2 r2 => k _ δ2 _ G2 H2 h2 E2 (e1.trans e2) (RpAll.app (q2.up e2) r2)
/-- x in a tuple -/
def rInDT (K : PySem.W.Frag) (neg : Bool) : R2 := fun x y H Q => ∃ d ds, Dp K H x d ∧ Dp K H y (.tuple ds) ∧ SeqAt.shaped d = true ∧ SeqAt.shaped (.tuple ds) = true ∧ Q (.bl (if neg = true then !(ds.any fun z => PyData.eqv z d) else ds.any fun z => PyData.eqv z d)) H
def dInTup (neg : Bool) : R2D := fun a b R => match b with
  | .tuple ds => SeqAt.shaped a = true ∧ SeqAt.shaped (.tuple ds) = true ∧ R (.bool (if neg = true then !(ds.any fun z => PyData.eqv z a) else ds.any fun z => PyData.eqv z a))
  | _ => False
theorem ro_inTup (neg : Bool) : RO K (rInDT K neg) (dInTup neg) := by
  intro G H x y d1 d2 Q R e r1 r2 h k
  cases d2 <;> first
    | exact False.elim h
    | skip
  rename_i ds
  exact ⟨d1, ds, (r1.up e).dp _ _ (SeqAt.canLay_of_shaped h.1), (r2.up e).dp _ _ (SeqAt.canLay_of_shaped h.2.1), h.1, h.2.1, k _ _ G H h.2.2 (Al.refl e) (.bl _)⟩
/-- == with a written thing -/
def dEqC (u : DTE) (d0 : PyData) (neg : Bool) : DTE := fun δ R => u δ fun d δ1 => SeqAt.shaped d = true ∧ R (.bool (if neg = true then !(PyData.eqv d d0) else PyData.eqv d d0)) δ1
theorem re_eqC {r : R2} {v0 : V} {d0 : PyData} (neg : Bool) (ha : RE K ta ua) (hr : ∀ x H Q d, Dp K H x d → SeqAt.shaped d = true → Q (.bl (if neg = true then !(PyData.eqv d d0) else PyData.eqv d d0)) H → r x v0 H Q) :
    RE K (tOp r ta (tC v0)) (dEqC ua d0 neg) := by
  intro c σ G H δ Q R E h k
  refine ha c σ G H δ _ _ E h fun d δ1 v G1 H1 h1 E1 e1 r1 => ?_
  exact hr v H1 _ d ((r1.up E1.ex).dp _ _ (SeqAt.canLay_of_shaped h1.1)) h1.1 (k _ δ1 _ G1 H1 h1.2 E1 e1 (.bl _))
/-- two texts held against each other -/
def dNeT : R2D := fun a b R => match a, b with
  | .str x, .str y => R (.bool (!(x == y)))
  | _, _ => False
theorem ro_neT : RO K rNe dNeT := by
  intro G H x y d1 d2 Q R e r1 r2 h k
  cases d1 <;> cases d2 <;> first
    | exact False.elim h
    | skip
  have e1 := r1.str_of
  have e2 := r2.str_of
  subst e1 e2
  refine ⟨rfl, ?_⟩
  rw [dec_str]
  exact k _ _ G H h (Al.refl e) (.bl _)
/-- zip of two lists -/
def zipL (xs ys : List PyData) : List PyData := (xs.zip ys).map fun p => .tuple [p.1, p.2]
def diZL (ua ub : DTE) : DTI := fun δ R => ua δ fun d1 δ1 => ub δ1 fun d2 δ2 => match d1, d2 with
  | .list x, .list y => R (zipL x y) δ2
  | _, _ => False
theorem ri_zipL (ha : RE K ta ua) (hb : RE K tb ub) : RI K (iZip K (tCons ta (tCons tb tNil))) (diZL ua ub) := by
  intro c σ G H δ Q R E h k
  refine ha c σ G H δ _ _ E h fun d1 δ1 v1 G1 H1 h1 E1 e1 r1 => ?_
  refine hb c σ G1 H1 δ1 _ _ E1 h1 fun d2 δ2 v2 G2 H2 h2 E2 e2 r2 => ?_
  cases d1 <;> cases d2 <;> first
    | exact False.elim h2
    | skip
  rename_i x y
  obtain ⟨a, xs, rfl, a1, a2⟩ := (r1.up e2).lst_of
  obtain ⟨b, ys, rfl, b1, b2⟩ := r2.lst_of
  have at1 : ∀ {G3 H3 : Hp}, Ex G2 G3 → Ex G3 H3 → SqL K H3 a xs ∧ SqL K H3 b ys := fun e3 e4 => ⟨.inl (.inl (e4 _ _ (e3 _ _ a1))), .inl (.inl (e4 _ _ (e3 _ _ b1)))⟩
  have sl := at1 (Ex.refl _) E2.ex
  refine ⟨a, b, xs, ys, rfl, sl.1, sl.2, k _ δ2 _ G2 H2 h2 E2 (e1.trans e2) ⟨fun G3 H3 z1 z2 => ?_, fun G3 H3 i d z1 z2 hd => ?_⟩⟩
  · refine ⟨xs, ys, (at1 z1 z2).1, (at1 z1 z2).2, ?_⟩
    have l1 := a2.len
    have l2 := b2.len
    unfold zipL
    rw [List.length_map, List.length_zip]
    omega
  · unfold zipL at hd
    rw [List.getElem?_map] at hd
    cases q : (x.zip y)[i]? with
    | none =>
      rw [q] at hd
      cases hd
    | some ch =>
      rw [q] at hd
      cases hd
      rw [List.getElem?_zip_eq_some] at q
      obtain ⟨qa, qb⟩ := q
      obtain ⟨u1, hu1, ru1⟩ := a2.get qa
      obtain ⟨u2, hu2, ru2⟩ := b2.get qb
      have sl := at1 z1 z2
      refine ⟨⟨xs, ys, u1, u2, sl.1, sl.2, hu1, hu2⟩, fun z H4 hy => ?_⟩
      obtain ⟨T, x', y', rfl, hT, rfl, hc, hd⟩ := hy
      have c1 := (hc xs sl.1).symm.trans hu1
      have c2 := (hd ys sl.2).symm.trans hu2
      cases c1
      cases c2
      have A := Al.new (o := .tup [u1, u2]) z2 hT
      exact ⟨_, A, .tup upd_same (.cons ((ru1.up z1).up A.g) (.cons ((ru2.up z1).up A.g) .nil))⟩
end
/-! ### rules by syntax -/
section
variable {X : Cx} {a b e : Expr} {es : List Expr} {ta tb te : TE} {ua ub ue : DTE} {tr : TA} {ur : DTA} {pos p p2 pk : Pos}
theorem op_inDT (neg : Bool) (hu : X.A.units + 65 < cLine) : OpR X (compareOp (if neg = true then .NotIn else .In)) (rInDT X.K neg) := by
  intro pins s σ H x y v u Q I rx ry h
  obtain ⟨d, ds, hd, he, sd, se, q⟩ := h
  obtain ⟨as, r1⟩ := Dp.reads I d x v hd rx
  obtain ⟨bs, r2⟩ := Dp.reads I (.tuple ds) y u he ry
  cases neg with
  | true => exact SeqAt.notIn_tuple_reads r2 r1 (SeqAt.canLay_of_shaped se) (SeqAt.canLay_of_shaped sd) (room_in_shaped sd hu) ⟨.bl _, H, I, rfl, q⟩
  | false => exact SeqAt.in_tuple_reads r2 r1 (SeqAt.canLay_of_shaped se) (SeqAt.canLay_of_shaped sd) (room_in_shaped sd hu) ⟨.bl _, H, I, rfl, q⟩
theorem da_star {sp_ : Pos} (ha : DE X e te ue) (hr : DA X es tr ur) (hs : starEach (.Starred e sp_ :: es) X.env = (true, eval e X.env) :: starEach es X.env := by rfl) : DA X (.Starred e sp_ :: es) (StX.tStar X.K te tr) (dStar ue ur) := ⟨StX.pa_star ha.pe hr.pa hs, ra_star ha.re hr.ra⟩
theorem de_lenSet (hm : X.mg "len" = none) (hm2 : X.mg "set" = none) (ha : DE X a ta ua) (hc : X.calm = true := by rfl) (hg : Gl X "len" := by rfl) (hg2 : Gl X "set" := by rfl)
    (hv2 : bootBuiltins "set" = some (.type "set") := by decide +kernel) (hs : starEach [a] X.env = (false, eval a X.env) :: starEach [] X.env := by rfl) (hpl : (backTo p2 (starEach [] X.env)).any (·.1) = false := by rfl)
    (hs2 : starEach [.Call (.Name "set" pk) [a] [] p2] X.env = (false, eval (.Call (.Name "set" pk) [a] [] p2) X.env) :: starEach [] X.env := by rfl) (hpl2 : (backTo pos (starEach [] X.env)).any (·.1) = false := by rfl) :
    DE X (.Call (.Name "len" p) [.Call (.Name "set" pk) [a] [] p2] [] pos) (tCB (rLenT X.w) (tCons (tCB (rSetS X.w) (tCons ta tNil)) tNil)) (dLenSet ua) :=
  ⟨pe_callB cr_lenT hg hm PySem.boot_len (pa_cons (pe_callTy (cr_setS hc) hg2 hm2 hv2 (pa_cons ha.pe pa_nil hs) (by decide) (by decide) hs hpl) pa_nil hs2) (by decide) (by decide) hs2 hpl2, re_lenSet ha.re⟩
theorem de_sortSc {elt tg iter : Expr} {ifs : List Expr} {scope : Scope} (own : List (Str × Nat)) {w : L2.TI} {uw : DTI} {g : TG} {ug : DTG} {js : List Nat} {tt : TT} {ut : DTT} (hm : X.mg "sorted" = none) (hc : X.calm = true) (hN : X.N.Nodup) (hi : DI X tg iter w uw) (ok : BlkOk X.N X.env.scope scope own)
    (hg : ∀ (s : Shared) (H : Hp) (C : Addr) (cl : List (Str × Addr)) (fp : List Addr), DG (X.blk s H scope (compEnvC scope cl C X.env) fp) tg g ug js) (ht : ∀ (s : Shared) (H : Hp) (C : Addr) (cl : List (Str × Addr)) (fp : List Addr), DTs (X.blk s H scope (compEnvC scope cl C X.env) fp) ifs tt ut)
    (he : ∀ (s : Shared) (H : Hp) (C : Addr) (cl : List (Str × Addr)) (fp : List Addr), DE (X.blk s H scope (compEnvC scope cl C X.env) fp) elt te ue) (hj : ∀ j ∈ js, j ∈ own.map (·.2)) (hs : ∀ x, foldedSetIterable iter X.env x = pure x := by intro _; rfl)
    (hgl : Gl X "sorted" := by rfl) (hv : bootBuiltins "sorted" = some (.builtin "sorted") := by decide +kernel)
    (hs2 : starEach [.SetComp elt [⟨tg, iter, ifs, 0⟩] scope p2] X.env = (false, eval (.SetComp elt [⟨tg, iter, ifs, 0⟩] scope p2) X.env) :: starEach [] X.env := by rfl) (hpl2 : (backTo pos (starEach [] X.env)).any (·.1) = false := by rfl) :
    DE X (.Call (.Name "sorted" p) [.SetComp elt [⟨tg, iter, ifs, 0⟩] scope p2] [] pos) (tCB (rSortT X.w) (tCons (tScG (rAddTx X.w) (fun a => setTO X.w a []) w g tt te (own.map (·.2))) tNil)) (dSortSc uw ug ut ue (own.map (·.2))) :=
  ⟨pe_callB (cr_sortT hc) hgl hm hv (pa_cons (pe_scG addR_text fresh_text hc hN hi.pi ok (fun a b c d e => (hg a b c d e).pg) (fun a b c d e => (ht a b c d e).pt) (fun a b c d e => (he a b c d e).pe) hs) pa_nil hs2) (by decide) (by decide) hs2 hpl2,
   re_sortSc hi.ri (hg X.s_0 X.H_0 0 [] []).rg (ht X.s_0 X.H_0 0 [] []).rt (he X.s_0 X.H_0 0 [] []).re hj⟩
theorem di_zipL {elts : List Expr} {kk : Nat} {tpos : Pos} (hm : X.mg "zip" = none) (ha : DE X a ta ua) (hb : DE X b tb ub) (hg : Gl X "zip" := by rfl)
    (hs : starEach [a, b] X.env = (false, eval a X.env) :: starEach [b] X.env := by rfl) (hs2 : starEach [b] X.env = (false, eval b X.env) :: starEach [] X.env := by rfl) (hpl : (backTo pos (starEach [b] X.env)).any (·.1) = false := by rfl) :
    DI X (.Tuple elts kk tpos) (.Call (.Name "zip" p) [a, b] [] pos) (iZip X.K (tCons ta (tCons tb tNil))) (diZL ua ub) :=
  ⟨pi_zip hg hm (pa_cons ha.pe (pa_cons hb.pe pa_nil hs2) hs) hs hpl, ri_zipL ha.re hb.re⟩
/-- a module's name that stands for a written tuple -/
structure GDat (K : PySem.W.Frag) (mg : Str → Option Value) (x : Str) (a0 : Addr) (d : PyData) : Prop where
  at_ : mg x = some (.ref a0)
  sh : SeqAt.shaped d = true
  dp : ∀ H, Dp K H (.ref a0) d
theorem de_eqG {x : Str} {a0 : Addr} {d0 : PyData} (hu : X.A.units + 64 < cLine) (D : GDat X.K X.mg x a0 d0) (ha : DE X a ta ua) (hg : Gl X x := by rfl) (hd : (x == ("__debug__" : Str)) = false := by decide)
    (hm : lastMarks [CmpOp.Eq] [Expr.Name x p] = false := by first | rfl | exact nomark _) : DE X (.Compare a [.Eq] [.Name x p] pos) (tOp (rEqD X.K) ta (tC (.ref a0))) (dEqC ua d0 false) :=
  ⟨pe_cmpR (op_eqD hu) ha.pe (pe_glob hg D.at_ rfl hd) hm, re_eqC false ha.re fun v H Q d hd hs q => ⟨d, d0, hd, D.dp H, hs, D.sh, q⟩⟩
theorem dt_eqG {x : Str} {a0 : Addr} {d0 : PyData} (hu : X.A.units + 64 < cLine) (D : GDat X.K X.mg x a0 d0) (ha : DE X a ta ua) (hg : Gl X x := by rfl) (hd : (x == ("__debug__" : Str)) = false := by decide)
    (hm : lastMarks [CmpOp.Eq] [Expr.Name x p] = false := by first | rfl | exact nomark _) : DT X (.Compare a [.Eq] [.Name x p] pos) (tTest (tOp (rEqD X.K) ta (tC (.ref a0)))) (dTest (dEqC ua d0 false)) :=
  ⟨pt_cmpR (op_eqD hu) ha.pe (pe_glob hg D.at_ rfl hd) hm, rt_test (re_eqC false ha.re fun v H Q d hd hs q => ⟨d, d0, hd, D.dp H, hs, D.sh, q⟩)⟩
/-- a written tuple of one text -/
theorem gdat_one {K : PySem.W.Frag} {mg : Str → Option Value} {x z : Str} {a0 : Addr} {t : Tok} {n : Nat} (hm : mg x = some (.ref a0)) (hl : K.lookup a0 = some ⟨.type "tuple", none, .seq #[.str z t] n, #[]⟩) (hs : SeqAt.shaped (.tuple [.str z]) = true) : GDat K mg x a0 (.tuple [.str z]) :=
  ⟨hm, hs, fun H => .tup (.inr ⟨_, _, _, hl, rfl, rfl, by show 1 ≤ sizeLine; decide, .cons (show RelV (V.str z) (Value.str z t) from ⟨t, rfl⟩) .nil⟩) (.cons (.str z) .nil)⟩
end
end TL

set_option Elab.async false
set_option linter.all false
set_option maxRecDepth 100000
set_option maxHeartbeats 4000000
/-! TXa: errors of classes of one's own over any built-in error: stored into, made, thrown. -/
namespace TXE
open PySem PySem.W PySem.Spec PySem.Calls PyProof.Rows Builtin Builtin.ObjectAttr
section
variable {prog : Program} {w : World} {A : Around} {R : Result → Shared → Prop} {hp : Heap} {g : Array GenState} {d : Drawn} {t : Nat} {os : OsState} {K : Frag} {B : String} {bmB : List Value} {name : Str} {tk : Tok} {v : Value} {x C dx : Addr} {fv : Array Value}
theorem dict_cls (h : hasDictIn K C = true) : ∃ cd, clsIn K C = some cd ∧ cd.hasDict = true := any_some h
/-- the first field -/
theorem first_field (SF : StoreFacts B bmB "object.__setattr__" "object") (KX : K.In hp) (hx : hp.get? x = some { cls := .ref C, data := .fields fv }) (ov : excOver K C bmB = true) (hd : hasDictIn K C = true) (ht : takerIn K C name = some none)
    (hq : ∀ h' tk' dx, (∀ b o, b ≠ x → hp.get? b = some o → h'.get? b = some o) → hp.objs.size ≤ dx → dx ≠ x → h'.get? x = some { cls := .ref C, dict := some dx, data := .fields fv } →
      h'.Ns1 dx (fun y => if y = name then some v else none) → R (.ok (.ret .none)) ⟨h', g, d, tk', os⟩) :
    codeAny (model prog w) A (.call (.builtin "object.__setattr__") ⟨[.ref x, .str name tk, v], []⟩) R ⟨hp, g, d, t, os⟩ := by
  obtain ⟨cd, hcd, hh⟩ := dict_cls hd
  have inst : InstAt hp x { cls := .ref C, data := .fields fv } C none := ⟨hx, rfl, rfl, trivial⟩
  have hxs : x ≠ hp.objs.size := Nat.ne_of_lt (Heap.lt_size hx)
  have hcls : Looks (model prog w) hp (classData C) cd := looks_clsIn KX hcd
  refine osa_openX SF KX inst ov ht fun b => ?_
  show wpAny _ _ (storeInOwnDict (.ref x) (.ref C) (.str name tk) name v b) _ _ _
  rcases cd with ⟨nm, bs, mro, ns, qn, hd', sn, sb, ab, col, del⟩
  cases (show hd' = true from hh)
  unfold storeInOwnDict ownDictForStores
  repeat (first | with_reducible refine HandSPX.store_in_new ?_ ?_ | with_reducible refine wpAny_loadPart_at hx ?_ | with_reducible refine hcls.at ?_ | wp_step)
  · exact ⟨_, #[], _, (Heap.get?_update_ne _ _ _ _ hxs.symm).trans (Heap.get?_push_at rfl rfl), rfl, fun e he => absurd he (by simp), fun _ => rfl⟩
  · intro h2 tk2 ns2 sb2
    have hx1 : (hp.push { cls := .type "dict", data := .dict #[] }).get? x = some { cls := .ref C, data := .fields fv } := Heap.get?_push_of_some _ hx
    refine hq h2 tk2 hp.objs.size (fun b o hb ho => ?_) (Nat.le_refl _) hxs.symm ?_ ns2
    · rw [sb2.2 b (Nat.ne_of_lt (Heap.lt_size ho)), Heap.get?_update_ne _ _ _ _ hb]
      exact Heap.get?_push_of_some _ ho
    · rw [sb2.2 x hxs]
      exact Heap.get?_update_self _ hx1 rfl
/-- a further field -/
theorem next_field {m0 : Str → Option Value} {nl : List Str} (SF : StoreFacts B bmB "object.__setattr__" "object") (KX : K.In hp) (hx : hp.get? x = some { cls := .ref C, dict := some dx, data := .fields fv }) (hns : hp.Ns1 dx m0) (hw : Within m0 nl) (hz : nl.length ≤ 1000)
    (ov : excOver K C bmB = true) (hd : hasDictIn K C = true) (ht : takerIn K C name = some none)
    (hq : ∀ h' tk', (∀ b o, b ≠ dx → hp.get? b = some o → h'.get? b = some o) → h'.Ns1 dx (fun y => if y = name then some v else m0 y) → R (.ok (.ret .none)) ⟨h', g, d, tk', os⟩) :
    codeAny (model prog w) A (.call (.builtin "object.__setattr__") ⟨[.ref x, .str name tk, v], []⟩) R ⟨hp, g, d, t, os⟩ := by
  obtain ⟨cd, hcd, hh⟩ := dict_cls hd
  obtain ⟨oD, esD, epD, hoD, hdD, _⟩ := hns.count hw
  have inst : InstAt hp x { cls := .ref C, dict := some dx, data := .fields fv } C (some oD) := ⟨hx, rfl, rfl, hoD⟩
  have hcls : Looks (model prog w) hp (classData C) cd := looks_clsIn KX hcd
  refine osa_openX SF KX inst ov ht fun b => ?_
  show wpAny _ _ (storeInOwnDict (.ref x) (.ref C) (.str name tk) name v b) _ _ _
  rcases cd with ⟨nm, bs, mro, ns, qn, hd', sn, sb, ab, col, del⟩
  cases (show hd' = true from hh)
  unfold storeInOwnDict ownDictForStores
  repeat (first | with_reducible refine OEX.store_in_old hns hw hz ?_ | with_reducible refine wpAny_loadPart_at hx ?_ | with_reducible refine hcls.at ?_ | wp_step)
  intro h2 tk2 ns2 sb2
  exact hq h2 tk2 (fun b o hb ho => (sb2.2 b hb).trans ho) ns2
end
end TXE

set_option Elab.async false
set_option linter.all false
set_option maxRecDepth 100000
set_option maxHeartbeats 4000000
/-! TXm: an error's class called by the names of its fields. -/
namespace TXE
open PySem PySem.W PySem.Spec PyProof.Rows
/-- what makes errors whose built-in bases are bmB: the __new__ of one of these bases -/
structure NewOver (newId : String) (bmB : List Value) : Prop where
  ex : ∃ (B initId : String) (bmF : List Value), ExcBaseFacts B newId initId bmF ∧ bmB.contains (.type B) = true ∧ bmB.contains (.type "AttributeError") = false ∧ bmB.contains (.type "NameError") = false
theorem NewOver.of {newId : String} {bmB : List Value} (F : ExcBaseFacts B newId initId bmB) : NewOver newId bmB := ⟨B, initId, bmB, F, F.hasB, F.noAttr, F.noName⟩
open PySem PySem.W PySem.Spec PySem.Calls PyProof.Rows Builtin Builtin.ObjectAttr HandSPX
section
variable {M : Model} {A : Around} {E : Value → Shared → Prop} {h : Heap} {g : Array GenState} {d : Drawn} {t : Nat} {os : OsState}
variable {nm q : Str} {C N : Addr} {bs bm bmB : List Value} {hdct : Bool} {sn : List Str} {sub : List Value} {ab : Bool} {col : Option Bool} {dd : Option Addr} {k0 k1 k2 k3 k5 : Option Value} {newId : String}
theorem kw_check (F0 : NewOver newId bmB) (hT : ∀ X : String, bm.contains (.type X) = bmB.contains (.type X)) {rest : List Value} {kw : List (Str × Value)} {Q : Unit → Shared → Prop}
    (hC : h.get? C = some (excClassObj nm q C N bs bm hdct sn sub ab col dd k0 k1 k2 k3 k5 newId)) (hq : Q () ⟨h, g, d, t, os⟩) : wpAny M A (checkBuiltinCall newId ⟨.ref C :: rest, kw⟩) Q E ⟨h, g, d, t, os⟩ := by
  obtain ⟨B, initId, bmF, F, d1, d2, d3⟩ := F0.ex
  have c1 : (Value.ref C :: bm).contains (.type B) = true := by rw [List.contains_cons, hT, d1, Bool.or_true]
  have c2 := F.noStar
  simp only [checkBuiltinCall, F.newKind, F.newSplit, F.newRow]
  repeat (first | refine wpAny_loadPart_at hC ?_ | (refine wpAny_isSubtype_exc hC ?_; rw [c1]) | refine wpAny_staticBase_exc hC ?_ | refine wpAny_madeBy_exc hC ?_ | simp only [bne_self_eq_false, Bool.false_eq_true, if_false] | wp_step)
  exact hq
end
section
variable {prog : Program} {w : World} {A : Around} {E : Value → Shared → Prop} {R : Result → Shared → Prop} {h : Heap} {g : Array GenState} {d : Drawn} {t : Nat} {os : OsState}
variable {nm q : Str} {C N : Addr} {bs bm bmB : List Value} {hdct : Bool} {sn : List Str} {sub : List Value} {ab : Bool} {col : Option Bool} {dd : Option Addr} {k0 k1 k2 k3 k5 : Option Value} {newId : String}
theorem kw_new (F0 : NewOver newId bmB) (hT : ∀ X : String, bm.contains (.type X) = bmB.contains (.type X)) {rest : List Value} {kw : List (Str × Value)}
    (hC : h.get? C = some (excClassObj nm q C N bs bm hdct sn sub ab col dd k0 k1 k2 k3 k5 newId))
    (hq : R (.ok (.ret (.ref (h.objs.size + 1)))) ⟨(h.push { cls := .type "tuple", data := .seq rest.toArray }).push
      { cls := .ref C, data := .fields #[.ref h.objs.size, .none, .none, .none, .bool false, .none] }, g, d, t, os⟩) (hrest : rest.length ≤ sizeLine) :
    codeAny (model prog w) A (.builtin newId ⟨.ref C :: rest, kw⟩) R ⟨h, g, d, t, os⟩ := by
  obtain ⟨B, initId, bmF, F, d1, d2, d3⟩ := F0.ex
  have ends := F.ends
  have c1 : (Value.ref C :: bm).contains (.type B) = true := by rw [List.contains_cons, hT, d1, Bool.or_true]
  have c2 : (Value.ref C :: bm).contains (.type "AttributeError") = false := by rw [List.contains_cons, hT, d2]; rfl
  have c3 : (Value.ref C :: bm).contains (.type "NameError") = false := by rw [List.contains_cons, hT, d3]; rfl
  refine codeAny_builtinAt F.entry ?_
  unfold Builtin.«BaseException.__new__»
  refine PySem.wpAt_bind ?_
  show PySem.wpAt _ _ _ (stack >>= _) _ _ _
  refine PySem.wpAt_bind (PySem.wpAt_stack fun p below => PySem.wpAt_of_wpAny ?_)
  wp_walk
  refine PySem.wpAt_of_wpAny ?_
  rw [F.owner]
  repeat (first | with_reducible refine wpAny_madeHere_exc F.canon hC ?_ | with_reducible refine wpAny_loadPart_at hC ?_ | (with_reducible refine wpAny_isSubtype_exc hC ?_; first | rw [c1] | rw [c2] | rw [c3]) | wp_step)
  show R _ _
  rw [Heap.size_push]
  exact hq
/-- type.__call__ with names: BaseException.__new__ takes no heed of them, the own __init__ gets them -/
theorem kw_type_call (F0 : NewOver newId bmB) (hT : ∀ X : String, bm.contains (.type X) = bmB.contains (.type X)) {rest : List Value} {kw : List (Str × Value)} {fI : Addr} {Q : Fin → Shared → Prop}
    (hC : h.get? C = some (excClassObj nm q C N bs bm hdct sn sub ab col dd k0 k1 k2 k3 k5 newId))
    (hi : Looks (model prog w) h (typeLookup (.ref C) "__init__") (some (.ref fI))) (hb : ∀ self, Looks (model prog w) h (bindSpecial (.ref fI) self) (.ref fI, [self])) (hrest : rest.length ≤ sizeLine)
    (hq : codeAny (model prog w) A (.call (.ref fI) ⟨.ref (h.objs.size + 1) :: rest, kw⟩)
      (fun r s' => match r with | .ok (.ret v) => v = .none ∧ Q (.done (.ret (.ref (h.objs.size + 1)))) s' | .ok _ => False | .error e => E e s')
      ⟨(h.push (kdv_tup rest)).push (excO C h.objs.size), g, d, t, os⟩) :
    wpAny (model prog w) A (Builtin.«type.__call__» ⟨.ref C :: rest, kw⟩) Q E ⟨h, g, d, t, os⟩ := by
  repeat (first | with_reducible refine wpAny_loadPart_at hC ?_ | with_reducible refine wpAny_madeBy_exc hC ?_ | wp_step)
  refine codeAny_call_builtin_code (Code.quiet_builtin _ (by obtain ⟨_, _, _, F, _⟩ := F0.ex; exact F.quiet)) (kw_check F0 hT hC ?_)
  refine kw_new F0 hT hC ?_ hrest
  show wpAny _ _ _ _ _ _
  have keep : ∀ b o, h.get? b = some o → ((h.push (kdv_tup rest)).push (excO C h.objs.size)).get? b = some o := fun b o e => Heap.get?_push_of_some _ (Heap.get?_push_of_some _ e)
  have hC1 := keep _ _ hC
  have got : ((h.push (kdv_tup rest)).push (excO C h.objs.size)).get? (h.objs.size + 1) = some (excO C h.objs.size) := by heap_get
  have own : (Value.ref C :: bm).contains (.ref C) = true := by simp
  have i1 := hi.keeps keep
  have b1 := (hb (.ref (h.objs.size + 1))).keeps keep
  unfold isInstance
  repeat (first | with_reducible refine wpAny_loadPart_at got ?_ | (with_reducible refine wpAny_isSubtype_exc hC1 ?_; rw [own]) | wp_step)
  show wpAny _ _ (typeLookup (.ref C) _) _ _ _
  refine i1.at ?_
  refine wpAny_holding (wpAny_bind (b1.at ?_))
  refine wpAny_bind (wpAny_call (codeAny_mono hq fun r s' z => ?_))
  rcases r with e | (v | _ | _ | _) <;> first | exact z | exact z.elim | skip
  obtain ⟨rfl, z⟩ := z
  first
    | exact wpAny_pure (wpAny_pure z)
    | (wp_walk; exact z)
theorem kw_check_type {M : Model} {rest : List Value} {kw : List (Str × Value)} {Q : Unit → Shared → Prop} (hC : h.get? C = some (excClassObj nm q C N bs bm hdct sn sub ab col dd k0 k1 k2 k3 k5 newId))
    (hq : Q () ⟨h, g, d, t, os⟩) : wpAny M A (checkBuiltinCall "type.__call__" ⟨.ref C :: rest, kw⟩) Q E ⟨h, g, d, t, os⟩ := by
  have hs := tc_sub
  have hTy : (⟨h, g, d, t, os⟩ : Shared).TypeIs (.ref C) "type" := ⟨_, hC, rfl⟩
  simp only [checkBuiltinCall, tc_kind, tc_split]
  repeat (any_goals (first | assumption | with_reducible refine wpAny_loadPart_at hC ?_ | with_reducible refine wpAny_onRaise ?_ | with_reducible refine wpAny_map ?_ | wp_step))
theorem kw_call (F0 : NewOver newId bmB) (hT : ∀ X : String, bm.contains (.type X) = bmB.contains (.type X)) {rest : List Value} {kw : List (Str × Value)} {fI : Addr}
    (hC : h.get? C = some (excClassObj nm q C N bs bm hdct sn sub ab col dd k0 k1 k2 k3 k5 newId))
    (hi : Looks (model prog w) h (typeLookup (.ref C) "__init__") (some (.ref fI))) (hb : ∀ self, Looks (model prog w) h (bindSpecial (.ref fI) self) (.ref fI, [self])) (hrest : rest.length ≤ sizeLine)
    (hq : codeAny (model prog w) (A.under (.builtin "type.__call__" ⟨.ref C :: rest, kw⟩)) (.call (.ref fI) ⟨.ref (h.objs.size + 1) :: rest, kw⟩) (InitBack (h.objs.size + 1) R)
      ⟨(h.push (kdv_tup rest)).push (excO C h.objs.size), g, d, t, os⟩) :
    codeAny (model prog w) A (.call (.ref C) ⟨rest, kw⟩) R ⟨h, g, d, t, os⟩ := by
  have f1 := tc_lookup
  have f2 := tc_bind (.ref C)
  have hTy : (⟨h, g, d, t, os⟩ : Shared).TypeIs (.ref C) "type" := ⟨_, hC, rfl⟩
  refine codeAny_of_tree ?_
  show wpAny _ _ (callAny (.ref C) _) _ _ _
  repeat (any_goals (first | assumption | with_reducible refine wpAny_loadPart_at hC ?_ | wp_step))
  refine ⟨rfl, ?_⟩
  refine codeAny_call_builtin_at (Code.quiet_builtin _ (by decide +kernel)) entry_typeCall (kw_check_type hC (kw_type_call F0 hT hC hi hb hrest ?_))
  refine codeAny_mono hq fun r s' z => ?_
  rcases r with e | (v | _ | _ | _) <;> exact z
end
end TXE

set_option Elab.async false
set_option linter.all false
set_option maxRecDepth 100000
set_option maxHeartbeats 4000000
/-! TXb: own errors: their fields stored, read; made; asked by isinstance. -/
namespace TL
open PySem PySem.Spec PyProof.Rows L2

/-- what the written part says of an error's class -/
structure ErrC (K : PySem.W.Frag) (C : Addr) : Prop where
  base : ∃ (newId B : String) (bmB : List Value), TXE.NewOver newId bmB ∧ StoreFacts B bmB "object.__setattr__" "object" ∧ PySem.W.excInitIn K C bmB newId = true ∧ PySem.W.excOver K C bmB = true
  sa : PySem.W.findIn K (.ref C) "__setattr__" = some (some (.builtin "object.__setattr__"))
  hd : PySem.W.hasDictIn K C = true
  ex : PySem.W.subIn K (.ref C) (.type "BaseException") = some true
  ty : PySem.W.typeIn K (.ref C) = some (.type "type")
  kp : PySem.W.keepIn K (.ref C) = true
  ga : PySem.W.findIn K (.ref C) "__getattribute__" = some (some (.builtin "BaseException.__getattribute__"))
  gg : PySem.W.findIn K (.ref C) "__getattr__" = some none
  kl : PySem.W.findIn K (.ref C) "__class__" = some (some (.builtin "object.__class__"))
  kg : PySem.W.specialIn K (.builtin "object.__class__") "__get__" = some (some (.builtin "getset_descriptor.__get__"))
  kt : PySem.W.takesIn K (.builtin "object.__class__") = some true
  mo : PySem.W.mroIn K C (.type "object") = some true
section
variable {X : Cx} {pins : List (Addr × Obj)} {σ : L2.St} {H : Hp} {z : Shared} {a C dx : Addr} {f : Str} {y : V} {u : Value} {fs : List (Str × V)} {Q : Unit → Shared → Prop} {Ex0 : Value → Shared → Prop} {A : Around}
/-- self.f = y, where nothing was stored -/
theorem put_first (T : ErrC X.K C) (I : Inv X pins σ H z) (e : H a = some (exo a C none)) (hno : PySem.W.takerIn X.K C f = some none) (ry : RelV y u)
    (h : ∀ dx z', H dx = none → dx ≠ a → Inv X pins σ (upd (upd H dx (exd dx [(f, y)])) a (exo a C (some dx))) z' → Q () z') : wpAny (model X.prog X.w) A (setAttr (.ref a) f u) Q Ex0 z := by
  obtain ⟨newId, B, bmB, _, SF, _, ov⟩ := T.base
  obtain ⟨t1, ho⟩ := exo_at I.hok e
  obtain ⟨hp, gs, dr, tk, ops⟩ := z
  refine PySem.W.set_plain I.kIn (ox := { cls := .ref C, dict := none, data := .fields #[.ref t1, .none, .none, .none, .bool false, .none] }) (od := none) ⟨ho, rfl, rfl, trivial⟩ T.sa ?_
  refine TXE.first_field SF I.kIn ho ov T.hd hno fun h2 tk2 dx keep size ne hx ns => ?_
  have hnd : H dx = none := I.hok.fresh size
  have old : ∀ {b : Addr} {o : Obj}, hp.get? b = some o → b ≠ dx := fun {b o} q => Nat.ne_of_lt (Nat.lt_of_lt_of_le (Heap.lt_size q) size)
  have nota : ∀ {b : Addr}, H b = none → b ≠ a := fun {b} n w => by
    rw [w, e] at n
    cases n
  have U : Un X.fs [] H (upd (upd H dx (exd dx [(f, y)])) a (exo a C (some dx))) hp h2 := {
    keep := fun b o q n _ _ => keep b o (nota n) q
    slot := fun b o q n _ _ => ⟨o.slots, keep b o (nota n) q⟩
    free := fun b o q n _ => by rw [upd_ne (nota n), upd_ne (old q), n]
    there := fun b o q _ => by
      by_cases hb : b = a
      · subst hb
        exact ⟨_, hx⟩
      · exact ⟨o, keep b o hb q⟩
    tups := fun b xs q => by rw [upd_ne (at_ne e q exo_tup), upd_ne (ne_of_none q hnd), q]
    frzs := fun b o v q => by rw [upd_ne (at_ne e q exo_frz), upd_ne (ne_of_none q hnd), q]
    tbls := fun b ps q => ⟨#[], by rw [upd_ne (at_ne e q exo_tbl), upd_ne (ne_of_none q hnd), q, Array.append_empty]⟩ }
  refine h dx _ hnd ne (I.un (t' := tk2) U fun b o q => ?_)
  by_cases hb : b = a
  · subst hb
    rw [upd_same] at q
    cases q
    exact exo_ok hx
  rw [upd_ne hb] at q
  by_cases hd : b = dx
  · subst hd
    rw [upd_same] at q
    cases q
    exact exd_ok ns (relO_put (fs := []) ry fun _ => True.intro)
  rw [upd_ne hd] at q
  refine (I.hok b o q).stay (fun c v hc w => keep c v ?_ w) (fun c hc => ?_) fun c xs hc => ?_
  · rcases hc with rfl | hc
    · exact hb
    · exact at_ne e hc exo_own
  · rw [upd_ne (at_ne e hc exo_own), upd_ne (ne_of_none hc hnd), hc]
  · rw [upd_ne (at_ne e hc exo_tup), upd_ne (ne_of_none hc hnd), hc]
/-- self.f = y, where something was stored before -/
theorem put_next (T : ErrC X.K C) (I : Inv X pins σ H z) (e : H a = some (exo a C (some dx))) (ed : H dx = some (exd dx fs)) (hl : fs.length ≤ 900) (hno : PySem.W.takerIn X.K C f = some none) (ry : RelV y u)
    (h : ∀ z', Inv X pins σ (upd H dx (exd dx ((f, y) :: fs))) z' → Q () z') : wpAny (model X.prog X.w) A (setAttr (.ref a) f u) Q Ex0 z := by
  obtain ⟨newId, B, bmB, _, SF, _, ov⟩ := T.base
  obtain ⟨t1, ho⟩ := exo_at I.hok e
  obtain ⟨mA, ns, rel⟩ := exd_at I.hok ed
  have hw := within_of rel
  obtain ⟨hp, gs, dr, tk, ops⟩ := z
  obtain ⟨oD, _, _, hoD, _, _⟩ := ns.count hw
  refine PySem.W.set_plain I.kIn (ox := { cls := .ref C, dict := some dx, data := .fields #[.ref t1, .none, .none, .none, .bool false, .none] }) (od := some oD) ⟨ho, rfl, rfl, hoD⟩ T.sa ?_
  refine TXE.next_field SF I.kIn ho ns hw (by rw [List.length_map]; omega) ov T.hd hno fun h2 tk2 keep ns2 => ?_
  have hd : ∃ o, h2.get? dx = some o := by
    obtain ⟨o, _, _, w, _⟩ := ns2
    exact ⟨o, w⟩
  exact h _ (I.write (t' := tk2) (x := dx) (e := dx) (o := exd dx ((f, y) :: fs)) (by rw [ed]; exact True.intro) (.inl rfl) keep hd (exd_ok ns2 (relO_put ry rel)))
end
/-- self.f = e -/
def tFld (K : PySem.W.Frag) (f : Str) (to te : TE) : TS := fun D σ H => te σ H fun y H1 => to σ H1 fun x H2 => ∃ a C : Addr, x = .ref a ∧ ErrC K C ∧ PySem.W.takerIn K C f = some none ∧
  ((H2 a = some (exo a C none) ∧ ∀ dx, H2 dx = none → dx ≠ a → D.nx σ (upd (upd H2 dx (exd dx [(f, y)])) a (exo a C (some dx)))) ∨
    (∃ (dx : Addr) (fs : List (Str × V)), H2 a = some (exo a C (some dx)) ∧ H2 dx = some (exd dx fs) ∧ fs.length ≤ 900 ∧ D.nx σ (upd H2 dx (exd dx ((f, y) :: fs)))))
theorem ps_fld {X : Cx} {o e : Expr} {to te : TE} {f : Str} {p pos : Pos} (ho : PE X o to) (he : PE X e te) (hs : swapsWith e (some (.Attribute o f p)) pos.line X.env = pure false := by rfl) : PS X (.Assign [.Attribute o f p] e pos) (tFld X.K f to te) := by
  constructor
  intro pins z σ H D I h
  refine plainObj_wpAny_Assign_Attribute (thn (he.run pins z σ H _ I h) ?_) hs
  rintro v z1 ⟨y, H1, I1, r1, q1⟩
  refine thn (ho.run pins z1 σ H1 _ I1 q1) ?_
  rintro u z2 ⟨x, H2, I2, r2, a, C, rfl, T, hno, q⟩
  obtain rfl : u = Value.ref a := r2
  rcases q with ⟨ea, q⟩ | ⟨dx, fs, ea, ed, hl, q⟩
  · exact put_first T I2 ea hno r1 fun dx z' n ne J => ⟨σ, _, J, q dx n ne⟩
  · exact put_next T I2 ea ed hl hno r1 fun z' J => ⟨σ, _, J, q⟩
end TL

set_option Elab.async false
set_option linter.all false
set_option maxRecDepth 100000
set_option maxHeartbeats 4000000
/-! TXc: an error of a class of one's own is made; raise; defs that raise, by data. -/
namespace TL
open PySem PySem.Spec PyProof.Rows L2

/-- an own __init__ that stores each parameter in the field of its name -/
def spInit (C : Addr) (fields : List Str) : Sp := fun vs H Q _ => ∃ (a : Addr) (xs : List V), vs = .ref a :: xs ∧ xs.length = fields.length ∧ H a = some (exo a C none) ∧
  ∀ (dx : Addr) (H' : Hp), H dx = none → dx ≠ a → H' a = some (exo a C (some dx)) → H' dx = some (exd dx (fields.zip xs).reverse) → (∀ b, b ≠ a → b ≠ dx → H' b = H b) → Q .non H'
theorem RoomG.make {k : Nat} {A : Around} (r : RoomG (k + 1) A) (C : Addr) (us : List Value) (kw : List (Str × Value)) : RoomG k (A.under (.builtin "type.__call__" ⟨.ref C :: us, kw⟩)) := ⟨r.room.make C us kw, r.gd⟩
/-- C(..), its __init__ as above -/
def tMkE (C : Addr) (fields : List Str) (ta : TA) : L2.St → Hp → XK → Prop := fun σ H Q => ta σ H fun vs H1 => vs.length = fields.length ∧ vs.length ≤ 1000 ∧ ∀ d, H1 d = none → Q (.ref C) (some d) (upd H1 d (.xd (fields.zip vs).reverse))
/-- the class x of errors, at C, with these fields -/
structure KnE (P : Program) (w : World) (K : PySem.W.Frag) (mg : Str → Option Value) (base : Heap) (x : Str) (C : Addr) (fields : List Str) : Prop where
  ec : ErrC K C
  at_ : mg x = some (.ref C)
  ini : ∃ (fI : Addr) (fd : FuncData) (ps : List Str) (CX : CXT), PySem.W.findIn K (.ref C) "__init__" = some (some (.ref fI)) ∧ PySem.W.typeIn K (.ref fI) = some (.type "function") ∧ FnOkG P w K mg base CX 1 fI fd ps (spInit C fields) ∧ Binds K fd ps [] ∧
    ∀ X : Cx, X.prog = P → X.w = w → Passes CX X (fun _ _ _ => False)
section
variable {X : Cx} {x : Str} {C : Addr} {fields : List Str} {e : Expr} {es : List Expr} {ta : TA} {p pos : Pos}
theorem pmk_err {k : Nat} (kn : KnE X.prog X.w X.K X.mg X.base x C fields) (hr : RoomG (k + 2) X.A) (hg : Gl X x) (ha : PA X (e :: es) ta)
    (hdb : (x == ("__debug__" : Str)) = false := by decide) (he : starEach (e :: es) X.env = (false, eval e X.env) :: starEach es X.env := by rfl) (hpl : (backTo pos (starEach es X.env)).any (·.1) = false := by rfl) :
    PMk X (.Call (.Name x p) (e :: es) [] pos) (tMkE C fields ta) := by
  intro pins σ0 σ H Q I h
  obtain ⟨fI, fd, ps, CX, iC, tI, F1, hb, hx⟩ := kn.ini
  have T := kn.ec
  obtain ⟨newId, B, bmB, FB, _, qi, _⟩ := T.base
  refine wpAny_Call_Name_kw (ld_glob I hg kn.at_ ?_ hdb)
  refine PySem.W.callWith_K (h₀ := X.base) I.ok.mod.kin T.kp (thn (ha.run pos pins σ0 σ H _ I h) fun us z1 ⟨vs, H1, I1, r1, len, hz, q1⟩ => ⟨I1.kIn, ?_⟩) he hpl
  obtain ⟨hp, gs, dr, tk, ops⟩ := z1
  obtain ⟨nm, N, qn, bs, bm, hdct, sn, sub, ab, col, dd, k0, k1, k2, k3, k5, hC, hT⟩ := PySem.W.excInit_of I1.kIn qi
  have one : hp.objs.size ≤ hp.objs.size + 1 := Nat.le_succ _
  generalize hE : hp.objs.size + 1 = a at one
  have hn : H1 a = none := I1.hok.fresh one
  have keep : ∀ b o, hp.get? b = some o → ((hp.push (PySem.W.kdv_tup us)).push (PySem.HandSPX.excO C hp.objs.size)).get? b = some o := fun b o w => Heap.get?_push_of_some _ (Heap.get?_push_of_some _ w)
  have at_a : ((hp.push (PySem.W.kdv_tup us)).push (PySem.HandSPX.excO C hp.objs.size)).get? a = some (PySem.HandSPX.excO C hp.objs.size) := by
    subst hE
    heap_get
  have I2 : Inv X pins σ (upd H1 a (exo a C none)) ⟨(hp.push (PySem.W.kdv_tup us)).push (PySem.HandSPX.excO C hp.objs.size), gs, dr, tk, ops⟩ := I1.laid (t' := tk) (a := a) (o := exo a C none) keep one (exo_ok at_a)
  have rel : Vals (V.ref a :: vs) (Value.ref a :: us) := .cons rfl r1
  have hlen := Paired.length r1
  have hus : us.length ≤ sizeLine := by
    rw [← hlen, sizeLine_eq]
    omega
  have sp : spInit C fields (V.ref a :: vs) (upd H1 a (exo a C none))
      (fun v H2 => v = .non ∧ ∃ dx : Addr, H2 a = some (exo a C (some dx)) ∧ H2 dx = some (exd dx (fields.zip vs).reverse) ∧ H1 dx = none ∧ dx ≠ a ∧ ∀ b, b ≠ a → b ≠ dx → H2 b = H1 b) (fun _ _ _ => False) := by
    refine ⟨a, vs, rfl, len, upd_same, fun dx H2 n1 n2 e1 e2 e3 => ⟨rfl, dx, e1, e2, ?_, n2, fun b b1 b2 => ?_⟩⟩
    · rw [upd_ne n2] at n1
      exact n1
    · rw [e3 b b1 b2, upd_ne b1]
  have lenP : (Value.ref a :: us ++ []).length = ps.length := by
    rw [List.append_nil, ← F1.len _ _ _ _ sp, List.length_cons, List.length_cons, hlen]
  have bnd := hb _ (Value.ref a :: us) I2.kIn lenP
  rw [List.append_nil] at bnd
  subst hE
  refine wpAny_call (TXE.kw_call (kw := []) FB hT hC (PySem.W.looks_findIn I1.kIn iC) (fun self => PySem.W.bind_fn I1.kIn self tI) hus
    (codeAny_mono (F1.run _ X.stack _ _ ⟨Value.ref (hp.objs.size + 1) :: us, []⟩ (Value.ref (hp.objs.size + 1) :: us) _ _ (fun _ _ _ => False) ((hr.make C us []).mono (by omega)) (I2.env0.make C us []) bnd rel sp) ?_))
  rintro (er | fl) z' hq
  · exact hx X rfl rfl pins σ _ _ er z' I2 hq
  · cases fl with
    | ret u =>
      obtain ⟨v, H2, os2, bare2, un2, hok2, rv, rfl, dx, ea, ed, hd1, ne, q2⟩ := hq
      obtain ⟨h2, g2, d2, t2, os'⟩ := z'
      refine ⟨rv, mk_end (raises_own T.ex T.ty) I1 one keep un2 hok2 os2 bare2 ea ed hd1 ?_⟩
      have eq : upd (del H2 (hp.objs.size + 1)) dx (.xd (fields.zip vs).reverse) = upd H1 dx (.xd (fields.zip vs).reverse) := by
        funext b
        by_cases b2 : b = dx
        · subst b2
          rw [upd_same, upd_same]
        · rw [upd_ne b2, upd_ne b2]
          by_cases b1 : b = hp.objs.size + 1
          · subst b1
            rw [del_same, hn]
          · rw [del_ne b1, q2 b b1 b2]
      rw [eq]
      exact q1 dx hd1
    | next => exact False.elim hq
    | brk => exact False.elim hq
    | cont => exact False.elim hq
end
end TL

set_option Elab.async false
set_option linter.all false
set_option maxRecDepth 100000
set_option maxHeartbeats 4000000
/-! TXd: own __init__s; raise; defs that raise, by data. -/
namespace TL
open PySem PySem.Spec PyProof.Rows L2

/-- the defs that a class's suite holds -/
def inCls (n : Nat) : Stmt → Stmt
  | .ClassDef _ _ _ b _ _ _ _ _ _ p => b.getD n (.Pass p)
  | st => st
section
variable {P : Program} {w : World} {K : PySem.W.Frag} {mg : Str → Option Value} {base : Heap} {x qual : Str} {st : Stmt} {f C : Addr} {fd : FuncData} {s n n' : Str}
theorem init1 (F : Fun K x qual st f fd) (sc : FnScope [s, n] [s, n] (defScope st)) (T : ErrC K C) (hf : PySem.W.takerIn K C n = some none)
    (hps : ∀ (cdv : Value) (A : Around) (outer : List Env) (z : Shared) (H : Hp) (E : XK), PSs (cxOf CX0 P w K mg base [s, n] qual (defScope st) f cdv A outer z H E) (defBody st) (tFld K n (tVar 0) (tVar 1))) : FnOkG P w K mg base CX0 1 f fd [s, n] (spInit C [n]) := by
  refine fun_okG F sc (fun vs H Q E h => ?_) (fun cdv A outer z H vs Q E hr h => ⟨_, hps cdv A outer z H E, ?_⟩)
  · obtain ⟨a, xs, rfl, len, _⟩ := h
    rw [List.length_cons, len]
    rfl
  · obtain ⟨a, xs, rfl, len, ha, q⟩ := h
    match xs, len with
    | [y], _ =>
      refine ⟨y, rfl, .ref a, rfl, a, C, rfl, T, hf, .inl ⟨ha, fun dx h1 h2 => q dx _ h1 h2 upd_same ?_ fun b b1 b2 => ?_⟩⟩
      · rw [upd_ne h2, upd_same]
        rfl
      · rw [upd_ne b1, upd_ne b2]
theorem init2 (F : Fun K x qual st f fd) (sc : FnScope [s, n, n'] [s, n, n'] (defScope st)) (T : ErrC K C) (hf : PySem.W.takerIn K C n = some none) (hf' : PySem.W.takerIn K C n' = some none)
    (hps : ∀ (cdv : Value) (A : Around) (outer : List Env) (z : Shared) (H : Hp) (E : XK), PSs (cxOf CX0 P w K mg base [s, n, n'] qual (defScope st) f cdv A outer z H E) (defBody st) (tSeq (tFld K n (tVar 0) (tVar 1)) (tFld K n' (tVar 0) (tVar 2)))) : FnOkG P w K mg base CX0 1 f fd [s, n, n'] (spInit C [n, n']) := by
  refine fun_okG F sc (fun vs H Q E h => ?_) (fun cdv A outer z H vs Q E hr h => ⟨_, hps cdv A outer z H E, ?_⟩)
  · obtain ⟨a, xs, rfl, len, _⟩ := h
    rw [List.length_cons, len]
    rfl
  · obtain ⟨a, xs, rfl, len, ha, q⟩ := h
    match xs, len with
    | [y, y'], _ =>
      refine ⟨y, rfl, .ref a, rfl, a, C, rfl, T, hf, .inl ⟨ha, fun dx h1 h2 => ⟨y', rfl, .ref a, rfl, a, C, rfl, T, hf', .inr ⟨dx, [(n, y)], upd_same, by rw [upd_ne h2, upd_same], by show 1 ≤ 900; omega, ?_⟩⟩⟩⟩
      refine q dx _ h1 h2 ?_ ?_ fun b b1 b2 => ?_
      · rw [upd_ne (Ne.symm h2), upd_same]
      · rw [upd_same]
        rfl
      · rw [upd_ne b2, upd_ne b1, upd_ne b2]
theorem pass_cx0 : ∀ X : Cx, X.prog = P → X.w = w → Passes CX0 X (fun _ _ _ => False) := fun X _ _ => pass0
end
theorem zip_rev {α β : Type} : ∀ {l : List α} {m : List β}, l.length = m.length → (l.zip m).reverse = l.reverse.zip m.reverse
  | [], [], _ => rfl
  | a :: l, b :: m, h => by
    have h : l.length = m.length := Nat.succ.inj h
    rw [List.zip_cons_cons, List.reverse_cons, List.reverse_cons, List.reverse_cons, zip_rev h, List.zip_append (by rw [List.length_reverse, List.length_reverse, h])]
    rfl
theorem RpAll.rev {K : PySem.W.Frag} {G : Hp} : ∀ {vs : List V} {ds : List PyData}, RpAll K G vs ds → RpAll K G vs.reverse ds.reverse
  | _, _, .nil => .nil
  | _, _, .cons h r => by
    rw [List.reverse_cons, List.reverse_cons]
    exact (RpAll.rev r).app (.one h)
section
variable [XW] {K : PySem.W.Frag}
theorem EnvOk.core {c : Cf} {G H : Hp} {σ : L2.St} {δ : List Sl} (E : EnvOk K c G H σ δ) : EnvC K { c with hid := [] } G H σ δ where
  g0 := E.g0
  ex := E.ex
  fr := E.fr
  fs := E.fs
  tg := E.tg
  len := E.len
  sl := fun i s h => by
    have z := E.sl i s h
    cases s with
    | no => trivial
    | box b => trivial
    | dat d => exact z
    | scr d => exact z
    | own t d => exact z
  ap := E.ap
  hd := fun p o h => nomatch h
  bx := E.bx.like rfl rfl rfl fun _ h => nomatch h
/-- raise C(..) -/
def dRaise (C : Addr) (fields : List Str) (ua : DTA) : DTS := fun _ δ => ua δ fun ds δ1 => ds.length = fields.length ∧ fields.length ≤ 1000 ∧ XW.xr (errD C fields.reverse ds.reverse) δ1
theorem rs_raise {C : Addr} {fields : List Str} {ta : TA} {ua : DTA} (ha : RA K ta ua) : RS K (fun _ σ H => tMkE C fields ta σ H fun cls d H' => XW.w cls d σ H') (dRaise C fields ua) := by
  intro c σ G H δ D E EV h k
  refine ha c σ G H δ _ _ EV h fun ds δ1 vs G1 H1 h1 E1 e1 r1 => ?_
  obtain ⟨len, big, hx⟩ := h1
  have len1 := r1.len
  refine ⟨by rw [len1, len], by omega, fun d hd => ?_⟩
  have E2 := E1.al (Al.new (o := .xd (fields.zip vs).reverse) E1.ex hd)
  refine E2.xw _ _ _ _ _ _ _ hx E2.core (.some upd_same (zip_rev (by rw [len1, len])) (r1.rev.up (Ex.new (E1.ex.none hd))) ?_)
  rw [List.length_reverse, List.length_reverse, len]
theorem ds_raise {X : Cx} {x : Str} {C : Addr} {fields : List Str} {e : Expr} {es : List Expr} {ta : TA} {ua : DTA} {p pos pos' : Pos} {j : Nat} (hc : X.calm = true) (tk : Takes X XW.w) (kn : KnE X.prog X.w X.K X.mg X.base x C fields) (hr : RoomG j X.A) (hk : 2 ≤ j) (ha : DA X (e :: es) ta ua) (hg : Gl X x := by rfl)
    (hdb : (x == ("__debug__" : Str)) = false := by decide) (he : starEach (e :: es) X.env = (false, eval e X.env) :: starEach es X.env := by rfl) (hpl : (backTo pos (starEach es X.env)).any (·.1) = false := by rfl) :
    DS X (.Raise (some (.Call (.Name x p) (e :: es) [] pos)) none pos') (fun _ σ H => tMkE C fields ta σ H fun cls d H' => XW.w cls d σ H') (dRaise C fields ua) :=
  ⟨ps_raise hc tk (pmk_err (k := 0) (hr.mono hk) (kn := kn) hg ha.pa hdb he hpl), rs_raise ha.ra⟩
end

/-! ### defs that raise -/
abbrev DSx := List Sl → (PyData → List (List PyData) → Prop) → (PyData → List (List PyData) → Prop) → Prop
def spX (K : PySem.W.Frag) (S : DSx) : Sp := fun vs H Q E => ∃ (c : Cf) (as : List Sl) (R Xr : PyData → List (List PyData) → Prop), c.hid = [] ∧ c.H0 = H ∧ EnvC K c c.G0 H (vs.map some) as ∧ S as R Xr ∧
  (∀ d outs v G' H', R d outs → Fin K c G' H' outs → Rp K G' v d → Q v H') ∧ ∀ err outs cls d G' H', Xr err outs → Fin K c G' H' outs → ErrRp K G' cls d err → E cls d H'
theorem EnvC.fin {K : PySem.W.Frag} {c : Cf} {G H : Hp} {σ : L2.St} {δ : List Sl} {outs : List (List PyData)} (E : EnvC K c G H σ δ) (ho : OutsIn δ outs) : Fin K c G H outs :=
  ⟨E.g0, E.ex, E.fr, E.fs, E.tg, fun j cs hj => by
    obtain ⟨i, hi⟩ := ho j cs hj
    obtain ⟨p, xs, _, _, hh, r, q⟩ := E.sl i _ hi
    exact ⟨xs, by rw [← q.2]; exact hh, r⟩⟩
section
variable {P : Program} {w : World} {K : PySem.W.Frag} {mg : Str → Option Value} {base : Heap}
theorem takes_cx {N : List Str} {qual : Str} {scope : Scope} {f : Addr} {cdv : Value} {A : Around} {outer : List Env} {z : Shared} {H : Hp} {E : XK} : Takes (cxOf (L2.CX P w) P w K mg base N qual scope f cdv A outer z H E) (fun cls d _ H => E cls d H) :=
  takes_of rfl rfl rfl rfl
theorem fnX {x qual : Str} {st : Stmt} {f : Addr} {fd : FuncData} {N ps : List Str} {k : Nat} {S : DSx} (F : Fun K x qual st f fd) (sc : FnScope N ps (defScope st)) (len : ∀ as R Xr, S as R Xr → as.length = ps.length)
    (hbody : ∀ (cdv : Value) (A : Around) (outer : List Env) (z : Shared) (H : Hp) (E : XK), RoomG k (A.deeper (envOfC qual (defScope st) z.heap.objs.size f cdv)) → ∀ (xw : XW), Takes (cxOf (L2.CX P w) P w K mg base N qual (defScope st) f cdv A outer z H E) xw.w →
      ∃ t u, DSs (cxOf (L2.CX P w) P w K mg base N qual (defScope st) f cdv A outer z H E) (defBody st) t u ∧ ∀ as R Xr, S as R Xr → (xw.xr = fun err δ => ∃ outs, Xr err outs ∧ OutsIn δ outs) → u (endsOf R) (as ++ List.replicate (N.length - ps.length) .no)) :
    FnOkG P w K mg base (L2.CX P w) (k + 1) f fd ps (spX K S) := by
  refine fun_okG F sc (fun vs H Q E h => ?_) (fun cdv A outer z H vs Q E hr h => ?_)
  · obtain ⟨c, as, R, Xr, _, _, EV, hS, _⟩ := h
    have := EV.len
    rw [List.length_map] at this
    rw [this]
    exact len as R Xr hS
  · obtain ⟨c, as, R, Xr, hh, h0, EV, hS, k, kx⟩ := h
    let xw : XW := ⟨fun cls d _ H => E cls d H, fun err δ => ∃ outs, Xr err outs ∧ OutsIn δ outs⟩
    obtain ⟨t, u, D, red⟩ := hbody cdv A outer z H E hr xw takes_cx
    refine ⟨t, D.ps, ?_⟩
    have l1 : vs.length = ps.length := by
      have := EV.len
      rw [List.length_map] at this
      rw [this]
      exact len as R Xr hS
    have core : ({ c with hid := [] } : Cf) = c := by
      obtain ⟨τ, n, G0, H0, hid⟩ := c
      dsimp only at hh
      subst hh
      rfl
    have EV' : EnvOk K c c.G0 H (L2.start N vs) (as ++ List.replicate (N.length - ps.length) .no) := by
      have y := EV.more (N.length - ps.length)
      have y' : EnvC K c c.G0 H (L2.start N vs) (as ++ List.replicate (N.length - ps.length) .no) := by
        unfold L2.start
        rw [l1]
        exact y
      refine ⟨y', fun cls d err G' H' σ' δ' hx EC er => ?_⟩
      obtain ⟨outs, hX, ho⟩ := hx
      rw [core] at EC
      exact kx err outs cls d G' H' hX (EC.fin ho) er
    refine D.rs c (L2.start N vs) c.G0 H _ _ (endsOf R) EV' (red as R Xr hS rfl) ⟨?_, ?_, ?_, ?_, ?_, hh⟩
    · rintro σ' G' H' δ' ⟨outs, hR, ho⟩ E' e
      exact k .none outs .non G' H' hR (E'.toEnvC.fin ho) .non
    · rintro d δ' v σ' G' H' ⟨outs, hR, ho⟩ E' e r
      exact k d outs v G' H' hR (E'.toEnvC.fin ho) r
    · exact fun σ' G' H' δ' a _ _ => False.elim a
    · exact fun σ' G' H' δ' a _ _ => False.elim a
    · exact fun ds δ' p xs σ' G' H' a _ _ _ _ => False.elim a
/-- a def that may raise, by its name -/
structure KnX (P : Program) (w : World) (K : PySem.W.Frag) (mg : Str → Option Value) (base : Heap) (k : Nat) (x : Str) (S : DSx) : Prop where
  ex : ∃ (f : Addr) (fd : FuncData) (ps : List Str), FnOkG P w K mg base (L2.CX P w) k f fd ps (spX K S) ∧ mg x = some (.ref f) ∧ PySem.W.keepIn K (.ref f) = true ∧ Binds K fd ps []
end
section
variable {X : Cx} {CX : CXT} {k : Nat} {f : Addr} {fd : FuncData} {ps : List Str} {sp : Sp} {E : L2.St → XK} {x : Str} {p pos : Pos} {e : Expr} {es : List Expr} {t : TA} {ds : List Value} {dvs : List V}
theorem run_fnGS {pins : List (Addr × Obj)} {σ : L2.St} {H : Hp} {z : Shared} {Q : VK} {us : List Value} {vs : List V} (F : FnOkG X.prog X.w X.K X.mg X.base CX k f fd ps sp) (hr : RoomG k X.A) (hb : Binds X.K fd ps ds) (hd : Vals dvs ds) (hx : PassesAt CX X σ (E σ))
    (I : Inv X pins σ H z) (r : Vals vs us) (h : sp (vs ++ dvs) H Q (E σ)) : wpAny (model X.prog X.w) X.A (call (.ref f) us) (EP X pins σ Q) X.xe z := by
  have rr := r.append hd
  have len := rr.length.symm.trans (F.len _ _ _ _ h)
  refine wpAny_call (codeAny_mono (F.run X.A X.stack z H _ _ _ Q (E σ) hr I.env0 (hb z us I.kIn len) rr h) ?_)
  rintro (er | fl) z' hq
  · exact hx pins H z er z' I hq
  · cases fl <;> first
      | exact I.after hq
      | exact False.elim hq
/-- .. with defaults dvs -/
def tCallSD (sp : Sp) (dvs : List V) (E : L2.St → XK) (t : TA) : TE := fun σ H Q => t σ H fun vs H1 => sp (vs ++ dvs) H1 Q (E σ)
theorem pe_callGS (F : FnOkG X.prog X.w X.K X.mg X.base CX k f fd ps sp) (hr : RoomG k X.A) (hg : Gl X x) (hm : X.mg x = some (.ref f)) (hk : PySem.W.keepIn X.K (.ref f) = true) (hb : Binds X.K fd ps ds) (hd : Vals dvs ds) (hx : ∀ σ, PassesAt CX X σ (E σ)) (ha : PA X (e :: es) t)
    (hdb : (x == ("__debug__" : Str)) = false := by decide) (he : starEach (e :: es) X.env = (false, eval e X.env) :: starEach es X.env := by rfl) (hpl : (backTo pos (starEach es X.env)).any (·.1) = false := by rfl) : PE X (.Call (.Name x p) (e :: es) [] pos) (tCallSD sp dvs E t) := by
  constructor
  intro pins z σ H Q I h
  refine wpAny_Call_Name_kw (ld_glob I hg hm ?_ hdb)
  exact PySem.W.callWith_K (h₀ := X.base) I.ok.mod.kin hk (thn (ha.run pos pins z σ H _ I h) fun us z1 ⟨vs, H1, I1, r, q⟩ => ⟨I1.kIn, run_fnGS F hr hb hd (hx σ) I1 r q⟩) he hpl
end
section
variable [XW] {K : PySem.W.Frag}
def dCallX (S : DSx) (ua : DCA) : DTE := fun δ R => ua δ fun cs δ1 => (muts δ1 cs).Nodup ∧ S (asOf δ1 cs 0) (fun d outs => outs.length = (muts δ1 cs).length ∧ R d (setOuts δ1 (muts δ1 cs) outs)) fun err outs => outs.length = (muts δ1 cs).length ∧ XW.xr err (setOuts δ1 (muts δ1 cs) outs)
theorem re_callX {S : DSx} {t : TA} {ua : DCA} (ha : RCA K t ua) : RE K (tCallSD (spX K S) [] (WE XW.w) t) (dCallX S ua) := by
  intro c σ G H δ Q R E h k
  refine ha c σ G H δ _ _ E h fun cs δ1 vs G1 H1 h1 E1 e1 r1 => ?_
  obtain ⟨hn, hS⟩ := h1
  show spX K S (vs ++ []) H1 Q _
  rw [List.append_nil]
  refine ⟨calleeC σ (muts δ1 cs) G1 H1, asOf δ1 cs 0, _, _, rfl, rfl, callee_env E1 r1 hn, hS, fun d outs v G' H' hR F rv => ?_, fun err outs cls d G' H' hX F er => ?_⟩
  · exact k d _ v G' H' hR.2 (caller_back E1 hn hR.1 F) (e1.trans F.g0) rv
  · have EB := caller_back E1 hn hX.1 F
    exact EB.xw _ _ _ _ _ _ _ hX.2 EB.core er
theorem de_callX {X : Cx} {x : Str} {S : DSx} {k j : Nat} {e : Expr} {es : List Expr} {tca : TA} {uca : DCA} {p pos : Pos} (tk : Takes X XW.w) (kn : KnX X.prog X.w X.K X.mg X.base k x S) (hr : RoomG j X.A) (hk : k ≤ j) (ha : DCa X (e :: es) tca uca) (hg : Gl X x := by rfl) (hdb : (x == ("__debug__" : Str)) = false := by decide)
    (he : starEach (e :: es) X.env = (false, eval e X.env) :: starEach es X.env := by rfl) (hpl : (backTo pos (starEach es X.env)).any (·.1) = false := by rfl) : DE X (.Call (.Name x p) (e :: es) [] pos) (tCallSD (spX X.K S) [] (WE XW.w) tca) (dCallX S uca) := by
  obtain ⟨f, fd, ps, F, hm, kp, b⟩ := kn.ex
  exact ⟨pe_callGS F (hr.mono hk) hg hm kp b .nil (fun σ => passAt tk σ) ha.pa hdb he hpl, re_callX ha.ra⟩
end
end TL

set_option Elab.async false
set_option linter.all false
set_option maxRecDepth 100000
set_option maxHeartbeats 4000000
/-! TXe: try, except x as n: the caught error is a thing of ours from there on. -/
namespace TL
open PySem PySem.Spec PyProof.Rows L2

theorem errO_ok {P : Program} {w : World} {H : Hp} {h : Heap} {e C : Addr} {od : Option Addr} {ox : Obj} {vs : Array Value} (he : h.get? e = some ox) (hc : ox.cls = .ref C) (hd : ox.dict = od) (hv : ox.data = .fields vs) : ObjOk P w H h e (errO e C od) :=
  ⟨⟨ox, vs, he, hc, hd, hv⟩, ⟨_, he⟩, fun h1 h2 z k => by
    obtain ⟨ox, vs, q, r⟩ := z
    exact ⟨ox, vs, k _ q, r⟩⟩
theorem errO_at {P : Program} {w : World} {H : Hp} {h : Heap} {e C : Addr} {od : Option Addr} (hok : HOk P w H h) (he : H e = some (errO e C od)) : ∃ (ox : Obj) (vs : Array Value), h.get? e = some ox ∧ ox.cls = .ref C ∧ ox.dict = od ∧ ox.data = .fields vs := by
  have y : ObjOk P w H h e (.ext fun h => ∃ (ox : Obj) (vs : Array Value), h.get? e = some ox ∧ ox.cls = .ref C ∧ ox.dict = od ∧ ox.data = .fields vs) := hok e _ he
  exact y.1
section
variable {X : Cx} {pins : List (Addr × Obj)} {σ : L2.St} {H : Hp} {sI z : Shared} {B : Heap} {a C : Addr} {d : Option Addr}
/-- on the ground, with the error's object -/
theorem landed_with (I : Inv X pins σ H sI) (nb : ∀ b o, sI.heap.get? b = some o → b ∉ frs X.stack → B.get? b = some o) (fl : HandSPX.FlyingZ B X.stack a (Zc (.ref C) d) z.heap) (up : sI.heap.UpToSlots z.heap) (na : H a = none) (os : z.os = sI.os) (ag : AllBare z.gens) :
    Inv X pins σ (upd H a (errO a C d)) z := by
  obtain ⟨st, Ba, _, tr⟩ := fl
  obtain ⟨oe, vs, T, oT, ts, he, hz, hd, _⟩ := tr
  have frame : ∀ b ∈ frs X.stack, ∀ o, sI.heap.get? b = some o → (∃ sl, z.heap.get? b = some { o with slots := sl }) ∧ ∀ vs, o.data ≠ .fields vs := fun b hb o e => by
    obtain ⟨_, o2, e2, nf⟩ := I.stack.mem hb
    rw [e] at e2
    cases e2
    exact ⟨up b o e nf, nf⟩
  have nea : ∀ {b : Addr} {o : Obj}, sI.heap.get? b = some o → b ≠ a := fun {b o} e w => by
    subst w
    by_cases hb : b ∈ frs X.stack
    · obtain ⟨⟨sl, q⟩, nf⟩ := frame b hb o e
      rw [he] at q
      have q := Option.some.inj q
      exact nf vs (by rw [q] at hd; exact hd)
    · rw [nb b o e hb] at Ba
      cases Ba
  have hok : HOk X.prog X.w (upd H a (errO a C d)) z.heap := fun b ob q => by
    by_cases hb : b = a
    · subst hb
      rw [upd_same] at q
      cases q
      exact errO_ok he hz.1 hz.2 hd
    · rw [upd_ne hb] at q
      exact ((I.inGround nb).kept st b ob q).stay (fun _ _ _ r => r) (fun c hc => by rw [upd_ne (ne_of_none hc na), hc]) fun c xs hc => by rw [upd_ne (ne_of_none hc na), hc]
  have J := I.call (ch := []) (h' := z.heap) (g' := z.gens) (t' := z.toks) (d' := z.drawn) (H' := upd H a (errO a C d))
    { keep := fun b o e _ hb _ => st b o (nb b o e hb)
      slot := fun b o e _ hb _ => (frame b hb o e).1
      free := fun b o e n _ => by rw [upd_ne (nea e), n]
      there := fun b o e _ => by
        by_cases hb : b ∈ frs X.stack
        · obtain ⟨⟨sl, q⟩, _⟩ := frame b hb o e
          exact ⟨_, q⟩
        · exact ⟨o, st b o (nb b o e hb)⟩
      tups := fun b xs q => by rw [upd_ne (ne_of_none q na), q]
      frzs := fun b o u q => by rw [upd_ne (ne_of_none q na), q]
      tbls := fun b ps q => ⟨#[], by rw [upd_ne (ne_of_none q na), q, Array.append_empty]⟩ } hok ag (fun _ y => nomatch y)
  obtain ⟨a1, a2, a3, a4, a5⟩ := z
  cases (show a5 = sI.os from os)
  exact J
theorem suite_of (I : Inv X pins σ H z) (a : Addr) : Inv (X.suite a (X.pn ++ pins)) [] σ H z :=
  ⟨I.ok.suite _ _, I.os, I.bare, I.base, I.loc, I.cell, I.free, I.freeC, fun p hp => I.pin p (by rw [List.append_nil] at hp; exact hp), I.hok, I.len⟩
theorem suite_off {a : Addr} {pn : List (Addr × Obj)} (I : Inv (X.suite a (X.pn ++ pins)) pn σ H z) (ok : X.Ok) : Inv X pins σ H z :=
  ⟨ok, I.os, I.bare, I.base, I.loc, I.cell, I.free, I.freeC, fun p hp => I.pin p (List.mem_append_left _ hp), I.hok, I.len⟩
end
/-- what the clauses hs do with an error that has landed -/
structure Cat (X : Cx) (hs : List ExceptHandler) (wh : Ends → WX) : Prop where
  run : ∀ (pins : List (Addr × Obj)) (σ : L2.St) (H : Hp) (sI z : Shared) (B : Heap) (a : Addr) (cls : Value) (d : Option Addr) (D : Ends), Inv X pins σ H sI → (∀ b o, sI.heap.get? b = some o → b ∉ frs X.stack → B.get? b = some o) →
    HandSPX.FlyingZ B X.stack a (Zc cls d) z.heap → sI.heap.UpToSlots z.heap → H a = none → z.os = sI.os → AllBare z.gens → wh D cls d σ H → wpAny (model X.prog X.w) X.A (handleBy (.ref a) X.env hs) (SP X pins D) X.xe z
/-- none of them: that must not be -/
theorem cat_nil {X : Cx} : Cat X [] (fun _ _ _ _ _ => False) := ⟨fun _ _ _ _ _ _ _ _ _ _ _ _ _ _ _ _ _ h => h.elim⟩
/-- the ends of a suite whose name goes -/
def forget (i : Nat) (D : Ends) : Ends := { nx := fun σ H => D.nx (σ.set i none) H, rt := D.rt, bk := fun σ H => D.bk (σ.set i none) H, ct := fun σ H => D.ct (σ.set i none) H }
def wCat (K : PySem.W.Frag) (c : Value) (i : Nat) (ts : TS) (wh : Ends → WX) : Ends → WX := fun D cls d σ H => ∃ b, PySem.W.exmOne K cls c = some b ∧
  (b = true → ∃ C : Addr, cls = .ref C ∧ ∀ a, H a = none → ts (forget i D) (σ.set i (some (.ref a))) (upd H a (errO a C d))) ∧ (b = false → wh D cls d σ H)
section
variable {X : Cx} {x n : Str} {c : Value} {i : Nat} {body suite : List Stmt} {b₀ : Stmt} {np pos pos' : Pos} {tb : WX → TS} {ts : TS} {wh : Ends → WX} {hs : List ExceptHandler} {h₀ : ExceptHandler}
theorem cat_cons (hst : X.stack = X.env :: X.outer) (hN : X.N.Nodup) (hi : X.N[i]? = some n) (hln : X.env.kindOf n = some .local) (hc : Names X x c) (hsu : ∀ (a : Addr) (pn : List (Addr × Obj)), PSs (X.suite a pn) (b₀ :: suite) ts) (hr : Cat X hs wh) :
    Cat X (.ExceptHandler (some (.Name x np)) (some n) (b₀ :: suite) pos' :: hs) (wCat X.K c i ts wh) := by
  constructor
  intro pins σ H sI z B a cls d D I nb fl up na os ag w
  obtain ⟨b, hb1, hyes, hno⟩ := w
  have ok := I.ok
  have J : Inv X pins σ H z := I.landed nb fl.1 up os ag
  refine wpAny_handleBy_cons (codeAny_handlers_test ?_) (by intro q; cases q)
  obtain ⟨oe, vs, he, hz, hd⟩ := fl.there
  have LT : PySem.W.Looks (model X.prog X.w) z.heap (typeOf (.ref a)) cls := fun A Q E s k q => wpAny_typeOf_ref (k _ _ he) (by rw [hz.1]; exact q)
  have LM := PySem.W.exm_one (M := model X.prog X.w) J.kIn LT hb1
  have test : ∀ {Q : Value → Shared → Prop} {E : Value → Shared → Prop}, Q c z → wpAny (model X.prog X.w) (X.A.mark (some (.ref a))) (eval (.Name x np) X.env) Q E z := fun {Q E} q => by
    obtain ⟨hg, hdbg, hm | ⟨hm, hv, hnn⟩⟩ := hc
    · exact ld_glob (X := X.suite a (X.pn ++ pins)) (suite_of J a) hg hm q hdbg
    · exact ld_blt (X := X.suite a (X.pn ++ pins)) (suite_of J a) hg hm hv q hnn hdbg
  refine test (LM.here ?_)
  cases b with
  | false => exact hr.run pins σ H sI z B a cls d D I nb fl up na os ag (hno rfl)
  | true =>
    obtain ⟨C, rfl, hq⟩ := hyes rfl
    refine codeAny_handlers_suite_as ?_
    refine HandSPX.lands_againZ fl fun h4 fl4 up4 => ?_
    have J4 : Inv X pins σ (upd H a (errO a C d)) { z with heap := h4 } := landed_with I nb fl4 (up.trans up4) na os ag
    refine store_ok (X := X.suite a (X.pn ++ pins)) (v := .ref a) (suite_of J4 a) hN hi (.inl hln) rfl (fun s5 S5 => ?_) (.inr hln)
    refine wpAny_mono ((hsu a (X.pn ++ pins)).run [] s5 _ _ (forget i D) S5 (hq a na)) (fun f s6 hsp => ?_) (fun _ _ y => False.elim y)
    have fin : ∀ {σ6 : L2.St} {H6 : Hp} {Q : Shared → Prop}, Inv (X.suite a (X.pn ++ pins)) [] σ6 H6 s6 → (∀ s7, Inv X pins (σ6.set i none) H6 s7 → Q s7) →
        wpAny (model X.prog X.w) X.A (do bindName X.env n .none; unbindBehindTheSuite X.env n pos') (fun _ s7 => Q s7) X.xe s6 := fun {σ6 H6 Q} S6 hq => gone_ok (suite_off S6 ok) hN hi hln hq
    cases f with
    | ret u =>
      obtain ⟨v6, σ6, H6, S6, r6, q6⟩ := hsp
      exact fin S6 fun s7 J7 => ⟨_, _, _, J7, r6, q6⟩
    | next =>
      obtain ⟨σ6, H6, S6, q6⟩ := hsp
      exact fin S6 fun s7 J7 => ⟨_, _, J7, q6⟩
    | brk =>
      obtain ⟨σ6, H6, S6, q6⟩ := hsp
      exact fin S6 fun s7 J7 => ⟨_, _, J7, q6⟩
    | cont =>
      obtain ⟨σ6, H6, S6, q6⟩ := hsp
      exact fin S6 fun s7 J7 => ⟨_, _, J7, q6⟩
theorem ps_tryC (hst : X.stack = X.env :: X.outer) (hf : X.env.frame = some X.env.locals)
    (hb : ∀ (W : WX) (pn : List (Addr × Obj)) (xe : Value → Shared → Prop), Takes (X.tr pn xe) W → PassesOwn (model X.prog X.w) X.A X.env xe → PSs (X.tr pn xe) body (tb W)) (hc : Cat X (h₀ :: hs) wh) :
    PS X (.Try body (h₀ :: hs) [] [] pos) (fun D σ H => tb (wh D) D σ H) := by
  constructor
  intro pins z σ H D I h
  have ok := I.ok
  refine wpAny_Try_except ?_
  refine wpAny_mono ((hb (wh D) (X.pn ++ pins) (fun e s₁ => wpAny (model X.prog X.w) X.A (noteFrame e X.env) (fun _ s₂ => wpAny (model X.prog X.w) X.A (setFlight e none) (fun _ s₃ =>
    wpAny (model X.prog X.w) X.A (handleBy e X.env (h₀ :: hs)) (SP X pins D) X.xe s₃) X.xe s₂) X.xe s₁) (fun u s' xx => ?_) PassesOwn.looking).run [] z σ H D (I.toTry _) h) (fun f s1 hsp => ?_) (fun e s1 he => he)
  · obtain ⟨a, B, sI, pins', σ', H', cls, d, rfl, J', nb, up, sky, na, os, ag, hw⟩ := xx
    have J : Inv X pins σ' H' sI := J'.ofTry ok
    show wpAny (model X.prog X.w) X.A (noteFrame (.ref a) X.env) _ _ _
    refine Sky.land Zc.steady (by rw [ok.frames, hst]) hf (by rw [← hst]; exact sky) fun h3 fl3 up3 => ?_
    exact hc.run pins σ' H' sI { s' with heap := h3 } B a cls d D J nb (by rw [hst]; exact fl3) (up.trans up3) na os ag hw
  · cases f with
    | next =>
      obtain ⟨σ', H', J', q⟩ := hsp
      exact wpAny_execs_nil ⟨σ', H', J'.ofTry ok, q⟩
    | ret u =>
      obtain ⟨v, σ', H', J', r, q⟩ := hsp
      exact ⟨v, σ', H', J'.ofTry ok, r, q⟩
    | brk =>
      obtain ⟨σ', H', J', q⟩ := hsp
      exact ⟨σ', H', J'.ofTry ok, q⟩
    | cont =>
      obtain ⟨σ', H', J', q⟩ := hsp
      exact ⟨σ', H', J'.ofTry ok, q⟩
end
end TL

set_option Elab.async false
set_option linter.all false
set_option maxRecDepth 100000
set_option maxHeartbeats 4000000
/-! TXf: try by data; errors as data: their fields, isinstance. -/
namespace TL
open PySem PySem.Spec PyProof.Rows L2

theorem strs_inj : ∀ {a b : List Str}, a.map PyData.str = b.map PyData.str → a = b
  | [], [], _ => rfl
  | x :: a, y :: b, h => by
    rw [List.map_cons, List.map_cons] at h
    injection h with h1 h2
    injection h1 with h1
    rw [h1, strs_inj h2]
theorem errD_inj {C C' : Addr} {ns ns' : List Str} {ds ds' : List PyData} (h : errD C ns ds = errD C' ns' ds') : C = C' ∧ ns = ns' ∧ ds = ds' := by
  unfold errD at h
  injection h with h
  injection h with h _
  injection h with h1 h2
  injection h1 with h1
  injection h2 with h2
  injection h2 with h2 h3
  injection h2 with h2
  exact ⟨Int.ofNat.inj h2, strs_inj h3, h1⟩
/-- what an error's fields are -/
def FldRp (K : PySem.W.Frag) (G : Hp) (d : Option Addr) (ns : List Str) (ds : List PyData) : Prop :=
  (d = none ∧ ns = [] ∧ ds = []) ∨ ∃ (dd : Addr) (fs : List (Str × V)) (vs : List V), d = some dd ∧ G dd = some (.xd fs) ∧ fs = ns.zip vs ∧ RpAll K G vs ds ∧ ns.length = ds.length
theorem ErrRp.split {K : PySem.W.Frag} {G : Hp} {cls : Value} {d : Option Addr} {C : Addr} {ns : List Str} {ds : List PyData} {err : PyData} (r : ErrRp K G cls d err) (e : err = errD C ns ds) : cls = .ref C ∧ FldRp K G d ns ds := by
  cases r with
  | none =>
    obtain ⟨rfl, rfl, rfl⟩ := errD_inj e
    exact ⟨rfl, .inl ⟨rfl, rfl, rfl⟩⟩
  | some h1 h2 h3 h4 =>
    obtain ⟨rfl, rfl, rfl⟩ := errD_inj e
    exact ⟨rfl, .inr ⟨_, _, _, rfl, h1, h2, h3, h4⟩⟩
theorem Rp.of_err {K : PySem.W.Frag} {G : Hp} {a C : Addr} {d : Option Addr} {ns : List Str} {ds : List PyData} (h : G a = some (errO a C d)) (r : FldRp K G d ns ds) : Rp K G (.ref a) (errD C ns ds) := by
  rcases r with ⟨rfl, rfl, rfl⟩ | ⟨dd, fs, vs, rfl, h1, h2, h3, h4⟩
  · exact .err0 h
  · exact .err h h1 h2 h3 h4
theorem Rp.err_of {K : PySem.W.Frag} {G : Hp} {v : V} {C : Addr} {ns : List Str} {ds : List PyData} {err : PyData} (r : Rp K G v err) (e : err = errD C ns ds) : ∃ (a : Addr) (d : Option Addr), v = .ref a ∧ G a = some (errO a C d) ∧ FldRp K G d ns ds := by
  cases r with
  | non => cases e
  | bl b => cases e
  | int i => cases e
  | str x => cases e
  | lst _ _ => cases e
  | tup _ _ => cases e
  | dic h1 h2 h3 =>
    have e : PyData.dict _ = PyData.dict _ := e
    injection e with e
    subst e
    cases (show true = false from h3)
  | fn f =>
    have e : PyData.dict [(PyData.list [], PyData.int _)] = PyData.dict [(PyData.list ds, PyData.tuple _)] := e
    cases e
  | err0 h =>
    obtain ⟨rfl, rfl, rfl⟩ := errD_inj e
    exact ⟨_, _, rfl, h, .inl ⟨rfl, rfl, rfl⟩⟩
  | err h1 h2 h3 h4 h5 =>
    obtain ⟨rfl, rfl, rfl⟩ := errD_inj e
    exact ⟨_, _, rfl, h1, .inr ⟨_, _, _, rfl, h2, h3, h4, h5⟩⟩
theorem look_put {α : Type} (f g : Str) (y : α) (fs : List (Str × α)) : ((f, y) :: fs).lookup g = if g = f then some y else fs.lookup g := by
  rw [List.lookup_cons]
  by_cases h : g = f
  · rw [if_pos h, show (g == f) = true by simpa using h]
  · rw [if_neg h, show (g == f) = false by simpa using h]
theorem RpAll.look {K : PySem.W.Frag} {G : Hp} {f : Str} {x : PyData} : ∀ {ns : List Str} {vs : List V} {ds : List PyData}, RpAll K G vs ds → (ns.zip ds).lookup f = some x → ∃ v, (ns.zip vs).lookup f = some v ∧ Rp K G v x
  | [], _, _, _, h => by cases h
  | n :: ns, [], [], _, h => by cases h
  | n :: ns, _, _, .cons (v := v) (d := d) r t, h => by
    rw [List.zip_cons_cons, look_put] at h
    rw [List.zip_cons_cons, look_put]
    by_cases e : f = n
    · rw [if_pos e] at h ⊢
      cases h
      exact ⟨v, rfl, r⟩
    · rw [if_neg e] at h ⊢
      exact RpAll.look t h
/-! ### try -/
section
variable {X : Cx} {x n : Str} {c : Value} {i : Nat} {body suite : List Stmt} {b₀ : Stmt} {np pos pos' : Pos} {ts : TS} {us : DTS} {wh : Ends → WX} {hs : List ExceptHandler} {h₀ : ExceptHandler}
/-- an air in which anything may fly -/
def airX (X : Cx) : Value → Shared → Prop := fun e s₁ => wpAny (model X.prog X.w) X.A (noteFrame e X.env) (fun _ s₂ => wpAny (model X.prog X.w) X.A (setFlight e none) (fun _ _ => True) (fun _ _ => True) s₂) (fun _ _ => True) s₁
theorem takes_air (hst : X.stack = X.env :: X.outer) (hf : X.env.frame = some X.env.locals) (pn : List (Addr × Obj)) (W : WX) : Takes (X.tr pn (airX X)) W := fun u s' h => by
  obtain ⟨a, B, sI, pins', σ', H', cls, d, rfl, J', nb, up, sky, na, os, ag, hw⟩ := h
  have fr : X.A.frames = some (X.env :: X.outer) := by
    rw [← hst]
    exact J'.ok.frames
  exact Sky.land Zc.steady fr hf (by rw [← hst]; exact sky) fun _ _ _ => trivial
structure DCat [XW] (X : Cx) (hs : List ExceptHandler) (wh : Ends → WX) (hx : DEnds → PyData → List Sl → Prop) : Prop where
  cat : Cat X hs wh
  rel : ∀ (c : Cf) (σ : L2.St) (G H : Hp) (δ : List Sl) (D : Ends) (E : DEnds) (cls : Value) (d : Option Addr) (err : PyData), hx E err δ → EnvOk X.K c G H σ δ → EndsOk X.K c G E D → ErrRp X.K G cls d err → wh D cls d σ H
theorem dcat_nil [XW] : DCat X [] (fun _ _ _ _ _ => False) (fun _ _ _ => False) := ⟨cat_nil, fun _ _ _ _ _ _ _ _ _ _ h _ _ _ => h.elim⟩
def forgetD (i : Nat) (E : DEnds) : DEnds := { nx := fun δ => E.nx (δ.set i .no), rt := E.rt, bk := fun δ => E.bk (δ.set i .no), ct := fun δ => E.ct (δ.set i .no), rn := E.rn }
theorem EndsOk.forget [XW] {K : PySem.W.Frag} {c : Cf} {G : Hp} {E : DEnds} {D : Ends} (h : EndsOk K c G E D) (i : Nat) : EndsOk K c G (forgetD i E) (forget i D) :=
  ⟨fun σ' G' H' δ' a b k => h.nx _ G' H' _ a b.drop k, h.rt, fun σ' G' H' δ' a b k => h.bk _ G' H' _ a b.drop k, fun σ' G' H' δ' a b k => h.ct _ G' H' _ a b.drop k, h.rn, h.h0⟩
/-- the clause of the class c: what the suite does, or what the further ones do -/
def hxCat (K : PySem.W.Frag) (c : Value) (i : Nat) (us : DTS) (hx : DEnds → PyData → List Sl → Prop) : DEnds → PyData → List Sl → Prop := fun E err δ => ∃ C ns ds b, err = errD C ns ds ∧ PySem.W.exmOne K (.ref C) c = some b ∧
  if b = true then us (forgetD i E) (δ.set i (.dat err)) else hx E err δ
theorem dcat_cons [XW] {hx : DEnds → PyData → List Sl → Prop} (hst : X.stack = X.env :: X.outer) (hN : X.N.Nodup) (hi : X.N[i]? = some n) (hln : X.env.kindOf n = some .local) (hc : Names X x c) (hsu : ∀ (a : Addr) (pn : List (Addr × Obj)), DSs (X.suite a pn) (b₀ :: suite) ts us) (hr : DCat X hs wh hx) :
    DCat X (.ExceptHandler (some (.Name x np)) (some n) (b₀ :: suite) pos' :: hs) (wCat X.K c i ts wh) (hxCat X.K c i us hx) where
  cat := cat_cons hst hN hi hln hc (fun a pn => (hsu a pn).ps) hr.cat
  rel := fun c' σ G H δ D E cls d err h EV k er => by
    obtain ⟨C, ns, ds, b, ee, hb, h⟩ := h
    obtain ⟨rfl, fr⟩ := er.split ee
    refine ⟨b, hb, fun eb => ⟨C, rfl, fun a na => ?_⟩, fun eb => ?_⟩
    · rw [if_pos eb] at h
      have eg : Ex G (upd G a (errO a C d)) := Ex.new (EV.ex.none na)
      have E1 := EV.al (Al.new (o := errO a C d) EV.ex na)
      have fr' : FldRp X.K (upd G a (errO a C d)) d ns ds := by
        rcases fr with q | ⟨dd, fs, vs, q1, q2, q3, q4, q5⟩
        · exact .inl q
        · exact .inr ⟨dd, fs, vs, q1, eg _ _ q2, q3, q4.up eg, q5⟩
      have r : Rp X.K (upd G a (errO a C d)) (.ref a) err := by
        rw [ee]
        exact Rp.of_err upd_same fr'
      exact (hsu 0 []).rs c' _ _ _ _ (forget i D) (forgetD i E) (E1.put r) h ((k.up eg).forget i)
    · rw [eb, if_neg Bool.false_ne_true] at h
      exact hr.rel c' σ G H δ D E _ d err h EV k er
theorem DSs.ps1 {X : Cx} {xw : XW} {st : List Stmt} {t : TS} {u : DTS} (h : @DSs xw X st t u) : PSs X st t := h.ps
theorem DSs.rs1 {X : Cx} {xw : XW} {st : List Stmt} {t : TS} {u : DTS} (h : @DSs xw X st t u) : @RS xw X.K t u := h.rs
theorem EnvOk.out {K : PySem.W.Frag} {xw : XW} {c : Cf} {G H : Hp} {σ : L2.St} {δ : List Sl} (h : @EnvOk xw K c G H σ δ) : EnvC K c G H σ δ := h.toEnvC
theorem ds_try [XW] {hx : DEnds → PyData → List Sl → Prop} {tb : XW → TS} {ub : XW → DTS} (hst : X.stack = X.env :: X.outer) (hf : X.env.frame = some X.env.locals)
    (hb : ∀ (xw : XW) (pn : List (Addr × Obj)) (xe : Value → Shared → Prop), Takes (X.tr pn xe) xw.w → PassesOwn (model X.prog X.w) X.A X.env xe → @DSs xw (X.tr pn xe) body (tb xw) (ub xw)) (hc : DCat X (h₀ :: hs) wh hx)
    (ht : ∀ w xr xr', tb ⟨w, xr⟩ = tb ⟨w, xr'⟩ := by intros; rfl) (hu : ∀ w w' xr, ub ⟨w, xr⟩ = ub ⟨w', xr⟩ := by intros; rfl) :
    DS X (.Try body (h₀ :: hs) [] [] pos) (fun D σ H => tb ⟨wh D, fun _ _ => False⟩ D σ H) (fun E δ => ub ⟨fun _ _ _ _ => False, hx E⟩ E δ) where
  ps := ps_tryC (tb := fun W => tb ⟨W, fun _ _ => False⟩) hst hf (fun W pn xe tk po => (hb ⟨W, fun _ _ => False⟩ pn xe tk po).ps1) hc.cat
  rs := fun c σ G H δ D E EV h k => by
    have core : ({ c with hid := [] } : Cf) = c := by
      have hh := k.h0
      obtain ⟨τ, n, G0, H0, hid⟩ := c
      dsimp only at hh
      subst hh
      rfl
    have RB := (hb ⟨wh D, hx E⟩ [] (airX X) (takes_air hst hf [] _) PassesOwn.looking).rs1
    let c1 : Cf := { c with G0 := G }
    -- back and forth
    have back : ∀ {c2 : Cf} {G' H' : Hp} {σ' : L2.St} {δ' : List Sl}, c2 = c1 → EnvC X.K c2 G' H' σ' δ' → EnvOk X.K c G' H' σ' δ' ∧ Ex G G' := fun {c2 G' H' σ' δ'} e Z => by
      subst e
      refine ⟨{ xw := EV.xw, g0 := EV.g0.trans Z.g0, ex := Z.ex, fr := Z.fr, fs := fun a h1 h2 => Z.fs a (EV.fs a h1 h2) h2, tg := Z.tg, len := Z.len, sl := fun i s h => ?_, ap := Z.ap, hd := Z.hd, bx := Z.bx.like rfl rfl rfl fun _ h => h }, Z.g0⟩
      have z := Z.sl i s h
      cases s with
      | no => trivial
      | box b => trivial
      | dat d => exact z
      | scr d => exact z
      | own t d => exact z
    have E1 : @EnvOk ⟨wh D, hx E⟩ X.K c1 G H σ δ := by
      refine @EnvOk.mk ⟨wh D, hx E⟩ _ _ _ _ _ _ { g0 := Ex.refl _, ex := EV.ex, fr := EV.fr, fs := fun a h1 _ => h1, tg := EV.tg, len := EV.len, sl := fun i s h => ?_, ap := EV.ap, hd := EV.hd, bx := EV.bx.like rfl rfl rfl fun _ h => h } ?_
      · have z := EV.sl i s h
        cases s with
        | no => trivial
        | box b => trivial
        | dat d => exact z
        | scr d => exact z
        | own t d => exact z
      · intro cls d err G' H' σ' δ' hxx Z er
        obtain ⟨EO, eg⟩ := back (by show ({ c1 with hid := [] } : Cf) = c1; exact congrArg (fun q : Cf => ({ q with G0 := G } : Cf)) core) Z
        exact hc.rel c σ' G' H' δ' D E cls d err hxx EO (k.up eg) er
    have h1 : ub ⟨wh D, hx E⟩ E δ := by
      rw [hu (wh D) (fun _ _ _ _ => False) (hx E)]
      exact h
    show tb ⟨wh D, fun _ _ => False⟩ D σ H
    rw [ht (wh D) (fun _ _ => False) (hx E)]
    refine RB c1 σ G H δ D E E1 h1 (@EndsOk.mk ⟨wh D, hx E⟩ X.K c1 G E D ?_ ?_ ?_ ?_ ?_ (show c1.hid = [] from k.h0))
    · intro σ' G' H' δ' a b _
      obtain ⟨EO, eg⟩ := back rfl b.out
      exact k.nx σ' G' H' δ' a EO eg
    · intro d δ' v σ' G' H' a b _ r
      obtain ⟨EO, eg⟩ := back rfl b.out
      exact k.rt d δ' v σ' G' H' a EO eg r
    · intro σ' G' H' δ' a b _
      obtain ⟨EO, eg⟩ := back rfl b.out
      exact k.bk σ' G' H' δ' a EO eg
    · intro σ' G' H' δ' a b _
      obtain ⟨EO, eg⟩ := back rfl b.out
      exact k.ct σ' G' H' δ' a EO eg
    · intro ds δ' p xs σ' G' H' a b hn _ r
      have Z := b.out
      have EO : EnvOk X.K { c with hid := (p, .lst xs) :: c.hid } G' H' σ' δ' := by
        refine { xw := EV.xw, g0 := EV.g0.trans Z.g0, ex := Z.ex, fr := Z.fr, fs := fun a h1 h2 => Z.fs a (EV.fs a h1 h2) h2, tg := Z.tg, len := Z.len, sl := fun i s h => ?_, ap := Z.ap, hd := Z.hd, bx := Z.bx.like rfl rfl rfl fun _ h => h }
        have z := Z.sl i s h
        cases s with
        | no => trivial
        | box b => trivial
        | dat d => exact z
        | scr d => exact z
        | own t d => exact z
      exact k.rn ds δ' p xs σ' G' H' a EO hn Z.g0 r
end
end TL

set_option Elab.async false
set_option linter.all false
set_option maxRecDepth 100000
set_option maxHeartbeats 4000000
/-! TXg: an error's fields are read; isinstance of an error. -/
namespace TL
open PySem PySem.Spec PyProof.Rows L2

/-- at a: an error of the class at C, its dict d there -/
def IsErr (H : Hp) (a C : Addr) (d : Option Addr) : Prop := H a = some (errO a C d) ∧ (d = none ∨ ∃ (dd : Addr) (fs : List (Str × V)), d = some dd ∧ H dd = some (.xd fs))
theorem inst_of {P : Program} {w : World} {H : Hp} {h : Heap} {a C : Addr} {d : Option Addr} (hok : HOk P w H h) (e : IsErr H a C d) : ∃ (ox : Obj) (od : Option Obj), PySem.W.InstAt h a ox C od := by
  obtain ⟨ea, ed⟩ := e
  obtain ⟨ox, vs, e1, e2, e3, e4⟩ := errO_at hok ea
  have nc : PySem.W.notCls ox = true := by
    unfold PySem.W.notCls
    rw [e4]
  rcases ed with rfl | ⟨dd, fs, rfl, e5⟩
  · exact ⟨ox, none, e1, e2, nc, by rw [e3]; trivial⟩
  · have hx : ObjOk P w H h dd (.xd fs) := hok dd _ e5
    obtain ⟨mA, ⟨o, es, ep, ho, _⟩, _⟩ := hx
    exact ⟨ox, some o, e1, e2, nc, by rw [e3]; exact ho⟩
theorem Rp.is_err {K : PySem.W.Frag} {G H : Hp} {v : V} {C : Addr} {ns : List Str} {ds : List PyData} (r : Rp K G v (errD C ns ds)) (e : Ex G H) : ∃ (a : Addr) (d : Option Addr), v = .ref a ∧ IsErr H a C d := by
  obtain ⟨a, d, rfl, h, f⟩ := r.err_of rfl
  refine ⟨a, d, rfl, e _ _ h, ?_⟩
  rcases f with ⟨h1, _⟩ | ⟨dd, fs, vs, h1, h2, _⟩
  · exact .inl h1
  · exact .inr ⟨dd, fs, h1, e _ _ h2⟩
/-! ### e.f -/
def tEf (K : PySem.W.Frag) (f : Str) (te : TE) : TE := fun σ H Q => te σ H fun x H1 => ∃ (a C dd : Addr) (fs : List (Str × V)) (v : V), x = .ref a ∧ H1 a = some (errO a C (some dd)) ∧ H1 dd = some (.xd fs) ∧ fs.lookup f = some v ∧ ErrC K C ∧ PySem.W.findIn K (.ref C) f = some none ∧ Q v H1
theorem pe_ef {X : Cx} {e : Expr} {te : TE} {pos : Pos} {f : Str} (he : PE X e te) (hb : attributeBase e f X.env (eval e X.env) = eval e X.env := by rfl) : PE X (.Attribute e f pos) (tEf X.K f te) := by
  constructor
  intro pins z σ H Q I h
  refine attr_of hb (thn (he.run pins z σ H _ I h) ?_)
  rintro u z1 ⟨x, H1, I1, rx, a, C, dd, fs, v, rfl, ea, ed, l, T, hno, q⟩
  obtain rfl : u = Value.ref a := rx
  obtain ⟨ox, vs, e1, e2, e3, e4⟩ := errO_at I1.hok ea
  have hx : ObjOk X.prog X.w H1 z1.heap dd (.xd fs) := I1.hok dd _ ed
  obtain ⟨mA, ns, hr⟩ := hx
  obtain ⟨od, ho, hl⟩ := lookIn_ns ns
  obtain ⟨u, hu, ru⟩ := RelO.some_of (v := v) (o := mA f) (by rw [← l]; exact hr f)
  have J : PySem.W.InstAt z1.heap a ox C (some od) := ⟨e1, e2, by unfold PySem.W.notCls; rw [e4], by rw [e3]; exact ho⟩
  exact HandSPX.exc_get I1.kIn J T.ga T.gg T.ex (PySem.W.findObj_own T.hd hno rfl (by rw [hl, hu])) (handed_of ru) ⟨v, H1, I1.tok _, ru, q⟩
/-! ### isinstance -/
def rIsEr (K : PySem.W.Frag) : List V → Hp → VK → Prop := fun xs H Q => ∃ (a C : Addr) (d : Option Addr) (c : V) (cv : Value) (b : Bool), xs = [.ref a, c] ∧ IsErr H a C d ∧ ErrC K C ∧ (∀ u, RelV c u → u = cv) ∧ PySem.W.kitOne K (.ref C) cv = some b ∧ Q (.bl b) H
theorem call_isEr {X : Cx} : CallR X (.builtin "isinstance") (rIsEr X.K) := by
  intro pins z σ H xs us Q I r h
  obtain ⟨a, C, d, c, cv, b, rfl, ie, T, hcv, hb, q⟩ := h
  cases r with
  | @cons _ u1 _ us1 rx rr =>
  cases rr with
  | @cons _ u2 _ us2 rt rn =>
    cases rn
    obtain rfl : u1 = Value.ref a := rx
    obtain rfl := hcv _ rt
    obtain ⟨ox, od, J⟩ := inst_of I.hok ie
    obtain ⟨cd, hc, _⟩ := TXE.dict_cls T.hd
    exact PySem.W.kia_one (PySem.W.kitx_exc (od := od) (by rw [hc]; rfl) T.ga T.gg T.ex T.kl T.kg T.kt T.mo) I.kIn J hb (fun y => nomatch y) fun tk => ⟨.bl b, H, I.kept (t' := tk) fun _ _ y => y, rfl, q⟩
section
variable [XW] {K : PySem.W.Frag} {te : TE} {ue : DTE}
def dEf (K : PySem.W.Frag) (f : Str) (ue : DTE) : DTE := fun δ R => ue δ fun d δ1 => ∃ (C : Addr) (ns : List Str) (ds : List PyData) (x : PyData), d = errD C ns ds ∧ ErrC K C ∧ PySem.W.findIn K (.ref C) f = some none ∧ (ns.zip ds).lookup f = some x ∧ R x δ1
theorem re_ef {f : Str} (he : RE K te ue) : RE K (tEf K f te) (dEf K f ue) := by
  intro c σ G H δ Q R E h k
  refine he c σ G H δ _ _ E h fun d δ1 v G1 H1 h1 E1 e1 r1 => ?_
  obtain ⟨C, ns, ds, x, rfl, T, hno, l, hR⟩ := h1
  obtain ⟨a, d, rfl, ea, fl⟩ := r1.err_of rfl
  rcases fl with ⟨_, rfl, _⟩ | ⟨dd, fs, vs, rfl, e2, rfl, ra, _⟩
  · cases l
  · obtain ⟨y, l2, ry⟩ := ra.look l
    exact ⟨a, C, dd, _, y, rfl, E1.ex _ _ ea, E1.ex _ _ e2, l2, T, hno, k x δ1 y G1 H1 hR E1 e1 ry⟩
def dIsE (K : PySem.W.Frag) (cv : Value) (ue : DTE) : DTE := fun δ R => ue δ fun d δ1 => ∃ (C : Addr) (ns : List Str) (ds : List PyData) (b : Bool), d = errD C ns ds ∧ ErrC K C ∧ PySem.W.kitOne K (.ref C) cv = some b ∧ R (.bool b) δ1
theorem re_isE {c : V} {cv : Value} (hcv : ∀ u, RelV c u → u = cv) (he : RE K te ue) : RE K (tCB (rIsEr K) (tCons te (tCons (tC c) tNil))) (dIsE K cv ue) := by
  intro c' σ G H δ Q R E h k
  refine he c' σ G H δ _ _ E h fun d δ1 v G1 H1 h1 E1 e1 r1 => ?_
  obtain ⟨C, ns, ds, b, rfl, T, hb, hR⟩ := h1
  obtain ⟨a, d, rfl, ie⟩ := r1.is_err E1.ex
  exact ⟨a, C, d, c, cv, b, rfl, ie, T, hcv, hb, k _ δ1 _ G1 H1 hR E1 e1 (.bl b)⟩
theorem de_ef {X : Cx} {e : Expr} {pos : Pos} {f : Str} (he : DE X e te ue) (hb : attributeBase e f X.env (eval e X.env) = eval e X.env := by rfl) : DE X (.Attribute e f pos) (tEf X.K f te) (dEf X.K f ue) := ⟨pe_ef he.pe hb, re_ef he.re⟩
theorem de_isE {X : Cx} {e : Expr} {Tn : Str} {c : V} {cv : Value} {p p2 pos : Pos} (hm : X.mg "isinstance" = none) (he : DE X e te ue) (hc : PE X (.Name Tn p2) (tC c)) (hcv : ∀ u, RelV c u → u = cv) (hg : Gl X "isinstance" := by rfl) (hb : bootBuiltins "isinstance" = some (.builtin "isinstance") := by decide +kernel)
    (hs : starEach [e, .Name Tn p2] X.env = (false, eval e X.env) :: starEach [.Name Tn p2] X.env := by rfl) (hs2 : starEach [.Name Tn p2] X.env = (false, eval (.Name Tn p2) X.env) :: starEach [] X.env := by rfl) (hpl : (backTo pos (starEach [.Name Tn p2] X.env)).any (·.1) = false := by rfl) :
    DE X (.Call (.Name "isinstance" p) [e, .Name Tn p2] [] pos) (tCB (rIsEr X.K) (tCons te (tCons (tC c) tNil))) (dIsE X.K cv ue) :=
  ⟨pe_callB call_isEr hg hm hb (pa_cons he.pe (pa_cons hc pa_nil hs2) hs) (by decide) (by decide) hs hpl, re_isE hcv he.re⟩
theorem ref_is {a : Addr} : ∀ u, RelV (.ref a) u → u = Value.ref a := fun u h => h
theorem ty_is {T : String} : ∀ u, RelV (.ty T) u → u = Value.type T := fun u h => h
end
end TL

set_option Elab.async false
set_option linter.all false
set_option maxRecDepth 100000
set_option maxHeartbeats 4000000
/-! TXh: defs with defaults; slices of lists with a step; or by truth; products put in place. -/
namespace TL
open PySem PySem.Spec PyProof.Rows L2

/-- a def behind the top, whatever its defaults -/
structure FunA (K : PySem.W.Frag) (x qual : Str) (st : Stmt) (f : Addr) (fd : FuncData) : Prop where
  ex : ∃ (oc : Value) (od : Option Addr) (dV kV doc pm : Value) (an : Option Addr) (cdv ct : Value) (osl : Array (Option Value)),
    fd = PySem.W.fnOf x qual (defArgs st) (defBody st) (defScope st) dV kV doc pm an cdv ct ∧ K.lookup f = some ⟨oc, od, .func fd, osl⟩ ∧ PySem.W.codeIn K cdv qual = true
theorem _root_.L2.FunD.any {K : PySem.W.Frag} {x qual : Str} {st : Stmt} {f : Addr} {fd : FuncData} {dvs : List V} {kws : List (Str × V)} (F : FunD K x qual (defArgs st) (defBody st) (defScope st) dvs kws f fd) : FunA K x qual st f fd := by
  obtain ⟨oc, od, dV, kV, doc, pm, an, cdv, ct, osl, h1, h2, h3, _⟩ := F.ex
  exact ⟨oc, od, dV, kV, doc, pm, an, cdv, ct, osl, h1, h2, h3⟩
/-- a tuple of defaults stands -/
theorem fund_mk {K : PySem.W.Frag} {x qual : Str} {st : Stmt} {f : Addr} {oc kV doc pm cdv ct : Value} {od an : Option Addr} {osl : Array (Option Value)} {T : Addr} {o : Obj} {its : List Value} {n : Nat} {dvs : List V} (hd : dvs ≠ [])
    (lk : K.lookup f = some ⟨oc, od, .func (PySem.W.fnOf x qual (defArgs st) (defBody st) (defScope st) (.ref T) kV doc pm an cdv ct), osl⟩) (hcd : PySem.W.codeIn K cdv qual = true) (hk : PySem.W.keepIn K (.ref f) = true)
    (lT : K.lookup T = some o) (oT : o.data = .seq its.toArray n) (r : Vals dvs its) : FunD K x qual (defArgs st) (defBody st) (defScope st) dvs [] f (PySem.W.fnOf x qual (defArgs st) (defBody st) (defScope st) (.ref T) kV doc pm an cdv ct) :=
  ⟨⟨oc, od, .ref T, kV, doc, pm, an, cdv, ct, osl, rfl, lk, hcd, .inr ⟨hd, T, o, its, n, rfl, lT, oT, r⟩, .inl rfl⟩, hk⟩
section
variable {P : Program} {w : World} {K : PySem.W.Frag} {mg : Str → Option Value} {base : Heap}
theorem fun_okA {CX : CXT} {x qual : Str} {st : Stmt} {f : Addr} {fd : FuncData} {N ps : List Str} {k : Nat} {sp : Sp} (F : FunA K x qual st f fd) (S : FnScope N ps (defScope st)) (len : ∀ vs H Q E, sp vs H Q E → vs.length = ps.length)
    (hbody : ∀ (cdv : Value) (B : Around) (out : List Env) (z : Shared) (H : Hp) (vs : List V) (Q : VK) (E : XK), RoomG k (B.deeper (envOfC qual (defScope st) z.heap.objs.size f cdv)) → sp vs H Q E →
      ∃ t, PSs (cxOf CX P w K mg base N qual (defScope st) f cdv B out z H E) (defBody st) t ∧ t { nx := fun _ H' => Q .non H', rt := Q } (start N vs) H) : FnOkG P w K mg base CX (k + 1) f fd ps sp := by
  obtain ⟨oc, od, dV, kV, doc, pm, an, cdv, ct, osl, e, lk, hcd⟩ := F.ex
  subst e
  exact fn_ofG lk hcd S len (hbody cdv)
/-- fnX, whatever the defaults -/
theorem fnXA {x qual : Str} {st : Stmt} {f : Addr} {fd : FuncData} {N ps : List Str} {k : Nat} {S : DSx} (F : FunA K x qual st f fd) (sc : FnScope N ps (defScope st)) (len : ∀ as R Xr, S as R Xr → as.length = ps.length)
    (hbody : ∀ (cdv : Value) (A : Around) (outer : List Env) (z : Shared) (H : Hp) (E : XK), RoomG k (A.deeper (envOfC qual (defScope st) z.heap.objs.size f cdv)) → ∀ (xw : XW), Takes (cxOf (L2.CX P w) P w K mg base N qual (defScope st) f cdv A outer z H E) xw.w →
      ∃ t u, DSs (cxOf (L2.CX P w) P w K mg base N qual (defScope st) f cdv A outer z H E) (defBody st) t u ∧ ∀ as R Xr, S as R Xr → (xw.xr = fun err δ => ∃ outs, Xr err outs ∧ OutsIn δ outs) → u (endsOf R) (as ++ List.replicate (N.length - ps.length) .no)) :
    FnOkG P w K mg base (L2.CX P w) (k + 1) f fd ps (spX K S) := by
  refine fun_okA F sc (fun vs H Q E h => ?_) (fun cdv A outer z H vs Q E hr h => ?_)
  · obtain ⟨c, as, R, Xr, _, _, EV, hS, _⟩ := h
    have := EV.len
    rw [List.length_map] at this
    rw [this]
    exact len as R Xr hS
  · obtain ⟨c, as, R, Xr, hh, h0, EV, hS, k, kx⟩ := h
    let xw : XW := ⟨fun cls d _ H => E cls d H, fun err δ => ∃ outs, Xr err outs ∧ OutsIn δ outs⟩
    obtain ⟨t, u, D, red⟩ := hbody cdv A outer z H E hr xw takes_cx
    refine ⟨t, D.ps, ?_⟩
    have l1 : vs.length = ps.length := by
      have := EV.len
      rw [List.length_map] at this
      rw [this]
      exact len as R Xr hS
    have core : ({ c with hid := [] } : Cf) = c := by
      obtain ⟨τ, n, G0, H0, hid⟩ := c
      dsimp only at hh
      subst hh
      rfl
    have EV' : EnvOk K c c.G0 H (L2.start N vs) (as ++ List.replicate (N.length - ps.length) .no) := by
      have y := EV.more (N.length - ps.length)
      have y' : EnvC K c c.G0 H (L2.start N vs) (as ++ List.replicate (N.length - ps.length) .no) := by
        unfold L2.start
        rw [l1]
        exact y
      refine ⟨y', fun cls d err G' H' σ' δ' hx EC er => ?_⟩
      obtain ⟨outs, hX, ho⟩ := hx
      rw [core] at EC
      exact kx err outs cls d G' H' hX (EC.fin ho) er
    refine D.rs c (L2.start N vs) c.G0 H _ _ (endsOf R) EV' (red as R Xr hS rfl) ⟨?_, ?_, ?_, ?_, ?_, hh⟩
    · rintro σ' G' H' δ' ⟨outs, hR, ho⟩ E' e
      exact k .none outs .non G' H' hR (E'.toEnvC.fin ho) .non
    · rintro d δ' v σ' G' H' ⟨outs, hR, ho⟩ E' e r
      exact k d outs v G' H' hR (E'.toEnvC.fin ho) r
    · exact fun σ' G' H' δ' a _ _ => False.elim a
    · exact fun σ' G' H' δ' a _ _ => False.elim a
    · exact fun ds δ' p xs σ' G' H' a _ _ _ _ => False.elim a
end
/-! ### xs[a:b:k] -/
def pickL {α : Type} (xs : List α) (lo hi st : Option Int) : List α := (sliceRange (sliceBounds lo hi st xs.length).1 (sliceBounds lo hi st xs.length).2.1 (sliceBounds lo hi st xs.length).2.2).filterMap (xs[·]?)
theorem vals_places : ∀ {vs : List V} {us : List Value}, Vals vs us → ∀ js : List Nat, Vals (js.filterMap (vs[·]?)) (js.filterMap (us[·]?))
  | _, _, _, [] => .nil
  | vs, us, r, j :: js => by
    have ih := vals_places r js
    rw [List.filterMap_cons, List.filterMap_cons]
    cases e : vs[j]? with
    | none =>
      have e2 : us[j]? = none := by
        rw [List.getElem?_eq_none_iff] at e ⊢
        rw [← r.length]
        exact e
      rw [e2]
      exact ih
    | some v =>
      obtain ⟨u, e2, ru⟩ := r.get e
      rw [e2]
      exact .cons ru ih
theorem rp_places {K : PySem.W.Frag} {G : Hp} : ∀ {vs : List V} {ds : List PyData}, RpAll K G vs ds → ∀ js : List Nat, RpAll K G (js.filterMap (vs[·]?)) (js.filterMap (ds[·]?))
  | _, _, _, [] => .nil
  | vs, ds, r, j :: js => by
    have ih := rp_places r js
    rw [List.filterMap_cons, List.filterMap_cons]
    cases e : vs[j]? with
    | none =>
      have e2 : ds[j]? = none := by
        rw [List.getElem?_eq_none_iff] at e ⊢
        rw [← r.len]
        exact e
      rw [e2]
      exact ih
    | some v =>
      obtain ⟨d, e2, rd⟩ := r.get' e
      rw [e2]
      exact .cons rd ih
def tSlK (K : PySem.W.Frag) (te : TE) (tl th tk : TO) : TE := fun σ H Q => te σ H fun x H1 => tl σ H1 fun lo H2 => th σ H2 fun hi H3 => tk σ H3 fun st H4 => ∃ a xs, x = .ref a ∧ SqL K H4 a xs ∧ st ≠ some 0 ∧ (pickL xs lo hi st).length ≤ sizeLine ∧ ∀ p, H4 p = none → Q (.ref p) (upd H4 p (.lst (pickL xs lo hi st)))
theorem pe_slK {X : Cx} {e : Expr} {lo hi : Option Expr} {k : Expr} {te : TE} {tl th tk : TO} {pos p2 : Pos} (he : PE X e te) (hl : PO X lo tl) (hh : PO X hi th) (hk : PO X (some k) tk) : PE X (.Subscript e (.Slice lo hi (some k) p2) pos) (tSlK X.K te tl th tk) := by
  constructor
  intro pins z σ H Q I h
  refine Subscript_ (thn (he.run pins z σ H _ I h) ?_)
  rintro v z1 ⟨x, H1, I1, r1, q1⟩
  refine wpAny_Slice (thn (hl.run pins z1 σ H1 _ I1 q1) ?_)
  rintro vl z2 ⟨l, H2, I2, pl, q2⟩
  refine thn (hh.run pins z2 σ H2 _ I2 q2) ?_
  rintro vu z3 ⟨u, H3, I3, pu, q3⟩
  refine thn (hk.run pins z3 σ H3 _ I3 q3) ?_
  rintro vs z4 ⟨st, H4, I4, ps, a, xs, rfl, hx, h0, hz, q⟩
  cases r1
  have I5 : Inv X pins σ H4 { z4 with heap := z4.heap.push { cls := .type "slice", data := .fields #[vl, vu, vs] } } := I4.kept (t' := z4.toks) fun b ob q => Heap.get?_push_of_some _ q
  obtain ⟨its, r, ht, hsz⟩ := I5.list hx
  have hlen := r.length
  refine tail_any (ops := [.ref a, .ref z4.heap.objs.size]) ht.isList.typeIs (PySem.slot_list_getitem.lookup) ?_ (by with_unfolding_all rfl)
  refine wpAny_getItem_list_slice ht.isList (Heap.IsSliceOf.new _ vl vu vs) pl pu ps h0 ?_ (by rw [List.size_toArray]; omega)
  have rr : Vals (pickL xs l u st) (slicePick its.toArray l u st).toList := by
    unfold pickL slicePick
    rw [List.size_toArray, ← hlen]
    simpa using vals_places r _
  refine ⟨.ref _, _, I5.laid (t' := z4.toks) (o := .lst (pickL xs l u st)) (fun b ob q => Heap.get?_push_of_some _ q) (Nat.le_refl _) ?_, rfl, q _ (I5.hok.fresh (Nat.le_refl _))⟩
  exact ⟨hz, _, 0, rr, by rw [Heap.get?_push_size _ rfl]⟩
section
variable [XW] {K : PySem.W.Frag}
def dSlK (ue : DTE) (ul uh uk : DTO) : DTE := fun δ R => ue δ fun d δ1 => ul δ1 fun lo δ2 => uh δ2 fun hi δ3 => uk δ3 fun st δ4 => match d with
  | .list ds => st ≠ some 0 ∧ (pickL ds lo hi st).length ≤ sizeLine ∧ R (.list (pickL ds lo hi st)) δ4
  | _ => False
theorem re_slK {te : TE} {ue : DTE} {tl th tk : TO} {ul uh uk : DTO} (he : RE K te ue) (hl : ROp K tl ul) (hh : ROp K th uh) (hk : ROp K tk uk) : RE K (tSlK K te tl th tk) (dSlK ue ul uh uk) := by
  intro c σ G H δ Q R E h k
  refine he c σ G H δ _ _ E h fun d δ1 v G1 H1 h1 E1 e1 r1 => ?_
  refine hl c σ G1 H1 δ1 _ _ E1 h1 fun lo δ2 G2 H2 h2 E2 e2 => ?_
  refine hh c σ G2 H2 δ2 _ _ E2 h2 fun hi δ3 G3 H3 h3 E3 e3 => ?_
  refine hk c σ G3 H3 δ3 _ _ E3 h3 fun st δ4 G4 H4 h4 E4 e4 => ?_
  cases d <;> first
    | exact False.elim h4
    | skip
  rename_i ds
  obtain ⟨h0, hz, h4⟩ := h4
  obtain ⟨a, xs, rfl, q1, q2⟩ := (r1.up ((e2.trans e3).trans e4)).lst_of
  have q3 : RpAll K G4 (pickL xs lo hi st) (pickL ds lo hi st) := by
    unfold pickL
    rw [q2.len]
    exact rp_places q2 _
  refine ⟨a, xs, rfl, .inl (.inl (E4.ex _ _ q1)), h0, by rw [q3.len]; exact hz, fun p hp => ?_⟩
  have A := Al.new (o := .lst (pickL xs lo hi st)) E4.ex hp
  exact k _ δ4 _ _ _ h4 (E4.al A) ((((e1.trans e2).trans e3).trans e4).trans A.g) (.lst upd_same (q3.up A.g))
theorem de_slK {X : Cx} {e : Expr} {lo hi : Option Expr} {k : Expr} {te : TE} {ue : DTE} {tl th tk : TO} {ul uh uk : DTO} {pos p2 : Pos} (he : DE X e te ue) (hl : DO X lo tl ul) (hh : DO X hi th uh) (hk : DO X (some k) tk uk) : DE X (.Subscript e (.Slice lo hi (some k) p2) pos) (tSlK X.K te tl th tk) (dSlK ue ul uh uk) :=
  ⟨pe_slK he.pe hl.po hh.po hk.po, re_slK he.re hl.ro hh.ro hk.ro⟩
/-! ### or, by truth -/
def truD : PyData → Option Bool
  | .bool b => some b
  | .none => some false
  | .list ds => some (!ds.isEmpty)
  | .tuple ds => some (!ds.isEmpty)
  | _ => none
def dOrT (ua ub : DTE) : DTE := fun δ R => ua δ fun d δ1 => match truD d with
  | some true => R d δ1
  | some false => ub δ1 R
  | none => False
theorem tru_rp {G H : Hp} {v : V} {d : PyData} {b : Bool} (r : Rp K G v d) (e : Ex G H) (h : truD d = some b) : TruV K v H b := by
  cases d <;> first
    | (cases h; done)
    | skip
  · cases h
    rw [r.non_of]
    exact rfl
  · cases h
    rw [r.bl_of]
    exact rfl
  · cases h
    obtain ⟨a, xs, rfl, q1, q2⟩ := r.lst_of
    exact .inl ⟨xs, .inl (.inl (e _ _ q1)), by rw [empty_rp q2]⟩
  · cases h
    obtain ⟨a, xs, rfl, q1, q2⟩ := r.tup_of
    exact .inr (.inl ⟨xs, .inl (.inl (e _ _ q1)), by rw [empty_rp q2]⟩)
theorem re_orT {ta tb : TE} {ua ub : DTE} (ha : RE K ta ua) (hb : RE K tb ub) : RE K (tOrT K ta tb) (dOrT ua ub) := by
  intro c σ G H δ Q R E h k
  refine ha c σ G H δ _ _ E h fun d δ1 v G1 H1 h1 E1 e1 r1 => ?_
  cases q : truD d with
  | none =>
    rw [q] at h1
    exact h1.elim
  | some b =>
    rw [q] at h1
    refine ⟨b, tru_rp r1 E1.ex q, ?_⟩
    cases b with
    | true =>
      rw [if_pos rfl]
      exact k d δ1 v G1 H1 h1 E1 e1 r1
    | false =>
      rw [if_neg Bool.false_ne_true]
      exact hb c σ G1 H1 δ1 Q R E1 h1 fun d2 δ2 v2 G2 H2 q2 E2 e2 r2 => k d2 δ2 v2 G2 H2 q2 E2 (e1.trans e2) r2
theorem de_orT {X : Cx} {a b : Expr} {rest : List Expr} {ta tb : TE} {ua ub : DTE} {pos : Pos} (ha : DE X a ta ua) (hb : DE X (.BoolOp .Or (b :: rest) pos) tb ub) : DE X (.BoolOp .Or (a :: b :: rest) pos) (tOrT X.K ta tb) (dOrT ua ub) := ⟨pe_orT ha.pe hb.pe, re_orT ha.re hb.re⟩
/-! ### name op= e, by any rule of values -/
def dAugR (rd : R2D) (i : Nat) (u : DTE) : DTS := fun E δ => match δ[i]? with
  | some (.dat a) => u δ fun d δ1 => rd a d fun x => E.nx (δ1.set i (.dat x))
  | _ => False
theorem rs_augR {r : R2} {rd : R2D} {i : Nat} {te : TE} {ue : DTE} (hr : RO K r rd) (ha : RE K te ue) : RS K (tAug i te r) (dAugR rd i ue) := by
  intro c σ G H δ D E EV h k
  unfold dAugR at h
  cases hs : δ[i]? with
  | none =>
    rw [hs] at h
    exact h.elim
  | some s =>
    rw [hs] at h
    cases s with
    | no => exact h.elim
    | box b => exact h.elim
    | own t ds => exact h.elim
    | scr ds => exact h.elim
    | dat d0 =>
      obtain ⟨x, e, rx⟩ := EV.sl i _ hs
      refine ⟨x, e, ?_⟩
      refine ha c σ G H δ _ _ EV h fun d δ1 v G1 H1 h1 E1 e1 r1 => ?_
      refine hr G1 H1 x v d0 d _ _ E1.ex (rx.up e1) r1 h1 fun y u G2 H2 hy A ry => ?_
      exact k.nx _ G2 H2 _ hy ((E1.al A).put ry) (e1.trans A.g)
theorem iop_mulX {X : Cx} : PIp X .Mult (rI CMulX fun i j => .int (i * j)) := opI fun _ _ _ _ _ _ _ hc q => imul_int q hc.ok
theorem ds_augR (i : Nat) {X : Cx} {x : Str} {op : Operator} {r : R2} {rd : R2D} {e : Expr} {te : TE} {ue : DTE} {p pos : Pos} (hN : X.N.Nodup) (ho : PIp X op r) (hr : RO X.K r rd) (he : DE X e te ue) (hi : X.N[i]? = some x := by rfl) (hx : Loc X.env.scope x := by first | exact Or.inl rfl | exact Or.inr rfl)
    (hf : X.fn x = true ∨ X.env.scope.names.lookup x = some .local := by first | exact .inl rfl | exact .inr rfl | assumption) : DS X (.AugAssign (.Name x p) op e pos) (tAug i te r) (dAugR rd i ue) := ⟨ps_aug hN hi hx he.pe ho hf, rs_augR hr he.re⟩
end
end TL

set_option Elab.async false
set_option linter.all false
set_option maxRecDepth 100000
set_option maxHeartbeats 4000000
/-! TXi: calls of defs that may raise, a default left out, an argument by its name. -/
namespace TL
open PySem PySem.Spec PyProof.Rows L2

section
variable {K : PySem.W.Frag} {x qual : Str} {params : Arguments} {body : List Stmt} {scope : Scope} {dvs : List V} {f : Addr} {fd : FuncData} {ps : List Str}
/-- every parameter without default is given by place, the others by their names -/
theorem kbn_of (F : FunD K x qual params body scope dvs [] f fd) (n : Nat) (ks : List Str) (hd : dvs ≠ [])
    (h : ∀ (T : Addr) (kV doc pm : Value) (an : Option Addr) (cdv ct : Value) (us its ws : List Value), us.length = n → its.length = dvs.length → ws.length = ks.length →
      ∃ k, bindArgs (PySem.W.fnOf x qual params body scope (.ref T) kV doc pm an cdv ct) ⟨us, ks.zip ws⟩ = seqItems? (.ref T) >>= k ∧ k (some its.toArray) = pure (ps.zip (us ++ ws))) : KBn K fd ps n ks (fun us ws => us ++ ws) (fun vs zs => vs ++ zs) := by
  obtain ⟨oc, od, dV, kV, doc, pm, an, cdv, ct, osl, rfl, lk, hcd, hD, _⟩ := F.ex
  rcases hD with ⟨e, _⟩ | ⟨_, T, o, its, m, rfl, lT, oT, rT⟩
  · exact absurd e hd
  · refine ⟨fun z us ws Y l1 l2 => ?_, fun r1 r2 => r1.append r2⟩
    obtain ⟨k, e1, e2⟩ := h T kV doc pm an cdv ct us its ws l1 rT.length.symm l2
    refine BindsTo.of_looks fun M => ?_
    rw [e1]
    exact looks_items Y lT oT (.of_pure e2)
end
section
variable {X : Cx} {CX : CXT} {k n : Nat} {f : Addr} {fd : FuncData} {ps ks : List Str} {sp : Sp} {E : L2.St → XK} {x : Str} {p pos : Pos} {e : Expr} {es : List Expr} {kws : List Keyword} {t tk : TA} {g : List Value → List Value → List Value} {gV : List V → List V → List V}
/-- f(e, .., k = v, ..) -/
def tCallNS (n m : Nat) (sp : Sp) (gV : List V → List V → List V) (E : L2.St → XK) (t tk : TA) : TE := fun σ H Q => t σ H fun vs H1 => tk σ H1 fun zs H2 => vs.length = n ∧ zs.length = m ∧ sp (gV vs zs) H2 Q (E σ)
theorem run_fnNS {pins : List (Addr × Obj)} {σ : L2.St} {H : Hp} {z : Shared} {Q : VK} {us ws : List Value} {vs zs : List V} (F : FnOkG X.prog X.w X.K X.mg X.base CX k f fd ps sp) (hr : RoomG k X.A) (hb : KBn X.K fd ps n ks g gV) (hx : PassesAt CX X σ (E σ))
    (I : Inv X pins σ H z) (r : Vals vs us) (rz : Vals zs ws) (l1 : vs.length = n) (l2 : zs.length = ks.length) (h : sp (gV vs zs) H Q (E σ)) : wpAny (model X.prog X.w) X.A (call (.ref f) us (ks.zip ws)) (EP X pins σ Q) X.xe z := by
  have b := hb.to z us ws I.kIn (r.length.symm.trans l1) (rz.length.symm.trans l2)
  refine wpAny_call (codeAny_mono (F.run X.A X.stack z H _ _ _ Q (E σ) hr I.env0 b (hb.rel r rz) h) ?_)
  rintro (er | fl) z' hq
  · exact hx pins H z er z' I hq
  · cases fl <;> first
      | exact I.after hq
      | exact False.elim hq
theorem pe_callNS (F : FnOkG X.prog X.w X.K X.mg X.base CX k f fd ps sp) (hr : RoomG k X.A) (hg : Gl X x) (hm : X.mg x = some (.ref f)) (hk : PySem.W.keepIn X.K (.ref f) = true) (hb : KBn X.K fd ps n ks g gV) (hx : ∀ σ, PassesAt CX X σ (E σ))
    (ha : PA X (e :: es) t) (hkw : PK X kws tk) (hall : (backToKw pos (keywordEach kws X.env)).all (·.1.isSome) = true := by rfl) (hks : (backToKw pos (keywordEach kws X.env)).filterMap (·.1) = ks := by rfl)
    (hdb : (x == ("__debug__" : Str)) = false := by decide) (he : starEach (e :: es) X.env = (false, eval e X.env) :: starEach es X.env := by rfl)
    (hpl : ((backTo pos (starEach (e :: es) X.env)).any (·.1) || (backToKw pos (keywordEach kws X.env)).any (·.1.isNone)) = false := by rfl) :
    PE X (.Call (.Name x p) (e :: es) kws pos) (tCallNS n ks.length sp gV E t tk) := by
  constructor
  intro pins z σ H Q I h
  refine wpAny_Call_Name_kw (ld_glob I hg hm ?_ hdb)
  refine PySem.W.callWith_KW (h₀ := X.base) I.ok.mod.kin hk hall (thn (ha.run pos pins z σ H _ I h) ?_) hpl he
  rintro us z1 ⟨vs, H1, I1, r, q⟩
  refine thn (hkw.run pos pins z1 σ H1 _ I1 q) ?_
  rintro ws z2 ⟨zs, H2, I2, rz, l1, l2, q2⟩
  refine ⟨I2.kIn, ?_⟩
  rw [hks]
  exact run_fnNS F hr hb (hx σ) I2 r rz l1 l2 q2
end
theorem _root_.L2.Fun.any {K : PySem.W.Frag} {x qual : Str} {st : Stmt} {f : Addr} {fd : FuncData} (F : Fun K x qual st f fd) : FunA K x qual st f fd := by
  obtain ⟨oc, od, kV, doc, pm, an, cdv, ct, osl, h1, h2, h3⟩ := F.ex
  exact ⟨oc, od, .none, kV, doc, pm, an, cdv, ct, osl, h1, h2, h3⟩
/-- where nothing is let out -/
theorem takes_no {X : Cx} : Takes X XW0.w := fun _ _ h => by
  obtain ⟨_, _, _, _, _, _, _, _, _, _, _, _, _, _, _, _, y⟩ := h
  exact y.elim
theorem CAs.app {K : PySem.W.Frag} {G : Hp} {σ : L2.St} : ∀ {vs ws : List V} {cs es : List CA}, CAs K G σ vs cs → CAs K G σ ws es → CAs K G σ (vs ++ ws) (cs ++ es)
  | _, _, _, _, .nil, q => q
  | _, _, _, _, .d r t, q => .d r (CAs.app t q)
  | _, _, _, _, .s r t, q => .s r (CAs.app t q)
/-- a def that may raise, called without its last parameter, whose default is i -/
structure KnXd (P : Program) (w : World) (K : PySem.W.Frag) (mg : Str → Option Value) (base : Heap) (k : Nat) (x : Str) (i : Int) (S : DSx) : Prop where
  ex : ∃ (f : Addr) (fd : FuncData) (ps : List Str) (ds : List Value), FnOkG P w K mg base (L2.CX P w) k f fd ps (spX K S) ∧ mg x = some (.ref f) ∧ PySem.W.keepIn K (.ref f) = true ∧ Vals [V.int i] ds ∧ Binds K fd ps ds
/-- .. called with n by place and then one by the name y -/
structure KnXk (P : Program) (w : World) (K : PySem.W.Frag) (mg : Str → Option Value) (base : Heap) (k : Nat) (x : Str) (n : Nat) (y : Str) (S : DSx) : Prop where
  ex : ∃ (f : Addr) (fd : FuncData) (ps : List Str), FnOkG P w K mg base (L2.CX P w) k f fd ps (spX K S) ∧ mg x = some (.ref f) ∧ PySem.W.keepIn K (.ref f) = true ∧ KBn K fd ps n [y] (fun us ws => us ++ ws) (fun vs zs => vs ++ zs)
section
variable [XW] {K : PySem.W.Frag}
/-- the reading of a call with these arguments -/
def callX (S : DSx) (R : DQ) (cs : List CA) (δ1 : List Sl) : Prop := (muts δ1 cs).Nodup ∧ S (asOf δ1 cs 0) (fun d outs => outs.length = (muts δ1 cs).length ∧ R d (setOuts δ1 (muts δ1 cs) outs)) fun err outs => outs.length = (muts δ1 cs).length ∧ XW.xr err (setOuts δ1 (muts δ1 cs) outs)
theorem callX_ok {S : DSx} {c : Cf} {σ : L2.St} {G G1 H1 : Hp} {δ1 : List Sl} {cs : List CA} {vs : List V} {R : DQ} {Q : VK} (E1 : EnvOk K c G1 H1 σ δ1) (e1 : Ex G G1) (r1 : CAs K G1 σ vs cs) (h : callX S R cs δ1)
    (k : ∀ d δ' v G' H', R d δ' → EnvOk K c G' H' σ δ' → Ex G G' → Rp K G' v d → Q v H') : spX K S vs H1 Q (WE XW.w σ) := by
  obtain ⟨hn, hS⟩ := h
  refine ⟨calleeC σ (muts δ1 cs) G1 H1, asOf δ1 cs 0, _, _, rfl, rfl, callee_env E1 r1 hn, hS, fun d outs v G' H' hR F rv => ?_, fun err outs cls d G' H' hX F er => ?_⟩
  · exact k d _ v G' H' hR.2 (caller_back E1 hn hR.1 F) (e1.trans F.g0) rv
  · have EB := caller_back E1 hn hX.1 F
    exact EB.xw _ _ _ _ _ _ _ hX.2 EB.core er
def dCallXd (S : DSx) (i : Int) (ua : DCA) : DTE := fun δ R => ua δ fun cs δ1 => callX S R (cs ++ [.d (.int i)]) δ1
theorem re_callXd {S : DSx} {i : Int} {t : TA} {ua : DCA} (ha : RCA K t ua) : RE K (tCallSD (spX K S) [V.int i] (WE XW.w) t) (dCallXd S i ua) := by
  intro c σ G H δ Q R E h k
  refine ha c σ G H δ _ _ E h fun cs δ1 vs G1 H1 h1 E1 e1 r1 => ?_
  exact callX_ok E1 e1 (r1.app (.d (.int i) .nil)) h1 k
def dCallXk (S : DSx) (n : Nat) (ua : DCA) (uk : DTE) : DTE := fun δ R => ua δ fun cs δ1 => uk δ1 fun d δ2 => cs.length = n ∧ callX S R (cs ++ [.d d]) δ2
theorem re_callXk {S : DSx} {n : Nat} {t : TA} {ua : DCA} {tv : TE} {uv : DTE} (ha : RCA K t ua) (hv : RE K tv uv) : RE K (tCallNS n 1 (spX K S) (fun vs zs => vs ++ zs) (WE XW.w) t (tCons tv tNil)) (dCallXk S n ua uv) := by
  intro c σ G H δ Q R E h k
  refine ha c σ G H δ _ _ E h fun cs δ1 vs G1 H1 h1 E1 e1 r1 => ?_
  refine hv c σ G1 H1 δ1 _ _ E1 h1 fun d δ2 v G2 H2 h2 E2 e2 r2 => ?_
  obtain ⟨len, h2⟩ := h2
  refine ⟨by rw [r1.len, len], rfl, ?_⟩
  exact callX_ok E2 (e1.trans e2) ((r1.up e2).app (.d r2 .nil)) h2 k
theorem de_callXd {X : Cx} {x : Str} {i : Int} {S : DSx} {k j : Nat} {e : Expr} {es : List Expr} {tca : TA} {uca : DCA} {p pos : Pos} (tk : Takes X XW.w) (kn : KnXd X.prog X.w X.K X.mg X.base k x i S) (hr : RoomG j X.A) (hk : k ≤ j) (ha : DCa X (e :: es) tca uca) (hg : Gl X x := by rfl) (hdb : (x == ("__debug__" : Str)) = false := by decide)
    (he : starEach (e :: es) X.env = (false, eval e X.env) :: starEach es X.env := by rfl) (hpl : (backTo pos (starEach es X.env)).any (·.1) = false := by rfl) : DE X (.Call (.Name x p) (e :: es) [] pos) (tCallSD (spX X.K S) [V.int i] (WE XW.w) tca) (dCallXd S i uca) := by
  obtain ⟨f, fd, ps, ds, F, hm, kp, hv, b⟩ := kn.ex
  exact ⟨pe_callGS F (hr.mono hk) hg hm kp b hv (fun σ => passAt tk σ) ha.pa hdb he hpl, re_callXd ha.ra⟩
theorem de_callXk {X : Cx} {x y : Str} {n : Nat} {S : DSx} {k j : Nat} {e : Expr} {es : List Expr} {tca : TA} {uca : DCA} {p pos pk : Pos} {v : Expr} {tv : TE} {uv : DTE} {nm : Option Str} (tk : Takes X XW.w) (kn : KnXk X.prog X.w X.K X.mg X.base k x n y S) (hr : RoomG j X.A) (hk : k ≤ j) (ha : DCa X (e :: es) tca uca) (hv : DE X v tv uv) (hg : Gl X x := by rfl)
    (hall : (backToKw pos (keywordEach [⟨nm, v, pk⟩] X.env)).all (·.1.isSome) = true := by rfl) (hks : (backToKw pos (keywordEach [⟨nm, v, pk⟩] X.env)).filterMap (·.1) = [y] := by rfl) (hdb : (x == ("__debug__" : Str)) = false := by decide)
    (he : starEach (e :: es) X.env = (false, eval e X.env) :: starEach es X.env := by rfl) (hpl : ((backTo pos (starEach (e :: es) X.env)).any (·.1) || (backToKw pos (keywordEach [⟨nm, v, pk⟩] X.env)).any (·.1.isNone)) = false := by rfl) :
    DE X (.Call (.Name x p) (e :: es) [⟨nm, v, pk⟩] pos) (tCallNS n 1 (spX X.K S) (fun vs zs => vs ++ zs) (WE XW.w) tca (tCons tv tNil)) (dCallXk S n uca uv) := by
  obtain ⟨f, fd, ps, F, hm, kp, b⟩ := kn.ex
  exact ⟨pe_callNS F (hr.mono hk) hg hm kp b (fun σ => passAt tk σ) ha.pa (pk_cons hv.pe pk_nil) hall hks hdb he hpl, re_callXk ha.ra hv.re⟩
end
end TL

set_option Elab.async false
set_option linter.all false
set_option maxRecDepth 100000
set_option maxHeartbeats 4000000
/-! TXj: small things: targets and == within comprehensions; statements one by one; texts without end. -/
namespace TL
open PySem PySem.Spec L2
section
variable [XW]
theorem dg_tupI {X : Cx} {K : PySem.W.Frag} {es : List Expr} {pos : Pos} {gs : TGs} {ugs : DTGs} {js : List Nat} {k n : Nat} (hc : X.calm = true) (h : DGs X es gs ugs js) (hK : X.K = K := by rfl) (hn : (assignEach es X.env).length = n := by rfl) (hst : (assignEach es X.env).findIdx? (·.1) = none := by rfl) : DG X (.Tuple es k pos) (gTup K n gs) (dgTup n ugs) js := by
  subst hK
  exact dg_tup hc h hn hst
theorem dt_eqI {X : Cx} {K : PySem.W.Frag} {a b : Expr} {ta tb : TE} {ua ub : DTE} {pos : Pos} (hu : X.A.units + 64 < cLine) (ha : DE X a ta ua) (hb : DE X b tb ub) (hK : X.K = K := by rfl) (hm : lastMarks [CmpOp.Eq] [b] = false := by first | rfl | exact nomark _) :
    DT X (.Compare a [.Eq] [b] pos) (tTest (tOp (rEqD K) ta tb)) (dTest (dOp dEq ua ub)) := by
  subst hK
  exact dt_cmp (op_eqD hu) ro_eq hm ha hb
end
/-! ### where the context is bound: K told apart -/
theorem de_efI [XW] {X : Cx} {K : PySem.W.Frag} {e : Expr} {pos : Pos} {f : Str} {te : TE} {ue : DTE} (he : DE X e te ue) (hK : X.K = K := by rfl) (hb : attributeBase e f X.env (eval e X.env) = eval e X.env := by rfl) : DE X (.Attribute e f pos) (tEf K f te) (dEf K f ue) := by
  subst hK
  exact de_ef he hb
theorem de_isEI [XW] {X : Cx} {K : PySem.W.Frag} {e : Expr} {Tn : Str} {c : V} {cv : Value} {p p2 pos : Pos} {te : TE} {ue : DTE} (hm : X.mg "isinstance" = none) (he : DE X e te ue) (hc : PE X (.Name Tn p2) (tC c)) (hcv : ∀ u, RelV c u → u = cv) (hK : X.K = K := by rfl) (hg : Gl X "isinstance" := by rfl) (hb : bootBuiltins "isinstance" = some (.builtin "isinstance") := by decide +kernel)
    (hs : starEach [e, .Name Tn p2] X.env = (false, eval e X.env) :: starEach [.Name Tn p2] X.env := by rfl) (hs2 : starEach [.Name Tn p2] X.env = (false, eval (.Name Tn p2) X.env) :: starEach [] X.env := by rfl) (hpl : (backTo pos (starEach [.Name Tn p2] X.env)).any (·.1) = false := by rfl) :
    DE X (.Call (.Name "isinstance" p) [e, .Name Tn p2] [] pos) (tCB (rIsEr K) (tCons te (tCons (tC c) tNil))) (dIsE K cv ue) := by
  subst hK
  exact de_isE hm he hc hcv hg hb hs hs2 hpl
theorem de_callXI [XW] {X : Cx} {K : PySem.W.Frag} {x : Str} {S : DSx} {k j : Nat} {e : Expr} {es : List Expr} {tca : TA} {uca : DCA} {p pos : Pos} (tk : Takes X XW.w) (kn : KnX X.prog X.w X.K X.mg X.base k x S) (hr : RoomG j X.A) (hk : k ≤ j) (ha : DCa X (e :: es) tca uca) (hK : X.K = K := by rfl) (hg : Gl X x := by rfl) (hdb : (x == ("__debug__" : Str)) = false := by decide)
    (he : starEach (e :: es) X.env = (false, eval e X.env) :: starEach es X.env := by rfl) (hpl : (backTo pos (starEach es X.env)).any (·.1) = false := by rfl) : DE X (.Call (.Name x p) (e :: es) [] pos) (tCallSD (spX K S) [] (WE XW.w) tca) (dCallX S uca) := by
  subst hK
  exact de_callX tk kn hr hk ha hg hdb he hpl
theorem dcat_c [XW] {X : Cx} {x n : Str} {c : Value} {suite : List Stmt} {b₀ : Stmt} {np pos' : Pos} {ts : TS} {us : DTS} {wh : Ends → WX} {hs : List ExceptHandler} {hx : DEnds → PyData → List Sl → Prop} (i : Nat) (hN : X.N.Nodup) (hc : Names X x c) (hsu : ∀ (a : Addr) (pn : List (Addr × Obj)), DSs (X.suite a pn) (b₀ :: suite) ts us) (hr : DCat X hs wh hx)
    (hst : X.stack = X.env :: X.outer := by rfl) (hi : X.N[i]? = some n := by rfl) (hln : X.env.kindOf n = some .local := by rfl) : DCat X (.ExceptHandler (some (.Name x np)) (some n) (b₀ :: suite) pos' :: hs) (wCat X.K c i ts wh) (hxCat X.K c i us hx) := dcat_cons hst hN hi hln hc hsu hr
theorem sq_if {c : DTT} {a rest : DTS} {E : DEnds} {δ : List Sl} (h : c δ fun b δ1 => if b = true then a { E with nx := rest E } δ1 else rest E δ1) : dSeq (dIfS c a dNext) rest E δ := h
theorem sq_asg {u : DTE} {g : DTG} {rest : DTS} {E : DEnds} {δ : List Sl} (h : u δ fun d δ1 => g d δ1 (rest E)) : dSeq (dAsg u g) rest E δ := h
theorem sq_drop {u : DTE} {rest : DTS} {E : DEnds} {δ : List Sl} (h : u δ fun _ δ1 => rest E δ1) : dSeq (dDrop u) rest E δ := h
end TL

set_option Elab.async false
set_option linter.all false
set_option maxRecDepth 100000
set_option maxHeartbeats 4000000
/-! TXn: an error of a class of one's own is made as a value (it is given to a name, not raised). -/
namespace TL
open PySem PySem.Spec PyProof.Rows L2

/-- C(..), a value -/
def tMkV (C : Addr) (fields : List Str) (ta : TA) : TE := fun σ H Q => ta σ H fun vs H1 => vs.length = fields.length ∧ vs.length ≤ 1000 ∧
  ∀ a d, H1 a = none → H1 d = none → d ≠ a → Q (.ref a) (upd (upd H1 d (.xd (fields.zip vs).reverse)) a (errO a C (some d)))
section
variable {X : Cx} {pins : List (Addr × Obj)} {σ : L2.St} {H H1 : Hp} {z : Shared} {a C dx : Addr} {fs : List (Str × V)}
/-- what was laid step by step is from here on an error of ours -/
theorem err_of (I : Inv X pins σ H z) (ea : H a = some (exo a C (some dx))) (ed : H dx = some (exd dx fs)) (ne : dx ≠ a) (q : ∀ b, b ≠ a → b ≠ dx → H b = H1 b) :
    Inv X pins σ (upd (upd H1 dx (.xd fs)) a (errO a C (some dx))) z := by
  obtain ⟨t1, ho⟩ := exo_at I.hok ea
  have hx : ObjOk X.prog X.w H z.heap dx (exd dx fs) := I.hok dx _ ed
  obtain ⟨mA, ns, hr⟩ := exd_at I.hok ed
  have hd : ∃ o, z.heap.get? dx = some o := by
    obtain ⟨o, _, _, w, _⟩ := ns
    exact ⟨o, w⟩
  obtain ⟨hp, gs, dr, tk, ops⟩ := z
  have I1 := I.write (t' := tk) (x := dx) (e := dx) (o := .xd fs) (h' := hp) (by rw [ed]; exact True.intro) (.inl rfl) (fun b u _ w => w) hd ⟨mA, ns, hr⟩
  have e1 : upd H dx (.xd fs) a = some (exo a C (some dx)) := by rw [upd_ne ne.symm, ea]
  have I2 := I1.write (t' := tk) (x := a) (e := a) (o := errO a C (some dx)) (h' := hp) (by rw [e1]; exact True.intro) (.inl rfl) (fun b u _ w => w) ⟨_, ho⟩ (errO_ok ho rfl rfl rfl)
  have eq : upd (upd H dx (.xd fs)) a (errO a C (some dx)) = upd (upd H1 dx (.xd fs)) a (errO a C (some dx)) := by
    funext b
    by_cases ba : b = a
    · rw [ba, upd_same, upd_same]
    · rw [upd_ne ba, upd_ne ba]
      by_cases bd : b = dx
      · rw [bd, upd_same, upd_same]
      · rw [upd_ne bd, upd_ne bd, q b ba bd]
  rw [eq] at I2
  exact I2
end
section
variable {X : Cx} {x : Str} {C : Addr} {fields : List Str} {e : Expr} {es : List Expr} {ta : TA} {p pos : Pos}
theorem pe_mkV {k : Nat} (kn : KnE X.prog X.w X.K X.mg X.base x C fields) (hr : RoomG (k + 2) X.A) (hg : Gl X x) (ha : PA X (e :: es) ta)
    (hdb : (x == ("__debug__" : Str)) = false := by decide) (he : starEach (e :: es) X.env = (false, eval e X.env) :: starEach es X.env := by rfl) (hpl : (backTo pos (starEach es X.env)).any (·.1) = false := by rfl) :
    PE X (.Call (.Name x p) (e :: es) [] pos) (tMkV C fields ta) := by
  constructor
  intro pins σ0 σ H Q I h
  obtain ⟨fI, fd, ps, CX, iC, tI, F1, hb, hx⟩ := kn.ini
  have T := kn.ec
  obtain ⟨newId, B, bmB, FB, _, qi, _⟩ := T.base
  refine wpAny_Call_Name_kw (ld_glob I hg kn.at_ ?_ hdb)
  refine PySem.W.callWith_K (h₀ := X.base) I.ok.mod.kin T.kp (thn (ha.run pos pins σ0 σ H _ I h) fun us z1 ⟨vs, H1, I1, r1, len, hz, q1⟩ => ⟨I1.kIn, ?_⟩) he hpl
  obtain ⟨hp, gs, dr, tk, ops⟩ := z1
  obtain ⟨nm, N, qn, bs, bm, hdct, sn, sub, ab, col, dd, k0, k1, k2, k3, k5, hC, hT⟩ := PySem.W.excInit_of I1.kIn qi
  have one : hp.objs.size ≤ hp.objs.size + 1 := Nat.le_succ _
  generalize hE : hp.objs.size + 1 = a at one
  have hn : H1 a = none := I1.hok.fresh one
  have keep : ∀ b o, hp.get? b = some o → ((hp.push (PySem.W.kdv_tup us)).push (PySem.HandSPX.excO C hp.objs.size)).get? b = some o := fun b o w => Heap.get?_push_of_some _ (Heap.get?_push_of_some _ w)
  have at_a : ((hp.push (PySem.W.kdv_tup us)).push (PySem.HandSPX.excO C hp.objs.size)).get? a = some (PySem.HandSPX.excO C hp.objs.size) := by
    subst hE
    heap_get
  have I2 : Inv X pins σ (upd H1 a (exo a C none)) ⟨(hp.push (PySem.W.kdv_tup us)).push (PySem.HandSPX.excO C hp.objs.size), gs, dr, tk, ops⟩ := I1.laid (t' := tk) (a := a) (o := exo a C none) keep one (exo_ok at_a)
  have rel : Vals (V.ref a :: vs) (Value.ref a :: us) := .cons rfl r1
  have hlen := Paired.length r1
  have hus : us.length ≤ sizeLine := by
    rw [← hlen, sizeLine_eq]
    omega
  have sp : spInit C fields (V.ref a :: vs) (upd H1 a (exo a C none))
      (fun v H2 => v = .non ∧ ∃ dx : Addr, H2 a = some (exo a C (some dx)) ∧ H2 dx = some (exd dx (fields.zip vs).reverse) ∧ H1 dx = none ∧ dx ≠ a ∧ ∀ b, b ≠ a → b ≠ dx → H2 b = H1 b) (fun _ _ _ => False) := by
    refine ⟨a, vs, rfl, len, upd_same, fun dx H2 n1 n2 e1 e2 e3 => ⟨rfl, dx, e1, e2, ?_, n2, fun b b1 b2 => ?_⟩⟩
    · rw [upd_ne n2] at n1
      exact n1
    · rw [e3 b b1 b2, upd_ne b1]
  have lenP : (Value.ref a :: us ++ []).length = ps.length := by
    rw [List.append_nil, ← F1.len _ _ _ _ sp, List.length_cons, List.length_cons, hlen]
  have bnd := hb _ (Value.ref a :: us) I2.kIn lenP
  rw [List.append_nil] at bnd
  subst hE
  refine wpAny_call (TXE.kw_call (kw := []) FB hT hC (PySem.W.looks_findIn I1.kIn iC) (fun self => PySem.W.bind_fn I1.kIn self tI) hus
    (codeAny_mono (F1.run _ X.stack _ _ ⟨Value.ref (hp.objs.size + 1) :: us, []⟩ (Value.ref (hp.objs.size + 1) :: us) _ _ (fun _ _ _ => False) ((hr.make C us []).mono (by omega)) (I2.env0.make C us []) bnd rel sp) ?_))
  rintro (er | fl) z' hq
  · exact hx X rfl rfl pins σ _ _ er z' I2 hq
  · cases fl with
    | ret u =>
      obtain ⟨v, H3, I3, rv, rfl, dx, ea, ed, hd1, ne, q2⟩ := I2.after hq
      refine ⟨rv, ?_⟩
      exact ⟨.ref (hp.objs.size + 1), _, err_of I3 ea ed ne q2, rfl, q1 (hp.objs.size + 1) dx hn hd1 ne⟩
    | next => exact False.elim hq
    | brk => exact False.elim hq
    | cont => exact False.elim hq
end
section
variable [XW] {K : PySem.W.Frag}
/-- C(..), a datum -/
def dMkV (C : Addr) (fields : List Str) (ua : DTA) : DTE := fun δ R => ua δ fun ds δ1 => ds.length = fields.length ∧ fields.length ≤ 1000 ∧ R (errD C fields.reverse ds.reverse) δ1
theorem re_mkV {C : Addr} {fields : List Str} {ta : TA} {ua : DTA} (ha : RA K ta ua) : RE K (tMkV C fields ta) (dMkV C fields ua) := by
  intro c σ G H δ Q R EV h k
  refine ha c σ G H δ _ _ EV h fun ds δ1 vs G1 H1 h1 E1 e1 r1 => ?_
  obtain ⟨len, big, hR⟩ := h1
  have len1 := r1.len
  refine ⟨by rw [len1, len], by omega, fun a d na nd ne => ?_⟩
  have A1 := Al.new (o := .xd (fields.zip vs).reverse) E1.ex nd
  have E2 := E1.al A1
  have na2 : upd H1 d (.xd (fields.zip vs).reverse) a = none := by rw [upd_ne ne.symm, na]
  have A2 := Al.new (o := errO a C (some d)) E2.ex na2
  have E3 := E2.al A2
  refine k _ δ1 _ _ _ hR E3 ((e1.trans A1.g).trans A2.g) (.err upd_same (?_ : _ = some (HO.xd (fields.zip vs).reverse)) (zip_rev (by rw [len1, len])) ((r1.rev.up A1.g).up A2.g) ?_)
  · rw [upd_ne ne, upd_same]
  · rw [List.length_reverse, List.length_reverse, len]
theorem de_mkV {X : Cx} {x : Str} {C : Addr} {fields : List Str} {e : Expr} {es : List Expr} {ta : TA} {ua : DTA} {p pos : Pos} {j : Nat} (kn : KnE X.prog X.w X.K X.mg X.base x C fields) (hr : RoomG j X.A) (hk : 2 ≤ j) (ha : DA X (e :: es) ta ua) (hg : Gl X x := by rfl)
    (hdb : (x == ("__debug__" : Str)) = false := by decide) (he : starEach (e :: es) X.env = (false, eval e X.env) :: starEach es X.env := by rfl) (hpl : (backTo pos (starEach es X.env)).any (·.1) = false := by rfl) :
    DE X (.Call (.Name x p) (e :: es) [] pos) (tMkV C fields ta) (dMkV C fields ua) :=
  ⟨pe_mkV (k := 0) kn (hr.mono hk) hg ha.pa hdb he hpl, re_mkV ha.ra⟩
end
end TL

set_option Elab.async false
set_option linter.all false
set_option maxRecDepth 100000
set_option maxHeartbeats 4000000
/-! TXo: what the built-in KeyError is, as a base of own errors. -/
namespace TL
open PySem PySem.Spec PyProof.Rows

theorem key_store : StoreFacts "KeyError" [.type "KeyError", .type "LookupError", .type "Exception", .type "BaseException", .type "object"] "object.__setattr__" "object" where
  kind := by decide +kernel
  split := by decide +kernel
  hasOwner := by decide +kernel
  entry := PySem.F.entry_object_sa
  mro := by kernel_rfl
  slot := .of (owner := "object") (n := "__setattr__") (by rw [typeLookup_type, builtinLookup_eq_fast]; kernel_rfl) (by decide +kernel) (by decide +kernel) (by decide +kernel)
    (by first | exact .inl (by decide +kernel) | exact .inr (by decide +kernel)) (by rw [isSubtype_type]; kernel_rfl)
  args := fun _ _ _ => by unfold argsOk; kernel_rfl
  passes := fun _ => by kernel_rfl
theorem key_new : TXE.NewOver "LookupError.__new__" [.type "KeyError", .type "LookupError", .type "Exception", .type "BaseException", .type "object"] :=
  ⟨"LookupError", _, _, PySem.F.excBase_LookupError, by decide +kernel, by decide +kernel, by decide +kernel⟩
end TL

set_option Elab.async false
set_option linter.all false
set_option maxRecDepth 100000
set_option maxHeartbeats 4000000
/-! TXq: errors made as values by the names of their fields; errors of classes without __init__. -/
namespace TL
open PySem PySem.Spec PyProof.Rows L2

/-- names given last field first: what the keywords bring, in the fields' order -/
def tRev (t : TA) : TA := fun σ H Q => t σ H fun vs H1 => Q vs.reverse H1
/-- the class x, called by the names of its fields, the last field first -/
structure KnEk (P : Program) (w : World) (K : PySem.W.Frag) (mg : Str → Option Value) (base : Heap) (x : Str) (C : Addr) (fields : List Str) : Prop where
  ec : ErrC K C
  at_ : mg x = some (.ref C)
  ini : ∃ (fI : Addr) (fd : FuncData) (ps : List Str) (CX : CXT), PySem.W.findIn K (.ref C) "__init__" = some (some (.ref fI)) ∧ PySem.W.typeIn K (.ref fI) = some (.type "function") ∧ FnOkG P w K mg base CX 1 fI fd ps (spInit C fields) ∧
    KBn K fd ps 1 fields.reverse (fun us ws => us ++ ws.reverse) (fun vs zs => vs ++ zs.reverse) ∧ ∀ X : Cx, X.prog = P → X.w = w → Passes CX X (fun _ _ _ => False)
/-- parameters without defaults, given by their names from the last -/
theorem kbn_rev {K : PySem.W.Frag} {x qual : Str} {st : Stmt} {f : Addr} {fd : FuncData} {ps : List Str} (F : Fun K x qual st f fd) (ks : List Str)
    (h : ∀ (kV doc pm : Value) (an : Option Addr) (cdv ct : Value) (us ws : List Value), us.length = 1 → ws.length = ks.length →
      bindArgs (PySem.W.fnOf x qual (defArgs st) (defBody st) (defScope st) .none kV doc pm an cdv ct) ⟨us, ks.zip ws⟩ = pure (ps.zip (us ++ ws.reverse))) : KBn K fd ps 1 ks (fun us ws => us ++ ws.reverse) (fun vs zs => vs ++ zs.reverse) := by
  obtain ⟨oc, od, kV, doc, pm, an, cdv, ct, osl, rfl, lk, hcd⟩ := F.ex
  refine ⟨fun s us ws _ l1 l2 => .of_eq (h kV doc pm an cdv ct us ws l1 l2), fun r1 r2 => r1.append ?_⟩
  induction r2 with
  | nil => exact .nil
  | cons q _ ih =>
    rw [List.reverse_cons, List.reverse_cons]
    exact ih.append (.cons q .nil)
section
variable {X : Cx} {x : Str} {C : Addr} {fields : List Str} {kws : List Keyword} {tk : TA} {p pos : Pos}
theorem pe_mkK {k : Nat} (kn : KnEk X.prog X.w X.K X.mg X.base x C fields) (hr : RoomG (k + 2) X.A) (hg : Gl X x) (hk : PK X kws tk)
    (hall : (backToKw pos (keywordEach kws X.env)).all (·.1.isSome) = true := by rfl) (hks : (backToKw pos (keywordEach kws X.env)).filterMap (·.1) = fields.reverse := by rfl)
    (hdb : (x == ("__debug__" : Str)) = false := by decide) (hpl : ((backTo pos (starEach [] X.env)).any (·.1) || (backToKw pos (keywordEach kws X.env)).any (·.1.isNone)) = false := by rfl) :
    PE X (.Call (.Name x p) [] kws pos) (tMkV C fields (tRev tk)) := by
  constructor
  intro pins σ0 σ H Q I h
  obtain ⟨fI, fd, ps, CX, iC, tI, F1, hb, hx⟩ := kn.ini
  have T := kn.ec
  obtain ⟨newId, B, bmB, FB, _, qi, _⟩ := T.base
  refine wpAny_Call_Name_kw (ld_glob I hg kn.at_ ?_ hdb)
  refine PySem.W.callWith_KW0 (h₀ := X.base) I.ok.mod.kin T.kp hall (thn (hk.run pos pins σ0 σ H _ I h) fun ws z1 ⟨zs, H1, I1, r1, len, hz, q1⟩ => ⟨I1.kIn, ?_⟩) hpl
  rw [hks]
  show wpAny _ _ (call (.ref C) [] (fields.reverse.zip ws)) _ _ _
  obtain ⟨hp, gs, dr, tk', ops⟩ := z1
  obtain ⟨nm, N, qn, bs, bm, hdct, sn, sub, ab, col, dd, k0, k1, k2, k3, k5, hC, hT⟩ := PySem.W.excInit_of I1.kIn qi
  have one : hp.objs.size ≤ hp.objs.size + 1 := Nat.le_succ _
  generalize hE : hp.objs.size + 1 = a at one
  have hn : H1 a = none := I1.hok.fresh one
  have keep : ∀ b o, hp.get? b = some o → ((hp.push (PySem.W.kdv_tup [])).push (PySem.HandSPX.excO C hp.objs.size)).get? b = some o := fun b o w => Heap.get?_push_of_some _ (Heap.get?_push_of_some _ w)
  have at_a : ((hp.push (PySem.W.kdv_tup [])).push (PySem.HandSPX.excO C hp.objs.size)).get? a = some (PySem.HandSPX.excO C hp.objs.size) := by
    subst hE
    heap_get
  have I2 : Inv X pins σ (upd H1 a (exo a C none)) ⟨(hp.push (PySem.W.kdv_tup [])).push (PySem.HandSPX.excO C hp.objs.size), gs, dr, tk', ops⟩ := I1.laid (t' := tk') (a := a) (o := exo a C none) keep one (exo_ok at_a)
  have rel : Vals (V.ref a :: zs.reverse) (Value.ref a :: ws.reverse) := hb.rel (vs := [V.ref a]) (us := [Value.ref a]) (.cons rfl .nil) r1
  have lzw : zs.length = ws.length := Paired.length r1
  have lf : ws.length = fields.reverse.length := by rw [← lzw, List.length_reverse, ← len, List.length_reverse]
  have sp : spInit C fields (V.ref a :: zs.reverse) (upd H1 a (exo a C none))
      (fun v H2 => v = .non ∧ ∃ dx : Addr, H2 a = some (exo a C (some dx)) ∧ H2 dx = some (exd dx (fields.zip zs.reverse).reverse) ∧ H1 dx = none ∧ dx ≠ a ∧ ∀ b, b ≠ a → b ≠ dx → H2 b = H1 b) (fun _ _ _ => False) := by
    refine ⟨a, zs.reverse, rfl, len, upd_same, fun dx H2 n1 n2 e1 e2 e3 => ⟨rfl, dx, e1, e2, ?_, n2, fun b b1 b2 => ?_⟩⟩
    · rw [upd_ne n2] at n1
      exact n1
    · rw [e3 b b1 b2, upd_ne b1]
  have bnd := hb.to _ [Value.ref a] ws I2.kIn rfl lf
  subst hE
  refine wpAny_call (TXE.kw_call (kw := fields.reverse.zip ws) FB hT hC (PySem.W.looks_findIn I1.kIn iC) (fun self => PySem.W.bind_fn I1.kIn self tI) (by show 0 ≤ sizeLine; omega)
    (codeAny_mono (F1.run _ X.stack _ _ ⟨[Value.ref (hp.objs.size + 1)], fields.reverse.zip ws⟩ (Value.ref (hp.objs.size + 1) :: ws.reverse) _ _ (fun _ _ _ => False) ((hr.make C [] (fields.reverse.zip ws)).mono (by omega)) (I2.env0.make C [] (fields.reverse.zip ws)) bnd rel sp) ?_))
  rintro (er | fl) z' hq
  · exact hx X rfl rfl pins σ _ _ er z' I2 hq
  · cases fl with
    | ret u =>
      obtain ⟨v, H3, I3, rv, rfl, dx, ea, ed, hd1, ne, q2⟩ := I2.after hq
      exact ⟨rv, .ref (hp.objs.size + 1), _, err_of I3 ea ed ne q2, rfl, q1 (hp.objs.size + 1) dx hn hd1 ne⟩
    | next => exact False.elim hq
    | brk => exact False.elim hq
    | cont => exact False.elim hq
end
/-- the class x without an __init__ of its own -/
structure KnE0 (K : PySem.W.Frag) (mg : Str → Option Value) (x : Str) (C : Addr) : Prop where
  ec : ErrC K C
  at_ : mg x = some (.ref C)
  ini : ∃ (B newId initId : String) (bmB : List Value), ExcBaseFacts B newId initId bmB ∧ PySem.W.excIn K C bmB newId = true
def tMk0 (C : Addr) : TE := fun _ H Q => ∀ a, H a = none → Q (.ref a) (upd H a (errO a C none))
theorem pe_mk0 {X : Cx} {x : Str} {C : Addr} {p pos : Pos} (kn : KnE0 X.K X.mg x C) (hg : Gl X x) (hdb : (x == ("__debug__" : Str)) = false := by decide) : PE X (.Call (.Name x p) [] [] pos) (tMk0 C) := by
  constructor
  intro pins σ0 σ H Q I h
  obtain ⟨B, newId, initId, bmB, F, q⟩ := kn.ini
  refine wpAny_Call_Name_kw (ld_glob I hg kn.at_ ?_ hdb)
  refine PySem.W.callWith_K0 I.kIn kn.ec.kp ?_
  show wpAny _ _ (call (.ref C) []) _ _ _
  obtain ⟨bm, N, nm, qn, bs, hdct, sn, sub, ab, col, dd, k0, k1, k2, k3, k5, mN, hC, hN, hni, T⟩ := exc_obj I.kIn q
  refine wpAny_call_exc_subT F T hC hN hni (fun h' e hm => ?_) (by show 0 ≤ sizeLine; omega)
  obtain ⟨t, he, _, _⟩ := hm.there
  have he' := I.hok.gone hm.new
  exact ⟨.ref e, _, I.laidN (h' := h') hm.keeps hm.new he' (errO_ok he rfl rfl rfl), rfl, h e he'⟩
section
variable [XW] {K : PySem.W.Frag}
def dRev (u : DTA) : DTA := fun δ R => u δ fun ds δ1 => R ds.reverse δ1
theorem ra_rev {t : TA} {u : DTA} (h : RA K t u) : RA K (tRev t) (dRev u) := by
  intro c σ G H δ Q R E hu k
  exact h c σ G H δ _ _ E hu fun ds δ' vs G' H' hR E' e' r' => k _ δ' _ G' H' hR E' e' r'.rev
/-- keywords' values, by data -/
structure DK (X : Cx) (kws : List Keyword) (t : TA) (u : DTA) : Prop where
  pk : PK X kws t
  ra : RA X.K t u
theorem dk_nil {X : Cx} : DK X [] tNil dNil := ⟨pk_nil, ra_nil⟩
theorem dk_cons {X : Cx} {nm : Option Str} {e : Expr} {kpos : Pos} {kws : List Keyword} {te : TE} {ue : DTE} {t : TA} {u : DTA} (h : DE X e te ue) (r : DK X kws t u) : DK X (⟨nm, e, kpos⟩ :: kws) (tCons te t) (dCons ue u) := ⟨pk_cons h.pe r.pk, ra_cons h.re r.ra⟩
theorem de_mkK {X : Cx} {x : Str} {C : Addr} {fields : List Str} {kws : List Keyword} {t : TA} {u : DTA} {p pos : Pos} {j : Nat} (kn : KnEk X.prog X.w X.K X.mg X.base x C fields) (hr : RoomG j X.A) (hj : 2 ≤ j) (hk : DK X kws t u) (hg : Gl X x := by rfl)
    (hall : (backToKw pos (keywordEach kws X.env)).all (·.1.isSome) = true := by rfl) (hks : (backToKw pos (keywordEach kws X.env)).filterMap (·.1) = fields.reverse := by rfl)
    (hdb : (x == ("__debug__" : Str)) = false := by decide) (hpl : ((backTo pos (starEach [] X.env)).any (·.1) || (backToKw pos (keywordEach kws X.env)).any (·.1.isNone)) = false := by rfl) :
    DE X (.Call (.Name x p) [] kws pos) (tMkV C fields (tRev t)) (dMkV C fields (dRev u)) :=
  ⟨pe_mkK (k := 0) kn (hr.mono hj) hg hk.pk hall hks hdb hpl, re_mkV (ra_rev hk.ra)⟩
def dMk0 (C : Addr) : DTE := fun δ R => R (errD C [] []) δ
theorem re_mk0 {C : Addr} : RE K (tMk0 C) (dMk0 C) := by
  intro c σ G H δ Q R E h k a na
  have A1 := Al.new (o := errO a C none) E.ex na
  exact k _ δ _ _ _ h (E.al A1) A1.g (.err0 upd_same)
theorem de_mk0 {X : Cx} {x : Str} {C : Addr} {p pos : Pos} (kn : KnE0 X.K X.mg x C) (hg : Gl X x := by rfl) (hdb : (x == ("__debug__" : Str)) = false := by decide) : DE X (.Call (.Name x p) [] [] pos) (tMk0 C) (dMk0 C) := ⟨pe_mk0 kn hg hdb, re_mk0⟩
end
end TL

set_option Elab.async false
set_option linter.all false
set_option maxRecDepth 100000
set_option maxHeartbeats 4000000
/-! TXs: data held against data where only the lesser depth is bounded. -/
namespace TL
open PySem PySem.Spec L2
variable [XW]
/-- ==, != where one of both may be as deep as it likes -/
def rEqW (K : PySem.W.Frag) (neg : Bool) : R2 := fun a b Hp1 Q1 => ∃ da db, (Dp K Hp1 a da ∧ Dp K Hp1 b db) ∧ (da.canLay0 = true ∧ db.canLay0 = true ∧ min da.depth db.depth ≤ 64) ∧ Q1 (.bl (if neg = true then !(PyData.eqv da db) else PyData.eqv da db)) Hp1
theorem op_eqW {X : Cx} (neg : Bool) (roomy : X.A.units + 64 < cLine) : OpR X (compareOp (if neg = true then .NotEq else .Eq)) (rEqW X.K neg) := by
  rintro pins z σ G1 a b va vb Q1 J ra rb ⟨da, db, ⟨ha, hb⟩, ⟨ca, cb, dep⟩, fin⟩
  obtain ⟨_, one⟩ := Dp.reads J da a va ha ra
  obtain ⟨_, two⟩ := Dp.reads J db b vb hb rb
  cases neg with
  | true => exact SeqAt.compareNe_reads one two ca cb (by omega) ⟨.bl _, G1, J, rfl, fin⟩
  | false => exact SeqAt.compareEq_reads one two ca cb (by omega) ⟨.bl _, G1, J, rfl, fin⟩
def dEqW (neg : Bool) : R2D := fun d1 d2 R => (d1.canLay0 = true ∧ d2.canLay0 = true ∧ min d1.depth d2.depth ≤ 64) ∧ R (.bool (if neg = true then !(PyData.eqv d1 d2) else PyData.eqv d1 d2))
theorem ro_eqW {K : PySem.W.Frag} (neg : Bool) : RO K (rEqW K neg) (dEqW neg) := by
  intro G H x y d1 d2 Q R e r1 r2 h k
  obtain ⟨⟨h1, h2, h3⟩, h4⟩ := h
  exact ⟨d1, d2, ⟨Rp.dp d1 x (r1.up e) h1, Rp.dp d2 y (r2.up e) h2⟩, ⟨h1, h2, h3⟩, k _ _ G H h4 (Al.refl e) (.bl _)⟩
/-- x in a tuple, the like -/
def rInW (K : PySem.W.Frag) : R2 := fun a b Hp1 Q1 => ∃ da ds, (Dp K Hp1 a da ∧ Dp K Hp1 b (.tuple ds)) ∧ (da.canLay0 = true ∧ PyData.canLayAll0 ds = true ∧ min (PyData.depthAll ds) da.depth ≤ 64) ∧ Q1 (.bl (ds.any fun y => PyData.eqv y da)) Hp1
theorem op_inW {X : Cx} (roomy : X.A.units + 65 < cLine) : OpR X (compareOp .In) (rInW X.K) := by
  rintro pins z σ G1 a b va vb Q1 J ra rb ⟨da, ds, ⟨ha, hb⟩, ⟨ca, cb, dep⟩, fin⟩
  obtain ⟨_, one⟩ := Dp.reads J da a va ha ra
  obtain ⟨_, two⟩ := Dp.reads J (.tuple ds) b vb hb rb
  exact SeqAt.in_tuple_reads two one cb ca (by omega) ⟨.bl _, G1, J, rfl, fin⟩
def dInW : R2D := fun d1 d2 R => match d2 with
  | .tuple ds => (d1.canLay0 = true ∧ PyData.canLayAll0 ds = true ∧ min (PyData.depthAll ds) d1.depth ≤ 64) ∧ R (.bool (ds.any fun y => PyData.eqv y d1))
  | _ => False
theorem ro_inW {K : PySem.W.Frag} : RO K (rInW K) dInW := by
  intro G H x y d1 d2 Q R e r1 r2 h k
  cases d2 <;> first
    | exact False.elim h
    | skip
  rename_i ds
  obtain ⟨⟨h1, h2, h3⟩, h4⟩ := h
  exact ⟨d1, ds, ⟨Rp.dp d1 x (r1.up e) h1, Rp.dp (.tuple ds) y (r2.up e) (by simpa [PyData.canLay0] using h2)⟩, ⟨h1, h2, h3⟩, k _ _ G H h4 (Al.refl e) (.bl _)⟩
end TL

set_option Elab.async false
set_option linter.all false
set_option maxRecDepth 100000
set_option maxHeartbeats 4000000
/-! TYs: a set whose things are tuples of ints and texts (fewer than 64): membership, adding. -/
namespace TL
open PySem PySem.Spec PyProof.Rows L2
section
variable {P : Program} {w : World} {κ : Type} [DecidableEq κ] {kd : KeyKind P w κ} {A : Around} {E : Value → Shared → Prop} {s : Shared}
/-- keys that are no classes, and whose hash is told without a say of their own -/
structure Dull (kd : KeyKind P w κ) : Prop where
  cls : ∀ (n : Nat) {k : κ} {v : Value}, kd.is k v = true → ofAClassStatement n v = pure false
  byv : ∀ (n : Nat) {k : κ} {v : Value}, kd.is k v = true → ∃ b, hashByValue n v = pure b
theorem dull_mix : Dull (mixKind P w) where
  cls := fun n {k v} h => by
    rcases keyIs_shape (show keyIs k v = true from h) with ⟨i, t, _, rfl⟩ | ⟨x, t, _, rfl⟩ <;> cases n <;> rfl
  byv := fun n {k v} h => by
    rcases keyIs_shape (show keyIs k v = true from h) with ⟨i, t, _, rfl⟩ | ⟨x, t, _, rfl⟩
    · exact ⟨true, by cases n <;> rfl⟩
    · exact ⟨false, by cases n <;> rfl⟩
theorem Dull.items (d : Dull kd) {ks : List κ} {vs : List Value} (h : ItemsAre kd ks vs) : ∀ v ∈ vs, (∀ n, ofAClassStatement n v = pure false) ∧ ∀ n, ∃ b, hashByValue n v = pure b := by
  induction h with
  | nil => exact fun v hv => (List.not_mem_nil hv).elim
  | cons q _ ih =>
    intro v hv
    rcases List.mem_cons.mp hv with e | hv
    · subst e
      exact ⟨fun n => d.cls n q, fun n => d.byv n q⟩
    · exact ih v hv
theorem Dull.no_cls (d : Dull kd) {ks : List κ} {b : Addr} {Q : Bool → Shared → Prop} (hb : IsTupleKey kd s.heap ks b) (q : Q false s) : wpAny (model P w) A (ofAClassStatement 8 (.ref b)) Q E s := by
  have ty := hb.typeIs
  obtain ⟨ob, its, ep, h1, _, h3, h4⟩ := hb
  unfold ofAClassStatement
  refine wpAny_bind (wpAny_typeOf ty ?_)
  dsimp only
  simp only [show (("tuple" : String) == "tuple") = true by decide, if_true, Bool.not_true, Bool.false_eq_true, if_false]
  show wpAny _ _ (seqItems? (.ref b) >>= _) _ _ s
  refine wpAny_bind (wpAny_seqItems h1 h3 ?_)
  dsimp only
  refine wpAny_bind ?_
  show wpAny _ _ (forIn its _ _) _ _ s
  rw [← Array.forIn_toList]
  refine wpAny_forIn_list _ (fun left acc z => acc.1 = none ∧ z = s ∧ ∀ v ∈ left, ∀ n, ofAClassStatement n v = pure false) _ ?_ ?_ _ _ ⟨rfl, rfl, fun v hv => (d.items h4 v hv).1⟩
  · rintro v left acc z ⟨_, rfl, all⟩
    rw [all v List.mem_cons_self]
    refine wpAny_bind (wpAny_pure ?_)
    simp only [Bool.false_eq_true, if_false]
    exact wpAny_pure ⟨rfl, rfl, fun u hu => all u (List.mem_cons_of_mem _ hu)⟩
  · rintro ⟨c1, c2⟩ z ⟨e, rfl, _⟩
    simp only at e
    subst e
    exact wpAny_pure q
theorem Dull.by_val (d : Dull kd) {ks : List κ} {b : Addr} {Q : Bool → Shared → Prop} (hb : IsTupleKey kd s.heap ks b) (q : ∀ r, Q r s) : wpAny (model P w) A (hashByValue 8 (.ref b)) Q E s := by
  have ty := hb.typeIs
  obtain ⟨ob, its, ep, h1, _, h3, h4⟩ := hb
  unfold hashByValue
  refine wpAny_bind (wpAny_specialOf ty F.slot_tuple_hash.lookup ?_)
  show wpAny _ _ (seqItems? (.ref b) >>= _) _ _ s
  refine wpAny_bind (wpAny_seqItems h1 h3 ?_)
  refine wpAny_bind ?_
  show wpAny _ _ (forIn its _ _) _ _ s
  rw [← Array.forIn_toList]
  refine wpAny_forIn_list _ (fun left acc z => acc.1 = none ∧ z = s ∧ ∀ v ∈ left, ∀ n, ∃ b, hashByValue n v = pure b) _ ?_ ?_ _ _ ⟨rfl, rfl, fun v hv => (d.items h4 v hv).2⟩
  · rintro v left acc z ⟨_, rfl, all⟩
    obtain ⟨r, e⟩ := all v List.mem_cons_self 7
    rw [e]
    refine wpAny_bind (wpAny_pure ?_)
    cases r with
    | true =>
      simp only [Bool.not_true, Bool.false_eq_true, if_false]
      exact wpAny_pure ⟨rfl, rfl, fun u hu => all u (List.mem_cons_of_mem _ hu)⟩
    | false =>
      simp only [Bool.not_false, if_true]
      exact wpAny_pure (wpAny_pure (q false))
  · rintro ⟨c1, c2⟩ z ⟨e, rfl, _⟩
    simp only at e
    subst e
    exact wpAny_pure (q true)
/-- what a search among tuples lets be seen: nothing -/
theorem Dull.unseen (d : Dull kd) {ks : List κ} {b : Addr} {Q : Bool → Shared → Prop} (hb : IsTupleKey kd s.heap ks b) {ys : List Value} (hy : ∀ y ∈ ys, ∃ k' c, y = Value.ref c ∧ IsTupleKey kd s.heap k' c) (q : Q false s) :
    wpAny (model P w) A (searchCouldBeSeen (.ref b) ys) Q E s := by
  unfold searchCouldBeSeen
  refine wpAny_bind ?_
  refine wpAny_forIn_list _ (fun left acc z => acc.1 = none ∧ z = s ∧ ∀ y ∈ left, ∃ k' c, y = Value.ref c ∧ IsTupleKey kd s.heap k' c) _ ?_ ?_ _ _ ⟨rfl, rfl, hy⟩
  · rintro v left acc z ⟨_, rfl, all⟩
    obtain ⟨k', c, rfl, hc⟩ := all v List.mem_cons_self
    have more : ∀ y ∈ left, ∃ k' c, y = Value.ref c ∧ IsTupleKey kd z.heap k' c := fun u hu => all u (List.mem_cons_of_mem _ hu)
    dsimp only
    by_cases hv : (b == c || (carriedByValue (.ref b) && carriedByValue (.ref c))) = true
    · exact wp_if_pos hv (wpAny_pure ⟨rfl, rfl, more⟩)
    · refine wp_if_neg hv (wpAny_bind (wpAny_eqIsQuiet_tuple hb ?_))
      simp only [Bool.not_true, Bool.false_eq_true, if_false]
      refine wpAny_bind (wpAny_eqIsQuiet_tuple hc ?_)
      simp only [Bool.not_true, Bool.false_eq_true, if_false]
      refine wpAny_bind (d.no_cls hb ?_)
      simp only [Bool.false_eq_true, if_false]
      refine wpAny_bind (d.no_cls hc ?_)
      simp only [Bool.false_eq_true, if_false]
      exact wpAny_pure ⟨rfl, rfl, more⟩
  · rintro ⟨c1, c2⟩ z ⟨e, rfl, _⟩
    simp only at e
    subst e
    exact wpAny_pure q
/-! ### the set at a, in the order of its table -/
structure MSet (kd : KeyKind P w κ) (h : Heap) (a : Addr) (L : List (Addr × List κ)) (es : Array (Int × Value)) (ep : Nat) (t : SetTable) : Prop where
  obj : ∃ o, h.get? a = some o ∧ o.ExactSet ∧ o.data = .set es ep t
  rws : es.toList = L.map fun p => (tupleKeyHash kd p.2, Value.ref p.1)
  tab : TabOk t (L.map fun p => tupleKeyHash kd p.2)
  dif : (L.map Prod.snd).Nodup
  its : ∀ p ∈ L, IsTupleKey kd h p.2 p.1
  rm : L.length * 5 < t.mask * 3
/-- where a way stands after so many steps -/
def stands (m : Nat) (h : Int) (c : Nat) : SetTable.Probe := nth m (runAt m (SetTable.bits h % (m + 1)) (SetTable.bits h)) c
theorem stands_j (m : Nat) (h : Int) (c : Nat) : (stands m h c).j = way m h c := rfl
theorem stands_on (m : Nat) (h : Int) (c q : Nat) : nth m (stands m h c) q = stands m h (c + q) := (nth_add m c _ q).symm
theorem nth_clean (m : Nat) : ∀ (n : Nat) (p : SetTable.Probe), p.dummy = none → (nth m p n).dummy = none
  | 0, _, e => e
  | n + 1, p, e => nth_clean m n (adv m p) (by unfold adv; split <;> exact e)
theorem stands_clean (m : Nat) (h : Int) (c : Nat) : (stands m h c).dummy = none := nth_clean m c _ rfl
variable {a : Addr} {L : List (Addr × List κ)} {es : Array (Int × Value)} {ep : Nat} {t : SetTable}
theorem MSet.size (M : MSet kd s.heap a L es ep t) : es.size = L.length := by
  have e := congrArg List.length M.rws
  rwa [Array.length_toList, List.length_map] at e
theorem MSet.place (M : MSet kd s.heap a L es ep t) : t.place.size = L.length := by
  have e := M.tab.sz
  rwa [List.length_map] at e
theorem MSet.fit (M : MSet kd s.heap a L es ep t) : t.fits es.size = true := by
  have e1 := M.place
  have e2 := M.size
  have e3 := M.rm
  unfold SetTable.fits SetTable.fill
  rw [M.tab.dm, Bool.and_eq_true, beq_iff_eq, decide_eq_true_eq]
  refine ⟨by omega, ?_⟩
  show t.place.size + 0 ≤ t.mask
  omega
theorem MSet.at_ (M : MSet kd s.heap a L es ep t) {i : Nat} {p : Addr × List κ} (e : L[i]? = some p) : es[i]? = some (tupleKeyHash kd p.2, Value.ref p.1) := by
  rw [← Array.getElem?_toList, M.rws, List.getElem?_map, e]
  rfl
theorem MSet.whole (M : MSet kd s.heap a L es ep t) : ¬ t.gaveWay = true := by
  unfold SetTable.gaveWay
  rw [mask_odd M.tab.mok]
  decide
/-- the search, from a step of the way on -/
theorem MSet.seek (d : Dull kd) (M : MSet kd s.heap a L es ep t) {x : Addr} {k : List κ} (hx : IsTupleKey kd s.heap k x) (hu : A.units < cLine) (ad : Bool) {h : Int} (hh : h = tupleKeyHash kd k) {n : Nat} (hn : n < 10 * SetTable.turns t.mask)
    (out : way t.mask h n ∉ t.place.toList) (ins : ∀ c, c < n → way t.mask h c ∈ t.place.toList) {Q : SetFound → Shared → Prop}
    (yes : k ∈ L.map Prod.snd → ∀ o : Option Nat, (ad = false → o.isSome = true) → Q (.there o) s) (no : k ∉ L.map Prod.snd → Q (.free (way t.mask h n) false) s) :
    ∀ (f c : Nat) (from_ : Option SetTable.Probe), from_.getD (t.probeStart h) = stands t.mask h c → c ≤ n → n - c < f → (∀ (i : Nat) p, L[i]? = some p → p.2 = k → ∃ c', c ≤ c' ∧ c' < n ∧ t.place.toList[i]? = some (way t.mask h c')) →
      wpAny (model P w) A (setSearchFrom a (.ref x) h ad f from_) Q E s
  | 0, _, _, _, _, z, _ => absurd z (Nat.not_lt_zero _)
  | f + 1, c, from_, hf, hc, hl, hr => by
    obtain ⟨ob, b1, _, b3⟩ := M.obj
    rw [setSearchFrom_succ]
    refine wpAny_bind (wpAny_setState_of b1 b3 M.fit ?_)
    dsimp only
    refine wp_if_neg M.whole ?_
    have key := go_spec t M.tab.ris M.tab.dm (fun i => (es[i]?.map (·.1)).getD 0) h (10 * SetTable.turns t.mask) (n - c) (stands t.mask h c) (stands_clean _ _ _) (by omega)
      (fun q hq => by rw [stands_on, stands_j]; exact ins _ (by omega)) (by rw [stands_on, stands_j, show c + (n - c) = n by omega]; exact out)
    have hash : ∀ (i : Nat) p, L[i]? = some p → (es[i]?.map (·.1)).getD 0 = tupleKeyHash kd p.2 := fun i p e => by
      rw [M.at_ e]
      rfl
    have passed : ∀ (i : Nat) p c', L[i]? = some p → p.2 = k → c ≤ c' → t.place.toList[i]? = some (way t.mask h c') → ∀ m : Nat, (∀ k' i' : Nat, k' < m → t.place.toList[i']? = some (nth t.mask (stands t.mask h c) k').j → (es[i']?.map (·.1)).getD 0 ≠ h) → c + m ≤ c' := fun i p c' e1 e2 e3 e4 m hm => by
      rcases Nat.lt_or_ge c' (c + m) with z | z
      · refine absurd ?_ (hm (c' - c) i (by omega) (by rw [stands_on, stands_j, show c + (c' - c) = c' by omega]; exact e4))
        rw [hash i p e1, e2, hh]
      · exact z
    rcases key with ⟨q, i, hq, hi, hh', hno, pr⟩ | ⟨hno, pr⟩
    · have pr' : t.probe (fun i => (es[i]?.map (·.1)).getD 0) h (from_.getD (t.probeStart h)) = some (.candidate (way t.mask h (c + q)) i (stands t.mask h (c + (q + 1)))) := by
        rw [hf, ← stands_on, ← stands_j, ← stands_on]
        exact pr
      rw [stands_on, stands_j] at hi
      rw [pr']
      dsimp only
      have il : i < L.length := by
        have e1 := (List.getElem?_eq_some_iff.mp hi).1
        have e2 := M.place
        rw [Array.length_toList] at e1
        omega
      obtain ⟨p, hp⟩ : ∃ p, L[i]? = some p := ⟨_, List.getElem?_eq_getElem il⟩
      have pm : p ∈ L := List.mem_of_getElem? hp
      have slot := slot_live M.tab.ris hi
      have on : wpAny (model P w) A (searchRest a (.ref x) h ad f es t (way t.mask h (c + q)) i (stands t.mask h (c + (q + 1)))) Q E s := by
        unfold searchRest
        rw [M.at_ hp]
        dsimp only
        refine wpAny_bind (wpAny_holding (wpAny_eqBool_tuple hu (M.its p pm) hx ?_))
        refine wpAny_bind (wpAny_setState_of b1 b3 M.fit ?_)
        dsimp only
        by_cases ek : p.2 = k
        · have hm : k ∈ L.map Prod.snd := List.mem_map.mpr ⟨p, pm, ek⟩
          cases ad with
          | true =>
            refine wp_if_pos (by rw [decide_eq_true ek]; rfl) ?_
            exact wpAny_pure (yes hm none fun z => nomatch z)
          | false =>
            refine wp_if_neg (by simp) ?_
            rw [sameMem]
            dsimp only
            simp only [if_true, slot, M.at_ hp]
            apply wpAny_bind
            apply wpAny_isSame_ref_self
            apply wpAny_bind
            apply wpAny_pure
            simp only [if_true]
            refine wp_if_pos (decide_eq_true ek) ?_
            exact wpAny_pure (yes hm (some i) fun _ => rfl)
        · refine wp_if_neg (by rw [decide_eq_false ek]; simp) ?_
          rw [sameMem]
          dsimp only
          simp only [if_true, slot, M.at_ hp]
          apply wpAny_bind
          apply wpAny_isSame_ref_self
          apply wpAny_bind
          apply wpAny_pure
          simp only [if_true]
          refine wp_if_neg (by rw [decide_eq_false ek]; decide) ?_
          refine MSet.seek d M hx hu ad hh hn out ins yes no f (c + (q + 1)) (some _) rfl (by omega) (by omega) fun i0 p0 e0 k0 => ?_
          obtain ⟨c', g1, g2, g3⟩ := hr i0 p0 e0 k0
          have g4 := passed i0 p0 c' e0 k0 g1 g3 q hno
          refine ⟨c', ?_, g2, g3⟩
          rcases Nat.lt_or_ge (c + q) c' with y | y
          · omega
          · have ec : c' = c + q := Nat.le_antisymm y g4
            rw [ec] at g3
            have s0 := slot_live M.tab.ris g3
            rw [slot] at s0
            injection s0 with s0
            rw [← s0, hp] at e0
            cases e0
            exact absurd k0 ek
      by_cases led : t.led = true
      · exact wp_if_neg (by rw [led]; decide) on
      · refine wp_if_pos (by simp [led]) (wpAny_bind (d.unseen hx (fun y hy => ?_) (wp_if_neg (by decide) on)))
        obtain ⟨e, e1, rfl⟩ := List.mem_map.mp hy
        have e2 : e ∈ es ∧ e.1 = h := by simpa using e1
        have e3 : e ∈ es.toList := by simpa using e2.1
        rw [M.rws] at e3
        obtain ⟨p', e4, rfl⟩ := List.mem_map.mp e3
        exact ⟨p'.2, p'.1, rfl, M.its p' e4⟩
    · have pr' : t.probe (fun i => (es[i]?.map (·.1)).getD 0) h (from_.getD (t.probeStart h)) = some (.empty (way t.mask h n) none) := by
        have e : way t.mask h n = (nth t.mask (stands t.mask h c) (n - c)).j := by rw [stands_on, stands_j, show c + (n - c) = n by omega]
        rw [hf, e]
        exact pr
      rw [pr']
      dsimp only
      refine wpAny_pure (no fun hm => ?_)
      obtain ⟨p0, e0, k0⟩ := List.mem_map.mp hm
      obtain ⟨i0, hi0, e1⟩ := List.getElem_of_mem e0
      have e2 : L[i0]? = some p0 := by rw [List.getElem?_eq_getElem hi0, e1]
      obtain ⟨c', g1, g2, g3⟩ := hr i0 p0 e2 k0
      have := passed i0 p0 c' e2 k0 g1 g3 (n - c) hno
      omega
/-- the search as it is asked for -/
theorem MSet.seek_at (d : Dull kd) (M : MSet kd s.heap a L es ep t) {x : Addr} {k : List κ} (hx : IsTupleKey kd s.heap k x) (hu : A.units < cLine) (ad : Bool) {Q : SetFound → Shared → Prop}
    (yes : k ∈ L.map Prod.snd → ∀ o : Option Nat, (ad = false → o.isSome = true) → Q (.there o) s)
    (no : ∀ n, k ∉ L.map Prod.snd → way t.mask (tupleKeyHash kd k) n ∉ t.place.toList → (∀ c, c < n → way t.mask (tupleKeyHash kd k) c ∈ t.place.toList) → Q (.free (way t.mask (tupleKeyHash kd k) n) false) s) :
    wpAny (model P w) A (setSearch a (.ref x) (tupleKeyHash kd k) ad) Q E s := by
  have rm := M.rm
  obtain ⟨n, n1, n2, n3⟩ := M.tab.first (by rw [List.length_map]; omega) (tupleKeyHash kd k)
  have most : 10 * SetTable.turns t.mask ≤ 1420 := by
    unfold SetTable.turns
    rcases M.tab.mok with e | e | e <;> omega
  unfold setSearch
  refine MSet.seek d M hx hu ad rfl n1 n2 n3 yes (fun hm => no n hm n2 n3) 100000 0 none rfl (Nat.zero_le _) (by omega) fun i p e1 e2 => ?_
  have il : i < t.place.toList.length := by
    have z1 := (List.getElem?_eq_some_iff.mp e1).1
    have z2 := M.place
    rw [Array.length_toList]
    omega
  have e3 := List.getElem?_eq_getElem il
  obtain ⟨c, c1, c2⟩ := M.tab.before n2 (i := i) (by rw [List.getElem?_map, e1, ← e2]; rfl) e3
  exact ⟨c, Nat.zero_le _, c1, by rw [e3, c2]⟩
theorem MSet.find_at (d : Dull kd) (M : MSet kd s.heap a L es ep t) {x : Addr} {k : List κ} (hx : IsTupleKey kd s.heap k x) (hu : A.units < cLine) {Q : Option Nat → Shared → Prop} (q : ∀ o : Option Nat, o.isSome = decide (k ∈ L.map Prod.snd) → Q o s) :
    wpAny (model P w) A (setFind a (.ref x) (tupleKeyHash kd k)) Q E s := by
  obtain ⟨ob, b1, _, b3⟩ := M.obj
  unfold setFind
  rw [show (100000 : Nat) = 99999 + 1 from rfl]
  unfold setFindIn
  refine wpAny_bind (wpAny_setState_of b1 b3 M.fit ?_)
  dsimp only
  refine wp_if_neg (by simp [byScan, Value.scannable]) ?_
  refine wpAny_bind (M.seek_at d hx hu false (fun hm o ho => ?_) fun n hm _ _ => ?_)
  · exact wpAny_pure (q o (by rw [ho rfl, decide_eq_true hm]))
  · exact wpAny_pure (q none (by rw [decide_eq_false hm]; rfl))
theorem MSet.typeIs (M : MSet kd s.heap a L es ep t) : s.TypeIs (.ref a) "set" := by
  obtain ⟨ob, b1, b2, _⟩ := M.obj
  exact ⟨ob, b1, b2.1⟩
theorem MSet.has (d : Dull kd) (M : MSet kd s.heap a L es ep t) {x : Addr} {k : List κ} (hx : IsTupleKey kd s.heap k x) (hu : A.units + 1 < cLine) {Q : Value → Shared → Prop} (q : ∀ tk, Q (.bool (decide (k ∈ L.map Prod.snd))) { s with toks := tk }) :
    wpAny (model P w) A (compareOp .In (.ref x) (.ref a)) Q E s := by
  show wpAny _ _ (do return .bool (← contains (.ref a) (.ref x))) Q E s
  apply wpAny_bind
  unfold contains
  try with_reducible apply wpAny_holding
  apply wpAny_bind
  refine wpAny_specialOf M.typeIs F.slot_set_contains.lookup ?_
  show wpAny _ _ (if (some (Value.builtin "set.__contains__") == some Value.none) = true then _ else _) _ E s
  rw [if_neg (fun z => by rw [beq_builtin_none] at z; cases z)]
  apply wpAny_bind
  refine wpAny_callSpecialUnlessNone?_slot (name := Str.ofString "__contains__") M.typeIs F.slot_set_contains (wpAny_call_entry F.slot_set_contains M.typeIs entry_set_contains ?_ (F.args_set_contains_2 _ _))
  unfold Builtin.«frozenset.__contains__» Builtin.Frozenset.oneOther
  simp only [List.isEmpty_nil, bind_assoc]
  unfold Builtin.Frozenset.addrOf Builtin.Frozenset.withSetAsKey setContains
  apply wpAny_bind
  apply wpAny_pure
  try dsimp only
  apply wpAny_bind
  apply wpAny_pure
  try dsimp only
  apply wpAny_bind
  apply wpAny_tryCatch
  apply wpAny_holding
  apply wpAny_bind
  refine wpAny_pyHash_tuple ?hu hx ?_
  case hu => exact hu
  apply wpAny_bind
  refine MSet.find_at (s := { s with toks := s.toks + (k.length + 1) }) d M hx hu fun o ho => ?_
  apply wpAny_pure
  show wpAny _ _ (ret (Value.bool o.isSome)) _ _ _
  rw [ho]
  exact wpAny_pure ⟨_, rfl, wpAny_truthy_bool (wpAny_pure (q _))⟩
/-! ### one more -/
theorem key_same {h h' : Heap} {k : List κ} {b : Addr} {o : Obj} (hb : IsTupleKey kd h k b) (ho : h.get? a = some o) (hd : o.data = .set es ep t) (sb : Heap.SameBut a h h') : IsTupleKey kd h' k b := by
  obtain ⟨ob, its, n, e1, e2, e3, e4⟩ := hb
  refine ⟨ob, its, n, (sb.2 b fun z => ?_).trans e1, e2, e3, e4⟩
  subst z
  cases ho.symm.trans e1
  rw [hd] at e3
  cases e3
theorem perm_in {α : Type} (l : List α) (p : Nat) (x : α) : (l.take p ++ x :: l.drop p).Perm (x :: l) := by
  have z := @List.perm_middle α x (l.take p) (l.drop p)
  rwa [List.take_append_drop] at z
/-- the rows in another order -/
theorem rows_order {f : Addr × List κ → Int × Value} (hes : es.toList = L.map f) (order : Array Nat) (ho : order.toList.Perm (List.range L.length)) :
    ∃ L' : List (Addr × List κ), (order.filterMap (es[·]?)).toList = L'.map f ∧ L'.Perm L ∧ (L'.map fun p => (f p).1) = order.toList.map fun i => (es.map (·.1)).getD i 0 := by
  have row : ∀ i, es[i]? = (L[i]?).map f := fun i => by rw [← Array.getElem?_toList, hes, List.getElem?_map]
  have pick : ∀ l : List Nat, (∀ i ∈ l, i < L.length) → (l.filterMap fun i => es[i]?) = (l.filterMap fun i => L[i]?).map f ∧ ((l.filterMap fun i => L[i]?).map fun p => (f p).1) = l.map fun i => (es.map (·.1)).getD i 0 := by
    intro l
    induction l with
    | nil => exact fun _ => ⟨rfl, rfl⟩
    | cons i l ih =>
      intro hl
      obtain ⟨z1, z2⟩ := ih fun j hj => hl j (List.mem_cons_of_mem _ hj)
      obtain ⟨p, hp⟩ : ∃ p, L[i]? = some p := ⟨_, List.getElem?_eq_getElem (hl i List.mem_cons_self)⟩
      have ei : es[i]? = some (f p) := by rw [row i, hp]; rfl
      refine ⟨?_, ?_⟩
      · rw [List.filterMap_cons_some ei, List.filterMap_cons_some hp, z1]
        rfl
      · rw [List.filterMap_cons_some hp, List.map_cons, List.map_cons, z2]
        congr 1
        have e5 : (es.map (·.1))[i]? = some (f p).1 := by rw [Array.getElem?_map, ei]; rfl
        rw [Array.getD_eq_getD_getElem?, e5]
        rfl
  obtain ⟨z1, z2⟩ := pick order.toList fun i hi => List.mem_range.mp (ho.mem_iff.mp hi)
  refine ⟨order.toList.filterMap fun i => L[i]?, by simpa using z1, ?_, z2⟩
  have all : ∀ n, n ≤ L.length → ((List.range n).filterMap fun i => L[i]?) = L.take n := by
    intro n
    induction n with
    | zero => exact fun _ => rfl
    | succ n ih =>
      intro hn
      rw [List.range_succ, List.filterMap_append, ih (Nat.le_of_lt hn), List.take_succ, List.getElem?_eq_getElem hn, List.filterMap_cons_some (List.getElem?_eq_getElem hn)]
      rfl
  have z := ho.filterMap fun i => L[i]?
  rwa [all L.length (Nat.le_refl _), List.take_length] at z
/-- the table laid anew -/
theorem relaid_at {o : Obj} (h1 : s.heap.get? a = some o) (h2 : o.ExactSet) (h3 : o.data = .set es ep t) (rws : es.toList = L.map fun p => (tupleKeyHash kd p.2, Value.ref p.1)) (sz : t.place.size = es.size) (dm : t.dummies = #[]) (fl : es.size ≤ t.mask)
    (dif : (L.map Prod.snd).Nodup) (its : ∀ p ∈ L, IsTupleKey kd s.heap p.2 p.1) (few : L.length ≤ 70) {wanted m : Nat} (hw : SetTable.sizeAbove wanted - 1 = m) (hm : MaskOk m) (hs : SetTable.sizeAbove wanted ≤ 128) (hr : L.length * 5 < m * 3)
    {Q : Unit → Shared → Prop} (q : ∀ h' L' es' ep' t', Heap.SameBut a s.heap h' → MSet kd h' a L' es' ep' t' → L'.Perm L → Q () { s with heap := h' }) : wpAny (model P w) A (setRelay a wanted) Q E s := by
  have len : es.size = L.length := by
    have e := congrArg List.length rws
    rwa [Array.length_toList, List.length_map] at e
  have fit : t.fits es.size = true := by
    unfold SetTable.fits SetTable.fill
    rw [dm, Bool.and_eq_true, beq_iff_eq, decide_eq_true_eq]
    refine ⟨sz, ?_⟩
    show t.place.size + 0 ≤ t.mask
    omega
  obtain ⟨t', order, e, pm, tab, em, _, _, _⟩ := relaid_ok t (hs := es.map (·.1)) (wanted := wanted) hw hm (by rw [Array.size_map, len]; omega)
  rw [Array.size_map, len] at pm
  obtain ⟨L', r1, r2, r3⟩ := rows_order rws order pm
  rw [← r3] at tab
  have size' : (order.filterMap (es[·]?)).size = es.size := by
    have z := congrArg List.length r1
    rw [Array.length_toList, List.length_map, r2.length_eq] at z
    omega
  rw [setRelay_eq]
  refine wpAny_bind (wpAny_setState_of h1 h3 fit ?_)
  dsimp only
  refine wp_if_neg (by rw [sizeLine_eq]; omega) ?_
  rw [e]
  dsimp only
  apply wpAny_bind
  refine wp_if_neg (by rw [size']; simp) ?_
  apply wpAny_pure
  dsimp only
  refine wpAny_storeSet_of h1 h3 ?_ (by rw [size', len, sizeLine_eq]; omega)
  have sb : Heap.SameBut a s.heap (s.heap.update a (Obj.putSet (order.filterMap (es[·]?)) t')) := Heap.SameBut.update ..
  refine q _ L' (order.filterMap (es[·]?)) (ep + 1) t' sb ⟨⟨_, store_at h1 h3, ⟨h2.1, h2.2.1, h2.2.2⟩, rfl⟩, r1, tab, ?_, fun p hp => key_same (its p (r2.mem_iff.mp hp)) h1 h3 sb, ?_⟩ r2
  · exact (r2.map Prod.snd).nodup_iff.mpr dif
  · rw [r2.length_eq, em]
    exact hr
/-- a tuple that isn't there is added -/
theorem MSet.put (d : Dull kd) (M : MSet kd s.heap a L es ep t) {x : Addr} {k : List κ} (hx : IsTupleKey kd s.heap k x) (hu : A.units < cLine) (few : L.length < 64) (new : k ∉ L.map Prod.snd) {Q : Bool → Shared → Prop}
    (q : ∀ b h' L' es' ep' t', Heap.SameBut a s.heap h' → MSet kd h' a L' es' ep' t' → L'.Perm ((x, k) :: L) → Q b { s with heap := h' }) : wpAny (model P w) A (setAddHashed a (.ref x) (tupleKeyHash kd k)) Q E s := by
  obtain ⟨o, h1, h2, h3⟩ := M.obj
  have len := M.size
  have rm := M.rm
  unfold setAddHashed
  apply wpAny_holding
  rw [show (100000 : Nat) = 99999 + 1 from rfl, setAddHashedIn_succ]
  refine wpAny_bind (wpAny_setState_of h1 h3 M.fit ?_)
  dsimp only
  refine wp_if_neg (by simp [byScan, Value.scannable]) ?_
  refine wpAny_bind (M.seek_at d hx hu true (fun hm => absurd hm new) fun n _ out ins => ?_)
  dsimp only
  refine wpAny_bind (wpAny_setState_of h1 h3 M.fit ?_)
  dsimp only
  obtain ⟨p1, p2, p3, p4, _, _, _, _, p9⟩ := M.tab.put out ins
  generalize t.put (way t.mask (tupleKeyHash kd k) n) = pt at p1 p3 p4 p9 ⊢
  obtain ⟨t1, at1⟩ := pt
  dsimp only at p1 p3 p4 p9 ⊢
  subst p1
  generalize hb : SetTable.below t.place (way t.mask (tupleKeyHash kd k) n) = p at p2 p3 ⊢
  have pm := perm_in L p (x, k)
  have rws : (SetTable.insertAt es p (tupleKeyHash kd k, Value.ref x)).toList = (L.take p ++ (x, k) :: L.drop p).map fun p => (tupleKeyHash kd p.2, Value.ref p.1) := by
    rw [SetTable.toList_insertAt, M.rws, List.map_append, List.map_cons, List.map_take, List.map_drop]
  have hash : (L.take p ++ (x, k) :: L.drop p).map (fun p => tupleKeyHash kd p.2) = (L.map fun p => tupleKeyHash kd p.2).take p ++ tupleKeyHash kd k :: (L.map fun p => tupleKeyHash kd p.2).drop p := by
    rw [List.map_append, List.map_cons, List.map_take, List.map_drop]
  rw [← hash] at p3
  have dif : ((L.take p ++ (x, k) :: L.drop p).map Prod.snd).Nodup := by
    refine (pm.map Prod.snd).nodup_iff.mpr ?_
    rw [List.map_cons]
    exact List.nodup_cons.mpr ⟨new, M.dif⟩
  have size1 : (SetTable.insertAt es p (tupleKeyHash kd k, Value.ref x)).size = L.length + 1 := by
    have z := congrArg List.length rws
    rw [Array.length_toList, List.length_map, pm.length_eq] at z
    exact z
  generalize SetTable.insertAt es p (tupleKeyHash kd k, Value.ref x) = es1 at rws size1 ⊢
  generalize L.take p ++ (x, k) :: L.drop p = L1 at pm p3 dif rws
  have len1 : L1.length = L.length + 1 := pm.length_eq
  -- whether the new one hashes by value only marks the table
  have last : ∀ t2 : SetTable, t2.place = t1.place → t2.dummies = t1.dummies → t2.mask = t1.mask → t2.tooFull = t1.tooFull → wpAny (model P w) A (storeSet a es1 t2 >>= fun _ => (do
      if (!false && t2.tooFull) = true then setRelay a (SetTable.grown (es.size + 1))
      return true)) Q E s := by
    intro t2 g1 g2 g3 g4
    have tab2 : TabOk t2 (L1.map fun p => tupleKeyHash kd p.2) := ⟨by rw [g1]; exact p3.ris, by rw [g2]; exact p3.dm, by rw [g1]; exact p3.sz, by rw [g3]; exact p3.mok, by rw [g1, g3]; exact p3.bd, by rw [g1, g3]; exact p3.reach⟩
    refine wpAny_bind (wpAny_storeSet_of h1 h3 ?_ (by rw [size1, sizeLine_eq]; omega))
    have sb : Heap.SameBut a s.heap (s.heap.update a (Obj.putSet es1 t2)) := Heap.SameBut.update ..
    have at2 := store_at (es' := es1) (t' := t2) h1 h3
    generalize s.heap.update a (Obj.putSet es1 t2) = h' at sb at2 ⊢
    have its : ∀ p ∈ L1, IsTupleKey kd h' p.2 p.1 := fun p hp => by
      rcases List.mem_cons.mp (pm.mem_iff.mp hp) with e | hp
      · rw [e]
        exact key_same hx h1 h3 sb
      · exact key_same (M.its p hp) h1 h3 sb
    by_cases full : t1.tooFull = true
    · refine wp_if_pos (by rw [g4, full]; rfl) (wpAny_bind ?_)
      have z := full
      unfold SetTable.tooFull at z
      rw [decide_eq_true_eq, p9, List.length_map, p4] at z
      have two : (t.mask = 7 ∧ L.length = 4) ∨ (t.mask = 31 ∧ L.length = 18) := by
        rcases M.tab.mok with e | e | e <;> rw [e] at z rm <;> omega
      rw [len]
      have sz2 : t2.place.size = es1.size := by
        have z := tab2.sz
        rw [List.length_map] at z
        omega
      have go : ∀ m, SetTable.sizeAbove (SetTable.grown (L.length + 1)) - 1 = m → MaskOk m → SetTable.sizeAbove (SetTable.grown (L.length + 1)) ≤ 128 → (L.length + 1) * 5 < m * 3 →
          wpAny (model P w) A (setRelay a (SetTable.grown (L.length + 1))) (fun _ z => wpAny (model P w) A (pure true) Q E z) E { s with heap := h' } := fun m e1 e2 e3 e4 => by
        refine relaid_at (s := { s with heap := h' }) at2 ⟨h2.1, h2.2.1, h2.2.2⟩ rfl rws sz2 tab2.dm (by rw [size1, g3, p4]; rcases two with ⟨e, f⟩ | ⟨e, f⟩ <;> omega) dif its (by omega) e1 e2 e3 (by rw [len1]; exact e4) fun h'' L2 es2 ep2 t3 sb2 M2 pm2 => ?_
        exact wpAny_pure (q true h'' L2 es2 ep2 t3 (sb.trans sb2) M2 (pm2.trans pm))
      rcases two with ⟨_, e⟩ | ⟨_, e⟩
      · exact go 31 (by rw [e, size_20]) (.inr (.inl rfl)) (by rw [e, size_20]; decide) (by omega)
      · exact go 127 (by rw [e, size_76]) (.inr (.inr rfl)) (by rw [e, size_76]; decide) (by omega)
    · refine wp_if_neg (by rw [g4]; simpa using full) ?_
      refine wpAny_pure (q true h' L1 es1 (ep + 1) t2 sb ⟨⟨_, at2, ⟨h2.1, h2.2.1, h2.2.2⟩, rfl⟩, rws, tab2, dif, its, ?_⟩ pm)
      have z := full
      unfold SetTable.tooFull at z
      rw [decide_eq_true_eq, p9, List.length_map, p4] at z
      rw [len1, g3, p4]
      omega
  have fin : ∀ r : Bool, wpAny (model P w) A (storeSet a es1 (if r = true then t1 else { t1 with plain := false }) >>= fun _ => (do
      if (!false && (if r = true then t1 else { t1 with plain := false }).tooFull) = true then setRelay a (SetTable.grown (es.size + 1))
      return true)) Q E s := fun r => by
    cases r with
    | true => exact last t1 rfl rfl rfl rfl
    | false => exact last { t1 with plain := false } rfl rfl rfl rfl
  by_cases hp : t1.plain = true
  · first
      | exact wp_if_pos hp (wpAny_bind (d.by_val hx fun r => fin r))
      | (apply wpAny_bind; exact wp_if_pos hp (d.by_val hx fun r => fin r))
  · first
      | exact wp_if_neg hp (fin true)
      | exact wp_if_neg hp (wpAny_bind (wpAny_pure (fin true)))
      | (apply wpAny_bind; exact wp_if_neg hp (wpAny_pure (fin true)))
/-- found.add(x), as the method is called -/
theorem MSet.add (d : Dull kd) (M : MSet kd s.heap a L es ep t) {x : Addr} {k : List κ} (hx : IsTupleKey kd s.heap k x) (hu : A.units + 1 < cLine) (few : L.length < 64) (new : k ∉ L.map Prod.snd) {Q : Value → Shared → Prop}
    (q : ∀ tk h' L' es' ep' t', Heap.SameBut a s.heap h' → MSet kd h' a L' es' ep' t' → L'.Perm ((x, k) :: L) → Q .none { s with heap := h', toks := tk }) : wpAny (model P w) A (call (.builtin "set.add") [.ref a, .ref x]) Q E s := by
  refine wpAny_call_entry F.slot_set_add M.typeIs F.entry_set_add ?_ (F.args_set_add_2 _ _)
  unfold Builtin.«set.add» Builtin.Frozenset.oneOther
  simp only [List.isEmpty_nil, bind_assoc]
  unfold Builtin.Frozenset.addrOf setAdd
  apply wpAny_bind
  apply wpAny_pure
  try dsimp only
  apply wpAny_bind
  apply wpAny_pure
  try dsimp only
  apply wpAny_bind
  apply wpAny_holding
  apply wpAny_bind
  refine wpAny_pyHash_tuple ?hu hx ?_
  case hu => exact hu
  refine MSet.put (s := { s with toks := s.toks + (k.length + 1) }) d M hx ?hu few new fun b h' L' es' ep' t' sb M' pm => ?_
  case hu => exact hu
  show wpAny _ _ (ret Value.none) _ _ _
  exact wpAny_pure ⟨_, rfl, q _ h' L' es' ep' t' sb M' pm⟩
/-- a new set -/
theorem MSet.new {h : Heap} (ho : h.get? a = some { cls := .type "set", dict := none, data := .set #[] 0 (.fresh 0 0 (!w.params.followText "set-order")) }) : MSet (P := P) (w := w) kd h a [] #[] 0 (.fresh 0 0 (!w.params.followText "set-order")) :=
  ⟨⟨_, ho, ⟨rfl, rfl, rfl⟩, rfl⟩, rfl, ⟨List.Pairwise.nil, rfl, rfl, .inl rfl, fun x hx => (List.not_mem_nil hx).elim, fun i h j hi => by simp at hi⟩, List.nodup_nil, fun p hp => (List.not_mem_nil hp).elim, by show 0 * 5 < 7 * 3; decide⟩
end
end TL

set_option Elab.async false
set_option linter.all false
set_option maxRecDepth 100000
set_option maxHeartbeats 4000000
/-! TBa: boxes in slots: laid, opened, changed, frozen. -/
namespace TL
open PySem PySem.Spec PyProof.Rows L2
variable [XW]
section
variable {K : PySem.W.Frag} {c : Cf} {G H G' H' : Hp} {σ : L2.St} {δ : List Sl}
/-- what is free and alive stays as it is where only others are changed -/
theorem Free.step {a : Addr} {σ' : L2.St} {δ' : List Sl} (f : Free c G σ δ a) (hg : G' a = none) (how : ∀ (j : Nat) (t : Option Nat) (ds : List PyData), δ'[j]? = some (.own t ds) → σ'[j]? ≠ some (some (.ref a))) : Free c G' σ' δ' a := ⟨hg, f.h0, f.tg, f.hd, how⟩
/-- a box in a slot: its value, its addresses; and what may be put in its stead -/
theorem EnvOk.open_box (E : EnvOk K c G H σ δ) {i : Nat} {b : Box} (hs : δ[i]? = some (.box b)) : ∃ (x : V) (S : List Addr), σ[i]? = some (some x) ∧ b.at_ K G H x S ∧ (∀ a ∈ S, Free c G σ δ a ∧ H a ≠ none) ∧
    ∀ (b' : Box) (x' : V) (S' : List Addr) (G' H' : Hp), Ex G G' → Ex G' H' → (∀ a o, a ∉ S → H a = some o → H' a = some o) → (∀ a, a ∉ S → H a ≠ none → G a = none → G' a = none) → (∀ a ∈ S', G' a = none ∧ H' a ≠ none ∧ (a ∈ S ∨ H a = none)) →
      b'.at_ K G' H' x' S' → EnvOk K c G' H' (σ.set i (some x')) (δ.set i (.box b')) := by
  obtain ⟨F, hF⟩ := E.bx
  obtain ⟨⟨x, hx, hb⟩, hfree, hdis⟩ := hF i b hs
  refine ⟨x, F i, hx, hb, fun a ha => ⟨hfree a ha, b.live hb a ha⟩, fun b' x' S' G' H' eg eh keep keepG foot hb' => ?_⟩
  have hi : i < δ.length := (List.getElem?_eq_some_iff.mp hs).1
  have hiσ : i < σ.length := by rw [E.len]; exact hi
  -- an own list's address is none of the box's
  have nown : ∀ (j : Nat) (t : Option Nat) (ds : List PyData) (p : Addr), δ[j]? = some (.own t ds) → σ[j]? = some (some (.ref p)) → p ∉ F i := fun j t ds p h1 h2 hp => (hfree p hp).ow j t ds h1 h2
  have tag : ∀ j, j < c.n → c.τ j ∉ F i := fun j hj hp => (hfree _ hp).tg j hj rfl
  have live' : ∀ a, a ∉ F i → H a ≠ none → H' a ≠ none := fun a h1 h2 => by
    cases q : H a with
    | none => exact absurd q h2
    | some o => rw [keep a o h1 q]; exact fun z => nomatch z
  exact {
    xw := E.xw
    g0 := E.g0.trans eg
    ex := eh
    fr := fun a o h k => by
      refine keep a o (fun hp => ?_) (E.fr a o h k)
      rw [(hfree a hp).h0] at h
      cases h
    fs := fun a h1 h2 => by
      have na : a ∉ F i := fun hp => h2 (hfree a hp).h0
      by_cases ht : ∃ j, j < c.n ∧ a = c.τ j
      · obtain ⟨j, hj, rfl⟩ := ht
        exact keepG _ na (E.tg j hj).1 (E.tg j hj).2
      · refine keepG a na ?_ (E.fs a h1 h2)
        cases q : c.H0 a with
        | none => exact absurd q h2
        | some o =>
          rw [E.fr a o q fun j hj z => ht ⟨j, hj, z⟩]
          exact fun z => nomatch z
    tg := fun j hj => ⟨live' _ (tag j hj) (E.tg j hj).1, keepG _ (tag j hj) (E.tg j hj).1 (E.tg j hj).2⟩
    len := by rw [List.length_set, List.length_set, E.len]
    sl := fun j s h => by
      rw [List.getElem?_set] at h ⊢
      by_cases hj : i = j
      · rw [if_pos hj, if_pos hi] at h
        cases h
        trivial
      · rw [if_neg hj] at h ⊢
        have z := E.sl j s h
        cases s with
        | no => trivial
        | box b => trivial
        | dat d =>
          obtain ⟨y, e, r⟩ := z
          exact ⟨y, e, r.up eg⟩
        | scr ds =>
          obtain ⟨p, ys, e, q, r⟩ := z
          exact ⟨p, ys, e, ex_l eg q, r.up eg⟩
        | own t ds =>
          obtain ⟨p, ys, e, g, hh, r, q⟩ := z
          have np := nown j t ds p h e
          exact ⟨p, ys, e, keepG p np (by rw [hh]; exact fun z => nomatch z) g, keep p _ np hh, r.up eg, q⟩
    ap := fun p q t1 d1 t2 d2 hpq h1 h2 => by
      obtain ⟨hp, h1⟩ := set_own (by intro t d z; cases z) h1
      obtain ⟨hq, h2⟩ := set_own (by intro t d z; cases z) h2
      rw [List.getElem?_set_ne hp, List.getElem?_set_ne hq]
      exact E.ap p q t1 d1 t2 d2 hpq h1 h2
    hd := fun p o h => by
      obtain ⟨a1, a2, a3, a4, a5⟩ := E.hd p o h
      have np : p ∉ F i := fun z => (hfree p z).hd o h
      refine ⟨keep p o np a1, keepG p np (by rw [a1]; exact fun z => nomatch z) a2, a3, a4, fun j t ds hj => ?_⟩
      obtain ⟨hi', hj⟩ := set_own (by intro t d z; cases z) hj
      rw [List.getElem?_set_ne hi']
      exact a5 j t ds hj
    bx := by
      have newF : ∀ a ∈ S', a ∉ F i → H a = none := fun a ha hn => ((foot a ha).2.2).resolve_left hn
      have free' : ∀ a, Free c G σ δ a → G' a = none → Free c G' (σ.set i (some x')) (δ.set i (.box b')) a := fun a f hg => f.step hg fun j t ds hj => by
        obtain ⟨hi', hj⟩ := set_own (by intro t d z; cases z) hj
        rw [List.getElem?_set_ne hi']
        exact f.ow j t ds hj
      have fresh : ∀ a, H a = none → G' a = none → Free c G' (σ.set i (some x')) (δ.set i (.box b')) a := fun a hn hg => ⟨hg, E.new0 hn, fun j hj z => (E.tg j hj).1 (by rw [← z]; exact hn), (fun o h => by
        have z := (E.hd a o h).1
        rw [hn] at z
        cases z), fun j t ds hj z => by
        obtain ⟨hi', hj⟩ := set_own (by intro t d z; cases z) hj
        rw [List.getElem?_set_ne hi'] at z
        obtain ⟨p, ys, e, _, hh, _⟩ := E.sl j _ hj
        rw [z] at e
        rw [← V.ref.inj (Option.some.inj (Option.some.inj e)), hn] at hh
        cases hh⟩
      refine ⟨fun j => if j = i then S' else F j, fun j bj hj => ?_⟩
      by_cases hji : i = j
      · subst hji
        rw [List.getElem?_set, if_pos rfl, if_pos hi] at hj
        cases hj
        rw [List.getElem?_set, if_pos rfl, if_pos hiσ]
        simp only [if_true]
        refine ⟨⟨x', rfl, hb'⟩, fun a ha => ?_, fun j' bj' hne hj' a ha => ?_⟩
        · obtain ⟨f1, _, f3⟩ := foot a ha
          rcases f3 with f3 | f3
          · exact free' a (hfree a f3) f1
          · exact fresh a f3 f1
        · rw [if_neg hne]
          rw [List.getElem?_set, if_neg (fun z => hne z.symm)] at hj'
          obtain ⟨f1, _, f3⟩ := foot a ha
          rcases f3 with f3 | f3
          · exact hdis j' bj' hne hj' a f3
          · intro z
            obtain ⟨⟨y, _, hy⟩, _, _⟩ := hF j' bj' hj'
            exact bj'.live hy a z f3
      · rw [List.getElem?_set, if_neg hji] at hj
        rw [List.getElem?_set, if_neg hji]
        obtain ⟨⟨y, hy, hyb⟩, hyf, hyd⟩ := hF j bj hj
        have hne : ¬ j = i := fun z => hji z.symm
        simp only [if_neg hne]
        have out : ∀ a ∈ F j, a ∉ F i := fun a ha => hyd i b hji hs a ha
        refine ⟨⟨y, hy, bj.up hyb eg fun a ha => ?_⟩, fun a ha => free' a (hyf a ha) (keepG a (out a ha) (bj.live hyb a ha) (hyf a ha).g), fun j' bj' hne' hj' a ha => ?_⟩
        · cases q : H a with
          | none => exact absurd q (bj.live hyb a ha)
          | some o => exact keep a o (out a ha) q
        · by_cases hj'i : j' = i
          · subst hj'i
            rw [if_pos rfl]
            intro z
            rcases (foot a z).2.2 with f3 | f3
            · exact out a ha f3
            · exact bj.live hyb a ha f3
          · rw [if_neg hj'i]
            rw [List.getElem?_set, if_neg (fun z => hj'i z.symm)] at hj'
            exact hyd j' bj' hne' hj' a ha }
/-- a box laid in a slot -/
theorem EnvOk.new_box (E : EnvOk K c G H σ δ) {i : Nat} {b : Box} {x : V} {S : List Addr} (A : Al G H G' H') (foot : ∀ a ∈ S, G' a = none ∧ H a = none) (hb : b.at_ K G' H' x S) : EnvOk K c G' H' (σ.set i (some x)) (δ.set i (.box b)) := by
  -- the slot is emptied, then holds a box of nothing
  have E0 := E.drop (i := i) (v := some x)
  have E1 := E0.al A
  have live : ∀ a ∈ S, H' a ≠ none := fun a ha => b.live hb a ha
  have fresh : ∀ a ∈ S, Free c G' (σ.set i (some x)) (δ.set i (.box b)) a := fun a ha => by
    obtain ⟨f1, f2⟩ := foot a ha
    refine ⟨f1, E.new0 f2, fun j hj z => (E.tg j hj).1 (by rw [← z]; exact f2), fun o h => ?_, fun j t ds hj z => ?_⟩
    · have q := (E.hd a o h).1
      rw [f2] at q
      cases q
    · obtain ⟨hi, hj⟩ := set_own (by intro t d z; cases z) hj
      rw [List.getElem?_set_ne hi] at z
      obtain ⟨p, ys, e, _, hh, _⟩ := E.sl j _ hj
      rw [z] at e
      rw [← V.ref.inj (Option.some.inj (Option.some.inj e)), f2] at hh
      cases hh
  exact {
    xw := E1.xw, g0 := E1.g0, ex := E1.ex, fr := E1.fr, fs := E1.fs, tg := E1.tg
    len := by rw [List.length_set, List.length_set, E.len]
    sl := fun j s h => by
      rw [List.getElem?_set] at h
      by_cases hj : i = j
      · rw [if_pos hj] at h
        split at h
        · cases h
          trivial
        · cases h
      · rw [if_neg hj] at h
        exact E1.sl j s (by rw [List.getElem?_set_ne hj]; exact h)
    ap := fun p q t1 d1 t2 d2 hpq h1 h2 => by
      obtain ⟨hp, h1⟩ := set_own (by intro t d z; cases z) h1
      obtain ⟨hq, h2⟩ := set_own (by intro t d z; cases z) h2
      exact E1.ap p q t1 d1 t2 d2 hpq (by rw [List.getElem?_set_ne hp]; exact h1) (by rw [List.getElem?_set_ne hq]; exact h2)
    hd := fun p o h => by
      obtain ⟨a1, a2, a3, a4, a5⟩ := E1.hd p o h
      refine ⟨a1, a2, a3, a4, fun j t ds hj => ?_⟩
      obtain ⟨hi, hj⟩ := set_own (by intro t d z; cases z) hj
      exact a5 j t ds (by rw [List.getElem?_set_ne hi]; exact hj)
    bx := by
      obtain ⟨F, hF⟩ := E.bx
      refine ⟨fun j => if j = i then S else F j, fun j bj hj => ?_⟩
      by_cases hji : i = j
      · subst hji
        rw [List.getElem?_set, if_pos rfl] at hj
        split at hj
        · cases hj
          rw [List.getElem?_set, if_pos rfl, if_pos (by rw [E.len]; assumption)]
          simp only [if_true]
          refine ⟨⟨x, rfl, hb⟩, fresh, fun j' bj' hne hj' a ha => ?_⟩
          rw [if_neg hne]
          rw [List.getElem?_set, if_neg (fun z => hne z.symm)] at hj'
          intro z
          obtain ⟨⟨y, _, hy⟩, _, _⟩ := hF j' bj' hj'
          exact bj'.live hy a z (foot a ha).2
        · cases hj
      · rw [List.getElem?_set, if_neg hji] at hj
        rw [List.getElem?_set, if_neg hji]
        obtain ⟨⟨y, hy, hyb⟩, hyf, hyd⟩ := hF j bj hj
        have hne : ¬ j = i := fun z => hji z.symm
        simp only [if_neg hne]
        refine ⟨⟨y, hy, bj.up hyb A.g fun a ha => ?_⟩, fun a ha => ?_, fun j' bj' hne' hj' a ha => ?_⟩
        · cases q : H a with
          | none => exact absurd q (bj.live hyb a ha)
          | some o => exact A.h _ _ q
        · refine (hyf a ha).step (A.fs a (hyf a ha).g (bj.live hyb a ha)) fun j t ds hj => ?_
          obtain ⟨hi, hj⟩ := set_own (by intro t d z; cases z) hj
          rw [List.getElem?_set_ne hi]
          exact (hyf a ha).ow j t ds hj
        · by_cases hj'i : j' = i
          · subst hj'i
            rw [if_pos rfl]
            exact fun z => bj.live hyb a ha (foot a z).2
          · rw [if_neg hj'i]
            rw [List.getElem?_set, if_neg (fun z => hj'i z.symm)] at hj'
            exact hyd j' bj' hne' hj' a ha }
end
end TL

set_option Elab.async false
set_option linter.all false
set_option maxRecDepth 100000
set_option maxHeartbeats 4000000
/-! TBb: a set of tuples as a box: set(), in, add. -/
namespace TL
open PySem PySem.Spec PyProof.Rows L2
theorem dec_iff {p : Prop} {i : Decidable p} : (@decide p i = true ↔ p) := decide_eq_true_iff
/-- nothing at all -/
def bxNo : Box where
  at_ := fun _ _ _ _ S => S = []
  up := fun h _ _ => h
  live := fun h a ha => by rw [h] at ha; cases ha
theorem set_same {α : Type} {l : List α} {i : Nat} {x : α} (h : l[i]? = some x) : l.set i x = l := by
  apply List.ext_getElem?
  intro j
  rw [List.getElem?_set]
  by_cases hj : i = j
  · subst hj
    have hl : i < l.length := (List.getElem?_eq_some_iff.mp h).1
    rw [if_pos rfl, if_pos hl, h]
  · rw [if_neg hj]
section
variable [XW] {K : PySem.W.Frag} {c : Cf} {G H : Hp} {σ : L2.St} {δ : List Sl}
/-- what is in a box becomes a datum that stays -/
theorem EnvOk.ice (E : EnvOk K c G H σ δ) {i : Nat} {b : Box} (hs : δ[i]? = some (.box b)) : ∃ (x : V) (S : List Addr), σ[i]? = some (some x) ∧ b.at_ K G H x S ∧ (∀ a ∈ S, G a = none ∧ H a ≠ none) ∧
    ∀ (G' : Hp) (d : PyData), Ex G G' → Ex G' H → (∀ a, a ∉ S → G a = none → G' a = none) → Rp K G' x d → EnvOk K c G' H σ (δ.set i (.dat d)) := by
  obtain ⟨x, S, h1, h2, h3, h4⟩ := E.open_box hs
  refine ⟨x, S, h1, h2, fun a ha => ⟨(h3 a ha).1.g, (h3 a ha).2⟩, fun G' d e1 e2 e3 r => ?_⟩
  have z := (h4 bxNo x [] G' H e1 e2 (fun a o _ q => q) (fun a na _ g => e3 a na g) (fun a ha => (List.not_mem_nil ha).elim) rfl).put (i := i) r
  have es : σ.set i (some x) = σ := set_same h1
  rw [es, es] at z
  rwa [List.set_set] at z
end
/-- the set at a -/
def SetAt (P : Program) (w : World) (h : Heap) (a : Addr) (L : List (Addr × List Key)) : Prop := ∃ (es : Array (Int × Value)) (ep : Nat) (t : SetTable), (∃ o, h.get? a = some o ∧ o.ExactSet ∧ o.data = .set es ep t) ∧
  es.toList = L.map (fun p => (tupleKeyHash (mixKind P w) p.2, Value.ref p.1)) ∧ TabOk t (L.map fun p => tupleKeyHash (mixKind P w) p.2) ∧ (L.map Prod.snd).Nodup ∧ L.length * 5 < t.mask * 3
def SetM (P : Program) (w : World) (a : Addr) (L : List (Addr × List Key)) : HO := .ext fun h => SetAt P w h a L
section
variable {P : Program} {w : World} {a : Addr} {L : List (Addr × List Key)}
theorem MSet.at_set {h : Heap} {es : Array (Int × Value)} {ep : Nat} {t : SetTable} (M : MSet (mixKind P w) h a L es ep t) : SetAt P w h a L := ⟨es, ep, t, M.obj, M.rws, M.tab, M.dif, M.rm⟩
theorem SetAt.whole {h : Heap} (z : SetAt P w h a L) (hk : ∀ p ∈ L, IsTupleKey (mixKind P w) h p.2 p.1) : ∃ es ep t, MSet (mixKind P w) h a L es ep t := by
  obtain ⟨es, ep, t, h1, h2, h3, h4, h5⟩ := z
  exact ⟨es, ep, t, h1, h2, h3, h4, hk, h5⟩
theorem setM_ok {H : Hp} {h : Heap} (z : SetAt P w h a L) : ObjOk P w H h a (SetM P w a L) := by
  have ⟨_, _, _, ⟨o, ho, _⟩, _⟩ := z
  refine ⟨z, ⟨o, ho⟩, fun h1 h2 y k => ?_⟩
  obtain ⟨es, ep, t, ⟨o, ho, r⟩, q⟩ := y
  exact ⟨es, ep, t, ⟨o, k o ho, r⟩, q⟩
theorem setM_get {X : Cx} {pins : List (Addr × Obj)} {σ : L2.St} {H : Hp} {s : Shared} (I : Inv X pins σ H s) (e : H a = some (SetM X.prog X.w a L)) : SetAt X.prog X.w s.heap a L := (I.hok a _ e).1
theorem key_at {X : Cx} {pins : List (Addr × Obj)} {σ : L2.St} {H : Hp} {s : Shared} {b : Addr} {k : List Key} (I : Inv X pins σ H s) (e : H b = some (.tup (k.map kV))) : IsTupleKey (mixKind X.prog X.w) s.heap k b := key_of I.hok e
end
/-! ### the rules -/
section
variable {X : Cx}
def rNewM (P : Program) (w : World) : List V → Hp → VK → Prop := fun xs H Q => xs = [] ∧ ∀ p, H p = none → Q (.ref p) (upd H p (SetM P w p []))
theorem cr_newM : CallR X (.type "set") (rNewM X.prog X.w) := by
  intro pins s σ H xs us Q I r h
  obtain ⟨rfl, q⟩ := h
  cases r
  refine setR_new fun _ => ?_
  have z : SetAt X.prog X.w (s.heap.push { cls := .type "set", dict := none, data := .set #[] 0 (.fresh 0 0 (!X.w.params.followText "set-order")) }) s.heap.objs.size [] := (MSet.new (kd := mixKind X.prog X.w) (Heap.get?_push_size _ rfl)).at_set
  exact ⟨.ref _, upd H s.heap.objs.size (SetM X.prog X.w s.heap.objs.size []), I.laid (t' := s.toks) (fun b u e => Heap.get?_push_of_some _ e) (Nat.le_refl _) (setM_ok z), rfl, q _ (I.hok.fresh (Nat.le_refl _))⟩
def KeysAt (H : Hp) (L : List (Addr × List Key)) : Prop := ∀ p ∈ L, H p.1 = some (.tup (p.2.map kV))
def rInM (P : Program) (w : World) : V → V → Hp → VK → Prop := fun x y H Q => ∃ (b a : Addr) (k : List Key) (L : List (Addr × List Key)), x = .ref b ∧ y = .ref a ∧ H b = some (.tup (k.map kV)) ∧ H a = some (SetM P w a L) ∧ KeysAt H L ∧ ∀ b : Bool, (b = true ↔ k ∈ L.map Prod.snd) → Q (.bl b) H
theorem or_inM (hu : X.A.units + 1 < cLine) : OpR X (compareOp .In) (rInM X.prog X.w) := by
  intro pins s σ H x y v u Q I rx ry h
  obtain ⟨b, a, k, L, rfl, rfl, hb, ha, hk, q⟩ := h
  cases rx
  cases ry
  obtain ⟨es, ep, t, M⟩ := (setM_get I ha).whole fun p hp => key_at I (hk p hp)
  exact M.has dull_mix (key_at I hb) hu fun tk => ⟨.bl _, H, I.tok _, rfl, q _ dec_iff⟩
def rAddM (P : Program) (w : World) : V → List V → Hp → VK → Prop := fun x xs H Q => ∃ (a b : Addr) (k : List Key) (L : List (Addr × List Key)), x = .ref a ∧ xs = [.ref b] ∧ H b = some (.tup (k.map kV)) ∧ H a = some (SetM P w a L) ∧ KeysAt H L ∧ L.length < 64 ∧ k ∉ L.map Prod.snd ∧
  ∀ L' : List (Addr × List Key), L'.Perm ((b, k) :: L) → Q .non (upd H a (SetM P w a L'))
theorem mt_addM (hu : X.A.units + 1 < cLine) : MtR X "set.add" (rAddM X.prog X.w) := by
  intro pins s σ H x xs v us Q I rx rxs h
  obtain ⟨a, b, k, L, rfl, rfl, hb, ha, hk, few, new, q⟩ := h
  cases rx
  cases rxs with
  | cons ry rt =>
    cases rt
    cases ry
    obtain ⟨es, ep, t, M⟩ := (setM_get I ha).whole fun p hp => key_at I (hk p hp)
    refine M.add dull_mix (key_at I hb) hu few new fun tk h' L' es' ep' t' sb M' pm => ?_
    have he : ∃ z, h'.get? a = some z := by
      obtain ⟨o, ho, _⟩ := M'.obj
      exact ⟨o, ho⟩
    exact ⟨.non, upd H a (SetM X.prog X.w a L'), I.write (e := a) (t' := tk) (by rw [ha]; trivial) (.inl rfl) (fun c z hc hz => (sb.2 c hc).trans hz) he (setM_ok M'.at_set), rfl, q L' pm⟩
/-- o.add(e) -/
def tAddM (P : Program) (w : World) (to : TE) (t : TA) : TE := fun σ H Q => to σ H fun x H1 => (∃ a L, x = V.ref a ∧ H1 a = some (SetM P w a L)) ∧ t σ H1 fun xs H2 => rAddM P w x xs H2 Q
variable {o e : Expr} {es : List Expr} {to : TE} {t : TA} {apos cpos : Pos}
theorem pe_addM (hu : X.A.units + 1 < cLine) (ho : PE X o to) (ha : PA X (e :: es) t)
    (hbase : attributeBase o "add" X.env (eval o X.env) = eval o X.env := by rfl)
    (hfew : ((backTo cpos (starEach (e :: es) X.env)).all (fun x => !x.1) && (backToKw cpos (keywordEach [] X.env)).all (fun x => x.1.isSome)
      && decide ((e :: es).length + ([] : List Keyword).length + (if ([] : List Keyword).isEmpty then 0 else 1) < 30)) = true := by rfl)
    (hline : (apos.endLine == cpos.line) = true := by rfl) (hs : starEach (e :: es) X.env = (false, eval e X.env) :: starEach es X.env := by rfl) (hplain : (backTo cpos (starEach es X.env)).any (·.1) = false := by rfl) :
    PE X (.Call (.Attribute o "add" apos) (e :: es) [] cpos) (tAddM X.prog X.w to t) := by
  refine ⟨fun pins s σ H Q I h => ?_⟩
  refine wpAny_Call_method_late hbase hfew hline rfl (thn (ho.run pins s σ H _ I h) fun v s1 ⟨x, H1, I1, r1, ty, q1⟩ => ?_)
  obtain ⟨a, L, rfl, hL⟩ := ty
  cases r1
  obtain ⟨es', ep, tt, ⟨ob, b1, b2, b3⟩, _⟩ := setM_get I1 hL
  refine ⟨"set", "set.add", F.plainAttrs_set, F.slot_set_add, F.type_set_add, ⟨ob, b1, b2.1⟩, fun _ z => by cases z; exact ⟨ob, b1, b2.2.1⟩, ?_⟩
  have args := ha.run cpos pins s1 σ H1 _ I1 q1
  rw [hs] at args ⊢
  refine Calls.callWith_builtin (by show (false || (backTo cpos (starEach es X.env)).any (·.1)) = false; rw [hplain] <;> rfl) (Calls.evalArgs_plain ?_)
  exact thn args fun us s2 ⟨vs, H2, I2, r2, q2⟩ => mt_addM hu pins s2 σ H2 (.ref a) vs (.ref a) us Q I2 rfl r2 q2
end
end TL

set_option Elab.async false
set_option linter.all false
set_option maxRecDepth 100000
set_option maxHeartbeats 4000000
/-! TBc: over data: a set of tuples in a slot; dicts, their items, what is got of them; defs as values. -/
namespace TL
open PySem PySem.Spec PyProof.Rows L2
/-- a tuple of ints and texts -/
def keysD (k : List Key) : PyData := .tuple (k.map keyD)
theorem rp_key {K : PySem.W.Frag} {G : Hp} : ∀ {k : Key} {v : V}, Rp K G v (keyD k) → v = kV k
  | .inl i, _, h => h.int_of
  | .inr x, _, h => h.str_of
theorem rp_keys {K : PySem.W.Frag} {G : Hp} : ∀ {k : List Key} {vs : List V}, RpAll K G vs (k.map keyD) → vs = k.map kV
  | [], _, h => by cases h; rfl
  | a :: r, _, h => by
    cases h with
    | cons h1 h2 => rw [rp_key h1, rp_keys h2]; rfl
theorem Rp.keys {K : PySem.W.Frag} {G : Hp} {k : List Key} {v : V} (h : Rp K G v (keysD k)) : ∃ b, v = .ref b ∧ G b = some (.tup (k.map kV)) := by
  obtain ⟨b, xs, e, g, r⟩ := h.tup_of
  rw [rp_keys r] at g
  exact ⟨b, e, g⟩
/-- a set of these -/
def boxSet (P : Program) (w : World) (ks : List (List Key)) : Box where
  at_ := fun _ G H v S => ∃ (a : Addr) (L : List (Addr × List Key)), v = .ref a ∧ S = [a] ∧ H a = some (SetM P w a L) ∧ (L.map Prod.snd).Perm ks ∧ ∀ p ∈ L, G p.1 = some (.tup (p.2.map kV))
  up := by
    rintro K G G' H H' v S ⟨a, L, e1, e2, e3, e4, e5⟩ eg eh
    exact ⟨a, L, e1, e2, by rw [eh a (by rw [e2]; exact List.mem_cons_self)]; exact e3, e4, fun p hp => eg _ _ (e5 p hp)⟩
  live := by
    rintro K G H v S ⟨a, L, e1, rfl, e3, e4, e5⟩ b hb
    rw [List.mem_singleton.mp hb, e3]
    exact fun z => nomatch z
section
variable [XW] {K : PySem.W.Frag} {P : Program} {w : World} {ta : TE} {ua : DTE}
def dNewSet (P : Program) (w : World) (i : Nat) : DTS := fun E δ => E.nx (δ.set i (.box (boxSet P w [])))
theorem rs_newSet {i : Nat} : RS K (tAsg (tCB (rNewM P w) tNil) (gName i)) (dNewSet P w i) := by
  intro c σ G H δ D E EV h k
  refine ⟨rfl, fun p hp => ?_⟩
  refine k.nx _ G _ _ h (EV.new_box (Al.tmp EV.ex hp) (S := [p]) (fun a ha => ?_) ⟨p, [], rfl, rfl, upd_same, List.Perm.nil, fun q hq => (List.not_mem_nil hq).elim⟩) (Ex.refl _)
  rw [List.mem_singleton.mp ha]
  exact ⟨EV.ex.none hp, hp⟩
def dInSet (P : Program) (w : World) (i : Nat) (ua : DTE) : DTE := fun δ R => ua δ fun d δ1 => ∃ (ks : List (List Key)) (k : List Key), δ1[i]? = some (.box (boxSet P w ks)) ∧ d = keysD k ∧ ∀ b : Bool, (b = true ↔ k ∈ ks) → R (.bool b) δ1
theorem re_inSet {i : Nat} (ha : RE K ta ua) : RE K (tOp (rInM P w) ta (tVar i)) (dInSet P w i ua) := by
  intro c σ G H δ Q R E h k
  refine ha c σ G H δ _ _ E h fun d δ1 v G1 H1 h1 E1 e1 r1 => ?_
  obtain ⟨ks, key, hs, rfl, hR⟩ := h1
  obtain ⟨x, S, hσ, ⟨a, L, rfl, rfl, hL, pm, its⟩, _, _⟩ := E1.open_box hs
  obtain ⟨b, rfl, hb⟩ := r1.keys
  refine ⟨.ref a, hσ, b, a, key, L, rfl, rfl, E1.ex _ _ hb, hL, fun p hp => E1.ex _ _ (its p hp), fun q hq => ?_⟩
  exact k _ δ1 _ G1 H1 (hR q (hq.trans pm.mem_iff)) E1 e1 (.bl q)
def dAddSet (P : Program) (w : World) (i : Nat) (ua : DTE) : DTS := fun E δ => (∃ ks, δ[i]? = some (.box (boxSet P w ks))) ∧ ua δ fun d δ1 => ∃ (ks : List (List Key)) (k : List Key), δ1[i]? = some (.box (boxSet P w ks)) ∧ d = keysD k ∧ ks.length < 64 ∧ k ∉ ks ∧ E.nx (δ1.set i (.box (boxSet P w (k :: ks))))
theorem rs_addSet {i : Nat} (ha : RE K ta ua) : RS K (tDrop (tAddM P w (tVar i) (tCons ta tNil))) (dAddSet P w i ua) := by
  intro c σ G H δ D E EV h k
  obtain ⟨⟨ks0, h0⟩, h⟩ := h
  obtain ⟨x0, S0, hσ0, ⟨a0, L0, rfl, rfl, hL0, _, _⟩, _, _⟩ := EV.open_box h0
  refine ⟨.ref a0, hσ0, ⟨a0, L0, rfl, hL0⟩, ?_⟩
  refine ha c σ G H δ _ _ EV h fun d δ1 v G1 H1 h1 E1 e1 r1 => ?_
  obtain ⟨ks, key, hs, rfl, few, new, hN⟩ := h1
  obtain ⟨x, S, hσ, ⟨a, L, rfl, rfl, hL, pm, its⟩, free, put⟩ := E1.open_box hs
  rw [hσ0] at hσ
  obtain rfl : a0 = a := V.ref.inj (Option.some.inj (Option.some.inj hσ))
  obtain ⟨b, rfl, hb⟩ := r1.keys
  have len := pm.length_eq
  rw [List.length_map] at len
  refine ⟨a0, b, key, L, rfl, rfl, E1.ex _ _ hb, hL, fun p hp => E1.ex _ _ (its p hp), by omega, fun z => new (pm.mem_iff.mp z), fun L' pm' => ?_⟩
  have ga : G1 a0 = none := (free a0 List.mem_cons_self).1.g
  have z := put (boxSet P w (key :: ks)) (.ref a0) [a0] G1 (upd H1 a0 (SetM P w a0 L')) (Ex.refl _) (fun q o hq => by
      rw [upd_ne (ne_of_none hq ga)]
      exact E1.ex q o hq) (fun q o hq ho => by
      rw [upd_ne (fun z => hq (by rw [z]; exact List.mem_cons_self))]
      exact ho) (fun q _ _ g => g) (fun q hq => by
      rw [List.mem_singleton.mp hq]
      exact ⟨ga, (by rw [upd_same]; exact fun z => nomatch z), .inl List.mem_cons_self⟩)
    ⟨a0, L', rfl, rfl, upd_same, ?_, fun p hp => ?_⟩
  · rw [set_same hσ0] at z
    exact k.nx σ G1 _ _ hN z e1
  · exact (pm'.map Prod.snd).trans (List.Perm.cons key pm)
  · rcases List.mem_cons.mp (pm'.mem_iff.mp hp) with e | hp
    · rw [e]
      exact hb
    · exact its p hp
end
section
variable [XW] {X : Cx} {e : Expr} {te : TE} {ue : DTE} {p p2 pos : Pos}
theorem ds_newSet (i : Nat) {x : Str} (hN : X.N.Nodup) (hm : X.mg "set" = none) (hg : Gl X "set" := by rfl) (hv : bootBuiltins "set" = some (.type "set") := by decide +kernel) (hi : X.N[i]? = some x := by rfl) (hx : Loc X.env.scope x := by first | exact Or.inl rfl | exact Or.inr rfl)
    (hs : swapsWith (.Call (.Name "set" p2) [] [] pos) (some (.Name x p)) pos.line X.env = pure false := by rfl) (hf : X.fn x = true ∨ X.env.scope.names.lookup x = some .local := by first | exact .inl rfl | exact .inr rfl | assumption) {pos2 : Pos}
    (hs2 : swapsWith (.Call (.Name "set" p2) [] [] pos) (some (.Name x p)) pos2.line X.env = pure false := by rfl) :
    DS X (.Assign [.Name x p] (.Call (.Name "set" p2) [] [] pos) pos2) (tAsg (tCB (rNewM X.prog X.w) tNil) (gName i)) (dNewSet X.prog X.w i) := ⟨ps_set hN hi hx (pe_callTy0 cr_newM hg hm hv) hs2 hf, rs_newSet⟩
theorem dt_inSet (i : Nat) {x : Str} (hu : X.A.units + 65 < cLine) (he : DE X e te ue) (hN : X.N[i]? = some x := by rfl) (hv : Vis X.env.scope x := by first | exact Or.inl rfl | exact Or.inr (Or.inl rfl) | exact Or.inr (Or.inr rfl)) (hd : (x == ("__debug__" : Str)) = false := by decide)
    (hcd : (x == ("__classdict__" : Str)) = false := by decide) (hm : behindInMarks .In (.Name x p) = false := by rfl) : DT X (.Compare e [.In] [.Name x p] pos) (tTest (tOp (rInM X.prog X.w) te (tVar i))) (dTest (dInSet X.prog X.w i ue)) :=
  ⟨pt_cmpR (or_inM (by omega)) he.pe (pe_var hN hv hd hcd) hm, rt_test (re_inSet he.re)⟩
theorem ds_addSet (i : Nat) {x : Str} {apos cpos : Pos} (hu : X.A.units + 65 < cLine) (he : DE X e te ue) (hN : X.N[i]? = some x := by rfl) (hv : Vis X.env.scope x := by first | exact Or.inl rfl | exact Or.inr (Or.inl rfl) | exact Or.inr (Or.inr rfl)) (hd : (x == ("__debug__" : Str)) = false := by decide)
    (hcd : (x == ("__classdict__" : Str)) = false := by decide)
    (hb : attributeBase (.Name x p) "add" X.env (eval (.Name x p) X.env) = eval (.Name x p) X.env := by rfl)
    (hfew : ((backTo cpos (starEach [e] X.env)).all (fun x => !x.1) && (backToKw cpos (keywordEach [] X.env)).all (fun x => x.1.isSome)
      && decide ([e].length + ([] : List Keyword).length + (if ([] : List Keyword).isEmpty then 0 else 1) < 30)) = true := by rfl)
    (hline : (apos.endLine == cpos.line) = true := by rfl) (hst : starEach [e] X.env = (false, eval e X.env) :: starEach [] X.env := by rfl) (hpl : (backTo cpos (starEach [] X.env)).any (·.1) = false := by rfl)
    (hs : swapsWith (.Call (.Attribute (.Name x p) "add" apos) [e] [] cpos) none pos.line X.env = pure false := by rfl) :
    DS X (.Expr (.Call (.Attribute (.Name x p) "add" apos) [e] [] cpos) pos) (tDrop (tAddM X.prog X.w (tVar i) (tCons te tNil))) (dAddSet X.prog X.w i ue) :=
  ⟨ps_expr (pe_addM (by omega) (pe_var hN hv hd hcd) (pa_cons he.pe pa_nil hst) hb hfew hline hst hpl) hs, rs_addSet he.re⟩
end
end TL

set_option Elab.async false
set_option linter.all false
set_option maxRecDepth 100000
set_option maxHeartbeats 4000000
/-! TBd: over data: dicts of lists that are being lengthened, dicts that are being made. -/
namespace TL
open PySem PySem.Spec PyProof.Rows L2
/-- the first entry with this key -/
def kvAt {α : Type} (kvs : List (Key × α)) (k : Key) : Option α := (kvs.find? fun p => decide (p.1 = k)).map Prod.snd
/-- the entries as data -/
def kvD (kvs : List (Key × PyData)) : List (PyData × PyData) := kvs.map fun p => (keyD p.1, p.2)
def kvL (kvs : List (Key × List PyData)) : List (PyData × PyData) := kvs.map fun p => (keyD p.1, .list p.2)
/-- an entry stored -/
def kvPut {α : Type} (kvs : List (Key × α)) (k : Key) (x : α) : List (Key × α) := if (kvs.any fun p => decide (p.1 = k)) = true then kvs.map fun p => if p.1 = k then (p.1, x) else p else kvs ++ [(k, x)]
theorem kvAt_val {K : PySem.W.Frag} {G : Hp} {k : Key} : ∀ {es : List (Key × V)} {kvs : List (Key × PyData)}, RpKv K G es (kvD kvs) → (∀ d, kvAt kvs k = some d → ∃ v, valV es k = some v ∧ Rp K G v d) ∧ (kvAt kvs k = none → valV es k = none)
  | es, [], h => by
    cases h
    exact ⟨fun d e => by simp [kvAt] at e, fun _ => rfl⟩
  | es, (k0, d0) :: kvs, h => by
    have h : RpKv K G es ((keyD k0, d0) :: kvD kvs) := h
    generalize hq : (keyD k0, d0) :: kvD kvs = l at h
    cases h with
    | nil => cases hq
    | @cons k1 v es' d1 ds r t =>
      injection hq with q1 q2
      injection q1 with q1 q3
      subst q2 q3
      have ek : k0 = k1 := by
        cases k0 <;> cases k1 <;> simp [keyD] at q1 <;> first
          | (rw [q1])
          | cases q1
      subst ek
      obtain ⟨i1, i2⟩ := kvAt_val (k := k) t
      by_cases hk : k0 = k
      · subst hk
        refine ⟨fun d e => ?_, fun e => ?_⟩
        · simp [kvAt] at e
          subst e
          exact ⟨v, by simp [valV], r⟩
        · simp [kvAt] at e
      · have e1 : kvAt ((k0, d0) :: kvs) k = kvAt kvs k := by simp [kvAt, List.find?_cons, hk]
        have e2 : valV ((k0, v) :: es') k = valV es' k := by simp [valV, List.find?_cons, hk]
        rw [e1, e2]
        exact ⟨i1, i2⟩
theorem RpKv.put {K : PySem.W.Frag} {G : Hp} {k : Key} {v : V} {d : PyData} (r : Rp K G v d) : ∀ {es : List (Key × V)} {kvs : List (Key × PyData)}, RpKv K G es (kvD kvs) → RpKv K G (putK es k v) (kvD (kvPut kvs k d)) := by
  have split : ∀ {es : List (Key × V)} {k0 : Key} {d0 : PyData} {kvs : List (Key × PyData)}, RpKv K G es ((keyD k0, d0) :: kvD kvs) → ∃ v0 es', es = (k0, v0) :: es' ∧ Rp K G v0 d0 ∧ RpKv K G es' (kvD kvs) := by
    intro es k0 d0 kvs h
    generalize hq : (keyD k0, d0) :: kvD kvs = l at h
    cases h with
    | nil => cases hq
    | @cons k1 v es' d1 ds r t =>
      injection hq with q1 q2
      injection q1 with q1 q3
      subst q2 q3
      have ek : k0 = k1 := by
        cases k0 <;> cases k1 <;> simp [keyD] at q1 <;> first
          | (rw [q1])
          | cases q1
      subst ek
      exact ⟨v, es', rfl, r, t⟩
  have any : ∀ {es : List (Key × V)} {kvs : List (Key × PyData)}, RpKv K G es (kvD kvs) → (es.any fun p => decide (p.1 = k)) = kvs.any fun p => decide (p.1 = k) := by
    intro es kvs
    induction kvs generalizing es with
    | nil => intro h; cases h; rfl
    | cons p kvs ih =>
      intro h
      obtain ⟨v0, es', rfl, _, t⟩ := split h
      rw [List.any_cons, List.any_cons, ih t]
  have mp : ∀ {es : List (Key × V)} {kvs : List (Key × PyData)}, RpKv K G es (kvD kvs) → RpKv K G (es.map fun p => if p.1 = k then (p.1, v) else p) (kvD (kvs.map fun p => if p.1 = k then (p.1, d) else p)) := by
    intro es kvs
    induction kvs generalizing es with
    | nil => intro h; cases h; exact .nil
    | cons p kvs ih =>
      intro h
      obtain ⟨v0, es', rfl, r0, t⟩ := split h
      show RpKv K G ((if p.1 = k then (p.1, v) else (p.1, v0)) :: _) ((keyD (if p.1 = k then (p.1, d) else p).1, (if p.1 = k then (p.1, d) else p).2) :: _)
      by_cases hk : p.1 = k
      · rw [if_pos hk, if_pos hk]
        exact .cons r (ih t)
      · rw [if_neg hk, if_neg hk]
        exact .cons r0 (ih t)
  have snoc : ∀ {es : List (Key × V)} {kvs : List (Key × PyData)}, RpKv K G es (kvD kvs) → RpKv K G (es ++ [(k, v)]) (kvD (kvs ++ [(k, d)])) := by
    intro es kvs
    induction kvs generalizing es with
    | nil => intro h; cases h; exact .cons r .nil
    | cons p kvs ih =>
      intro h
      obtain ⟨v0, es', rfl, r0, t⟩ := split h
      exact .cons r0 (ih t)
  intro es kvs h
  unfold putK kvPut
  rw [any h]
  split
  · exact mp h
  · exact snoc h
/-! ### a dict that is being made -/
def boxD (kvs : List (Key × PyData)) : Box where
  at_ := fun K G H v S => ∃ (a : Addr) (es : List (Key × V)), v = .ref a ∧ S = [a] ∧ H a = some (.dK es) ∧ RpKv K G es (kvD kvs)
  up := by
    rintro K G G' H H' v S ⟨a, es, e1, e2, e3, e4⟩ eg eh
    exact ⟨a, es, e1, e2, by rw [eh a (by rw [e2]; exact List.mem_cons_self)]; exact e3, e4.up eg⟩
  live := by
    rintro K G H v S ⟨a, es, e1, rfl, e3, e4⟩ b hb
    rw [List.mem_singleton.mp hb, e3]
    exact fun z => nomatch z
theorem kvD_len (kvs : List (Key × PyData)) : (kvD kvs).length = kvs.length := by unfold kvD; rw [List.length_map]
section
variable [XW] {K : PySem.W.Frag} {te : TE} {ue : DTE}
def dNewDict (i : Nat) : DTS := fun E δ => E.nx (δ.set i (.box (boxD [])))
theorem rs_newDict {i : Nat} : RS K (tAsg tDNewK (gName i)) (dNewDict i) := by
  intro c σ G H δ D E EV h k p hp
  refine k.nx _ G _ _ h (EV.new_box (Al.tmp EV.ex hp) (S := [p]) (fun a ha => ?_) ⟨p, [], rfl, rfl, upd_same, .nil⟩) (Ex.refl _)
  rw [List.mem_singleton.mp ha]
  exact ⟨EV.ex.none hp, hp⟩
/-- d[k] = e, k a name -/
def dPutV (i j : Nat) (ue : DTE) : DTS := fun E δ => ue δ fun d δ1 => ∃ (kvs : List (Key × PyData)) (k : Key), δ1[i]? = some (.box (boxD kvs)) ∧ δ1[j]? = some (.dat (keyD k)) ∧ kvs.length < sizeLine ∧ E.nx (δ1.set i (.box (boxD (kvPut kvs k d))))
theorem rs_putV {i j : Nat} (he : RE K te ue) : RS K (sDPut (tVar i) (tVar j) te) (dPutV i j ue) := by
  intro c σ G H δ D E EV h k
  refine he c σ G H δ _ _ EV h fun d δ1 v G1 H1 h1 E1 e1 r1 => ?_
  obtain ⟨kvs, key, hs, hj, few, hN⟩ := h1
  obtain ⟨x, S, hσ, ⟨a, es, rfl, rfl, ha, r⟩, free, put⟩ := E1.open_box hs
  obtain ⟨y, hy, ry⟩ := E1.sl j _ hj
  have ry := rp_key ry
  subst ry
  have len : es.length < sizeLine := by
    have := r.len
    rw [kvD_len] at this
    omega
  refine ⟨.ref a, hσ, kV key, hy, a, _, rfl, DPut.k ha len, ?_⟩
  have ga : G1 a = none := (free a List.mem_cons_self).1.g
  have z := put (boxD (kvPut kvs key d)) (.ref a) [a] G1 (upd H1 a (.dK (putK es key v))) (Ex.refl _) (fun q o hq => by
      rw [upd_ne (ne_of_none hq ga)]
      exact E1.ex q o hq) (fun q o hq ho => by
      rw [upd_ne (fun z => hq (by rw [z]; exact List.mem_cons_self))]
      exact ho) (fun q _ _ g => g) (fun q hq => by
      rw [List.mem_singleton.mp hq]
      exact ⟨ga, (by rw [upd_same]; exact fun z => nomatch z), .inl List.mem_cons_self⟩)
    ⟨a, _, rfl, rfl, upd_same, RpKv.put r1 r⟩
  rw [set_same hσ] at z
  exact k.nx σ G1 _ _ hN z e1
/-- a name, its dict made -/
def dTold (i : Nat) : DTE := fun δ R => ∃ kvs, δ[i]? = some (.box (boxD kvs)) ∧ R (.dict (kvD kvs)) (δ.set i (.dat (.dict (kvD kvs))))
theorem re_told {i : Nat} : RE K (tFix (tVar i)) (dTold i) := by
  intro c σ G H δ Q R E h k
  obtain ⟨kvs, hs, hR⟩ := h
  obtain ⟨x, S, hσ, ⟨a, es, rfl, rfl, ha, r⟩, free, put⟩ := E.open_box hs
  refine ⟨.ref a, hσ, a, es, rfl, ha, fun o => ?_⟩
  have ga : G a = none := (free a List.mem_cons_self).1.g
  have eg : Ex G (upd G a (.frz o (.dK es))) := Ex.new ga
  have rp : Rp K (upd G a (.frz o (.dK es))) (.ref a) (.dict (kvD kvs)) := .dic upd_same (r.up eg) (r.noErr)
  have z := (put bxNo (.ref a) [] (upd G a (.frz o (.dK es))) (upd H a (.frz o (.dK es))) eg (fun q u hq => by
      by_cases hqa : q = a
      · rw [hqa, upd_same] at hq ⊢
        exact hq
      · rw [upd_ne hqa] at hq ⊢
        exact E.ex q u hq) (fun q u hq hu => by
      rw [upd_ne (fun z => hq (by rw [z]; exact List.mem_cons_self))]
      exact hu) (fun q hq _ g => by
      rw [upd_ne (fun z => hq (by rw [z]; exact List.mem_cons_self))]
      exact g) (fun q hq => (List.not_mem_nil hq).elim) rfl).put (i := i) rp
  rw [set_same hσ, set_same hσ, List.set_set] at z
  exact k _ _ _ _ _ hR z eg rp
end
end TL

set_option Elab.async false
set_option linter.all false
set_option maxRecDepth 100000
set_option maxHeartbeats 4000000
/-! TBe: over data: dicts of lists that are being lengthened. -/
namespace TL
open PySem PySem.Spec PyProof.Rows L2
/-- lists of one's own, and what is in them -/
inductive Lists (K : PySem.W.Frag) (G H : Hp) : List (Key × Addr) → List (Key × List PyData) → Prop
  | nil : Lists K G H [] []
  | cons {k : Key} {p : Addr} {xs : List V} {ds : List PyData} {es : List (Key × Addr)} {kvs : List (Key × List PyData)} : H p = some (.lst xs) → RpAll K G xs ds → Lists K G H es kvs → Lists K G H ((k, p) :: es) ((k, ds) :: kvs)
theorem Lists.up {K : PySem.W.Frag} {G G' H H' : Hp} (eg : Ex G G') : ∀ {es : List (Key × Addr)} {kvs : List (Key × List PyData)}, Lists K G H es kvs → (∀ a ∈ es.map Prod.snd, H' a = H a) → Lists K G' H' es kvs
  | _, _, .nil, _ => .nil
  | _, _, .cons (p := p) h r t, e => .cons (by rw [e p (by simp)]; exact h) (r.up eg) (t.up eg fun a ha => e a (List.mem_cons_of_mem _ ha))
theorem Lists.len {K : PySem.W.Frag} {G H : Hp} : ∀ {es : List (Key × Addr)} {kvs : List (Key × List PyData)}, Lists K G H es kvs → es.length = kvs.length
  | _, _, .nil => rfl
  | _, _, .cons _ _ t => by rw [List.length_cons, List.length_cons, t.len]
theorem Lists.live {K : PySem.W.Frag} {G H : Hp} : ∀ {es : List (Key × Addr)} {kvs : List (Key × List PyData)}, Lists K G H es kvs → ∀ a ∈ es.map Prod.snd, H a ≠ none
  | _, _, .nil, a, h => (List.not_mem_nil h).elim
  | _, _, .cons (p := p) h r t, a, ha => by
    rcases List.mem_cons.mp ha with e | ha
    · have e : a = p := e
      rw [e, h]
      exact fun z => nomatch z
    · exact t.live a ha
/-- as the dict has it -/
def refs (es : List (Key × Addr)) : List (Key × V) := es.map fun e => (e.1, V.ref e.2)
def boxDL (kvs : List (Key × List PyData)) : Box where
  at_ := fun K G H v S => ∃ (a : Addr) (es : List (Key × Addr)), v = .ref a ∧ S = a :: es.map Prod.snd ∧ S.Nodup ∧ H a = some (.dK (refs es)) ∧ Lists K G H es kvs
  up := by
    rintro K G G' H H' v S ⟨a, es, e1, e2, e3, e4, e5⟩ eg eh
    subst e2
    exact ⟨a, es, e1, rfl, e3, by rw [eh a List.mem_cons_self]; exact e4, e5.up eg fun b hb => eh b (List.mem_cons_of_mem _ hb)⟩
  live := by
    rintro K G H v S ⟨a, es, e1, rfl, e3, e4, e5⟩ b hb
    rcases List.mem_cons.mp hb with e | hb
    · rw [e, e4]
      exact fun z => nomatch z
    · exact e5.live b hb
/-- the first list with this key is lengthened -/
def kvApp (k : Key) (x : PyData) : List (Key × List PyData) → List (Key × List PyData)
  | [] => []
  | (k0, ds) :: r => if k0 = k then (k0, ds ++ [x]) :: r else (k0, ds) :: kvApp k x r
theorem Lists.at_ {K : PySem.W.Frag} {G H : Hp} {k : Key} : ∀ {es : List (Key × Addr)} {kvs : List (Key × List PyData)}, Lists K G H es kvs → (kvAt kvs k = none → valV (refs es) k = none) ∧ ∀ ds, kvAt kvs k = some ds → ∃ (p : Addr) (xs : List V), valV (refs es) k = some (.ref p) ∧ p ∈ es.map Prod.snd ∧ H p = some (.lst xs) ∧ RpAll K G xs ds ∧
    ((es.map Prod.snd).Nodup → ∀ (v : V) (x : PyData), Rp K G v x → Lists K G (upd H p (.lst (xs ++ [v]))) es (kvApp k x kvs))
  | _, _, .nil => ⟨fun _ => rfl, fun ds e => by simp [kvAt] at e⟩
  | _, _, .cons (k := k0) (p := p) (xs := xs) (ds := d0) (es := es) (kvs := kvs) h r t => by
    obtain ⟨i1, i2⟩ := Lists.at_ (k := k) t
    by_cases hk : k0 = k
    · subst hk
      refine ⟨fun e => by simp [kvAt] at e, fun ds e => ?_⟩
      have e : d0 = ds := by simpa [kvAt] using e
      subst e
      refine ⟨p, xs, by simp [refs, valV], by simp, h, r, fun nd v x rv => ?_⟩
      have np : p ∉ es.map Prod.snd := (List.nodup_cons.mp nd).1
      show Lists K G _ ((k0, p) :: es) (if k0 = k0 then (k0, d0 ++ [x]) :: kvs else _)
      rw [if_pos rfl]
      exact .cons upd_same (r.app (.one rv)) (t.up (Ex.refl _) fun a ha => upd_ne fun z => np (by rw [← z]; exact ha))
    · have e1 : kvAt ((k0, d0) :: kvs) k = kvAt kvs k := by simp [kvAt, List.find?_cons, hk]
      have e2 : valV (refs ((k0, p) :: es)) k = valV (refs es) k := by simp [refs, valV, List.find?_cons, hk]
      rw [e1, e2]
      refine ⟨i1, fun ds e => ?_⟩
      obtain ⟨q, ys, j1, j2, j3, j4, j5⟩ := i2 ds e
      refine ⟨q, ys, j1, List.mem_cons_of_mem _ j2, j3, j4, fun nd v x rv => ?_⟩
      obtain ⟨np, nd⟩ := List.nodup_cons.mp nd
      show Lists K G _ ((k0, p) :: es) (if k0 = k then _ else (k0, d0) :: kvApp k x kvs)
      rw [if_neg hk]
      exact .cons (by rw [upd_ne (fun z => np (by show p ∈ _; rw [z]; exact j2))]; exact h) r (j5 nd v x rv)
section
variable [XW] {K : PySem.W.Frag} {te : TE} {ue : DTE}
/-- whether a key stands in a dict of lists -/
def dInDL (i : Nat) (ue : DTE) : DTE := fun δ R => ue δ fun d δ1 => ∃ (kvs : List (Key × List PyData)) (k : Key), δ1[i]? = some (.box (boxDL kvs)) ∧ d = keyD k ∧ R (.bool (kvAt kvs k).isSome) δ1
theorem re_inDL {i : Nat} (he : RE K te ue) : RE K (tDIn te (tVar i)) (dInDL i ue) := by
  intro c σ G H δ Q R E h k
  refine he c σ G H δ _ _ E h fun d δ1 v G1 H1 h1 E1 e1 r1 => ?_
  obtain ⟨kvs, key, hs, rfl, hR⟩ := h1
  obtain ⟨x, S, hσ, ⟨a, es, rfl, rfl, nd, ha, ls⟩, _, _⟩ := E1.open_box hs
  have ev := rp_key r1
  subst ev
  refine ⟨.ref a, hσ, a, _, rfl, DGet.k ha, ?_⟩
  obtain ⟨l1, l2⟩ := Lists.at_ (k := key) ls
  have e : (valV (refs es) key).isSome = (kvAt kvs key).isSome := by
    cases q : kvAt kvs key with
    | none => rw [l1 q]; rfl
    | some ds =>
      obtain ⟨p, xs, z, _⟩ := l2 ds q
      rw [z]; rfl
  rw [e]
  exact k _ δ1 _ G1 H1 hR E1 e1 (.bl _)
/-- d[e].append(name) -/
def dAppDL (i j : Nat) (ue : DTE) : DTS := fun E δ => (∃ kvs, δ[i]? = some (.box (boxDL kvs))) ∧ ue δ fun d δ1 => ∃ (kvs : List (Key × List PyData)) (k : Key) (ds : List PyData) (x : PyData), δ1[i]? = some (.box (boxDL kvs)) ∧ d = keyD k ∧ kvAt kvs k = some ds ∧ δ1[j]? = some (.dat x) ∧ ds.length < sizeLine ∧
  E.nx (δ1.set i (.box (boxDL (kvApp k x kvs))))
theorem rs_appDL {i j : Nat} (he : RE K te ue) : RS K (tDrop (tBM K "list" rAppend (tDGet (tVar i) te) (tCons (tVar j) tNil))) (dAppDL i j ue) := by
  intro c σ G H δ D E EV h k
  obtain ⟨⟨kvs0, h0⟩, h⟩ := h
  obtain ⟨x0, S0, hσ0, ⟨a0, es0, rfl, rfl, _, _, _⟩, _, _⟩ := EV.open_box h0
  refine ⟨.ref a0, hσ0, ?_⟩
  refine he c σ G H δ _ _ EV h fun d δ1 v G1 H1 h1 E1 e1 r1 => ?_
  obtain ⟨kvs, key, ds, x, hs, rfl, hk, hj, few, hN⟩ := h1
  obtain ⟨x1, S, hσ, ⟨a, es, rfl, rfl, nd, ha, ls⟩, free, put⟩ := E1.open_box hs
  rw [hσ0] at hσ
  obtain rfl : a0 = a := V.ref.inj (Option.some.inj (Option.some.inj hσ))
  have ev := rp_key r1
  subst ev
  obtain ⟨_, l2⟩ := Lists.at_ (k := key) ls
  obtain ⟨p, xs, q1, q2, q3, q4, q5⟩ := l2 ds hk
  refine ⟨a0, .ref p, rfl, ?_, .inl ⟨rfl, xs, .inl (.inl q3)⟩, ?_⟩
  · rw [← q1]
    exact DGet.k ha
  obtain ⟨y, hy, ry⟩ := E1.sl j _ hj
  refine ⟨y, hy, p, xs, y, rfl, rfl, q3, by rw [q4.len]; exact few, ?_⟩
  have pS : p ∈ a0 :: es.map Prod.snd := List.mem_cons_of_mem _ q2
  have gp : G1 p = none := (free p pS).1.g
  have ne : a0 ≠ p := fun z => (List.nodup_cons.mp nd).1 (by rw [z]; exact q2)
  have z := put (boxDL (kvApp key x kvs)) (.ref a0) (a0 :: es.map Prod.snd) G1 (upd H1 p (.lst (xs ++ [y]))) (Ex.refl _) (fun q o hq => by
      rw [upd_ne (ne_of_none hq gp)]
      exact E1.ex q o hq) (fun q o hq ho => by
      rw [upd_ne (fun z => hq (by rw [z]; exact pS))]
      exact ho) (fun q _ _ g => g) (fun q hq => ⟨(free q hq).1.g, (by
      by_cases hqp : q = p
      · rw [hqp, upd_same]; exact fun z => nomatch z
      · rw [upd_ne hqp]; exact (free q hq).2), .inl hq⟩)
    ⟨a0, es, rfl, rfl, nd, by rw [upd_ne ne]; exact ha, q5 (List.nodup_cons.mp nd).2 y x ry⟩
  rw [set_same hσ0] at z
  exact k.nx σ G1 _ _ hN z e1
end
end TL

set_option Elab.async false
set_option linter.all false
set_option maxRecDepth 100000
set_option maxHeartbeats 4000000
/-! TBf: over data: a dict of empty lists is made; a dict of lists is told; what is got of a told dict, its items; enumerate. -/
namespace TL
open PySem PySem.Spec PyProof.Rows L2
section
variable [XW] {K : PySem.W.Frag} {c : Cf} {G H : Hp} {σ : L2.St} {δ : List Sl}
/-- what is hidden is forgotten, in part -/
theorem EnvOk.hid_to {hs : List (Addr × HO)} (E : EnvOk K c G H σ δ) (hh : ∀ x ∈ hs, x ∈ c.hid) : EnvOk K { c with hid := hs } G H σ δ where
  g0 := E.g0
  xw := E.xw
  ex := E.ex
  fr := E.fr
  fs := E.fs
  tg := E.tg
  len := E.len
  sl := fun i s h => by
    have z := E.sl i s h
    cases s with
    | no => trivial
    | box b => trivial
    | dat d => exact z
    | scr es => exact z
    | own t ds => exact z
  ap := E.ap
  hd := fun p o h => E.hd p o (hh _ h)
  bx := E.bx.like rfl rfl rfl hh
/-- what was hidden is put into a slot as a box -/
theorem EnvOk.give_box {hs : List (Addr × HO)} (E : EnvOk K { c with hid := hs ++ c.hid } G H σ δ) {S : List Addr} (hS : ∀ a ∈ S, (∃ o, (a, o) ∈ hs) ∧ ∀ o, (a, o) ∉ c.hid) {b : Box} {x : V} (hb : b.at_ K G H x S) (i : Nat) :
    EnvOk K c G H (σ.set i (some x)) (δ.set i (.box b)) := by
  have E0 : EnvOk K c G H σ δ := E.hid_to (hs := c.hid) fun x hx => List.mem_append_right _ hx
  have at_ : ∀ a ∈ S, G a = none ∧ c.H0 a = none ∧ (∀ j, j < c.n → a ≠ c.τ j) ∧ ∀ (j : Nat) (t : Option Nat) (ds : List PyData), δ[j]? = some (.own t ds) → σ[j]? ≠ some (some (.ref a)) := fun a ha => by
    obtain ⟨⟨o, ho⟩, _⟩ := hS a ha
    obtain ⟨a1, a2, a3, a4, a5⟩ := E.hd a o (List.mem_append_left _ ho)
    exact ⟨a2, a3, a4, a5⟩
  exact {
    xw := E0.xw, g0 := E0.g0, ex := E0.ex, fr := E0.fr, fs := E0.fs, tg := E0.tg
    len := by rw [List.length_set, List.length_set, E0.len]
    sl := fun j s h => by
      rw [List.getElem?_set] at h ⊢
      by_cases hj : i = j
      · rw [if_pos hj] at h
        split at h
        · cases h
          trivial
        · cases h
      · rw [if_neg hj] at h ⊢
        exact E0.sl j s h
    ap := fun p q t1 d1 t2 d2 hpq h1 h2 => by
      obtain ⟨hp, h1⟩ := set_own (by intro t d z; cases z) h1
      obtain ⟨hq, h2⟩ := set_own (by intro t d z; cases z) h2
      rw [List.getElem?_set_ne hp, List.getElem?_set_ne hq]
      exact E0.ap p q t1 d1 t2 d2 hpq h1 h2
    hd := fun p o h => by
      obtain ⟨a1, a2, a3, a4, a5⟩ := E0.hd p o h
      refine ⟨a1, a2, a3, a4, fun j t ds hj => ?_⟩
      obtain ⟨hi, hj⟩ := set_own (by intro t d z; cases z) hj
      rw [List.getElem?_set_ne hi]
      exact a5 j t ds hj
    bx := by
      obtain ⟨F, hF⟩ := E.bx
      have own : ∀ (j : Nat) (t : Option Nat) (ds : List PyData), (δ.set i (Sl.box b))[j]? = some (.own t ds) → i ≠ j ∧ δ[j]? = some (.own t ds) := fun j t ds h => set_own (by intro t d z; cases z) h
      refine ⟨fun j => if j = i then S else F j, fun j bj hj => ?_⟩
      by_cases hji : i = j
      · subst hji
        rw [List.getElem?_set, if_pos rfl] at hj
        split at hj
        · cases hj
          rw [List.getElem?_set, if_pos rfl, if_pos (by rw [E.len]; assumption)]
          simp only [if_true]
          refine ⟨⟨x, rfl, hb⟩, fun a ha => ?_, fun j' bj' hne hj' a ha => ?_⟩
          · obtain ⟨a1, a2, a3, a4⟩ := at_ a ha
            refine ⟨a1, a2, a3, (hS a ha).2, fun j t ds h => ?_⟩
            obtain ⟨hi, h⟩ := own j t ds h
            rw [List.getElem?_set_ne hi]
            exact a4 j t ds h
          · rw [if_neg hne]
            rw [List.getElem?_set, if_neg (fun z => hne z.symm)] at hj'
            intro z
            obtain ⟨⟨o, ho⟩, _⟩ := hS a ha
            exact ((hF j' bj' hj').2.1 a z).hd o (List.mem_append_left _ ho)
        · cases hj
      · rw [List.getElem?_set, if_neg hji] at hj
        rw [List.getElem?_set, if_neg hji]
        obtain ⟨hy, hyf, hyd⟩ := hF j bj hj
        have hne : ¬ j = i := fun z => hji z.symm
        simp only [if_neg hne]
        refine ⟨hy, fun a ha => ?_, fun j' bj' hne' hj' a ha => ?_⟩
        · have f := hyf a ha
          refine ⟨f.g, f.h0, f.tg, fun o h => f.hd o (List.mem_append_right _ h), fun j t ds h => ?_⟩
          obtain ⟨hi, h⟩ := own j t ds h
          rw [List.getElem?_set_ne hi]
          exact f.ow j t ds h
        · by_cases hj'i : j' = i
          · subst hj'i
            rw [if_pos rfl]
            intro z
            obtain ⟨⟨o, ho⟩, _⟩ := hS a z
            exact (hyf a ha).hd o (List.mem_append_left _ ho)
          · rw [if_neg hj'i]
            rw [List.getElem?_set, if_neg (fun z => hj'i z.symm)] at hj'
            exact hyd j' bj' hne' hj' a ha }
end
/-! ### {x: [] for x in ..} -/
/-- the keys, each once, each with nothing -/
def newL : List Key → List (Key × List PyData) → List (Key × List PyData)
  | [], acc => acc
  | k :: r, acc => newL r (if (acc.any fun p => decide (p.1 = k)) = true then acc else acc ++ [(k, [])])
def putE (es : List (Key × Addr)) (k : Key) (p : Addr) : List (Key × Addr) := if (es.any fun e => decide (e.1 = k)) = true then es.map fun e => if e.1 = k then (e.1, p) else e else es ++ [(k, p)]
theorem refs_put (es : List (Key × Addr)) (k : Key) (p : Addr) : putK (refs es) k (.ref p) = refs (putE es k p) := by
  have any : ((refs es).any fun e => decide (e.1 = k)) = es.any fun e => decide (e.1 = k) := by
    unfold refs
    rw [List.any_map]
    rfl
  unfold putK putE
  rw [any]
  split
  · unfold refs
    rw [List.map_map, List.map_map]
    refine List.map_congr_left fun e _ => ?_
    show (if e.1 = k then (e.1, V.ref p) else (e.1, V.ref e.2)) = ((if e.1 = k then (e.1, p) else e).1, V.ref (if e.1 = k then (e.1, p) else e).2)
    split <;> rfl
  · unfold refs
    rw [List.map_append]
    rfl
/-- so far all lists are empty -/
structure Empties (es : List (Key × Addr)) (kvs : List (Key × List PyData)) : Prop where
  ks : es.map Prod.fst = kvs.map Prod.fst
  nil : ∀ p ∈ kvs, p.2 = []
  one : (es.map Prod.fst).Nodup
  nd : (es.map Prod.snd).Nodup
theorem mem_putE {es : List (Key × Addr)} {k : Key} {p a : Addr} (h : a ∈ (putE es k p).map Prod.snd) : a = p ∨ a ∈ es.map Prod.snd := by
  unfold putE at h
  split at h
  · rw [List.map_map] at h
    obtain ⟨e, he, rfl⟩ := List.mem_map.mp h
    by_cases hk : e.1 = k
    · left
      show (if e.1 = k then (e.1, p) else e).2 = p
      rw [if_pos hk]
    · right
      refine List.mem_map.mpr ⟨e, he, ?_⟩
      show _ = (if e.1 = k then (e.1, p) else e).2
      rw [if_neg hk]
  · rw [List.map_append, List.mem_append] at h
    rcases h with h | h
    · exact .inr h
    · exact .inl (List.mem_singleton.mp h)
theorem any_fst {α : Type} (l : List (Key × α)) (k : Key) : (l.any fun e => decide (e.1 = k)) = true ↔ k ∈ l.map Prod.fst := by
  rw [List.any_eq_true, List.mem_map]
  constructor
  · rintro ⟨e, he, h⟩
    exact ⟨e, he, of_decide_eq_true h⟩
  · rintro ⟨e, he, h⟩
    exact ⟨e, he, decide_eq_true h⟩
theorem Empties.put {es : List (Key × Addr)} {kvs : List (Key × List PyData)} (m : Empties es kvs) (k : Key) {p : Addr} (new : p ∉ es.map Prod.snd) : Empties (putE es k p) (if (kvs.any fun e => decide (e.1 = k)) = true then kvs else kvs ++ [(k, [])]) := by
  have same : (es.any fun e => decide (e.1 = k)) = kvs.any fun e => decide (e.1 = k) := by rw [Bool.eq_iff_iff, any_fst, any_fst, m.ks]
  unfold putE
  rw [same]
  have fst : ∀ l : List (Key × Addr), (l.map fun e => if e.1 = k then (e.1, p) else e).map Prod.fst = l.map Prod.fst := fun l => by
    rw [List.map_map]
    refine List.map_congr_left fun e _ => ?_
    show (if e.1 = k then (e.1, p) else e).1 = e.1
    split <;> rfl
  by_cases h : (kvs.any fun e => decide (e.1 = k)) = true
  · rw [if_pos h, if_pos h]
    refine ⟨by rw [fst, m.ks], m.nil, by rw [fst]; exact m.one, ?_⟩
    -- the one key's address is exchanged
    have key : ∀ l : List (Key × Addr), (l.map Prod.fst).Nodup → (l.map Prod.snd).Nodup → p ∉ l.map Prod.snd → ((l.map fun e => if e.1 = k then (e.1, p) else e).map Prod.snd).Nodup ∧ (k ∉ l.map Prod.fst → p ∉ (l.map fun e => if e.1 = k then (e.1, p) else e).map Prod.snd) := by
      intro l
      induction l with
      | nil => exact fun _ _ _ => ⟨List.nodup_nil, fun _ z => by cases z⟩
      | cons e r ih =>
        intro n1 n2 n3
        obtain ⟨a1, a2⟩ := List.nodup_cons.mp n1
        obtain ⟨b1, b2⟩ := List.nodup_cons.mp n2
        have c1 : p ≠ e.2 := fun z => n3 (by rw [z]; exact List.mem_cons_self)
        have c2 : p ∉ r.map Prod.snd := fun z => n3 (List.mem_cons_of_mem _ z)
        obtain ⟨i1, i2⟩ := ih a2 b2 c2
        rw [List.map_cons, List.map_cons]
        have sub : ∀ x, x ∈ (r.map fun e => if e.1 = k then (e.1, p) else e).map Prod.snd → x = p ∨ x ∈ r.map Prod.snd := fun x hx => by
          rw [List.map_map] at hx
          obtain ⟨e', he', rfl⟩ := List.mem_map.mp hx
          by_cases hk : e'.1 = k
          · left
            show (if e'.1 = k then (e'.1, p) else e').2 = p
            rw [if_pos hk]
          · right
            refine List.mem_map.mpr ⟨e', he', ?_⟩
            show _ = (if e'.1 = k then (e'.1, p) else e').2
            rw [if_neg hk]
        by_cases hk : e.1 = k
        · refine ⟨List.nodup_cons.mpr ⟨?_, i1⟩, fun z => absurd (by rw [List.map_cons, hk]; exact List.mem_cons_self) z⟩
          rw [if_pos hk]
          exact i2 (by rw [← hk]; exact a1)
        · refine ⟨List.nodup_cons.mpr ⟨?_, i1⟩, fun z => ?_⟩
          · rw [if_neg hk]
            intro z
            rcases sub _ z with z | z
            · exact c1 z.symm
            · exact b1 z
          · rw [if_neg hk]
            rw [List.map_cons] at z
            intro y
            rcases List.mem_cons.mp y with y | y
            · exact c1 y
            · exact i2 (fun q => z (List.mem_cons_of_mem _ q)) y
    exact (key es m.one m.nd new).1
  · rw [if_neg h, if_neg h]
    have hk : k ∉ es.map Prod.fst := fun z => h (by rw [← same]; exact (any_fst es k).mpr z)
    refine ⟨by rw [List.map_append, List.map_append, m.ks]; rfl, fun q hq => ?_, ?_, ?_⟩
    · rcases List.mem_append.mp hq with hq | hq
      · exact m.nil q hq
      · rw [List.mem_singleton.mp hq]
    · rw [List.map_append]
      exact List.nodup_append.mpr ⟨m.one, List.nodup_cons.mpr ⟨List.not_mem_nil, List.nodup_nil⟩, fun a ha b hb z => hk (by have hb : b = k := List.mem_singleton.mp hb; rw [← hb, ← z]; exact ha)⟩
    · rw [List.map_append]
      exact List.nodup_append.mpr ⟨m.nd, List.nodup_cons.mpr ⟨List.not_mem_nil, List.nodup_nil⟩, fun a ha b hb z => new (by have hb : b = p := List.mem_singleton.mp hb; rw [← hb, ← z]; exact ha)⟩
theorem Empties.lists {K : PySem.W.Frag} {G H : Hp} : ∀ {es : List (Key × Addr)} {kvs : List (Key × List PyData)}, es.map Prod.fst = kvs.map Prod.fst → (∀ p ∈ kvs, p.2 = []) → (∀ a ∈ es.map Prod.snd, H a = some (.lst [])) → Lists K G H es kvs
  | [], [], _, _, _ => .nil
  | [], _ :: _, h, _, _ => by cases h
  | _ :: _, [], h, _, _ => by cases h
  | (k, p) :: es, (k', ds) :: kvs, h, n, l => by
    have h1 : k = k' := (List.cons.inj h).1
    have h2 : ds = [] := n _ List.mem_cons_self
    subst h1 h2
    exact .cons (l p List.mem_cons_self) .nil (Empties.lists (List.cons.inj h).2 (fun q hq => n q (List.mem_cons_of_mem _ hq)) fun a ha => l a (List.mem_cons_of_mem _ ha))
section
variable [XW] {K : PySem.W.Frag} {w : TI} {uw : DTI}
def dNewDL (i j : Nat) (vs : List Nat) (uw : DTI) : DTS := fun E δ => uw δ fun ds δ1 => wipeS δ1 vs = δ1 ∧ ∃ ks : List Key, ds = ks.map keyD ∧ ks.length < sizeLine ∧ j < δ1.length ∧ E.nx (δ1.set i (.box (boxDL (newL ks []))))
theorem putE_len (es : List (Key × Addr)) (k : Key) (p : Addr) : (putE es k p).length ≤ es.length + 1 := by
  unfold putE
  split
  · rw [List.length_map]; omega
  · rw [List.length_append]; exact Nat.le_refl _
theorem rs_newDL {i j : Nat} (hw : RI K w uw) : RS K (tAsg (tDc w (gName j) tYes (tVar j) (tLst tNil) [j]) (gName i)) (dNewDL i j [j] uw) := by
  intro c σ G H δ D E EV h k
  refine hw c σ G H δ _ _ EV h fun ds δ1 J G1 H1 h1 E1 e1 Y => ?_
  obtain ⟨hw, ks, rfl, few, jl, hN⟩ := h1
  intro A hA
  have h0 := k.h0
  -- hidden: the dict, and all lists that were made for it
  let hid : List (Key × Addr) → List Addr → List (Addr × HO) := fun es ps => (A, .dK (refs es)) :: ps.map fun p => (p, HO.lst [])
  have hj : ∀ (σ' : L2.St), σ'.length = σ.length → True := fun _ _ => trivial
  refine ⟨fun n m H => ∃ (G : Hp) (es : List (Key × Addr)) (kvs : List (Key × List PyData)) (ps : List Addr), EnvOk K { c with hid := hid es ps ++ c.hid } G H σ δ1 ∧ Ex G1 G ∧ Empties es kvs ∧ (∀ a ∈ es.map Prod.snd, a ∈ ps) ∧ A ∉ ps ∧ n ≤ ks.length ∧ es.length ≤ n ∧ m = ks.length - n ∧ newL ks [] = newL (ks.drop n) kvs,
    ⟨ks.length, G1, [], [], [], E1.hide hA (E1.new0 hA), Ex.refl _, ⟨rfl, fun p hp => (List.not_mem_nil hp).elim, List.nodup_nil, List.nodup_nil⟩, fun a ha => ha, List.not_mem_nil, Nat.zero_le _, Nat.le_refl _, rfl, rfl⟩, ?_⟩
  rintro n m H ⟨G, es, kvs, ps, E, e, mt, sub, hAp, hn, hl, rfl, hnew⟩
  have lenD : (ks.map keyD).length = ks.length := List.length_map _
  by_cases hlt : n < ks.length
  · have hd : (ks.map keyD)[n]? = some (keyD ks[n]) := by rw [List.getElem?_map, List.getElem?_eq_getElem hlt]; rfl
    rw [List.drop_eq_getElem_cons hlt] at hnew
    obtain ⟨hgo, hy⟩ := Y.go G H n _ e E.ex hd
    refine .inr ⟨hgo, fun H' => ∃ (G : Hp) (es : List (Key × Addr)) (kvs : List (Key × List PyData)) (ps : List Addr), EnvOk K { c with hid := hid es ps ++ c.hid } G H' σ δ1 ∧ Ex G1 G ∧ Empties es kvs ∧ (∀ a ∈ es.map Prod.snd, a ∈ ps) ∧ A ∉ ps ∧ es.length ≤ n + 1 ∧ newL ks [] = newL (ks.drop (n + 1)) kvs,
      fun H' ⟨G', es', kvs', ps', a1, a2, a3, a4, a5, a6, a7⟩ => ⟨ks.length - (n + 1), by omega, G', es', kvs', ps', a1, a2, a3, a4, a5, hlt, a6, rfl, a7⟩, fun x H2 hx => ?_⟩
    obtain ⟨G2, AL, rx⟩ := hy x H2 hx
    have ev := rp_key rx
    subst ev
    have E2 := E.al AL
    show L2.wipe (List.set (L2.wipe σ [j]) j (some (kV ks[n]))) [j] = L2.wipe σ [j] ∧ _
    have wl : L2.wipe (List.set (L2.wipe σ [j]) j (some (kV ks[n]))) [j] = L2.wipe σ [j] := wipe_eq (by rw [List.length_set, wipe_length]) fun q hq => by
      have hq : ¬ j = q := fun z => hq (by rw [z]; exact List.mem_singleton.mpr rfl)
      rw [List.getElem?_set_ne hq, wipe_get, if_neg fun z => hq (List.mem_singleton.mp z.1).symm]
    refine ⟨wl, ?_⟩
    have hjl : j < σ.length := by rw [E.len]; exact jl
    simp only [tYes, if_true]
    · refine ⟨kV ks[n], by rw [List.getElem?_set, if_pos rfl, if_pos (by rw [wipe_length]; exact hjl)], ?_⟩
      refine ⟨by show 0 ≤ 16777216; decide, fun p hp => ?_⟩
      refine ⟨refs es, ks[n], rfl, ?_, ?_, ?_⟩
      · have hA2 : H2 A = some (.dK (refs es)) := (E2.hd A _ (List.mem_append_left _ List.mem_cons_self)).1
        rw [upd_ne (ne_of_none hA2 hp)]
        exact hA2
      · show (refs es).length < _
        unfold refs
        rw [List.length_map]
        omega
      · -- the new list is hidden, then the dict grows
        have hp0 : c.H0 p = none := E2.new0 hp
        have E3 : EnvOk K { c with hid := (p, HO.lst []) :: (hid es ps ++ c.hid) } G2 (upd H2 p (.lst [])) σ δ1 := E2.hide hp hp0
        have E4 : EnvOk K { c with hid := (A, .dK (refs es)) :: ((p :: ps).map (fun p => (p, HO.lst [])) ++ c.hid) } G2 (upd H2 p (.lst [])) σ δ1 := E3.hid_to (hs := (A, .dK (refs es)) :: ((p :: ps).map (fun p => (p, HO.lst [])) ++ c.hid)) fun y hy => by
          rcases List.mem_cons.mp hy with e | hy
          · rw [e]
            exact List.mem_cons_of_mem _ (List.mem_append_left _ List.mem_cons_self)
          rcases List.mem_append.mp hy with hy | hy
          · rw [List.map_cons] at hy
            rcases List.mem_cons.mp hy with e | hy
            · rw [e]
              exact List.mem_cons_self
            · exact List.mem_cons_of_mem _ (List.mem_append_left _ (List.mem_cons_of_mem _ hy))
          · exact List.mem_cons_of_mem _ (List.mem_append_right _ hy)
        have npA : A ≠ p := fun z => by
          have q := (E2.hd A _ (List.mem_append_left _ List.mem_cons_self)).1
          rw [z, hp] at q
          cases q
        have nA : ∀ zs, (A, zs) ∉ (p :: ps).map (fun p => (p, HO.lst [])) ++ c.hid := fun zs hz => by
          rcases List.mem_append.mp hz with hz | hz
          · obtain ⟨q, hq, e⟩ := List.mem_map.mp hz
            injection e with e1 _
            rcases List.mem_cons.mp hq with z | z
            · exact npA (by rw [← e1, z])
            · exact hAp (by rw [← e1]; exact z)
          · rw [h0] at hz
            cases hz
        have E5 := E4.grow (c := { c with hid := (p :: ps).map (fun p => (p, HO.lst [])) ++ c.hid }) (ob' := .dK (putK (refs es) ks[n] (.ref p))) nA
        rw [refs_put] at E5
        rw [refs_put]
        have npe : p ∉ es.map Prod.snd := fun z => by
          have hz := sub p z
          have q := (E2.hd p (.lst []) (List.mem_append_left _ (List.mem_cons_of_mem _ (List.mem_map.mpr ⟨p, hz, rfl⟩)))).1
          rw [hp] at q
          cases q
        refine ⟨G2, putE es ks[n] p, _, p :: ps, E5, e.trans AL.g, mt.put ks[n] npe, fun a ha => ?_, ?_, ?_, hnew⟩
        · rcases mem_putE ha with z | z
          · rw [z]
            exact List.mem_cons_self
          · exact List.mem_cons_of_mem _ (sub a z)
        · intro z
          rcases List.mem_cons.mp z with z | z
          · exact npA z
          · exact hAp z
        · have := putE_len es ks[n] p
          omega
  · have en : n = ks.length := by omega
    subst en
    rw [List.drop_length] at hnew
    refine .inl ⟨by rw [← lenD]; exact Y.stop G H e E.ex, ?_⟩
    have hnil : ∀ a ∈ es.map Prod.snd, H a = some (.lst []) := fun a ha => (E.hd a (.lst []) (List.mem_append_left _ (List.mem_cons_of_mem _ (List.mem_map.mpr ⟨a, sub a ha, rfl⟩)))).1
    have hAd : H A = some (.dK (refs es)) := (E.hd A _ (List.mem_append_left _ List.mem_cons_self)).1
    have z := E.give_box (hs := hid es ps) (S := A :: es.map Prod.snd) (fun a ha => ⟨?_, fun o z => by rw [h0] at z; cases z⟩) (b := boxDL (newL ks [])) (x := .ref A) ⟨A, es, rfl, rfl, List.nodup_cons.mpr ⟨fun z => hAp (sub A z), mt.nd⟩, hAd, ?_⟩ i
    · exact k.nx _ G H _ hN z (e1.trans e)
    · rcases List.mem_cons.mp ha with z | z
      · exact ⟨_, by rw [z]; exact List.mem_cons_self⟩
      · exact ⟨_, List.mem_cons_of_mem _ (List.mem_map.mpr ⟨a, sub a z, rfl⟩)⟩
    · rw [hnew]
      exact Empties.lists mt.ks mt.nil hnil
end
end TL

set_option Elab.async false
set_option linter.all false
set_option maxRecDepth 100000
set_option maxHeartbeats 4000000
/-! TBg: over data: a dict of lists is told; what is got of a told dict; its items; enumerate; what is stored in one's own list. -/
namespace TL
open PySem PySem.Spec PyProof.Rows L2
theorem Rp.dic_of {K : PySem.W.Frag} {G : Hp} {v : V} {ds : List (PyData × PyData)} (h : Rp K G v (.dict ds)) (ne : isErr ds = false) : ∃ (a : Addr) (o : Obj) (kvs : List (Key × V)), v = .ref a ∧ G a = some (.frz o (.dK kvs)) ∧ RpKv K G kvs ds := by
  generalize hq : PyData.dict ds = d at h
  cases h with
  | dic h1 h2 h3 =>
    cases hq
    exact ⟨_, _, _, rfl, h1, h2⟩
  | fn f =>
    have := PyData.dict.inj hq
    subst this
    cases ne
  | err0 h1 =>
    have := PyData.dict.inj hq
    subst this
    cases ne
  | err h1 h2 h3 h4 h5 =>
    have := PyData.dict.inj hq
    subst this
    cases ne
  | _ => cases hq
theorem kvD_noErr (kvs : List (Key × PyData)) : isErr (kvD kvs) = false := by
  cases kvs with
  | nil => rfl
  | cons p r =>
    obtain ⟨k, x⟩ := p
    cases k <;> rfl
theorem kvL_D (kvs : List (Key × List PyData)) : kvL kvs = kvD (kvs.map fun p => (p.1, .list p.2)) := by
  unfold kvL kvD
  rw [List.map_map]
  rfl
theorem kvL_noErr (kvs : List (Key × List PyData)) : isErr (kvL kvs) = false := by rw [kvL_D]; exact kvD_noErr _
section
variable [XW] {K : PySem.W.Frag} {ta tb te : TE} {ua ub ue : DTE}
/-- a name, its dict of lists made -/
def dToldL (i : Nat) : DTE := fun δ R => ∃ kvs, δ[i]? = some (.box (boxDL kvs)) ∧ R (.dict (kvL kvs)) (δ.set i (.dat (.dict (kvL kvs))))
theorem Lists.kv {K : PySem.W.Frag} {G G' H : Hp} (eg : Ex G G') : ∀ {es : List (Key × Addr)} {kvs : List (Key × List PyData)}, Lists K G H es kvs → (∀ a ∈ es.map Prod.snd, G' a = H a) → RpKv K G' (refs es) (kvL kvs)
  | _, _, .nil, _ => .nil
  | _, _, .cons (p := p) h r t, e => .cons (.lst (by rw [e p (by simp)]; exact h) (r.up eg)) (t.kv eg fun a ha => e a (List.mem_cons_of_mem _ ha))
theorem re_toldL {i : Nat} : RE K (tFix (tVar i)) (dToldL i) := by
  intro c σ G H δ Q R E h k
  obtain ⟨kvs, hs, hR⟩ := h
  obtain ⟨x, S, hσ, ⟨a, es, rfl, rfl, nd, ha, ls⟩, free, put⟩ := E.open_box hs
  refine ⟨.ref a, hσ, a, refs es, rfl, ha, fun o => ?_⟩
  let H' := upd H a (.frz o (.dK (refs es)))
  let G' : Hp := fun q => if q ∈ a :: es.map Prod.snd then H' q else G q
  have gin : ∀ q, q ∈ a :: es.map Prod.snd → G' q = H' q := fun q hq => if_pos hq
  have gout : ∀ q, q ∉ a :: es.map Prod.snd → G' q = G q := fun q hq => if_neg hq
  have eg : Ex G G' := fun q u hq => by
    have nq : q ∉ a :: es.map Prod.snd := fun z => by
      have := (free q z).1.g
      rw [hq] at this
      cases this
    rw [gout q nq]
    exact hq
  have ha' : H' a = some (.frz o (.dK (refs es))) := upd_same
  have hne : ∀ q, q ≠ a → H' q = H q := fun q hq => upd_ne hq
  have eh : Ex G' H' := fun q u hq => by
    by_cases z : q ∈ a :: es.map Prod.snd
    · rw [← gin q z]
      exact hq
    · rw [gout q z] at hq
      rw [hne q (fun y => z (by rw [y]; exact List.mem_cons_self))]
      exact E.ex q u hq
  have rp : Rp K G' (.ref a) (.dict (kvL kvs)) := by
    refine .dic (o := o) (kvs := refs es) (by rw [gin a List.mem_cons_self]; exact ha') (ls.kv eg fun p hp => ?_) (kvL_noErr _)
    rw [gin p (List.mem_cons_of_mem _ hp)]
    exact hne p fun z => (List.nodup_cons.mp nd).1 (by rw [← z]; exact hp)
  have z := (put bxNo (.ref a) [] G' H' eg eh (fun q u hq hu => by
      rw [hne q (fun y => hq (by rw [y]; exact List.mem_cons_self))]
      exact hu) (fun q hq _ g => by
      rw [gout q hq]
      exact g) (fun q hq => (List.not_mem_nil hq).elim) rfl).put (i := i) rp
  rw [set_same hσ, set_same hσ, List.set_set] at z
  exact k _ _ _ _ _ hR z eg rp
/-- what stands under a key in a told dict -/
def dDGet (ua ub : DTE) : DTE := fun δ R => ua δ fun d δ1 => ub δ1 fun y δ2 => ∃ (kvs : List (Key × PyData)) (k : Key) (x : PyData), d = .dict (kvD kvs) ∧ y = keyD k ∧ kvAt kvs k = some x ∧ R x δ2
theorem re_dget (ha : RE K ta ua) (hb : RE K tb ub) : RE K (tDGet ta tb) (dDGet ua ub) := by
  intro c σ G H δ Q R E h k
  refine ha c σ G H δ _ _ E h fun d1 δ1 v1 G1 H1 h1 E1 e1 r1 => ?_
  refine hb c σ G1 H1 δ1 _ _ E1 h1 fun d2 δ2 v2 G2 H2 h2 E2 e2 r2 => ?_
  obtain ⟨kvs, key, x, rfl, rfl, hx, hR⟩ := h2
  have ev := rp_key r2
  subst ev
  obtain ⟨a, o, es, rfl, hg, rk⟩ := (r1.up e2).dic_of (kvD_noErr _)
  obtain ⟨v, hv, rv⟩ := (kvAt_val rk).1 x hx
  refine ⟨a, v, rfl, .inl ⟨es, key, .inr ⟨o, E2.ex _ _ hg⟩, rfl, hv.symm⟩, k x δ2 v G2 H2 hR E2 (e1.trans e2) rv⟩
/-- the items of a told dict -/
def diItems (ua : DTE) : DTI := fun δ R => ua δ fun d δ1 => ∃ kvs : List (Key × PyData), d = .dict (kvD kvs) ∧ R (kvs.map fun p => .tuple [keyD p.1, p.2]) δ1
theorem RpKv.get {K : PySem.W.Frag} {G : Hp} : ∀ {es : List (Key × V)} {kvs : List (Key × PyData)} {i : Nat} {p : Key × PyData}, RpKv K G es (kvD kvs) → kvs[i]? = some p → ∃ v, es[i]? = some (p.1, v) ∧ Rp K G v p.2
  | es, [], i, p, h, q => by simp at q
  | es, (k0, d0) :: kvs, i, p, h, q => by
    have h : RpKv K G es ((keyD k0, d0) :: kvD kvs) := h
    generalize hq : (keyD k0, d0) :: kvD kvs = l at h
    cases h with
    | nil => cases hq
    | @cons k1 v es' d1 ds r t =>
      injection hq with q1 q2
      injection q1 with q1 q3
      subst q2 q3
      have ek : k0 = k1 := by
        cases k0 <;> cases k1 <;> simp [keyD] at q1 <;> first
          | (rw [q1])
          | cases q1
      subst ek
      cases i with
      | zero =>
        cases q
        exact ⟨v, rfl, r⟩
      | succ i =>
        obtain ⟨w, h1, h2⟩ := RpKv.get (i := i) (p := p) t (by simpa using q)
        exact ⟨w, by simpa using h1, h2⟩
theorem ri_items (ha : RE K ta ua) : RI K (iItems ta) (diItems ua) := by
  intro c σ G H δ Q R E h k
  refine ha c σ G H δ _ _ E h fun d δ1 v G1 H1 h1 E1 e1 r1 => ?_
  obtain ⟨kvs, rfl, hR⟩ := h1
  obtain ⟨a, o, es, rfl, hg, rk⟩ := r1.dic_of (kvD_noErr _)
  have len : es.length = kvs.length := by rw [rk.len, kvD_len]
  refine ⟨a, o, es, rfl, E1.ex _ _ hg, k _ δ1 _ G1 H1 hR E1 e1 ⟨fun G2 H2 a1 a2 => ⟨a2 _ _ (a1 _ _ hg), by rw [List.length_map, len]; exact Nat.le_refl _⟩, fun G2 H2 i d a1 a2 hd => ?_⟩⟩
  rw [List.getElem?_map] at hd
  cases q : kvs[i]? with
  | none => rw [q] at hd; cases hd
  | some p =>
    rw [q] at hd
    cases hd
    obtain ⟨w, hw, rw_⟩ := rk.get q
    refine ⟨⟨a2 _ _ (a1 _ _ hg), by rw [len]; exact (List.getElem?_eq_some_iff.mp q).1⟩, fun z H3 hy => ?_⟩
    obtain ⟨T, k', v', h1, rfl, hT, rfl⟩ := hy
    rw [hw] at h1
    cases h1
    have A := Al.new (o := .tup [kV p.1, w]) a2 hT
    have rkey : Rp K (upd G2 T (.tup [kV p.1, w])) (kV p.1) (keyD p.1) := by
      cases p.1 with
      | inl i => exact .int i
      | inr x => exact .str x
    exact ⟨_, A, .tup upd_same (.cons rkey (.cons ((rw_.up a1).up A.g) .nil))⟩
/-- the pairs of number and item -/
def enumD (ds : List PyData) : List PyData := (List.range ds.length).zip ds |>.map fun p => .tuple [.int (p.1 : Nat), p.2]
def diEnum (ua : DTE) : DTI := fun δ R => ua δ fun d δ1 => match d with
  | .list ds => R (enumD ds) δ1
  | _ => False
theorem enumD_len (ds : List PyData) : (enumD ds).length = ds.length := by unfold enumD; rw [List.length_map, List.length_zip, List.length_range]; omega
theorem enumD_get {ds : List PyData} {i : Nat} {d : PyData} (h : (enumD ds)[i]? = some d) : ∃ x, ds[i]? = some x ∧ d = .tuple [.int (i : Nat), x] := by
  unfold enumD at h
  rw [List.getElem?_map] at h
  cases q : ((List.range ds.length).zip ds)[i]? with
  | none => rw [q] at h; cases h
  | some p =>
    rw [q] at h
    cases h
    rw [List.getElem?_zip_eq_some] at q
    obtain ⟨q1, q2⟩ := q
    obtain ⟨l, q1⟩ := List.getElem?_eq_some_iff.mp q1
    rw [List.getElem_range] at q1
    exact ⟨p.2, q2, by rw [q1]⟩
theorem ri_enum (ha : RE K ta ua) : RI K (iEnum K (tCons ta tNil)) (diEnum ua) := by
  intro c σ G H δ Q R E h k
  refine ha c σ G H δ _ _ E h fun d δ1 v G1 H1 h1 E1 e1 r1 => ?_
  cases d <;> first
    | exact False.elim h1
    | skip
  rename_i ds
  obtain ⟨a, xs, rfl, q1, q2⟩ := r1.lst_of
  refine ⟨a, xs, rfl, .inl (.inl (E1.ex _ _ q1)), k _ δ1 _ G1 H1 h1 E1 e1 ⟨fun G2 H2 a1 a2 => ⟨xs, .inl (.inl (a2 _ _ (a1 _ _ q1))), by rw [q2.len, enumD_len]; exact Nat.le_refl _⟩, fun G2 H2 i d a1 a2 hd => ?_⟩⟩
  obtain ⟨x, hx, rfl⟩ := enumD_get hd
  obtain ⟨v, hv, rv⟩ := q2.get hx
  have hq : SqL K H2 a xs := .inl (.inl (a2 _ _ (a1 _ _ q1)))
  refine ⟨⟨xs, v, hq, hv⟩, fun z H3 hy => ?_⟩
  obtain ⟨T, y, rfl, hT, rfl, hall⟩ := hy
  have e := (hall xs hq).symm.trans hv
  cases e
  have A := Al.new (o := .tup [.int (i : Nat), v]) a2 hT
  exact ⟨_, A, .tup upd_same (.cons (.int _) (.cons ((rv.up a1).up A.g) .nil))⟩
end
section
variable [XW] {X : Cx} {a b e : Expr} {ta tb te : TE} {ua ub ue : DTE} {p p2 pos : Pos}
theorem de_toldL (i : Nat) {x : Str} (hN : X.N[i]? = some x := by rfl) (hv : Vis X.env.scope x := by first | exact Or.inl rfl | exact Or.inr (Or.inl rfl) | exact Or.inr (Or.inr rfl)) (hd : (x == ("__debug__" : Str)) = false := by decide)
    (hcd : (x == ("__classdict__" : Str)) = false := by decide) : DE X (.Name x p) (tFix (tVar i)) (dToldL i) := ⟨pe_fix (pe_var hN hv hd hcd), re_toldL⟩
theorem de_told (i : Nat) {x : Str} (hN : X.N[i]? = some x := by rfl) (hv : Vis X.env.scope x := by first | exact Or.inl rfl | exact Or.inr (Or.inl rfl) | exact Or.inr (Or.inr rfl)) (hd : (x == ("__debug__" : Str)) = false := by decide)
    (hcd : (x == ("__classdict__" : Str)) = false := by decide) : DE X (.Name x p) (tFix (tVar i)) (dTold i) := ⟨pe_fix (pe_var hN hv hd hcd), re_told⟩
theorem de_dget (hu : X.A.units + 65 < cLine) (ha : DE X a ta ua) (hb : DE X b tb ub) (hs : NoSl b) : DE X (.Subscript a b pos) (tDGet ta tb) (dDGet ua ub) := ⟨pe_dget (by omega) ha.pe hb.pe hs, re_dget ha.re hb.re⟩
theorem di_items {elts : List Expr} {kk : Nat} {tpos apos cpos : Pos} (ha : DE X e te ue) (hbase : attributeBase e "items" X.env (eval e X.env) = eval e X.env := by rfl) (hline : (apos.endLine == cpos.line) = true := by rfl) :
    DI X (.Tuple elts kk tpos) (.Call (.Attribute e "items" apos) [] [] cpos) (iItems te) (diItems ue) := ⟨pi_items ha.pe hbase hline, ri_items ha.re⟩
theorem di_enum {elts : List Expr} {kk : Nat} {tpos : Pos} (hm : X.mg "enumerate" = none) (ha : DE X a ta ua) (hg : Gl X "enumerate" := by rfl) (hs : starEach [a] X.env = [(false, eval a X.env)] := by rfl) :
    DI X (.Tuple elts kk tpos) (.Call (.Name "enumerate" p) [a] [] pos) (iEnum X.K (tCons ta tNil)) (diEnum ua) := ⟨pi_enum hg hm (pa_cons ha.pe pa_nil hs) hs, ri_enum ha.re⟩
end
end TL

set_option Elab.async false
set_option linter.all false
set_option maxRecDepth 100000
set_option maxHeartbeats 4000000
/-! TBh: forms by syntax for boxes; a dict comprehension stored under a local name; ints added in one's own list; defs as values; calls with defaults that are None. -/
namespace TL
open PySem PySem.Spec PyProof.Rows L2
/-! ### a dict comprehension stored under a local name -/
theorem ps_setDc {X : Cx} {i : Nat} {y : Str} {py : Pos} {kx vx tg iter : Expr} {ifs : List Expr} {scope : Scope} {own : List (Str × Nat)} {pos spos : Pos} {wi : TI} {g : TG} {tt : TT} {tk tv : TE} (hc : X.calm = true) (hN : X.N.Nodup) (hy : X.N[i]? = some y) (hyl : X.env.scope.names.lookup y = some .local)
    (hsw : swapsWith (.DictComp kx vx [⟨tg, iter, ifs, 0⟩] scope pos) (some (.Name y py)) spos.line X.env = pure true) (hi : PI X tg iter wi) (ok : BlkOk X.N X.env.scope scope own)
    (hg : ∀ (s : Shared) (H : Hp) (C : Addr) (cl : List (Str × Addr)) (fp : List Addr), PG (X.blk s H scope (compEnvC scope cl C X.env) fp) tg g) (ht : ∀ (s : Shared) (H : Hp) (C : Addr) (cl : List (Str × Addr)) (fp : List Addr), PTs (X.blk s H scope (compEnvC scope cl C X.env) fp) ifs tt)
    (hk : ∀ (s : Shared) (H : Hp) (C : Addr) (cl : List (Str × Addr)) (fp : List Addr), PE (X.blk s H scope (compEnvC scope cl C X.env) fp) kx tk)
    (he : ∀ (s : Shared) (H : Hp) (C : Addr) (cl : List (Str × Addr)) (fp : List Addr), PE (X.blk s H scope (compEnvC scope cl C X.env) fp) vx tv) (hs : ∀ x, foldedSetIterable iter X.env x = pure x := by intro _; rfl) :
    PS X (.Assign [.Name y py] (.DictComp kx vx [⟨tg, iter, ifs, 0⟩] scope pos) spos) (tAsg (tDc wi g tt tk tv (own.map (·.2))) (gName i)) := by
  constructor
  intro pins s σ H D I h
  rw [exec_Assign_Name_used _ _ _ _ hsw]
  refine wpAny_bind (wpAny_standAt (wpAny_bind ?_))
  show wpAny _ X.A (do let _ ← comprehension (.DictComp kx vx [⟨tg, iter, ifs, 0⟩] scope pos) scope X.env (firstIterPos [⟨tg, iter, ifs, 0⟩] pos) newDict false (eval iter X.env) (some (assign (.Name y py) X.env))) _ _ s
  have h' : tDc wi g tt tk tv (own.map (·.2)) σ H (fun x H1 => gName i x σ H1 D.nx) := h
  refine wpAny_bind (thn (dc_core (Qf := fun _ z => SP X pins D .next z) hc hN I hi ok hg ht hk he hs h' ?_) fun _ z hq => wpAny_pure (wpAny_pure hq))
  intro L C z m H' I' q hn f
  show wpAny _ _ (assign (.Name y py) X.env (.ref L)) _ _ _
  refine wpAny_assign_Name (store_ok2 (v := V.ref L) I' hN hy (.inl hyl) rfl (fun z2 I2 ⟨a, sb, ha⟩ => ?_) (.inr hyl))
  obtain ⟨f0, f1, f2, f3, f4, f5⟩ := f
  have haC : C ≠ a := by
    rcases ha with e | e
    · rw [e]; exact f1
    · exact fun w => f4 y a e w.symm
  exact ⟨m, hn.sameBut sb haC, fun z3 sb3 => ⟨_, H', I2.turned (t' := z2.toks) (fun b o hb e => (sb3.2 b hb).trans e) f0 f1 f3 f4 f5, q⟩⟩
theorem sw_trueD {kx vx : Expr} {gs : List Comprehension} {scope : Scope} {pos py : Pos} {y : Str} {l : Nat} {env : Env} (hk : env.scope.kind = .function) (hy : env.scope.names.lookup y = some .local) (hl : (py.line == pos.line) = true)
    (ha : (scope.names.any fun (n, k) => n == y && (k == .local || k == .cell)) = false) : swapsWith (.DictComp kx vx gs scope pos) (some (.Name y py)) l env = pure true := by
  have ky : env.kindOf y = some .local := hy
  have hb : env.blockKind = .function := by unfold Env.blockKind; rw [hk]; rfl
  unfold swapsWith
  simp only [hb, ky, ha, Expr.pos, hl]
  rfl
section
variable [XW] {X : Cx} {a b e v : Expr} {ta tb te tv : TE} {ua ub ue uv : DTE} {p p2 pos : Pos}
/-- name = {x: [] for x in ..} -/
theorem ds_newDL (i j : Nat) {x y : Str} {px py p3 pos2 spos : Pos} {iter : Expr} {scope : Scope} {w : TI} {uw : DTI} (hc : X.calm = true) (hN : X.N.Nodup) (hi : DI X (.Name x px) iter w uw) (ok : BlkOk X.N X.env.scope scope [(x, j)])
    (hg : ∀ (s : Shared) (H : Hp) (C : Addr) (cl : List (Str × Addr)) (fp : List Addr), PG (X.blk s H scope (compEnvC scope cl C X.env) fp) (.Name x px) (gName j))
    (hk : ∀ (s : Shared) (H : Hp) (C : Addr) (cl : List (Str × Addr)) (fp : List Addr), PE (X.blk s H scope (compEnvC scope cl C X.env) fp) (.Name x p2) (tVar j))
    (hsw : swapsWith (.DictComp (.Name x p2) (.List [] p3) [⟨.Name x px, iter, [], 0⟩] scope pos2) (some (.Name y py)) spos.line X.env = pure true) (hy : X.N[i]? = some y := by rfl) (hyl : X.env.scope.names.lookup y = some .local := by rfl) (hs : ∀ x, foldedSetIterable iter X.env x = pure x := by intro _; rfl) :
    DS X (.Assign [.Name y py] (.DictComp (.Name x p2) (.List [] p3) [⟨.Name x px, iter, [], 0⟩] scope pos2) spos) (tAsg (tDc w (gName j) tYes (tVar j) (tLst tNil) [j]) (gName i)) (dNewDL i j [j] uw) :=
  ⟨ps_setDc (own := [(x, j)]) hc hN hy hyl hsw hi.pi ok hg (fun _ _ _ _ _ => pts_nil) hk (fun _ _ _ _ _ => pe_lst pa_nil) hs, rs_newDL hi.ri⟩
theorem dt_inDL (i : Nat) {x : Str} (hu : X.A.units + 65 < cLine) (he : DE X e te ue) (hN : X.N[i]? = some x := by rfl) (hv : Vis X.env.scope x := by first | exact Or.inl rfl | exact Or.inr (Or.inl rfl) | exact Or.inr (Or.inr rfl)) (hd : (x == ("__debug__" : Str)) = false := by decide)
    (hcd : (x == ("__classdict__" : Str)) = false := by decide) (hm : behindInMarks .In (.Name x p) = false := by rfl) : DT X (.Compare e [.In] [.Name x p] pos) (tTest (tDIn te (tVar i))) (dTest (dInDL i ue)) := by
  refine ⟨?_, rt_test (re_inDL he.re)⟩
  have q := pt_cmp (pos := pos) (pc_din (by omega) he.pe (pe_var (pos := p) hN hv hd hcd)) hm
  refine ⟨fun pins s σ H Q I h => q.run pins s σ H Q I ?_⟩
  exact h
theorem ds_appDL (i j : Nat) {x y : Str} {py apos cpos : Pos} (hu : X.A.units + 65 < cLine) (he : DE X e te ue) (hs0 : NoSl e) (hN : X.N[i]? = some x := by rfl) (hv : Vis X.env.scope x := by first | exact Or.inl rfl | exact Or.inr (Or.inl rfl) | exact Or.inr (Or.inr rfl)) (hd : (x == ("__debug__" : Str)) = false := by decide)
    (hcd : (x == ("__classdict__" : Str)) = false := by decide) (hN' : X.N[j]? = some y := by rfl) (hv' : Vis X.env.scope y := by first | exact Or.inl rfl | exact Or.inr (Or.inl rfl) | exact Or.inr (Or.inr rfl)) (hd' : (y == ("__debug__" : Str)) = false := by decide)
    (hcd' : (y == ("__classdict__" : Str)) = false := by decide)
    (hb : attributeBase (.Subscript (.Name x p) e p2) "append" X.env (eval (.Subscript (.Name x p) e p2) X.env) = eval (.Subscript (.Name x p) e p2) X.env := by rfl)
    (hfew : ((backTo cpos (starEach [.Name y py] X.env)).all (fun x => !x.1) && (backToKw cpos (keywordEach [] X.env)).all (fun x => x.1.isSome)
      && decide ([Expr.Name y py].length + ([] : List Keyword).length + (if ([] : List Keyword).isEmpty then 0 else 1) < 30)) = true := by rfl)
    (hline : (apos.endLine == cpos.line) = true := by rfl) (hst : starEach [.Name y py] X.env = (false, eval (.Name y py) X.env) :: starEach [] X.env := by rfl) (hpl : (backTo cpos (starEach [] X.env)).any (·.1) = false := by rfl)
    (hs : swapsWith (.Call (.Attribute (.Subscript (.Name x p) e p2) "append" apos) [.Name y py] [] cpos) none pos.line X.env = pure false := by rfl) :
    DS X (.Expr (.Call (.Attribute (.Subscript (.Name x p) e p2) "append" apos) [.Name y py] [] cpos) pos) (tDrop (tBM X.K "list" rAppend (tDGet (tVar i) te) (tCons (tVar j) tNil))) (dAppDL i j ue) :=
  ⟨ps_expr (pe_bm PySem.F.plainAttrs_list PySem.F.slot_list_append PySem.F.type_list_append mt_append (pe_dget (by omega) (pe_var hN hv hd hcd) he.pe hs0) (pa_cons (pe_var hN' hv' hd' hcd') pa_nil hst) hb hfew hline hst hpl) hs, rs_appDL he.re⟩
theorem ds_newDict (i : Nat) {x : Str} {pos2 : Pos} (hN : X.N.Nodup) (hi : X.N[i]? = some x := by rfl) (hx : Loc X.env.scope x := by first | exact Or.inl rfl | exact Or.inr rfl)
    (hs : swapsWith (.Dict [] [] pos) (some (.Name x p)) pos2.line X.env = pure false := by rfl) (hf : X.fn x = true ∨ X.env.scope.names.lookup x = some .local := by first | exact .inl rfl | exact .inr rfl | assumption) :
    DS X (.Assign [.Name x p] (.Dict [] [] pos) pos2) (tAsg tDNewK (gName i)) (dNewDict i) := ⟨ps_set hN hi hx pe_dnewK hs hf, rs_newDict⟩
theorem ds_putV (i j : Nat) {x y : Str} {py : Pos} (hu : X.A.units + 65 < cLine) (he : DE X e te ue) (hN : X.N[i]? = some x := by rfl) (hv : Vis X.env.scope x := by first | exact Or.inl rfl | exact Or.inr (Or.inl rfl) | exact Or.inr (Or.inr rfl)) (hd : (x == ("__debug__" : Str)) = false := by decide)
    (hcd : (x == ("__classdict__" : Str)) = false := by decide) (hN' : X.N[j]? = some y := by rfl) (hv' : Vis X.env.scope y := by first | exact Or.inl rfl | exact Or.inr (Or.inl rfl) | exact Or.inr (Or.inr rfl)) (hd' : (y == ("__debug__" : Str)) = false := by decide)
    (hcd' : (y == ("__classdict__" : Str)) = false := by decide) (hs : swapsWith e (some (.Subscript (.Name x p) (.Name y py) p2)) pos.line X.env = pure false := by rfl) :
    DS X (.Assign [.Subscript (.Name x p) (.Name y py) p2] e pos) (sDPut (tVar i) (tVar j) te) (dPutV i j ue) := ⟨ps_dput (by omega) (pe_var hN hv hd hcd) (pe_var hN' hv' hd' hcd') he.pe hs, rs_putV he.re⟩
/-- xs[k] += an int -/
theorem ds_augN (i : Nat) {x : Str} (hb : DE X b tb ub) (he : DE X e te ue) (hN : X.N[i]? = some x := by rfl) (hv : Vis X.env.scope x := by first | exact Or.inl rfl | exact Or.inr (Or.inl rfl) | exact Or.inr (Or.inr rfl)) (hd : (x == ("__debug__" : Str)) = false := by decide)
    (hcd : (x == ("__classdict__" : Str)) = false := by decide) (ha : ∀ ov iv new, augStore b ov iv new = (do holding [new, ov, iv] (setItem ov iv new); release [new, ov, iv] []; pure .next) := by intros; rfl) :
    DS X (.AugAssign (.Subscript (.Name x p) b p2) .Add e pos) (tAugS (tVar i) tb te (rIxL X.K) (rI0 fun i j => .int (i + j)) rSetL) (dAugI i ub ue (dI fun i j => i + j)) := ⟨ps_augS (pe_var hN hv hd hcd) hb.pe pget_list he.pe iop_add set_list ha, rs_augI hb.re he.re ro_I⟩
/-! ### defs as values -/
theorem Rp.fn_of {K : PySem.W.Frag} {G : Hp} {v : V} {f : Addr} (h : Rp K G v (fnvD f)) : v = .ref f := by
  generalize hq : fnvD f = d at h
  unfold fnvD at hq
  cases h with
  | fn g =>
    unfold fnvD at hq
    have e := PyData.dict.inj hq
    injection e with e _
    injection e with _ e
    injection e with e
    rw [Int.ofNat.inj e]
  | dic h1 h2 h3 =>
    have e := PyData.dict.inj hq
    subst e
    cases h3
  | err0 h1 =>
    have e := PyData.dict.inj hq
    injection e with e _
    injection e with _ e
    cases e
  | err h1 h2 h3 h4 h5 =>
    have e := PyData.dict.inj hq
    injection e with e _
    injection e with _ e
    cases e
  | _ => cases hq
theorem de_gfn {x : Str} {f : Addr} (h : X.mg x = some (.ref f)) (hg : Gl X x := by rfl) (hd : (x == ("__debug__" : Str)) = false := by decide) : DE X (.Name x pos) (tC (.ref f)) (dC (fnvD f)) := ⟨pe_glob hg h rfl hd, re_c fun _ => .fn f⟩
/-- what is known of a def at f -/
structure KnF (P : Program) (w : World) (K : PySem.W.Frag) (mg : Str → Option Value) (base : Heap) (k : Nat) (f : Addr) (S : DSp) : Prop where
  ex : ∃ (fd : FuncData) (ps : List Str), FnOkG P w K mg base CX0 k f fd ps (spD K S) ∧ PySem.W.keepIn K (.ref f) = true ∧ Binds K fd ps []
def dCallL (i : Nat) (f : Addr) (S : DSp) (ua : DCA) : DTE := fun δ R => δ[i]? = some (.dat (fnvD f)) ∧ dCall S ua δ R
def tCallLG (i : Nat) (f : Addr) (sp : Sp) (dvs : List V) (E : XK) (t : TA) : TE := fun σ H Q => σ[i]? = some (some (.ref f)) ∧ t σ H fun vs H1 => sp (vs ++ dvs) H1 Q E
theorem pe_callLG {X : Cx} {CX : CXT} {k i : Nat} {f : Addr} {fd : FuncData} {ps : List Str} {sp : Sp} {dvs : List V} {ds : List Value} {E : XK} {x : Str} {p pos : Pos} {e : Expr} {es : List Expr} {t : TA} (F : FnOkG X.prog X.w X.K X.mg X.base CX k f fd ps sp) (hr : RoomG k X.A) (hN : X.N[i]? = some x) (hv : Vis X.env.scope x) (hk : PySem.W.keepIn X.K (.ref f) = true) (hb : Binds X.K fd ps ds) (hd : Vals dvs ds) (hx : Passes CX X E) (ha : PA X (e :: es) t)
    (hdb : (x == ("__debug__" : Str)) = false) (hcd : (x == ("__classdict__" : Str)) = false)
    (he : starEach (e :: es) X.env = (false, eval e X.env) :: starEach es X.env) (hpl : (backTo pos (starEach es X.env)).any (·.1) = false) : PE X (.Call (.Name x p) (e :: es) [] pos) (tCallLG i f sp dvs E t) := by
  constructor
  intro pins z σ H Q I h
  refine wpAny_Call_Name_kw (thn ((pe_var (pos := p) hN hv hdb hcd).run pins z σ H (fun v H1 => v = .ref f ∧ H1 = H) I ⟨.ref f, h.1, rfl, rfl⟩) ?_)
  rintro u z1 ⟨v, H1, I1, r1, rfl, rfl⟩
  cases r1
  exact PySem.W.callWith_K (h₀ := X.base) I.ok.mod.kin hk (thn (ha.run pos pins z1 σ _ _ I1 h.2) fun us z2 ⟨vs, H2, I2, r, q⟩ => ⟨I2.kIn, run_fnG F hr hb hd hx I2 r q⟩) he hpl
theorem de_callL (i : Nat) {f : Addr} {P : Program} {w : World} {K : PySem.W.Frag} {mg : Str → Option Value} {base : Heap} {x : Str} {S : DSp} {k j : Nat} {es : List Expr} {tca : TA} {uca : DCA} (kn : KnF P w K mg base k f S) (hr : RoomG j X.A) (hk : k ≤ j) (ha : DCa X (e :: es) tca uca)
    (hX : X.prog = P ∧ X.w = w ∧ X.K = K ∧ X.mg = mg ∧ X.base = base := by exact ⟨rfl, rfl, rfl, rfl, rfl⟩) (hN : X.N[i]? = some x := by rfl) (hv : Vis X.env.scope x := by first | exact Or.inl rfl | exact Or.inr (Or.inl rfl) | exact Or.inr (Or.inr rfl)) (hd : (x == ("__debug__" : Str)) = false := by decide)
    (hcd : (x == ("__classdict__" : Str)) = false := by decide)
    (he : starEach (e :: es) X.env = (false, eval e X.env) :: starEach es X.env := by rfl) (hpl : (backTo pos (starEach es X.env)).any (·.1) = false := by rfl) : DE X (.Call (.Name x p) (e :: es) [] pos) (tCallLG i f (spD K S) [] E0 tca) (dCallL i f S uca) := by
  obtain ⟨rfl, rfl, rfl, rfl, rfl⟩ := hX
  obtain ⟨fd, ps, F, kp, b⟩ := kn.ex
  refine ⟨pe_callLG F (hr.mono hk) hN hv kp b .nil pass0 ha.pa hd hcd he hpl, ?_⟩
  intro c σ G H δ Q R E h k
  obtain ⟨y, hy, ry⟩ := E.sl i _ h.1
  rw [ry.fn_of] at hy
  exact ⟨hy, re_call ha.ra c σ G H δ Q R E h.2 k⟩
end
end TL

set_option Elab.async false
set_option linter.all false
set_option maxRecDepth 100000
set_option maxHeartbeats 4000000
/-! TBi: own defs whose last parameters have the default None: called without them, by place, by their names. -/
namespace TL
open PySem PySem.Spec PyProof.Rows L2
section
variable {P : Program} {w : World} {K : PySem.W.Frag} {mg : Str → Option Value} {base : Heap}
/-- fnD, whatever the defaults -/
theorem fnDA {x qual : Str} {st : Stmt} {f : Addr} {fd : FuncData} {N ps : List Str} {k : Nat} {S : DSp} (F : FunA K x qual st f fd) (sc : FnScope N ps (defScope st)) (len : ∀ as R, S as R → as.length = ps.length)
    (hbody : ∀ (cdv : Value) (A : Around) (outer : List Env) (s : Shared) (H : Hp) (E : XK), RoomG k (A.deeper (PyProof.Rows.envOfC qual (defScope st) s.heap.objs.size f cdv)) →
      ∃ t u, @DSs XW0 (cxOf CX0 P w K mg base N qual (defScope st) f cdv A outer s H E).nox (defBody st) t u ∧ ∀ as R, S as R → u (endsOf R) (as ++ List.replicate (N.length - ps.length) .no)) : FnOkG P w K mg base CX0 (k + 1) f fd ps (spD K S) := by
  refine fun_okA F sc (fun vs H Q E h => ?_) (fun cdv A outer s H vs Q E hr h => ?_)
  · obtain ⟨c, as, R, _, _, EV, hS, _⟩ := h
    have := EV.len
    rw [List.length_map] at this
    rw [this]
    exact len as R hS
  · obtain ⟨c, as, R, hh, h0, EV, hS, k⟩ := h
    obtain ⟨t, u, D, red⟩ := hbody cdv A outer s H E hr
    refine ⟨t, D.ps.nox, ?_⟩
    have l1 : vs.length = ps.length := by
      have := EV.len
      rw [List.length_map] at this
      rw [this]
      exact len as R hS
    have EV' : @EnvOk XW0 K c c.G0 H (L2.start N vs) (as ++ List.replicate (N.length - ps.length) .no) := by
      have z := (EV.more (N.length - ps.length)).ok
      unfold L2.start
      rw [l1]
      exact z
    have fin : ∀ {σ' : L2.St} {G' H' : Hp} {δ' : List Sl} {outs : List (List PyData)}, @EnvOk XW0 K c G' H' σ' δ' → OutsIn δ' outs → Fin K c G' H' outs := fun {σ' G' H' δ' outs} E ho =>
      ⟨E.g0, E.ex, E.fr, E.fs, E.tg, fun j cs hj => by
        obtain ⟨i, hi⟩ := ho j cs hj
        obtain ⟨p, xs, _, _, hh, r, q⟩ := E.sl i _ hi
        exact ⟨xs, by rw [← q.2]; exact hh, r⟩⟩
    refine D.rs c (L2.start N vs) c.G0 H _ _ (endsOf R) EV' (red as R hS) ⟨?_, ?_, ?_, ?_, ?_, hh⟩
    · rintro σ' G' H' δ' ⟨outs, hR, ho⟩ E' e
      exact k .none outs .non G' H' hR (fin E' ho) .non
    · rintro d δ' v σ' G' H' ⟨outs, hR, ho⟩ E' e r
      exact k d outs v G' H' hR (fin E' ho) r
    · exact fun σ' G' H' δ' a _ _ => False.elim a
    · exact fun σ' G' H' δ' a _ _ => False.elim a
    · exact fun ds δ' p xs σ' G' H' a _ _ _ _ => False.elim a
end
/-- a def called with its last m parameters left out, whose defaults are None -/
structure KnD (P : Program) (w : World) (K : PySem.W.Frag) (mg : Str → Option Value) (base : Heap) (k : Nat) (x : Str) (m : Nat) (S : DSp) : Prop where
  ex : ∃ (f : Addr) (fd : FuncData) (ps : List Str) (ds : List Value), FnOkG P w K mg base CX0 k f fd ps (spD K S) ∧ mg x = some (.ref f) ∧ PySem.W.keepIn K (.ref f) = true ∧ Vals (List.replicate m V.non) ds ∧ Binds K fd ps ds
/-- .. with n by place, then m left out, then ks by their names -/
structure KnKN (P : Program) (w : World) (K : PySem.W.Frag) (mg : Str → Option Value) (base : Heap) (k : Nat) (x : Str) (n m : Nat) (ks : List Str) (S : DSp) : Prop where
  ex : ∃ (f : Addr) (fd : FuncData) (ps : List Str), FnOkG P w K mg base CX0 k f fd ps (spD K S) ∧ mg x = some (.ref f) ∧ PySem.W.keepIn K (.ref f) = true ∧
    KBn K fd ps n ks (fun us ws => us ++ (List.replicate m Value.none ++ ws)) (fun vs zs => vs ++ (List.replicate m V.non ++ zs))
theorem vals_nones : ∀ {m : Nat} {us : List Value}, Vals (List.replicate m V.non) us → us = List.replicate m Value.none
  | 0, _, h => by
    cases h
    rfl
  | m + 1, us, h => by
    have h : Vals (V.non :: List.replicate m V.non) us := h
    cases h with
    | cons r t =>
      have e : _ = Value.none := r
      rw [e, vals_nones t]
      rfl
theorem nones_vals : ∀ m : Nat, Vals (List.replicate m V.non) (List.replicate m Value.none)
  | 0 => .nil
  | m + 1 => .cons rfl (nones_vals m)
theorem kbn_none {K : PySem.W.Frag} {x qual : Str} {params : Arguments} {body : List Stmt} {scope : Scope} {q : Nat} {f : Addr} {fd : FuncData} {ps : List Str} (F : FunD K x qual params body scope (List.replicate (q + 1) V.non) [] f fd) (n m : Nat) (ks : List Str)
    (h : ∀ (T : Addr) (kV doc pm : Value) (an : Option Addr) (cdv ct : Value) (us ws : List Value), us.length = n → ws.length = ks.length →
      ∃ k, bindArgs (PySem.W.fnOf x qual params body scope (.ref T) kV doc pm an cdv ct) ⟨us, ks.zip ws⟩ = seqItems? (.ref T) >>= k ∧ k (some (List.replicate (q + 1) Value.none).toArray) = pure (ps.zip (us ++ (List.replicate m Value.none ++ ws)))) :
    KBn K fd ps n ks (fun us ws => us ++ (List.replicate m Value.none ++ ws)) (fun vs zs => vs ++ (List.replicate m V.non ++ zs)) := by
  obtain ⟨oc, od, dV, kV, doc, pm, an, cdv, ct, osl, rfl, lk, hcd, hD, _⟩ := F.ex
  rcases hD with ⟨e, _⟩ | ⟨_, T, o, its, mm, rfl, lT, oT, rT⟩
  · exact absurd e (fun z => nomatch z)
  · have ei := vals_nones rT
    subst ei
    refine ⟨fun z us ws Y l1 l2 => ?_, fun r1 r2 => r1.append ((nones_vals m).append r2)⟩
    obtain ⟨k, e1, e2⟩ := h T kV doc pm an cdv ct us ws l1 l2
    refine BindsTo.of_looks fun M => ?_
    rw [e1]
    exact looks_items Y lT oT (.of_pure e2)
theorem kbn_pass0 {X : Cx} {σ : L2.St} {E : XK} : PassesAt CX0 X σ E := fun _ _ _ _ _ _ h => h.elim
section
variable [XW] {K : PySem.W.Frag}
/-- the reading of a call with these arguments -/
def callD (S : DSp) (R : PyData → List Sl → Prop) (cs : List CA) (δ1 : List Sl) : Prop := (muts δ1 cs).Nodup ∧ S (asOf δ1 cs 0) fun d outs => outs.length = (muts δ1 cs).length ∧ R d (setOuts δ1 (muts δ1 cs) outs)
theorem callD_ok {S : DSp} {c : Cf} {σ : L2.St} {G G1 H1 : Hp} {δ1 : List Sl} {cs : List CA} {vs : List V} {R : PyData → List Sl → Prop} {Q : VK} (E1 : EnvOk K c G1 H1 σ δ1) (e1 : Ex G G1) (r1 : CAs K G1 σ vs cs) (h : callD S R cs δ1)
    (k : ∀ d δ' v G' H', R d δ' → EnvOk K c G' H' σ δ' → Ex G G' → Rp K G' v d → Q v H') : spD K S vs H1 Q E0 := by
  obtain ⟨hn, hS⟩ := h
  refine ⟨calleeC σ (muts δ1 cs) G1 H1, asOf δ1 cs 0, _, rfl, rfl, callee_env E1 r1 hn, hS, fun d outs v G' H' hR F rv => ?_⟩
  exact k d _ v G' H' hR.2 (caller_back E1 hn hR.1 F) (e1.trans F.g0) rv
def nonesC (m : Nat) : List CA := List.replicate m (.d .none)
theorem nones_ca {G : Hp} {σ : L2.St} : ∀ m : Nat, CAs K G σ (List.replicate m V.non) (nonesC m)
  | 0 => .nil
  | m + 1 => .d .non (nones_ca m)
theorem rpAll_ca {G : Hp} {σ : L2.St} : ∀ {vs : List V} {ds : List PyData}, RpAll K G vs ds → CAs K G σ vs (ds.map CA.d)
  | _, _, .nil => .nil
  | _, _, .cons r t => .d r (rpAll_ca t)
def dCallD (S : DSp) (m : Nat) (ua : DCA) : DTE := fun δ R => ua δ fun cs δ1 => callD S R (cs ++ nonesC m) δ1
theorem re_callD {S : DSp} {m : Nat} {t : TA} {ua : DCA} (ha : RCA K t ua) : RE K (tCall (spD K S) (List.replicate m V.non) E0 t) (dCallD S m ua) := by
  intro c σ G H δ Q R E h k
  refine ha c σ G H δ _ _ E h fun cs δ1 vs G1 H1 h1 E1 e1 r1 => ?_
  exact callD_ok E1 e1 (r1.app (nones_ca m)) h1 k
def dCallKN (S : DSp) (n m l : Nat) (ua : DCA) (uk : DTA) : DTE := fun δ R => ua δ fun cs δ1 => uk δ1 fun ds δ2 => cs.length = n ∧ ds.length = l ∧ callD S R (cs ++ (nonesC m ++ ds.map CA.d)) δ2
theorem re_callKN {S : DSp} {n m l : Nat} {t tk : TA} {ua : DCA} {uk : DTA} (ha : RCA K t ua) (hv : RA K tk uk) :
    RE K (tCallNS n l (spD K S) (fun vs zs => vs ++ (List.replicate m V.non ++ zs)) (fun _ => E0) t tk) (dCallKN S n m l ua uk) := by
  intro c σ G H δ Q R E h k
  refine ha c σ G H δ _ _ E h fun cs δ1 vs G1 H1 h1 E1 e1 r1 => ?_
  refine hv c σ G1 H1 δ1 _ _ E1 h1 fun ds δ2 zs G2 H2 h2 E2 e2 r2 => ?_
  obtain ⟨len, lz, h2⟩ := h2
  refine ⟨by rw [r1.len, len], by rw [r2.len, lz], ?_⟩
  exact callD_ok E2 (e1.trans e2) ((r1.up e2).app ((nones_ca m).app (rpAll_ca r2))) h2 k
end
section
variable [XW] {X : Cx} {P : Program} {w : World} {K : PySem.W.Frag} {mg : Str → Option Value} {base : Heap} {x : Str} {n m : Nat} {S : DSp} {k j : Nat} {e : Expr} {es : List Expr} {tca : TA} {uca : DCA} {p pos pk pk2 : Pos} {v v2 : Expr} {tv tv2 : TE} {uv uv2 : DTE}
theorem de_callD (kn : KnD P w K mg base k x m S) (hr : RoomG j X.A) (hk : k ≤ j) (ha : DCa X (e :: es) tca uca) (hX : X.prog = P ∧ X.w = w ∧ X.K = K ∧ X.mg = mg ∧ X.base = base := by exact ⟨rfl, rfl, rfl, rfl, rfl⟩) (hg : Gl X x := by rfl) (hdb : (x == ("__debug__" : Str)) = false := by decide)
    (he : starEach (e :: es) X.env = (false, eval e X.env) :: starEach es X.env := by rfl) (hpl : (backTo pos (starEach es X.env)).any (·.1) = false := by rfl) : DE X (.Call (.Name x p) (e :: es) [] pos) (tCall (spD K S) (List.replicate m V.non) E0 tca) (dCallD S m uca) := by
  obtain ⟨rfl, rfl, rfl, rfl, rfl⟩ := hX
  obtain ⟨f, fd, ps, ds, F, hm, kp, hv, b⟩ := kn.ex
  exact ⟨pe_callG F (hr.mono hk) hg hm kp b hv pass0 ha.pa hdb he hpl, re_callD ha.ra⟩
theorem de_callK1 {y : Str} {nm : Option Str} (kn : KnKN P w K mg base k x n m [y] S) (hr : RoomG j X.A) (hk : k ≤ j) (ha : DCa X (e :: es) tca uca) (hv : DE X v tv uv) (hX : X.prog = P ∧ X.w = w ∧ X.K = K ∧ X.mg = mg ∧ X.base = base := by exact ⟨rfl, rfl, rfl, rfl, rfl⟩) (hg : Gl X x := by rfl)
    (hall : (backToKw pos (keywordEach [⟨nm, v, pk⟩] X.env)).all (·.1.isSome) = true := by rfl) (hks : (backToKw pos (keywordEach [⟨nm, v, pk⟩] X.env)).filterMap (·.1) = [y] := by rfl) (hdb : (x == ("__debug__" : Str)) = false := by decide)
    (he : starEach (e :: es) X.env = (false, eval e X.env) :: starEach es X.env := by rfl) (hpl : ((backTo pos (starEach (e :: es) X.env)).any (·.1) || (backToKw pos (keywordEach [⟨nm, v, pk⟩] X.env)).any (·.1.isNone)) = false := by rfl) :
    DE X (.Call (.Name x p) (e :: es) [⟨nm, v, pk⟩] pos) (tCallNS n 1 (spD K S) (fun vs zs => vs ++ (List.replicate m V.non ++ zs)) (fun _ => E0) tca (tCons tv tNil)) (dCallKN S n m 1 uca (dCons uv dNil)) := by
  obtain ⟨rfl, rfl, rfl, rfl, rfl⟩ := hX
  obtain ⟨f, fd, ps, F, hm, kp, b⟩ := kn.ex
  refine ⟨pe_callNS F (hr.mono hk) hg hm kp b (fun σ => kbn_pass0) ha.pa (pk_cons hv.pe pk_nil) hall hks hdb he hpl, re_callKN ha.ra (ra_cons hv.re ra_nil)⟩
theorem de_callK2 {y y2 : Str} {nm nm2 : Option Str} (kn : KnKN P w K mg base k x n m [y, y2] S) (hr : RoomG j X.A) (hk : k ≤ j) (ha : DCa X (e :: es) tca uca) (hv : DE X v tv uv) (hv2 : DE X v2 tv2 uv2) (hX : X.prog = P ∧ X.w = w ∧ X.K = K ∧ X.mg = mg ∧ X.base = base := by exact ⟨rfl, rfl, rfl, rfl, rfl⟩) (hg : Gl X x := by rfl)
    (hall : (backToKw pos (keywordEach [⟨nm, v, pk⟩, ⟨nm2, v2, pk2⟩] X.env)).all (·.1.isSome) = true := by rfl) (hks : (backToKw pos (keywordEach [⟨nm, v, pk⟩, ⟨nm2, v2, pk2⟩] X.env)).filterMap (·.1) = [y, y2] := by rfl) (hdb : (x == ("__debug__" : Str)) = false := by decide)
    (he : starEach (e :: es) X.env = (false, eval e X.env) :: starEach es X.env := by rfl) (hpl : ((backTo pos (starEach (e :: es) X.env)).any (·.1) || (backToKw pos (keywordEach [⟨nm, v, pk⟩, ⟨nm2, v2, pk2⟩] X.env)).any (·.1.isNone)) = false := by rfl) :
    DE X (.Call (.Name x p) (e :: es) [⟨nm, v, pk⟩, ⟨nm2, v2, pk2⟩] pos) (tCallNS n 2 (spD K S) (fun vs zs => vs ++ (List.replicate m V.non ++ zs)) (fun _ => E0) tca (tCons tv (tCons tv2 tNil))) (dCallKN S n m 2 uca (dCons uv (dCons uv2 dNil))) := by
  obtain ⟨rfl, rfl, rfl, rfl, rfl⟩ := hX
  obtain ⟨f, fd, ps, F, hm, kp, b⟩ := kn.ex
  exact ⟨pe_callNS F (hr.mono hk) hg hm kp b (fun σ => kbn_pass0) ha.pa (pk_cons hv.pe (pk_cons hv2.pe pk_nil)) hall hks hdb he hpl, re_callKN ha.ra (ra_cons hv.re (ra_cons hv2.re ra_nil))⟩
end
end TL

set_option Elab.async false
set_option linter.all false
set_option maxRecDepth 100000
set_option maxHeartbeats 4000000
/-! TBj: whether something stands in one's own list; a list comprehension that is one's own. -/
namespace TL
open PySem PySem.Spec PyProof.Rows L2
section
variable [XW] {K : PySem.W.Frag} {te : TE} {ue : DTE}
def dNotInV (i : Nat) (ue : DTE) : DTE := fun δ R => ue δ fun d δ1 => ∃ ds, slL δ1[i]? = some ds ∧ SeqAt.shaped d = true ∧ SeqAt.shaped (.list ds) = true ∧ R (.bool (!(ds.any fun x => PyData.eqv x d))) δ1
theorem re_notInV {i : Nat} (he : RE K te ue) : RE K (tOp (rNotInD K) te (tVar i)) (dNotInV i ue) := by
  intro c σ G H δ Q R E h k
  refine he c σ G H δ _ _ E h fun d δ1 v G1 H1 h1 E1 e1 r1 => ?_
  obtain ⟨ds, hs, s1, s2, hR⟩ := h1
  obtain ⟨p, xs, hσ, hp, rr⟩ := slL_ok E1 hs
  refine ⟨.ref p, hσ, d, ds, (r1.up E1.ex).dp _ _ (SeqAt.canLay_of_shaped s1), .lst (.inl (.inl hp)) ((rr.up E1.ex).dp _ _ ?_), s1, s2, k _ δ1 _ G1 H1 hR E1 e1 (.bl _)⟩
  have z := SeqAt.canLay_of_shaped s2
  simpa [PyData.canLay0] using z
end
section
variable [XW] {X : Cx} {e : Expr} {te : TE} {ue : DTE} {p pos : Pos} {ut : DTT} {tt : TT}
theorem dt_notInV (i : Nat) {x : Str} (hu : X.A.units + 65 < cLine) (he : DE X e te ue) (hN : X.N[i]? = some x := by rfl) (hv : Vis X.env.scope x := by first | exact Or.inl rfl | exact Or.inr (Or.inl rfl) | exact Or.inr (Or.inr rfl)) (hd : (x == ("__debug__" : Str)) = false := by decide)
    (hcd : (x == ("__classdict__" : Str)) = false := by decide) (hm : behindInMarks .NotIn (.Name x p) = false := by rfl) : DT X (.Compare e [.NotIn] [.Name x p] pos) (tTest (tOp (rNotInD X.K) te (tVar i))) (dTest (dNotInV i ue)) :=
  ⟨pt_cmpR (op_notInD hu) he.pe (pe_var hN hv hd hcd) hm, rt_test (re_notInV he.re)⟩
theorem ds_lcOwn (i : Nat) {y : Str} {py spos : Pos} {elt tg iter : Expr} {ifs : List Expr} {scope : Scope} (own : List (Str × Nat)) {w : TI} {uw : DTI} {g : TG} {ug : DTG} {js : List Nat} (hc : X.calm = true) (hN : X.N.Nodup) (hi : DI X tg iter w uw) (ok : BlkOk X.N X.env.scope scope own)
    (hg : ∀ (s : Shared) (H : Hp) (C : Addr) (cl : List (Str × Addr)) (fp : List Addr), DG (X.blk s H scope (compEnvC scope cl C X.env) fp) tg g ug js) (ht : ∀ (s : Shared) (H : Hp) (C : Addr) (cl : List (Str × Addr)) (fp : List Addr), DTs (X.blk s H scope (compEnvC scope cl C X.env) fp) ifs tt ut)
    (he : ∀ (s : Shared) (H : Hp) (C : Addr) (cl : List (Str × Addr)) (fp : List Addr), DE (X.blk s H scope (compEnvC scope cl C X.env) fp) elt te ue) (hj : ∀ j ∈ js, j ∈ own.map (·.2))
    (hsw : swapsWith (.ListComp elt [⟨tg, iter, ifs, 0⟩] scope pos) (some (.Name y py)) spos.line X.env = pure true) (hy : X.N[i]? = some y := by rfl) (hyl : X.env.scope.names.lookup y = some .local := by rfl) (hs : ∀ x, foldedSetIterable iter X.env x = pure x := by intro _; rfl) :
    DS X (.Assign [.Name y py] (.ListComp elt [⟨tg, iter, ifs, 0⟩] scope pos) spos) (tAsg (tLc w g tt te (own.map (·.2))) (gName i)) (dLcOwn i uw ug ut ue (own.map (·.2))) :=
  ⟨ps_setLc hc hN hy hyl hsw hi.pi ok (fun a b c d e => (hg a b c d e).pg) (fun a b c d e => (ht a b c d e).pt) (fun a b c d e => (he a b c d e).pe) hs,
   rs_lcOwn hi.ri (hg X.s_0 X.H_0 0 [] []).rg (ht X.s_0 X.H_0 0 [] []).rt (he X.s_0 X.H_0 0 [] []).re hj⟩
end
end TL

set_option Elab.async false
set_option linter.all false
set_option maxRecDepth 100000
set_option maxHeartbeats 4000000
/-! TBk: comparisons within comprehensions. -/
namespace TL
open PySem PySem.Spec PyProof.Rows L2
variable [XW] {X : Cx} {K : PySem.W.Frag} {a b : Expr} {ta tb : TE} {ua ub : DTE} {pos : Pos}
theorem dt_inI (hu : X.A.units + 65 < cLine) (ha : DE X a ta ua) (hb : DE X b tb ub) (hK : X.K = K := by rfl) (hm : behindInMarks .In b = false := by rfl) : DT X (.Compare a [.In] [b] pos) (tTest (tOp (rInD K) ta tb)) (dTest (dOp dIn ua ub)) := by
  subst hK
  exact dt_cmp (op_inD hu) ro_in hm ha hb
theorem de_inI (hu : X.A.units + 65 < cLine) (ha : DE X a ta ua) (hb : DE X b tb ub) (hK : X.K = K := by rfl) (hm : behindInMarks .In b = false := by rfl) : DE X (.Compare a [.In] [b] pos) (tOp (rInD K) ta tb) (dOp dIn ua ub) := by
  subst hK
  exact de_cmp (op_inD hu) ro_in hm ha hb
theorem dt_eqC (hu : X.A.units + 64 < cLine) (ha : DE X a ta ua) (hb : DE X b tb ub) (hK : X.K = K := by rfl) (hm : behindInMarks .Eq b = false := by exact nomark _) : DT X (.Compare a [.Eq] [b] pos) (tTest (tOp (rEqD K) ta tb)) (dTest (dOp dEq ua ub)) := by
  subst hK
  exact dt_cmp (op_eqD hu) ro_eq hm ha hb
theorem de_sum1I {e : Expr} {te : TE} {ue : DTE} {p : Pos} (hm : X.mg "sum" = none) (ha : DE X e te ue) (hK : X.K = K := by rfl) (hc : X.calm = true := by rfl) (hg : Gl X "sum" := by rfl) (hs : starEach [e] X.env = (false, eval e X.env) :: starEach [] X.env := by rfl) (hpl : (backTo pos (starEach [] X.env)).any (·.1) = false := by rfl) :
    DE X (.Call (.Name "sum" p) [e] [] pos) (tCB (rSum K) (tCons te tNil)) (dSum ue) := by
  subst hK
  exact de_sum1 hm ha hc hg (by decide +kernel) hs hpl
theorem de_ixLI (ha : DE X a ta ua) (hb : DE X b tb ub) (hK : X.K = K := by rfl) (hs : PlainIx b := by exact fun _ _ => rfl) : DE X (.Subscript a b pos) (tOp (rIxL K) ta tb) (dOp dIxL ua ub) := by
  subst hK
  exact de_ix ix_list ro_ixL ha hb hs
end TL

set_option Elab.async false
set_option linter.all false
set_option maxRecDepth 100000
set_option maxHeartbeats 4000000
/-! TBl: list(..), list(range(..)), sorted(..) of ints, xs.insert(..) of one's own list. -/
namespace TL
open PySem PySem.Spec PyProof.Rows L2
theorem rpAll_take {K : PySem.W.Frag} {G : Hp} : ∀ {vs : List V} {ds : List PyData} (n : Nat), RpAll K G vs ds → RpAll K G (vs.take n) (ds.take n)
  | _, _, 0, _ => .nil
  | _, _, _ + 1, .nil => .nil
  | _, _, n + 1, .cons r t => .cons r (rpAll_take n t)
theorem rpAll_drop {K : PySem.W.Frag} {G : Hp} : ∀ {vs : List V} {ds : List PyData} (n : Nat), RpAll K G vs ds → RpAll K G (vs.drop n) (ds.drop n)
  | _, _, 0, h => h
  | _, _, _ + 1, .nil => .nil
  | _, _, n + 1, .cons _ t => rpAll_drop n t
theorem rpAll_of_ints {K : PySem.W.Frag} {G : Hp} : ∀ {ns : List Int} {vs : List V}, RpAll K G vs (ns.map PyData.int) → vs = ns.map V.int
  | [], _, h => by
    cases h
    rfl
  | n :: r, _, h => by
    cases h with
    | cons a t => rw [a.int_of, rpAll_of_ints t]; rfl
section
variable [XW] {K : PySem.W.Frag} {ta tb : TE} {ua ub : DTE}
def rListOf (K : PySem.W.Frag) : List V → Hp → VK → Prop := fun xs H Q => ∃ p ys, xs = [.ref p] ∧ (SqL K H p ys ∨ SqT K H p ys) ∧ ∀ l, H l = none → Q (.ref l) (upd H l (.lst ys))
def dListOf (u : DTE) : DTE := fun δ R => u δ fun d δ1 => match d with
  | .list ds => R (.list ds) δ1
  | .tuple ds => R (.list ds) δ1
  | _ => False
theorem re_listOf (ha : RE K ta ua) : RE K (tCB (rListOf K) (tCons ta tNil)) (dListOf ua) := by
  intro c σ G H δ Q R E h k
  refine ha c σ G H δ _ _ E h fun d δ1 v G1 H1 h1 E1 e1 r1 => ?_
  cases d <;> first
    | exact False.elim h1
    | skip
  · obtain ⟨a, xs, rfl, q1, q2⟩ := r1.lst_of
    refine ⟨a, xs, rfl, .inl (.inl (.inl (E1.ex _ _ q1))), fun p hp => ?_⟩
    have A := Al.new (o := .lst xs) E1.ex hp
    exact k _ δ1 _ _ _ h1 (E1.al A) (e1.trans A.g) (.lst upd_same (q2.up A.g))
  · obtain ⟨a, xs, rfl, q1, q2⟩ := r1.tup_of
    refine ⟨a, xs, rfl, .inr (.inl (.inl (E1.ex _ _ q1))), fun p hp => ?_⟩
    have A := Al.new (o := .lst xs) E1.ex hp
    exact k _ δ1 _ _ _ h1 (E1.al A) (e1.trans A.g) (.lst upd_same (q2.up A.g))
def dListRg (u : DTE) : DTE := fun δ R => u δ fun d δ1 => match d with
  | .int n => (0 ≤ n ∧ n ≤ 16777216) ∧ R (.list (iotaD 0 n.toNat)) δ1
  | _ => False
theorem rgV_rp {G : Hp} (n : Int) : RpAll K G (rgV 0 n) (iotaD 0 n.toNat) := by
  unfold rgV iotaD
  rw [Int.sub_zero]
  generalize List.range n.toNat = l
  induction l with
  | nil => exact .nil
  | cons a r ih => exact .cons (.int _) ih
theorem re_listRg (ha : RE K ta ua) : RE K (tLstRg (tRg1 ta)) (dListRg ua) := by
  intro c σ G H δ Q R E h k
  refine ha c σ G H δ _ _ E h fun d δ1 v G1 H1 h1 E1 e1 r1 => ?_
  cases d <;> first
    | exact False.elim h1
    | skip
  rename_i n
  have e := r1.int_of
  subst e
  refine ⟨n, rfl, RgOk.of_le (by decide) h1.1.2 (by decide) h1.1.1, fun p hp => ?_⟩
  have A := Al.new (o := .lst (rgV 0 n)) E1.ex hp
  exact k _ δ1 _ _ _ h1.2 (E1.al A) (e1.trans A.g) (.lst upd_same (rgV_rp n))
def dSortI (u : DTE) : DTE := fun δ R => u δ fun d δ1 => match d with
  | .list ds => ∃ ns : List Int, ds = ns.map PyData.int ∧ ns.length < 64 ∧ ∀ ns' : List Int, ns'.Perm ns → ns'.Pairwise (· ≤ ·) → R (.list (ns'.map PyData.int)) δ1
  | _ => False
theorem re_sortI (ha : RE K ta ua) : RE K (tCB (rSorted K) (tCons ta tNil)) (dSortI ua) := by
  intro c σ G H δ Q R E h k
  refine ha c σ G H δ _ _ E h fun d δ1 v G1 H1 h1 E1 e1 r1 => ?_
  cases d <;> first
    | exact False.elim h1
    | skip
  obtain ⟨ns, rfl, few, h1⟩ := h1
  obtain ⟨a, xs, rfl, q1, q2⟩ := r1.lst_of
  have ex := rpAll_of_ints q2
  subst ex
  refine ⟨a, ns, rfl, .inl (.inl (E1.ex _ _ q1)), few, fun ns' p pm pw hp => ?_⟩
  have A := Al.new (o := .lst (ns'.map V.int)) E1.ex hp
  exact k _ δ1 _ _ _ (h1 ns' pm pw) (E1.al A) (e1.trans A.g) (.lst upd_same (ints_rp ns'))
def rIns : V → List V → Hp → VK → Prop := fun x vs H Q => ∃ (l : Addr) (xs : List V) (i : Int) (y : V), x = .ref l ∧ vs = [.int i, y] ∧ H l = some (.lst xs) ∧ xs.length < sizeLine ∧ 0 ≤ i ∧ i < 2 ^ 63 ∧
    Q .non (upd H l (.lst (xs.take i.toNat ++ [y] ++ xs.drop i.toNat)))
def dInsert (i : Nat) (ua ub : DTE) : DTS := fun E δ => (slL δ[i]?).isSome = true ∧ ua δ fun d δ1 => ub δ1 fun y δ2 => ∃ (t : Option Nat) (ds : List PyData) (k : Int), δ2[i]? = some (.own t ds) ∧ d = .int k ∧ ds.length < sizeLine ∧ 0 ≤ k ∧ k < 2 ^ 63 ∧ E.nx (δ2.set i (.own t (ds.take k.toNat ++ [y] ++ ds.drop k.toNat)))
theorem rs_insert {i : Nat} (ha : RE K ta ua) (hb : RE K tb ub) : RS K (tDrop (tBM K "list" rIns (tVar i) (tCons ta (tCons tb tNil)))) (dInsert i ua ub) := by
  intro c σ G H δ D E EV h k
  obtain ⟨h0, h⟩ := h
  obtain ⟨ds0, h0⟩ := Option.isSome_iff_exists.mp h0
  obtain ⟨p, xs0, hv, hp0, _⟩ := slL_ok EV h0
  refine ⟨.ref p, hv, .inl ⟨rfl, xs0, .inl (.inl hp0)⟩, ?_⟩
  refine ha c σ G H δ _ _ EV h fun d δ1 v1 G1 H1 h1 E1 e1 r1 => ?_
  refine hb c σ G1 H1 δ1 _ _ E1 h1 fun y δ2 v2 G2 H2 h2 E2 e2 r2 => ?_
  obtain ⟨t, ds, kk, hs, rfl, few, k0, k1, hN⟩ := h2
  have ev := r1.int_of
  subst ev
  obtain ⟨p', xs, e, hg, hh, rr, q⟩ := E2.sl i _ hs
  rw [hv] at e
  have ep := V.ref.inj (Option.some.inj (Option.some.inj e))
  subst ep
  refine ⟨p, xs, kk, v2, rfl, rfl, hh, by rw [rr.len]; exact few, k0, k1, ?_⟩
  exact k.nx σ G2 _ _ hN (E2.poke hs hv (((rpAll_take _ rr).app (.one r2)).app (rpAll_drop _ rr))) (e1.trans e2)
end
section
variable [XW] {X : Cx} {a b e : Expr} {ta tb te : TE} {ua ub ue : DTE} {p p2 pos pk : Pos}
theorem de_list1 (hm : X.mg "list" = none) (ha : DE X a ta ua) (hg : Gl X "list" := by rfl) (hv : bootBuiltins "list" = some (.type "list") := by decide +kernel) (hs : starEach [a] X.env = (false, eval a X.env) :: starEach [] X.env := by rfl) (hpl : (backTo pos (starEach [] X.env)).any (·.1) = false := by rfl) :
    DE X (.Call (.Name "list" p) [a] [] pos) (tCB (rListOf X.K) (tCons ta tNil)) (dListOf ua) := ⟨pe_callTy call_list_of hg hm hv (pa_cons ha.pe pa_nil hs) (by decide) (by decide) hs hpl, re_listOf ha.re⟩
theorem de_listRg (hm : X.mg "list" = none) (hr : X.mg "range" = none) (ha : DE X a ta ua) (hc : X.calm = true := by rfl) (hg : Gl X "list" := by rfl) (hgr : Gl X "range" := by rfl) (hs : starEach [a] X.env = (false, eval a X.env) :: starEach [] X.env := by rfl)
    (hs2 : starEach [.Call (.Name "range" pk) [a] [] p2] X.env = (false, eval (.Call (.Name "range" pk) [a] [] p2) X.env) :: starEach [] X.env := by rfl) :
    DE X (.Call (.Name "list" p) [.Call (.Name "range" pk) [a] [] p2] [] pos) (tLstRg (tRg1 ta)) (dListRg ua) := ⟨pe_listRg hc hg hm (prg_1 hgr hr ha.pe hs) hs2, re_listRg ha.re⟩
theorem de_sortI (hm : X.mg "sorted" = none) (ha : DE X a ta ua) (hg : Gl X "sorted" := by rfl) (hv : bootBuiltins "sorted" = some (.builtin "sorted") := by decide +kernel) (hs : starEach [a] X.env = (false, eval a X.env) :: starEach [] X.env := by rfl) (hpl : (backTo pos (starEach [] X.env)).any (·.1) = false := by rfl) :
    DE X (.Call (.Name "sorted" p) [a] [] pos) (tCB (rSorted X.K) (tCons ta tNil)) (dSortI ua) := ⟨pe_callB cr_sorted hg hm hv (pa_cons ha.pe pa_nil hs) (by decide) (by decide) hs hpl, re_sortI ha.re⟩
theorem ds_insert (i : Nat) {x : Str} {apos cpos : Pos} (ha : DE X a ta ua) (hb2 : DE X b tb ub) (hN : X.N[i]? = some x := by rfl) (hv : Vis X.env.scope x := by first | exact Or.inl rfl | exact Or.inr (Or.inl rfl) | exact Or.inr (Or.inr rfl)) (hd : (x == ("__debug__" : Str)) = false := by decide)
    (hcd : (x == ("__classdict__" : Str)) = false := by decide)
    (hb : attributeBase (.Name x p) "insert" X.env (eval (.Name x p) X.env) = eval (.Name x p) X.env := by rfl)
    (hfew : ((backTo cpos (starEach [a, b] X.env)).all (fun x => !x.1) && (backToKw cpos (keywordEach [] X.env)).all (fun x => x.1.isSome)
      && decide ([a, b].length + ([] : List Keyword).length + (if ([] : List Keyword).isEmpty then 0 else 1) < 30)) = true := by rfl)
    (hline : (apos.endLine == cpos.line) = true := by rfl) (hst : starEach [a, b] X.env = (false, eval a X.env) :: starEach [b] X.env := by rfl) (hst2 : starEach [b] X.env = (false, eval b X.env) :: starEach [] X.env := by rfl) (hpl : (backTo cpos (starEach [b] X.env)).any (·.1) = false := by rfl)
    (hs : swapsWith (.Call (.Attribute (.Name x p) "insert" apos) [a, b] [] cpos) none pos.line X.env = pure false := by rfl) :
    DS X (.Expr (.Call (.Attribute (.Name x p) "insert" apos) [a, b] [] cpos) pos) (tDrop (tBM X.K "list" rIns (tVar i) (tCons ta (tCons tb tNil)))) (dInsert i ua ub) :=
  ⟨ps_expr (pe_bm PySem.F.plainAttrs_list PySem.F.slot_list_insert PySem.F.type_list_insert mt_insert (pe_var hN hv hd hcd) (pa_cons ha.pe (pa_cons hb2.pe pa_nil hst2) hst) hb hfew hline hst hpl) hs, rs_insert ha.re hb2.re⟩
end
end TL

set_option Elab.async false
set_option linter.all false
set_option maxRecDepth 100000
set_option maxHeartbeats 4000000
/-! TBm: z[::-1] of texts. -/
namespace TL
open PySem PySem.Spec L2
def revS (z : Str) : Str := ⟨z.cps.toList.reverse.toArray⟩
theorem fm_map {α β : Type} (f : α → Option β) (g : α → β) : ∀ (l : List α), (∀ k ∈ l, f k = some (g k)) → l.filterMap f = l.map g
  | [], _ => rfl
  | a :: r, h => by
    rw [List.filterMap_cons, h a List.mem_cons_self, List.map_cons, fm_map f g r fun k hk => h k (List.mem_cons_of_mem _ hk)]
theorem rev_ix (z : Str) : (Builtin.Str.strSliceIndices none none (-1) z.length).filterMap (z.cps[·]?) = z.cps.toList.reverse := by
  have lz : z.cps.toList.length = z.length := by rw [Array.length_toList]; rfl
  have e : Builtin.Str.strSliceIndices none none (-1) z.length = (List.range z.length).map fun k => z.length - 1 - k := by
    unfold Builtin.Str.strSliceIndices
    show sliceRange ((z.length : Int) - 1) (-1) (-1) = _
    unfold sliceRange
    have hc : (if (-1 : Int) > 0 then (if (z.length : Int) - 1 < -1 then (-1 - ((z.length : Int) - 1) + -1 - 1) / -1 else 0) else (if (z.length : Int) - 1 > -1 then ((z.length : Int) - 1 - -1 - -1 - 1) / (- -1) else 0)) = (z.length : Int) := by
      rw [if_neg (by decide)]
      by_cases h : z.length = 0
      · rw [h]
        rfl
      · rw [if_pos (by omega)]
        show ((z.length : Int) - 1 - -1 - -1 - 1) / 1 = _
        rw [Int.ediv_one]
        omega
    rw [hc]
    show (List.range ((z.length : Int)).toNat).map (fun (k : Nat) => ((z.length : Int) - 1 + -1 * (k : Int)).toNat) = _
    rw [Int.toNat_natCast]
    refine List.map_congr_left fun k hk => ?_
    have := List.mem_range.mp hk
    omega
  rw [e]
  apply List.ext_getElem?
  intro i
  by_cases h : i < z.length
  · have key : ((List.range z.length).map fun k => z.length - 1 - k).filterMap (z.cps[·]?) = (List.range z.length).map fun k => z.cps.toList.getD (z.length - 1 - k) 0 := by
      rw [List.filterMap_map]
      refine fm_map _ _ _ fun k hk => ?_
      have := List.mem_range.mp hk
      have hl : z.length - 1 - k < z.cps.toList.length := by rw [lz]; omega
      show z.cps[z.length - 1 - k]? = some (z.cps.toList.getD (z.length - 1 - k) 0)
      rw [List.getD_eq_getElem?_getD, List.getElem?_eq_getElem hl, ← Array.getElem?_toList, List.getElem?_eq_getElem hl]
      rfl
    rw [key, List.getElem?_map, List.getElem?_range h, List.getElem?_reverse (by rw [lz]; exact h)]
    have hl : z.length - 1 - i < z.cps.toList.length := by rw [lz]; omega
    show some (z.cps.toList.getD (z.length - 1 - i) 0) = z.cps.toList[z.cps.toList.length - 1 - i]?
    rw [lz, List.getD_eq_getElem?_getD, List.getElem?_eq_getElem hl]
    rfl
  · rw [List.getElem?_eq_none, List.getElem?_eq_none]
    · rw [List.length_reverse, lz]
      omega
    · refine Nat.le_trans (List.length_filterMap_le _ _) ?_
      rw [List.length_map, List.length_range]
      omega
def tRevS (te tk : TE) : TE := fun σ H Q => te σ H fun x H1 => tk σ H1 fun k H2 => ∃ z, x = .str z ∧ k = .int (-1) ∧ z.length ≤ sizeLine ∧ Q (.str (revS z)) H2
section
variable [XW] {X : Cx} {e k : Expr} {te tk : TE} {ue uk : DTE} {pos p2 : Pos}
open PyProof.Rows in
theorem pe_revS (he : PE X e te) (hk : PE X k tk) : PE X (.Subscript e (.Slice none none (some k) p2) pos) (tRevS te tk) := by
  refine ⟨fun pins s σ H Q I h => ?_⟩
  refine PyProof.Rows.Subscript_ (thn (he.run pins s σ H _ I h) fun v s1 ⟨x, H1, I1, r1, q1⟩ => ?_)
  refine wpAny_Slice (wpAny_pure (wpAny_pure ?_))
  rw [evalPart_some]
  refine thn (hk.run pins s1 σ H1 _ I1 q1) fun vk s4 ⟨x4, H4, I4, r4, q4⟩ => ?_
  obtain ⟨z, rfl, rfl, hz, q⟩ := q4
  obtain ⟨t1, rfl⟩ := r1
  obtain ⟨t4, rfl⟩ := r4
  have I5 : Inv X pins σ H4 { s4 with heap := s4.heap.push { cls := .type "slice", data := .fields #[.none, .none, .int (-1) t4] } } := I4.kept (t' := s4.toks) fun b ob q => Heap.get?_push_of_some _ q
  refine tail_any (ops := [.ref s4.heap.objs.size, .str z t1]) (typeIs_str _ _ _) F.slot_str_getitem.lookup ?_ (by with_unfolding_all rfl)
  refine wpAny_getItem_str_slice (l := none) (u := none) (st := some (-1, t4)) ⟨_, Heap.get?_push_size _ rfl, rfl, rfl⟩ rfl ?_
  unfold sliceMade slicePicked
  have e1 := rev_ix z
  show Made.post (if ((-1 : Int) == 1 && (Builtin.Str.strSliceIndices none none (-1) z.length).length == z.length) = true then Made.val (.str z t1) else _) _ _
  rw [if_neg (by simp)]
  refine ⟨?_, .str _, H4, I5.tok _, ⟨_, rfl⟩, ?_⟩
  · show (((Builtin.Str.strSliceIndices none none (-1) z.length).filterMap (z.cps[·]?)).toArray).size ≤ sizeLine
    rw [e1, List.size_toArray, List.length_reverse, Array.length_toList]
    exact hz
  · show Q (.str ⟨((Builtin.Str.strSliceIndices none none (-1) z.length).filterMap (z.cps[·]?)).toArray⟩) H4
    rw [e1]
    exact q
def dRevS (ue uk : DTE) : DTE := fun δ R => ue δ fun d δ1 => uk δ1 fun d2 δ2 => match d with
  | .str z => d2 = .int (-1) ∧ z.length ≤ sizeLine ∧ R (.str (revS z)) δ2
  | _ => False
theorem re_revS {K : PySem.W.Frag} (he : RE K te ue) (hk : RE K tk uk) : RE K (tRevS te tk) (dRevS ue uk) := by
  intro c σ G H δ Q R E h kk
  refine he c σ G H δ _ _ E h fun d δ1 v G1 H1 h1 E1 e1 r => ?_
  refine hk c σ G1 H1 δ1 _ _ E1 h1 fun d1 δ2 v1 G2 H2 h2 E2 e2 r1 => ?_
  cases d <;> first
    | exact False.elim h2
    | skip
  obtain ⟨e, hz, hR⟩ := h2
  rw [e] at r1
  exact ⟨_, r.str_of, r1.int_of, hz, kk _ δ2 _ G2 H2 hR E2 (e1.trans e2) (.str _)⟩
theorem de_revS (he : DE X e te ue) (hk : DE X k tk uk) : DE X (.Subscript e (.Slice none none (some k) p2) pos) (tRevS te tk) (dRevS ue uk) := ⟨pe_revS he.pe hk.pe, re_revS he.re hk.re⟩
end
end TL

set_option Elab.async false
set_option linter.all false
set_option maxRecDepth 100000
set_option maxHeartbeats 4000000
/-! TBn: own defs called with n by place, then one by its name, the last m left out. -/
namespace TL
open PySem PySem.Spec PyProof.Rows L2
structure KnKE (P : Program) (w : World) (K : PySem.W.Frag) (mg : Str → Option Value) (base : Heap) (k : Nat) (x : Str) (n m : Nat) (ks : List Str) (S : DSp) : Prop where
  ex : ∃ (f : Addr) (fd : FuncData) (ps : List Str), FnOkG P w K mg base CX0 k f fd ps (spD K S) ∧ mg x = some (.ref f) ∧ PySem.W.keepIn K (.ref f) = true ∧
    KBn K fd ps n ks (fun us ws => us ++ (ws ++ List.replicate m Value.none)) (fun vs zs => vs ++ (zs ++ List.replicate m V.non))
theorem kbn_noneE {K : PySem.W.Frag} {x qual : Str} {params : Arguments} {body : List Stmt} {scope : Scope} {q : Nat} {f : Addr} {fd : FuncData} {ps : List Str} (F : FunD K x qual params body scope (List.replicate (q + 1) V.non) [] f fd) (n m : Nat) (ks : List Str)
    (h : ∀ (T : Addr) (kV doc pm : Value) (an : Option Addr) (cdv ct : Value) (us ws : List Value), us.length = n → ws.length = ks.length →
      ∃ k, bindArgs (PySem.W.fnOf x qual params body scope (.ref T) kV doc pm an cdv ct) ⟨us, ks.zip ws⟩ = seqItems? (.ref T) >>= k ∧ k (some (List.replicate (q + 1) Value.none).toArray) = pure (ps.zip (us ++ (ws ++ List.replicate m Value.none)))) :
    KBn K fd ps n ks (fun us ws => us ++ (ws ++ List.replicate m Value.none)) (fun vs zs => vs ++ (zs ++ List.replicate m V.non)) := by
  obtain ⟨oc, od, dV, kV, doc, pm, an, cdv, ct, osl, rfl, lk, hcd, hD, _⟩ := F.ex
  rcases hD with ⟨e, _⟩ | ⟨_, T, o, its, mm, rfl, lT, oT, rT⟩
  · exact absurd e (fun z => nomatch z)
  · have ei := vals_nones rT
    subst ei
    refine ⟨fun z us ws Y l1 l2 => ?_, fun r1 r2 => r1.append (r2.append (nones_vals m))⟩
    obtain ⟨k, e1, e2⟩ := h T kV doc pm an cdv ct us ws l1 l2
    refine BindsTo.of_looks fun M => ?_
    rw [e1]
    exact looks_items Y lT oT (.of_pure e2)
section
variable [XW] {K : PySem.W.Frag}
def dCallKE (S : DSp) (n m l : Nat) (ua : DCA) (uk : DTA) : DTE := fun δ R => ua δ fun cs δ1 => uk δ1 fun ds δ2 => cs.length = n ∧ ds.length = l ∧ callD S R (cs ++ (ds.map CA.d ++ nonesC m)) δ2
theorem re_callKE {S : DSp} {n m l : Nat} {t tk : TA} {ua : DCA} {uk : DTA} (ha : RCA K t ua) (hv : RA K tk uk) :
    RE K (tCallNS n l (spD K S) (fun vs zs => vs ++ (zs ++ List.replicate m V.non)) (fun _ => E0) t tk) (dCallKE S n m l ua uk) := by
  intro c σ G H δ Q R E h k
  refine ha c σ G H δ _ _ E h fun cs δ1 vs G1 H1 h1 E1 e1 r1 => ?_
  refine hv c σ G1 H1 δ1 _ _ E1 h1 fun ds δ2 zs G2 H2 h2 E2 e2 r2 => ?_
  obtain ⟨len, lz, h2⟩ := h2
  refine ⟨by rw [r1.len, len], by rw [r2.len, lz], ?_⟩
  exact callD_ok E2 (e1.trans e2) ((r1.up e2).app ((rpAll_ca r2).app (nones_ca m))) h2 k
end
section
variable [XW] {X : Cx} {P : Program} {w : World} {K : PySem.W.Frag} {mg : Str → Option Value} {base : Heap} {x : Str} {n m : Nat} {S : DSp} {k j : Nat} {e : Expr} {es : List Expr} {tca : TA} {uca : DCA} {p pos pk : Pos} {v : Expr} {tv : TE} {uv : DTE}
theorem de_callKE {y : Str} {nm : Option Str} (kn : KnKE P w K mg base k x n m [y] S) (hr : RoomG j X.A) (hk : k ≤ j) (ha : DCa X (e :: es) tca uca) (hv : DE X v tv uv) (hX : X.prog = P ∧ X.w = w ∧ X.K = K ∧ X.mg = mg ∧ X.base = base := by exact ⟨rfl, rfl, rfl, rfl, rfl⟩) (hg : Gl X x := by rfl)
    (hall : (backToKw pos (keywordEach [⟨nm, v, pk⟩] X.env)).all (·.1.isSome) = true := by rfl) (hks : (backToKw pos (keywordEach [⟨nm, v, pk⟩] X.env)).filterMap (·.1) = [y] := by rfl) (hdb : (x == ("__debug__" : Str)) = false := by decide)
    (he : starEach (e :: es) X.env = (false, eval e X.env) :: starEach es X.env := by rfl) (hpl : ((backTo pos (starEach (e :: es) X.env)).any (·.1) || (backToKw pos (keywordEach [⟨nm, v, pk⟩] X.env)).any (·.1.isNone)) = false := by rfl) :
    DE X (.Call (.Name x p) (e :: es) [⟨nm, v, pk⟩] pos) (tCallNS n 1 (spD K S) (fun vs zs => vs ++ (zs ++ List.replicate m V.non)) (fun _ => E0) tca (tCons tv tNil)) (dCallKE S n m 1 uca (dCons uv dNil)) := by
  obtain ⟨rfl, rfl, rfl, rfl, rfl⟩ := hX
  obtain ⟨f, fd, ps, F, hm, kp, b⟩ := kn.ex
  exact ⟨pe_callNS F (hr.mono hk) hg hm kp b (fun σ => kbn_pass0) ha.pa (pk_cons hv.pe pk_nil) hall hks hdb he hpl, re_callKE ha.ra (ra_cons hv.re ra_nil)⟩
end
end TL

set_option Elab.async false
set_option linter.all false
set_option maxRecDepth 100000
set_option maxHeartbeats 4000000
/-! TBo: x = a + b that is one's own; a def that hands back a new list: by a comprehension, by a call, and one that may refuse; a def called out of a list. -/
namespace TL
open PySem PySem.Spec PyProof.Rows L2
section
variable [XW] {K : PySem.W.Frag} {ta tb : TE} {ua ub : DTE} {w : TI} {uw : DTI} {g : TG} {ug : DTG} {tt : TT} {ut : DTT} {te : TE} {ue : DTE} {js vs : List Nat}
def dCatOwn (i : Nat) (ua ub : DTE) : DTS := fun E δ => ua δ fun d1 δ1 => ub δ1 fun d2 δ2 => match d1, d2 with
  | .list xs, .list ys => xs.length + ys.length ≤ sizeLine ∧ E.nx (δ2.set i (.own none (xs ++ ys)))
  | _, _ => False
theorem rs_catOwn {i : Nat} (ha : RE K ta ua) (hb : RE K tb ub) : RS K (tAsg (tOp rCat ta tb) (gName i)) (dCatOwn i ua ub) := by
  intro c σ G H δ D E EV h k
  refine ha c σ G H δ _ _ EV h fun d1 δ1 v1 G1 H1 h1 E1 e1 r1 => ?_
  refine hb c σ G1 H1 δ1 _ _ E1 h1 fun d2 δ2 v2 G2 H2 h2 E2 e2 r2 => ?_
  cases d1 <;> cases d2 <;> first
    | exact False.elim h2
    | skip
  obtain ⟨a, xs, rfl, q1, s1⟩ := (r1.up e2).lst_of
  obtain ⟨b, ys, rfl, q2, s2⟩ := r2.lst_of
  refine ⟨a, b, xs, ys, rfl, rfl, E2.ex _ _ q1, E2.ex _ _ q2, by rw [s1.len, s2.len]; exact h2.1, fun p hp => ?_⟩
  exact k.nx _ G2 _ _ h2.2 (E2.fresh hp (E2.new0 hp) (s1.app s2)) (e1.trans e2)
/-- a comprehension that is handed back new -/
def dLcRet (uw : DTI) (ug : DTG) (ut : DTT) (ue : DTE) (vs : List Nat) : DTS := fun E δ => uw δ fun ds δ1 => lcW vs ug ut ue E.rn ds [] δ1
theorem rs_lcRet (hw : RI K w uw) (hg : RG K g ug js) (ht : RT K tt ut) (he : RE K te ue) (hj : ∀ j ∈ js, j ∈ vs) : RS K (tRet (tLc w g tt te vs)) (dLcRet uw ug ut ue vs) := by
  intro c σ G H δ D' E EV h k
  refine hw c σ G H δ _ _ EV h fun ds δ1 J G1 H1 h1 E1 e1 Y => ?_
  intro D hD
  have hn := hid_new E1 hD
  refine lc_turns (Q := fun x H1 => D'.rt x H1) hg ht he hj (E1.hide (ob := .lst []) hD (E1.new0 hD)) hn Y h1 fun acc δ' xs G' H' hR E' e' r' => ?_
  exact k.rn acc δ' D xs σ G' H' hR E' hn (e1.trans e') r'
/-! ### a new list comes back -/
theorem back_new {c : Cf} {σ : L2.St} {G1 H1 G' H' : Hp} {δ1 : List Sl} {cs : List CA} {outs : List (List PyData)} {p : Addr} {xs : List V} (E1 : EnvOk K c G1 H1 σ δ1) (hn : (muts δ1 cs).Nodup) (hl : outs.length = (muts δ1 cs).length)
    (F : Fin K (calleeC σ (muts δ1 cs) G1 H1) G' H' outs) (hp : H1 p = none) (gp : G' p = none) (hh : H' p = some (.lst xs)) :
    EnvOk K { c with hid := (p, .lst xs) :: c.hid } G' H' σ (setOuts δ1 (muts δ1 cs) outs) ∧ ∀ zs, (p, zs) ∉ c.hid := by
  have EB := caller_back E1 hn hl F
  have old : ∀ (j : Nat) (t : Option Nat) (es : List PyData), (setOuts δ1 (muts δ1 cs) outs)[j]? = some (Sl.own t es) → σ[j]? ≠ some (some (V.ref p)) := fun j t es hs z => by
    have so := setOuts_get (M := muts δ1 cs) (δ := δ1) (outs := outs) (k := j) hn hl fun i hi => muts_own hi
    have hd : ∃ t' ds', δ1[j]? = some (Sl.own t' ds') := by
      by_cases hj : j ∈ muts δ1 cs
      · exact muts_own hj
      · rw [so.2.1 hj] at hs
        exact ⟨_, _, hs⟩
    obtain ⟨t', ds', hd⟩ := hd
    obtain ⟨q, ys, e, _, q1, _⟩ := E1.sl j _ hd
    rw [z] at e
    rw [← V.ref.inj (Option.some.inj (Option.some.inj e)), hp] at q1
    cases q1
  have n0 : ∀ zs, (p, zs) ∉ c.hid := fun zs z => by
    have q := (E1.hd p zs z).1
    rw [hp] at q
    cases q
  exact ⟨{
    xw := EB.xw, g0 := EB.g0, ex := EB.ex, fr := EB.fr, fs := EB.fs, tg := EB.tg, len := EB.len
    sl := fun i s h => by
      have z := EB.sl i s h
      cases s with
      | no => trivial
      | box b => trivial
      | dat d => exact z
      | scr d => exact z
      | own t d => exact z
    ap := EB.ap
    hd := fun q ys hm => by
      rcases List.mem_cons.mp hm with e | hm
      · cases e
        exact ⟨hh, gp, E1.new0 hp, fun j hj z => (E1.tg j hj).1 (by rw [← z]; exact hp), old⟩
      · exact EB.hd q ys hm
    bx := caller_box E1 hn hl F rfl rfl rfl fun a ha h o hm => by
      rcases List.mem_cons.mp hm with e | hm
      · cases e
        exact ha hp
      · exact h o hm }, n0⟩
/-- f(..) that is handed back new -/
def dRetCallN (S : DSn) (ua : DCA) : DTS := fun E δ => ua δ fun cs δ1 => (muts δ1 cs).Nodup ∧ S (asOf δ1 cs 0) fun ds outs => outs.length = (muts δ1 cs).length ∧ E.rn ds (setOuts δ1 (muts δ1 cs) outs)
theorem rs_retCallN {S : DSn} {t : TA} {ua : DCA} (ha : RCA K t ua) : RS K (tRet (tCall (spN K S) [] E0 t)) (dRetCallN S ua) := by
  intro c σ G H δ D E EV h k
  refine ha c σ G H δ _ _ EV h fun cs δ1 vs G1 H1 h1 E1 e1 r1 => ?_
  obtain ⟨hn, hS⟩ := h1
  show spN K S (vs ++ []) H1 _ E0
  rw [List.append_nil]
  refine ⟨calleeC σ (muts δ1 cs) G1 H1, asOf δ1 cs 0, _, rfl, rfl, callee_env E1 r1 hn, hS, fun ds outs p xs G' H' hR F hp gp hh rr => ?_⟩
  obtain ⟨EH, n0⟩ := back_new E1 hn hR.1 F hp gp hh
  exact k.rn ds _ p xs σ G' H' hR.2 EH n0 (e1.trans F.g0) rr
/-! ### .. of defs that may refuse -/
abbrev DSxn := List Sl → (List PyData → List (List PyData) → Prop) → (PyData → List (List PyData) → Prop) → Prop
def spXN (K : PySem.W.Frag) (S : DSxn) : Sp := fun vs H Q E => ∃ (c : Cf) (as : List Sl) (R : List PyData → List (List PyData) → Prop) (Xr : PyData → List (List PyData) → Prop), c.hid = [] ∧ c.H0 = H ∧ EnvC K c c.G0 H (vs.map some) as ∧ S as R Xr ∧
  (∀ ds outs p xs G' H', R ds outs → Fin K c G' H' outs → H p = none → G' p = none → H' p = some (.lst xs) → RpAll K G' xs ds → Q (.ref p) H') ∧ ∀ err outs cls d G' H', Xr err outs → Fin K c G' H' outs → ErrRp K G' cls d err → E cls d H'
/-- what is handed back is a datum, too -/
def asX (S : DSxn) : DSx := fun as R Xr => S as (fun ds outs => R (.list ds) outs) Xr
theorem spX_of {S : DSxn} {vs : List V} {H : Hp} {Q : VK} {E : XK} (h : spX K (asX S) vs H Q E) : spXN K S vs H Q E := by
  obtain ⟨c, as, R, Xr, hh, h0, EV, hS, k, kx⟩ := h
  refine ⟨c, as, _, Xr, hh, h0, EV, hS, fun ds outs p xs G' H' hR F hp gp hh' rr => ?_, kx⟩
  have ex2 : Ex (upd G' p (.lst xs)) H' := fun a o e => by
    by_cases ha : a = p
    · subst ha
      rw [upd_same] at e
      rw [← e]
      exact hh'
    · rw [upd_ne ha] at e
      exact F.ex _ _ e
  have up : Ex G' (upd G' p (.lst xs)) := Ex.new gp
  refine k (.list ds) outs (.ref p) (upd G' p (.lst xs)) H' hR ⟨F.g0.trans up, ex2, F.fr, fun a a1 a2 => ?_, fun j hj => ?_, fun j cs hj => ?_⟩ (.lst upd_same (rr.up up))
  · have ne : a ≠ p := fun z => a2 (by rw [z, h0]; exact hp)
    rw [upd_ne ne]
    exact F.fs a a1 a2
  · obtain ⟨t1, t2⟩ := F.tg j hj
    have ne : c.τ j ≠ p := fun z => (EV.tg j hj).1 (by rw [z]; exact hp)
    exact ⟨t1, by rw [upd_ne ne]; exact t2⟩
  · obtain ⟨ys, y1, y2⟩ := F.out j cs hj
    exact ⟨ys, y1, y2.up up⟩
end
section
variable {P : Program} {w : World} {K : PySem.W.Frag} {mg : Str → Option Value} {base : Heap}
theorem FnOkG.toX {k : Nat} {f : Addr} {fd : FuncData} {ps : List Str} {S : DSxn} (F : FnOkG P w K mg base (L2.CX P w) k f fd ps (spXN K S)) : FnOkG P w K mg base (L2.CX P w) k f fd ps (spX K (asX S)) := F.imp fun _ _ _ _ h => spX_of h
theorem fnXN {x qual : Str} {st : Stmt} {f : Addr} {fd : FuncData} {N ps : List Str} {k : Nat} {S : DSxn} (F : Fun K x qual st f fd) (sc : FnScope N ps (defScope st)) (len : ∀ as R Xr, S as R Xr → as.length = ps.length)
    (hbody : ∀ (cdv : Value) (A : Around) (outer : List Env) (z : Shared) (H : Hp) (E : XK), RoomG k (A.deeper (envOfC qual (defScope st) z.heap.objs.size f cdv)) → ∀ (xw : XW), Takes (cxOf (L2.CX P w) P w K mg base N qual (defScope st) f cdv A outer z H E) xw.w →
      ∃ t u, DSs (cxOf (L2.CX P w) P w K mg base N qual (defScope st) f cdv A outer z H E) (defBody st) t u ∧ ∀ as R Xr, S as R Xr → (xw.xr = fun err δ => ∃ outs, Xr err outs ∧ OutsIn δ outs) → u (endsNew R) (as ++ List.replicate (N.length - ps.length) .no)) :
    FnOkG P w K mg base (L2.CX P w) (k + 1) f fd ps (spXN K S) := by
  refine fun_okG F sc (fun vs H Q E h => ?_) (fun cdv A outer z H vs Q E hr h => ?_)
  · obtain ⟨c, as, R, Xr, _, _, EV, hS, _⟩ := h
    have := EV.len
    rw [List.length_map] at this
    rw [this]
    exact len as R Xr hS
  · obtain ⟨c, as, R, Xr, hh, h0, EV, hS, k, kx⟩ := h
    let xw : XW := ⟨fun cls d _ H => E cls d H, fun err δ => ∃ outs, Xr err outs ∧ OutsIn δ outs⟩
    obtain ⟨t, u, D, red⟩ := hbody cdv A outer z H E hr xw takes_cx
    refine ⟨t, D.ps, ?_⟩
    have l1 : vs.length = ps.length := by
      have := EV.len
      rw [List.length_map] at this
      rw [this]
      exact len as R Xr hS
    have core : ({ c with hid := [] } : Cf) = c := by
      obtain ⟨τ, n, G0, H0, hid⟩ := c
      dsimp only at hh
      subst hh
      rfl
    have EV' : EnvOk K c c.G0 H (L2.start N vs) (as ++ List.replicate (N.length - ps.length) .no) := by
      have y := EV.more (N.length - ps.length)
      have y' : EnvC K c c.G0 H (L2.start N vs) (as ++ List.replicate (N.length - ps.length) .no) := by
        unfold L2.start
        rw [l1]
        exact y
      refine ⟨y', fun cls d err G' H' σ' δ' hx EC er => ?_⟩
      obtain ⟨outs, hX, ho⟩ := hx
      rw [core] at EC
      exact kx err outs cls d G' H' hX (EC.fin ho) er
    refine D.rs c (L2.start N vs) c.G0 H _ _ (endsNew R) EV' (red as R Xr hS rfl) ⟨fun σ' G' H' δ' a _ _ => False.elim a, fun d δ' v σ' G' H' a _ _ _ => False.elim a, fun σ' G' H' δ' a _ _ => False.elim a, fun σ' G' H' δ' a _ _ => False.elim a, ?_, hh⟩
    rintro ds δ' p xs σ' G' H' ⟨outs, hR, ho⟩ E' hn e r
    obtain ⟨q1, q2, q3, q4, q5⟩ := E'.hd p _ List.mem_cons_self
    refine k ds outs p xs G' H' hR ⟨E'.g0, E'.ex, E'.fr, E'.fs, E'.tg, fun j cs hj => ?_⟩ (by rw [← h0]; exact q3) q2 q1 r
    obtain ⟨i, hi⟩ := ho j cs hj
    obtain ⟨p', ys, _, _, hh', r', q⟩ := E'.sl i _ hi
    exact ⟨ys, by rw [← q.2]; exact hh', r'⟩
/-- .. by its name -/
structure KnXN (P : Program) (w : World) (K : PySem.W.Frag) (mg : Str → Option Value) (base : Heap) (k : Nat) (x : Str) (S : DSxn) : Prop where
  ex : ∃ (f : Addr) (fd : FuncData) (ps : List Str), FnOkG P w K mg base (L2.CX P w) k f fd ps (spXN K S) ∧ mg x = some (.ref f) ∧ PySem.W.keepIn K (.ref f) = true ∧ Binds K fd ps []
theorem KnXN.toX {k : Nat} {x : Str} {S : DSxn} (kn : KnXN P w K mg base k x S) : KnX P w K mg base k x (asX S) := by
  obtain ⟨f, fd, ps, F, hm, kp, b⟩ := kn.ex
  exact ⟨f, fd, ps, F.toX, hm, kp, b⟩
/-- defs at these places, what is known of each -/
structure KnFX (P : Program) (w : World) (K : PySem.W.Frag) (mg : Str → Option Value) (base : Heap) (k : Nat) (fs : List Addr) (S : Addr → DSx) : Prop where
  ex : ∀ f, f ∈ fs → ∃ (fd : FuncData) (ps : List Str), FnOkG P w K mg base (L2.CX P w) k f fd ps (spX K (S f)) ∧ PySem.W.keepIn K (.ref f) = true ∧ Binds K fd ps []
end
section
variable [XW] {X : Cx} {a b e : Expr} {es : List Expr} {ta tb te : TE} {ua ub ue : DTE} {p p2 p3 pos : Pos} {k j : Nat} {tca : TA} {uca : DCA}
theorem ds_catOwn (i : Nat) {y : Str} (hN : X.N.Nodup) (ha : DE X a ta ua) (hb : DE X b tb ub) (hi : X.N[i]? = some y := by rfl) (hx : Loc X.env.scope y := by first | exact Or.inl rfl | exact Or.inr rfl)
    (hs : swapsWith (.BinOp a .Add b p3) (some (.Name y p2)) pos.line X.env = pure false := by rfl) (hf : X.fn y = true ∨ X.env.scope.names.lookup y = some .local := by first | exact .inl rfl | exact .inr rfl | assumption) :
    DS X (.Assign [.Name y p2] (.BinOp a .Add b p3) pos) (tAsg (tOp rCat ta tb) (gName i)) (dCatOwn i ua ub) := ⟨ps_set hN hi hx (pe_op op_cat ha.pe hb.pe) hs hf, rs_catOwn ha.re hb.re⟩
theorem ds_lcRet {spos : Pos} {elt tg iter : Expr} {ifs : List Expr} {scope : Scope} (own : List (Str × Nat)) {w : TI} {uw : DTI} {g : TG} {ug : DTG} {tt : TT} {ut : DTT} {js : List Nat} (hc : X.calm = true) (hN : X.N.Nodup) (hi : DI X tg iter w uw) (ok : BlkOk X.N X.env.scope scope own)
    (hg : ∀ (s : Shared) (H : Hp) (C : Addr) (cl : List (Str × Addr)) (fp : List Addr), DG (X.blk s H scope (compEnvC scope cl C X.env) fp) tg g ug js) (ht : ∀ (s : Shared) (H : Hp) (C : Addr) (cl : List (Str × Addr)) (fp : List Addr), DTs (X.blk s H scope (compEnvC scope cl C X.env) fp) ifs tt ut)
    (he : ∀ (s : Shared) (H : Hp) (C : Addr) (cl : List (Str × Addr)) (fp : List Addr), DE (X.blk s H scope (compEnvC scope cl C X.env) fp) elt te ue) (hj : ∀ j ∈ js, j ∈ own.map (·.2)) (hs : ∀ x, foldedSetIterable iter X.env x = pure x := by intro _; rfl) :
    DS X (.Return (some (.ListComp elt [⟨tg, iter, ifs, 0⟩] scope pos)) spos) (tRet (tLc w g tt te (own.map (·.2)))) (dLcRet uw ug ut ue (own.map (·.2))) :=
  ⟨ps_ret (pe_lc hc hN hi.pi ok (fun a b c d e => (hg a b c d e).pg) (fun a b c d e => (ht a b c d e).pt) (fun a b c d e => (he a b c d e).pe) hs),
   rs_lcRet hi.ri (hg X.s_0 X.H_0 0 [] []).rg (ht X.s_0 X.H_0 0 [] []).rt (he X.s_0 X.H_0 0 [] []).re hj⟩
theorem ds_retCallN {x : Str} {S : DSn} (kn : KnN X.prog X.w X.K X.mg X.base k x S) (hr : RoomG j X.A) (hk : k ≤ j) (ha : DCa X (e :: es) tca uca) (hg : Gl X x := by rfl) (hdb : (x == ("__debug__" : Str)) = false := by decide)
    (he : starEach (e :: es) X.env = (false, eval e X.env) :: starEach es X.env := by rfl) (hpl : (backTo p3 (starEach es X.env)).any (·.1) = false := by rfl) :
    DS X (.Return (some (.Call (.Name x p) (e :: es) [] p3)) pos) (tRet (tCall (spN X.K S) [] E0 tca)) (dRetCallN S uca) := by
  obtain ⟨f, fd, ps, F, hm, kp, bb⟩ := kn.ex
  exact ⟨ps_ret (pe_callG F (hr.mono hk) hg hm kp bb .nil pass0 ha.pa hdb he hpl), rs_retCallN ha.ra⟩
/-- name = f(..), a new list, of a def that may refuse -/
def dCallOwnX (i : Nat) (S : DSxn) (ua : DCA) : DTS := fun E δ => ua δ fun cs δ1 => (muts δ1 cs).Nodup ∧ S (asOf δ1 cs 0) (fun ds outs => outs.length = (muts δ1 cs).length ∧ E.nx ((setOuts δ1 (muts δ1 cs) outs).set i (.own none ds))) fun err outs => outs.length = (muts δ1 cs).length ∧ XW.xr err (setOuts δ1 (muts δ1 cs) outs)
theorem rs_callOwnX {K : PySem.W.Frag} {S : DSxn} {i : Nat} (ha : RCA K tca uca) : RS K (tAsg (tCallSD (spXN K S) [] (WE XW.w) tca) (gName i)) (dCallOwnX i S uca) := by
  intro c σ G H δ D E EV h k
  refine ha c σ G H δ _ _ EV h fun cs δ1 vs G1 H1 h1 E1 e1 r1 => ?_
  obtain ⟨hn, hS⟩ := h1
  show spXN K S (vs ++ []) H1 _ _
  rw [List.append_nil]
  refine ⟨calleeC σ (muts δ1 cs) G1 H1, asOf δ1 cs 0, _, _, rfl, rfl, callee_env E1 r1 hn, hS, fun ds outs p xs G' H' hR F hp gp hh rr => ?_, fun err outs cls d G' H' hX F er => ?_⟩
  · obtain ⟨EH, n0⟩ := back_new E1 hn hR.1 F hp gp hh
    exact k.nx _ G' H' _ hR.2 (EH.give n0 rr i) (e1.trans F.g0)
  · have EB := caller_back E1 hn hX.1 F
    exact EB.xw _ _ _ _ _ _ _ hX.2 EB.core er
theorem ds_callOwnX (i : Nat) {x y : Str} {S : DSxn} (tk : Takes X XW.w) (hN : X.N.Nodup) (kn : KnXN X.prog X.w X.K X.mg X.base k x S) (hr : RoomG j X.A) (hk : k ≤ j) (ha : DCa X (e :: es) tca uca) (hi : X.N[i]? = some y := by rfl) (hx : Loc X.env.scope y := by first | exact Or.inl rfl | exact Or.inr rfl)
    (hs : swapsWith (.Call (.Name x p) (e :: es) [] p3) (some (.Name y p2)) pos.line X.env = pure false := by rfl) (hf : X.fn y = true ∨ X.env.scope.names.lookup y = some .local := by first | exact .inl rfl | exact .inr rfl | assumption)
    (hg : Gl X x := by rfl) (hdb : (x == ("__debug__" : Str)) = false := by decide)
    (he : starEach (e :: es) X.env = (false, eval e X.env) :: starEach es X.env := by rfl) (hpl : (backTo p3 (starEach es X.env)).any (·.1) = false := by rfl) :
    DS X (.Assign [.Name y p2] (.Call (.Name x p) (e :: es) [] p3) pos) (tAsg (tCallSD (spXN X.K S) [] (WE XW.w) tca) (gName i)) (dCallOwnX i S uca) := by
  obtain ⟨f, fd, ps, F, hm, kp, bb⟩ := kn.ex
  exact ⟨ps_set hN hi hx (pe_callGS F (hr.mono hk) hg hm kp bb .nil (fun σ => passAt tk σ) ha.pa hdb he hpl) hs hf, rs_callOwnX ha.ra⟩
/-! ### fs[i](..) -/
def tCallFX (fs : List Addr) (sp : Addr → Sp) (E : L2.St → XK) (te : TE) (t : TA) : TE := fun σ H Q => te σ H fun v H1 => ∃ f, f ∈ fs ∧ v = .ref f ∧ t σ H1 fun vs H2 => sp f (vs ++ []) H2 Q (E σ)
def dCallFX (fs : List Addr) (S : Addr → DSx) (ue : DTE) (ua : DCA) : DTE := fun δ R => ue δ fun d δ1 => ∃ f, f ∈ fs ∧ d = fnvD f ∧ dCallX (S f) ua δ1 R
theorem re_callFX {K : PySem.W.Frag} {fs : List Addr} {S : Addr → DSx} (he : RE K te ue) (ha : RCA K tca uca) : RE K (tCallFX fs (fun f => spX K (S f)) (WE XW.w) te tca) (dCallFX fs S ue uca) := by
  intro c σ G H δ Q R E h k
  refine he c σ G H δ _ _ E h fun d δ1 v G1 H1 h1 E1 e1 r1 => ?_
  obtain ⟨f, hf, rfl, h1⟩ := h1
  refine ⟨f, hf, r1.fn_of, ?_⟩
  exact re_callX ha c σ G1 H1 δ1 Q R E1 h1 fun d δ' v G' H' q1 q2 q3 q4 => k d δ' v G' H' q1 q2 (e1.trans q3) q4
theorem eval_callSub {a b : Expr} {p2 pos : Pos} {args : List Expr} {kws : List Keyword} (env : Env) : eval (.Call (.Subscript a b p2) args kws pos) env = (do callWith pos (← eval (.Subscript a b p2) env) [] (backTo pos (starEach args env)) (backToKw pos (keywordEach kws env))) := rfl
theorem pe_callFX {CX : CXT} {fs : List Addr} {sp : Addr → Sp} {E : L2.St → XK} (hF : ∀ f, f ∈ fs → ∃ (fd : FuncData) (ps : List Str), FnOkG X.prog X.w X.K X.mg X.base CX k f fd ps (sp f) ∧ PySem.W.keepIn X.K (.ref f) = true ∧ Binds X.K fd ps []) (hr : RoomG k X.A) (hx : ∀ σ, PassesAt CX X σ (E σ))
    (he : PE X (.Subscript a b p2) te) (ha : PA X (e :: es) tca)
    (hst : starEach (e :: es) X.env = (false, eval e X.env) :: starEach es X.env) (hpl : (backTo pos (starEach es X.env)).any (·.1) = false) : PE X (.Call (.Subscript a b p2) (e :: es) [] pos) (tCallFX fs sp E te tca) := by
  constructor
  intro pins z σ H Q I h
  rw [eval_callSub]
  refine wpAny_bind (thn (he.run pins z σ H _ I h) ?_)
  rintro u z1 ⟨v, H1, I1, r1, f, hf, rfl, q1⟩
  cases r1
  obtain ⟨fd, ps, F, hk, hb⟩ := hF f hf
  exact PySem.W.callWith_K (h₀ := X.base) I.ok.mod.kin hk (thn (ha.run pos pins z1 σ _ _ I1 q1) fun us z2 ⟨vs, H2, I2, r, q⟩ => ⟨I2.kIn, run_fnGS F hr hb .nil (hx σ) I2 r q⟩) hst hpl
theorem de_callFXI {P : Program} {w : World} {K : PySem.W.Frag} {mg : Str → Option Value} {base : Heap} {fs : List Addr} {S : Addr → DSx} (tk : Takes X XW.w) (kn : KnFX P w K mg base k fs S) (hr : RoomG j X.A) (hk : k ≤ j) (he : DE X (.Subscript a b p2) te ue) (ha : DCa X (e :: es) tca uca)
    (hX : X.prog = P ∧ X.w = w ∧ X.K = K ∧ X.mg = mg ∧ X.base = base := by exact ⟨rfl, rfl, rfl, rfl, rfl⟩)
    (hst : starEach (e :: es) X.env = (false, eval e X.env) :: starEach es X.env := by rfl) (hpl : (backTo pos (starEach es X.env)).any (·.1) = false := by rfl) :
    DE X (.Call (.Subscript a b p2) (e :: es) [] pos) (tCallFX fs (fun f => spX K (S f)) (WE XW.w) te tca) (dCallFX fs S ue uca) := by
  obtain ⟨rfl, rfl, rfl, rfl, rfl⟩ := hX
  exact ⟨pe_callFX kn.ex (hr.mono hk) (fun σ => passAt tk σ) he.pe ha.pa hst hpl, re_callFX he.re ha.ra⟩
end
/-! ### one's own list is looked at, and stays one's own -/
section
variable [XW] {K : PySem.W.Frag} {ta : TE} {ua : DTE}
def dIsiV (i : Nat) (T : String) : DTE := fun δ R => (slL δ[i]?).isSome = true ∧ match kitB "list" T with
  | some b => R (.bool b) δ
  | none => False
theorem re_isiV {i : Nat} {T : String} : RE K (tCB (rIsi K) (tCons (tVar i) (tCons (tC (.ty T)) tNil))) (dIsiV i T) := by
  intro c σ G H δ Q R E h k
  obtain ⟨h0, h1⟩ := h
  obtain ⟨ds, hs⟩ := Option.isSome_iff_exists.mp h0
  obtain ⟨p, xs, hσ, hp, rr⟩ := slL_ok E hs
  cases hb : kitB "list" T with
  | none =>
    rw [hb] at h1
    exact h1.elim
  | some b =>
    rw [hb] at h1
    refine ⟨.ref p, hσ, ?_⟩
    exact ⟨.ref p, .ty T, _, _, b, rfl, .ty T, .base (.lst hp), kit_ty hb, k (.bool b) δ (.bl b) G H h1 E (Ex.refl _) (.bl b)⟩
def dNeV (i : Nat) (ua : DTE) : DTE := fun δ R => (slL δ[i]?).isSome = true ∧ ua δ fun d δ1 => ∃ ds, slL δ1[i]? = some ds ∧ SeqAt.shaped (.list ds) = true ∧ SeqAt.shaped d = true ∧ R (.bool (!PyData.eqv (.list ds) d)) δ1
theorem re_neV {i : Nat} (ha : RE K ta ua) : RE K (tOp (rNeD K) (tVar i) ta) (dNeV i ua) := by
  intro c σ G H δ Q R E h k
  obtain ⟨h0, h1⟩ := h
  obtain ⟨ds0, hs0⟩ := Option.isSome_iff_exists.mp h0
  obtain ⟨p, xs0, hσ, hp0, _⟩ := slL_ok E hs0
  refine ⟨.ref p, hσ, ?_⟩
  refine ha c σ G H δ _ _ E h1 fun d δ1 v G1 H1 h1 E1 e1 r1 => ?_
  obtain ⟨ds, hs, s1, s2, hR⟩ := h1
  obtain ⟨p', xs, hσ', hp, rr⟩ := slL_ok E1 hs
  rw [hσ] at hσ'
  have ep := V.ref.inj (Option.some.inj (Option.some.inj hσ'))
  subst ep
  refine ⟨.list ds, d, .lst (.inl (.inl hp)) ((rr.up E1.ex).dp _ _ ?_), (r1.up E1.ex).dp _ _ (SeqAt.canLay_of_shaped s2), s1, s2, k _ δ1 _ G1 H1 hR E1 e1 (.bl _)⟩
  have z := SeqAt.canLay_of_shaped s1
  simpa [PyData.canLay0] using z
end
section
variable [XW] {X : Cx} {b : Expr} {tb : TE} {ub : DTE} {p p2 p3 pos : Pos}
theorem de_isiV (i : Nat) {T : String} {Tn : Str} {y : Str} (hm : X.mg "isinstance" = none) (hT : X.mg Tn = none) (hv : bootBuiltins Tn = some (.type T)) (hN : X.N[i]? = some y := by rfl) (hy : Vis X.env.scope y := by first | exact Or.inl rfl | exact Or.inr (Or.inl rfl) | exact Or.inr (Or.inr rfl)) (hdy : (y == ("__debug__" : Str)) = false := by decide)
    (hcd : (y == ("__classdict__" : Str)) = false := by decide) (hg : Gl X "isinstance" := by rfl) (hgT : Gl X Tn := by rfl) (hb : bootBuiltins "isinstance" = some (.builtin "isinstance") := by decide +kernel)
    (hn : Tn ≠ "__name__" := by decide) (hd : (Tn == ("__debug__" : Str)) = false := by decide)
    (hs : starEach [.Name y p3, .Name Tn p2] X.env = (false, eval (.Name y p3) X.env) :: starEach [.Name Tn p2] X.env := by rfl) (hs2 : starEach [.Name Tn p2] X.env = (false, eval (.Name Tn p2) X.env) :: starEach [] X.env := by rfl) (hpl : (backTo pos (starEach [.Name Tn p2] X.env)).any (·.1) = false := by rfl) :
    DE X (.Call (.Name "isinstance" p) [.Name y p3, .Name Tn p2] [] pos) (tCB (rIsi X.K) (tCons (tVar i) (tCons (tC (.ty T)) tNil))) (dIsiV i T) :=
  ⟨pe_callB call_isi hg hm hb (pa_cons (pe_var hN hy hdy hcd) (pa_cons (pe_bltn (v := .ty T) hgT hT hv rfl hn hd) pa_nil hs2) hs) (by decide) (by decide) hs hpl, re_isiV⟩
theorem dt_neV (i : Nat) {x : Str} (hu : X.A.units + 65 < cLine) (hb : DE X b tb ub) (hN : X.N[i]? = some x := by rfl) (hv : Vis X.env.scope x := by first | exact Or.inl rfl | exact Or.inr (Or.inl rfl) | exact Or.inr (Or.inr rfl)) (hd : (x == ("__debug__" : Str)) = false := by decide)
    (hcd : (x == ("__classdict__" : Str)) = false := by decide) (hm : behindInMarks .NotEq b = false := by rfl) : DT X (.Compare (.Name x p) [.NotEq] [b] pos) (tTest (tOp (rNeD X.K) (tVar i) tb)) (dTest (dNeV i ub)) :=
  ⟨pt_cmpR (op_neD (by omega)) (pe_var hN hv hd hcd) hb.pe hm, rt_test (re_neV hb.re)⟩
end
end TL

set_option Elab.async false
set_option linter.all false
set_option maxRecDepth 100000
set_option maxHeartbeats 4000000
/-! TBp: enumerate of a text. -/
namespace TL
open PySem PySem.Spec L2
/-- the signs of x, each with its number -/
def ItnS (x : Str) : It :=
  ⟨fun i _ => i < x.cps.size, fun i H v H' => ∃ T c, v = .ref T ∧ H T = none ∧ H' = upd H T (.tup [.int (i : Nat), .str ⟨#[c]⟩]) ∧ x.cps[i]? = some c, fun i _ => i = x.cps.size⟩
theorem turn_enumS {P : Program} {w : World} {K : PySem.W.Frag} {elts : List Expr} {kk : Nat} {tpos : Pos} {e it : Addr} {x : Str} {t : Tok} (ne : e ≠ it) :
    Turn P w K (.Tuple elts kk tpos) (ItnS x) [e, it] e (fun i h => (∃ old, IsEnum h e it ((i : Nat) : Int) old) ∧ h.IsStrIter it (strIterType x) x t i) where
  mem := by simp
  obj := fun i h st b hb => by
    obtain ⟨⟨old, he⟩, ⟨o, e1, c1, d1⟩⟩ := st
    rcases List.mem_cons.mp hb with q | q
    · rw [q]; exact ⟨_, he, fun v q => nomatch q⟩
    · rw [List.mem_singleton.mp q]; exact ⟨o, e1, fun v q => by rw [d1] at q; cases q⟩
  keep := fun i h h' st k => by
    obtain ⟨⟨old, he⟩, ⟨o, e1, r1⟩⟩ := st
    exact ⟨⟨old, k e (by simp) _ he⟩, ⟨o, k it (by simp) o e1, r1⟩⟩
  item := by
    intro X hP hw hK hc i pins s σ H E I hf st hg
    subst hP hw hK
    obtain ⟨⟨old, he⟩, hi⟩ := st
    have quiet : X.A.in1.handled = none := I.ok.hd hc
    have D := Draws.text (prog := X.prog) (w := X.w) (A := X.A.in1) quiet it x t
    have hel : e < s.heap.objs.size := Heap.lt_size he
    have hil : it < s.heap.objs.size := by obtain ⟨_, q, _⟩ := hi; exact Heap.lt_size q
    refine wpAny_pyNext_enum_itemD D he hi hg ne (by simpa using ne) fun u h' tk hu ho hi' hT hsz hk => ?_
    obtain ⟨c, u1, hc1, rfl⟩ := hu
    refine ⟨_, rfl, wpAny_letOwnedTupleGo_enum (s := { s with heap := h', toks := tk + 1 }) ho fun h'' he' sb => ?_⟩
    have hT2 : h''.get? s.heap.objs.size = some { cls := .type "tuple", data := .seq #[.int i tk, .str ⟨#[c]⟩ u1] } := (sb.2 _ (Nat.ne_of_gt hel)).trans hT
    have new : ObjOk X.prog X.w (upd H s.heap.objs.size (.tup [.int (i : Nat), .str ⟨#[c]⟩])) h'' s.heap.objs.size (.tup [.int (i : Nat), .str ⟨#[c]⟩]) :=
      ⟨by show 2 ≤ sizeLine; decide, [.int i tk, .str ⟨#[c]⟩ u1], .cons ⟨_, rfl⟩ (.cons ⟨u1, rfl⟩ .nil), ⟨_, hT2, rfl, _, rfl⟩⟩
    have I1 : Inv X pins σ (upd H s.heap.objs.size (.tup [.int (i : Nat), .str ⟨#[c]⟩])) { s with heap := h'', toks := tk + 1 } :=
      I.turnedNew (t' := tk + 1) (ch := [e, it]) (fun b o hb q => (sb.2 b (fun q' => hb (by simp [q']))).trans (hk b o (fun q' => hb (by simp [q'])) (fun q' => hb (by simp [q'])) q)) hf (Nat.le_refl _) new
    refine ⟨.ref s.heap.objs.size, _, I1, rfl, ⟨_, c, rfl, I.hok.fresh (Nat.le_refl _), rfl, hc1⟩, ⟨⟨.str ⟨#[c]⟩ u1, ?_⟩, ?_⟩, fun b hb => ?_⟩
    · have e1 : ((i + 1 : Nat) : Int) = (i : Int) + 1 := by omega
      rw [e1]; exact he'
    · obtain ⟨o, e1, r⟩ := hi'; exact ⟨o, (sb.2 _ ne.symm).trans e1, r⟩
    · have hlt : b < s.heap.objs.size := by
        rcases List.mem_cons.mp hb with q | q
        · rw [q]; exact hel
        · rw [List.mem_singleton.mp q]; exact hil
      rw [upd_ne (Nat.ne_of_lt hlt)]
      exact (hf b hb).1
  done := by
    intro X hP hw hK hc i pins s σ H E I hf st hg
    subst hP hw hK
    obtain ⟨⟨old, he⟩, hi⟩ := st
    have quiet : X.A.in1.handled = none := I.ok.hd hc
    have D := Draws.text (prog := X.prog) (w := X.w) (A := X.A.in1) quiet it x t
    have hg : i = x.cps.size := hg
    subst hg
    exact wpAny_pyNext_enum_endD D he hi fun h' eb => ⟨rfl, I.turnedL (t' := s.toks) (ch := [e, it]) (fun b o hb q => eb b o (fun q' => hb (by simp [q'])) q) hf⟩
  self := fun A i s Q E st h => let ⟨⟨_, he⟩, _⟩ := st; wpAny_pyIter_enum he h
def iEnumS (ta : TA) : L2.TI := fun σ H R => ta σ H fun vs H1 => ∃ x, vs = [.str x] ∧ R (ItnS x) H1
theorem pi_enumS {X : Cx} {a : Expr} {ta : TA} {p pos tpos : Pos} {elts : List Expr} {kk : Nat} (hg : Gl X "enumerate") (hm : X.mg "enumerate" = none) (ha : PA X [a] ta) (hs : starEach [a] X.env = [(false, eval a X.env)] := by rfl) :
    PI X (.Tuple elts kk tpos) (.Call (.Name "enumerate" p) [a] [] pos) (iEnumS ta) := by
  constructor
  intro pins s σ H R I h
  refine PyProof.Rows.Call_ (ld_blt I hg hm PyProof.Rows.boot_enumerate (PyProof.Rows.callWith_type1 (thn (ha.run pos pins s σ H _ I h) ?_) hs rfl))
  rintro us s1 ⟨vs, H1, I1, r1, x, rfl, q⟩
  cases r1 with
  | cons r rr =>
    cases rr
    obtain ⟨t, rfl⟩ := r
    refine call_enumerate_str fun h' he hit hsz hk => wpAny_pyIter_enum he ?_
    have I2 : Inv X pins σ H1 { s1 with heap := h' } := I1.kept (t' := s1.toks) hk
    refine ⟨s1.heap.objs.size + 1, [s1.heap.objs.size + 1, s1.heap.objs.size], _, _, H1, rfl, I2, turn_enumS (x := x) (t := t) (Nat.succ_ne_self _), ⟨⟨.none, he⟩, hit⟩, fun b hb => ?_, q⟩
    have hle : s1.heap.objs.size ≤ b := by
      rcases List.mem_cons.mp hb with z | z
      · rw [z]; exact Nat.le_add_right _ _
      · rw [List.mem_singleton.mp z]; exact Nat.le_refl _
    exact I1.fpOk hle (I1.hok.fresh hle)
section
variable [XW]
/-- the signs of a text as data -/
def signsD (x : Str) : List PyData := x.cps.toList.map fun c => PyData.str ⟨#[c]⟩
def diEnumS (ua : DTE) : DTI := fun δ R => ua δ fun d δ1 => match d with
  | .str x => R (enumD (signsD x)) δ1
  | _ => False
theorem ri_enumS {K : PySem.W.Frag} {ta : TE} {ua : DTE} (ha : RE K ta ua) : RI K (iEnumS (tCons ta tNil)) (diEnumS ua) := by
  intro c σ G H δ Q R E h k
  refine ha c σ G H δ _ _ E h fun d δ1 v G1 H1 h1 E1 e1 r1 => ?_
  cases d <;> first
    | exact False.elim h1
    | skip
  rename_i x
  have lx : (signsD x).length = x.cps.size := by
    unfold signsD
    rw [List.length_map, Array.length_toList]
  refine ⟨x, by rw [r1.str_of], k _ δ1 _ G1 H1 h1 E1 e1 ⟨fun G2 H2 a1 a2 => by rw [enumD_len, lx]; rfl, fun G2 H2 i d a1 a2 hd => ?_⟩⟩
  obtain ⟨y, hy, rfl⟩ := enumD_get hd
  unfold signsD at hy
  rw [List.getElem?_map] at hy
  cases q : x.cps.toList[i]? with
  | none => rw [q] at hy; cases hy
  | some ch =>
    rw [q] at hy
    cases hy
    have lt := (List.getElem?_eq_some_iff.mp q).1
    rw [Array.length_toList] at lt
    rw [Array.getElem?_toList] at q
    refine ⟨lt, fun z H3 hz => ?_⟩
    obtain ⟨T, c, rfl, hT, rfl, hc⟩ := hz
    rw [q] at hc
    cases hc
    exact ⟨_, Al.new (o := .tup [.int (i : Nat), .str ⟨#[ch]⟩]) a2 hT, .tup upd_same (.cons (.int _) (.cons (.str _) .nil))⟩
theorem di_enumS {X : Cx} {a : Expr} {ta : TE} {ua : DTE} {p pos tpos : Pos} {elts : List Expr} {kk : Nat} (hm : X.mg "enumerate" = none) (ha : DE X a ta ua) (hg : Gl X "enumerate" := by rfl) (hs : starEach [a] X.env = [(false, eval a X.env)] := by rfl) :
    DI X (.Tuple elts kk tpos) (.Call (.Name "enumerate" p) [a] [] pos) (iEnumS (tCons ta tNil)) (diEnumS ua) := ⟨pi_enumS hg hm (pa_cons ha.pe pa_nil hs) hs, ri_enumS ha.re⟩
end
/-- xs.append(e) of one's own list, where the context is bound -/
theorem ds_appI [XW] {X : Cx} {K : PySem.W.Frag} (i : Nat) {x : Str} {e : Expr} {te : TE} {ue : DTE} {p pos apos cpos : Pos} (he : DE X e te ue) (hK : X.K = K := by rfl) (hN : X.N[i]? = some x := by rfl) (hv : Vis X.env.scope x := by first | exact Or.inl rfl | exact Or.inr (Or.inl rfl) | exact Or.inr (Or.inr rfl)) (hd : (x == ("__debug__" : Str)) = false := by decide)
    (hcd : (x == ("__classdict__" : Str)) = false := by decide)
    (hb : attributeBase (.Name x p) "append" X.env (eval (.Name x p) X.env) = eval (.Name x p) X.env := by rfl)
    (hfew : ((backTo cpos (starEach [e] X.env)).all (fun x => !x.1) && (backToKw cpos (keywordEach [] X.env)).all (fun x => x.1.isSome)
      && decide ([e].length + ([] : List Keyword).length + (if ([] : List Keyword).isEmpty then 0 else 1) < 30)) = true := by rfl)
    (hline : (apos.endLine == cpos.line) = true := by rfl) (hst : starEach [e] X.env = (false, eval e X.env) :: starEach [] X.env := by rfl) (hpl : (backTo cpos (starEach [] X.env)).any (·.1) = false := by rfl)
    (hs : swapsWith (.Call (.Attribute (.Name x p) "append" apos) [e] [] cpos) none pos.line X.env = pure false := by rfl) :
    DS X (.Expr (.Call (.Attribute (.Name x p) "append" apos) [e] [] cpos) pos) (tDrop (tBM K "list" rAppend (tVar i) (tCons te tNil))) (dApp i ue) := by
  subst hK
  exact ds_app i he (pe_bm PySem.F.plainAttrs_list PySem.F.slot_list_append PySem.F.type_list_append mt_append (pe_var hN hv hd hcd) (pa_cons he.pe pa_nil hst) hb hfew hline hst hpl) hs
theorem de_ixTI [XW] {X : Cx} {K : PySem.W.Frag} {a b : Expr} {ta tb : TE} {ua ub : DTE} {pos : Pos} (ha : DE X a ta ua) (hb : DE X b tb ub) (hK : X.K = K := by rfl) (hs : PlainIx b := by exact fun _ _ => rfl) : DE X (.Subscript a b pos) (tOp (rIxT K) ta tb) (dOp dIxT ua ub) := by
  subst hK
  exact de_ix ix_tup ro_ixT ha hb hs
end TL

set_option Elab.async false
set_option linter.all false
set_option maxRecDepth 100000
set_option maxHeartbeats 4000000
/-! K30e: the small defs -/
namespace K30
open PySem PySem.Spec L2 TL
def top (i : Nat) : Stmt := PySem.Challenge.pw_triesgrow_k30_rooms_as_texts.main.body.getD i (.Pass ⟨0, 0, 0, 0⟩)
abbrev s_is_whole : Stmt := top 5
theorem sc_is_whole : FnScope ["thing"] ["thing"] (defScope s_is_whole) := ⟨rfl, rfl, rfl, by decide +kernel, rfl, by decide +kernel, by decide +kernel⟩
abbrev s_is_sign : Stmt := top 6
theorem sc_is_sign : FnScope ["thing"] ["thing"] (defScope s_is_sign) := ⟨rfl, rfl, rfl, by decide +kernel, rfl, by decide +kernel, by decide +kernel⟩
abbrev s_is_room : Stmt := top 7
theorem sc_is_room : FnScope ["thing", "many"] ["thing", "many"] (defScope s_is_room) := ⟨rfl, rfl, rfl, by decide +kernel, rfl, by decide +kernel, by decide +kernel⟩
abbrev s_look_at_room : Stmt := top 8
theorem sc_look_at_room : FnScope ["thing", "many"] ["thing", "many"] (defScope s_look_at_room) := ⟨rfl, rfl, rfl, by decide +kernel, rfl, by decide +kernel, by decide +kernel⟩
abbrev s_law_hand : Stmt := top 23
theorem sc_law_hand : FnScope ["_law_script", "_law_k", "_law_cell", "_law_seed"] ["_law_script", "_law_k"] (defScope s_law_hand) := ⟨rfl, rfl, rfl, by decide +kernel, rfl, by decide +kernel, by decide +kernel⟩
abbrev s_law_draw : Stmt := top 24
theorem sc_law_draw : FnScope ["_law_hand_here", "_law_size", "_law_found"] ["_law_hand_here", "_law_size"] (defScope s_law_draw) := ⟨rfl, rfl, rfl, by decide +kernel, rfl, by decide +kernel, by decide +kernel⟩
/-- things that are no dicts and no errors -/
def plainD : PyData → Bool
  | .dict _ => false
  | _ => true
def isInt : PyData → Bool
  | .int _ => true
  | _ => false
theorem kb_ni : kitB "NoneType" "int" = some false := by decide +kernel
theorem kb_bi : kitB "bool" "int" = some true := by decide +kernel
theorem kb_ii : kitB "int" "int" = some true := by decide +kernel
theorem kb_si : kitB "str" "int" = some false := by decide +kernel
theorem kb_li : kitB "list" "int" = some false := by decide +kernel
theorem kb_ti : kitB "tuple" "int" = some false := by decide +kernel
theorem kb_ib : kitB "int" "bool" = some false := by decide +kernel
def S_whole : DSp := fun as R => ∃ t, as = [.dat t] ∧ plainD t = true ∧ R (.bool (isInt t)) []
theorem mono_whole : MonoS S_whole := fun as R R' h ⟨t, a, b, k⟩ => ⟨t, a, b, h _ _ k⟩
def small (c : Nat) : Bool := decide (97 ≤ c) && decide (c ≤ 122)
def S_is_sign : DSp := fun as R => ∃ c, as = [.dat (.str ⟨#[c]⟩)] ∧ R (.bool (small c)) []
/-- a room of n -/
def inR (n : Int) : PyData → Bool
  | .int i => decide (0 ≤ i) && decide (i < n)
  | _ => false
theorem mono_is_sign : MonoS S_is_sign := fun as R R' h ⟨p, a, k⟩ => ⟨p, a, h _ _ k⟩
def S_room : DSp := fun as R => ∃ (t : PyData) (n : Int), as = [.dat t, .dat (.int n)] ∧ plainD t = true ∧ R (.bool (inR n t)) []
theorem mono_room : MonoS S_room := fun as R R' h ⟨i, n, a, b, k⟩ => ⟨i, n, a, b, h _ _ k⟩
def S_lroom (cR : Addr) : DSx := fun as R Xr => ∃ (t : PyData) (n : Int), as = [.dat t, .dat (.int n)] ∧ plainD t = true ∧ (inR n t = true → R .none []) ∧ (inR n t = false → Xr (errD cR ["room"] [t]) [])
abbrev MonoX (S : DSx) : Prop := ∀ as R R' X X', (∀ d o, R d o → R' d o) → (∀ d o, X d o → X' d o) → S as R X → S as R' X'
theorem monox_lroom (cR : Addr) : MonoX (S_lroom cR) := fun as R R' X X' h hx ⟨t, n, a, b, k1, k2⟩ => ⟨t, n, a, b, fun e => h _ _ (k1 e), fun e => hx _ _ (k2 e)⟩
theorem call_x [XW] {S : DSx} {ua : DCA} {δ δ' : List Sl} {R : DQ} (ds : List PyData) (hu : ∀ Q : List CA → List Sl → Prop, Q (ds.map CA.d) δ' → ua δ Q) (mono : MonoX S)
    (k : S (ds.map Sl.dat) (fun d outs => outs = [] ∧ R d δ') fun e outs => outs = [] ∧ XW.xr e δ') : dCallX S ua δ R := by
  refine hu _ ?_
  rw [muts_d, asOf_d]
  refine ⟨List.nodup_nil, mono _ _ _ _ _ (fun d o h => ?_) (fun d o h => ?_) k⟩
  · obtain ⟨rfl, h⟩ := h
    exact ⟨rfl, h⟩
  · obtain ⟨rfl, h⟩ := h
    exact ⟨rfl, h⟩
theorem call_x1 {xw : XW} {S : DSx} {ua : DCA} {δ δ' : List Sl} {R : DQ} (ds : List PyData) (hu : ∀ Q : List CA → List Sl → Prop, Q (ds.map CA.d) δ' → ua δ Q) (mono : MonoX S)
    (k : S (ds.map Sl.dat) (fun d outs => outs = [] ∧ R d δ') fun e outs => outs = [] ∧ xw.xr e δ') : @dCallX xw S ua δ R := @call_x xw S ua δ δ' R ds hu mono k
theorem sq_if {c : DTT} {a rest : DTS} {E : DEnds} {δ : List Sl} (h : c δ fun b δ1 => if b = true then a { E with nx := rest E } δ1 else rest E δ1) : dSeq (dIfS c a dNext) rest E δ := h
theorem sq_asg {u : DTE} {g : DTG} {rest : DTS} {E : DEnds} {δ : List Sl} (h : u δ fun d δ1 => g d δ1 (rest E)) : dSeq (dAsg u g) rest E δ := h
theorem sq_drop {u : DTE} {rest : DTS} {E : DEnds} {δ : List Sl} (h : u δ fun _ δ1 => rest E δ1) : dSeq (dDrop u) rest E δ := h
section
variable {P : Program} {w : World} {K : PySem.W.Frag} {mg : Str → Option Value} {base : Heap}
variable (m_len : mg "len" = none) (m_isinstance : mg "isinstance" = none) (m_str : mg "str" = none) (m_bool : mg "bool" = none) (m_range : mg "range" = none) (m_int : mg "int" = none) (m_max : mg "max" = none) (m_min : mg "min" = none) (m_set : mg "set" = none) (m_tuple : mg "tuple" = none) (m_list : mg "list" = none) (m_enumerate : mg "enumerate" = none) (m_all : mg "all" = none) (m_sorted : mg "sorted" = none) (m_repr : mg "repr" = none) (m_IndexError : mg "IndexError" = none) (m_ValueError : mg "ValueError" = none)
include m_len m_isinstance m_str m_bool m_range m_int m_max m_min m_set m_tuple m_list m_enumerate m_all m_sorted m_repr m_IndexError m_ValueError
theorem ok_is_whole {f : Addr} {fd : FuncData} (F : Fun K "is_whole" "is_whole" s_is_whole f fd)  : FnOkG P w K mg base CX0 1 f fd ["thing"] (spD K S_whole) := by
  refine fnD F sc_is_whole (fun as R h => by obtain ⟨_, rfl, _⟩ := h; rfl) fun cdv A outer s H E hr => ?_
  have nd := sc_is_whole.nd
  have hu := hr.units
  have hu1 := hr.units1
  refine ⟨_, _, (dss_one (ds_ret (de_and (de_isi (T := "int") m_isinstance m_int (by decide +kernel) (de_var 0)) (de_one (de_not (de_isi (T := "bool") m_isinstance m_bool (by decide +kernel) (de_var 0))))))), ?_⟩
  rintro as R ⟨t, rfl, hp, hR⟩
  show dAndV (dIsi "int" (dVar 0)) (dNotV (dIsi "bool" (dVar 0))) [.dat t] _
  cases t <;> first
    | (cases hp; done)
    | (simp only [dAndV, dNotV, dIsi, dVar, tyD, List.getElem?_cons_zero, kb_ni, kb_bi, kb_ii, kb_si, kb_li, kb_ti, kb_ib, kb_bb, Bool.false_eq_true, if_false, if_true, ↓reduceIte, Bool.not_true, Bool.not_false]; exact ⟨[], hR, outs0⟩)
theorem ok_is_sign {f : Addr} {fd : FuncData} (F : Fun K "is_sign" "is_sign" s_is_sign f fd)  : FnOkG P w K mg base CX0 1 f fd ["thing"] (spD K S_is_sign) := by
  refine fnD F sc_is_sign (fun as R h => by obtain ⟨_, rfl, _⟩ := h; rfl) fun cdv A outer s H E hr => ?_
  have nd := sc_is_sign.nd
  have hu := hr.units
  have hu1 := hr.units1
  refine ⟨_, _, (dss_one (ds_ret (de_and (de_isi (T := "str") m_isinstance m_str (by decide +kernel) (de_var 0)) (de_and (de_cmp (op_eqD hu) ro_eq (nomark _) (de_len (ps := default) m_len (de_var 0)) de_int) (de_one (de_chain op_le_str ro_S op_le_str ro_S de_str (de_var 0) de_str)))))), ?_⟩
  rintro as R ⟨c, rfl, hR⟩
  simp [dRet, dRetNew, dAndV, dIsi, dVar, dOp, dEq, dNe, dLen, dC, dChain, dS, dI, dIC, dB, dIxV, slL, dSlScr, dCat, dLst, dCons, dNil, dPart, dNoPart, dIxL, dIxS, dAsg, dgName, dSeq, dIfS, dSetI, dTest, dInt1, cS, cD, cNil, dNext, tyD, kb_ss, kb_bb, sh_int, sh_bool, ev_ii, ev_bb, endsOf, endsNew, dAnd, dOr, dNot, cps_a, cps_z, lt_one', le_one', cps_one, at0, at1, ix20, ix21]
  refine ⟨nat_le_size (by show 1 ≤ 16777216; decide), ?_⟩
  have e1 : ((Str.mk #[c]).length : Int) = 1 := rfl
  rw [if_pos e1]
  unfold small at hR
  by_cases h1 : 97 ≤ c
  · rw [if_pos h1]
    rw [decide_eq_true h1, Bool.true_and] at hR
    have e2 : (!decide (122 < c)) = decide (c ≤ 122) := by
      by_cases h2 : c ≤ 122
      · rw [decide_eq_true h2, decide_eq_false (by omega)]
        rfl
      · rw [decide_eq_false h2, decide_eq_true (by omega)]
        rfl
    rw [e2]
    exact ⟨[], hR, outs0⟩
  · rw [if_neg h1]
    rw [decide_eq_false h1, Bool.false_and] at hR
    exact ⟨[], hR, outs0⟩
theorem ok_is_room {f : Addr} {fd : FuncData} (F : Fun K "is_room" "is_room" s_is_room f fd) (k_is_whole : Kn P w K mg base 1 "is_whole" S_whole) : FnOkG P w K mg base CX0 2 f fd ["thing", "many"] (spD K S_room) := by
  refine fnD F sc_is_room (fun as R h => by obtain ⟨_, _, rfl, _⟩ := h; rfl) fun cdv A outer s H E hr => ?_
  have nd := sc_is_room.nd
  have hu := hr.units
  have hu1 := hr.units1
  refine ⟨_, _, (dss_one (ds_ret (de_and (de_call k_is_whole hr (by omega) (dca_d (de_var 0) dca_nil)) (de_one (de_chain op_le ro_B op_lt ro_B de_int (de_var 0) (de_var 1)))))), ?_⟩
  rintro as R ⟨t, n, rfl, hp, hR⟩
  show dAndV (dCall S_whole (cD (dVar 0) cNil)) (dChain (dB _) (dB _) (dC (.int 0)) (dVar 0) (dVar 1)) [.dat t, .dat (.int n)] _
  refine call_pure2 [t] (fun Q z => z) mono_whole ⟨t, rfl, hp, rfl, ?_⟩
  cases t with
  | int i =>
    simp only [isInt, dChain, dC, dVar, dB, List.getElem?_cons_zero, List.getElem?_cons_succ, if_true]
    have hR : R (.bool (decide (0 ≤ i) && decide (i < n))) [] := hR
    by_cases a : (0 : Int) ≤ i
    · simp only [a, decide_true, if_true, Bool.true_and] at hR ⊢
      exact ⟨[], hR, outs0⟩
    · simp only [a, decide_false, Bool.false_eq_true, if_false, Bool.false_and] at hR ⊢
      exact ⟨[], hR, outs0⟩
  | dict ds => cases hp
  | none => exact ⟨[], hR, outs0⟩
  | bool b => exact ⟨[], hR, outs0⟩
  | str z => exact ⟨[], hR, outs0⟩
  | list ds => exact ⟨[], hR, outs0⟩
  | tuple ds => exact ⟨[], hR, outs0⟩
theorem ok_look_at_room {f : Addr} {fd : FuncData} (F : FunA K "look_at_room" "look_at_room" s_look_at_room f fd) {cR : Addr} (k_is_room : Kn P w K mg base 2 "is_room" S_room) (kn_NoRoom : KnE P w K mg base "NoRoom" cR ["room"]) : FnOkG P w K mg base (L2.CX P w) 4 f fd ["thing", "many"] (spX K (S_lroom cR)) := by
  refine fnXA F sc_look_at_room (fun as R Xr h => by obtain ⟨_, _, rfl, _⟩ := h; rfl) fun cdv A outer s H E hr xw tk => ?_
  have nd := sc_look_at_room.nd
  have hu := hr.units
  have hu1 := hr.units1
  refine ⟨_, _, (dss_one (ds_if (dt_not (dt_val (de_call k_is_room hr (by omega) (dca_d (de_var 0) (dca_d (de_var 1) dca_nil))))) (dss_one (ds_raise rfl tk kn_NoRoom hr (by omega) (da_cons (de_var 0) da_nil))) dss_nil)), ?_⟩
  rintro as R Xr ⟨t, n, rfl, hp, h1, h2⟩ hx
  show dIfS (dNot (dTest (dCall S_room (cD (dVar 0) (cD (dVar 1) cNil))))) (dRaise cR ["room"] (dCons (dVar 0) dNil)) dNext _ [.dat t, .dat (.int n)]
  simp only [dIfS, dNot, dTest]
  refine call_pure2 [t, .int n] (fun Q z => z) mono_room ⟨t, n, rfl, hp, rfl, ?_⟩
  cases e : inR n t with
  | true =>
    simp only [Bool.not_true, Bool.false_eq_true, if_false]
    exact ⟨[], h1 e, outs0⟩
  | false =>
    simp only [Bool.not_false, if_true]
    refine ⟨rfl, by decide, ?_⟩
    rw [hx]
    exact ⟨[], h2 e, outs0⟩
theorem ok_law_hand {f : Addr} {fd : FuncData} (F : Fun K "_law_hand" "_law_hand" s_law_hand f fd)  : FnOkG P w K mg base CX0 1 f fd ["_law_script", "_law_k"] (spN K S_hand) := by
  refine fnN F sc_law_hand (fun as R h => by obtain ⟨_, _, rfl, _⟩ := h; rfl) fun cdv A outer s H E hr => ?_
  have nd := sc_law_hand.nd
  have hu := hr.units
  have hu1 := hr.units1
  refine ⟨_, _, (dss_cons (ds_set 2 nd (de_ix ix_list ro_ixL (de_op op_cat ro_cat (de_slScr 0 (do_some (de_var 1)) (do_some (de_op op_add ro_I (de_var 1) de_int))) (de_lst (da_cons de_int da_nil))) de_int))
    (dss_cons (ds_set 3 nd (de_op op_mod ro_IC (de_op op_mul ro_IC (de_op op_add ro_I (de_op op_add ro_I (de_op op_mod ro_IC (de_var 2) de_int) (de_op op_mul ro_IC de_int (de_var 1))) de_int) de_int) de_int))
    (dss_one (ds_retNew (da_cons (de_op op_mul ro_IC (de_int1 m_int (de_cmp op_ge ro_B (nomark _) (de_var 2) (de_op op_pow ro_IC de_int de_int))) (de_var 2)) (da_cons (de_var 3) da_nil)))))), ?_⟩
  rintro as R ⟨ns, k, rfl, hl, hk, hR⟩
  obtain ⟨z, hz⟩ := cell_at ns (some k) (some (k + 1))
  obtain ⟨ms, he, hm⟩ := cutP_map ns (some k) (some (k + 1))
  have hlen : (cutP (List.map PyData.int ns) (some k) (some (k + 1))).length ≤ 63 := by
    rw [he, List.length_map]
    omega
  simp [dRet, dRetNew, dAndV, dIsi, dVar, dOp, dEq, dNe, dLen, dC, dChain, dS, dI, dIC, dB, dIxV, slL, dSlScr, dCat, dLst, dCons, dNil, dPart, dNoPart, dIxL, dIxS, dAsg, dgName, dSeq, dIfS, dSetI, dTest, dInt1, cS, cD, cNil, dNext, tyD, kb_ss, kb_bb, sh_int, sh_bool, ev_ii, ev_bb, endsOf, endsNew, dAnd, dOr, dNot, cps_a, cps_z, lt_one', le_one', cps_one, at0, at1, ix20, ix21, hz]
  refine ⟨nat_le_size (by decide), nat_le_size (by omega), .inl ⟨by decide, by decide⟩, .inr ⟨by decide, by decide⟩, ⟨by decide, by decide, by decide⟩, ?_, nat_le_size (by decide), [], ?_, outs0⟩
  · left
    split <;> exact ⟨by decide, by decide⟩
  · refine hR _ _ ?_ (Int.emod_nonneg _ (by decide)) (Int.lt_of_lt_of_le (Int.emod_lt_of_pos _ (by decide)) (by decide))
    split
    · rw [Int.one_mul]
      omega
    · rw [Int.zero_mul]
      exact Int.le_refl _
theorem ok_law_draw {f : Addr} {fd : FuncData} (F : Fun K "_law_draw" "_law_draw" s_law_draw f fd)  : FnOkG P w K mg base CX0 1 f fd ["_law_hand_here", "_law_size"] (spD K S_draw) := by
  refine fnD F sc_law_draw (fun as R h => by obtain ⟨_, _, _, rfl, _⟩ := h; rfl) fun cdv A outer s H E hr => ?_
  have nd := sc_law_draw.nd
  have hu := hr.units
  have hu1 := hr.units1
  refine ⟨_, _, (dss_cons (ds_if (dt_cmp op_gt ro_B (nomark _) (de_ixV 0 de_int) de_int) (dss_cons (ds_set 2 nd (de_op op_mod ro_IC (de_ixV 0 de_int) (de_var 1)))
    (dss_cons (ds_setI 0 (de_op op_fdiv ro_IC (de_ixV 0 de_int) (de_var 1)) de_int)
    (dss_one (ds_ret (de_var 2))))) dss_nil)
    (dss_cons (ds_setI 0 (de_op op_mod ro_IC (de_op op_add ro_I (de_op op_mul ro_IC (de_ixV 0 de_int) de_int) de_int) de_int) de_int)
    (dss_one (ds_ret (de_op op_mod ro_IC (de_op op_fdiv ro_IC (de_op op_mod ro_IC (de_op op_mul ro_IC (de_ixV 0 de_int) (de_ixV 0 de_int)) de_int) de_int) (de_var 1)))))), ?_⟩
  rintro as R ⟨x, y, n, rfl, hv, hn, hR⟩
  simp [dRet, dRetNew, dAndV, dIsi, dVar, dOp, dEq, dNe, dLen, dC, dChain, dS, dI, dIC, dB, dIxV, slL, dSlScr, dCat, dLst, dCons, dNil, dPart, dNoPart, dIxL, dIxS, dAsg, dgName, dSeq, dIfS, dSetI, dTest, dInt1, cS, cD, cNil, dNext, tyD, kb_ss, kb_bb, sh_int, sh_bool, ev_ii, ev_bb, endsOf, endsNew, dAnd, dOr, dNot, cps_a, cps_z, lt_one', le_one', cps_one, at0, at1, ix20, ix21]
  obtain ⟨h1, h2, h3⟩ := hv
  split
  · refine ⟨hn.1, ⟨hn.1, hn.2⟩, _, hR _ _ _ ⟨Int.emod_nonneg _ (by omega), Int.emod_lt_of_pos _ hn.1⟩ ⟨Int.ediv_nonneg h1 (by omega), h2, h3⟩, outs1 0 rfl⟩
  · have a1 := Int.emod_nonneg (y * 48271 + 11) (by decide : (2147483647 : Int) ≠ 0)
    have a2 := Int.emod_lt_of_pos (y * 48271 + 11) (by decide : (0 : Int) < 2147483647)
    refine ⟨.inr ⟨by decide, by decide⟩, .inl ⟨by omega, by omega⟩, ⟨by decide, by decide⟩, hn.1, _, hR _ _ _ ⟨Int.emod_nonneg _ (by omega), Int.emod_lt_of_pos _ hn.1⟩ ⟨h1, a1, by omega⟩, outs1 0 rfl⟩
end
end K30

set_option Elab.async false
set_option linter.all false
set_option maxRecDepth 100000
set_option maxHeartbeats 4000000
/-! K30f: machines looked at -/
namespace K30
open PySem PySem.Spec L2 TL
abbrev s_look_at : Stmt := top 12
theorem sc_look_at : FnScope ["thing", "many", "firsts", "lasts", "steps"] ["thing"] (defScope s_look_at) := ⟨rfl, rfl, rfl, by decide +kernel, rfl, by decide +kernel, by decide +kernel⟩
abbrev s_look_at_rooms : Stmt := top 13
theorem sc_look_at_rooms : FnScope ["rooms", "many", "part", "least", "at", "room"] ["rooms", "many", "part"] (defScope s_look_at_rooms) := ⟨rfl, rfl, rfl, by decide +kernel, rfl, by decide +kernel, by decide +kernel⟩
abbrev s_look_at_steps : Stmt := top 14
theorem sc_look_at_steps : FnScope ["steps", "many", "seen", "at", "step"] ["steps", "many"] (defScope s_look_at_steps) := ⟨rfl, rfl, rfl, by decide +kernel, rfl, by decide +kernel, by decide +kernel⟩
abbrev s_is_step : Stmt := top 15
theorem sc_is_step : FnScope ["thing", "many", "room", "sign", "other"] ["thing", "many"] (defScope s_is_step) := ⟨rfl, rfl, rfl, by decide +kernel, rfl, by decide +kernel, by decide +kernel⟩
theorem for_nth {g : DTG} {u : DTS} {E : DEnds} (ds : List PyData) (I : Nat → List Sl → Prop) (he : ∀ δ, I ds.length δ → E.nx δ)
    (hs : ∀ (n : Nat) (h : n < ds.length) δ, I n δ → ∀ M : List Sl → Prop, (∀ δ', I (n + 1) δ' → M δ') → g ds[n] δ fun δ1 => u { E with nx := M, ct := M, bk := E.nx } δ1) (δ : List Sl) (h0 : I 0 δ) : forW g u E ds δ := by
  have key : ∀ (r : List PyData) (n : Nat) (δ : List Sl), ds.drop n = r → n ≤ ds.length → I n δ → forW g u E r δ := by
    intro r
    induction r with
    | nil =>
      intro n δ e hn h
      have : n = ds.length := by
        have := congrArg List.length e
        rw [List.length_drop, List.length_nil] at this
        omega
      rw [this] at h
      exact he δ h
    | cons d r ih =>
      intro n δ e hn h
      have hlt : n < ds.length := by
        have := congrArg List.length e
        rw [List.length_drop, List.length_cons] at this
        omega
      rw [List.drop_eq_getElem_cons hlt] at e
      injection e with e1 e2
      subst e1
      exact hs n hlt δ h _ fun δ' h' => ih (n + 1) δ' e2 hlt h'
  exact key _ 0 δ (List.drop_zero) (Nat.zero_le _) h0
abbrev Sp3 := Nat × Nat × Nat
def stepK (s : Sp3) : List Key := [.inl (s.1 : Int), .inr ⟨#[s.2.1]⟩, .inl (s.2.2 : Int)]
def stepD (s : Sp3) : PyData := .tuple [.int (s.1 : Int), .str ⟨#[s.2.1]⟩, .int (s.2.2 : Int)]
theorem stepD_K (s : Sp3) : stepD s = keysD (stepK s) := rfl
theorem stepK_inj {s t : Sp3} (h : stepK s = stepK t) : s = t := by
  obtain ⟨a, b, c⟩ := s
  obtain ⟨a', b', c'⟩ := t
  simp [stepK] at h
  obtain ⟨h1, h2, h3⟩ := h
  have h1 : a = a' := by omega
  have h3 : c = c' := by omega
  rw [h1, h2, h3]
def nums (l : List Nat) : List PyData := l.map fun (i : Nat) => PyData.int (i : Int)
/-- a machine -/
structure Mc where
  n : Nat
  fs : List Nat
  ls : List Nat
  ss : List Sp3
def Mc.d (m : Mc) : PyData := .tuple [.int (m.n : Int), .list (nums m.fs), .list (nums m.ls), .list (m.ss.map stepD)]
def okR (n : Nat) (l : List Nat) : Prop := l.Pairwise (· < ·) ∧ ∀ i ∈ l, i < n
def okP (n : Nat) (s : Sp3) : Prop := s.1 < n ∧ small s.2.1 = true ∧ s.2.2 < n
def okS (n : Nat) (ss : List Sp3) : Prop := ss.length ≤ 40 ∧ ss.Nodup ∧ ∀ s ∈ ss, okP n s
structure Mc.ok (m : Mc) : Prop where
  n : 1 ≤ m.n ∧ m.n ≤ 12
  fs : okR m.n m.fs
  ls : okR m.n m.ls
  ss : okS m.n m.ss
/-- what is no step -/
def pairD : PyData := .tuple [.int 0, .str (Str.ofString "a")]
/-- the refusal of the part x -/
def badE (cM : Addr) (k : PyData) (x : Str) : PyData := errD cM ["number", "part"] [k, .str x]
/-- machines with one part put otherwise -/
inductive BadM (m : Mc) : PyData → Str → Prop
  | non : BadM m .none "machine"
  | many : BadM m (.tuple [.int 13, .list (nums m.fs), .list (nums m.ls), .list (m.ss.map stepD)]) "many"
  | firsts : BadM m (.tuple [.int (m.n : Int), .none, .list (nums m.ls), .list (m.ss.map stepD)]) "firsts"
  | lasts : BadM m (.tuple [.int (m.n : Int), .list (nums m.fs), .list [.int 99], .list (m.ss.map stepD)]) "lasts"
  | steps : BadM m (.tuple [.int (m.n : Int), .list (nums m.fs), .list (nums m.ls), .list [pairD]]) "steps"
def S_step : DSp := fun as R => ∃ (t : PyData) (n : Nat), as = [.dat t, .dat (.int (n : Int))] ∧ ((∃ s : Sp3, t = stepD s ∧ okP n s ∧ R (.bool true) []) ∨ (t = pairD ∧ R (.bool false) []))
theorem mono_step : MonoS S_step := fun as R R' h ⟨i, n, a, b⟩ => ⟨i, n, a, b.elim (fun ⟨s, e, o, k⟩ => .inl ⟨s, e, o, h _ _ k⟩) fun ⟨e, k⟩ => .inr ⟨e, h _ _ k⟩⟩
def S_rooms (cM : Addr) : DSx := fun as R Xr => ∃ (t : PyData) (n : Nat) (x : Str), as = [.dat t, .dat (.int (n : Int)), .dat (.str x)] ∧ ((∃ l, t = .list (nums l) ∧ okR n l ∧ R .none []) ∨ (t = .none ∧ Xr (badE cM .none x) []) ∨ (t = .list [.int 99] ∧ n ≤ 12 ∧ Xr (badE cM (.int 0) x) []))
theorem monox_rooms (cM : Addr) : MonoX (S_rooms cM) := fun as R R' X X' h hx ⟨t, n, x, a, b⟩ => ⟨t, n, x, a, by
  rcases b with ⟨l, e, o, k⟩ | ⟨e, k⟩ | ⟨e, o, k⟩
  · exact .inl ⟨l, e, o, h _ _ k⟩
  · exact .inr (.inl ⟨e, hx _ _ k⟩)
  · exact .inr (.inr ⟨e, o, hx _ _ k⟩)⟩
def S_steps (cM : Addr) : DSx := fun as R Xr => ∃ (t : PyData) (n : Nat), as = [.dat t, .dat (.int (n : Int))] ∧ ((∃ ss : List Sp3, t = .list (ss.map stepD) ∧ okS n ss ∧ R .none []) ∨ (t = .list [pairD] ∧ Xr (badE cM (.int 0) "steps") []))
theorem monox_steps (cM : Addr) : MonoX (S_steps cM) := fun as R R' X X' h hx ⟨t, n, a, b⟩ => ⟨t, n, a, b.elim (fun ⟨s, e, o, k⟩ => .inl ⟨s, e, o, h _ _ k⟩) fun ⟨e, k⟩ => .inr ⟨e, hx _ _ k⟩⟩
def S_look (cM : Addr) : DSx := fun as R Xr => ∃ t : PyData, as = [.dat t] ∧ ((∃ m : Mc, t = m.d ∧ m.ok ∧ R .none []) ∨ (∃ (m : Mc) (p : Str), m.ok ∧ BadM m t p ∧ ∀ k, Xr (badE cM k p) []))
theorem monox_look (cM : Addr) : MonoX (S_look cM) := fun as R R' X X' h hx ⟨t, a, b⟩ => ⟨t, a, b.elim (fun ⟨s, e, o, k⟩ => .inl ⟨s, e, o, h _ _ k⟩) fun ⟨m, p, e, o, k⟩ => .inr ⟨m, p, e, o, fun y => hx _ _ (k y)⟩⟩
theorem kb_tt : kitB "tuple" "tuple" = some true := by decide +kernel
theorem kb_ll : kitB "list" "list" = some true := by decide +kernel
theorem kb_nl : kitB "NoneType" "list" = some false := by decide +kernel
theorem kb_nt : kitB "NoneType" "tuple" = some false := by decide +kernel
theorem inR_of {n i : Nat} (h : i < n) : inR (n : Int) (.int (i : Int)) = true := by
  show (decide (0 ≤ (i : Int)) && decide ((i : Int) < (n : Int))) = true
  rw [decide_eq_true (by omega), decide_eq_true (by omega)]
  rfl
theorem inR_99 {n : Nat} (h : n ≤ 12) : inR (n : Int) (.int 99) = false := by
  show (decide ((0 : Int) ≤ 99) && decide ((99 : Int) < (n : Int))) = false
  rw [decide_eq_false (show ¬ (99 : Int) < (n : Int) by omega), Bool.and_false]
section
variable {P : Program} {w : World} {K : PySem.W.Frag} {mg : Str → Option Value} {base : Heap}
variable (m_len : mg "len" = none) (m_isinstance : mg "isinstance" = none) (m_str : mg "str" = none) (m_bool : mg "bool" = none) (m_range : mg "range" = none) (m_int : mg "int" = none) (m_max : mg "max" = none) (m_min : mg "min" = none) (m_set : mg "set" = none) (m_tuple : mg "tuple" = none) (m_list : mg "list" = none) (m_enumerate : mg "enumerate" = none) (m_all : mg "all" = none) (m_sorted : mg "sorted" = none) (m_repr : mg "repr" = none) (m_IndexError : mg "IndexError" = none) (m_ValueError : mg "ValueError" = none)
include m_len m_isinstance m_str m_bool m_range m_int m_max m_min m_set m_tuple m_list m_enumerate m_all m_sorted m_repr m_IndexError m_ValueError
theorem ok_is_step {f : Addr} {fd : FuncData} (F : Fun K "is_step" "is_step" s_is_step f fd) (k_is_sign : Kn P w K mg base 1 "is_sign" S_is_sign) (k_is_room : Kn P w K mg base 2 "is_room" S_room) : FnOkG P w K mg base CX0 3 f fd ["thing", "many"] (spD K S_step) := by
  refine fnD F sc_is_step (fun as R h => by obtain ⟨_, _, rfl, _⟩ := h; rfl) fun cdv A outer s H E hr => ?_
  have nd := sc_is_step.nd
  have hu := hr.units
  have hu1 := hr.units1
  refine ⟨_, _, (dss_cons (ds_if (dt_w (dw_or (dt_not (dt_val (de_isi (T := "tuple") m_isinstance m_tuple (by decide +kernel) (de_var 0)))) (dw_or1 (dt_cmp (op_neD hu) ro_ne (nomark _) (de_len (ps := default) m_len (de_var 0)) de_int)))) (dss_one (ds_ret de_bl)) dss_nil)
    (dss_cons (ds_setTup (de_var 0) (dg_tup rfl (dgs_cons (dg_name 2 nd) (dgs_cons (dg_name 3 nd) (dgs_cons (dg_name 4 nd) dgs_nil)))))
    (dss_one (ds_ret (de_and (de_call k_is_room hr (by omega) (dca_d (de_var 2) (dca_d (de_var 1) dca_nil))) (de_and (de_call k_is_sign hr (by omega) (dca_d (de_var 3) dca_nil)) (de_one (de_call k_is_room hr (by omega) (dca_d (de_var 4) (dca_d (de_var 1) dca_nil)))))))))), ?_⟩
  rintro as R ⟨t, n, rfl, ⟨s, rfl, ⟨h1, h2, h3⟩, hR⟩ | ⟨rfl, hR⟩⟩
  · refine sq_if ?_
    simp only [dOr, dNot, dTest, dIsi, dVar, tyD, stepD, List.cons_append, List.nil_append, List.getElem?_cons_zero, kb_tt, Bool.not_true, Bool.false_eq_true, if_false, dOp, dNe, dLen, dC]
    refine ⟨rfl, rfl, ?_⟩
    simp only [List.length_cons, List.length_nil, ev_ii]
    show dSeq (dAsg (dVar 0) (dgTup 3 (dgCons (dgName 2) (dgCons (dgName 3) (dgCons (dgName 4) dgNil))))) _ _ _
    refine sq_asg (var_at rfl ⟨rfl, ?_⟩)
    show dAndV (dCall S_room (cD (dVar 2) (cD (dVar 1) cNil))) (dAndV (dCall S_is_sign (cD (dVar 3) cNil)) (dCall S_room (cD (dVar 4) (cD (dVar 1) cNil)))) [.dat (stepD s), .dat (.int n), .dat (.int s.1), .dat (.str ⟨#[s.2.1]⟩), .dat (.int s.2.2)] _
    refine call_pure2 [.int s.1, .int n] (fun Q z => z) mono_room ⟨_, _, rfl, rfl, rfl, ?_⟩
    rw [inR_of h1]
    simp only [↓reduceIte]
    refine call_pure2 [.str ⟨#[s.2.1]⟩] (fun Q z => z) mono_is_sign ⟨_, rfl, rfl, ?_⟩
    rw [h2]
    simp only [↓reduceIte]
    refine call_pure2 [.int s.2.2, .int n] (fun Q z => z) mono_room ⟨_, _, rfl, rfl, rfl, ?_⟩
    rw [inR_of h3]
    exact ⟨[], hR, outs0⟩
  · refine sq_if ?_
    simp only [dOr, dNot, dTest, dIsi, dVar, tyD, pairD, List.cons_append, List.nil_append, List.getElem?_cons_zero, kb_tt, Bool.not_true, Bool.false_eq_true, if_false, dOp, dNe, dLen, dC]
    refine ⟨rfl, rfl, ?_⟩
    simp only [List.length_cons, List.length_nil, ev_ii]
    exact ⟨[], hR, outs0⟩
theorem ok_look_at_rooms {f : Addr} {fd : FuncData} (F : FunA K "look_at_rooms" "look_at_rooms" s_look_at_rooms f fd) {cM : Addr} (k_is_room : Kn P w K mg base 2 "is_room" S_room) (kn_NoMachine : KnE P w K mg base "NoMachine" cM ["part", "number"]) : FnOkG P w K mg base (L2.CX P w) 4 f fd ["rooms", "many", "part"] (spX K (S_rooms cM)) := by
  refine fnXA F sc_look_at_rooms (fun as R Xr h => by obtain ⟨_, _, _, rfl, _⟩ := h; rfl) fun cdv A outer s H E hr xw tk => ?_
  have nd := sc_look_at_rooms.nd
  have hu := hr.units
  have hu1 := hr.units1
  refine ⟨_, _, (dss_cons (ds_if (dt_not (dt_val (de_isi (T := "list") m_isinstance m_list (by decide +kernel) (de_var 0)))) (dss_one (ds_raise rfl tk kn_NoMachine hr (by omega) (da_cons (de_var 2) (da_cons de_non da_nil)))) dss_nil)
    (dss_cons (ds_set 3 nd de_int)
    (dss_one (ds_for (passes_of rfl) rfl (di_enum m_enumerate (de_var 0)) (dg_tup rfl (dgs_cons (dg_name 4 nd) (dgs_cons (dg_name 5 nd) dgs_nil)))
    (dss_cons (ds_if (dt_w (dw_or (dt_not (dt_val (de_call k_is_room hr (by omega) (dca_d (de_var 5) (dca_d (de_var 1) dca_nil))))) (dw_or1 (dt_cmp op_lt ro_B (nomark _) (de_var 5) (de_var 3))))) (dss_one (ds_raise rfl tk kn_NoMachine hr (by omega) (da_cons (de_var 2) (da_cons (de_var 4) da_nil)))) dss_nil)
    (dss_one (ds_set 3 nd (de_op op_add ro_I (de_var 5) de_int)))))))), ?_⟩
  rintro as R Xr ⟨t, n, x, rfl, hS⟩ hx
  rcases hS with ⟨l, rfl, ⟨h1, h2⟩, hR⟩ | ⟨rfl, hR⟩ | ⟨rfl, hn, hR⟩
  · refine sq_if ?_
    simp only [dNot, dTest, dIsi, dVar, tyD, List.cons_append, List.nil_append, List.getElem?_cons_zero, kb_ll, Bool.not_true, Bool.false_eq_true, if_false]
    refine sq_asg ?_
    show forW _ _ _ (enumD (nums l)) [.dat (.list (nums l)), .dat (.int n), .dat (.str x), .dat (.int 0), .no, .no]
    have len : (enumD (nums l)).length = l.length := by rw [enumD_len]; exact List.length_map _
    refine for_nth (enumD (nums l)) (fun k δ => ∃ (lo : Int) (a r : Sl), δ = [.dat (.list (nums l)), .dat (.int n), .dat (.str x), .dat (.int lo), a, r] ∧ ∀ h : k < l.length, lo ≤ (l[k] : Int)) ?_ ?_ _ ⟨0, .no, .no, rfl, fun h => by omega⟩
    · rintro δ ⟨lo, a, r, rfl, _⟩
      exact ⟨[], hR, outs0⟩
    · rintro k hk δ ⟨lo, a, r, rfl, hlo⟩ M hM
      have hkl : k < l.length := by rw [← len]; exact hk
      obtain ⟨y, hy, e⟩ := enumD_get (List.getElem?_eq_getElem hk)
      have ey : y = .int (l[k] : Int) := by
        unfold nums at hy
        rw [List.getElem?_map, List.getElem?_eq_getElem hkl] at hy
        exact (Option.some.inj hy).symm
      subst ey
      rw [e]
      refine ⟨rfl, ?_⟩
      show dSeq (dIfS (dOr (dNot (dTest (dCall S_room (cD (dVar 5) (cD (dVar 1) cNil))))) (dTest (dOp (dB fun i j => decide (i < j)) (dVar 5) (dVar 3)))) _ dNext) _ _ [.dat (.list (nums l)), .dat (.int n), .dat (.str x), .dat (.int lo), .dat (.int (k : Nat)), .dat (.int (l[k] : Int))]
      refine sq_if ?_
      simp only [dOr, dNot, dTest]
      refine call_pure2 [.int (l[k] : Int), .int n] (fun Q z => z) mono_room ⟨_, _, rfl, rfl, rfl, ?_⟩
      have hin := h2 l[k] (List.getElem_mem hkl)
      rw [inR_of hin]
      have hlo := hlo hkl
      simp only [Bool.not_true, Bool.false_eq_true, if_false, dOp, dVar, dB, List.getElem?_cons_succ, List.getElem?_cons_zero, decide_eq_false (show ¬ (l[k] : Int) < lo by omega)]
      refine hM _ ⟨(l[k] : Int) + 1, _, _, rfl, fun h => ?_⟩
      have := List.pairwise_iff_getElem.mp h1 k (k + 1) hkl h (Nat.lt_succ_self k)
      omega
  · refine sq_if ?_
    simp only [dNot, dTest, dIsi, dVar, tyD, List.cons_append, List.nil_append, List.getElem?_cons_zero, kb_nl, Bool.not_false, if_true]
    refine ⟨rfl, by decide, ?_⟩
    rw [hx]
    exact ⟨[], hR, outs0⟩
  · refine sq_if ?_
    simp only [dNot, dTest, dIsi, dVar, tyD, List.cons_append, List.nil_append, List.getElem?_cons_zero, kb_ll, Bool.not_true, Bool.false_eq_true, if_false]
    refine sq_asg ?_
    refine ⟨rfl, ?_⟩
    show dSeq (dIfS (dOr (dNot (dTest (dCall S_room (cD (dVar 5) (cD (dVar 1) cNil))))) (dTest (dOp (dB fun i j => decide (i < j)) (dVar 5) (dVar 3)))) (dRaise cM ["part", "number"] (dCons (dVar 2) (dCons (dVar 4) dNil))) dNext) _ _ [.dat (.list [.int 99]), .dat (.int n), .dat (.str x), .dat (.int 0), .dat (.int 0), .dat (.int 99)]
    refine sq_if ?_
    simp only [dOr, dNot, dTest]
    refine call_pure2 [.int 99, .int n] (fun Q z => z) mono_room ⟨_, _, rfl, rfl, rfl, ?_⟩
    rw [inR_99 hn]
    simp only [Bool.not_false, if_true]
    refine ⟨rfl, by decide, ?_⟩
    rw [hx]
    exact ⟨[], hR, outs0⟩
theorem ok_look_at_steps {f : Addr} {fd : FuncData} (F : FunA K "look_at_steps" "look_at_steps" s_look_at_steps f fd) {cM : Addr} (g_STEPS_MOST : ∃ tk, mg "STEPS_MOST" = some (.int 200 tk)) (k_is_step : Kn P w K mg base 3 "is_step" S_step) (kn_NoMachine : KnE P w K mg base "NoMachine" cM ["part", "number"]) : FnOkG P w K mg base (L2.CX P w) 5 f fd ["steps", "many"] (spX K (S_steps cM)) := by
  refine fnXA F sc_look_at_steps (fun as R Xr h => by obtain ⟨_, _, rfl, _⟩ := h; rfl) fun cdv A outer s H E hr xw tk => ?_
  have nd := sc_look_at_steps.nd
  have hu := hr.units
  have hu1 := hr.units1
  refine ⟨_, _, (dss_cons (ds_if (dt_w (dw_or (dt_not (dt_val (de_isi (T := "list") m_isinstance m_list (by decide +kernel) (de_var 0)))) (dw_or1 (dt_cmp op_gt ro_B (nomark _) (de_len (ps := default) m_len (de_var 0)) (de_gint rfl g_STEPS_MOST))))) (dss_one (ds_raise rfl tk kn_NoMachine hr (by omega) (da_cons de_str (da_cons de_non da_nil)))) dss_nil)
    (dss_cons (ds_newSet 2 nd m_set)
    (dss_one (ds_for (passes_of rfl) rfl (di_enum m_enumerate (de_var 0)) (dg_tup rfl (dgs_cons (dg_name 3 nd) (dgs_cons (dg_name 4 nd) dgs_nil)))
    (dss_cons (ds_if (dt_w (dw_or (dt_not (dt_val (de_call k_is_step hr (by omega) (dca_d (de_var 4) (dca_d (de_var 1) dca_nil))))) (dw_or1 (dt_inSet 2 hu1 (de_var 4))))) (dss_one (ds_raise rfl tk kn_NoMachine hr (by omega) (da_cons de_str (da_cons (de_var 3) da_nil)))) dss_nil)
    (dss_one (ds_addSet 2 hu1 (de_var 4)))))))), ?_⟩
  rintro as R Xr ⟨t, n, rfl, hS⟩ hx
  rcases hS with ⟨ss, rfl, ⟨h0, h1, h2⟩, hR⟩ | ⟨rfl, hR⟩
  · refine sq_if ?_
    have ll : (ss.map stepD).length = ss.length := List.length_map _
    simp only [dOr, dNot, dTest, dIsi, dVar, tyD, List.cons_append, List.nil_append, List.getElem?_cons_zero, kb_ll, Bool.not_true, Bool.false_eq_true, if_false, dOp, dLen, dC, dB, ll]
    simp only [decide_eq_false (show ¬ ((ss.length : Nat) : Int) > 200 by omega), Bool.false_eq_true, if_false]
    show forW (dgTup 2 (dgCons (dgName 3) (dgCons (dgName 4) dgNil))) _ _ (enumD (ss.map stepD)) [.dat (.list (ss.map stepD)), .dat (.int n), .box (boxSet _ _ []), .no, .no]
    have len : (enumD (ss.map stepD)).length = ss.length := by rw [enumD_len]; exact ll
    refine for_nth (enumD (ss.map stepD)) (fun k δ => ∃ (ks : List (List Key)) (a r : Sl), δ = [.dat (.list (ss.map stepD)), .dat (.int n), .box (boxSet _ _ ks), a, r] ∧ ks.length = k ∧ ∀ y ∈ ks, ∃ (j : Nat) (hj : j < ss.length), j < k ∧ y = stepK ss[j]) ?_ ?_ _ ⟨[], .no, .no, rfl, rfl, fun y h => by cases h⟩
    · rintro δ ⟨ks, a, r, rfl, _⟩
      exact ⟨[], hR, outs0⟩
    · rintro k hk δ ⟨ks, a, r, rfl, hl, hks⟩ M hM
      have hkl : k < ss.length := by rw [← len]; exact hk
      obtain ⟨y, hy, e⟩ := enumD_get (List.getElem?_eq_getElem hk)
      have ey : y = stepD ss[k] := by
        rw [List.getElem?_map, List.getElem?_eq_getElem hkl] at hy
        exact (Option.some.inj hy).symm
      subst ey
      rw [e]
      refine ⟨rfl, ?_⟩
      show dSeq (dIfS (dOr (dNot (dTest (dCall S_step (cD (dVar 4) (cD (dVar 1) cNil))))) (dTest (dInSet _ _ 2 (dVar 4)))) _ dNext) (dAddSet _ _ 2 (dVar 4)) _ [.dat (.list (ss.map stepD)), .dat (.int n), .box (boxSet _ _ ks), .dat (.int (k : Nat)), .dat (stepD ss[k])]
      have new : stepK ss[k] ∉ ks := fun z => by
        obtain ⟨j, hj, hjk, e⟩ := hks _ z
        exact List.pairwise_iff_getElem.mp h1 j k hj hkl hjk (stepK_inj e).symm
      refine sq_if ?_
      simp only [dOr, dNot, dTest]
      refine call_pure2 [stepD ss[k], .int n] (fun Q z => z) mono_step ⟨_, _, rfl, .inl ⟨_, rfl, h2 _ (List.getElem_mem hkl), rfl, ?_⟩⟩
      simp only [Bool.not_true, Bool.false_eq_true, if_false]
      refine var_at rfl ⟨ks, stepK ss[k], rfl, rfl, fun b hb => ?_⟩
      have eb : b = false := by
        cases b with
        | false => rfl
        | true => exact absurd (hb.mp rfl) new
      subst eb
      simp only [Bool.false_eq_true, if_false]
      refine ⟨⟨ks, rfl⟩, var_at rfl ⟨ks, stepK ss[k], rfl, rfl, by omega, new, ?_⟩⟩
      refine hM _ ⟨stepK ss[k] :: ks, _, _, rfl, by rw [List.length_cons, hl], fun y hy => ?_⟩
      rcases List.mem_cons.mp hy with z | z
      · exact ⟨k, hkl, Nat.lt_succ_self k, z⟩
      · obtain ⟨j, hj, hjk, e⟩ := hks y z
        exact ⟨j, hj, Nat.lt_succ_of_lt hjk, e⟩
  · refine sq_if ?_
    simp only [dOr, dNot, dTest, dIsi, dVar, tyD, List.cons_append, List.nil_append, List.getElem?_cons_zero, kb_ll, Bool.not_true, Bool.false_eq_true, if_false, dOp, dLen, dC, dB, List.length_cons, List.length_nil]
    show dSeq (dNewSet _ _ 2) _ _ _
    refine ⟨rfl, ?_⟩
    show dSeq (dIfS (dOr (dNot (dTest (dCall S_step (cD (dVar 4) (cD (dVar 1) cNil))))) (dTest (dInSet _ _ 2 (dVar 4)))) (dRaise cM ["part", "number"] (dCons (dC (.str (Str.ofString "steps"))) (dCons (dVar 3) dNil))) dNext) _ _ [.dat (.list [pairD]), .dat (.int n), .box (boxSet _ _ []), .dat (.int 0), .dat pairD]
    refine sq_if ?_
    simp only [dOr, dNot, dTest]
    refine call_pure2 [pairD, .int n] (fun Q z => z) mono_step ⟨_, _, rfl, .inr ⟨rfl, rfl, ?_⟩⟩
    simp only [Bool.not_false, if_true]
    refine ⟨rfl, by decide, ?_⟩
    rw [hx]
    exact ⟨[], hR, outs0⟩
end
end K30

set_option Elab.async false
set_option linter.all false
set_option maxRecDepth 100000
set_option maxHeartbeats 4000000
/-! K30g: rooms as texts -/
namespace K30
open PySem PySem.Spec L2 TL
abbrev s_rooms_text : Stmt := top 17
theorem sc_rooms_text : FnScope ["machine", "rooms", "room"] ["machine", "rooms"] (defScope s_rooms_text) := ⟨rfl, rfl, rfl, by decide +kernel, rfl, by decide +kernel, by decide +kernel⟩
abbrev s_rooms_in : Stmt := top 18
theorem sc_rooms_in : FnScope ["machine", "text"] ["machine", "text"] (defScope s_rooms_in) := ⟨rfl, rfl, rfl, by decide +kernel, rfl, by decide +kernel, by decide +kernel⟩
abbrev s_marks : Stmt := top 19
theorem sc_marks : FnScope ["rooms", "many", "room"] ["rooms", "many"] (defScope s_marks) := ⟨rfl, rfl, rfl, by decide +kernel, rfl, by decide +kernel, by decide +kernel⟩
abbrev s_are_marks : Stmt := top 20
theorem sc_are_marks : FnScope ["thing", "many", "mark"] ["thing", "many"] (defScope s_are_marks) := ⟨rfl, rfl, rfl, by decide +kernel, rfl, by decide +kernel, by decide +kernel⟩
abbrev s_marked : Stmt := top 21
theorem sc_marked : FnScope ["text", "room", "mark"] ["text"] (defScope s_marked) := ⟨rfl, rfl, rfl, by decide +kernel, rfl, by decide +kernel, by decide +kernel⟩
theorem lc_of {α : Type} {vs : List Nat} {g : DTG} {t : DTT} {u : DTE} {R : List PyData → List Sl → Prop} (p : α → Bool) (F D : α → PyData) {δ0 : List Sl} (h00 : wipeS δ0 vs = δ0) : ∀ (xs : List α) (acc : List PyData), acc.length + xs.length ≤ 16777216 →
    (∀ x ∈ xs, ∀ (Y : PyData → List Sl → Prop) (N : List Sl → Prop), (p x = true → ∀ δ3, wipeS δ3 vs = δ0 → Y (F x) δ3) → (p x = false → ∀ δ2, wipeS δ2 vs = δ0 → N δ2) → g (D x) δ0 (fun δ1 => t δ1 fun b δ2 => if b = true then u δ2 Y else N δ2)) →
    R (acc ++ (xs.filter p).map F) δ0 → lcW vs g t u R (xs.map D) acc δ0
  | [], acc, hl, hs, k => by
    rw [List.filter_nil, List.map_nil, List.append_nil] at k
    exact k
  | x :: r, acc, hl, hs, k => by
    rw [List.length_cons] at hl
    show g (D x) (wipeS δ0 vs) fun δ1 => t δ1 fun b δ2 => if b = true then u δ2 fun y δ3 => acc.length < sizeLine ∧ lcW vs g t u R (r.map D) (acc ++ [y]) (wipeS δ3 vs) else lcW vs g t u R (r.map D) acc (wipeS δ2 vs)
    rw [h00]
    refine hs x List.mem_cons_self (fun y δ3 => acc.length < sizeLine ∧ lcW vs g t u R (r.map D) (acc ++ [y]) (wipeS δ3 vs)) _ (fun hp δ3 h3 => ⟨by rw [sizeLine_eq]; omega, ?_⟩) (fun hp δ2 h2 => ?_)
    · rw [h3]
      refine lc_of p F D h00 r (acc ++ [F x]) (by rw [List.length_append, List.length_singleton]; omega) (fun y hy => hs y (List.mem_cons_of_mem _ hy)) ?_
      rw [List.filter_cons, if_pos hp, List.map_cons] at k
      rw [List.append_assoc]
      exact k
    · rw [h2]
      refine lc_of p F D h00 r acc (by omega) (fun y hy => hs y (List.mem_cons_of_mem _ hy)) ?_
      rw [List.filter_cons, if_neg (by rw [hp]; decide)] at k
      exact k
theorem nums_len (v : List Nat) : (nums v).length = v.length := List.length_map _
theorem sh_nums (l : List Nat) : SeqAt.shaped (.list (nums l)) = true := by
  have a : PyData.canLayAll0 (nums l) = true ∧ PyData.depthAll (nums l) = 0 := by
    induction l with
    | nil => exact ⟨rfl, rfl⟩
    | cons c r ih =>
      constructor
      · show (PyData.canLay0 (.int (c : Int)) && PyData.canLayAll0 (nums r)) = true
        rw [ih.1]
        rfl
      · show max (PyData.depth (.int (c : Int))) (PyData.depthAll (nums r)) = 0
        rw [ih.2]
        rfl
  unfold SeqAt.shaped
  rw [Bool.and_eq_true]
  refine ⟨a.1, decide_eq_true ?_⟩
  show PyData.depthAll _ + 1 ≤ 64
  rw [a.2]
  decide
theorem any_nums (i : Nat) : ∀ l : List Nat, ((nums l).any fun z => PyData.eqv z (.int (i : Int))) = decide (i ∈ l)
  | [] => rfl
  | c :: r => by
    show (PyData.eqv (.int (c : Int)) (.int (i : Int)) || (nums r).any _) = _
    rw [any_nums i r, ev_ii, Bool.eq_iff_iff, Bool.or_eq_true, decide_eq_true_iff, decide_eq_true_iff, List.mem_cons, beq_iff_eq]
    constructor
    · rintro (h | h)
      · exact .inl (by omega)
      · exact .inr h
    · rintro (h | h)
      · exact .inl (by omega)
      · exact .inr h
theorem iota_nat (n : Nat) : iotaD 0 ((n : Int)).toNat = (List.range n).map fun (i : Nat) => PyData.int (i : Int) := by
  unfold iotaD
  rw [Int.toNat_natCast]
  refine List.map_congr_left fun i _ => ?_
  rw [Int.zero_add]
theorem sum_ones : ∀ cs : List Nat, ((cs.map fun c => (⟨#[c]⟩ : Str)).map (·.length)).sum = cs.length
  | [] => rfl
  | c :: r => by
    rw [List.map_cons, List.map_cons, List.sum_cons, sum_ones r, List.length_cons]
    show 1 + r.length = r.length + 1
    omega
/-- 1 at the rooms of l, else 0 -/
def mk1 (l : List Nat) (i : Nat) : Nat := if i ∈ l then 49 else 48
def mkL (n : Nat) (l : List Nat) : List Nat := (List.range n).map (mk1 l)
def mkS (n : Nat) (l : List Nat) : Str := ⟨(mkL n l).toArray⟩
theorem mkS_tl (n : Nat) (l : List Nat) : (mkS n l).cps.toList = mkL n l := rfl
theorem mkL_len (n : Nat) (l : List Nat) : (mkL n l).length = n := by
  unfold mkL
  rw [List.length_map, List.length_range]
theorem mkS_len (n : Nat) (l : List Nat) : (mkS n l).length = n := by
  show (mkL n l).toArray.size = n
  rw [List.size_toArray, mkL_len]
theorem s_one : Str.ofString "1" = ⟨#[49]⟩ := by decide +kernel
theorem s_nul : Str.ofString "0" = ⟨#[48]⟩ := by decide +kernel
theorem s_01 : (Str.ofString "01").cps.toList = [48, 49] := by decide +kernel
/-- a text of n signs, each 0 or 1 -/
def isMk (n : Nat) : PyData → Bool
  | .str x => decide (x.length = n) && x.cps.toList.all fun c => decide (c ∈ [48, 49])
  | _ => false
structure NoMk (n : Nat) (u : PyData) : Prop where
  p : plainD u = true
  no : isMk n u = false
  few : ∀ x, u = .str x → x.length ≤ 100
theorem isMk_mk (n : Nat) (l : List Nat) : isMk n (.str (mkS n l)) = true := by
  show (decide ((mkS n l).length = n) && _) = true
  rw [mkS_len, decide_eq_true rfl, Bool.true_and, mkS_tl, List.all_eq_true]
  intro c hc
  obtain ⟨i, _, rfl⟩ := List.mem_map.mp hc
  unfold mk1
  split <;> rfl
def S_marks : DSp := fun as R => ∃ (l : List Nat) (n : Nat), as = [.dat (.list (nums l)), .dat (.int (n : Int))] ∧ n ≤ 12 ∧ R (.str (mkS n l)) []
theorem mono_marks : MonoS S_marks := fun as R R' h ⟨l, n, a, b, k⟩ => ⟨l, n, a, b, h _ _ k⟩
def S_amarks : DSp := fun as R => ∃ (u : PyData) (n : Nat), as = [.dat u, .dat (.int (n : Int))] ∧ plainD u = true ∧ (∀ x, u = .str x → x.length ≤ 100) ∧ R (.bool (isMk n u)) []
theorem mono_amarks : MonoS S_amarks := fun as R R' h ⟨l, n, a, b, c, k⟩ => ⟨l, n, a, b, c, h _ _ k⟩
abbrev MonoN (S : DSn) : Prop := ∀ as R R', (∀ d o, R d o → R' d o) → S as R → S as R'
def S_marked : DSn := fun as R => ∃ (l : List Nat) (n : Nat), as = [.dat (.str (mkS n l))] ∧ n ≤ 12 ∧ R (nums ((List.range n).filter fun i => decide (i ∈ l))) []
theorem mono_marked : MonoN S_marked := fun as R R' h ⟨l, n, a, b, k⟩ => ⟨l, n, a, b, h _ _ k⟩
def S_rtext (cM cR : Addr) : DSx := fun as R Xr => ∃ t u : PyData, as = [.dat t, .dat u] ∧
  ((∃ (m : Mc) (l : List Nat), t = m.d ∧ m.ok ∧ u = .list (nums l) ∧ (∀ i ∈ l, i < m.n) ∧ R (.str (mkS m.n l)) []) ∨
   (∃ (m : Mc) (a : List Nat) (odd : PyData) (rest : List PyData), t = m.d ∧ m.ok ∧ u = .list (nums a ++ odd :: rest) ∧ (∀ i ∈ a, i < m.n) ∧ plainD odd = true ∧ inR (m.n : Int) odd = false ∧ Xr (errD cR ["room"] [odd]) []) ∨
   (∃ (m : Mc) (p : Str), m.ok ∧ BadM m t p ∧ ∀ k, Xr (badE cM k p) []))
theorem monox_rtext (cM cR : Addr) : MonoX (S_rtext cM cR) := fun as R R' X X' h hx ⟨t, u, a, b⟩ => ⟨t, u, a, by
  rcases b with ⟨m, l, e1, e2, e3, e4, k⟩ | ⟨m, a, od, rs, e1, e2, e3, e4, e5, e6, k⟩ | ⟨m, p, e1, e2, k⟩
  · exact .inl ⟨m, l, e1, e2, e3, e4, h _ _ k⟩
  · exact .inr (.inl ⟨m, a, od, rs, e1, e2, e3, e4, e5, e6, hx _ _ k⟩)
  · exact .inr (.inr ⟨m, p, e1, e2, fun y => hx _ _ (k y)⟩)⟩
def S_rin (cM cW : Addr) : DSxn := fun as R Xr => ∃ t u : PyData, as = [.dat t, .dat u] ∧
  ((∃ (m : Mc) (l : List Nat), t = m.d ∧ m.ok ∧ u = .str (mkS m.n l) ∧ R (nums ((List.range m.n).filter fun i => decide (i ∈ l))) []) ∨
   (∃ m : Mc, t = m.d ∧ m.ok ∧ NoMk m.n u ∧ Xr (errD cW ["at"] [.none]) []) ∨
   (∃ (m : Mc) (p : Str), m.ok ∧ BadM m t p ∧ ∀ k, Xr (badE cM k p) []))
abbrev MonoXN (S : DSxn) : Prop := ∀ as R R' X X', (∀ d o, R d o → R' d o) → (∀ d o, X d o → X' d o) → S as R X → S as R' X'
theorem monox_rin (cM cW : Addr) : MonoXN (S_rin cM cW) := fun as R R' X X' h hx ⟨t, u, a, b⟩ => ⟨t, u, a, by
  rcases b with ⟨m, l, e1, e2, e3, k⟩ | ⟨m, e1, e2, e3, k⟩ | ⟨m, p, e1, e2, k⟩
  · exact .inl ⟨m, l, e1, e2, e3, h _ _ k⟩
  · exact .inr (.inl ⟨m, e1, e2, e3, hx _ _ k⟩)
  · exact .inr (.inr ⟨m, p, e1, e2, fun y => hx _ _ (k y)⟩)⟩
theorem ret_new [XW] {S : DSn} {ua : DCA} {δ δ' : List Sl} {E : DEnds} (ds : List PyData) (hu : ∀ Q : List CA → List Sl → Prop, Q (ds.map CA.d) δ' → ua δ Q) (mono : MonoN S) (k : S (ds.map Sl.dat) fun d outs => outs = [] ∧ E.rn d δ') : dRetCallN S ua E δ := by
  refine hu _ ?_
  rw [muts_d, asOf_d]
  refine ⟨List.nodup_nil, mono _ _ _ (fun d o h => ?_) k⟩
  obtain ⟨rfl, h⟩ := h
  exact ⟨rfl, h⟩
theorem zip_self {α β : Type} (f : α → β) : ∀ l : List α, l.zip (l.map f) = l.map fun i => (i, f i)
  | [] => rfl
  | a :: r => by
    rw [List.map_cons, List.zip_cons_cons, zip_self f r, List.map_cons]
theorem enum_mk (n : Nat) (l : List Nat) : enumD (signsD (mkS n l)) = (List.range n).map fun (i : Nat) => PyData.tuple [.int (i : Int), .str ⟨#[mk1 l i]⟩] := by
  have e : signsD (mkS n l) = (List.range n).map fun i => PyData.str ⟨#[mk1 l i]⟩ := by
    unfold signsD
    rw [mkS_tl]
    unfold mkL
    rw [List.map_map]
    rfl
  unfold enumD
  rw [e, List.length_map, List.length_range, zip_self, List.map_map]
  rfl
theorem bools_of (bs : List Bool) : boolsOf (bs.map PyData.bool) = some bs := by
  induction bs with
  | nil => rfl
  | cons b r ih =>
    show (boolsOf (r.map PyData.bool)).map _ = _
    rw [ih]
    rfl
theorem all_id {α : Type} (f : α → Bool) : ∀ l : List α, (l.map f).all id = l.all f
  | [] => rfl
  | a :: r => by
    rw [List.map_cons, List.all_cons, List.all_cons, all_id f r]
    rfl
section
variable {P : Program} {w : World} {K : PySem.W.Frag} {mg : Str → Option Value} {base : Heap}
variable (m_len : mg "len" = none) (m_isinstance : mg "isinstance" = none) (m_str : mg "str" = none) (m_bool : mg "bool" = none) (m_range : mg "range" = none) (m_int : mg "int" = none) (m_max : mg "max" = none) (m_min : mg "min" = none) (m_set : mg "set" = none) (m_tuple : mg "tuple" = none) (m_list : mg "list" = none) (m_enumerate : mg "enumerate" = none) (m_all : mg "all" = none) (m_sorted : mg "sorted" = none) (m_repr : mg "repr" = none) (m_IndexError : mg "IndexError" = none) (m_ValueError : mg "ValueError" = none)
include m_len m_isinstance m_str m_bool m_range m_int m_max m_min m_set m_tuple m_list m_enumerate m_all m_sorted m_repr m_IndexError m_ValueError
theorem ok_look_at {f : Addr} {fd : FuncData} (F : FunA K "look_at" "look_at" s_look_at f fd) {cM : Addr} (g_ROOMS_MOST : ∃ tk, mg "ROOMS_MOST" = some (.int 12 tk)) (k_is_whole : Kn P w K mg base 1 "is_whole" S_whole) (k_look_at_rooms : KnX P w K mg base 4 "look_at_rooms" (S_rooms cM)) (k_look_at_steps : KnX P w K mg base 5 "look_at_steps" (S_steps cM)) (kn_NoMachine : KnE P w K mg base "NoMachine" cM ["part", "number"]) : FnOkG P w K mg base (L2.CX P w) 6 f fd ["thing"] (spX K (S_look cM)) := by
  refine fnXA F sc_look_at (fun as R Xr h => by obtain ⟨_, rfl, _⟩ := h; rfl) fun cdv A outer s H E hr xw tk => ?_
  have nd := sc_look_at.nd
  have hu := hr.units
  have hu1 := hr.units1
  refine ⟨_, _, (dss_cons (ds_if (dt_w (dw_or (dt_not (dt_val (de_isi (T := "tuple") m_isinstance m_tuple (by decide +kernel) (de_var 0)))) (dw_or1 (dt_cmp (op_neD hu) ro_ne (nomark _) (de_len (ps := default) m_len (de_var 0)) de_int)))) (dss_one (ds_raise rfl tk kn_NoMachine hr (by omega) (da_cons de_str (da_cons de_non da_nil)))) dss_nil)
    (dss_cons (ds_setTup (de_var 0) (dg_tup rfl (dgs_cons (dg_name 1 nd) (dgs_cons (dg_name 2 nd) (dgs_cons (dg_name 3 nd) (dgs_cons (dg_name 4 nd) dgs_nil))))))
    (dss_cons (ds_if (dt_w (dw_or (dt_not (dt_val (de_call k_is_whole hr (by omega) (dca_d (de_var 1) dca_nil)))) (dw_or1 (dt_not (dt_chain op_le ro_B op_le ro_B de_int (de_var 1) (de_gint rfl g_ROOMS_MOST)))))) (dss_one (ds_raise rfl tk kn_NoMachine hr (by omega) (da_cons de_str (da_cons de_non da_nil)))) dss_nil)
    (dss_cons (ds_expr (de_callX tk k_look_at_rooms hr (by omega) (dca_d (de_var 2) (dca_d (de_var 1) (dca_d de_str dca_nil)))))
    (dss_cons (ds_expr (de_callX tk k_look_at_rooms hr (by omega) (dca_d (de_var 3) (dca_d (de_var 1) (dca_d de_str dca_nil)))))
    (dss_one (ds_expr (de_callX tk k_look_at_steps hr (by omega) (dca_d (de_var 4) (dca_d (de_var 1) dca_nil)))))))))), ?_⟩
  rintro as R Xr ⟨t, rfl, hS⟩ hx
  rcases hS with ⟨m, rfl, ⟨h1, h2, h3, h4⟩, hR⟩ | ⟨m, p, ⟨h1, h2, h3, h4⟩, hB, hX⟩
  · refine sq_if ?_
    simp only [dOr, dNot, dTest, dIsi, dVar, tyD, Mc.d, List.cons_append, List.nil_append, List.getElem?_cons_zero, kb_tt, Bool.not_true, Bool.false_eq_true, if_false, dOp, dNe, dLen, dC]
    refine ⟨rfl, rfl, ?_⟩
    simp only [List.length_cons, List.length_nil, ev_ii]
    show dSeq (dAsg (dVar 0) (dgTup 4 (dgCons (dgName 1) (dgCons (dgName 2) (dgCons (dgName 3) (dgCons (dgName 4) dgNil)))))) _ _ _
    refine sq_asg (var_at rfl ⟨rfl, ?_⟩)
    show dSeq (dIfS (dOr (dNot (dTest (dCall S_whole (cD (dVar 1) cNil)))) (dNot (dTest (dChain (dB _) (dB _) (dC (.int 1)) (dVar 1) (dC (.int 12)))))) _ dNext) _ _ [.dat m.d, .dat (.int m.n), .dat (.list (nums m.fs)), .dat (.list (nums m.ls)), .dat (.list (m.ss.map stepD))]
    refine sq_if ?_
    simp only [dOr, dNot, dTest]
    refine call_pure2 [.int m.n] (fun Q z => z) mono_whole ⟨_, rfl, rfl, rfl, ?_⟩
    simp only [isInt, Bool.not_true, Bool.false_eq_true, if_false, dChain, dC, dVar, dB, List.getElem?_cons_succ, List.getElem?_cons_zero, decide_eq_true (show (1 : Int) ≤ (m.n : Int) by omega), decide_eq_true (show (m.n : Int) ≤ 12 by omega), if_true]
    refine sq_drop (call_x1 [.list (nums m.fs), .int m.n, _] (fun Q z => z) (monox_rooms cM) ⟨_, _, _, rfl, .inl ⟨_, rfl, h2, rfl, ?_⟩⟩)
    refine sq_drop (call_x1 [.list (nums m.ls), .int m.n, _] (fun Q z => z) (monox_rooms cM) ⟨_, _, _, rfl, .inl ⟨_, rfl, h3, rfl, ?_⟩⟩)
    refine call_x1 [.list (m.ss.map stepD), .int m.n] (fun Q z => z) (monox_steps cM) ⟨_, _, rfl, .inl ⟨_, rfl, h4, rfl, ?_⟩⟩
    exact ⟨[], hR, outs0⟩
  · have go : ∀ (k : PyData) (δ : List Sl), xw.xr (badE cM k p) δ := fun k δ => by
      rw [hx]
      exact ⟨[], hX k, outs0⟩
    cases hB with
    | non =>
      refine sq_if ?_
      simp only [dOr, dNot, dTest, dIsi, dVar, tyD, List.cons_append, List.nil_append, List.getElem?_cons_zero, kb_nt, Bool.not_false, if_true]
      exact ⟨rfl, by decide, go _ _⟩
    | many =>
      refine sq_if ?_
      simp only [dOr, dNot, dTest, dIsi, dVar, tyD, List.cons_append, List.nil_append, List.getElem?_cons_zero, kb_tt, Bool.not_true, Bool.false_eq_true, if_false, dOp, dNe, dLen, dC]
      refine ⟨rfl, rfl, ?_⟩
      simp only [List.length_cons, List.length_nil, ev_ii]
      show dSeq (dAsg (dVar 0) (dgTup 4 (dgCons (dgName 1) (dgCons (dgName 2) (dgCons (dgName 3) (dgCons (dgName 4) dgNil)))))) _ _ _
      refine sq_asg (var_at rfl ⟨rfl, ?_⟩)
      show dSeq (dIfS (dOr (dNot (dTest (dCall S_whole (cD (dVar 1) cNil)))) (dNot (dTest (dChain (dB _) (dB _) (dC (.int 1)) (dVar 1) (dC (.int 12)))))) _ dNext) _ _ [.dat (.tuple [.int 13, .list (nums m.fs), .list (nums m.ls), .list (m.ss.map stepD)]), .dat (.int 13), .dat (.list (nums m.fs)), .dat (.list (nums m.ls)), .dat (.list (m.ss.map stepD))]
      refine sq_if ?_
      simp only [dOr, dNot, dTest]
      refine call_pure2 [.int 13] (fun Q z => z) mono_whole ⟨_, rfl, rfl, rfl, ?_⟩
      exact ⟨rfl, by decide, go _ _⟩
    | firsts =>
      refine sq_if ?_
      simp only [dOr, dNot, dTest, dIsi, dVar, tyD, List.cons_append, List.nil_append, List.getElem?_cons_zero, kb_tt, Bool.not_true, Bool.false_eq_true, if_false, dOp, dNe, dLen, dC]
      refine ⟨rfl, rfl, ?_⟩
      simp only [List.length_cons, List.length_nil, ev_ii]
      show dSeq (dAsg (dVar 0) (dgTup 4 (dgCons (dgName 1) (dgCons (dgName 2) (dgCons (dgName 3) (dgCons (dgName 4) dgNil)))))) _ _ _
      refine sq_asg (var_at rfl ⟨rfl, ?_⟩)
      show dSeq (dIfS (dOr (dNot (dTest (dCall S_whole (cD (dVar 1) cNil)))) (dNot (dTest (dChain (dB _) (dB _) (dC (.int 1)) (dVar 1) (dC (.int 12)))))) _ dNext) _ _ [.dat (.tuple [.int (m.n : Int), .none, .list (nums m.ls), .list (m.ss.map stepD)]), .dat (.int (m.n : Int)), .dat .none, .dat (.list (nums m.ls)), .dat (.list (m.ss.map stepD))]
      refine sq_if ?_
      simp only [dOr, dNot, dTest]
      refine call_pure2 [.int m.n] (fun Q z => z) mono_whole ⟨_, rfl, rfl, rfl, ?_⟩
      simp only [isInt, Bool.not_true, Bool.false_eq_true, if_false, dChain, dC, dVar, dB, List.getElem?_cons_succ, List.getElem?_cons_zero, decide_eq_true (show (1 : Int) ≤ (m.n : Int) by omega), decide_eq_true (show (m.n : Int) ≤ 12 by omega), if_true]
      refine sq_drop (call_x1 [.none, .int m.n, _] (fun Q z => z) (monox_rooms cM) ⟨_, _, _, rfl, .inr (.inl ⟨rfl, rfl, go _ _⟩)⟩)
    | lasts =>
      refine sq_if ?_
      simp only [dOr, dNot, dTest, dIsi, dVar, tyD, List.cons_append, List.nil_append, List.getElem?_cons_zero, kb_tt, Bool.not_true, Bool.false_eq_true, if_false, dOp, dNe, dLen, dC]
      refine ⟨rfl, rfl, ?_⟩
      simp only [List.length_cons, List.length_nil, ev_ii]
      show dSeq (dAsg (dVar 0) (dgTup 4 (dgCons (dgName 1) (dgCons (dgName 2) (dgCons (dgName 3) (dgCons (dgName 4) dgNil)))))) _ _ _
      refine sq_asg (var_at rfl ⟨rfl, ?_⟩)
      show dSeq (dIfS (dOr (dNot (dTest (dCall S_whole (cD (dVar 1) cNil)))) (dNot (dTest (dChain (dB _) (dB _) (dC (.int 1)) (dVar 1) (dC (.int 12)))))) _ dNext) _ _ [.dat (.tuple [.int (m.n : Int), .list (nums m.fs), .list [.int 99], .list (m.ss.map stepD)]), .dat (.int (m.n : Int)), .dat (.list (nums m.fs)), .dat (.list [.int 99]), .dat (.list (m.ss.map stepD))]
      refine sq_if ?_
      simp only [dOr, dNot, dTest]
      refine call_pure2 [.int m.n] (fun Q z => z) mono_whole ⟨_, rfl, rfl, rfl, ?_⟩
      simp only [isInt, Bool.not_true, Bool.false_eq_true, if_false, dChain, dC, dVar, dB, List.getElem?_cons_succ, List.getElem?_cons_zero, decide_eq_true (show (1 : Int) ≤ (m.n : Int) by omega), decide_eq_true (show (m.n : Int) ≤ 12 by omega), if_true]
      refine sq_drop (call_x1 [.list (nums m.fs), .int m.n, _] (fun Q z => z) (monox_rooms cM) ⟨_, _, _, rfl, .inl ⟨_, rfl, h2, rfl, ?_⟩⟩)
      refine sq_drop (call_x1 [.list [.int 99], .int m.n, _] (fun Q z => z) (monox_rooms cM) ⟨_, _, _, rfl, .inr (.inr ⟨rfl, h1.2, rfl, go _ _⟩)⟩)
    | steps =>
      refine sq_if ?_
      simp only [dOr, dNot, dTest, dIsi, dVar, tyD, List.cons_append, List.nil_append, List.getElem?_cons_zero, kb_tt, Bool.not_true, Bool.false_eq_true, if_false, dOp, dNe, dLen, dC]
      refine ⟨rfl, rfl, ?_⟩
      simp only [List.length_cons, List.length_nil, ev_ii]
      show dSeq (dAsg (dVar 0) (dgTup 4 (dgCons (dgName 1) (dgCons (dgName 2) (dgCons (dgName 3) (dgCons (dgName 4) dgNil)))))) _ _ _
      refine sq_asg (var_at rfl ⟨rfl, ?_⟩)
      show dSeq (dIfS (dOr (dNot (dTest (dCall S_whole (cD (dVar 1) cNil)))) (dNot (dTest (dChain (dB _) (dB _) (dC (.int 1)) (dVar 1) (dC (.int 12)))))) _ dNext) _ _ [.dat (.tuple [.int (m.n : Int), .list (nums m.fs), .list (nums m.ls), .list [pairD]]), .dat (.int (m.n : Int)), .dat (.list (nums m.fs)), .dat (.list (nums m.ls)), .dat (.list [pairD])]
      refine sq_if ?_
      simp only [dOr, dNot, dTest]
      refine call_pure2 [.int m.n] (fun Q z => z) mono_whole ⟨_, rfl, rfl, rfl, ?_⟩
      simp only [isInt, Bool.not_true, Bool.false_eq_true, if_false, dChain, dC, dVar, dB, List.getElem?_cons_succ, List.getElem?_cons_zero, decide_eq_true (show (1 : Int) ≤ (m.n : Int) by omega), decide_eq_true (show (m.n : Int) ≤ 12 by omega), if_true]
      refine sq_drop (call_x1 [.list (nums m.fs), .int m.n, _] (fun Q z => z) (monox_rooms cM) ⟨_, _, _, rfl, .inl ⟨_, rfl, h2, rfl, ?_⟩⟩)
      refine sq_drop (call_x1 [.list (nums m.ls), .int m.n, _] (fun Q z => z) (monox_rooms cM) ⟨_, _, _, rfl, .inl ⟨_, rfl, h3, rfl, ?_⟩⟩)
      exact call_x1 [.list [pairD], .int m.n] (fun Q z => z) (monox_steps cM) ⟨_, _, rfl, .inr ⟨rfl, rfl, go _ _⟩⟩
theorem ok_marks {f : Addr} {fd : FuncData} (F : Fun K "marks" "marks" s_marks f fd)  : FnOkG P w K mg base CX0 1 f fd ["rooms", "many"] (spD K S_marks) := by
  refine fnD F sc_marks (fun as R h => by obtain ⟨_, _, rfl, _⟩ := h; rfl) fun cdv A outer s H E hr => ?_
  have nd := sc_marks.nd
  have hu := hr.units
  have hu1 := hr.units1
  refine ⟨_, _, (dss_one (ds_ret (de_join de_str (de_lc [("room", 2)] rfl nd (di_r1 m_range (de_var 1)) (blkOk_by (N := ["rooms", "many", "room"]) (sc := defScope s_marks) (by decide +kernel)) (fun _ _ _ _ _ => (dg_name 2 nd)) (fun _ _ _ _ _ => dts_nil) (fun _ _ _ _ _ => (de_if (dt_inI hu1 (de_var 2) (de_var 0)) de_str de_str)) (by decide))))), ?_⟩
  rintro as R ⟨l, n, rfl, hn, hR⟩
  unfold dRet dJoin dC dLc diR1
  refine var_at (i := 1) (d := .int n) rfl ⟨⟨by omega, by omega⟩, ?_⟩
  rw [iota_nat]
  refine lc_of (fun _ => true) (fun (i : Nat) => .str ⟨#[mk1 l i]⟩) _ rfl (List.range n) [] (by rw [List.length_range]; show 0 + n ≤ _; omega) (fun i hi Y N hY hN => ?_) ?_
  · show dIf (dTest (dOp dIn (dVar 2) (dVar 0))) (dC (.str (Str.ofString "1"))) (dC (.str (Str.ofString "0"))) [.dat (.list (nums l)), .dat (.int n), .dat (.int i)] _
    simp only [dIf, dTest, dOp, dVar, dIn, List.getElem?_cons_succ, List.getElem?_cons_zero]
    refine ⟨rfl, sh_nums l, ?_⟩
    rw [any_nums]
    have z := hY rfl
    unfold mk1 at z
    by_cases h : i ∈ l
    · rw [decide_eq_true h]
      rw [if_pos h] at z
      rw [s_one]
      exact z _ rfl
    · rw [decide_eq_false h]
      rw [if_neg h] at z
      rw [s_nul]
      exact z _ rfl
  · rw [List.nil_append, List.filter_eq_self.mpr fun _ _ => rfl]
    have e : (List.range n).map (fun (i : Nat) => PyData.str ⟨#[mk1 l i]⟩) = (mkL n l).map fun c => PyData.str ⟨#[c]⟩ := by
      unfold mkL
      rw [List.map_map]
      rfl
    rw [e]
    simp only [strsOf_ones, sum_ones, join_ones]
    have e3 : (Str.ofString "").length = 0 := by decide +kernel
    rw [e3, mkL_len]
    exact ⟨by omega, [], hR, outs0⟩
theorem ok_are_marks {f : Addr} {fd : FuncData} (F : Fun K "are_marks" "are_marks" s_are_marks f fd)  : FnOkG P w K mg base CX0 1 f fd ["thing", "many"] (spD K S_amarks) := by
  refine fnD F sc_are_marks (fun as R h => by obtain ⟨_, _, rfl, _⟩ := h; rfl) fun cdv A outer s H E hr => ?_
  have nd := sc_are_marks.nd
  have hu := hr.units
  have hu1 := hr.units1
  refine ⟨_, _, (dss_one (ds_ret (de_and (de_isi (T := "str") m_isinstance m_str (by decide +kernel) (de_var 0)) (de_and (de_cmp (op_eqD hu) ro_eq (nomark _) (de_len (ps := default) m_len (de_var 0)) (de_var 1)) (de_one (de_all1 m_all (de_lc [("mark", 2)] rfl nd (di_str (de_var 0)) (blkOk_by (N := ["thing", "many", "mark"]) (sc := defScope s_are_marks) (by decide +kernel)) (fun _ _ _ _ _ => (dg_name 2 nd)) (fun _ _ _ _ _ => dts_nil) (fun _ _ _ _ _ => (de_cmp op_inS ro_inS rfl (de_var 2) de_str)) (by decide)))))))), ?_⟩
  rintro as R ⟨u, n, rfl, hp, hf, hR⟩
  show dAndV (dIsi "str" (dVar 0)) (dAndV (dOp dEq (dLen (dVar 0)) (dVar 1)) (dBools (fun bs => bs.all id) (dLc (diS (dVar 0)) (dgName 2) dYes (dOp (dInT false) (dVar 2) (dC (.str (Str.ofString "01")))) [2]))) [.dat u, .dat (.int n), .no] _
  cases u with
  | str x =>
    have hx := hf x rfl
    have hR : R (.bool (decide (x.length = n) && x.cps.toList.all fun c => decide (c ∈ [48, 49]))) [] := hR
    simp only [dAndV, dIsi, dVar, tyD, List.getElem?_cons_zero, List.getElem?_cons_succ, kb_ss, if_true, dOp, dEq, dLen]
    refine ⟨nat_le_size (by omega), rfl, rfl, ?_⟩
    rw [ev_ii]
    by_cases e : x.length = n
    · have e2 : ((x.length : Int) == (n : Int)) = true := by rw [beq_iff_eq]; omega
      rw [decide_eq_true e, Bool.true_and] at hR
      simp only [e2, if_true]
      unfold dBools dLc diS
      refine var_at rfl ?_
      refine lc_of (fun _ => true) (fun (c : Nat) => .bool (decide (c ∈ [48, 49]))) _ rfl x.cps.toList [] (by rw [Array.length_toList]; show 0 + x.length ≤ _; omega) (fun c hc Y N hY hN => ?_) ?_
      · show dOp (dInT false) (dVar 2) (dC (.str (Str.ofString "01"))) [.dat (.str x), .dat (.int n), .dat (.str ⟨#[c]⟩)] Y
        have z := hY rfl
        simp only [dOp, dVar, dC, dInT, List.getElem?_cons_succ, List.getElem?_cons_zero, s_01]
        exact z _ rfl
      · rw [List.nil_append, List.filter_eq_self.mpr fun _ _ => rfl]
        have e3 : x.cps.toList.map (fun c => PyData.bool (decide (c ∈ [48, 49]))) = (x.cps.toList.map fun c => decide (c ∈ [48, 49])).map PyData.bool := by
          rw [List.map_map]
          rfl
        rw [e3]
        simp only [bools_of, all_id]
        exact ⟨[], hR, outs0⟩
    · have e2 : ((x.length : Int) == (n : Int)) = false := by rw [beq_eq_false_iff_ne]; omega
      rw [decide_eq_false e, Bool.false_and] at hR
      simp only [e2, Bool.false_eq_true, if_false]
      exact ⟨[], hR, outs0⟩
  | dict ds => cases hp
  | none => exact ⟨[], hR, outs0⟩
  | bool b => exact ⟨[], hR, outs0⟩
  | int z => exact ⟨[], hR, outs0⟩
  | list ds => exact ⟨[], hR, outs0⟩
  | tuple ds => exact ⟨[], hR, outs0⟩
theorem ok_marked {f : Addr} {fd : FuncData} (F : Fun K "marked" "marked" s_marked f fd)  : FnOkG P w K mg base CX0 1 f fd ["text"] (spN K S_marked) := by
  refine fnN F sc_marked (fun as R h => by obtain ⟨_, _, rfl, _⟩ := h; rfl) fun cdv A outer s H E hr => ?_
  have nd := sc_marked.nd
  have hu := hr.units
  have hu1 := hr.units1
  refine ⟨_, _, (dss_one (ds_lcRet [("room", 1), ("mark", 2)] rfl nd (di_enumS m_enumerate (de_var 0)) (blkOk_by (N := ["text", "room", "mark"]) (sc := defScope s_marked) (by decide +kernel)) (fun _ _ _ _ _ => (dg_tupI (n := 2) rfl (dgs_cons (dg_name 1 nd) (dgs_cons (dg_name 2 nd) dgs_nil)))) (fun _ _ _ _ _ => (dts_one (dt_eqC hu (de_var 2) de_str))) (fun _ _ _ _ _ => (de_var 1)) (by decide))), ?_⟩
  rintro as R ⟨l, n, rfl, hn, hR⟩
  unfold dLcRet diEnumS
  refine var_at rfl ?_
  show lcW _ _ _ _ _ (enumD (signsD (mkS n l))) _ _
  rw [enum_mk]
  refine lc_of (fun i => decide (i ∈ l)) (fun (i : Nat) => .int (i : Int)) _ rfl (List.range n) [] (by rw [List.length_range]; show 0 + n ≤ _; omega) (fun i hi Y N hY hN => ?_) ?_
  · refine ⟨rfl, ?_⟩
    show dTest (dOp dEq (dVar 2) (dC (.str (Str.ofString "1")))) [.dat (.str (mkS n l)), .dat (.int i), .dat (.str ⟨#[mk1 l i]⟩)] fun b δ2 => if b = true then dVar 1 δ2 Y else N δ2
    simp only [dTest, dOp, dEq, dVar, dC, List.getElem?_cons_succ, List.getElem?_cons_zero]
    unfold mk1 at hY hN ⊢
    by_cases h : i ∈ l
    · rw [if_pos h, s_one]
      refine ⟨by decide +kernel, by decide +kernel, ?_⟩
      rw [show PyData.eqv (.str ⟨#[49]⟩) (.str ⟨#[49]⟩) = true from by decide +kernel]
      exact hY (decide_eq_true h) _ rfl
    · rw [if_neg h, s_one]
      refine ⟨by decide +kernel, by decide +kernel, ?_⟩
      rw [show PyData.eqv (.str ⟨#[48]⟩) (.str ⟨#[49]⟩) = false from by decide +kernel]
      exact hN (decide_eq_false h) _ rfl
  · rw [List.nil_append]
    exact ⟨[], hR, outs0⟩
end
end K30

set_option Elab.async false
set_option linter.all false
set_option maxRecDepth 100000
set_option maxHeartbeats 4000000
/-! K30h: rooms written and read -/
namespace K30
open PySem PySem.Spec L2 TL
section
variable {P : Program} {w : World} {K : PySem.W.Frag} {mg : Str → Option Value} {base : Heap}
variable (m_len : mg "len" = none) (m_isinstance : mg "isinstance" = none) (m_str : mg "str" = none) (m_bool : mg "bool" = none) (m_range : mg "range" = none) (m_int : mg "int" = none) (m_max : mg "max" = none) (m_min : mg "min" = none) (m_set : mg "set" = none) (m_tuple : mg "tuple" = none) (m_list : mg "list" = none) (m_enumerate : mg "enumerate" = none) (m_all : mg "all" = none) (m_sorted : mg "sorted" = none) (m_repr : mg "repr" = none) (m_IndexError : mg "IndexError" = none) (m_ValueError : mg "ValueError" = none)
include m_len m_isinstance m_str m_bool m_range m_int m_max m_min m_set m_tuple m_list m_enumerate m_all m_sorted m_repr m_IndexError m_ValueError
theorem ok_rooms_text {f : Addr} {fd : FuncData} (F : FunA K "rooms_text" "rooms_text" s_rooms_text f fd) {cM cR : Addr} (k_look_at : KnX P w K mg base 6 "look_at" (S_look cM)) (k_look_at_room : KnX P w K mg base 4 "look_at_room" (S_lroom cR)) (k_marks : Kn P w K mg base 1 "marks" S_marks) : FnOkG P w K mg base (L2.CX P w) 7 f fd ["machine", "rooms"] (spX K (S_rtext cM cR)) := by
  refine fnXA F sc_rooms_text (fun as R Xr h => by obtain ⟨_, _, rfl, _⟩ := h; rfl) fun cdv A outer s H E hr xw tk => ?_
  have nd := sc_rooms_text.nd
  have hu := hr.units
  have hu1 := hr.units1
  refine ⟨_, _, (dss_cons (ds_expr (de_callX tk k_look_at hr (by omega) (dca_d (de_var 0) dca_nil)))
    (dss_cons (ds_for (passes_of rfl) rfl (di_list (de_var 1)) (dg_name 2 nd)
    (dss_one (ds_expr (de_callX tk k_look_at_room hr (by omega) (dca_d (de_var 2) (dca_d (de_ix ix_tup ro_ixT (de_var 0) de_int) dca_nil))))))
    (dss_one (ds_ret (de_call k_marks hr (by omega) (dca_d (de_var 1) (dca_d (de_ix ix_tup ro_ixT (de_var 0) de_int) dca_nil))))))), ?_⟩
  rintro as R Xr ⟨t, u, rfl, hS⟩ hx
  rcases hS with ⟨m, l, rfl, hm, rfl, hl, hR⟩ | ⟨m, a, odd, rest, rfl, hm, rfl, ha, hp, hi, hX⟩ | ⟨m, p, hm, hB, hX⟩
  · refine sq_drop (call_x1 [m.d] (fun Q z => z) (monox_look cM) ⟨_, rfl, .inl ⟨m, rfl, hm, rfl, ?_⟩⟩)
    show dSeq (dFor (diL (dVar 1)) (dgName 2) (dDrop (dCallX (S_lroom cR) (cD (dVar 2) (cD (dOp dIxT (dVar 0) (dC (.int 0))) cNil))))) (dRet (dCall S_marks (cD (dVar 1) (cD (dOp dIxT (dVar 0) (dC (.int 0))) cNil)))) _ [.dat m.d, .dat (.list (nums l)), .no]
    have fin : ∀ s : Sl, dRet (dCall S_marks (cD (dVar 1) (cD (dOp dIxT (dVar 0) (dC (.int 0))) cNil))) (endsOf R) [.dat m.d, .dat (.list (nums l)), s] := fun s =>
      call_pure2 [.list (nums l), .int m.n] (fun Q z => z) mono_marks ⟨l, m.n, rfl, hm.n.2, rfl, [], hR, outs0⟩
    have go : ∀ (k : List Nat), (∀ i ∈ k, i < m.n) → ∀ s : Sl, forW (dgName 2) (dDrop (dCallX (S_lroom cR) (cD (dVar 2) (cD (dOp dIxT (dVar 0) (dC (.int 0))) cNil)))) { endsOf R with nx := dRet (dCall S_marks (cD (dVar 1) (cD (dOp dIxT (dVar 0) (dC (.int 0))) cNil))) (endsOf R) } (nums k) [.dat m.d, .dat (.list (nums l)), s] := fun k => by
      induction k with
      | nil => exact fun _ s => fin s
      | cons i r ih =>
        intro hk s
        refine call_x1 (δ' := [.dat m.d, .dat (.list (nums l)), .dat (.int (i : Int))]) [.int (i : Int), .int m.n] (fun Q z => z) (monox_lroom cR) ⟨_, _, rfl, rfl, fun _ => ⟨rfl, ih (fun j hj => hk j (List.mem_cons_of_mem _ hj)) _⟩, fun e => ?_⟩
        rw [inR_of (hk i List.mem_cons_self)] at e
        cases e
    exact go l hl .no
  · refine sq_drop (call_x1 [m.d] (fun Q z => z) (monox_look cM) ⟨_, rfl, .inl ⟨m, rfl, hm, rfl, ?_⟩⟩)
    have go : ∀ (E : DEnds) (k : List Nat), (∀ i ∈ k, i < m.n) → ∀ s : Sl, forW (dgName 2) (dDrop (dCallX (S_lroom cR) (cD (dVar 2) (cD (dOp dIxT (dVar 0) (dC (.int 0))) cNil)))) E (nums k ++ odd :: rest) [.dat m.d, .dat (.list (nums a ++ odd :: rest)), s] := fun E k => by
      induction k with
      | nil =>
        intro _ s
        refine call_x1 (δ' := [.dat m.d, .dat (.list (nums a ++ odd :: rest)), .dat odd]) [odd, .int m.n] (fun Q z => z) (monox_lroom cR) ⟨_, _, rfl, hp, fun e => ?_, fun _ => ⟨rfl, ?_⟩⟩
        · rw [hi] at e
          cases e
        · rw [hx]
          exact ⟨[], hX, outs0⟩
      | cons i r ih =>
        intro hk s
        refine call_x1 (δ' := [.dat m.d, .dat (.list (nums a ++ odd :: rest)), .dat (.int (i : Int))]) [.int (i : Int), .int m.n] (fun Q z => z) (monox_lroom cR) ⟨_, _, rfl, rfl, fun _ => ⟨rfl, ih (fun j hj => hk j (List.mem_cons_of_mem _ hj)) _⟩, fun e => ?_⟩
        rw [inR_of (hk i List.mem_cons_self)] at e
        cases e
    exact go _ a ha .no
  · refine sq_drop (call_x1 [t] (fun Q z => z) (monox_look cM) ⟨_, rfl, .inr ⟨m, p, hm, hB, fun k => ⟨rfl, ?_⟩⟩⟩)
    rw [hx]
    exact ⟨[], hX k, outs0⟩
theorem ok_rooms_in {f : Addr} {fd : FuncData} (F : Fun K "rooms_in" "rooms_in" s_rooms_in f fd) {cM cW : Addr} (k_look_at : KnX P w K mg base 6 "look_at" (S_look cM)) (k_are_marks : Kn P w K mg base 1 "are_marks" S_amarks) (k_marked : KnN P w K mg base 1 "marked" S_marked) (kn_NoWord : KnE P w K mg base "NoWord" cW ["at"]) : FnOkG P w K mg base (L2.CX P w) 7 f fd ["machine", "text"] (spXN K (S_rin cM cW)) := by
  refine fnXN F sc_rooms_in (fun as R Xr h => by obtain ⟨_, _, rfl, _⟩ := h; rfl) fun cdv A outer s H E hr xw tk => ?_
  have nd := sc_rooms_in.nd
  have hu := hr.units
  have hu1 := hr.units1
  refine ⟨_, _, (dss_cons (ds_expr (de_callX tk k_look_at hr (by omega) (dca_d (de_var 0) dca_nil)))
    (dss_cons (ds_if (dt_not (dt_val (de_call k_are_marks hr (by omega) (dca_d (de_var 1) (dca_d (de_ix ix_tup ro_ixT (de_var 0) de_int) dca_nil))))) (dss_one (ds_raise rfl tk kn_NoWord hr (by omega) (da_cons de_non da_nil))) dss_nil)
    (dss_one (ds_retCallN k_marked hr (by omega) (dca_d (de_var 1) dca_nil))))), ?_⟩
  rintro as R Xr ⟨t, u, rfl, hS⟩ hx
  rcases hS with ⟨m, l, rfl, hm, rfl, hR⟩ | ⟨m, rfl, hm, hu1, hX⟩ | ⟨m, p, hm, hB, hX⟩
  · refine sq_drop (call_x1 [m.d] (fun Q z => z) (monox_look cM) ⟨_, rfl, .inl ⟨m, rfl, hm, rfl, ?_⟩⟩)
    refine sq_if ?_
    simp only [dNot, dTest]
    refine call_pure2 (δ' := [.dat m.d, .dat (.str (mkS m.n l))]) [.str (mkS m.n l), .int m.n] (fun Q z => z) mono_amarks ⟨_, m.n, rfl, rfl, fun x e => ?_, rfl, ?_⟩
    · cases e
      rw [mkS_len]
      have := hm.n
      omega
    · rw [isMk_mk]
      show dRetCallN S_marked (cD (dVar 1) cNil) (endsNew R) [.dat m.d, .dat (.str (mkS m.n l))]
      exact ret_new (δ' := [.dat m.d, .dat (.str (mkS m.n l))]) [.str (mkS m.n l)] (fun Q z => z) mono_marked ⟨l, m.n, rfl, hm.n.2, rfl, [], hR, outs0⟩
  · refine sq_drop (call_x1 [m.d] (fun Q z => z) (monox_look cM) ⟨_, rfl, .inl ⟨m, rfl, hm, rfl, ?_⟩⟩)
    refine sq_if ?_
    simp only [dNot, dTest]
    refine call_pure2 (δ' := [.dat m.d, .dat u]) [u, .int m.n] (fun Q z => z) mono_amarks ⟨_, m.n, rfl, hu1.p, hu1.few, rfl, ?_⟩
    rw [hu1.no]
    refine ⟨rfl, by decide, ?_⟩
    rw [hx]
    exact ⟨[], hX, outs0⟩
  · refine sq_drop (call_x1 [t] (fun Q z => z) (monox_look cM) ⟨_, rfl, .inr ⟨m, p, hm, hB, fun k => ⟨rfl, ?_⟩⟩⟩)
    rw [hx]
    exact ⟨[], hX k, outs0⟩
end
end K30

set_option Elab.async false
set_option linter.all false
set_option maxRecDepth 100000
set_option maxHeartbeats 4000000
/-! K30j: what a law draws: rooms, machines -/
namespace K30
open PySem PySem.Spec L2 TL
abbrev s_law_rooms : Stmt := top 25
theorem sc_law_rooms : FnScope ["_law_hand_here", "_law_size", "_law_some", "_law_room"] ["_law_hand_here", "_law_size"] (defScope s_law_rooms) := ⟨rfl, rfl, rfl, by decide +kernel, rfl, by decide +kernel, by decide +kernel⟩
abbrev s_law_machine : Stmt := top 27
theorem sc_law_machine : FnScope ["_law_hand_here", "_law_upto", "_law_extra", "_law_letters_here", "_law_rooms_here", "_law_firsts", "_law_lasts", "_law_steps", "_law_k", "_law_step"] ["_law_hand_here", "_law_upto", "_law_extra", "_law_letters_here"] (defScope s_law_machine) := ⟨rfl, rfl, rfl, by decide +kernel, rfl, by decide +kernel, by decide +kernel⟩
abbrev s_law_text : Stmt := top 29
theorem sc_law_text : FnScope ["_law_machine_here", "_law_rooms_here", "_law_room"] ["_law_machine_here", "_law_rooms_here"] (defScope s_law_text) := ⟨rfl, rfl, rfl, by decide +kernel, rfl, by decide +kernel, by decide +kernel⟩
theorem okR_len {n : Nat} {l : List Nat} (h : okR n l) : l.length ≤ n := by
  have key : ∀ (l : List Nat) (lo : Nat), l.Pairwise (· < ·) → (∀ i ∈ l, lo ≤ i ∧ i < n) → l.length + lo ≤ n ∨ l = [] := by
    intro l
    induction l with
    | nil => exact fun _ _ _ => .inr rfl
    | cons a r ih =>
      intro lo hp hb
      obtain ⟨h1, h2⟩ := List.pairwise_cons.mp hp
      have ha := hb a List.mem_cons_self
      left
      rcases ih (a + 1) h2 (fun i hi => ⟨h1 i hi, (hb i (List.mem_cons_of_mem _ hi)).2⟩) with z | z
      · rw [List.length_cons]
        omega
      · rw [z]
        show 0 + 1 + lo ≤ n
        omega
  rcases key l 0 h.1 fun i hi => ⟨Nat.zero_le _, h.2 i hi⟩ with z | z
  · omega
  · rw [z]
    exact Nat.zero_le _
theorem mono_draw : MonoS S_draw := fun as R R' h ⟨x, y, n, a, b, c, k⟩ => ⟨x, y, n, a, b, c, fun r x' y' d e => h _ _ (k r x' y' d e)⟩
/-- turns that are counted -/
theorem for_len {g : DTG} {u : DTS} {E : DEnds} (I : Nat → List Sl → Prop) (N : Nat) (he : ∀ δ, I N δ → E.nx δ) : ∀ (ds : List PyData) (n : Nat) (δ : List Sl), n + ds.length = N → I n δ →
    (∀ d ∈ ds, ∀ n δ, n < N → I n δ → ∀ M : List Sl → Prop, (∀ δ', I (n + 1) δ' → M δ') → g d δ fun δ1 => u { E with nx := M, ct := M, bk := E.nx } δ1) → forW g u E ds δ
  | [], n, δ, hn, hi, _ => he δ (by rw [List.length_nil, Nat.add_zero] at hn; rw [← hn]; exact hi)
  | d :: r, n, δ, hn, hi, hs => by
    rw [List.length_cons] at hn
    exact hs d List.mem_cons_self n δ (by omega) hi _ fun δ' h' => for_len I N he r (n + 1) δ' (by omega) h' fun d' hd' => hs d' (List.mem_cons_of_mem _ hd')
def S_lrooms : DSp := fun as R => ∃ (x y : Int) (n : Nat), as = [.own (some 0) [.int x, .int y], .dat (.int (n : Int))] ∧ okH x y ∧ (1 ≤ n ∧ n ≤ 12) ∧ ∀ (l : List Nat) (x' y' : Int), okR n l → okH x' y' → R (.list (nums l)) [[.int x', .int y']]
theorem mono_lrooms : MonoS S_lrooms := fun as R R' h ⟨x, y, n, a, b, c, k⟩ => ⟨x, y, n, a, b, c, fun l x' y' d e => h _ _ (k l x' y' d e)⟩
theorem rooms_turns {R : List PyData → List Sl → Prop} {t : Option Nat} {b s2 : Sl} {n : Nat} (hn : n ≤ 12) : ∀ (m k : Nat) (a : List Nat) (x y : Int) (s : Sl), k + m = n → okH x y → a.Pairwise (· < ·) → (∀ i ∈ a, i < k) →
    (∀ (a' : List Nat) (x' y' : Int) (s' : Sl), okR n a' → okH x' y' → R (nums a') [.own t [.int x', .int y'], b, s2, s']) →
    lcW [3] (dgName 3) (dTest (dOp dEq (dCall S_draw (cS 0 (cD (dC (.int 3)) cNil))) (dC (.int 0)))) (dVar 3) R ((List.range' k m).map fun (i : Nat) => PyData.int (i : Int)) (nums a) [.own t [.int x, .int y], b, s2, s]
  | 0, k, a, x, y, s, hk, hv, hp, hb, h => h a x y s ⟨hp, fun i hi => by have := hb i hi; omega⟩ hv
  | m + 1, k, a, x, y, s, hk, hv, hp, hb, h => by
    rw [List.range'_succ, List.map_cons]
    simp only [lcW, dgName, wipeS, List.set_cons_succ, List.set_cons_zero, ↓reduceIte, dTest, dOp, dC]
    refine call_draw (i := 0) (t := t) (n := 3) rfl hv ⟨by decide, by decide⟩ (fun Q q => q) fun r x' y' hr hv' => ?_
    refine ⟨rfl, rfl, ?_⟩
    simp only [ev_ii, List.set_cons_zero]
    have la : a.length ≤ 12 := Nat.le_trans (okR_len (n := n) ⟨hp, fun i hi => by have := hb i hi; omega⟩) hn
    by_cases h0 : r = 0
    · rw [if_pos (by rw [h0]; rfl)]
      refine var_at (i := 3) (d := .int (k : Int)) rfl ⟨by rw [nums_len, sizeLine_eq]; omega, ?_⟩
      have e2 : nums a ++ [PyData.int (k : Int)] = nums (a ++ [k]) := by
        unfold nums
        rw [List.map_append]
        rfl
      rw [e2]
      refine rooms_turns hn m (k + 1) (a ++ [k]) x' y' _ (by omega) hv' ?_ (fun i hi => ?_) h
      · rw [List.pairwise_append]
        refine ⟨hp, List.pairwise_singleton _ _, fun i hi j hj => ?_⟩
        rw [List.mem_singleton.mp hj]
        exact hb i hi
      · rcases List.mem_append.mp hi with z | z
        · have := hb i z
          omega
        · rw [List.mem_singleton.mp z]
          omega
    · rw [if_neg (by rw [beq_iff_eq]; exact h0)]
      exact rooms_turns hn m (k + 1) a x' y' _ (by omega) hv' hp (fun i hi => by have := hb i hi; omega) h
/-- letters to draw from -/
def okL (z : Str) : Prop := (1 ≤ z.length ∧ z.length ≤ 3) ∧ ∀ c ∈ z.cps.toList, small c = true
theorem small_lt {c : Nat} (h : small c = true) : c < 1114112 := by
  unfold small at h
  rw [Bool.and_eq_true] at h
  have := of_decide_eq_true h.2
  omega
theorem okL_at {z : Str} (h : okL z) {r : Int} (hr : 0 ≤ r ∧ r < (z.length : Int)) : ∃ c, small c = true ∧ atI z.cps.toList r = some c := by
  have lz : z.cps.toList.length = z.length := by rw [Array.length_toList]; rfl
  have hl : r.toNat < z.cps.toList.length := by rw [lz]; omega
  refine ⟨z.cps.toList[r.toNat], h.2 _ (List.getElem_mem hl), ?_⟩
  have z := atI_nat (List.getElem?_eq_getElem hl)
  rw [show ((r.toNat : Nat) : Int) = r by omega] at z
  exact z
def S_lmach : DSp := fun as R => ∃ (x y : Int) (z : Str), as = [.own (some 0) [.int x, .int y], .dat (.int 12), .dat (.int 5), .dat (.str z)] ∧ okH x y ∧ okL z ∧ ∀ (m : Mc) (x' y' : Int), m.ok → okH x' y' → R m.d [[.int x', .int y']]
theorem mono_lmach : MonoS S_lmach := fun as R R' h ⟨x, y, z, a, b, c, k⟩ => ⟨x, y, z, a, b, c, fun l x' y' d e => h _ _ (k l x' y' d e)⟩
theorem eqv_step (a b : Sp3) : PyData.eqv (stepD a) (stepD b) = decide (a = b) := by
  obtain ⟨a1, a2, a3⟩ := a
  obtain ⟨b1, b2, b3⟩ := b
  rw [Bool.eq_iff_iff, decide_eq_true_iff]
  simp [stepD, PyData.eqv, PyData.eqvAll]
  omega
theorem any_steps (s : Sp3) : ∀ ss : List Sp3, ((ss.map stepD).any fun z => PyData.eqv z (stepD s)) = decide (s ∈ ss)
  | [] => rfl
  | c :: r => by
    show (PyData.eqv (stepD c) (stepD s) || (r.map stepD).any _) = _
    rw [any_steps s r, eqv_step, Bool.eq_iff_iff, Bool.or_eq_true, decide_eq_true_iff, decide_eq_true_iff, decide_eq_true_iff, List.mem_cons]
    exact ⟨fun h => h.imp Eq.symm id, fun h => h.imp Eq.symm id⟩
theorem lay_step {s : Sp3} (h : small s.2.1 = true) : PyData.canLay0 (stepD s) = true ∧ PyData.depth (stepD s) = 1 := by
  have a : PyData.strOk ⟨#[s.2.1]⟩ = true := strOk_of (okC_one (small_lt h))
  constructor
  · show (true && (PyData.strOk ⟨#[s.2.1]⟩ && (true && true))) = true
    rw [a]
    rfl
  · rfl
theorem sh_step {s : Sp3} (h : small s.2.1 = true) : SeqAt.shaped (stepD s) = true := by
  obtain ⟨a, b⟩ := lay_step h
  unfold SeqAt.shaped
  rw [Bool.and_eq_true]
  refine ⟨a, decide_eq_true ?_⟩
  rw [b]
  decide
theorem sh_steps {ss : List Sp3} (h : ∀ s ∈ ss, small s.2.1 = true) : SeqAt.shaped (.list (ss.map stepD)) = true := by
  have a : PyData.canLayAll0 (ss.map stepD) = true ∧ PyData.depthAll (ss.map stepD) ≤ 1 := by
    induction ss with
    | nil => exact ⟨rfl, Nat.zero_le _⟩
    | cons c r ih =>
      obtain ⟨i1, i2⟩ := ih fun s hs => h s (List.mem_cons_of_mem _ hs)
      obtain ⟨j1, j2⟩ := lay_step (h c List.mem_cons_self)
      constructor
      · show (PyData.canLay0 (stepD c) && PyData.canLayAll0 (r.map stepD)) = true
        rw [i1, j1]
        rfl
      · show max (PyData.depth (stepD c)) (PyData.depthAll (r.map stepD)) ≤ 1
        rw [j2]
        omega
  unfold SeqAt.shaped
  rw [Bool.and_eq_true]
  refine ⟨a.1, decide_eq_true ?_⟩
  show PyData.depthAll _ + 1 ≤ 64
  have := a.2
  omega
theorem call_lrooms {i : Nat} {x y : Int} {t : Option Nat} {δ : List Sl} {R : DQ} {u : DTE} {n : Nat} (hs : δ[i]? = some (.own t [.int x, .int y])) (hv : okH x y) (hn : 1 ≤ n ∧ n ≤ 12) (hu : ∀ Q : DQ, Q (.int (n : Int)) δ → u δ Q)
    (k : ∀ (l : List Nat) (x' y' : Int), okR n l → okH x' y' → R (.list (nums l)) (δ.set i (.own t [.int x', .int y']))) : dCall S_lrooms (cS i (cD u cNil)) δ R :=
  call_own1 hs [.int (n : Int)] (fun Q q => hu _ q) ⟨x, y, n, rfl, hv, hn, fun z x' y' a b => ⟨_, rfl, k z x' y' a b⟩⟩ (mono_lrooms _)
theorem sq_own {i : Nat} {u : DTA} {rest : DTS} {E : DEnds} {δ : List Sl} (h : u δ fun ds δ1 => ds.length ≤ sizeLine ∧ rest E (δ1.set i (.own none ds))) : dSeq (dAsgOwn i u) rest E δ := h
theorem sh_one {c : Nat} (h : small c = true) : SeqAt.shaped (.str ⟨#[c]⟩) = true := sh_str (strOk_of (okC_one (small_lt h)))
def S_ltext : DSp := fun as R => ∃ (m : Mc) (l : List Nat), as = [.dat m.d, .dat (.list (nums l))] ∧ m.ok ∧ R (.str (mkS m.n l)) []
theorem mono_ltext : MonoS S_ltext := fun as R R' h ⟨l, n, a, b, k⟩ => ⟨l, n, a, b, h _ _ k⟩
section
variable {P : Program} {w : World} {K : PySem.W.Frag} {mg : Str → Option Value} {base : Heap}
variable (m_len : mg "len" = none) (m_isinstance : mg "isinstance" = none) (m_str : mg "str" = none) (m_bool : mg "bool" = none) (m_range : mg "range" = none) (m_int : mg "int" = none) (m_max : mg "max" = none) (m_min : mg "min" = none) (m_set : mg "set" = none) (m_tuple : mg "tuple" = none) (m_list : mg "list" = none) (m_enumerate : mg "enumerate" = none) (m_all : mg "all" = none) (m_sorted : mg "sorted" = none) (m_repr : mg "repr" = none) (m_IndexError : mg "IndexError" = none) (m_ValueError : mg "ValueError" = none)
include m_len m_isinstance m_str m_bool m_range m_int m_max m_min m_set m_tuple m_list m_enumerate m_all m_sorted m_repr m_IndexError m_ValueError
theorem ok_law_rooms {f : Addr} {fd : FuncData} (F : Fun K "_law_rooms" "_law_rooms" s_law_rooms f fd) (k_law_draw : Kn P w K mg base 1 "_law_draw" S_draw) : FnOkG P w K mg base CX0 2 f fd ["_law_hand_here", "_law_size"] (spD K S_lrooms) := by
  refine fnD F sc_law_rooms (fun as R h => by obtain ⟨_, _, _, rfl, _⟩ := h; rfl) fun cdv A outer s H E hr => ?_
  have nd := sc_law_rooms.nd
  have hu := hr.units
  have hu1 := hr.units1
  refine ⟨_, _, (dss_cons (ds_if (dt_cmp (op_eqD hu) ro_eq (nomark _) (de_call k_law_draw hr (by omega) (dca_s 0 (dca_d de_int dca_nil))) de_int) (dss_one (ds_ret (de_lst da_nil))) dss_nil)
    (dss_cons (ds_setLc 2 [("_law_room", 3)] rfl nd (di_r1 m_range (de_var 1)) (blkOk_by (N := ["_law_hand_here", "_law_size", "_law_some", "_law_room"]) (sc := defScope s_law_rooms) (by decide +kernel)) (fun _ _ _ _ _ => (dg_name 3 nd)) (fun _ _ _ _ _ => (dts_one (dt_eqC hu (de_callI k_law_draw hr (by omega) (dca_s 0 (dca_d de_int dca_nil))) de_int))) (fun _ _ _ _ _ => (de_var 3)) (by decide) (sw_true rfl rfl rfl (by decide +kernel)))
    (dss_one (ds_ret (de_orT (de_var 2) (de_one (de_lst (da_cons (de_call k_law_draw hr (by omega) (dca_s 0 (dca_d (de_var 1) dca_nil))) da_nil)))))))), ?_⟩
  rintro as R ⟨x, y, n, rfl, hv, hn, hR⟩
  refine sq_if ?_
  simp only [dTest, dOp, dC]
  refine call_draw (i := 0) (t := some 0) (n := 14) rfl hv ⟨by decide, by decide⟩ (fun Q q => q) fun r x1 y1 hr hv1 => ?_
  refine ⟨rfl, rfl, ?_⟩
  simp only [ev_ii]
  by_cases h0 : r = 0
  · rw [if_pos (by rw [h0]; rfl)]
    exact ⟨nat_le_size (by decide), _, hR [] x1 y1 ⟨List.Pairwise.nil, fun i hi => by cases hi⟩ hv1, outs1 0 rfl⟩
  · rw [if_neg (by rw [beq_iff_eq]; exact h0)]
    refine sq_asg ?_
    unfold dLc diR1
    show dVar 1 [.own (some 0) [.int x1, .int y1], .dat (.int n), .no, .no] _
    refine var_at (i := 1) (d := .int n) rfl ⟨⟨by omega, by omega⟩, ?_⟩
    rw [iota_nat, List.range_eq_range']
    refine rooms_turns hn.2 n 0 [] x1 y1 .no (by omega) hv1 List.Pairwise.nil (fun i hi => by cases hi) fun l x2 y2 s hl hv2 => ?_
    show dOrT (dVar 2) (dLst (dCons (dCall S_draw (cS 0 (cD (dVar 1) cNil))) dNil)) [.own (some 0) [.int x2, .int y2], .dat (.int n), .dat (.list (nums l)), s] _
    unfold dOrT
    refine var_at (i := 2) (d := .list (nums l)) rfl ?_
    cases l with
    | cons a b => exact ⟨_, hR (a :: b) x2 y2 hl hv2, outs1 0 rfl⟩
    | nil =>
      show dCall S_draw (cS 0 (cD (dVar 1) cNil)) [.own (some 0) [.int x2, .int y2], .dat (.int n), .dat (.list (nums [])), s] _
      refine call_draw (i := 0) (t := some 0) (n := n) rfl hv2 ⟨by omega, by omega⟩ (fun Q q => q) fun r2 x3 y3 hr2 hv3 => ?_
      refine ⟨nat_le_size (by show 1 ≤ 16777216; decide), ?_⟩
      have e : (r2 : Int) = ((r2.toNat : Nat) : Int) := by omega
      have z := hR [r2.toNat] x3 y3 ⟨List.pairwise_singleton _ _, fun i hi => by rw [List.mem_singleton.mp hi]; omega⟩ hv3
      refine ⟨_, ?_, outs1 0 rfl⟩
      rw [e]
      exact z
theorem ok_law_machine {f : Addr} {fd : FuncData} (F : Fun K "_law_machine" "_law_machine" s_law_machine f fd) (k_law_draw : Kn P w K mg base 1 "_law_draw" S_draw) (k_law_rooms : Kn P w K mg base 2 "_law_rooms" S_lrooms) : FnOkG P w K mg base CX0 3 f fd ["_law_hand_here", "_law_upto", "_law_extra", "_law_letters_here"] (spD K S_lmach) := by
  refine fnD F sc_law_machine (fun as R h => by obtain ⟨_, _, _, rfl, _⟩ := h; rfl) fun cdv A outer s H E hr => ?_
  have nd := sc_law_machine.nd
  have hu := hr.units
  have hu1 := hr.units1
  refine ⟨_, _, (dss_cons (ds_set 4 nd (de_op op_add ro_I de_int (de_call k_law_draw hr (by omega) (dca_s 0 (dca_d (de_var 1) dca_nil)))))
    (dss_cons (ds_set 5 nd (de_call k_law_rooms hr (by omega) (dca_s 0 (dca_d (de_var 4) dca_nil))))
    (dss_cons (ds_set 6 nd (de_call k_law_rooms hr (by omega) (dca_s 0 (dca_d (de_var 4) dca_nil))))
    (dss_cons (ds_own 7 nd da_nil)
    (dss_cons (ds_for PassesOwn.never rfl (di_r1 m_range (de_call k_law_draw hr (by omega) (dca_s 0 (dca_d (de_op op_add ro_I (de_var 4) (de_var 2)) dca_nil)))) (dg_name 8 nd)
    (dss_cons (ds_set 9 nd (de_tup (da_cons (de_call k_law_draw hr (by omega) (dca_s 0 (dca_d (de_var 4) dca_nil))) (da_cons (de_ix ix_str ro_ixS (de_var 3) (de_call k_law_draw hr (by omega) (dca_s 0 (dca_d (de_len (ps := default) m_len (de_var 3)) dca_nil)))) (da_cons (de_call k_law_draw hr (by omega) (dca_s 0 (dca_d (de_var 4) dca_nil))) da_nil)))))
    (dss_one (ds_if (dt_notInV 7 hu1 (de_var 9)) (dss_one (ds_app 7 (de_var 9) (pe_bm PySem.F.plainAttrs_list PySem.F.slot_list_append PySem.F.type_list_append mt_append (pv 7) (pa_cons (DE.pe (de_var 9)) pa_nil)))) dss_nil))))
    (dss_one (ds_ret (de_tup (da_cons (de_var 4) (da_cons (de_var 5) (da_cons (de_var 6) (da_cons (de_var 7) da_nil)))))))))))), ?_⟩
  rintro as R ⟨x, y, z, rfl, hv, hz, hR⟩
  refine sq_asg ?_
  simp only [dOp, dC]
  refine call_draw (i := 0) (t := some 0) (n := 12) rfl hv ⟨by decide, by decide⟩ (fun Q q => q) fun r x1 y1 hr hv1 => ?_
  obtain ⟨n, hn⟩ : ∃ n : Nat, 1 + r = (n : Int) := ⟨(1 + r).toNat, by omega⟩
  simp only [dI, hn]
  have n1 : 1 ≤ n ∧ n ≤ 12 := by omega
  refine sq_asg (call_lrooms (i := 0) (t := some 0) (n := n) rfl hv1 n1 (fun Q q => q) fun fs x2 y2 hfs hv2 => ?_)
  refine sq_asg (call_lrooms (i := 0) (t := some 0) (n := n) rfl hv2 n1 (fun Q q => q) fun ls x3 y3 hls hv3 => ?_)
  refine sq_own ⟨nat_le_size (by decide), ?_⟩
  show dSeq (dFor (diR1 (dCall S_draw (cS 0 (cD (dOp (dI fun i j => i + j) (dVar 4) (dVar 2)) cNil)))) (dgName 8) (dSeq (dAsg (dTup (dCons (dCall S_draw (cS 0 (cD (dVar 4) cNil))) (dCons (dOp dIxS (dVar 3) (dCall S_draw (cS 0 (cD (dLen (dVar 3)) cNil)))) (dCons (dCall S_draw (cS 0 (cD (dVar 4) cNil))) dNil)))) (dgName 9)) (dIfS (dTest (dNotInV 7 (dVar 9))) (dApp 7 (dVar 9)) dNext))) (dRet (dTup (dCons (dVar 4) (dCons (dVar 5) (dCons (dVar 6) (dCons (dVar 7) dNil)))))) _ [.own (some 0) [.int x3, .int y3], .dat (.int 12), .dat (.int 5), .dat (.str z), .dat (.int n), .dat (.list (nums fs)), .dat (.list (nums ls)), .own none (([] : List Sp3).map stepD), .no, .no]
  unfold dSeq dFor diR1
  refine call_draw (i := 0) (t := some 0) (n := (n : Int) + 5) rfl hv3 ⟨by omega, by omega⟩ (fun Q q => q) fun r2 x4 y4 hr2 hv4 => ?_
  refine ⟨⟨by omega, by omega⟩, ?_⟩
  have il : (iotaD 0 r2.toNat).length = r2.toNat := by
    unfold iotaD
    rw [List.length_map, List.length_range]
  refine for_len (fun k δ => ∃ (x y : Int) (ss : List Sp3) (s8 s9 : Sl), δ = [.own (some 0) [.int x, .int y], .dat (.int 12), .dat (.int 5), .dat (.str z), .dat (.int n), .dat (.list (nums fs)), .dat (.list (nums ls)), .own none (ss.map stepD), s8, s9] ∧ okH x y ∧ ss.length ≤ k ∧ ss.Nodup ∧ ∀ s ∈ ss, okP n s) r2.toNat ?_ (iotaD 0 r2.toNat) 0 _ (by rw [il]; omega) ⟨x4, y4, [], .no, .no, rfl, hv4, Nat.le_refl _, List.nodup_nil, fun s hs => by cases hs⟩ ?_
  · rintro δ ⟨x, y, ss, s8, s9, rfl, hv, hl, hd, hs⟩
    have hl' : ss.length ≤ 40 := by omega
    refine ⟨nat_le_size (by show 4 ≤ 16777216; decide), _, hR ⟨n, fs, ls, ss⟩ x y ⟨n1, hfs, hls, hl', hd, hs⟩ hv, outs1 0 rfl⟩
  · rintro d - k δ hk ⟨x, y, ss, s8, s9, rfl, hv, hl, hd, hs⟩ M hM
    show dSeq (dAsg (dTup (dCons (dCall S_draw (cS 0 (cD (dVar 4) cNil))) (dCons (dOp dIxS (dVar 3) (dCall S_draw (cS 0 (cD (dLen (dVar 3)) cNil)))) (dCons (dCall S_draw (cS 0 (cD (dVar 4) cNil))) dNil)))) (dgName 9)) (dIfS (dTest (dNotInV 7 (dVar 9))) (dApp 7 (dVar 9)) dNext) _ [.own (some 0) [.int x, .int y], .dat (.int 12), .dat (.int 5), .dat (.str z), .dat (.int n), .dat (.list (nums fs)), .dat (.list (nums ls)), .own none (ss.map stepD), .dat d, s9]
    refine sq_asg ?_
    unfold dTup dCons
    refine call_draw (i := 0) (t := some 0) (n := n) rfl hv ⟨by omega, by omega⟩ (fun Q q => q) fun a x1 y1 ha hv1 => ?_
    unfold dOp
    refine var_at (i := 3) (d := .str z) rfl ?_
    have hz1 := hz.1
    refine call_draw (i := 0) (t := some 0) (n := (z.length : Int)) rfl hv1 ⟨by omega, by omega⟩ (fun Q q => ⟨nat_le_size (by omega), q⟩) fun b x2 y2 hb hv2 => ?_
    obtain ⟨c, hc, e⟩ := okL_at hz hb
    simp only [dIxS, e]
    refine ⟨nat_le_size (by omega), ?_⟩
    refine call_draw (i := 0) (t := some 0) (n := n) rfl hv2 ⟨by omega, by omega⟩ (fun Q q => q) fun g x3 y3 hg hv3 => ?_
    refine ⟨nat_le_size (by show 3 ≤ 16777216; decide), ?_⟩
    obtain ⟨a', ea⟩ : ∃ a' : Nat, a = (a' : Int) := ⟨a.toNat, by omega⟩
    obtain ⟨g', eg⟩ : ∃ g' : Nat, g = (g' : Int) := ⟨g.toNat, by omega⟩
    subst ea eg
    have hP : okP n (a', c, g') := ⟨by show a' < n; omega, hc, by show g' < n; omega⟩
    show dIfS (dTest (dNotInV 7 (dVar 9))) (dApp 7 (dVar 9)) dNext _ [.own (some 0) [.int x3, .int y3], .dat (.int 12), .dat (.int 5), .dat (.str z), .dat (.int n), .dat (.list (nums fs)), .dat (.list (nums ls)), .own none (ss.map stepD), .dat d, .dat (stepD (a', c, g'))]
    generalize (a', c, g') = s at hP ⊢
    unfold dIfS dTest dNotInV
    refine var_at (i := 9) (d := stepD s) rfl ⟨ss.map stepD, rfl, sh_step hP.2.1, sh_steps fun t ht => (hs t ht).2.1, ?_⟩
    rw [any_steps]
    by_cases hin : s ∈ ss
    · rw [decide_eq_true hin]
      exact hM _ ⟨x3, y3, ss, _, _, rfl, hv3, by omega, hd, hs⟩
    · rw [decide_eq_false hin]
      refine ⟨rfl, var_at (i := 9) (d := stepD s) rfl ⟨by rw [List.length_map, sizeLine_eq]; omega, ?_⟩⟩
      have e2 : ss.map stepD ++ [stepD s] = (ss ++ [s]).map stepD := by rw [List.map_append]; rfl
      show M [.own (some 0) [.int x3, .int y3], .dat (.int 12), .dat (.int 5), .dat (.str z), .dat (.int n), .dat (.list (nums fs)), .dat (.list (nums ls)), .own none (ss.map stepD ++ [stepD s]), .dat d, .dat (stepD s)]
      rw [e2]
      refine hM _ ⟨x3, y3, ss ++ [s], _, _, rfl, hv3, by rw [List.length_append, List.length_singleton]; omega, ?_, fun t ht => ?_⟩
      · exact List.nodup_append.mpr ⟨hd, List.nodup_cons.mpr ⟨List.not_mem_nil, List.nodup_nil⟩, fun p hp q hq e => hin (by
          have hq : q = s := List.mem_singleton.mp hq
          rw [← hq, ← e]
          exact hp)⟩
      · rcases List.mem_append.mp ht with q | q
        · exact hs t q
        · rw [List.mem_singleton.mp q]
          exact hP
theorem ok_law_text {f : Addr} {fd : FuncData} (F : Fun K "_law_text" "_law_text" s_law_text f fd)  : FnOkG P w K mg base CX0 1 f fd ["_law_machine_here", "_law_rooms_here"] (spD K S_ltext) := by
  refine fnD F sc_law_text (fun as R h => by obtain ⟨_, _, rfl, _⟩ := h; rfl) fun cdv A outer s H E hr => ?_
  have nd := sc_law_text.nd
  have hu := hr.units
  have hu1 := hr.units1
  refine ⟨_, _, (dss_one (ds_ret (de_join de_str (de_lc [("_law_room", 2)] rfl nd (di_r1 m_range (de_ix ix_tup ro_ixT (de_var 0) de_int)) (blkOk_by (N := ["_law_machine_here", "_law_rooms_here", "_law_room"]) (sc := defScope s_law_text) (by decide +kernel)) (fun _ _ _ _ _ => (dg_name 2 nd)) (fun _ _ _ _ _ => dts_nil) (fun _ _ _ _ _ => (de_ixLI (de_lst (da_cons de_str (da_cons de_str da_nil))) (de_int1 m_int (de_inI hu1 (de_var 2) (de_var 1))))) (by decide))))), ?_⟩
  rintro as R ⟨m, l, rfl, hm, hR⟩
  have hn := hm.n
  unfold dRet dJoin dC dLc diR1
  show (-(2 ^ 62) ≤ (m.n : Int) ∧ (m.n : Int) < 2 ^ 62) ∧ lcW [2] (dgName 2) dYes _ _ (iotaD 0 ((m.n : Int)).toNat) [] [.dat m.d, .dat (.list (nums l)), .no]
  refine ⟨⟨by omega, by omega⟩, ?_⟩
  rw [iota_nat]
  refine lc_of (fun _ => true) (fun (i : Nat) => .str ⟨#[mk1 l i]⟩) _ rfl (List.range m.n) [] (by rw [List.length_range]; show 0 + m.n ≤ _; omega) (fun i hi Y N hY hN => ?_) ?_
  · show dOp dIxL (dLst (dCons (dC (.str (Str.ofString "0"))) (dCons (dC (.str (Str.ofString "1"))) dNil))) (dInt1 (dOp dIn (dVar 2) (dVar 1))) [.dat m.d, .dat (.list (nums l)), .dat (.int i)] Y
    have z := hY rfl
    simp only [dOp, dLst, dCons, dNil, dC, dInt1, dVar, dIn, List.getElem?_cons_succ, List.getElem?_cons_zero]
    refine ⟨by decide, rfl, sh_nums l, ?_⟩
    rw [any_nums]
    unfold mk1 at z
    by_cases h : i ∈ l
    · rw [decide_eq_true h]
      rw [if_pos h, ← s_one] at z
      exact z _ rfl
    · rw [decide_eq_false h]
      rw [if_neg h, ← s_nul] at z
      exact z _ rfl
  · rw [List.nil_append, List.filter_eq_self.mpr fun _ _ => rfl]
    have e : (List.range m.n).map (fun (i : Nat) => PyData.str ⟨#[mk1 l i]⟩) = (mkL m.n l).map fun c => PyData.str ⟨#[c]⟩ := by
      unfold mkL
      rw [List.map_map]
      rfl
    rw [e]
    simp only [strsOf_ones, sum_ones, join_ones]
    have e3 : (Str.ofString "").length = 0 := by decide +kernel
    rw [e3, mkL_len]
    exact ⟨by omega, [], hR, outs0⟩
end
end K30

set_option Elab.async false
set_option linter.all false
set_option maxRecDepth 100000
set_option maxHeartbeats 4000000
/-! K30k: what is refused -/
namespace K30
open PySem PySem.Spec L2 TL
abbrev s_law_no_room : Stmt := top 30
theorem sc_law_no_room : FnScope ["_law_machine_here", "_law_rooms_here", "_law_kept", "e"] ["_law_machine_here", "_law_rooms_here"] (defScope s_law_no_room) := ⟨rfl, rfl, rfl, by decide +kernel, rfl, by decide +kernel, by decide +kernel⟩
abbrev s_law_no_word : Stmt := top 31
theorem sc_law_no_word : FnScope ["_law_machine_here", "_law_text_here", "_law_kept", "e"] ["_law_machine_here", "_law_text_here"] (defScope s_law_no_word) := ⟨rfl, rfl, rfl, by decide +kernel, rfl, by decide +kernel, by decide +kernel⟩
abbrev s_law_no_machine : Stmt := top 32
theorem sc_law_no_machine : FnScope ["_law_machine_here", "_law_part", "_law_kept", "_law_door", "e"] ["_law_machine_here", "_law_part"] (defScope s_law_no_machine) := ⟨rfl, rfl, rfl, by decide +kernel, rfl, by decide +kernel, by decide +kernel⟩
/-- what is told of the three classes -/
structure Three (K : PySem.W.Frag) (mg : Str → Option Value) (cM cW cR : Addr) : Prop where
  aM : mg "NoMachine" = some (.ref cM)
  aW : mg "NoWord" = some (.ref cW)
  aR : mg "NoRoom" = some (.ref cR)
  eM : ErrC K cM
  eW : ErrC K cW
  eR : ErrC K cR
  fM : PySem.W.findIn K (.ref cM) "part" = some none
  fW : PySem.W.findIn K (.ref cW) "at" = some none
  fR : PySem.W.findIn K (.ref cR) "room" = some none
  xM : PySem.W.exmOne K (.ref cM) (.ref cM) = some true
  xW : PySem.W.exmOne K (.ref cW) (.ref cW) = some true
  xR : PySem.W.exmOne K (.ref cR) (.ref cR) = some true
  kW : PySem.W.kitOne K (.ref cW) (.type "ValueError") = some true
  kR : PySem.W.kitOne K (.ref cR) (.type "IndexError") = some true
theorem sz2 : 2 ≤ sizeLine := by decide
def S_lnoroom : DSp := fun as R => ∃ (m : Mc) (a : List Nat) (odd : PyData) (rest : List PyData), as = [.dat m.d, .dat (.list (nums a ++ odd :: rest))] ∧ m.ok ∧ (∀ i ∈ a, i < m.n) ∧ plainD odd = true ∧ inR (m.n : Int) odd = false ∧ R (.tuple [odd, .bool true]) []
theorem mono_lnoroom : MonoS S_lnoroom := fun as R R' h ⟨m, a, d, r, e1, e2, e3, e4, e5, k⟩ => ⟨m, a, d, r, e1, e2, e3, e4, e5, h _ _ k⟩
def S_lnoword : DSp := fun as R => ∃ (m : Mc) (u : PyData), as = [.dat m.d, .dat u] ∧ m.ok ∧ NoMk m.n u ∧ R (.bool true) []
theorem mono_lnoword : MonoS S_lnoword := fun as R R' h ⟨m, a, e1, e2, e3, k⟩ => ⟨m, a, e1, e2, e3, h _ _ k⟩
def S_lnomach : DSp := fun as R => ∃ (m : Mc) (t : PyData) (p : Str), as = [.dat t, .dat (.str p)] ∧ m.ok ∧ BadM m t p ∧ R (.bool true) []
theorem mono_lnomach : MonoS S_lnomach := fun as R R' h ⟨m, a, p, e1, e2, e3, k⟩ => ⟨m, a, p, e1, e2, e3, h _ _ k⟩
/-- both defs, of what is no machine -/
def S_bad (cM : Addr) : DSx := fun as R Xr => ∃ t u : PyData, as = [.dat t, .dat u] ∧ ∃ (m : Mc) (p : Str), m.ok ∧ BadM m t p ∧ ∀ k, Xr (badE cM k p) []
theorem monox_bad (cM : Addr) : MonoX (S_bad cM) := fun as R R' X X' h hx ⟨t, u, a, m, p, e1, e2, k⟩ => ⟨t, u, a, m, p, e1, e2, fun y => hx _ _ (k y)⟩
theorem spX_imp {K : PySem.W.Frag} {S S' : DSx} (hS : ∀ as R Xr, S' as R Xr → S as R Xr) {vs : List V} {H : Hp} {Q : VK} {E : XK} (h : spX K S' vs H Q E) : spX K S vs H Q E := by
  obtain ⟨c, as, R, Xr, hh, h0, EV, q, k, kx⟩ := h
  exact ⟨c, as, R, Xr, hh, h0, EV, hS _ _ _ q, k, kx⟩
theorem two_bad {P : Program} {w : World} {K : PySem.W.Frag} {mg : Str → Option Value} {base : Heap} {cM cW cR f1 f2 : Addr} (k1 : KnX P w K mg base 7 "rooms_text" (S_rtext cM cR)) (k2 : KnXN P w K mg base 7 "rooms_in" (S_rin cM cW)) (h1 : mg "rooms_text" = some (.ref f1)) (h2 : mg "rooms_in" = some (.ref f2)) :
    KnFX P w K mg base 7 [f1, f2] (fun _ => S_bad cM) := by
  refine ⟨fun f hf => ?_⟩
  rcases List.mem_cons.mp hf with z | z
  · subst z
    obtain ⟨g, fd, ps, F, hm, kp, b⟩ := k1.ex
    rw [h1] at hm
    cases hm
    exact ⟨fd, ps, F.imp fun _ _ _ _ h => spX_imp (fun as R Xr ⟨t, u, a, q⟩ => ⟨t, u, a, .inr (.inr q)⟩) h, kp, b⟩
  · have z := List.mem_singleton.mp z
    subst z
    obtain ⟨g, fd, ps, F, hm, kp, b⟩ := k2.toX.ex
    rw [h2] at hm
    cases hm
    exact ⟨fd, ps, F.imp fun _ _ _ _ h => spX_imp (fun as R Xr ⟨t, u, a, q⟩ => ⟨t, u, a, .inr (.inr q)⟩) h, kp, b⟩
theorem sh_str2 {p : Str} (h : SeqAt.shaped (.str p) = true) : SeqAt.shaped (.list [.str p, .str p]) = true := by
  unfold SeqAt.shaped at h ⊢
  rw [Bool.and_eq_true] at h ⊢
  obtain ⟨a, b⟩ := h
  refine ⟨?_, rfl⟩
  show (PyData.canLay0 (.str p) && (PyData.canLay0 (.str p) && true)) = true
  rw [a]
  rfl
theorem bad_sh {m : Mc} {t : PyData} {p : Str} (h : BadM m t p) : SeqAt.shaped (.list [.str p, .str p]) = true ∧ PyData.eqv (.list [.str p, .str p]) (.list [.str p, .str p]) = true := by
  cases h <;> exact ⟨by decide +kernel, by decide +kernel⟩
section
variable {P : Program} {w : World} {K : PySem.W.Frag} {mg : Str → Option Value} {base : Heap}
variable (m_len : mg "len" = none) (m_isinstance : mg "isinstance" = none) (m_str : mg "str" = none) (m_bool : mg "bool" = none) (m_range : mg "range" = none) (m_int : mg "int" = none) (m_max : mg "max" = none) (m_min : mg "min" = none) (m_set : mg "set" = none) (m_tuple : mg "tuple" = none) (m_list : mg "list" = none) (m_enumerate : mg "enumerate" = none) (m_all : mg "all" = none) (m_sorted : mg "sorted" = none) (m_repr : mg "repr" = none) (m_IndexError : mg "IndexError" = none) (m_ValueError : mg "ValueError" = none)
include m_len m_isinstance m_str m_bool m_range m_int m_max m_min m_set m_tuple m_list m_enumerate m_all m_sorted m_repr m_IndexError m_ValueError
theorem ok_law_no_room {f : Addr} {fd : FuncData} (F : Fun K "_law_no_room" "_law_no_room" s_law_no_room f fd) {cM cW cR : Addr} (three : Three K mg cM cW cR) (k_rooms_text : KnX P w K mg base 7 "rooms_text" (S_rtext cM cR)) : FnOkG P w K mg base CX0 8 f fd ["_law_machine_here", "_law_rooms_here"] (spD K S_lnoroom) := by
  refine fnD F sc_law_no_room (fun as R h => by obtain ⟨_, _, _, _, rfl, _⟩ := h; rfl) fun cdv A outer s H E hr => ?_
  have nd := sc_law_no_room.nd
  have hu := hr.units
  have hu1 := hr.units1
  have ac_NoMachine := three.aM
  have ac_NoWord := three.aW
  have ac_NoRoom := three.aR
  refine ⟨_, _, (dss_cons (ds_set 2 nd de_non)
    (dss_cons (ds_try rfl rfl (fun xw pn xe tk po => (dss_one (ds_expr (de_callXI tk k_rooms_text hr (by omega) (dca_d (de_var 0) (dca_d (de_var 1) dca_nil))))))
    (dcat_c 3 nd ⟨rfl, by decide, .inl ac_NoRoom⟩ (fun a pn => (dss_one (ds_set 2 nd (de_tup (da_cons (de_efI (de_var 3)) (da_cons (de_isEI m_isinstance (de_var 3) (pe_bltn (v := .ty "IndexError") rfl m_IndexError (by decide +kernel) rfl (by decide) (by decide)) ty_is) da_nil)))))) dcat_nil))
    (dss_one (ds_ret (de_var 2))))), ?_⟩
  rintro as R ⟨m, a, odd, rest, rfl, hm, ha, hp, hi, hR⟩
  dsimp only [dSeq, dAsg, dDrop, dC, dgName]
  refine @call_x1 _ (S_rtext cM cR) (cD (dVar 0) (cD (dVar 1) cNil)) [.dat m.d, .dat (.list (nums a ++ odd :: rest)), .dat .none, .no] [.dat m.d, .dat (.list (nums a ++ odd :: rest)), .dat .none, .no] _ [m.d, .list (nums a ++ odd :: rest)] (fun Q z => z) (monox_rtext cM cR) ⟨_, _, rfl, .inr (.inl ⟨m, a, odd, rest, rfl, hm, rfl, ha, hp, hi, rfl, ?_⟩)⟩
  refine ⟨cR, ["room"], [odd], true, rfl, three.xR, ?_⟩
  rw [if_pos rfl]
  exact ⟨cR, ["room"], [odd], odd, rfl, three.eR, three.fR, rfl, cR, ["room"], [odd], true, rfl, three.eR, three.kR, sz2, ⟨[], hR, outs0⟩⟩
theorem ok_law_no_word {f : Addr} {fd : FuncData} (F : Fun K "_law_no_word" "_law_no_word" s_law_no_word f fd) {cM cW cR : Addr} (three : Three K mg cM cW cR) (k_rooms_in : KnX P w K mg base 7 "rooms_in" (asX (S_rin cM cW))) : FnOkG P w K mg base CX0 8 f fd ["_law_machine_here", "_law_text_here"] (spD K S_lnoword) := by
  refine fnD F sc_law_no_word (fun as R h => by obtain ⟨_, _, rfl, _⟩ := h; rfl) fun cdv A outer s H E hr => ?_
  have nd := sc_law_no_word.nd
  have hu := hr.units
  have hu1 := hr.units1
  have ac_NoMachine := three.aM
  have ac_NoWord := three.aW
  have ac_NoRoom := three.aR
  refine ⟨_, _, (dss_cons (ds_set 2 nd de_non)
    (dss_cons (ds_try rfl rfl (fun xw pn xe tk po => (dss_one (ds_expr (de_callXI tk k_rooms_in hr (by omega) (dca_d (de_var 0) (dca_d (de_var 1) dca_nil))))))
    (dcat_c 3 nd ⟨rfl, by decide, .inl ac_NoWord⟩ (fun a pn => (dss_one (ds_set 2 nd (de_var 3)))) dcat_nil))
    (dss_one (ds_ret (de_and (de_isE m_isinstance (de_var 2) (pe_bltn (v := .ty "ValueError") rfl m_ValueError (by decide +kernel) rfl (by decide) (by decide)) ty_is) (de_one (de_cmp op_isN ro_isN (nomark _) (de_ef (de_var 2)) de_non))))))), ?_⟩
  rintro as R ⟨m, u, rfl, hm, hu2, hR⟩
  dsimp only [dSeq, dAsg, dDrop, dC, dgName]
  refine @call_x1 _ (asX (S_rin cM cW)) (cD (dVar 0) (cD (dVar 1) cNil)) [.dat m.d, .dat u, .dat .none, .no] [.dat m.d, .dat u, .dat .none, .no] _ [m.d, u] (fun Q z => z) (fun as R R' X X' h hx q => monox_rin cM cW _ _ _ _ _ (fun d o z => h _ _ z) hx q) ⟨_, _, rfl, .inr (.inl ⟨m, rfl, hm, hu2, rfl, ?_⟩)⟩
  refine ⟨cW, ["at"], [.none], true, rfl, three.xW, ?_⟩
  rw [if_pos rfl]
  refine ⟨cW, ["at"], [.none], true, rfl, three.eW, three.kW, ?_⟩
  exact ⟨cW, ["at"], [.none], .none, rfl, three.eW, three.fW, rfl, [], hR, outs0⟩
theorem ok_law_no_machine {f : Addr} {fd : FuncData} (F : Fun K "_law_no_machine" "_law_no_machine" s_law_no_machine f fd) {cM cW cR : Addr} (three : Three K mg cM cW cR) {f1 f2 : Addr} (gf_rooms_text : mg "rooms_text" = some (.ref f1)) (gf_rooms_in : mg "rooms_in" = some (.ref f2)) (kfx : KnFX P w K mg base 7 [f1, f2] (fun _ => S_bad cM)) : FnOkG P w K mg base CX0 8 f fd ["_law_machine_here", "_law_part"] (spD K S_lnomach) := by
  refine fnD F sc_law_no_machine (fun as R h => by obtain ⟨_, _, _, rfl, _⟩ := h; rfl) fun cdv A outer s H E hr => ?_
  have nd := sc_law_no_machine.nd
  have hu := hr.units
  have hu1 := hr.units1
  have ac_NoMachine := three.aM
  have ac_NoWord := three.aW
  have ac_NoRoom := three.aR
  refine ⟨_, _, (dss_cons (ds_own 2 nd da_nil)
    (dss_cons (ds_for PassesOwn.never rfl (di_r1 m_range de_int) (dg_name 3 nd)
    (dss_one (ds_try rfl rfl (fun xw pn xe tk po => (dss_one (ds_appI 2 (de_callFXI tk kfx hr (by omega) (de_ixLI (de_lst (da_cons (de_gfn gf_rooms_text) (da_cons (de_gfn gf_rooms_in) da_nil))) (de_var 3)) (dca_d (de_var 0) (dca_d (de_ixLI (de_lst (da_cons (de_lst (da_cons de_int da_nil)) (da_cons de_non da_nil))) (de_var 3)) dca_nil))))))
    (dcat_c 4 nd ⟨rfl, by decide, .inl ac_NoMachine⟩ (fun a pn => (dss_one (ds_appI 2 (de_efI (de_var 4))))) dcat_nil))))
    (dss_one (ds_ret (de_cmp (op_eqD hu) ro_eq (nomark _) (de_var 2) (de_lst (da_cons (de_var 1) (da_cons (de_var 1) da_nil)))))))), ?_⟩
  rintro as R ⟨m, t, p, rfl, hm, hB, hR⟩
  obtain ⟨s1, s2⟩ := bad_sh hB
  refine sq_own ⟨nat_le_size (by decide), ?_⟩
  refine ⟨⟨by decide, by decide⟩, ?_⟩
  refine ⟨rfl, ?_⟩
  refine ⟨nat_le_size (by show 2 ≤ 16777216; decide), ?_⟩
  refine ⟨f1, List.mem_cons_self, rfl, ?_⟩
  refine @call_x1 _ (S_bad cM) _ _ [.dat t, .dat (.str p), .own none [], .dat (.int 0), .no] _ [t, .list [.int 99]] (fun Q z => ⟨nat_le_size (by decide), nat_le_size (by decide), z⟩) (monox_bad cM) ⟨_, _, rfl, m, p, hm, hB, fun k => ⟨rfl, ?_⟩⟩
  refine ⟨cM, ["number", "part"], [k, .str p], true, rfl, three.xM, ?_⟩
  rw [if_pos rfl]
  refine ⟨rfl, cM, ["number", "part"], [k, .str p], .str p, rfl, three.eM, three.fM, rfl, by decide, ?_⟩
  refine ⟨rfl, ?_⟩
  refine ⟨nat_le_size (by show 2 ≤ 16777216; decide), ?_⟩
  refine ⟨f2, List.mem_cons_of_mem _ List.mem_cons_self, rfl, ?_⟩
  refine @call_x1 _ (S_bad cM) _ _ [.dat t, .dat (.str p), .own none [.str p], .dat (.int 1), .no] _ [t, .none] (fun Q z => ⟨nat_le_size (by decide), nat_le_size (by decide), z⟩) (monox_bad cM) ⟨_, _, rfl, m, p, hm, hB, fun k2 => ⟨rfl, ?_⟩⟩
  refine ⟨cM, ["number", "part"], [k2, .str p], true, rfl, three.xM, ?_⟩
  rw [if_pos rfl]
  refine ⟨rfl, cM, ["number", "part"], [k2, .str p], .str p, rfl, three.eM, three.fM, rfl, by show 1 < sizeLine; decide, ?_⟩
  refine ⟨nat_le_size (by show 2 ≤ 16777216; decide), s1, s1, ?_⟩
  show (endsOf R).rt (.bool (PyData.eqv (.list [.str p, .str p]) (.list [.str p, .str p]))) _
  rw [s2]
  exact ⟨[], hR, outs0⟩
end
end K30

set_option Elab.async false
set_option linter.all false
set_option maxRecDepth 100000
set_option maxHeartbeats 8000000
/-! K30m: the law -/
namespace K30
open PySem PySem.Spec L2 TL
abbrev s_law : Stmt := top 33
theorem sc_law : FnScope ["_law_script", "_law_k", "_law_hand_here", "_law_machine_here", "_law_bad_ones", "_law_odd", "_law_part", "_law_turn", "_law_rooms_here", "_law_text_here", "_law_handed", "_law_found", "_law_at", "_law_due", "_law_bad"] ["_law_script"] (defScope s_law) := ⟨rfl, rfl, rfl, by decide +kernel, rfl, by decide +kernel, by decide +kernel⟩
def inz (v : List Int) : List PyData := v.map PyData.int
theorem inz_len (v : List Int) : (inz v).length = v.length := List.length_map _
theorem sh_inz (l : List Int) : SeqAt.shaped (.list (inz l)) = true := by
  have a : PyData.canLayAll0 (inz l) = true ∧ PyData.depthAll (inz l) = 0 := by
    induction l with
    | nil => exact ⟨rfl, rfl⟩
    | cons c r ih =>
      constructor
      · show (PyData.canLay0 (.int c) && PyData.canLayAll0 (inz r)) = true
        rw [ih.1]
        rfl
      · show max (PyData.depth (.int c)) (PyData.depthAll (inz r)) = 0
        rw [ih.2]
        rfl
  unfold SeqAt.shaped
  rw [Bool.and_eq_true]
  refine ⟨a.1, decide_eq_true ?_⟩
  show PyData.depthAll _ + 1 ≤ 64
  rw [a.2]
  decide
theorem eqv_inz (l : List Int) : PyData.eqv (.list (inz l)) (.list (inz l)) = true := by
  have z := eqv_ints l
  simpa [PyData.eqv, inz] using z
theorem nums_inz (l : List Nat) : nums l = inz (l.map fun (i : Nat) => (i : Int)) := by
  unfold nums inz
  rw [List.map_map]
  rfl
theorem eqv_nums (l : List Nat) : PyData.eqv (.list (nums l)) (.list (nums l)) = true := by
  rw [nums_inz]
  exact eqv_inz _
theorem foldl_reps (c : Array Nat) : ∀ (k : Nat) (acc : Array Nat), ((List.replicate k c).foldl (· ++ ·) acc).toList = acc.toList ++ (List.replicate k c.toList).flatten
  | 0, acc => by simp
  | k + 1, acc => by
    rw [List.replicate_succ, List.foldl_cons, foldl_reps c k, Array.toList_append, List.replicate_succ, List.flatten_cons, List.append_assoc]
theorem flat_nil (k : Nat) : (List.replicate k ([] : List Nat)).flatten = [] := by
  induction k with
  | zero => rfl
  | succ k ih => rw [List.replicate_succ, List.flatten_cons, ih]; rfl
theorem tl_mul (x : Str) (k : Nat) : (Txt.mul x (k : Int)).cps.toList = (List.replicate k x.cps.toList).flatten := by
  unfold Txt.mul
  by_cases h1 : (k : Int) < 1
  · rw [if_pos h1]
    have e : k = 0 := by omega
    subst e
    rfl
  · rw [if_neg h1]
    by_cases h2 : (k : Int) = 1
    · have e : k = 1 := by omega
      subst e
      rw [if_pos (by rfl)]
      simp
    · by_cases h3 : x.length = 0
      · rw [if_pos (by simp [h3])]
        have e : x.cps.toList = [] := List.eq_nil_of_length_eq_zero (by rw [Array.length_toList]; exact h3)
        rw [e, flat_nil]
      · rw [if_neg (by simp [h2, h3])]
        show ((List.replicate (k : Int).toNat x.cps).foldl (· ++ ·) #[]).toList = _
        rw [foldl_reps, Int.toNat_natCast]
        rfl
theorem mul_len (x : Str) (k : Nat) : (Txt.mul x (k : Int)).length = k * x.length := by
  have lx : ∀ z : Str, z.cps.toList.length = z.length := fun z => by rw [Array.length_toList]; rfl
  rw [← lx, tl_mul, List.length_flatten, List.map_replicate, List.sum_replicate_nat, lx]
theorem draws_turns {R : List PyData → List Sl → Prop} {S0 s1 s4 s5 s6 s8 s9 s10 s11 s12 s13 s14 : Sl} {m : Mc} (hn : 1 ≤ m.n ∧ m.n ≤ 12) : ∀ (ds : List PyData) (cs : List Nat) (x y : Int) (s : Sl), cs.length + ds.length ≤ 100 → okH x y → (∀ c ∈ cs, c < m.n) →
    (∀ (cs' : List Nat) (x' y' : Int), cs'.length = cs.length + ds.length → (∀ c ∈ cs', c < m.n) → okH x' y' → ∀ s', R (nums cs') [S0, s1, .own none [.int x', .int y'], .dat m.d, s4, s5, s6, s', s8, s9, s10, s11, s12, s13, s14]) →
    lcW [7] (dgName 7) dYes (dCall S_draw (cS 2 (cD (dOp dIxT (dVar 3) (dC (.int 0))) cNil))) R ds (nums cs) [S0, s1, .own none [.int x, .int y], .dat m.d, s4, s5, s6, s, s8, s9, s10, s11, s12, s13, s14]
  | [], cs, x, y, s, _, hv, hc, h => h cs x y rfl hc hv s
  | d :: ds, cs, x, y, s, hl, hv, hc, h => by
    rw [List.length_cons] at hl
    simp only [lcW, dgName, dYes, wipeS, List.set_cons_succ, List.set_cons_zero, ↓reduceIte]
    refine call_draw (i := 2) (t := none) (n := (m.n : Int)) rfl hv ⟨by omega, by omega⟩ (fun Q q => q) fun r x' y' hr hv' => ?_
    obtain ⟨c, rfl⟩ : ∃ c : Nat, r = (c : Int) := ⟨r.toNat, by omega⟩
    refine ⟨by rw [nums_len]; exact Nat.lt_of_lt_of_le (by omega : cs.length < 100) (by decide), ?_⟩
    have e2 : nums cs ++ [PyData.int (c : Int)] = nums (cs ++ [c]) := by
      unfold nums
      rw [List.map_append]
      rfl
    rw [e2]
    simp only [List.set_cons_succ, List.set_cons_zero]
    refine draws_turns hn ds (cs ++ [c]) x' y' _ (by rw [List.length_append, List.length_singleton]; omega) hv' (fun z hz => ?_) fun cs' x2 y2 hl2 hc2 hv2 => ?_
    · rcases List.mem_append.mp hz with q | q
      · exact hc z q
      · rw [List.mem_singleton.mp q]
        omega
    · exact h cs' x2 y2 (by rw [hl2, List.length_append, List.length_singleton, List.length_cons]; omega) hc2 hv2
def badL (m : Mc) : List PyData :=
  [.tuple [.none, .str (Str.ofString "machine")], .tuple [.tuple [.int 13, .list (nums m.fs), .list (nums m.ls), .list (m.ss.map stepD)], .str (Str.ofString "many")],
    .tuple [.tuple [.int (m.n : Int), .none, .list (nums m.ls), .list (m.ss.map stepD)], .str (Str.ofString "firsts")],
    .tuple [.tuple [.int (m.n : Int), .list (nums m.fs), .list [.int 99], .list (m.ss.map stepD)], .str (Str.ofString "lasts")],
    .tuple [.tuple [.int (m.n : Int), .list (nums m.fs), .list (nums m.ls), .list [pairD]], .str (Str.ofString "steps")]]
theorem bad_at (m : Mc) {r : Int} (h : 0 ≤ r ∧ r < 5) : ∃ (t : PyData) (p : Str), atI (badL m) r = some (.tuple [t, .str p]) ∧ BadM m t p := by
  obtain ⟨h1, h2⟩ := h
  have z : r = 0 ∨ r = 1 ∨ r = 2 ∨ r = 3 ∨ r = 4 := by omega
  rcases z with rfl | rfl | rfl | rfl | rfl
  · exact ⟨_, _, rfl, .non⟩
  · exact ⟨_, _, rfl, .many⟩
  · exact ⟨_, _, rfl, .firsts⟩
  · exact ⟨_, _, rfl, .lasts⟩
  · exact ⟨_, _, rfl, .steps⟩
theorem ab_ok : okL (Str.ofString "ab") := by
  refine ⟨⟨by decide +kernel, by decide +kernel⟩, ?_⟩
  decide +kernel
theorem slT_lo {ds es : List PyData} {j : Nat} {R : PyData → Prop} (h : HT.sIx ds.length 0 (some (j : Int)) = j) (hj : 0 < j) (e : cutP ds (some (j : Int)) none = es) (k : R (.tuple es)) : dSlT (.tuple ds) (some (j : Int)) none R :=
  ⟨fun z => by rw [h] at z; omega, by rw [e]; exact k⟩
theorem slT_hi {ds es : List PyData} {j : Nat} {R : PyData → Prop} (h : HT.sIx ds.length ds.length (some (j : Int)) = j) (hj : j < ds.length) (e : cutP ds none (some (j : Int)) = es) (k : R (.tuple es)) : dSlT (.tuple ds) none (some (j : Int)) R :=
  ⟨fun z => by rw [h] at z; omega, by rw [e]; exact k⟩
theorem szn {n : Nat} (h : n ≤ 100) : n ≤ sizeLine := nat_le_size (by omega)
theorem bad3 {δ : List Sl} {R : DQ} {m : Mc} (h3 : δ[3]? = some (.dat m.d)) (k : R (.list [.tuple [.none, .str (Str.ofString "machine")], .tuple [.tuple [.int 13, .list (nums m.fs), .list (nums m.ls), .list (m.ss.map stepD)], .str (Str.ofString "many")],
    .tuple [.tuple [.int (m.n : Int), .none, .list (nums m.ls), .list (m.ss.map stepD)], .str (Str.ofString "firsts")]]) δ) :
    dLst (dCons (dTup (dCons (dC PyData.none) (dCons (dC (PyData.str (Str.ofString "machine"))) dNil)))
      (dCons (dTup (dCons (dOp rdCatT (dTup (dCons (dC (PyData.int 13)) dNil)) (dSl dSlT (dVar 3) (dPart (dC (PyData.int 1))) dNoPart)) (dCons (dC (PyData.str (Str.ofString "many"))) dNil)))
        (dCons (dTup (dCons (dOp rdCatT (dOp rdCatT (dSl dSlT (dVar 3) dNoPart (dPart (dC (PyData.int 1)))) (dTup (dCons (dC PyData.none) dNil))) (dSl dSlT (dVar 3) (dPart (dC (PyData.int 2))) dNoPart)) (dCons (dC (PyData.str (Str.ofString "firsts"))) dNil))) dNil))) δ R := by
  unfold dLst dCons dTup dOp dSl dC dNil dPart dNoPart
  refine ⟨szn (by show 2 ≤ 100; decide), szn (by show 1 ≤ 100; decide), ?_⟩
  refine var_at h3 (slT_lo (j := 1) rfl (by decide) rfl ⟨by show 0 < 1; decide, szn (by show 4 ≤ 100; decide), szn (by show 2 ≤ 100; decide), ?_⟩)
  refine var_at h3 (slT_hi (j := 1) rfl (by show 1 < 4; decide) rfl ⟨szn (by show 1 ≤ 100; decide), by show 0 < 1; decide, szn (by show 2 ≤ 100; decide), ?_⟩)
  refine var_at h3 (slT_lo (j := 2) rfl (by decide) rfl ⟨by show 0 < 2; decide, szn (by show 4 ≤ 100; decide), szn (by show 2 ≤ 100; decide), szn (by show 3 ≤ 100; decide), ?_⟩)
  exact k
theorem bad2 {δ : List Sl} {R : DQ} {m : Mc} (h3 : δ[3]? = some (.dat m.d)) (k : R (.list [.tuple [.tuple [.int (m.n : Int), .list (nums m.fs), .list [.int 99], .list (m.ss.map stepD)], .str (Str.ofString "lasts")],
    .tuple [.tuple [.int (m.n : Int), .list (nums m.fs), .list (nums m.ls), .list [pairD]], .str (Str.ofString "steps")]]) δ) :
    dLst (dCons (dTup (dCons (dOp rdCatT (dOp rdCatT (dSl dSlT (dVar 3) dNoPart (dPart (dC (PyData.int 2)))) (dTup (dCons (dLst (dCons (dC (PyData.int 99)) dNil)) dNil))) (dSl dSlT (dVar 3) (dPart (dC (PyData.int 3))) dNoPart)) (dCons (dC (PyData.str (Str.ofString "lasts"))) dNil)))
      (dCons (dTup (dCons (dOp rdCatT (dSl dSlT (dVar 3) dNoPart (dPart (dC (PyData.int 3)))) (dTup (dCons (dLst (dCons (dTup (dCons (dC (PyData.int 0)) (dCons (dC (PyData.str (Str.ofString "a"))) dNil))) dNil)) dNil))) (dCons (dC (PyData.str (Str.ofString "steps"))) dNil))) dNil)) δ R := by
  unfold dLst dCons dTup dOp dSl dC dNil dPart dNoPart
  refine var_at h3 (slT_hi (j := 2) rfl (by show 2 < 4; decide) rfl ⟨szn (by show 1 ≤ 100; decide), szn (by show 1 ≤ 100; decide), by show 0 < 2; decide, szn (by show 3 ≤ 100; decide), ?_⟩)
  refine var_at h3 (slT_lo (j := 3) rfl (by decide) rfl ⟨by show 0 < 3; decide, szn (by show 4 ≤ 100; decide), szn (by show 2 ≤ 100; decide), ?_⟩)
  refine var_at h3 (slT_hi (j := 3) rfl (by show 3 < 4; decide) rfl ⟨szn (by show 2 ≤ 100; decide), szn (by show 1 ≤ 100; decide), szn (by show 1 ≤ 100; decide), by show 0 < 3; decide, szn (by show 4 ≤ 100; decide), szn (by show 2 ≤ 100; decide), szn (by show 2 ≤ 100; decide), ?_⟩)
  exact k
theorem mk_okC (n : Nat) (l : List Nat) : okC (mkS n l) := fun c hc => by
  rw [mkS_tl] at hc
  obtain ⟨i, _, rfl⟩ := List.mem_map.mp hc
  unfold mk1
  split <;> decide
theorem sh_mk (n : Nat) (l : List Nat) : SeqAt.shaped (.str (mkS n l)) = true := sh_str (strOk_of (mk_okC n l))
theorem ev_self (x : Str) : PyData.eqv (.str x) (.str x) = true := by rw [ev_ss, beq_self_eq_true]
theorem own_newX {xw : XW} {S : DSxn} {i : Nat} {ua : DCA} {δ δ' : List Sl} {E : DEnds} (ds : List PyData) (hu : ∀ Q : List CA → List Sl → Prop, Q (ds.map CA.d) δ' → ua δ Q) (mono : MonoXN S)
    (k : S (ds.map Sl.dat) (fun d outs => outs = [] ∧ E.nx (δ'.set i (.own none d))) fun e outs => outs = [] ∧ xw.xr e δ') : @dCallOwnX xw i S ua E δ := by
  refine hu _ ?_
  rw [muts_d, asOf_d]
  refine ⟨List.nodup_nil, mono _ _ _ _ _ (fun d o h => ?_) (fun d o h => ?_) k⟩
  · obtain ⟨rfl, h⟩ := h
    exact ⟨rfl, h⟩
  · obtain ⟨rfl, h⟩ := h
    exact ⟨rfl, h⟩
theorem intsOf_nums (l : List Nat) : intsOf (nums l) = some (l.map fun (i : Nat) => (i : Int)) := by
  rw [nums_inz]
  exact intsOf_map _
theorem ris_eq {n : Nat} {l : List Nat} {ms : List Int} (hlt : ∀ i ∈ l, i < n) (pw : ms.Pairwise (· < ·)) (mem : ∀ k, k ∈ ms ↔ k ∈ l.map fun (i : Nat) => (i : Int)) : ms = ((List.range n).filter fun i => decide (i ∈ l)).map fun (i : Nat) => (i : Int) := by
  have pg : (((List.range n).filter fun i => decide (i ∈ l)).map fun (i : Nat) => (i : Int)).Pairwise (· < ·) := by
    rw [List.pairwise_map]
    exact (List.pairwise_lt_range.filter _).imp fun h => by omega
  have nd : ∀ {v : List Int}, v.Pairwise (· < ·) → v.Nodup := fun h => h.imp fun h => by omega
  have pm : ms.Perm (((List.range n).filter fun i => decide (i ∈ l)).map fun (i : Nat) => (i : Int)) := (List.perm_ext_iff_of_nodup (nd pw) (nd pg)).mpr fun k => by
    rw [mem]
    constructor
    · intro h
      obtain ⟨i, hi, rfl⟩ := List.mem_map.mp h
      exact List.mem_map.mpr ⟨i, List.mem_filter.mpr ⟨List.mem_range.mpr (hlt i hi), decide_eq_true hi⟩, rfl⟩
    · intro h
      obtain ⟨i, hi, rfl⟩ := List.mem_map.mp h
      exact List.mem_map.mpr ⟨i, of_decide_eq_true (List.mem_filter.mp hi).2, rfl⟩
  exact pm.eq_of_pairwise (le := (· ≤ ·)) (fun a b _ _ h1 h2 => by omega) (pw.imp fun h => by omega) (pg.imp fun h => by omega)
theorem sq_gen {u rest : DTS} {E : DEnds} {δ : List Sl} (h : ∀ M : List Sl → Prop, (∀ δ', rest E δ' → M δ') → u { E with nx := M } δ) : dSeq u rest E δ := h _ fun _ q => q
abbrev dneg : R1D := fun d R => match d with
  | .int i => R (.int (-i))
  | _ => False
def oddL (m : Mc) : List PyData := [.int (m.n : Int), .int (-1), .bool true, .none, .str (Str.ofString "0"), .list [.int 0], .bool false, .int (10 ^ 30)]
theorem odd8 {δ : List Sl} {R : DQ} {m : Mc} (h3 : δ[3]? = some (.dat m.d)) (k : R (.list (oddL m)) δ) :
    dLst (dCons (dOp dIxT (dVar 3) (dC (.int 0))) (dCons (dUn dneg (dC (.int 1))) (dCons (dC (.bool true)) (dCons (dC .none) (dCons (dC (.str (Str.ofString "0"))) (dCons (dLst (dCons (dC (.int 0)) dNil)) (dCons (dC (.bool false)) (dCons (dOp (dIC CPow fun i j => i ^ j.toNat) (dC (.int 10)) (dC (.int 30))) dNil)))))))) δ R := by
  unfold dLst dCons dOp dUn dC dNil
  refine var_at h3 ?_
  exact ⟨szn (by show 1 ≤ 100; decide), ⟨by decide, by decide, by decide⟩, szn (by show 8 ≤ 100; decide), k⟩
structure Rep (d : PyData) : Prop where
  o : okD d = true
  s : d.showable = true
  l : d.shown.length ≤ sizeLine
  d : d.depth ≤ 64
theorem odd_at {m : Mc} (hn : 1 ≤ m.n ∧ m.n ≤ 12) {r : Int} (h : 0 ≤ r ∧ r < 8) : ∃ od, atI (oddL m) r = some od ∧ plainD od = true ∧ inR (m.n : Int) od = false ∧ Rep (.tuple [od, .bool true]) := by
  obtain ⟨h1, h2⟩ := h
  have z : r = 0 ∨ r = 1 ∨ r = 2 ∨ r = 3 ∨ r = 4 ∨ r = 5 ∨ r = 6 ∨ r = 7 := by omega
  rcases z with rfl | rfl | rfl | rfl | rfl | rfl | rfl | rfl
  · refine ⟨_, rfl, rfl, ?_, ?_⟩
    · show (decide (0 ≤ (m.n : Int)) && decide ((m.n : Int) < (m.n : Int))) = false
      rw [decide_eq_false (Int.lt_irrefl _), Bool.and_false]
    · have z : m.n = 1 ∨ m.n = 2 ∨ m.n = 3 ∨ m.n = 4 ∨ m.n = 5 ∨ m.n = 6 ∨ m.n = 7 ∨ m.n = 8 ∨ m.n = 9 ∨ m.n = 10 ∨ m.n = 11 ∨ m.n = 12 := by omega
      rcases z with e | e | e | e | e | e | e | e | e | e | e | e <;> rw [e] <;> exact ⟨by decide +kernel, by decide +kernel, by decide +kernel, by decide +kernel⟩
  · exact ⟨_, rfl, rfl, rfl, by decide +kernel, by decide +kernel, by decide +kernel, by decide +kernel⟩
  · exact ⟨_, rfl, rfl, rfl, by decide +kernel, by decide +kernel, by decide +kernel, by decide +kernel⟩
  · exact ⟨_, rfl, rfl, rfl, by decide +kernel, by decide +kernel, by decide +kernel, by decide +kernel⟩
  · exact ⟨_, rfl, rfl, rfl, by decide +kernel, by decide +kernel, by decide +kernel, by decide +kernel⟩
  · exact ⟨_, rfl, rfl, rfl, by decide +kernel, by decide +kernel, by decide +kernel, by decide +kernel⟩
  · exact ⟨_, rfl, rfl, rfl, by decide +kernel, by decide +kernel, by decide +kernel, by decide +kernel⟩
  · refine ⟨_, rfl, rfl, ?_, by decide +kernel, by decide +kernel, by decide +kernel, by decide +kernel⟩
    show (decide (0 ≤ (10 : Int) ^ 30) && decide ((10 : Int) ^ 30 < (m.n : Int))) = false
    rw [decide_eq_false (show ¬ (10 : Int) ^ 30 < (m.n : Int) by omega), Bool.and_false]
theorem cutP_l (l : List Nat) {j : Nat} (h : j ≤ l.length) : cutP (nums l) none (some (j : Int)) = nums (l.take j) := by
  unfold cutP
  rw [HT.sIx_nat, HT.sIx_none, List.drop_zero, Nat.sub_zero, nums_len, Nat.min_eq_left h]
  unfold nums
  rw [List.map_take]
theorem cutP_r (l : List Nat) {j : Nat} (h : j ≤ l.length) : cutP (nums l) (some (j : Int)) none = nums (l.drop j) := by
  unfold cutP
  rw [HT.sIx_nat, HT.sIx_none, nums_len, Nat.min_eq_left h]
  unfold nums
  rw [List.take_of_length_le (by rw [List.length_drop, List.length_map]; exact Nat.le_refl _), List.map_drop]
theorem spoil {δ : List Sl} {R : DQ} {l : List Nat} {j : Nat} {od : PyData} (h8 : δ[8]? = some (.dat (.list (nums l)))) (h12 : δ[12]? = some (.dat (.int (j : Int)))) (h5 : δ[5]? = some (.dat od)) (hj : j ≤ l.length) (hl : l.length ≤ 13) (k : R (.list (nums (l.take j) ++ od :: (.int 99 :: nums (l.drop j)))) δ) :
    dOp dCat (dOp dCat (dSl dSlL (dVar 8) dNoPart (dPart (dVar 12))) (dLst (dCons (dVar 5) (dCons (dC (.int 99)) dNil)))) (dSl dSlL (dVar 8) (dPart (dVar 12)) dNoPart) δ R := by
  unfold dOp dSl dLst dCons dC dNil dPart dNoPart
  refine var_at h8 (var_at h12 ?_)
  show dVar 5 δ _
  refine var_at h5 ⟨szn (by show 2 ≤ 100; decide), ?_⟩
  show (cutP (nums l) none (some (j : Int))).length + 2 ≤ sizeLine ∧ _
  rw [cutP_l l hj, nums_len]
  refine ⟨szn (by rw [List.length_take]; omega), ?_⟩
  refine var_at h8 (var_at h12 ?_)
  show (nums (l.take j) ++ [od, .int 99]).length + (cutP (nums l) (some (j : Int)) none).length ≤ sizeLine ∧ R (.list (nums (l.take j) ++ [od, .int 99] ++ cutP (nums l) (some (j : Int)) none)) δ
  rw [cutP_r l hj, nums_len, List.length_append, nums_len, List.append_assoc]
  exact ⟨szn (by rw [List.length_take, List.length_drop]; show min j l.length + 2 + (l.length - j) ≤ 100; omega), k⟩
/-! the words that are none -/
def wA (z : Str) : Str := cutS z none (some (-1))
def wB (z : Str) : Str := cutS z (some 1) none
def words8 (z : Str) : List PyData := [.str (z ++ Str.ofString "0"), .str (wB z), .str (wA z ++ Str.ofString "2"), .str (wA z ++ Str.ofString " "), .none, .int 5, .list [.str z], .str (wA z ++ Str.ofString "+")]
def words5 (z : Str) (n : Nat) : List PyData := [.str (Txt.mul (Str.ofString "b") (n : Int)), .str (Str.ofString "+" ++ wB z), .str (Str.ofString "-" ++ wB z), .str (Str.ofString " " ++ wB z), .str (cutS z none (some 1) ++ Str.ofString "_" ++ cutS z (some 2) none)]
def word1 (z : Str) : PyData := .str (cutS z none (some (-2)) ++ Str.ofString "0\n" ++ cutS z none (some 0))
theorem cut_len (z : Str) (lo hi : Option Int) : (cutS z lo hi).length ≤ z.length := by
  have lx : ∀ z : Str, z.cps.toList.length = z.length := fun z => by rw [Array.length_toList]; rfl
  have e : (cutS z lo hi).cps.toList = (z.cps.toList.drop (HT.sIx z.length 0 lo)).take (HT.sIx z.length z.length hi - HT.sIx z.length 0 lo) := rfl
  rw [← lx, ← lx, e, List.length_take, List.length_drop]
  omega
theorem l_one (c : Nat) : (Str.mk #[c]).length = 1 := rfl
theorem len1 : (Str.ofString "0").length = 1 ∧ (Str.ofString "2").length = 1 ∧ (Str.ofString " ").length = 1 ∧ (Str.ofString "+").length = 1 ∧ (Str.ofString "-").length = 1 ∧ (Str.ofString "_").length = 1 ∧ (Str.ofString "b").length = 1 ∧ (Str.ofString "0\n").length = 2 := by decide +kernel
theorem w8 {δ : List Sl} {R : List PyData → List Sl → Prop} {z : Str} (h9 : δ[9]? = some (.dat (.str z))) (hz : z.length ≤ 12) (k : R (words8 z) δ) :
    dCons (dOp dAddS (dVar 9) (dC (.str (Str.ofString "0")))) (dCons (dSl dSlS (dVar 9) (dPart (dC (.int 1))) dNoPart) (dCons (dOp dAddS (dSl dSlS (dVar 9) dNoPart (dPart (dUn dneg (dC (.int 1))))) (dC (.str (Str.ofString "2"))))
      (dCons (dOp dAddS (dSl dSlS (dVar 9) dNoPart (dPart (dUn dneg (dC (.int 1))))) (dC (.str (Str.ofString " ")))) (dCons (dC .none) (dCons (dC (.int 5)) (dCons (dLst (dCons (dVar 9) dNil))
        (dCons (dOp dAddS (dSl dSlS (dVar 9) dNoPart (dPart (dUn dneg (dC (.int 1))))) (dC (.str (Str.ofString "+")))) dNil))))))) δ R := by
  obtain ⟨e1, e2, e3, e4, _⟩ := len1
  have a := cut_len z none (some (-1))
  unfold dCons dOp dSl dUn dC dNil dPart dNoPart dLst
  refine var_at h9 ⟨szn (by rw [e1]; omega), ?_⟩
  refine var_at h9 ⟨szn (by omega), ?_⟩
  refine var_at h9 ⟨szn (by omega), szn (by rw [e2]; exact Nat.le_trans (Nat.add_le_add_right a 1) (by omega)), ?_⟩
  refine var_at h9 ⟨szn (by omega), szn (by rw [e3]; exact Nat.le_trans (Nat.add_le_add_right a 1) (by omega)), ?_⟩
  refine var_at h9 ⟨szn (by show 1 ≤ 100; decide), ?_⟩
  refine var_at h9 ⟨szn (by omega), szn (by rw [e4]; exact Nat.le_trans (Nat.add_le_add_right a 1) (by omega)), ?_⟩
  exact k
theorem w5 {δ : List Sl} {R : DQ} {z : Str} {m : Mc} (h3 : δ[3]? = some (.dat m.d)) (h9 : δ[9]? = some (.dat (.str z))) (hn : m.n ≤ 12) (hz : z.length ≤ 12) (k : R (.list (words5 z m.n)) δ) :
    dLst (dCons (dOp dMulS (dC (.str (Str.ofString "b"))) (dOp dIxT (dVar 3) (dC (.int 0)))) (dCons (dOp dAddS (dC (.str (Str.ofString "+"))) (dSl dSlS (dVar 9) (dPart (dC (.int 1))) dNoPart))
      (dCons (dOp dAddS (dC (.str (Str.ofString "-"))) (dSl dSlS (dVar 9) (dPart (dC (.int 1))) dNoPart)) (dCons (dOp dAddS (dC (.str (Str.ofString " "))) (dSl dSlS (dVar 9) (dPart (dC (.int 1))) dNoPart))
        (dCons (dOp dAddS (dOp dAddS (dSl dSlS (dVar 9) dNoPart (dPart (dC (.int 1)))) (dC (.str (Str.ofString "_")))) (dSl dSlS (dVar 9) (dPart (dC (.int 2))) dNoPart)) dNil))))) δ R := by
  obtain ⟨e1, e2, e3, e4, e5, e6, e7, e8⟩ := len1
  have b := cut_len z (some 1) none
  have c := cut_len z none (some 1)
  have d := cut_len z (some 2) none
  unfold dCons dOp dSl dC dNil dPart dNoPart dLst
  refine var_at h3 ⟨⟨by show -(2 ^ 63 : Int) ≤ (m.n : Int); omega, by show (m.n : Int) ≤ 20000; omega, by rw [e7]; omega⟩, ?_⟩
  refine var_at h9 ⟨szn (by omega), szn (by rw [e4]; omega), ?_⟩
  refine var_at h9 ⟨szn (by omega), szn (by rw [e5]; omega), ?_⟩
  refine var_at h9 ⟨szn (by omega), szn (by rw [e3]; omega), ?_⟩
  refine var_at h9 ⟨szn (by omega), szn (by rw [e6]; omega), ?_⟩
  refine var_at h9 ⟨szn (by omega), szn (by rw [len_app, e6]; omega), szn (by show 5 ≤ 100; decide), ?_⟩
  exact k
theorem w1 {δ : List Sl} {R : DQ} {z : Str} (h9 : δ[9]? = some (.dat (.str z))) (hz : z.length ≤ 12) (k : R (word1 z) δ) :
    dOp dAddS (dOp dAddS (dSl dSlS (dVar 9) dNoPart (dPart (dUn dneg (dC (.int 2))))) (dC (.str (Str.ofString "0\n")))) (dSl dSlS (dVar 9) dNoPart (dPart (dC (.int 0)))) δ R := by
  obtain ⟨e1, e2, e3, e4, e5, e6, e7, e8⟩ := len1
  have b := cut_len z none (some (-2))
  have c := cut_len z none (some 0)
  unfold dOp dSl dUn dC dPart dNoPart
  refine var_at h9 ⟨szn (by omega), szn (by rw [e8]; exact Nat.le_trans (Nat.add_le_add_right b 2) (by omega)), ?_⟩
  refine var_at h9 ⟨szn (by omega), szn (by rw [len_app, e8]; exact Nat.le_trans (Nat.add_le_add (Nat.add_le_add_right b 2) c) (by omega)), ?_⟩
  exact k
theorem noMk_ch {n : Nat} {x : Str} {c : Nat} (few : x.length ≤ 100) (h : c ∈ x.cps.toList) (hc : c ∉ [48, 49]) : NoMk n (.str x) where
  p := rfl
  no := by
    show (decide (x.length = n) && x.cps.toList.all fun c => decide (c ∈ [48, 49])) = false
    have z : (x.cps.toList.all fun c => decide (c ∈ [48, 49])) = false := by
      rw [List.all_eq_false]
      exact ⟨c, h, by simpa using hc⟩
    rw [z, Bool.and_false]
  few := fun y e => by
    cases e
    exact few
theorem noMk_len {n : Nat} {x : Str} (few : x.length ≤ 100) (h : x.length ≠ n) : NoMk n (.str x) where
  p := rfl
  no := by
    show (decide (x.length = n) && x.cps.toList.all fun c => decide (c ∈ [48, 49])) = false
    rw [decide_eq_false h, Bool.false_and]
  few := fun y e => by
    cases e
    exact few
theorem noMk_of {n : Nat} {u : PyData} (h1 : plainD u = true) (h2 : ∀ x, u ≠ .str x) : NoMk n u where
  p := h1
  no := by
    cases u <;> first
      | rfl
      | exact absurd rfl (h2 _)
  few := fun y e => absurd e (h2 y)
theorem cs1 : (Str.ofString "2").cps.toList = [50] ∧ (Str.ofString " ").cps.toList = [32] ∧ (Str.ofString "+").cps.toList = [43] ∧ (Str.ofString "-").cps.toList = [45] ∧ (Str.ofString "_").cps.toList = [95] ∧ (Str.ofString "b").cps.toList = [98] ∧ (Str.ofString "0\n").cps.toList = [48, 10] := by decide +kernel
def words (z : Str) (n : Nat) : List PyData := (words8 z ++ words5 z n ++ [word1 z]) ++ [.bool true, .list [.str (Str.ofString "0")]]
theorem words_at {z : Str} {n : Nat} (hz : z.length = n) (hn : 1 ≤ n ∧ n ≤ 12) {r : Int} (h : 0 ≤ r ∧ r < 16) : ∃ u, atI (words z n) r = some u ∧ NoMk n u := by
  obtain ⟨e1, e2, e3, e4, e5, e6, e7, e8⟩ := len1
  obtain ⟨c1, c2, c3, c4, c5, c6, c7⟩ := cs1
  have a1 : (wA z).length ≤ z.length := cut_len _ _ _
  have a2 : (wB z).length ≤ z.length := cut_len _ _ _
  have a3 := cut_len z none (some 1)
  have a4 := cut_len z (some 2) none
  have a5 := cut_len z none (some (-2))
  have a6 := cut_len z none (some 0)
  have lx : ∀ z : Str, z.cps.toList.length = z.length := fun z => by rw [Array.length_toList]; rfl
  obtain ⟨h1, h2⟩ := h
  have y : r = 0 ∨ r = 1 ∨ r = 2 ∨ r = 3 ∨ r = 4 ∨ r = 5 ∨ r = 6 ∨ r = 7 ∨ r = 8 ∨ r = 9 ∨ r = 10 ∨ r = 11 ∨ r = 12 ∨ r = 13 ∨ r = 14 ∨ r = 15 := by omega
  rcases y with rfl | rfl | rfl | rfl | rfl | rfl | rfl | rfl | rfl | rfl | rfl | rfl | rfl | rfl | rfl | rfl
  · exact ⟨_, rfl, noMk_len (by rw [len_app, e1]; omega) (by rw [len_app, e1]; omega)⟩
  · refine ⟨_, rfl, noMk_len (by omega) ?_⟩
    have e : (wB z).cps.toList = (z.cps.toList.drop (HT.sIx z.length 0 (some ((1 : Nat) : Int)))).take (HT.sIx z.length z.length none - HT.sIx z.length 0 (some ((1 : Nat) : Int))) := rfl
    rw [← lx, e, HT.sIx_nat, HT.sIx_none, List.length_take, List.length_drop, lx]
    omega
  · exact ⟨_, rfl, noMk_ch (c := 50) (by rw [len_app, e2]; omega) (by rw [tl_app, c1]; exact List.mem_append_right _ List.mem_cons_self) (by decide)⟩
  · exact ⟨_, rfl, noMk_ch (c := 32) (by rw [len_app, e3]; omega) (by rw [tl_app, c2]; exact List.mem_append_right _ List.mem_cons_self) (by decide)⟩
  · exact ⟨_, rfl, noMk_of rfl fun _ e => nomatch e⟩
  · exact ⟨_, rfl, noMk_of rfl fun _ e => nomatch e⟩
  · exact ⟨_, rfl, noMk_of rfl fun _ e => nomatch e⟩
  · exact ⟨_, rfl, noMk_ch (c := 43) (by rw [len_app, e4]; omega) (by rw [tl_app, c3]; exact List.mem_append_right _ List.mem_cons_self) (by decide)⟩
  · refine ⟨_, rfl, noMk_ch (c := 98) (by rw [mul_len, e7]; omega) ?_ (by decide)⟩
    rw [tl_mul, c6, List.mem_flatten]
    exact ⟨[98], List.mem_replicate.mpr ⟨by omega, rfl⟩, List.mem_cons_self⟩
  · exact ⟨_, rfl, noMk_ch (c := 43) (by rw [len_app, e4]; omega) (by rw [tl_app, c3]; exact List.mem_append_left _ List.mem_cons_self) (by decide)⟩
  · exact ⟨_, rfl, noMk_ch (c := 45) (by rw [len_app, e5]; omega) (by rw [tl_app, c4]; exact List.mem_append_left _ List.mem_cons_self) (by decide)⟩
  · exact ⟨_, rfl, noMk_ch (c := 32) (by rw [len_app, e3]; omega) (by rw [tl_app, c2]; exact List.mem_append_left _ List.mem_cons_self) (by decide)⟩
  · exact ⟨_, rfl, noMk_ch (c := 95) (by rw [len_app, len_app, e6]; omega) (by rw [tl_app, tl_app, c5]; exact List.mem_append_left _ (List.mem_append_right _ List.mem_cons_self)) (by decide)⟩
  · exact ⟨_, rfl, noMk_ch (c := 10) (by rw [len_app, len_app, e8]; omega) (by rw [tl_app, tl_app, c7]; exact List.mem_append_left _ (List.mem_append_right _ (List.mem_cons_of_mem _ List.mem_cons_self))) (by decide)⟩
  · exact ⟨_, rfl, noMk_of rfl fun _ e => nomatch e⟩
  · exact ⟨_, rfl, noMk_of rfl fun _ e => nomatch e⟩
theorem flat_ones (c : Nat) : ∀ n : Nat, (List.replicate n [c]).flatten = List.replicate n c
  | 0 => rfl
  | n + 1 => by
    rw [List.replicate_succ, List.flatten_cons, flat_ones c n, List.replicate_succ]
    rfl
theorem mul_mk {n : Nat} {x : Str} {c : Nat} {l : List Nat} (hx : x.cps.toList = [c]) (h : ∀ i, i < n → mk1 l i = c) : Txt.mul x (n : Int) = mkS n l := by
  apply TL.ext_tl
  show (Txt.mul x (n : Int)).cps.toList = mkL n l
  rw [tl_mul, hx, flat_ones]
  unfold mkL
  refine (List.eq_replicate_iff.mpr ⟨by rw [List.length_map, List.length_range], fun b hb => ?_⟩).symm
  obtain ⟨i, hi, rfl⟩ := List.mem_map.mp hb
  exact h i (List.mem_range.mp hi)
theorem own_at {i : Nat} {δ : List Sl} {R : DQ} {ds : List PyData} (h : δ[i]? = some (.own none ds)) (k : R (.list ds) (δ.set i (.dat (.list ds)))) : dVar i δ R := by
  unfold dVar
  rw [h]
  exact k
theorem call_end {S : DSp} {δ : List Sl} {R : DQ} (ds : List PyData) (mono : MonoS S) (k : S (ds.map Sl.dat) fun d outs => outs = [] ∧ R d δ) : (muts δ (ds.map CA.d)).Nodup ∧ S (asOf δ (ds.map CA.d) 0) fun d outs => outs.length = (muts δ (ds.map CA.d)).length ∧ R d (setOuts δ (muts δ (ds.map CA.d)) outs) := by
  rw [muts_d, asOf_d]
  refine ⟨List.nodup_nil, mono _ _ _ (fun d o h => ?_) k⟩
  obtain ⟨rfl, h⟩ := h
  exact ⟨rfl, h⟩
theorem call_open {S : DSp} {ua : DCA} {δ : List Sl} {R : DQ} (h : ua δ fun cs δ1 => (muts δ1 cs).Nodup ∧ S (asOf δ1 cs 0) fun d outs => outs.length = (muts δ1 cs).length ∧ R d (setOuts δ1 (muts δ1 cs) outs)) : dCall S ua δ R := h
theorem cD_open {u : DTE} {r : DCA} {δ : List Sl} {Q : List CA → List Sl → Prop} (h : u δ fun d δ1 => r δ1 fun cs δ2 => Q (CA.d d :: cs) δ2) : cD u r δ Q := h
section
variable {P : Program} {w : World} {K : PySem.W.Frag} {mg : Str → Option Value} {base : Heap}
variable (m_len : mg "len" = none) (m_isinstance : mg "isinstance" = none) (m_str : mg "str" = none) (m_bool : mg "bool" = none) (m_range : mg "range" = none) (m_int : mg "int" = none) (m_max : mg "max" = none) (m_min : mg "min" = none) (m_set : mg "set" = none) (m_tuple : mg "tuple" = none) (m_list : mg "list" = none) (m_enumerate : mg "enumerate" = none) (m_all : mg "all" = none) (m_sorted : mg "sorted" = none) (m_repr : mg "repr" = none) (m_IndexError : mg "IndexError" = none) (m_ValueError : mg "ValueError" = none)
include m_len m_isinstance m_str m_bool m_range m_int m_max m_min m_set m_tuple m_list m_enumerate m_all m_sorted m_repr m_IndexError m_ValueError
theorem ok_law {f : Addr} {fd : FuncData} (F : Fun K "law" "law" s_law f fd) {cM cW cR : Addr} (k_law_hand : KnN P w K mg base 1 "_law_hand" S_hand) (k_law_draw : Kn P w K mg base 1 "_law_draw" S_draw) (k_law_machine : Kn P w K mg base 3 "_law_machine" S_lmach) (k_law_no_machine : Kn P w K mg base 8 "_law_no_machine" S_lnomach) (k_law_text : Kn P w K mg base 1 "_law_text" S_ltext) (k_rooms_text : KnX P w K mg base 7 "rooms_text" (S_rtext cM cR)) (k_rooms_in : KnXN P w K mg base 7 "rooms_in" (S_rin cM cW)) (k_law_no_room : Kn P w K mg base 8 "_law_no_room" S_lnoroom) (k_law_no_word : Kn P w K mg base 8 "_law_no_word" S_lnoword) : FnOkG P w K mg base CX0 10 f fd ["_law_script"] (spD K S_law) := by
  refine fnD F sc_law (fun as R h => by obtain ⟨_, _, rfl, _⟩ := h; rfl) fun cdv A outer s H E hr => ?_
  have nd := sc_law.nd
  have hu := hr.units
  have hu1 := hr.units1
  refine ⟨_, _, (dss_cons (ds_for PassesOwn.never rfl (di_r1 m_range (de_max2 m_max de_int (de_min2 m_min (de_lenV 0 m_len) de_int))) (dg_name 1 nd)
    (dss_cons (ds_callOwn 2 nd k_law_hand hr (by omega) (dca_s 0 (dca_d (de_var 1) dca_nil)))
    (dss_cons (ds_set 3 nd (de_call k_law_machine hr (by omega) (dca_s 2 (dca_d de_int (dca_d de_int (dca_d de_str dca_nil))))))
    (dss_cons (ds_set 4 nd (de_lst (da_cons (de_tup (da_cons de_non (da_cons de_str da_nil))) (da_cons (de_tup (da_cons (de_op op_catT ro_catT (de_tup (da_cons de_int da_nil)) (de_sl sl_tup rsl_tup (de_var 3) (do_some de_int) do_none)) (da_cons de_str da_nil))) (da_cons (de_tup (da_cons (de_op op_catT ro_catT (de_op op_catT ro_catT (de_sl sl_tup rsl_tup (de_var 3) do_none (do_some de_int)) (de_tup (da_cons de_non da_nil))) (de_sl sl_tup rsl_tup (de_var 3) (do_some de_int) do_none)) (da_cons de_str da_nil))) da_nil)))))
    (dss_cons (ds_set 4 nd (de_op op_cat ro_cat (de_var 4) (de_lst (da_cons (de_tup (da_cons (de_op op_catT ro_catT (de_op op_catT ro_catT (de_sl sl_tup rsl_tup (de_var 3) do_none (do_some de_int)) (de_tup (da_cons (de_lst (da_cons de_int da_nil)) da_nil))) (de_sl sl_tup rsl_tup (de_var 3) (do_some de_int) do_none)) (da_cons de_str da_nil))) (da_cons (de_tup (da_cons (de_op op_catT ro_catT (de_sl sl_tup rsl_tup (de_var 3) do_none (do_some de_int)) (de_tup (da_cons (de_lst (da_cons (de_tup (da_cons de_int (da_cons de_str da_nil))) da_nil)) da_nil))) (da_cons de_str da_nil))) da_nil)))))
    (dss_cons (ds_setTup (de_ixV 4 (de_call k_law_draw hr (by omega) (dca_s 2 (dca_d de_int dca_nil)))) (dg_tup rfl (dgs_cons (dg_name 5 nd) (dgs_cons (dg_name 6 nd) dgs_nil))))
    (dss_cons (ds_if (dt_not (dt_val (de_call k_law_no_machine hr (by omega) (dca_d (de_var 5) (dca_d (de_var 6) dca_nil))))) (dss_one (ds_ret de_bl)) dss_nil)
    (dss_cons (ds_setLc 8 [("_law_turn", 7)] rfl nd (di_r1 m_range (de_call k_law_draw hr (by omega) (dca_s 2 (dca_d de_int dca_nil)))) (blkOk_by (N := ["_law_script", "_law_k", "_law_hand_here", "_law_machine_here", "_law_bad_ones", "_law_odd", "_law_part", "_law_turn", "_law_rooms_here", "_law_text_here", "_law_handed", "_law_found", "_law_at", "_law_due", "_law_bad"]) (sc := defScope s_law) (by decide +kernel)) (fun _ _ _ _ _ => (dg_name 7 nd)) (fun _ _ _ _ _ => dts_nil) (fun _ _ _ _ _ => (de_callI k_law_draw hr (by omega) (dca_s 2 (dca_d (de_ixTI (de_var 3) de_int) dca_nil)))) (by decide) (sw_true rfl rfl rfl (by decide +kernel)))
    (dss_cons (ds_set 9 nd (de_call k_law_text hr (by omega) (dca_d (de_var 3) (dca_d (de_var 8) dca_nil))))
    (dss_cons (ds_set 10 nd (de_list1 m_list (de_var 8)))
    (dss_cons (ds_if (dt_w (dw_or (dt_cmp (op_neD hu) ro_ne (nomark _) (de_callX takes_no k_rooms_text hr (by omega) (dca_d (de_var 3) (dca_d (de_var 10) dca_nil))) (de_var 9)) (dw_or1 (dt_cmp (op_neD hu) ro_ne (nomark _) (de_var 10) (de_var 8))))) (dss_one (ds_ret de_bl)) dss_nil)
    (dss_cons (ds_for PassesOwn.never rfl (di_r1 m_range de_int) (dg_name 7 nd)
    (dss_cons (ds_callOwnX 11 takes_no nd k_rooms_in hr (by omega) (dca_d (de_var 3) (dca_d (de_var 9) dca_nil)))
    (dss_cons (ds_if (dt_w (dw_or (dt_not (dt_val (de_isiV 11 (T := "list") m_isinstance m_list (by decide +kernel)))) (dw_or1 (dt_neV 11 hu1 (de_sortSet m_sorted m_set (de_var 8)))))) (dss_one (ds_ret de_bl)) dss_nil)
    (dss_one (ds_app 11 de_int (pe_bm PySem.F.plainAttrs_list PySem.F.slot_list_append PySem.F.type_list_append mt_append (pv 11) (pa_cons (DE.pe de_int) pa_nil)))))))
    (dss_cons (ds_set 12 nd (de_call k_law_draw hr (by omega) (dca_s 2 (dca_d (de_op op_add ro_I (de_lenV 8 m_len) de_int) dca_nil))))
    (dss_cons (ds_set 5 nd (de_ix ix_list ro_ixL (de_lst (da_cons (de_ix ix_tup ro_ixT (de_var 3) de_int) (da_cons (de_un un_neg r1_neg de_int) (da_cons de_bl (da_cons de_non (da_cons de_str (da_cons (de_lst (da_cons de_int da_nil)) (da_cons de_bl (da_cons (de_op op_pow ro_IC de_int de_int) da_nil))))))))) (de_call k_law_draw hr (by omega) (dca_s 2 (dca_d de_int dca_nil)))))
    (dss_cons (ds_set 13 nd (de_tup (da_cons (de_var 5) (da_cons de_bl da_nil))))
    (dss_cons (ds_if (dt_cmp op_ne ro_neT (nomark _) (de_reprX m_repr hr.gd hu1 (de_call k_law_no_room hr (by omega) (dca_d (de_var 3) (dca_d (de_op op_cat ro_cat (de_op op_cat ro_cat (de_sl sl_list rsl_list (de_var 8) do_none (do_some (de_var 12))) (de_lst (da_cons (de_var 5) (da_cons de_int da_nil)))) (de_sl sl_list rsl_list (de_var 8) (do_some (de_var 12)) do_none)) dca_nil)))) (de_reprX m_repr hr.gd hu1 (de_var 13))) (dss_one (ds_ret de_bl)) dss_nil)
    (dss_cons (ds_own 14 nd (da_cons (de_op op_add_str ro_addS (de_var 9) de_str) (da_cons (de_sl sl_str rsl_str (de_var 9) (do_some de_int) do_none) (da_cons (de_op op_add_str ro_addS (de_sl sl_str rsl_str (de_var 9) do_none (do_some (de_un un_neg r1_neg de_int))) de_str) (da_cons (de_op op_add_str ro_addS (de_sl sl_str rsl_str (de_var 9) do_none (do_some (de_un un_neg r1_neg de_int))) de_str) (da_cons de_non (da_cons de_int (da_cons (de_lst (da_cons (de_var 9) da_nil)) (da_cons (de_op op_add_str ro_addS (de_sl sl_str rsl_str (de_var 9) do_none (do_some (de_un un_neg r1_neg de_int))) de_str) da_nil)))))))))
    (dss_cons (ds_catOwn 14 nd (de_var 14) (de_lst (da_cons (de_op op_mulS ro_mulS de_str (de_ix ix_tup ro_ixT (de_var 3) de_int)) (da_cons (de_op op_add_str ro_addS de_str (de_sl sl_str rsl_str (de_var 9) (do_some de_int) do_none)) (da_cons (de_op op_add_str ro_addS de_str (de_sl sl_str rsl_str (de_var 9) (do_some de_int) do_none)) (da_cons (de_op op_add_str ro_addS de_str (de_sl sl_str rsl_str (de_var 9) (do_some de_int) do_none)) (da_cons (de_op op_add_str ro_addS (de_op op_add_str ro_addS (de_sl sl_str rsl_str (de_var 9) do_none (do_some de_int)) de_str) (de_sl sl_str rsl_str (de_var 9) (do_some de_int) do_none)) da_nil)))))))
    (dss_cons (ds_app 14 (de_op op_add_str ro_addS (de_op op_add_str ro_addS (de_sl sl_str rsl_str (de_var 9) do_none (do_some (de_un un_neg r1_neg de_int))) de_str) (de_sl sl_str rsl_str (de_var 9) do_none (do_some de_int))) (pe_bm PySem.F.plainAttrs_list PySem.F.slot_list_append PySem.F.type_list_append mt_append (pv 14) (pa_cons (DE.pe (de_op op_add_str ro_addS (de_op op_add_str ro_addS (de_sl sl_str rsl_str (de_var 9) do_none (do_some (de_un un_neg r1_neg de_int))) de_str) (de_sl sl_str rsl_str (de_var 9) do_none (do_some de_int)))) pa_nil)))
    (dss_cons (ds_if (dt_not (dt_val (de_call k_law_no_word hr (by omega) (dca_d (de_var 3) (dca_d (de_ix ix_list ro_ixL (de_op op_cat ro_cat (de_var 14) (de_lst (da_cons de_bl (da_cons (de_lst (da_cons de_str da_nil)) da_nil)))) (de_call k_law_draw hr (by omega) (dca_s 2 (dca_d de_int dca_nil)))) dca_nil))))) (dss_one (ds_ret de_bl)) dss_nil)
    (dss_cons (ds_if (dt_cmp (op_neD hu) ro_ne (nomark _) (de_callX takes_no k_rooms_text hr (by omega) (dca_d (de_var 3) (dca_d (de_lst da_nil) dca_nil))) (de_op op_mulS ro_mulS de_str (de_ix ix_tup ro_ixT (de_var 3) de_int))) (dss_one (ds_ret de_bl)) dss_nil)
    (dss_one (ds_if (dt_cmp (op_neD hu) ro_ne (nomark _) (de_callX takes_no k_rooms_text hr (by omega) (dca_d (de_var 3) (dca_d (de_listRg m_list m_range (de_ix ix_tup ro_ixT (de_var 3) de_int)) dca_nil))) (de_op op_mulS ro_mulS de_str (de_ix ix_tup ro_ixT (de_var 3) de_int))) (dss_one (ds_ret de_bl)) dss_nil)))))))))))))))))))))))
    (dss_one (ds_ret de_bl))), ?_⟩
  rintro as R ⟨ns, hl, rfl, hR⟩
  dsimp only [dSeq, dFor, diR1, dII, dC]
  show (-(2 ^ 62 : Int) ≤ (if (if (20 : Int) < ((ns.map PyData.int).length : Int) then 20 else ((ns.map PyData.int).length : Int)) > 1 then (if (20 : Int) < ((ns.map PyData.int).length : Int) then 20 else ((ns.map PyData.int).length : Int)) else 1) ∧ (if (if (20 : Int) < ((ns.map PyData.int).length : Int) then 20 else ((ns.map PyData.int).length : Int)) > 1 then (if (20 : Int) < ((ns.map PyData.int).length : Int) then 20 else ((ns.map PyData.int).length : Int)) else 1) < 2 ^ 62) ∧ forW _ _ _ (iotaD 0 (if (if (20 : Int) < ((ns.map PyData.int).length : Int) then 20 else ((ns.map PyData.int).length : Int)) > 1 then (if (20 : Int) < ((ns.map PyData.int).length : Int) then 20 else ((ns.map PyData.int).length : Int)) else 1).toNat) _
  have hn : (if (if (20 : Int) < ((ns.map PyData.int).length : Int) then 20 else ((ns.map PyData.int).length : Int)) > 1 then (if (20 : Int) < ((ns.map PyData.int).length : Int) then 20 else ((ns.map PyData.int).length : Int)) else 1) ≤ 20 ∧ 1 ≤ (if (if (20 : Int) < ((ns.map PyData.int).length : Int) then 20 else ((ns.map PyData.int).length : Int)) > 1 then (if (20 : Int) < ((ns.map PyData.int).length : Int) then 20 else ((ns.map PyData.int).length : Int)) else 1) := by
    split <;> split <;> omega
  generalize (if (if (20 : Int) < ((ns.map PyData.int).length : Int) then 20 else ((ns.map PyData.int).length : Int)) > 1 then (if (20 : Int) < ((ns.map PyData.int).length : Int) then 20 else ((ns.map PyData.int).length : Int)) else 1) = n at hn ⊢
  refine ⟨⟨by omega, by omega⟩, ?_⟩
  refine for_inv (fun δ => ∃ s1 s2 s3 s4 s5 s6 s7 s8 s9 s10 s11 s12 s13 s14, δ = [.scr (ns.map PyData.int), s1, s2, s3, s4, s5, s6, s7, s8, s9, s10, s11, s12, s13, s14]) ?_ _ _ ⟨_, _, _, _, _, _, _, _, _, _, _, _, _, _, rfl⟩ ?_
  · rintro δ ⟨s1, s2, s3, s4, s5, s6, s7, s8, s9, s10, s11, s12, s13, s14, rfl⟩
    exact ⟨[], hR, outs0⟩
  rintro d hd δ ⟨s1, s2, s3, s4, s5, s6, s7, s8, s9, s10, s11, s12, s13, s14, rfl⟩ N hN
  obtain ⟨k, hk, rfl⟩ := List.mem_map.mp hd
  have hk := List.mem_range.mp hk
  dsimp only [dgName]
  refine call_hand (i := 2) (j := 0) (q := 1) (ns := ns) (k := (0 : Int) + (k : Int)) rfl rfl hl ⟨by omega, by omega⟩ ?_
  intro x y hv
  dsimp only
  refine sq_asg ?_
  generalize hA : dSeq _ _ = RA
  refine call_own1 (i := 2) (t := none) (cs := [.int x, .int y]) rfl [.int 12, .int 5, .str (Str.ofString "ab")] (fun Q q => q) ⟨x, y, _, rfl, hv, ab_ok, fun m x1 y1 hm hv1 => ⟨_, rfl, ?_⟩⟩ (mono_lmach _)
  have hmn := hm.n
  rw [← hA]
  clear hA RA
  refine sq_asg ?_
  generalize hA : dSeq _ _ = RA
  refine bad3 (m := m) rfl ?_
  rw [← hA]
  clear hA RA
  refine sq_asg ?_
  generalize hA : dSeq _ _ = RA
  unfold dOp
  refine var_at (i := 4) rfl ?_
  refine bad2 (m := m) rfl ⟨szn (by show 5 ≤ 100; decide), ?_⟩
  rw [← hA]
  clear hA RA
  show dSeq _ _ _ [.scr (ns.map PyData.int), .dat (.int ((0 : Int) + (k : Int))), .own none [.int x1, .int y1], .dat m.d, .dat (.list (badL m)), s5, s6, s7, s8, s9, s10, s11, s12, s13, s14]
  refine sq_asg ?_
  generalize hA : dSeq _ _ = RA
  refine ⟨rfl, ?_⟩
  refine call_draw (i := 2) (t := none) (n := 5) rfl hv1 ⟨by decide, by decide⟩ (fun Q q => q) fun r x2 y2 hr hv2 => ?_
  obtain ⟨t, p, e, hB⟩ := bad_at m hr
  show (match atI (badL m) r with
    | some d => dgTup 2 (dgCons (dgName 5) (dgCons (dgName 6) dgNil)) d [.scr (ns.map PyData.int), .dat (.int ((0 : Int) + (k : Int))), .own none [.int x2, .int y2], .dat m.d, .dat (.list (badL m)), s5, s6, s7, s8, s9, s10, s11, s12, s13, s14] (RA _)
    | none => False)
  rw [e]
  refine ⟨rfl, ?_⟩
  show RA _ [.scr (ns.map PyData.int), .dat (.int ((0 : Int) + (k : Int))), .own none [.int x2, .int y2], .dat m.d, .dat (.list (badL m)), .dat t, .dat (.str p), s7, s8, s9, s10, s11, s12, s13, s14]
  rw [← hA]
  clear hA RA
  refine sq_if ?_
  generalize hA : dSeq _ _ = RA
  simp only [dNot, dTest]
  refine call_pure2 [t, .str p] (fun Q z => z) mono_lnomach ⟨m, t, p, rfl, hm, hB, rfl, ?_⟩
  simp only [Bool.not_true, Bool.false_eq_true, if_false]
  rw [← hA]
  clear hA RA hB e
  generalize badL m = bl
  refine sq_asg ?_
  generalize hA : dSeq _ _ = RA
  unfold dLc diR1
  refine call_draw (i := 2) (t := none) (n := 14) rfl hv2 ⟨by decide, by decide⟩ (fun Q q => q) fun r2 x3 y3 hr2 hv3 => ?_
  refine ⟨⟨by omega, by omega⟩, ?_⟩
  have il : (iotaD 0 r2.toNat).length = r2.toNat := by
    unfold iotaD
    rw [List.length_map, List.length_range]
  refine draws_turns (m := m) hmn (iotaD 0 r2.toNat) [] x3 y3 _ (by rw [il]; show 0 + r2.toNat ≤ 100; omega) hv3 (fun c hc => by cases hc) fun l x4 y4 hll hlt hv4 s7' => ?_
  have hll : l.length ≤ 13 := by
    rw [hll, il]
    show 0 + r2.toNat ≤ 13
    omega
  rw [← hA]
  clear hA RA
  show dSeq _ _ _ [.scr (ns.map PyData.int), .dat (.int ((0 : Int) + (k : Int))), .own none [.int x4, .int y4], .dat m.d, .dat (.list bl), .dat t, .dat (.str p), s7', .dat (.list (nums l)), s9, s10, s11, s12, s13, s14]
  refine sq_asg ?_
  generalize hA : dSeq _ _ = RA
  refine call_pure2 [m.d, .list (nums l)] (fun Q z => z) mono_ltext ⟨m, l, rfl, hm, rfl, ?_⟩
  rw [← hA]
  clear hA RA
  refine sq_asg ?_
  generalize hA : dSeq _ _ = RA
  refine var_at rfl ?_
  rw [← hA]
  clear hA RA
  show dSeq _ _ _ [.scr (ns.map PyData.int), .dat (.int ((0 : Int) + (k : Int))), .own none [.int x4, .int y4], .dat m.d, .dat (.list bl), .dat t, .dat (.str p), s7', .dat (.list (nums l)), .dat (.str (mkS m.n l)), .dat (.list (nums l)), s11, s12, s13, s14]
  refine sq_if ?_
  generalize hA : dSeq _ _ = RA
  simp only [dOr, dTest, dOp]
  refine call_x1 [m.d, .list (nums l)] (fun Q z => z) (monox_rtext cM cR) ⟨_, _, rfl, .inl ⟨m, l, rfl, hm, rfl, hlt, rfl, ?_⟩⟩
  refine var_at rfl ⟨sh_mk _ _, sh_mk _ _, ?_⟩
  rw [ev_self]
  simp only [Bool.not_true, Bool.false_eq_true, if_false]
  refine var_at rfl (var_at rfl ⟨sh_nums _, sh_nums _, ?_⟩)
  rw [eqv_nums]
  simp only [Bool.not_true, Bool.false_eq_true, if_false]
  rw [← hA]
  clear hA RA
  refine sq_gen fun M hM => ?_
  refine ⟨⟨by decide, by decide⟩, ?_⟩
  refine for_inv (fun δ => ∃ s7 s11, δ = [.scr (ns.map PyData.int), .dat (.int ((0 : Int) + (k : Int))), .own none [.int x4, .int y4], .dat m.d, .dat (.list bl), .dat t, .dat (.str p), s7, .dat (.list (nums l)), .dat (.str (mkS m.n l)), .dat (.list (nums l)), s11, s12, s13, s14]) ?_ _ _ ⟨_, _, rfl⟩ ?_
  rotate_left
  · rintro d2 hd2 δ ⟨s7, s11, rfl⟩ L hL
    refine sq_gen fun M2 hM2 => ?_
    refine own_newX (δ' := [.scr (ns.map PyData.int), .dat (.int ((0 : Int) + (k : Int))), .own none [.int x4, .int y4], .dat m.d, .dat (.list bl), .dat t, .dat (.str p), .dat d2, .dat (.list (nums l)), .dat (.str (mkS m.n l)), .dat (.list (nums l)), s11, s12, s13, s14]) [m.d, .str (mkS m.n l)] (fun Q z => z) (monox_rin cM cW) ⟨_, _, rfl, .inl ⟨m, l, rfl, hm, rfl, rfl, ?_⟩⟩
    refine hM2 _ ?_
    show dSeq _ _ _ [.scr (ns.map PyData.int), .dat (.int ((0 : Int) + (k : Int))), .own none [.int x4, .int y4], .dat m.d, .dat (.list bl), .dat t, .dat (.str p), .dat d2, .dat (.list (nums l)), .dat (.str (mkS m.n l)), .dat (.list (nums l)), .own none (nums ((List.range m.n).filter fun i => decide (i ∈ l))), s12, s13, s14]
    refine sq_if ?_
    unfold dOr dNot dTest dIsiV
    refine ⟨rfl, ?_⟩
    simp only [kb_ll, Bool.not_true, Bool.false_eq_true, if_false]
    refine ⟨rfl, ?_⟩
    refine var_at (i := 8) (d := .list (nums l)) rfl ?_
    simp only [intsOf_nums]
    refine ⟨by rw [List.length_map]; omega, fun ms pw mem => ?_⟩
    have e := ris_eq hlt pw mem
    rw [e]
    have e2 : ((((List.range m.n).filter fun i => decide (i ∈ l)).map fun (i : Nat) => (i : Int)).map PyData.int) = nums ((List.range m.n).filter fun i => decide (i ∈ l)) := by
      unfold nums
      rw [List.map_map]
      rfl
    rw [e2]
    refine ⟨_, rfl, sh_nums _, sh_nums _, ?_⟩
    rw [eqv_nums]
    simp only [Bool.not_true, Bool.false_eq_true, if_false]
    refine ⟨rfl, ?_⟩
    refine ⟨?_, hL _ ⟨_, _, rfl⟩⟩
    rw [nums_len]
    exact Nat.lt_of_le_of_lt (List.length_filter_le _ _) (by rw [List.length_range]; exact Nat.lt_of_le_of_lt hmn.2 (by decide))
  rintro δ ⟨s7, s11, rfl⟩
  refine hM _ ?_
  clear hM M
  refine sq_asg ?_
  generalize hA : dSeq _ _ = RA
  refine call_draw (i := 2) (t := none) (n := (l.length : Int) + 1) rfl hv4 ⟨by omega, by omega⟩ (fun Q q => by
    show Q (.int (((nums l).length : Int) + 1)) _
    rw [nums_len]
    exact q) fun r3 x5 y5 hr3 hv5 => ?_
  obtain ⟨j, rfl⟩ : ∃ j : Nat, r3 = (j : Int) := ⟨r3.toNat, by omega⟩
  have hj : j ≤ l.length := by omega
  rw [← hA]
  clear hA RA
  show dSeq _ _ _ [.scr (ns.map PyData.int), .dat (.int ((0 : Int) + (k : Int))), .own none [.int x5, .int y5], .dat m.d, .dat (.list bl), .dat t, .dat (.str p), s7, .dat (.list (nums l)), .dat (.str (mkS m.n l)), .dat (.list (nums l)), s11, .dat (.int (j : Int)), s13, s14]
  refine sq_asg ?_
  generalize hA : dSeq _ _ = RA
  unfold dOp
  refine odd8 (m := m) rfl ?_
  refine call_draw (i := 2) (t := none) (n := 8) rfl hv5 ⟨by decide, by decide⟩ (fun Q q => q) fun r4 x6 y6 hr4 hv6 => ?_
  obtain ⟨od, e, hp, hi, hrep⟩ := odd_at hmn hr4
  show (match atI (oddL m) r4 with
    | some d => dgName 5 d [.scr (ns.map PyData.int), .dat (.int ((0 : Int) + (k : Int))), .own none [.int x6, .int y6], .dat m.d, .dat (.list bl), .dat t, .dat (.str p), s7, .dat (.list (nums l)), .dat (.str (mkS m.n l)), .dat (.list (nums l)), s11, .dat (.int (j : Int)), s13, s14] (RA _)
    | none => False)
  rw [e]
  show RA _ [.scr (ns.map PyData.int), .dat (.int ((0 : Int) + (k : Int))), .own none [.int x6, .int y6], .dat m.d, .dat (.list bl), .dat od, .dat (.str p), s7, .dat (.list (nums l)), .dat (.str (mkS m.n l)), .dat (.list (nums l)), s11, .dat (.int (j : Int)), s13, s14]
  rw [← hA]
  clear hA RA e
  refine sq_asg ?_
  generalize hA : dSeq _ _ = RA
  unfold dTup dCons dC dNil
  refine var_at (i := 5) (d := od) rfl ⟨szn (by show 2 ≤ 100; decide), ?_⟩
  show RA _ [.scr (ns.map PyData.int), .dat (.int ((0 : Int) + (k : Int))), .own none [.int x6, .int y6], .dat m.d, .dat (.list bl), .dat od, .dat (.str p), s7, .dat (.list (nums l)), .dat (.str (mkS m.n l)), .dat (.list (nums l)), s11, .dat (.int (j : Int)), .dat (.tuple [od, .bool true]), s14]
  rw [← hA]
  clear hA RA
  refine sq_if ?_
  generalize hA : dSeq _ _ = RA
  unfold dTest dOp dReprX
  refine call_pure2 (δ' := [.scr (ns.map PyData.int), .dat (.int ((0 : Int) + (k : Int))), .own none [.int x6, .int y6], .dat m.d, .dat (.list bl), .dat od, .dat (.str p), s7, .dat (.list (nums l)), .dat (.str (mkS m.n l)), .dat (.list (nums l)), s11, .dat (.int (j : Int)), .dat (.tuple [od, .bool true]), s14]) [m.d, .list (nums (l.take j) ++ od :: (.int 99 :: nums (l.drop j)))] (fun Q z => var_at rfl (spoil rfl rfl rfl hj hll z)) mono_lnoroom ⟨m, l.take j, od, _, rfl, hm, fun i hi => hlt i (List.mem_of_mem_take hi), hp, hi, rfl, ?_⟩
  refine ⟨hrep.o, hrep.s, hrep.l, hrep.d, ?_⟩
  refine var_at (i := 13) (d := .tuple [od, .bool true]) rfl ?_
  refine ⟨hrep.o, hrep.s, hrep.l, hrep.d, ?_⟩
  simp only [dNeT, beq_self_eq_true, Bool.not_true, Bool.false_eq_true, if_false]
  rw [← hA]
  clear hA RA
  refine sq_own ?_
  have hz : (mkS m.n l).length ≤ 12 := by rw [mkS_len]; exact hmn.2
  generalize hA : dSeq _ _ = RA
  refine w8 (z := mkS m.n l) rfl hz ⟨szn (by show 8 ≤ 100; decide), ?_⟩
  rw [← hA]
  clear hA RA
  show dSeq _ _ _ [.scr (ns.map PyData.int), .dat (.int ((0 : Int) + (k : Int))), .own none [.int x6, .int y6], .dat m.d, .dat (.list bl), .dat od, .dat (.str p), s7, .dat (.list (nums l)), .dat (.str (mkS m.n l)), .dat (.list (nums l)), s11, .dat (.int (j : Int)), .dat (.tuple [od, .bool true]), .own none (words8 (mkS m.n l))]
  refine sq_gen fun M hM => ?_
  unfold dCatOwn
  refine own_at rfl ?_
  refine w5 (m := m) (z := mkS m.n l) rfl rfl hmn.2 hz ⟨szn (by show 13 ≤ 100; decide), ?_⟩
  refine hM _ ?_
  clear hM M
  show dSeq _ _ _ [.scr (ns.map PyData.int), .dat (.int ((0 : Int) + (k : Int))), .own none [.int x6, .int y6], .dat m.d, .dat (.list bl), .dat od, .dat (.str p), s7, .dat (.list (nums l)), .dat (.str (mkS m.n l)), .dat (.list (nums l)), s11, .dat (.int (j : Int)), .dat (.tuple [od, .bool true]), .own none (words8 (mkS m.n l) ++ words5 (mkS m.n l) m.n)]
  refine sq_gen fun M hM => ?_
  refine ⟨rfl, ?_⟩
  refine w1 (z := mkS m.n l) rfl hz ⟨by show 13 < sizeLine; decide, ?_⟩
  refine hM _ ?_
  clear hM M
  show dSeq _ _ _ [.scr (ns.map PyData.int), .dat (.int ((0 : Int) + (k : Int))), .own none [.int x6, .int y6], .dat m.d, .dat (.list bl), .dat od, .dat (.str p), s7, .dat (.list (nums l)), .dat (.str (mkS m.n l)), .dat (.list (nums l)), s11, .dat (.int (j : Int)), .dat (.tuple [od, .bool true]), .own none (words8 (mkS m.n l) ++ words5 (mkS m.n l) m.n ++ [word1 (mkS m.n l)])]
  refine sq_if ?_
  generalize hA : dSeq _ _ = RA
  unfold dNot dTest
  refine call_open (cD_open (var_at (i := 3) (d := m.d) rfl (cD_open ?_)))
  unfold dOp
  refine own_at (i := 14) rfl ?_
  refine ⟨szn (by show 1 ≤ 100; decide), szn (by show 2 ≤ 100; decide), szn (by show 16 ≤ 100; decide), ?_⟩
  refine call_draw (i := 2) (t := none) (n := 16) rfl hv6 ⟨by decide, by decide⟩ (fun Q q => q) fun r5 x7 y7 hr5 hv7 => ?_
  obtain ⟨u, e, hu3⟩ := words_at (mkS_len m.n l) hmn hr5
  show (match atI (words (mkS m.n l) m.n) r5 with
    | some d => _
    | none => False)
  rw [e]
  show (muts [.scr (ns.map PyData.int), .dat (.int ((0 : Int) + (k : Int))), .own none [.int x7, .int y7], .dat m.d, .dat (.list bl), .dat od, .dat (.str p), s7, .dat (.list (nums l)), .dat (.str (mkS m.n l)), .dat (.list (nums l)), s11, .dat (.int (j : Int)), .dat (.tuple [od, .bool true]), .dat (.list (words8 (mkS m.n l) ++ words5 (mkS m.n l) m.n ++ [word1 (mkS m.n l)]))] ([m.d, u].map CA.d)).Nodup ∧ S_lnoword (asOf _ ([m.d, u].map CA.d) 0) _
  rw [muts_d, asOf_d]
  refine ⟨List.nodup_nil, m, u, rfl, hm, hu3, rfl, ?_⟩
  simp only [Bool.not_true, Bool.false_eq_true, if_false]
  rw [← hA]
  clear hA RA
  show dSeq _ _ _ [.scr (ns.map PyData.int), .dat (.int ((0 : Int) + (k : Int))), .own none [.int x7, .int y7], .dat m.d, .dat (.list bl), .dat od, .dat (.str p), s7, .dat (.list (nums l)), .dat (.str (mkS m.n l)), .dat (.list (nums l)), s11, .dat (.int (j : Int)), .dat (.tuple [od, .bool true]), .dat (.list (words8 (mkS m.n l) ++ words5 (mkS m.n l) m.n ++ [word1 (mkS m.n l)]))]
  have c0 : (Str.ofString "0").cps.toList = [48] := by decide +kernel
  have c1 : (Str.ofString "1").cps.toList = [49] := by decide +kernel
  have m0 : Txt.mul (Str.ofString "0") (m.n : Int) = mkS m.n [] := mul_mk c0 fun i _ => rfl
  have m1 : Txt.mul (Str.ofString "1") (m.n : Int) = mkS m.n (List.range m.n) := mul_mk c1 fun i hi => if_pos (List.mem_range.mpr hi)
  refine sq_if ?_
  generalize hA : dIfS _ _ _ = RA
  unfold dTest dOp dC
  refine call_x1 (δ' := [.scr (ns.map PyData.int), .dat (.int ((0 : Int) + (k : Int))), .own none [.int x7, .int y7], .dat m.d, .dat (.list bl), .dat od, .dat (.str p), s7, .dat (.list (nums l)), .dat (.str (mkS m.n l)), .dat (.list (nums l)), s11, .dat (.int (j : Int)), .dat (.tuple [od, .bool true]), .dat (.list (words8 (mkS m.n l) ++ words5 (mkS m.n l) m.n ++ [word1 (mkS m.n l)]))]) [m.d, .list (nums [])] (fun Q z => by
    refine cD_open (var_at (i := 3) (d := m.d) rfl (cD_open ?_))
    exact ⟨szn (by show 0 ≤ 100; decide), z⟩) (monox_rtext cM cR) ⟨_, _, rfl, .inl ⟨m, [], rfl, hm, rfl, (fun i hi => by cases hi), rfl, ?_⟩⟩
  refine var_at (i := 3) (d := m.d) rfl ⟨⟨by show -(2 ^ 63 : Int) ≤ (m.n : Int); omega, by show (m.n : Int) ≤ 20000; omega, by decide +kernel⟩, ?_⟩
  rw [m0]
  refine ⟨sh_mk _ _, sh_mk _ _, ?_⟩
  rw [ev_self]
  simp only [Bool.not_true, Bool.false_eq_true, if_false]
  rw [← hA]
  clear hA RA
  unfold dIfS dTest dOp dC
  refine call_x1 (δ' := [.scr (ns.map PyData.int), .dat (.int ((0 : Int) + (k : Int))), .own none [.int x7, .int y7], .dat m.d, .dat (.list bl), .dat od, .dat (.str p), s7, .dat (.list (nums l)), .dat (.str (mkS m.n l)), .dat (.list (nums l)), s11, .dat (.int (j : Int)), .dat (.tuple [od, .bool true]), .dat (.list (words8 (mkS m.n l) ++ words5 (mkS m.n l) m.n ++ [word1 (mkS m.n l)]))]) [m.d, .list (nums (List.range m.n))] (fun Q z => by
    refine cD_open (var_at (i := 3) (d := m.d) rfl (cD_open ?_))
    unfold dListRg
    refine var_at (i := 3) (d := m.d) rfl ?_
    refine ⟨⟨by show (0 : Int) ≤ (m.n : Int); omega, by show (m.n : Int) ≤ 16777216; omega⟩, ?_⟩
    show Q [CA.d m.d, CA.d (.list (iotaD 0 ((m.n : Int)).toNat))] _
    rw [iota_nat]
    exact z) (monox_rtext cM cR) ⟨_, _, rfl, .inl ⟨m, List.range m.n, rfl, hm, rfl, (fun i hi => List.mem_range.mp hi), rfl, ?_⟩⟩
  refine var_at (i := 3) (d := m.d) rfl ⟨⟨by show -(2 ^ 63 : Int) ≤ (m.n : Int); omega, by show (m.n : Int) ≤ 20000; omega, by decide +kernel⟩, ?_⟩
  rw [m1]
  refine ⟨sh_mk _ _, sh_mk _ _, ?_⟩
  rw [ev_self]
  simp only [Bool.not_true, Bool.false_eq_true, if_false]
  exact hN _ ⟨_, _, _, _, _, _, _, _, _, _, _, _, _, _, rfl⟩
end
end K30

set_option Elab.async false
set_option linter.all false
set_option maxRecDepth 100000
set_option maxHeartbeats 4000000
/-! K30p: the refusals made -/
namespace K30
open PySem PySem.Spec L2 TL
abbrev s_init_NoMachine : Stmt := inCls 0 (top 1)
theorem sc_init_NoMachine : FnScope ["self", "part", "number"] ["self", "part", "number"] (defScope s_init_NoMachine) := ⟨rfl, rfl, rfl, by decide +kernel, rfl, by decide +kernel, by decide +kernel⟩
abbrev s_init_NoWord : Stmt := inCls 0 (top 2)
theorem sc_init_NoWord : FnScope ["self", "at"] ["self", "at"] (defScope s_init_NoWord) := ⟨rfl, rfl, rfl, by decide +kernel, rfl, by decide +kernel, by decide +kernel⟩
abbrev s_init_NoRoom : Stmt := inCls 0 (top 3)
theorem sc_init_NoRoom : FnScope ["self", "room"] ["self", "room"] (defScope s_init_NoRoom) := ⟨rfl, rfl, rfl, by decide +kernel, rfl, by decide +kernel, by decide +kernel⟩
section
variable {P : Program} {w : World} {K : PySem.W.Frag} {mg : Str → Option Value} {base : Heap}
theorem ok_init_NoMachine {f C : Addr} {fd : FuncData} (F : Fun K "__init__" "NoMachine.__init__" s_init_NoMachine f fd) (T : ErrC K C) (hf0 : PySem.W.takerIn K C "part" = some none) (hf1 : PySem.W.takerIn K C "number" = some none) : FnOkG P w K mg base CX0 1 f fd ["self", "part", "number"] (spInit C ["part", "number"]) :=
  init2 F sc_init_NoMachine T hf0 hf1 fun cdv A outer z H E => pss_cons (ps_fld (DE.pe (de_var 0)) (DE.pe (de_var 1))) (pss_one (ps_fld (DE.pe (de_var 0)) (DE.pe (de_var 2))))
theorem ok_init_NoWord {f C : Addr} {fd : FuncData} (F : Fun K "__init__" "NoWord.__init__" s_init_NoWord f fd) (T : ErrC K C) (hf0 : PySem.W.takerIn K C "at" = some none) : FnOkG P w K mg base CX0 1 f fd ["self", "at"] (spInit C ["at"]) :=
  init1 F sc_init_NoWord T hf0 fun cdv A outer z H E => pss_one (ps_fld (DE.pe (de_var 0)) (DE.pe (de_var 1)))
theorem ok_init_NoRoom {f C : Addr} {fd : FuncData} (F : Fun K "__init__" "NoRoom.__init__" s_init_NoRoom f fd) (T : ErrC K C) (hf0 : PySem.W.takerIn K C "room" = some none) : FnOkG P w K mg base CX0 1 f fd ["self", "room"] (spInit C ["room"]) :=
  init1 F sc_init_NoRoom T hf0 fun cdv A outer z H E => pss_one (ps_fld (DE.pe (de_var 0)) (DE.pe (de_var 1)))
end
end K30

set_option Elab.async false
set_option linter.all false
set_option maxRecDepth 100000
set_option maxHeartbeats 4000000
namespace K30
open PySem PySem.Spec L2 TL
theorem all_mk {l : PySem.W.OpenLaw} {w : World} {K : PySem.W.Frag} {h : Heap} {mg : Str → Option Value} {fa f1 f2 f3 f4 f5 f6 f7 f8 f9 f10 f11 f12 f13 f14 f15 f16 f17 f18 f19 f20 f21 f22 : Addr} (X : K.In h) (G : h.Ns mainGlobals mg) (hfa : mg "law" = some (.ref fa))
    {od1 an1 od2 an2 od3 an3 od4 an4 od5 an5 od6 an6 od7 an7 od8 an8 od9 an9 od10 an10 od11 an11 od12 an12 od13 an13 od14 an14 od15 an15 od16 an16 od17 an17 od18 an18 od19 an19 od20 an20 od21 an21 od22 an22 : Option Addr} {sl1 sl2 sl3 sl4 sl5 sl6 sl7 sl8 sl9 sl10 sl11 sl12 sl13 sl14 sl15 sl16 sl17 sl18 sl19 sl20 sl21 sl22 : Array (Option Value)} {oc1 kV1 dc1 pm1 cd1 ct1 oc2 kV2 dc2 pm2 cd2 ct2 oc3 kV3 dc3 pm3 cd3 ct3 oc4 kV4 dc4 pm4 cd4 ct4 oc5 kV5 dc5 pm5 cd5 ct5 oc6 kV6 dc6 pm6 cd6 ct6 oc7 kV7 dc7 pm7 cd7 ct7 oc8 kV8 dc8 pm8 cd8 ct8 oc9 kV9 dc9 pm9 cd9 ct9 oc10 kV10 dc10 pm10 cd10 ct10 oc11 kV11 dc11 pm11 cd11 ct11 oc12 kV12 dc12 pm12 cd12 ct12 oc13 kV13 dc13 pm13 cd13 ct13 oc14 kV14 dc14 pm14 cd14 ct14 oc15 kV15 dc15 pm15 cd15 ct15 oc16 kV16 dc16 pm16 cd16 ct16 oc17 kV17 dc17 pm17 cd17 ct17 oc18 kV18 dc18 pm18 cd18 ct18 oc19 kV19 dc19 pm19 cd19 ct19 oc20 kV20 dc20 pm20 cd20 ct20 oc21 kV21 dc21 pm21 cd21 ct21 oc22 kV22 dc22 pm22 cd22 ct22 : Value}
    (a1 : PySem.W.nsIn K mainGlobals "is_whole" = some (some (.ref f1))) (l1 : K.lookup f1 = some ⟨oc1, od1, .func (PySem.W.fnOf "is_whole" "is_whole" (defArgs s_is_whole) (defBody s_is_whole) (defScope s_is_whole) .none kV1 dc1 pm1 an1 cd1 ct1), sl1⟩) (c1 : PySem.W.codeIn K cd1 "is_whole" = true) (k1 : PySem.W.keepIn K (.ref f1) = true)
    (a2 : PySem.W.nsIn K mainGlobals "is_sign" = some (some (.ref f2))) (l2 : K.lookup f2 = some ⟨oc2, od2, .func (PySem.W.fnOf "is_sign" "is_sign" (defArgs s_is_sign) (defBody s_is_sign) (defScope s_is_sign) .none kV2 dc2 pm2 an2 cd2 ct2), sl2⟩) (c2 : PySem.W.codeIn K cd2 "is_sign" = true) (k2 : PySem.W.keepIn K (.ref f2) = true)
    (a3 : PySem.W.nsIn K mainGlobals "is_room" = some (some (.ref f3))) (l3 : K.lookup f3 = some ⟨oc3, od3, .func (PySem.W.fnOf "is_room" "is_room" (defArgs s_is_room) (defBody s_is_room) (defScope s_is_room) .none kV3 dc3 pm3 an3 cd3 ct3), sl3⟩) (c3 : PySem.W.codeIn K cd3 "is_room" = true) (k3 : PySem.W.keepIn K (.ref f3) = true)
    (a4 : PySem.W.nsIn K mainGlobals "look_at_room" = some (some (.ref f4))) (l4 : K.lookup f4 = some ⟨oc4, od4, .func (PySem.W.fnOf "look_at_room" "look_at_room" (defArgs s_look_at_room) (defBody s_look_at_room) (defScope s_look_at_room) .none kV4 dc4 pm4 an4 cd4 ct4), sl4⟩) (c4 : PySem.W.codeIn K cd4 "look_at_room" = true) (k4 : PySem.W.keepIn K (.ref f4) = true)
    (a5 : PySem.W.nsIn K mainGlobals "look_at" = some (some (.ref f5))) (l5 : K.lookup f5 = some ⟨oc5, od5, .func (PySem.W.fnOf "look_at" "look_at" (defArgs s_look_at) (defBody s_look_at) (defScope s_look_at) .none kV5 dc5 pm5 an5 cd5 ct5), sl5⟩) (c5 : PySem.W.codeIn K cd5 "look_at" = true) (k5 : PySem.W.keepIn K (.ref f5) = true)
    (a6 : PySem.W.nsIn K mainGlobals "look_at_rooms" = some (some (.ref f6))) (l6 : K.lookup f6 = some ⟨oc6, od6, .func (PySem.W.fnOf "look_at_rooms" "look_at_rooms" (defArgs s_look_at_rooms) (defBody s_look_at_rooms) (defScope s_look_at_rooms) .none kV6 dc6 pm6 an6 cd6 ct6), sl6⟩) (c6 : PySem.W.codeIn K cd6 "look_at_rooms" = true) (k6 : PySem.W.keepIn K (.ref f6) = true)
    (a7 : PySem.W.nsIn K mainGlobals "look_at_steps" = some (some (.ref f7))) (l7 : K.lookup f7 = some ⟨oc7, od7, .func (PySem.W.fnOf "look_at_steps" "look_at_steps" (defArgs s_look_at_steps) (defBody s_look_at_steps) (defScope s_look_at_steps) .none kV7 dc7 pm7 an7 cd7 ct7), sl7⟩) (c7 : PySem.W.codeIn K cd7 "look_at_steps" = true) (k7 : PySem.W.keepIn K (.ref f7) = true)
    (a8 : PySem.W.nsIn K mainGlobals "is_step" = some (some (.ref f8))) (l8 : K.lookup f8 = some ⟨oc8, od8, .func (PySem.W.fnOf "is_step" "is_step" (defArgs s_is_step) (defBody s_is_step) (defScope s_is_step) .none kV8 dc8 pm8 an8 cd8 ct8), sl8⟩) (c8 : PySem.W.codeIn K cd8 "is_step" = true) (k8 : PySem.W.keepIn K (.ref f8) = true)
    (a9 : PySem.W.nsIn K mainGlobals "rooms_text" = some (some (.ref f9))) (l9 : K.lookup f9 = some ⟨oc9, od9, .func (PySem.W.fnOf "rooms_text" "rooms_text" (defArgs s_rooms_text) (defBody s_rooms_text) (defScope s_rooms_text) .none kV9 dc9 pm9 an9 cd9 ct9), sl9⟩) (c9 : PySem.W.codeIn K cd9 "rooms_text" = true) (k9 : PySem.W.keepIn K (.ref f9) = true)
    (a10 : PySem.W.nsIn K mainGlobals "rooms_in" = some (some (.ref f10))) (l10 : K.lookup f10 = some ⟨oc10, od10, .func (PySem.W.fnOf "rooms_in" "rooms_in" (defArgs s_rooms_in) (defBody s_rooms_in) (defScope s_rooms_in) .none kV10 dc10 pm10 an10 cd10 ct10), sl10⟩) (c10 : PySem.W.codeIn K cd10 "rooms_in" = true) (k10 : PySem.W.keepIn K (.ref f10) = true)
    (a11 : PySem.W.nsIn K mainGlobals "marks" = some (some (.ref f11))) (l11 : K.lookup f11 = some ⟨oc11, od11, .func (PySem.W.fnOf "marks" "marks" (defArgs s_marks) (defBody s_marks) (defScope s_marks) .none kV11 dc11 pm11 an11 cd11 ct11), sl11⟩) (c11 : PySem.W.codeIn K cd11 "marks" = true) (k11 : PySem.W.keepIn K (.ref f11) = true)
    (a12 : PySem.W.nsIn K mainGlobals "are_marks" = some (some (.ref f12))) (l12 : K.lookup f12 = some ⟨oc12, od12, .func (PySem.W.fnOf "are_marks" "are_marks" (defArgs s_are_marks) (defBody s_are_marks) (defScope s_are_marks) .none kV12 dc12 pm12 an12 cd12 ct12), sl12⟩) (c12 : PySem.W.codeIn K cd12 "are_marks" = true) (k12 : PySem.W.keepIn K (.ref f12) = true)
    (a13 : PySem.W.nsIn K mainGlobals "marked" = some (some (.ref f13))) (l13 : K.lookup f13 = some ⟨oc13, od13, .func (PySem.W.fnOf "marked" "marked" (defArgs s_marked) (defBody s_marked) (defScope s_marked) .none kV13 dc13 pm13 an13 cd13 ct13), sl13⟩) (c13 : PySem.W.codeIn K cd13 "marked" = true) (k13 : PySem.W.keepIn K (.ref f13) = true)
    (a14 : PySem.W.nsIn K mainGlobals "_law_hand" = some (some (.ref f14))) (l14 : K.lookup f14 = some ⟨oc14, od14, .func (PySem.W.fnOf "_law_hand" "_law_hand" (defArgs s_law_hand) (defBody s_law_hand) (defScope s_law_hand) .none kV14 dc14 pm14 an14 cd14 ct14), sl14⟩) (c14 : PySem.W.codeIn K cd14 "_law_hand" = true) (k14 : PySem.W.keepIn K (.ref f14) = true)
    (a15 : PySem.W.nsIn K mainGlobals "_law_draw" = some (some (.ref f15))) (l15 : K.lookup f15 = some ⟨oc15, od15, .func (PySem.W.fnOf "_law_draw" "_law_draw" (defArgs s_law_draw) (defBody s_law_draw) (defScope s_law_draw) .none kV15 dc15 pm15 an15 cd15 ct15), sl15⟩) (c15 : PySem.W.codeIn K cd15 "_law_draw" = true) (k15 : PySem.W.keepIn K (.ref f15) = true)
    (a16 : PySem.W.nsIn K mainGlobals "_law_rooms" = some (some (.ref f16))) (l16 : K.lookup f16 = some ⟨oc16, od16, .func (PySem.W.fnOf "_law_rooms" "_law_rooms" (defArgs s_law_rooms) (defBody s_law_rooms) (defScope s_law_rooms) .none kV16 dc16 pm16 an16 cd16 ct16), sl16⟩) (c16 : PySem.W.codeIn K cd16 "_law_rooms" = true) (k16 : PySem.W.keepIn K (.ref f16) = true)
    (a17 : PySem.W.nsIn K mainGlobals "_law_machine" = some (some (.ref f17))) (l17 : K.lookup f17 = some ⟨oc17, od17, .func (PySem.W.fnOf "_law_machine" "_law_machine" (defArgs s_law_machine) (defBody s_law_machine) (defScope s_law_machine) .none kV17 dc17 pm17 an17 cd17 ct17), sl17⟩) (c17 : PySem.W.codeIn K cd17 "_law_machine" = true) (k17 : PySem.W.keepIn K (.ref f17) = true)
    (a18 : PySem.W.nsIn K mainGlobals "_law_text" = some (some (.ref f18))) (l18 : K.lookup f18 = some ⟨oc18, od18, .func (PySem.W.fnOf "_law_text" "_law_text" (defArgs s_law_text) (defBody s_law_text) (defScope s_law_text) .none kV18 dc18 pm18 an18 cd18 ct18), sl18⟩) (c18 : PySem.W.codeIn K cd18 "_law_text" = true) (k18 : PySem.W.keepIn K (.ref f18) = true)
    (a19 : PySem.W.nsIn K mainGlobals "_law_no_room" = some (some (.ref f19))) (l19 : K.lookup f19 = some ⟨oc19, od19, .func (PySem.W.fnOf "_law_no_room" "_law_no_room" (defArgs s_law_no_room) (defBody s_law_no_room) (defScope s_law_no_room) .none kV19 dc19 pm19 an19 cd19 ct19), sl19⟩) (c19 : PySem.W.codeIn K cd19 "_law_no_room" = true) (k19 : PySem.W.keepIn K (.ref f19) = true)
    (a20 : PySem.W.nsIn K mainGlobals "_law_no_word" = some (some (.ref f20))) (l20 : K.lookup f20 = some ⟨oc20, od20, .func (PySem.W.fnOf "_law_no_word" "_law_no_word" (defArgs s_law_no_word) (defBody s_law_no_word) (defScope s_law_no_word) .none kV20 dc20 pm20 an20 cd20 ct20), sl20⟩) (c20 : PySem.W.codeIn K cd20 "_law_no_word" = true) (k20 : PySem.W.keepIn K (.ref f20) = true)
    (a21 : PySem.W.nsIn K mainGlobals "_law_no_machine" = some (some (.ref f21))) (l21 : K.lookup f21 = some ⟨oc21, od21, .func (PySem.W.fnOf "_law_no_machine" "_law_no_machine" (defArgs s_law_no_machine) (defBody s_law_no_machine) (defScope s_law_no_machine) .none kV21 dc21 pm21 an21 cd21 ct21), sl21⟩) (c21 : PySem.W.codeIn K cd21 "_law_no_machine" = true) (k21 : PySem.W.keepIn K (.ref f21) = true)
    (a22 : PySem.W.nsIn K mainGlobals "law" = some (some (.ref f22))) (l22 : K.lookup f22 = some ⟨oc22, od22, .func (PySem.W.fnOf "law" "law" (defArgs s_law) (defBody s_law) (defScope s_law) .none kV22 dc22 pm22 an22 cd22 ct22), sl22⟩) (c22 : PySem.W.codeIn K cd22 "law" = true) (k22 : PySem.W.keepIn K (.ref f22) = true)
    (gi_ROOMS_MOST : ∃ tk, PySem.W.nsIn K mainGlobals "ROOMS_MOST" = some (some (.int 12 tk)))
    (gi_STEPS_MOST : ∃ tk, PySem.W.nsIn K mainGlobals "STEPS_MOST" = some (some (.int 200 tk)))
    {CNoMachine INoMachine : Addr} {oiNoMachine niNoMachine : Option Addr} {siNoMachine : Array (Option Value)} {wiNoMachine kiNoMachine diNoMachine piNoMachine xiNoMachine tiNoMachine : Value}
    (gc_NoMachine : PySem.W.nsIn K mainGlobals "NoMachine" = some (some (.ref CNoMachine)))
    (eb_NoMachine : PySem.W.excInitIn K CNoMachine [.type "ValueError", .type "Exception", .type "BaseException", .type "object"] "ValueError.__new__" = true)
    (eo_NoMachine : PySem.W.excOver K CNoMachine [.type "ValueError", .type "Exception", .type "BaseException", .type "object"] = true)
    (e1_NoMachine : PySem.W.findIn K (.ref CNoMachine) "__setattr__" = some (some (.builtin "object.__setattr__")))
    (e2_NoMachine : PySem.W.hasDictIn K CNoMachine = true)
    (e3_NoMachine : PySem.W.subIn K (.ref CNoMachine) (.type "BaseException") = some true)
    (e4_NoMachine : PySem.W.typeIn K (.ref CNoMachine) = some (.type "type"))
    (e5_NoMachine : PySem.W.keepIn K (.ref CNoMachine) = true)
    (e6_NoMachine : PySem.W.findIn K (.ref CNoMachine) "__getattribute__" = some (some (.builtin "BaseException.__getattribute__")))
    (e7_NoMachine : PySem.W.findIn K (.ref CNoMachine) "__getattr__" = some none)
    (e8_NoMachine : PySem.W.findIn K (.ref CNoMachine) "__class__" = some (some (.builtin "object.__class__")))
    (e9_NoMachine : PySem.W.mroIn K CNoMachine (.type "object") = some true)
    (ii_NoMachine : PySem.W.findIn K (.ref CNoMachine) "__init__" = some (some (.ref INoMachine)))
    (ty_NoMachine : PySem.W.typeIn K (.ref INoMachine) = some (.type "function"))
    (li_NoMachine : K.lookup INoMachine = some ⟨wiNoMachine, oiNoMachine, .func (PySem.W.fnOf "__init__" "NoMachine.__init__" (defArgs s_init_NoMachine) (defBody s_init_NoMachine) (defScope s_init_NoMachine) .none kiNoMachine diNoMachine piNoMachine niNoMachine xiNoMachine tiNoMachine), siNoMachine⟩)
    (ci_NoMachine : PySem.W.codeIn K xiNoMachine "NoMachine.__init__" = true)
    (kp_NoMachine : PySem.W.keepIn K (.ref INoMachine) = true)
    (tf_part_NoMachine : PySem.W.takerIn K CNoMachine "part" = some none)
    (ff_part_NoMachine : PySem.W.findIn K (.ref CNoMachine) "part" = some none)
    (tf_number_NoMachine : PySem.W.takerIn K CNoMachine "number" = some none)
    (ff_number_NoMachine : PySem.W.findIn K (.ref CNoMachine) "number" = some none)
    {CNoWord INoWord : Addr} {oiNoWord niNoWord : Option Addr} {siNoWord : Array (Option Value)} {wiNoWord kiNoWord diNoWord piNoWord xiNoWord tiNoWord : Value}
    (gc_NoWord : PySem.W.nsIn K mainGlobals "NoWord" = some (some (.ref CNoWord)))
    (eb_NoWord : PySem.W.excInitIn K CNoWord [.type "ValueError", .type "Exception", .type "BaseException", .type "object"] "ValueError.__new__" = true)
    (eo_NoWord : PySem.W.excOver K CNoWord [.type "ValueError", .type "Exception", .type "BaseException", .type "object"] = true)
    (e1_NoWord : PySem.W.findIn K (.ref CNoWord) "__setattr__" = some (some (.builtin "object.__setattr__")))
    (e2_NoWord : PySem.W.hasDictIn K CNoWord = true)
    (e3_NoWord : PySem.W.subIn K (.ref CNoWord) (.type "BaseException") = some true)
    (e4_NoWord : PySem.W.typeIn K (.ref CNoWord) = some (.type "type"))
    (e5_NoWord : PySem.W.keepIn K (.ref CNoWord) = true)
    (e6_NoWord : PySem.W.findIn K (.ref CNoWord) "__getattribute__" = some (some (.builtin "BaseException.__getattribute__")))
    (e7_NoWord : PySem.W.findIn K (.ref CNoWord) "__getattr__" = some none)
    (e8_NoWord : PySem.W.findIn K (.ref CNoWord) "__class__" = some (some (.builtin "object.__class__")))
    (e9_NoWord : PySem.W.mroIn K CNoWord (.type "object") = some true)
    (ii_NoWord : PySem.W.findIn K (.ref CNoWord) "__init__" = some (some (.ref INoWord)))
    (ty_NoWord : PySem.W.typeIn K (.ref INoWord) = some (.type "function"))
    (li_NoWord : K.lookup INoWord = some ⟨wiNoWord, oiNoWord, .func (PySem.W.fnOf "__init__" "NoWord.__init__" (defArgs s_init_NoWord) (defBody s_init_NoWord) (defScope s_init_NoWord) .none kiNoWord diNoWord piNoWord niNoWord xiNoWord tiNoWord), siNoWord⟩)
    (ci_NoWord : PySem.W.codeIn K xiNoWord "NoWord.__init__" = true)
    (kp_NoWord : PySem.W.keepIn K (.ref INoWord) = true)
    (tf_at_NoWord : PySem.W.takerIn K CNoWord "at" = some none)
    (ff_at_NoWord : PySem.W.findIn K (.ref CNoWord) "at" = some none)
    {CNoRoom INoRoom : Addr} {oiNoRoom niNoRoom : Option Addr} {siNoRoom : Array (Option Value)} {wiNoRoom kiNoRoom diNoRoom piNoRoom xiNoRoom tiNoRoom : Value}
    (gc_NoRoom : PySem.W.nsIn K mainGlobals "NoRoom" = some (some (.ref CNoRoom)))
    (eb_NoRoom : PySem.W.excInitIn K CNoRoom [.type "IndexError", .type "LookupError", .type "Exception", .type "BaseException", .type "object"] "IndexError.__new__" = true)
    (eo_NoRoom : PySem.W.excOver K CNoRoom [.type "IndexError", .type "LookupError", .type "Exception", .type "BaseException", .type "object"] = true)
    (e1_NoRoom : PySem.W.findIn K (.ref CNoRoom) "__setattr__" = some (some (.builtin "object.__setattr__")))
    (e2_NoRoom : PySem.W.hasDictIn K CNoRoom = true)
    (e3_NoRoom : PySem.W.subIn K (.ref CNoRoom) (.type "BaseException") = some true)
    (e4_NoRoom : PySem.W.typeIn K (.ref CNoRoom) = some (.type "type"))
    (e5_NoRoom : PySem.W.keepIn K (.ref CNoRoom) = true)
    (e6_NoRoom : PySem.W.findIn K (.ref CNoRoom) "__getattribute__" = some (some (.builtin "BaseException.__getattribute__")))
    (e7_NoRoom : PySem.W.findIn K (.ref CNoRoom) "__getattr__" = some none)
    (e8_NoRoom : PySem.W.findIn K (.ref CNoRoom) "__class__" = some (some (.builtin "object.__class__")))
    (e9_NoRoom : PySem.W.mroIn K CNoRoom (.type "object") = some true)
    (ii_NoRoom : PySem.W.findIn K (.ref CNoRoom) "__init__" = some (some (.ref INoRoom)))
    (ty_NoRoom : PySem.W.typeIn K (.ref INoRoom) = some (.type "function"))
    (li_NoRoom : K.lookup INoRoom = some ⟨wiNoRoom, oiNoRoom, .func (PySem.W.fnOf "__init__" "NoRoom.__init__" (defArgs s_init_NoRoom) (defBody s_init_NoRoom) (defScope s_init_NoRoom) .none kiNoRoom diNoRoom piNoRoom niNoRoom xiNoRoom tiNoRoom), siNoRoom⟩)
    (ci_NoRoom : PySem.W.codeIn K xiNoRoom "NoRoom.__init__" = true)
    (kp_NoRoom : PySem.W.keepIn K (.ref INoRoom) = true)
    (tf_room_NoRoom : PySem.W.takerIn K CNoRoom "room" = some none)
    (ff_room_NoRoom : PySem.W.findIn K (.ref CNoRoom) "room" = some none)
    (sg : PySem.W.specialIn K (.builtin "object.__class__") "__get__" = some (some (.builtin "getset_descriptor.__get__"))) (stk : PySem.W.takesIn K (.builtin "object.__class__") = some true)
    (xk_MM : PySem.W.subIn K (.ref CNoMachine) (.ref CNoMachine) = some true)
    (xk_WW : PySem.W.subIn K (.ref CNoWord) (.ref CNoWord) = some true)
    (xk_RR : PySem.W.subIn K (.ref CNoRoom) (.ref CNoRoom) = some true)
    (xk_WV : PySem.W.kitOne K (.ref CNoWord) (.type "ValueError") = some true)
    (xk_RI : PySem.W.kitOne K (.ref CNoRoom) (.type "IndexError") = some true)
    (z_len : PySem.W.nsIn K mainGlobals "len" = some none) (z_isinstance : PySem.W.nsIn K mainGlobals "isinstance" = some none) (z_str : PySem.W.nsIn K mainGlobals "str" = some none) (z_bool : PySem.W.nsIn K mainGlobals "bool" = some none) (z_range : PySem.W.nsIn K mainGlobals "range" = some none) (z_int : PySem.W.nsIn K mainGlobals "int" = some none) (z_max : PySem.W.nsIn K mainGlobals "max" = some none) (z_min : PySem.W.nsIn K mainGlobals "min" = some none) (z_set : PySem.W.nsIn K mainGlobals "set" = some none) (z_tuple : PySem.W.nsIn K mainGlobals "tuple" = some none) (z_list : PySem.W.nsIn K mainGlobals "list" = some none) (z_enumerate : PySem.W.nsIn K mainGlobals "enumerate" = some none) (z_all : PySem.W.nsIn K mainGlobals "all" = some none) (z_sorted : PySem.W.nsIn K mainGlobals "sorted" = some none) (z_repr : PySem.W.nsIn K mainGlobals "repr" = some none) (z_IndexError : PySem.W.nsIn K mainGlobals "IndexError" = some none) (z_ValueError : PySem.W.nsIn K mainGlobals "ValueError" = some none) :
    ∃ fd : FuncData, (∀ (s : Shared) (v : Value), BindsTo s fd ⟨[v], []⟩ [("_law_script", v)]) ∧ ∀ base : Heap, K.In base → base.Ns mainGlobals mg → FnOkG l.prog w K mg base CX0 10 fa fd ["_law_script"] (spLaw K) := by
  have e := hfa.symm.trans (PySem.W.mg_of X G a22)
  cases e
  have m_len := PySem.W.mg_none_of X G z_len
  have m_isinstance := PySem.W.mg_none_of X G z_isinstance
  have m_str := PySem.W.mg_none_of X G z_str
  have m_bool := PySem.W.mg_none_of X G z_bool
  have m_range := PySem.W.mg_none_of X G z_range
  have m_int := PySem.W.mg_none_of X G z_int
  have m_max := PySem.W.mg_none_of X G z_max
  have m_min := PySem.W.mg_none_of X G z_min
  have m_set := PySem.W.mg_none_of X G z_set
  have m_tuple := PySem.W.mg_none_of X G z_tuple
  have m_list := PySem.W.mg_none_of X G z_list
  have m_enumerate := PySem.W.mg_none_of X G z_enumerate
  have m_all := PySem.W.mg_none_of X G z_all
  have m_sorted := PySem.W.mg_none_of X G z_sorted
  have m_repr := PySem.W.mg_none_of X G z_repr
  have m_IndexError := PySem.W.mg_none_of X G z_IndexError
  have m_ValueError := PySem.W.mg_none_of X G z_ValueError
  have g_ROOMS_MOST : ∃ tk, mg "ROOMS_MOST" = some (.int 12 tk) := ⟨_, PySem.W.mg_of X G gi_ROOMS_MOST.choose_spec⟩
  have g_STEPS_MOST : ∃ tk, mg "STEPS_MOST" = some (.int 200 tk) := ⟨_, PySem.W.mg_of X G gi_STEPS_MOST.choose_spec⟩
  have F1 := fun_mk (st := s_is_whole) l1 c1 k1
  have b1 := F1.binds (ps := ["thing"]) fun _ _ _ _ _ _ us hl => match us, hl with | [_], _ => rfl
  have F2 := fun_mk (st := s_is_sign) l2 c2 k2
  have b2 := F2.binds (ps := ["thing"]) fun _ _ _ _ _ _ us hl => match us, hl with | [_], _ => rfl
  have F3 := fun_mk (st := s_is_room) l3 c3 k3
  have b3 := F3.binds (ps := ["thing", "many"]) fun _ _ _ _ _ _ us hl => match us, hl with | [_, _], _ => rfl
  have F4 := fun_mk (st := s_look_at_room) l4 c4 k4
  have b4 := F4.binds (ps := ["thing", "many"]) fun _ _ _ _ _ _ us hl => match us, hl with | [_, _], _ => rfl
  have F5 := fun_mk (st := s_look_at) l5 c5 k5
  have b5 := F5.binds (ps := ["thing"]) fun _ _ _ _ _ _ us hl => match us, hl with | [_], _ => rfl
  have F6 := fun_mk (st := s_look_at_rooms) l6 c6 k6
  have b6 := F6.binds (ps := ["rooms", "many", "part"]) fun _ _ _ _ _ _ us hl => match us, hl with | [_, _, _], _ => rfl
  have F7 := fun_mk (st := s_look_at_steps) l7 c7 k7
  have b7 := F7.binds (ps := ["steps", "many"]) fun _ _ _ _ _ _ us hl => match us, hl with | [_, _], _ => rfl
  have F8 := fun_mk (st := s_is_step) l8 c8 k8
  have b8 := F8.binds (ps := ["thing", "many"]) fun _ _ _ _ _ _ us hl => match us, hl with | [_, _], _ => rfl
  have F9 := fun_mk (st := s_rooms_text) l9 c9 k9
  have b9 := F9.binds (ps := ["machine", "rooms"]) fun _ _ _ _ _ _ us hl => match us, hl with | [_, _], _ => rfl
  have F10 := fun_mk (st := s_rooms_in) l10 c10 k10
  have b10 := F10.binds (ps := ["machine", "text"]) fun _ _ _ _ _ _ us hl => match us, hl with | [_, _], _ => rfl
  have F11 := fun_mk (st := s_marks) l11 c11 k11
  have b11 := F11.binds (ps := ["rooms", "many"]) fun _ _ _ _ _ _ us hl => match us, hl with | [_, _], _ => rfl
  have F12 := fun_mk (st := s_are_marks) l12 c12 k12
  have b12 := F12.binds (ps := ["thing", "many"]) fun _ _ _ _ _ _ us hl => match us, hl with | [_, _], _ => rfl
  have F13 := fun_mk (st := s_marked) l13 c13 k13
  have b13 := F13.binds (ps := ["text"]) fun _ _ _ _ _ _ us hl => match us, hl with | [_], _ => rfl
  have F14 := fun_mk (st := s_law_hand) l14 c14 k14
  have b14 := F14.binds (ps := ["_law_script", "_law_k"]) fun _ _ _ _ _ _ us hl => match us, hl with | [_, _], _ => rfl
  have F15 := fun_mk (st := s_law_draw) l15 c15 k15
  have b15 := F15.binds (ps := ["_law_hand_here", "_law_size"]) fun _ _ _ _ _ _ us hl => match us, hl with | [_, _], _ => rfl
  have F16 := fun_mk (st := s_law_rooms) l16 c16 k16
  have b16 := F16.binds (ps := ["_law_hand_here", "_law_size"]) fun _ _ _ _ _ _ us hl => match us, hl with | [_, _], _ => rfl
  have F17 := fun_mk (st := s_law_machine) l17 c17 k17
  have b17 := F17.binds (ps := ["_law_hand_here", "_law_upto", "_law_extra", "_law_letters_here"]) fun _ _ _ _ _ _ us hl => match us, hl with | [_, _, _, _], _ => rfl
  have F18 := fun_mk (st := s_law_text) l18 c18 k18
  have b18 := F18.binds (ps := ["_law_machine_here", "_law_rooms_here"]) fun _ _ _ _ _ _ us hl => match us, hl with | [_, _], _ => rfl
  have F19 := fun_mk (st := s_law_no_room) l19 c19 k19
  have b19 := F19.binds (ps := ["_law_machine_here", "_law_rooms_here"]) fun _ _ _ _ _ _ us hl => match us, hl with | [_, _], _ => rfl
  have F20 := fun_mk (st := s_law_no_word) l20 c20 k20
  have b20 := F20.binds (ps := ["_law_machine_here", "_law_text_here"]) fun _ _ _ _ _ _ us hl => match us, hl with | [_, _], _ => rfl
  have F21 := fun_mk (st := s_law_no_machine) l21 c21 k21
  have b21 := F21.binds (ps := ["_law_machine_here", "_law_part"]) fun _ _ _ _ _ _ us hl => match us, hl with | [_, _], _ => rfl
  have F22 := fun_mk (st := s_law) l22 c22 k22
  refine ⟨PySem.W.fnOf "law" "law" (defArgs s_law) (defBody s_law) (defScope s_law) .none kV22 dc22 pm22 an22 cd22 ct22, fun s v => .of_eq rfl, fun base _ _ => law_by ?_⟩
  have E_NoMachine : ErrC K CNoMachine := ⟨⟨_, "ValueError", _, .of PySem.F.excBase_ValueError, PySem.F.store_ValueError, eb_NoMachine, eo_NoMachine⟩, e1_NoMachine, e2_NoMachine, e3_NoMachine, e4_NoMachine, e5_NoMachine, e6_NoMachine, e7_NoMachine, e8_NoMachine, sg, stk, e9_NoMachine⟩
  have FI_NoMachine := fun_mk (st := s_init_NoMachine) li_NoMachine ci_NoMachine kp_NoMachine
  have bI_NoMachine := FI_NoMachine.binds (ps := ["self", "part", "number"]) fun _ _ _ _ _ _ us hl => match us, hl with | [_, _, _], _ => rfl
  have KE_NoMachine : KnE l.prog w K mg base "NoMachine" CNoMachine ["part", "number"] := ⟨E_NoMachine, PySem.W.mg_of X G gc_NoMachine, _, _, _, CX0, ii_NoMachine, ty_NoMachine, ok_init_NoMachine FI_NoMachine E_NoMachine tf_part_NoMachine tf_number_NoMachine, bI_NoMachine, pass_cx0⟩
  have E_NoWord : ErrC K CNoWord := ⟨⟨_, "ValueError", _, .of PySem.F.excBase_ValueError, PySem.F.store_ValueError, eb_NoWord, eo_NoWord⟩, e1_NoWord, e2_NoWord, e3_NoWord, e4_NoWord, e5_NoWord, e6_NoWord, e7_NoWord, e8_NoWord, sg, stk, e9_NoWord⟩
  have FI_NoWord := fun_mk (st := s_init_NoWord) li_NoWord ci_NoWord kp_NoWord
  have bI_NoWord := FI_NoWord.binds (ps := ["self", "at"]) fun _ _ _ _ _ _ us hl => match us, hl with | [_, _], _ => rfl
  have KE_NoWord : KnE l.prog w K mg base "NoWord" CNoWord ["at"] := ⟨E_NoWord, PySem.W.mg_of X G gc_NoWord, _, _, _, CX0, ii_NoWord, ty_NoWord, ok_init_NoWord FI_NoWord E_NoWord tf_at_NoWord, bI_NoWord, pass_cx0⟩
  have E_NoRoom : ErrC K CNoRoom := ⟨⟨_, "IndexError", _, .of PySem.F.excBase_IndexError, PySem.F.store_IndexError, eb_NoRoom, eo_NoRoom⟩, e1_NoRoom, e2_NoRoom, e3_NoRoom, e4_NoRoom, e5_NoRoom, e6_NoRoom, e7_NoRoom, e8_NoRoom, sg, stk, e9_NoRoom⟩
  have FI_NoRoom := fun_mk (st := s_init_NoRoom) li_NoRoom ci_NoRoom kp_NoRoom
  have bI_NoRoom := FI_NoRoom.binds (ps := ["self", "room"]) fun _ _ _ _ _ _ us hl => match us, hl with | [_, _], _ => rfl
  have KE_NoRoom : KnE l.prog w K mg base "NoRoom" CNoRoom ["room"] := ⟨E_NoRoom, PySem.W.mg_of X G gc_NoRoom, _, _, _, CX0, ii_NoRoom, ty_NoRoom, ok_init_NoRoom FI_NoRoom E_NoRoom tf_room_NoRoom, bI_NoRoom, pass_cx0⟩
  have three : Three K mg CNoMachine CNoWord CNoRoom := ⟨PySem.W.mg_of X G gc_NoMachine, PySem.W.mg_of X G gc_NoWord, PySem.W.mg_of X G gc_NoRoom, E_NoMachine, E_NoWord, E_NoRoom, ff_part_NoMachine, ff_at_NoWord, ff_room_NoRoom, (PySem.W.exm_ref e3_NoMachine e2_NoMachine e4_NoMachine xk_MM), (PySem.W.exm_ref e3_NoWord e2_NoWord e4_NoWord xk_WW), (PySem.W.exm_ref e3_NoRoom e2_NoRoom e4_NoRoom xk_RR), xk_WV, xk_RI⟩
  have K1 : Kn l.prog w K mg base 1 "is_whole" S_whole := ⟨_, _, _, ok_is_whole m_len m_isinstance m_str m_bool m_range m_int m_max m_min m_set m_tuple m_list m_enumerate m_all m_sorted m_repr m_IndexError m_ValueError F1 , PySem.W.mg_of X G a1, k1, b1⟩
  have K2 : Kn l.prog w K mg base 1 "is_sign" S_is_sign := ⟨_, _, _, ok_is_sign m_len m_isinstance m_str m_bool m_range m_int m_max m_min m_set m_tuple m_list m_enumerate m_all m_sorted m_repr m_IndexError m_ValueError F2 , PySem.W.mg_of X G a2, k2, b2⟩
  have K3 : Kn l.prog w K mg base 2 "is_room" S_room := ⟨_, _, _, ok_is_room m_len m_isinstance m_str m_bool m_range m_int m_max m_min m_set m_tuple m_list m_enumerate m_all m_sorted m_repr m_IndexError m_ValueError F3 K1, PySem.W.mg_of X G a3, k3, b3⟩
  have K4 : KnX l.prog w K mg base 4 "look_at_room" (S_lroom CNoRoom) := ⟨_, _, _, ok_look_at_room m_len m_isinstance m_str m_bool m_range m_int m_max m_min m_set m_tuple m_list m_enumerate m_all m_sorted m_repr m_IndexError m_ValueError F4.any K3 KE_NoRoom, PySem.W.mg_of X G a4, k4, b4⟩
  have K8 : Kn l.prog w K mg base 3 "is_step" S_step := ⟨_, _, _, ok_is_step m_len m_isinstance m_str m_bool m_range m_int m_max m_min m_set m_tuple m_list m_enumerate m_all m_sorted m_repr m_IndexError m_ValueError F8 K2 K3, PySem.W.mg_of X G a8, k8, b8⟩
  have K6 : KnX l.prog w K mg base 4 "look_at_rooms" (S_rooms CNoMachine) := ⟨_, _, _, ok_look_at_rooms m_len m_isinstance m_str m_bool m_range m_int m_max m_min m_set m_tuple m_list m_enumerate m_all m_sorted m_repr m_IndexError m_ValueError F6.any K3 KE_NoMachine, PySem.W.mg_of X G a6, k6, b6⟩
  have K7 : KnX l.prog w K mg base 5 "look_at_steps" (S_steps CNoMachine) := ⟨_, _, _, ok_look_at_steps m_len m_isinstance m_str m_bool m_range m_int m_max m_min m_set m_tuple m_list m_enumerate m_all m_sorted m_repr m_IndexError m_ValueError F7.any g_STEPS_MOST K8 KE_NoMachine, PySem.W.mg_of X G a7, k7, b7⟩
  have K5 : KnX l.prog w K mg base 6 "look_at" (S_look CNoMachine) := ⟨_, _, _, ok_look_at m_len m_isinstance m_str m_bool m_range m_int m_max m_min m_set m_tuple m_list m_enumerate m_all m_sorted m_repr m_IndexError m_ValueError F5.any g_ROOMS_MOST K1 K6 K7 KE_NoMachine, PySem.W.mg_of X G a5, k5, b5⟩
  have K11 : Kn l.prog w K mg base 1 "marks" S_marks := ⟨_, _, _, ok_marks m_len m_isinstance m_str m_bool m_range m_int m_max m_min m_set m_tuple m_list m_enumerate m_all m_sorted m_repr m_IndexError m_ValueError F11 , PySem.W.mg_of X G a11, k11, b11⟩
  have K12 : Kn l.prog w K mg base 1 "are_marks" S_amarks := ⟨_, _, _, ok_are_marks m_len m_isinstance m_str m_bool m_range m_int m_max m_min m_set m_tuple m_list m_enumerate m_all m_sorted m_repr m_IndexError m_ValueError F12 , PySem.W.mg_of X G a12, k12, b12⟩
  have K13 : KnN l.prog w K mg base 1 "marked" S_marked := ⟨_, _, _, ok_marked m_len m_isinstance m_str m_bool m_range m_int m_max m_min m_set m_tuple m_list m_enumerate m_all m_sorted m_repr m_IndexError m_ValueError F13 , PySem.W.mg_of X G a13, k13, b13⟩
  have K9 : KnX l.prog w K mg base 7 "rooms_text" (S_rtext CNoMachine CNoRoom) := ⟨_, _, _, ok_rooms_text m_len m_isinstance m_str m_bool m_range m_int m_max m_min m_set m_tuple m_list m_enumerate m_all m_sorted m_repr m_IndexError m_ValueError F9.any K5 K4 K11, PySem.W.mg_of X G a9, k9, b9⟩
  have K10 : KnXN l.prog w K mg base 7 "rooms_in" (S_rin CNoMachine CNoWord) := ⟨_, _, _, ok_rooms_in m_len m_isinstance m_str m_bool m_range m_int m_max m_min m_set m_tuple m_list m_enumerate m_all m_sorted m_repr m_IndexError m_ValueError F10 K5 K12 K13 KE_NoWord, PySem.W.mg_of X G a10, k10, b10⟩
  have K14 : KnN l.prog w K mg base 1 "_law_hand" S_hand := ⟨_, _, _, ok_law_hand m_len m_isinstance m_str m_bool m_range m_int m_max m_min m_set m_tuple m_list m_enumerate m_all m_sorted m_repr m_IndexError m_ValueError F14 , PySem.W.mg_of X G a14, k14, b14⟩
  have K15 : Kn l.prog w K mg base 1 "_law_draw" S_draw := ⟨_, _, _, ok_law_draw m_len m_isinstance m_str m_bool m_range m_int m_max m_min m_set m_tuple m_list m_enumerate m_all m_sorted m_repr m_IndexError m_ValueError F15 , PySem.W.mg_of X G a15, k15, b15⟩
  have K16 : Kn l.prog w K mg base 2 "_law_rooms" S_lrooms := ⟨_, _, _, ok_law_rooms m_len m_isinstance m_str m_bool m_range m_int m_max m_min m_set m_tuple m_list m_enumerate m_all m_sorted m_repr m_IndexError m_ValueError F16 K15, PySem.W.mg_of X G a16, k16, b16⟩
  have K17 : Kn l.prog w K mg base 3 "_law_machine" S_lmach := ⟨_, _, _, ok_law_machine m_len m_isinstance m_str m_bool m_range m_int m_max m_min m_set m_tuple m_list m_enumerate m_all m_sorted m_repr m_IndexError m_ValueError F17 K15 K16, PySem.W.mg_of X G a17, k17, b17⟩
  have K18 : Kn l.prog w K mg base 1 "_law_text" S_ltext := ⟨_, _, _, ok_law_text m_len m_isinstance m_str m_bool m_range m_int m_max m_min m_set m_tuple m_list m_enumerate m_all m_sorted m_repr m_IndexError m_ValueError F18 , PySem.W.mg_of X G a18, k18, b18⟩
  have K19 : Kn l.prog w K mg base 8 "_law_no_room" S_lnoroom := ⟨_, _, _, ok_law_no_room m_len m_isinstance m_str m_bool m_range m_int m_max m_min m_set m_tuple m_list m_enumerate m_all m_sorted m_repr m_IndexError m_ValueError F19 three K9, PySem.W.mg_of X G a19, k19, b19⟩
  have K20 : Kn l.prog w K mg base 8 "_law_no_word" S_lnoword := ⟨_, _, _, ok_law_no_word m_len m_isinstance m_str m_bool m_range m_int m_max m_min m_set m_tuple m_list m_enumerate m_all m_sorted m_repr m_IndexError m_ValueError F20 three (KnXN.toX K10), PySem.W.mg_of X G a20, k20, b20⟩
  have gt : mg "rooms_text" = some (.ref f9) := PySem.W.mg_of X G a9
  have gi : mg "rooms_in" = some (.ref f10) := PySem.W.mg_of X G a10
  have K21 : Kn l.prog w K mg base 8 "_law_no_machine" S_lnomach := ⟨_, _, _, ok_law_no_machine m_len m_isinstance m_str m_bool m_range m_int m_max m_min m_set m_tuple m_list m_enumerate m_all m_sorted m_repr m_IndexError m_ValueError F21 three gt gi (two_bad K9 K10 gt gi), PySem.W.mg_of X G a21, k21, b21⟩
  exact ok_law (P := l.prog) (w := w) (base := base) m_len m_isinstance m_str m_bool m_range m_int m_max m_min m_set m_tuple m_list m_enumerate m_all m_sorted m_repr m_IndexError m_ValueError F22 K14 K15 K17 K21 K18 K9 K10 K19 K20
theorem walk {l : PySem.W.OpenLaw} {q : Program} {loose : List Str} {XP : (Str → Option Value) → Heap → Prop} {YP : World → Heap → Prop} {d : DefRec} {K : Params → PySem.W.Frag} (hn : l.most = some 63) (hdf : d.params.defaults = [])
    (hY : ∀ (w : World) (h : Heap), YP w h → (K w.params).In h)
    (F : ∀ (w : World) (mg : Str → Option Value) (fa : Addr) (h : Heap), (K w.params).In h → h.Ns mainGlobals mg → mg d.name = some (.ref fa) →
      ∃ fd : FuncData, (∀ (s : Shared) (u : Value), BindsTo s fd ⟨[u], []⟩ [("_law_script", u)]) ∧ ∀ base : Heap, (K w.params).In base → base.Ns mainGlobals mg → FnOkG l.prog w (K w.params) mg base CX0 10 fa fd ["_law_script"] (spLaw (K w.params))) :
    PySem.W.WalkO q loose XP YP l.row.toRowW d [] (fun f vs => PySem.call f vs) :=
  TL.walk_ofG (n := 63) (k := 10) (x := "_law_script") (sp := fun w => spLaw (K w.params)) hn (by decide) hdf ⟨rfl, by decide, by decide⟩ hY F (fun _ _ a ns hl _ hS => ⟨a, ns, rfl, hS, hl, fun _ => rfl⟩)
end K30
open PySem PySem.W PyProof.Rows
set_option maxRecDepth 100000 in
set_option maxHeartbeats 0 in
theorem PySem.Challenge.cw_triesgrow_k30_rooms_as_texts_holds : PySem.Challenge.rw_triesgrow_k30_rooms_as_texts.Holds := by
  w_on; o_law; k_head; (case hw => w_witness2)
  k_fill
  refine K30.walk (l := PySem.Challenge.rw_triesgrow_k30_rooms_as_texts) rfl rfl (fun w h Y => PySem.W.kIn_of Y) ?F
  case F =>
    intro w mg fa h KX G hmg
    refine' K30.all_mk KX G hmg ?a1 ?l1 ?c1 ?k1 ?a2 ?l2 ?c2 ?k2 ?a3 ?l3 ?c3 ?k3 ?a4 ?l4 ?c4 ?k4 ?a5 ?l5 ?c5 ?k5 ?a6 ?l6 ?c6 ?k6 ?a7 ?l7 ?c7 ?k7 ?a8 ?l8 ?c8 ?k8 ?a9 ?l9 ?c9 ?k9 ?a10 ?l10 ?c10 ?k10 ?a11 ?l11 ?c11 ?k11 ?a12 ?l12 ?c12 ?k12 ?a13 ?l13 ?c13 ?k13 ?a14 ?l14 ?c14 ?k14 ?a15 ?l15 ?c15 ?k15 ?a16 ?l16 ?c16 ?k16 ?a17 ?l17 ?c17 ?k17 ?a18 ?l18 ?c18 ?k18 ?a19 ?l19 ?c19 ?k19 ?a20 ?l20 ?c20 ?k20 ?a21 ?l21 ?c21 ?k21 ?a22 ?l22 ?c22 ?k22 ?gi_ROOMS_MOST ?gi_STEPS_MOST ?gc_NoMachine ?eb_NoMachine ?eo_NoMachine ?e1_NoMachine ?e2_NoMachine ?e3_NoMachine ?e4_NoMachine ?e5_NoMachine ?e6_NoMachine ?e7_NoMachine ?e8_NoMachine ?e9_NoMachine ?ii_NoMachine ?ty_NoMachine ?li_NoMachine ?ci_NoMachine ?kp_NoMachine ?tf_part_NoMachine ?ff_part_NoMachine ?tf_number_NoMachine ?ff_number_NoMachine ?gc_NoWord ?eb_NoWord ?eo_NoWord ?e1_NoWord ?e2_NoWord ?e3_NoWord ?e4_NoWord ?e5_NoWord ?e6_NoWord ?e7_NoWord ?e8_NoWord ?e9_NoWord ?ii_NoWord ?ty_NoWord ?li_NoWord ?ci_NoWord ?kp_NoWord ?tf_at_NoWord ?ff_at_NoWord ?gc_NoRoom ?eb_NoRoom ?eo_NoRoom ?e1_NoRoom ?e2_NoRoom ?e3_NoRoom ?e4_NoRoom ?e5_NoRoom ?e6_NoRoom ?e7_NoRoom ?e8_NoRoom ?e9_NoRoom ?ii_NoRoom ?ty_NoRoom ?li_NoRoom ?ci_NoRoom ?kp_NoRoom ?tf_room_NoRoom ?ff_room_NoRoom ?sg ?stk ?xk_MM ?xk_WW ?xk_RR ?xk_WV ?xk_RI ?z_len ?z_isinstance ?z_str ?z_bool ?z_range ?z_int ?z_max ?z_min ?z_set ?z_tuple ?z_list ?z_enumerate ?z_all ?z_sorted ?z_repr ?z_IndexError ?z_ValueError
    (case a1 => k_is)
    (case l1 => k_is)
    (case c1 => k_is)
    (case k1 => k_is)
    (case a2 => k_is)
    (case l2 => k_is)
    (case c2 => k_is)
    (case k2 => k_is)
    (case a3 => k_is)
    (case l3 => k_is)
    (case c3 => k_is)
    (case k3 => k_is)
    (case a4 => k_is)
    (case l4 => k_is)
    (case c4 => k_is)
    (case k4 => k_is)
    (case a5 => k_is)
    (case l5 => k_is)
    (case c5 => k_is)
    (case k5 => k_is)
    (case a6 => k_is)
    (case l6 => k_is)
    (case c6 => k_is)
    (case k6 => k_is)
    (case a7 => k_is)
    (case l7 => k_is)
    (case c7 => k_is)
    (case k7 => k_is)
    (case a8 => k_is)
    (case l8 => k_is)
    (case c8 => k_is)
    (case k8 => k_is)
    (case a9 => k_is)
    (case l9 => k_is)
    (case c9 => k_is)
    (case k9 => k_is)
    (case a10 => k_is)
    (case l10 => k_is)
    (case c10 => k_is)
    (case k10 => k_is)
    (case a11 => k_is)
    (case l11 => k_is)
    (case c11 => k_is)
    (case k11 => k_is)
    (case a12 => k_is)
    (case l12 => k_is)
    (case c12 => k_is)
    (case k12 => k_is)
    (case a13 => k_is)
    (case l13 => k_is)
    (case c13 => k_is)
    (case k13 => k_is)
    (case a14 => k_is)
    (case l14 => k_is)
    (case c14 => k_is)
    (case k14 => k_is)
    (case a15 => k_is)
    (case l15 => k_is)
    (case c15 => k_is)
    (case k15 => k_is)
    (case a16 => k_is)
    (case l16 => k_is)
    (case c16 => k_is)
    (case k16 => k_is)
    (case a17 => k_is)
    (case l17 => k_is)
    (case c17 => k_is)
    (case k17 => k_is)
    (case a18 => k_is)
    (case l18 => k_is)
    (case c18 => k_is)
    (case k18 => k_is)
    (case a19 => k_is)
    (case l19 => k_is)
    (case c19 => k_is)
    (case k19 => k_is)
    (case a20 => k_is)
    (case l20 => k_is)
    (case c20 => k_is)
    (case k20 => k_is)
    (case a21 => k_is)
    (case l21 => k_is)
    (case c21 => k_is)
    (case k21 => k_is)
    (case a22 => k_is)
    (case l22 => k_is)
    (case c22 => k_is)
    (case k22 => k_is)
    (case gi_ROOMS_MOST => exact ⟨_, by k_is⟩)
    (case gi_STEPS_MOST => exact ⟨_, by k_is⟩)
    (case gc_NoMachine => k_is)
    (case eb_NoMachine => first | kx_is | k_exc | k_is)
    (case eo_NoMachine => first | kx_is | k_exc | k_is)
    (case e1_NoMachine => k_is)
    (case e2_NoMachine => k_is)
    (case e3_NoMachine => k_is)
    (case e4_NoMachine => k_is)
    (case e5_NoMachine => k_is)
    (case e6_NoMachine => k_is)
    (case e7_NoMachine => k_is)
    (case e8_NoMachine => k_is)
    (case e9_NoMachine => k_is)
    (case ii_NoMachine => k_is)
    (case ty_NoMachine => k_is)
    (case li_NoMachine => k_is)
    (case ci_NoMachine => k_is)
    (case kp_NoMachine => k_is)
    (case tf_part_NoMachine => k_is)
    (case ff_part_NoMachine => k_is)
    (case tf_number_NoMachine => k_is)
    (case ff_number_NoMachine => k_is)
    (case gc_NoWord => k_is)
    (case eb_NoWord => first | kx_is | k_exc | k_is)
    (case eo_NoWord => first | kx_is | k_exc | k_is)
    (case e1_NoWord => k_is)
    (case e2_NoWord => k_is)
    (case e3_NoWord => k_is)
    (case e4_NoWord => k_is)
    (case e5_NoWord => k_is)
    (case e6_NoWord => k_is)
    (case e7_NoWord => k_is)
    (case e8_NoWord => k_is)
    (case e9_NoWord => k_is)
    (case ii_NoWord => k_is)
    (case ty_NoWord => k_is)
    (case li_NoWord => k_is)
    (case ci_NoWord => k_is)
    (case kp_NoWord => k_is)
    (case tf_at_NoWord => k_is)
    (case ff_at_NoWord => k_is)
    (case gc_NoRoom => k_is)
    (case eb_NoRoom => first | kx_is | k_exc | k_is)
    (case eo_NoRoom => first | kx_is | k_exc | k_is)
    (case e1_NoRoom => k_is)
    (case e2_NoRoom => k_is)
    (case e3_NoRoom => k_is)
    (case e4_NoRoom => k_is)
    (case e5_NoRoom => k_is)
    (case e6_NoRoom => k_is)
    (case e7_NoRoom => k_is)
    (case e8_NoRoom => k_is)
    (case e9_NoRoom => k_is)
    (case ii_NoRoom => k_is)
    (case ty_NoRoom => k_is)
    (case li_NoRoom => k_is)
    (case ci_NoRoom => k_is)
    (case kp_NoRoom => k_is)
    (case tf_room_NoRoom => k_is)
    (case ff_room_NoRoom => k_is)
    (case sg => k_is)
    (case stk => k_is)
    (case xk_MM => first | k_is | kit_is)
    (case xk_WW => first | k_is | kit_is)
    (case xk_RR => first | k_is | kit_is)
    (case xk_WV => first | k_is | kit_is)
    (case xk_RI => first | k_is | kit_is)
    (case z_len => k_is)
    (case z_isinstance => k_is)
    (case z_str => k_is)
    (case z_bool => k_is)
    (case z_range => k_is)
    (case z_int => k_is)
    (case z_max => k_is)
    (case z_min => k_is)
    (case z_set => k_is)
    (case z_tuple => k_is)
    (case z_list => k_is)
    (case z_enumerate => k_is)
    (case z_all => k_is)
    (case z_sorted => k_is)
    (case z_repr => k_is)
    (case z_IndexError => k_is)
    (case z_ValueError => k_is)
