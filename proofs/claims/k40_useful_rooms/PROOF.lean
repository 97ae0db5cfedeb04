import PyProof.Rows.All
import Wide.All
import OpenK.AllK
import Wide.FinOn
import HandS.ForMost
import HandS.IsInst
import HandS.Deep
import HandS.Codes
import HandS.Flow
import PyProof.Rows.StrMul
import HandS.Ends
import HandS.Strs
import HandS.SetFor
import HandS.More
import KE.DataMinMax
import HandS.SortKw
import ObjForm.LawKit
import HandS.FStr
import HandS.Steps
import KE.GoesMore
import HandS.Conv
import HandS.SetBool
import PyProof.StrWalks
import HandS.Star
import HandS.TupAny
import PyProof.SetRoads
import PyProof.P3In
import HandS.ExcInit
import HandS.ExcOwn
import KE.KExcInit
import KE.KExcIs
import HandS.Defaults
import HandS.WideBits
import HandS.ExcValue
import HandS.TupSets
import HandS.SetKeys
import HandS.DictComp
import PyProof.StrBlockI
import PySem.Challenge.RW_triesgrow_k40_useful_rooms
set_option Elab.async false
set_option linter.all false
set_option maxRecDepth 100000
set_option maxHeartbeats 2000000
/-! TL1: data under a heap that grows, the slots of a frame, and what is kept of both. -/
namespace TL
open PySem PySem.Spec L2

/-- all that stands in the one stands in the other -/
def Ex (H H' : Hp) : Prop := ∀ a o, H a = some o → H' a = some o
theorem Ex.refl (H : Hp) : Ex H H := fun _ _ h => h
theorem Ex.trans {H H1 H2 : Hp} (a : Ex H H1) (b : Ex H1 H2) : Ex H H2 := fun x o h => b x o (a x o h)
theorem Ex.new {H : Hp} {p : Addr} {o : HO} (h : H p = none) : Ex H (upd H p o) := fun a u e => by
  rw [upd_ne (ne_of_none e h)]
  exact e
theorem Ex.upd2 {G H : Hp} {p : Addr} {o : HO} (e : Ex G H) : Ex (upd G p o) (upd H p o) := fun a u h => by
  by_cases ha : a = p
  · subst ha
    rw [upd_same] at h ⊢
    exact h
  · rw [upd_ne ha] at h ⊢
    exact e a u h
theorem Ex.none {H H' : Hp} (e : Ex H H') {p : Addr} (h : H' p = Option.none) : H p = Option.none := by
  cases q : H p with
  | none => rfl
  | some o =>
    rw [e p o q] at h
    cases h

/-! ### data -/
/-- an error's object: its class, its dict -/
def errO (e C : Addr) (od : Option Addr) : HO := .ext fun h => ∃ (ox : Obj) (vs : Array Value), h.get? e = some ox ∧ ox.cls = .ref C ∧ ox.dict = od ∧ ox.data = .fields vs
/-- the datum of an error of the class at C with fields of these names, the last told first -/
def errD (C : Addr) (ns : List Str) (ds : List PyData) : PyData := .dict [(.list ds, .tuple (.int (C : Int) :: ns.map PyData.str))]
/-- the datum of a def at f -/
def fnvD (f : Addr) : PyData := .dict [(.list [], .int (f : Int))]
/-- a key as a datum -/
def keyD : Key → PyData
  | .inl i => .int i
  | .inr x => .str x
def isErr : List (PyData × PyData) → Bool
  | (.list _, _) :: _ => true
  | _ => false
mutual
/-- the value v is the datum d, read in the heap G (of a dict only that it is one) -/
inductive Rp (K : PySem.W.Frag) (G : Hp) : V → PyData → Prop
  | non : Rp K G .non .none
  | bl (b : Bool) : Rp K G (.bl b) (.bool b)
  | int (i : Int) : Rp K G (.int i) (.int i)
  | str (x : Str) : Rp K G (.str x) (.str x)
  | lst {a : Addr} {xs : List V} {ds : List PyData} : G a = some (.lst xs) → RpAll K G xs ds → Rp K G (.ref a) (.list ds)
  | tup {a : Addr} {xs : List V} {ds : List PyData} : G a = some (.tup xs) → RpAll K G xs ds → Rp K G (.ref a) (.tuple ds)
  | dic {a : Addr} {o : Obj} {kvs : List (Key × V)} {ds : List (PyData × PyData)} : G a = some (.frz o (.dK kvs)) → RpKv K G kvs ds → isErr ds = false → Rp K G (.ref a) (.dict ds)
  | fn (f : Addr) : Rp K G (.ref f) (fnvD f)
  | err0 {a C : Addr} : G a = some (errO a C none) → Rp K G (.ref a) (errD C [] [])
  | err {a C dd : Addr} {fs : List (Str × V)} {ns : List Str} {vs : List V} {ds : List PyData} : G a = some (errO a C (some dd)) → G dd = some (.xd fs) → fs = ns.zip vs → RpAll K G vs ds → ns.length = ds.length → Rp K G (.ref a) (errD C ns ds)
inductive RpAll (K : PySem.W.Frag) (G : Hp) : List V → List PyData → Prop
  | nil : RpAll K G [] []
  | cons {v : V} {vs : List V} {d : PyData} {ds : List PyData} : Rp K G v d → RpAll K G vs ds → RpAll K G (v :: vs) (d :: ds)
inductive RpKv (K : PySem.W.Frag) (G : Hp) : List (Key × V) → List (PyData × PyData) → Prop
  | nil : RpKv K G [] []
  | cons {k : Key} {v : V} {kvs : List (Key × V)} {d : PyData} {ds : List (PyData × PyData)} : Rp K G v d → RpKv K G kvs ds → RpKv K G ((k, v) :: kvs) ((keyD k, d) :: ds)
end
section
variable {K : PySem.W.Frag} {G G' : Hp}
theorem ex_l {a : Addr} {xs : List V} (e : Ex G G') (h : SqL K G a xs) : SqL K G' a xs := by
  rcases h with (h | ⟨o, h⟩) | h
  · exact .inl (.inl (e _ _ h))
  · exact .inl (.inr ⟨o, e _ _ h⟩)
  · exact .inr h
mutual
theorem Rp.mono (e : Ex G G') : ∀ {d : PyData} {v : V}, Rp K G v d → Rp K G' v d
  | _, _, .non => .non
  | _, _, .bl b => .bl b
  | _, _, .int i => .int i
  | _, _, .str x => .str x
  | _, _, .lst h r => .lst (e _ _ h) (RpAll.mono e r)
  | _, _, .tup h r => .tup (e _ _ h) (RpAll.mono e r)
  | _, _, .dic h r q => .dic (e _ _ h) (RpKv.mono e r) q
  | _, _, .fn f => .fn f
  | _, _, .err0 h => .err0 (e _ _ h)
  | _, _, .err h h2 q r n => .err (e _ _ h) (e _ _ h2) q (RpAll.mono e r) n
theorem RpAll.mono (e : Ex G G') : ∀ {ds : List PyData} {vs : List V}, RpAll K G vs ds → RpAll K G' vs ds
  | _, _, .nil => .nil
  | _, _, .cons h r => .cons (Rp.mono e h) (RpAll.mono e r)
theorem RpKv.mono (e : Ex G G') : ∀ {ds : List (PyData × PyData)} {vs : List (Key × V)}, RpKv K G vs ds → RpKv K G' vs ds
  | _, _, .nil => .nil
  | _, _, .cons h r => .cons (Rp.mono e h) (RpKv.mono e r)
end
theorem RpKv.up {vs : List (Key × V)} {ds : List (PyData × PyData)} (h : RpKv K G vs ds) (e : Ex G G') : RpKv K G' vs ds := RpKv.mono e h
theorem RpKv.len : ∀ {vs : List (Key × V)} {ds : List (PyData × PyData)}, RpKv K G vs ds → vs.length = ds.length
  | _, _, .nil => rfl
  | _, _, .cons _ r => by rw [List.length_cons, List.length_cons, RpKv.len r]
theorem RpKv.noErr : ∀ {vs : List (Key × V)} {ds : List (PyData × PyData)}, RpKv K G vs ds → isErr ds = false
  | _, _, .nil => rfl
  | _, _, .cons (k := k) _ _ => by cases k <;> rfl
theorem Rp.up {v : V} {d : PyData} (h : Rp K G v d) (e : Ex G G') : Rp K G' v d := Rp.mono e h
theorem RpAll.up {vs : List V} {ds : List PyData} (h : RpAll K G vs ds) (e : Ex G G') : RpAll K G' vs ds := RpAll.mono e h
mutual
theorem Rp.dp : ∀ (d : PyData) (v : V), Rp K G v d → d.canLay0 = true → Dp K G v d
  | .none, _, .non, _ => .non
  | .bool _, _, .bl b, _ => .bl b
  | .int _, _, .int i, _ => .int i
  | .str _, _, .str x, _ => .str x
  | .list ds, _, .lst h r, c => .lst (.inl (.inl h)) (RpAll.dp ds _ r (by simpa [PyData.canLay0] using c))
  | .tuple ds, _, .tup h r, c => .tup (.inl (.inl h)) (RpAll.dp ds _ r (by simpa [PyData.canLay0] using c))
  | .dict ds, _, _, c => by simp [PyData.canLay0] at c
theorem RpAll.dp : ∀ (ds : List PyData) (vs : List V), RpAll K G vs ds → PyData.canLayAll0 ds = true → DpAll K G vs ds
  | [], _, .nil, _ => .nil
  | d :: ds, _, .cons h r, c => by
    have c' : d.canLay0 = true ∧ PyData.canLayAll0 ds = true := by simpa [PyData.canLayAll0] using c
    exact .cons (Rp.dp d _ h c'.1) (RpAll.dp ds _ r c'.2)
end
theorem RpAll.len : ∀ {vs : List V} {ds : List PyData}, RpAll K G vs ds → vs.length = ds.length
  | _, _, .nil => rfl
  | _, _, .cons _ r => by rw [List.length_cons, List.length_cons, RpAll.len r]
theorem RpAll.get : ∀ {vs : List V} {ds : List PyData} {i : Nat} {d : PyData}, RpAll K G vs ds → ds[i]? = some d → ∃ v, vs[i]? = some v ∧ Rp K G v d
  | _, _, _, _, .nil, h => by simp at h
  | _, _, 0, _, .cons h _, e => by
    simp at e
    subst e
    exact ⟨_, rfl, h⟩
  | _, _, i + 1, d, .cons _ r, e => by
    obtain ⟨v, h1, h2⟩ := RpAll.get (i := i) (d := d) r (by simpa using e)
    exact ⟨v, by simpa using h1, h2⟩
theorem RpAll.get' : ∀ {vs : List V} {ds : List PyData} {i : Nat} {v : V}, RpAll K G vs ds → vs[i]? = some v → ∃ d, ds[i]? = some d ∧ Rp K G v d
  | _, _, _, _, .nil, h => by simp at h
  | _, _, 0, _, .cons h _, e => by
    simp at e
    subst e
    exact ⟨_, rfl, h⟩
  | _, _, i + 1, v, .cons _ r, e => by
    obtain ⟨d, h1, h2⟩ := RpAll.get' (i := i) (v := v) r (by simpa using e)
    exact ⟨d, by simpa using h1, h2⟩
theorem RpAll.app : ∀ {vs ws : List V} {ds es : List PyData}, RpAll K G vs ds → RpAll K G ws es → RpAll K G (vs ++ ws) (ds ++ es)
  | _, _, _, _, .nil, s => s
  | _, _, _, _, .cons h r, s => .cons h (RpAll.app r s)
theorem RpAll.one {v : V} {d : PyData} (h : Rp K G v d) : RpAll K G [v] [d] := .cons h .nil
theorem RpAll.set {v : V} {d : PyData} (h : Rp K G v d) : ∀ {vs : List V} {ds : List PyData} (i : Nat), RpAll K G vs ds → RpAll K G (vs.set i v) (ds.set i d)
  | _, _, _, .nil => .nil
  | _, _, 0, .cons _ t => .cons h t
  | _, _, i + 1, .cons q t => .cons q (RpAll.set h i t)
theorem RpAll.take : ∀ {vs : List V} {ds : List PyData} (n : Nat), RpAll K G vs ds → RpAll K G (vs.take n) (ds.take n)
  | _, _, 0, _ => .nil
  | _, _, _ + 1, .nil => .nil
  | _, _, n + 1, .cons r t => .cons r (RpAll.take n t)
theorem RpAll.drop : ∀ {vs : List V} {ds : List PyData} (n : Nat), RpAll K G vs ds → RpAll K G (vs.drop n) (ds.drop n)
  | _, _, 0, r => r
  | _, _, _ + 1, .nil => .nil
  | _, _, n + 1, .cons _ t => RpAll.drop n t
/-- what a datum's value is -/
theorem Rp.int_of {v : V} {i : Int} (h : Rp K G v (.int i)) : v = .int i := by cases h; rfl
theorem Rp.bl_of {v : V} {b : Bool} (h : Rp K G v (.bool b)) : v = .bl b := by cases h; rfl
theorem Rp.str_of {v : V} {x : Str} (h : Rp K G v (.str x)) : v = .str x := by cases h; rfl
theorem Rp.non_of {v : V} (h : Rp K G v .none) : v = .non := by cases h; rfl
theorem Rp.lst_of {v : V} {ds : List PyData} (h : Rp K G v (.list ds)) : ∃ a xs, v = .ref a ∧ G a = some (.lst xs) ∧ RpAll K G xs ds := by
  cases h with
  | lst q r => exact ⟨_, _, rfl, q, r⟩
theorem Rp.tup_of {v : V} {ds : List PyData} (h : Rp K G v (.tuple ds)) : ∃ a xs, v = .ref a ∧ G a = some (.tup xs) ∧ RpAll K G xs ds := by
  cases h with
  | tup q r => exact ⟨_, _, rfl, q, r⟩
end

/-! ### the slots of a frame -/
/-- a thing of one's own, whatever it is: what is true of it in the heaps that stays and that changes, and the addresses that are its own -/
structure Box where
  at_ : PySem.W.Frag → Hp → Hp → V → List Addr → Prop
  up : ∀ {K : PySem.W.Frag} {G G' H H' : Hp} {v : V} {S : List Addr}, at_ K G H v S → Ex G G' → (∀ a ∈ S, H' a = H a) → at_ K G' H' v S
  live : ∀ {K : PySem.W.Frag} {G H : Hp} {v : V} {S : List Addr}, at_ K G H v S → ∀ a ∈ S, H a ≠ none
inductive Sl where
  | no
  | dat (d : PyData)
  | own (t : Option Nat) (ds : List PyData)
  | scr (ds : List PyData)
  | box (b : Box)
/-- what a def was called in: the tags' addresses, how many; what stays, the heap; and the lists that are being made -/
structure Cf where
  τ : Nat → Addr
  n : Nat
  G0 : Hp
  H0 : Hp
  hid : List (Addr × HO)
def SlOk (K : PySem.W.Frag) (c : Cf) (G H : Hp) (v : Option (Option V)) : Sl → Prop
  | .no => True
  | .box _ => True
  | .dat d => ∃ x, v = some (some x) ∧ Rp K G x d
  | .scr ds => ∃ a xs, v = some (some (.ref a)) ∧ SqL K G a xs ∧ RpAll K G xs ds
  | .own t ds => ∃ p xs, v = some (some (.ref p)) ∧ G p = none ∧ H p = some (.lst xs) ∧ RpAll K G xs ds ∧
      (match t with
        | some j => j < c.n ∧ p = c.τ j
        | none => c.H0 p = none ∧ ∀ j, j < c.n → p ≠ c.τ j)
/-- an address that no list slot, no tag, nothing hidden, nothing that stays has -/
structure Free (c : Cf) (G : Hp) (σ : L2.St) (δ : List Sl) (a : Addr) : Prop where
  g : G a = none
  h0 : c.H0 a = none
  tg : ∀ j, j < c.n → a ≠ c.τ j
  hd : ∀ o, (a, o) ∉ c.hid
  ow : ∀ (j : Nat) (t : Option Nat) (ds : List PyData), δ[j]? = some (.own t ds) → σ[j]? ≠ some (some (.ref a))
/-- the boxes' footprints are their own -/
def BoxOk (K : PySem.W.Frag) (c : Cf) (G H : Hp) (σ : L2.St) (δ : List Sl) : Prop := ∃ F : Nat → List Addr,
  (∀ (i : Nat) (b : Box), δ[i]? = some (.box b) → (∃ x, σ[i]? = some (some x) ∧ b.at_ K G H x (F i)) ∧ (∀ a ∈ F i, Free c G σ δ a) ∧ ∀ (j : Nat) (b' : Box), j ≠ i → δ[j]? = some (.box b') → ∀ a ∈ F i, a ∉ F j)
theorem BoxOk.none {K : PySem.W.Frag} {c : Cf} {G H : Hp} {σ : L2.St} {δ : List Sl} (h : ∀ (i : Nat) (b : Box), δ[i]? ≠ some (.box b)) : BoxOk K c G H σ δ := ⟨fun _ => [], fun i b e => absurd e (h i b)⟩
theorem BoxOk.step {K : PySem.W.Frag} {c c' : Cf} {G H G' H' : Hp} {σ σ' : L2.St} {δ δ' : List Sl} (B : BoxOk K c G H σ δ) (e : Ex G G') (hs : ∀ (i : Nat) (b : Box), δ'[i]? = some (.box b) → δ[i]? = some (.box b) ∧ σ'[i]? = σ[i]?)
    (hf : ∀ a, H a ≠ Option.none → Free c G σ δ a → H' a = H a ∧ Free c' G' σ' δ' a) : BoxOk K c' G' H' σ' δ' := by
  obtain ⟨F, h⟩ := B
  refine ⟨F, fun i b q => ?_⟩
  obtain ⟨q1, q2⟩ := hs i b q
  obtain ⟨⟨x, hx, hb⟩, hF, hd⟩ := h i b q1
  refine ⟨⟨x, by rw [q2]; exact hx, b.up hb e fun a ha => (hf a (b.live hb a ha) (hF a ha)).1⟩, fun a ha => (hf a (b.live hb a ha) (hF a ha)).2, fun j b' hj q' => hd j b' hj (hs j b' q').1⟩
theorem BoxOk.like {K : PySem.W.Frag} {c c' : Cf} {G H : Hp} {σ : L2.St} {δ : List Sl} (B : BoxOk K c G H σ δ) (h0 : c'.H0 = c.H0) (hτ : c'.τ = c.τ) (hn : c'.n = c.n) (hh : ∀ x ∈ c'.hid, x ∈ c.hid) : BoxOk K c' G H σ δ :=
  B.step (Ex.refl _) (fun _ _ h => ⟨h, rfl⟩) fun _ _ f => ⟨rfl, f.g, by rw [h0]; exact f.h0, by rw [hn, hτ]; exact f.tg, fun o h => f.hd o (hh _ h), f.ow⟩
def Sl.plain : Sl → Bool
  | .own _ _ => false
  | .box _ => false
  | _ => true
theorem set_box {δ : List Sl} {i j : Nat} {s : Sl} {b : Box} (hp : ∀ b, s ≠ .box b) (h : (δ.set i s)[j]? = some (.box b)) : i ≠ j ∧ δ[j]? = some (.box b) := by
  rw [List.getElem?_set] at h
  by_cases hj : i = j
  · rw [if_pos hj] at h
    split at h
    · exact absurd (Option.some.inj h) (hp b)
    · cases h
  · rw [if_neg hj] at h
    exact ⟨hj, h⟩
theorem set_own {δ : List Sl} {i j : Nat} {s : Sl} {t : Option Nat} {ds : List PyData} (hp : ∀ t ds, s ≠ .own t ds) (h : (δ.set i s)[j]? = some (.own t ds)) : i ≠ j ∧ δ[j]? = some (.own t ds) := by
  rw [List.getElem?_set] at h
  by_cases hj : i = j
  · rw [if_pos hj] at h
    split at h
    · exact absurd (Option.some.inj h) (hp t ds)
    · cases h
  · rw [if_neg hj] at h
    exact ⟨hj, h⟩
theorem BoxOk.setP {K : PySem.W.Frag} {c : Cf} {G H : Hp} {σ : L2.St} {δ : List Sl} (B : BoxOk K c G H σ δ) (i : Nat) (x : Option V) {s : Sl} (hp : s.plain = true) : BoxOk K c G H (σ.set i x) (δ.set i s) := by
  have n1 : ∀ b, s ≠ .box b := fun b e => by rw [e] at hp; cases hp
  have n2 : ∀ t ds, s ≠ .own t ds := fun t ds e => by rw [e] at hp; cases hp
  refine B.step (Ex.refl _) (fun j b h => ?_) fun a _ f => ⟨rfl, f.g, f.h0, f.tg, f.hd, fun j t ds h => ?_⟩
  · obtain ⟨hj, h⟩ := set_box n1 h
    exact ⟨h, List.getElem?_set_ne hj⟩
  · obtain ⟨hj, h⟩ := set_own n2 h
    rw [List.getElem?_set_ne hj]
    exact f.ow j t ds h
structure EnvC (K : PySem.W.Frag) (c : Cf) (G H : Hp) (σ : L2.St) (δ : List Sl) : Prop where
  g0 : Ex c.G0 G
  ex : Ex G H
  fr : ∀ a o, c.H0 a = some o → (∀ j, j < c.n → a ≠ c.τ j) → H a = some o
  fs : ∀ a, c.G0 a = none → c.H0 a ≠ none → G a = none
  tg : ∀ j, j < c.n → H (c.τ j) ≠ none ∧ G (c.τ j) = none
  len : σ.length = δ.length
  sl : ∀ (i : Nat) (s : Sl), δ[i]? = some s → SlOk K c G H (σ[i]?) s
  ap : ∀ (i j : Nat) (t1 : Option Nat) (d1 : List PyData) (t2 : Option Nat) (d2 : List PyData), i ≠ j → δ[i]? = some (.own t1 d1) → δ[j]? = some (.own t2 d2) → σ[i]? ≠ σ[j]?
  hd : ∀ p o, (p, o) ∈ c.hid → H p = some o ∧ G p = none ∧ c.H0 p = none ∧ (∀ j, j < c.n → p ≠ c.τ j) ∧ ∀ (i : Nat) (t : Option Nat) (ds : List PyData), δ[i]? = some (.own t ds) → σ[i]? ≠ some (some (.ref p))
  bx : BoxOk K c G H σ δ
/-- of an error that leaves: its class, its dict, its datum -/
inductive ErrRp (K : PySem.W.Frag) (G : Hp) : Value → Option Addr → PyData → Prop
  | none {C : Addr} : ErrRp K G (.ref C) none (errD C [] [])
  | some {C dd : Addr} {fs : List (Str × V)} {ns : List Str} {vs : List V} {ds : List PyData} : G dd = some (.xd fs) → fs = ns.zip vs → RpAll K G vs ds → ns.length = ds.length → ErrRp K G (.ref C) (some dd) (errD C ns ds)
/-- where errors go: what is wished of them, and the reading of that -/
class XW where
  w : Value → Option Addr → L2.St → Hp → Prop
  xr : PyData → List Sl → Prop
/-- nowhere -/
instance XW0 : XW := ⟨fun _ _ _ _ => False, fun _ _ => False⟩
structure EnvOk [XW] (K : PySem.W.Frag) (c : Cf) (G H : Hp) (σ : L2.St) (δ : List Sl) : Prop extends EnvC K c G H σ δ where
  xw : ∀ (cls : Value) (d : Option Addr) (err : PyData) (G' H' : Hp) (σ' : L2.St) (δ' : List Sl), XW.xr err δ' → EnvC K { c with hid := [] } G' H' σ' δ' → ErrRp K G' cls d err → XW.w cls d σ' H'
theorem EnvC.ok {K : PySem.W.Frag} {c : Cf} {G H : Hp} {σ : L2.St} {δ : List Sl} (E : EnvC K c G H σ δ) : EnvOk K c G H σ δ := ⟨E, fun _ _ _ _ _ _ _ h _ _ => h.elim⟩
variable [XW]
/-- new things were laid -/
structure Al (G H G' H' : Hp) : Prop where
  g : Ex G G'
  h : Ex H H'
  ex : Ex G' H'
  fs : ∀ a, G a = none → H a ≠ none → G' a = none
theorem Al.refl {G H : Hp} (e : Ex G H) : Al G H G H := ⟨Ex.refl _, Ex.refl _, e, fun _ h _ => h⟩
theorem Al.trans {G H G1 H1 G2 H2 : Hp} (a : Al G H G1 H1) (b : Al G1 H1 G2 H2) : Al G H G2 H2 := ⟨a.g.trans b.g, a.h.trans b.h, b.ex, fun x h1 h2 => by
  refine b.fs x (a.fs x h1 h2) ?_
  cases q : H x with
  | none => exact absurd q h2
  | some o =>
    rw [a.h x o q]
    exact fun z => nomatch z⟩
/-- a new thing that stays -/
theorem Al.new {G H : Hp} {p : Addr} {o : HO} (e : Ex G H) (hp : H p = none) : Al G H (upd G p o) (upd H p o) := ⟨Ex.new (e.none hp), Ex.new hp, e.upd2, fun a h1 h2 => by
  have ha : a ≠ p := fun z => h2 (by rw [z]; exact hp)
  rw [upd_ne ha]
  exact h1⟩
/-- a new thing that is to change -/
theorem Al.tmp {G H : Hp} {p : Addr} {o : HO} (e : Ex G H) (hp : H p = none) : Al G H G (upd H p o) := ⟨Ex.refl _, Ex.new hp, e.trans (Ex.new hp), fun a h1 _ => h1⟩
section
variable {K : PySem.W.Frag} {c : Cf} {G H G' H' : Hp} {σ : L2.St} {δ : List Sl}
theorem SlOk.al (A : Al G H G' H') {v : Option (Option V)} {s : Sl} (h : SlOk K c G H v s) : SlOk K c G' H' v s := by
  cases s with
  | no => trivial
  | box b => trivial
  | dat d =>
    obtain ⟨x, e, r⟩ := h
    exact ⟨x, e, r.up A.g⟩
  | scr ds =>
    obtain ⟨a, xs, e, h, r⟩ := h
    exact ⟨a, xs, e, ex_l A.g h, r.up A.g⟩
  | own t ds =>
    obtain ⟨p, xs, e, g, hh, r, q⟩ := h
    exact ⟨p, xs, e, A.fs p g (by rw [hh]; exact fun z => nomatch z), A.h _ _ hh, r.up A.g, q⟩
theorem EnvOk.al (E : EnvOk K c G H σ δ) (A : Al G H G' H') : EnvOk K c G' H' σ δ where
  g0 := E.g0.trans A.g
  xw := E.xw
  ex := A.ex
  fr := fun a o h q => A.h _ _ (E.fr a o h q)
  fs := fun a h1 h2 => by
    by_cases ht : ∃ j, j < c.n ∧ a = c.τ j
    · obtain ⟨j, hj, rfl⟩ := ht
      exact A.fs _ (E.tg j hj).2 (E.tg j hj).1
    · refine A.fs a (E.fs a h1 h2) ?_
      cases q : c.H0 a with
      | none => exact absurd q h2
      | some o =>
        rw [E.fr a o q fun j hj z => ht ⟨j, hj, z⟩]
        exact fun z => nomatch z
  tg := fun j hj => by
    obtain ⟨h1, h2⟩ := E.tg j hj
    refine ⟨fun z => h1 (A.h.none z), A.fs _ h2 h1⟩
  len := E.len
  sl := fun i s h => (E.sl i s h).al A
  ap := E.ap
  hd := fun p xs h => by
    obtain ⟨h1, h2, h3⟩ := E.hd p xs h
    exact ⟨A.h _ _ h1, A.fs p h2 (by rw [h1]; exact fun z => nomatch z), h3⟩
  bx := E.bx.step A.g (fun i b h => ⟨h, rfl⟩) fun a h f => ⟨by
    cases q : H a with
    | none => exact absurd q h
    | some o => exact A.h _ _ q, A.fs a f.g h, f.h0, f.tg, f.hd, f.ow⟩
/-- a slot is given a datum -/
theorem EnvOk.put (E : EnvOk K c G H σ δ) {i : Nat} {v : V} {d : PyData} (r : Rp K G v d) : EnvOk K c G H (σ.set i (some v)) (δ.set i (.dat d)) where
  g0 := E.g0
  xw := E.xw
  ex := E.ex
  fr := E.fr
  fs := E.fs
  tg := E.tg
  len := by rw [List.length_set, List.length_set, E.len]
  sl := fun j s h => by
    rw [List.getElem?_set] at h ⊢
    by_cases hj : i = j
    · rw [if_pos hj] at h ⊢
      by_cases hl : i < δ.length
      · rw [if_pos (by omega)] at h
        rw [if_pos (by rw [E.len]; omega)]
        cases h
        exact ⟨v, rfl, r⟩
      · rw [if_neg (by omega)] at h
        cases h
    · rw [if_neg hj] at h ⊢
      exact E.sl j s h
  ap := fun a b t1 d1 t2 d2 hab h1 h2 => by
    rw [List.getElem?_set] at h1 h2
    by_cases ha : i = a
    · rw [if_pos ha] at h1
      split at h1 <;> cases h1
    · by_cases hb : i = b
      · rw [if_pos hb] at h2
        split at h2 <;> cases h2
      · rw [if_neg ha] at h1
        rw [if_neg hb] at h2
        rw [List.getElem?_set_ne ha, List.getElem?_set_ne hb]
        exact E.ap a b t1 d1 t2 d2 hab h1 h2
  hd := fun p xs h => by
    obtain ⟨h1, h2, h3, h4, h5⟩ := E.hd p xs h
    refine ⟨h1, h2, h3, h4, fun j t ds hj => ?_⟩
    rw [List.getElem?_set] at hj
    by_cases hi : i = j
    · rw [if_pos hi] at hj
      split at hj <;> cases hj
    · rw [if_neg hi] at hj
      rw [List.getElem?_set_ne hi]
      exact h5 j t ds hj
  bx := E.bx.setP i _ rfl
/-- a slot is forgotten -/
theorem EnvOk.drop (E : EnvOk K c G H σ δ) {i : Nat} {v : Option V} : EnvOk K c G H (σ.set i v) (δ.set i .no) where
  g0 := E.g0
  xw := E.xw
  ex := E.ex
  fr := E.fr
  fs := E.fs
  tg := E.tg
  len := by rw [List.length_set, List.length_set, E.len]
  sl := fun j s h => by
    rw [List.getElem?_set] at h ⊢
    by_cases hj : i = j
    · rw [if_pos hj] at h
      split at h
      · cases h
        trivial
      · cases h
    · rw [if_neg hj] at h ⊢
      exact E.sl j s h
  ap := fun a b t1 d1 t2 d2 hab h1 h2 => by
    rw [List.getElem?_set] at h1 h2
    by_cases ha : i = a
    · rw [if_pos ha] at h1
      split at h1 <;> cases h1
    · by_cases hb : i = b
      · rw [if_pos hb] at h2
        split at h2 <;> cases h2
      · rw [if_neg ha] at h1
        rw [if_neg hb] at h2
        rw [List.getElem?_set_ne ha, List.getElem?_set_ne hb]
        exact E.ap a b t1 d1 t2 d2 hab h1 h2
  hd := fun p xs h => by
    obtain ⟨h1, h2, h3, h4, h5⟩ := E.hd p xs h
    refine ⟨h1, h2, h3, h4, fun j t ds hj => ?_⟩
    rw [List.getElem?_set] at hj
    by_cases hi : i = j
    · rw [if_pos hi] at hj
      split at hj <;> cases hj
    · rw [if_neg hi] at hj
      rw [List.getElem?_set_ne hi]
      exact h5 j t ds hj
  bx := E.bx.setP i _ rfl
/-- the list in a slot stays from here on -/
theorem EnvOk.freeze (E : EnvOk K c G H σ δ) {i : Nat} {p : Addr} {ds : List PyData} (hs : δ[i]? = some (.own none ds)) (hp : σ[i]? = some (some (.ref p))) :
    ∃ G', Ex G G' ∧ Rp K G' (.ref p) (.list ds) ∧ EnvOk K c G' H σ (δ.set i (.dat (.list ds))) := by
  obtain ⟨p', xs, e, hg, hh, r, h0, hne⟩ := E.sl i _ hs
  rw [hp] at e
  obtain rfl : p = p' := by
    have e1 := Option.some.inj (Option.some.inj e)
    exact V.ref.inj e1
  have eg : Ex G (upd G p (.lst xs)) := Ex.new hg
  have rp : Rp K (upd G p (.lst xs)) (.ref p) (.list ds) := .lst upd_same (r.up eg)
  refine ⟨upd G p (.lst xs), eg, rp, ?_⟩
  have other : ∀ j s, i ≠ j → δ[j]? = some s → SlOk K c (upd G p (.lst xs)) H (σ[j]?) s := fun j s hj h => by
    have q := E.sl j s h
    cases s with
    | no => trivial
    | dat d =>
      obtain ⟨x, e1, r1⟩ := q
      exact ⟨x, e1, r1.up eg⟩
    | scr es =>
      obtain ⟨a, ys, e1, h1, r1⟩ := q
      exact ⟨a, ys, e1, ex_l eg h1, r1.up eg⟩
    | box b => trivial
    | own t es =>
      obtain ⟨p1, ys, e1, g1, h1, r1, q1⟩ := q
      have ne : p1 ≠ p := fun z => E.ap i j _ _ _ _ hj hs h (by rw [hp, e1, z])
      exact ⟨p1, ys, e1, by rw [upd_ne ne]; exact g1, h1, r1.up eg, q1⟩
  exact {
    g0 := E.g0.trans eg
    xw := E.xw
    ex := fun a o h => by
      by_cases ha : a = p
      · subst ha
        rw [upd_same] at h
        cases h
        exact hh
      · rw [upd_ne ha] at h
        exact E.ex a o h
    fr := E.fr
    fs := fun a h1 h2 => by
      have ha : a ≠ p := fun z => h2 (by rw [z]; exact h0)
      rw [upd_ne ha]
      exact E.fs a h1 h2
    tg := fun j hj => ⟨(E.tg j hj).1, by rw [upd_ne (hne j hj).symm]; exact (E.tg j hj).2⟩
    len := by rw [List.length_set, E.len]
    sl := fun j s h => by
      rw [List.getElem?_set] at h
      by_cases hj : i = j
      · rw [if_pos hj] at h
        split at h
        · cases h
          exact ⟨_, by rw [← hj]; exact hp, rp⟩
        · cases h
      · rw [if_neg hj] at h
        exact other j s hj h
    ap := fun a b t1 d1 t2 d2 hab h1 h2 => by
      rw [List.getElem?_set] at h1 h2
      by_cases ha : i = a
      · rw [if_pos ha] at h1
        split at h1 <;> cases h1
      · by_cases hb : i = b
        · rw [if_pos hb] at h2
          split at h2 <;> cases h2
        · rw [if_neg ha] at h1
          rw [if_neg hb] at h2
          exact E.ap a b t1 d1 t2 d2 hab h1 h2
    hd := fun q ys h => by
      obtain ⟨h1, h2, h3, h4, h5⟩ := E.hd q ys h
      have ne : q ≠ p := fun z => h5 i _ _ hs (by rw [hp, z])
      refine ⟨h1, by rw [upd_ne ne]; exact h2, h3, h4, fun j t es hj => ?_⟩
      rw [List.getElem?_set] at hj
      by_cases hi : i = j
      · rw [if_pos hi] at hj
        split at hj <;> cases hj
      · rw [if_neg hi] at hj
        exact h5 j t es hj
    bx := E.bx.step eg (fun j b h => ⟨(set_box (by intro b z; cases z) h).2, rfl⟩) fun a _ f => ⟨rfl, by rw [upd_ne (fun z => f.ow i _ _ hs (by rw [hp, z]))]; exact f.g, f.h0, f.tg, f.hd, fun j t es h => f.ow j t es (set_own (by intro t d z; cases z) h).2⟩ }
/-- the list in a slot is changed -/
theorem EnvOk.poke (E : EnvOk K c G H σ δ) {i : Nat} {p : Addr} {t : Option Nat} {ds es : List PyData} {ys : List V} (hs : δ[i]? = some (.own t ds)) (hp : σ[i]? = some (some (.ref p))) (r : RpAll K G ys es) :
    EnvOk K c G (upd H p (.lst ys)) σ (δ.set i (.own t es)) := by
  obtain ⟨p', xs, e, hg, hh, _, q⟩ := E.sl i _ hs
  rw [hp] at e
  obtain rfl : p = p' := by
    have e1 := Option.some.inj (Option.some.inj e)
    exact V.ref.inj e1
  exact {
    g0 := E.g0
    xw := E.xw
    ex := fun a o h => by
      rw [upd_ne (ne_of_none h hg)]
      exact E.ex a o h
    fr := fun a o h k => by
      have ha : a ≠ p := by
        cases t with
        | none =>
          intro z
          rw [z, q.1] at h
          cases h
        | some j => exact fun z => k j q.1 (z.trans q.2)
      rw [upd_ne ha]
      exact E.fr a o h k
    fs := E.fs
    tg := fun j hj => by
      refine ⟨?_, (E.tg j hj).2⟩
      by_cases ha : c.τ j = p
      · rw [ha, upd_same]
        exact fun z => nomatch z
      · rw [upd_ne ha]
        exact (E.tg j hj).1
    len := by rw [List.length_set, E.len]
    sl := fun j s h => by
      rw [List.getElem?_set] at h
      by_cases hj : i = j
      · rw [if_pos hj] at h
        split at h
        · cases h
          subst hj
          exact ⟨p, ys, hp, hg, upd_same, r, q⟩
        · cases h
      · rw [if_neg hj] at h
        have z := E.sl j s h
        cases s with
        | no => trivial
        | dat d => exact z
        | scr es => exact z
        | box b => trivial
        | own t' es' =>
          obtain ⟨p1, zs, e1, g1, h1, r1, q1⟩ := z
          have ne : p1 ≠ p := fun z => E.ap i j _ _ _ _ hj hs h (by rw [hp, e1, z])
          exact ⟨p1, zs, e1, g1, by rw [upd_ne ne]; exact h1, r1, q1⟩
    ap := fun a b t1 d1 t2 d2 hab h1 h2 => by
      have f : ∀ (a : Nat) (t1 : Option Nat) (d1 : List PyData), (δ.set i (Sl.own t es))[a]? = some (Sl.own t1 d1) → ∃ (t3 : Option Nat) (d3 : List PyData), δ[a]? = some (Sl.own t3 d3) := fun a t1 d1 h1 => by
        rw [List.getElem?_set] at h1
        by_cases ha : i = a
        · subst ha
          exact ⟨_, _, hs⟩
        · rw [if_neg ha] at h1
          exact ⟨_, _, h1⟩
      obtain ⟨t3, d3, e3⟩ := f a t1 d1 h1
      obtain ⟨t4, d4, e4⟩ := f b t2 d2 h2
      exact E.ap a b t3 d3 t4 d4 hab e3 e4
    hd := fun w zs h => by
      obtain ⟨h1, h2, h3, h4, h5⟩ := E.hd w zs h
      have ne : w ≠ p := fun z => h5 i _ _ hs (by rw [hp, z])
      refine ⟨by rw [upd_ne ne]; exact h1, h2, h3, h4, fun j t' es' hj => ?_⟩
      rw [List.getElem?_set] at hj
      by_cases hi : i = j
      · subst hi
        exact h5 i _ _ hs
      · rw [if_neg hi] at hj
        exact h5 j t' es' hj
    bx := E.bx.step (Ex.refl _) (fun j b h => ⟨(set_box (by intro b z; cases z) h).2, rfl⟩) fun a _ f => ⟨upd_ne (fun z => f.ow i _ _ hs (by rw [hp, z])), f.g, f.h0, f.tg, f.hd, fun j t' es' h => by
      rw [List.getElem?_set] at h
      by_cases hj : i = j
      · subst hj
        exact f.ow i _ _ hs
      · rw [if_neg hj] at h
        exact f.ow j t' es' h⟩ }
/-- a new list in a slot -/
theorem EnvOk.fresh (E : EnvOk K c G H σ δ) {i : Nat} {p : Addr} {ds : List PyData} {xs : List V} (hp : H p = none) (h0 : c.H0 p = none) (r : RpAll K G xs ds) :
    EnvOk K c G (upd H p (.lst xs)) (σ.set i (some (.ref p))) (δ.set i (.own none ds)) := by
  have E1 := E.al (Al.tmp (o := .lst xs) E.ex hp)
  have ht : ∀ j, j < c.n → p ≠ c.τ j := fun j hj z => (E.tg j hj).1 (by rw [← z]; exact hp)
  have old : ∀ (j : Nat) (t : Option Nat) (es : List PyData), δ[j]? = some (Sl.own t es) → σ[j]? ≠ some (some (V.ref p)) := fun j t es h z => by
    obtain ⟨p', ys, e, _, hh, _⟩ := E.sl j _ h
    rw [z] at e
    have e1 := V.ref.inj (Option.some.inj (Option.some.inj e))
    rw [← e1, hp] at hh
    cases hh
  exact {
    g0 := E1.g0
    xw := E1.xw
    ex := E1.ex
    fr := E1.fr
    fs := E1.fs
    tg := E1.tg
    len := by rw [List.length_set, List.length_set, E.len]
    sl := fun j s h => by
      rw [List.getElem?_set] at h ⊢
      by_cases hj : i = j
      · rw [if_pos hj] at h ⊢
        by_cases hl : i < δ.length
        · rw [if_pos (by omega)] at h
          rw [if_pos (by rw [E.len]; omega)]
          cases h
          exact ⟨p, xs, rfl, E.ex.none hp, upd_same, r, h0, ht⟩
        · rw [if_neg (by omega)] at h
          cases h
      · rw [if_neg hj] at h ⊢
        exact E1.sl j s h
    ap := fun a b t1 d1 t2 d2 hab h1 h2 => by
      rw [List.getElem?_set] at h1 h2
      by_cases ha : i = a
      · rw [if_neg (fun z => hab (ha.symm.trans z))] at h2
        rw [List.getElem?_set, if_pos ha]
        split
        · rw [List.getElem?_set_ne (fun z => hab (ha.symm.trans z))]
          exact fun z => old b _ _ h2 z.symm
        · rw [if_pos ha] at h1
          split at h1
          · rename_i u w
            rw [E.len] at u
            exact absurd w u
          · cases h1
      · rw [if_neg ha] at h1
        by_cases hb : i = b
        · rw [List.getElem?_set_ne ha, List.getElem?_set, if_pos hb]
          split
          · exact old a _ _ h1
          · rw [if_pos hb] at h2
            split at h2
            · rename_i u w
              rw [E.len] at u
              exact absurd w u
            · cases h2
        · rw [if_neg hb] at h2
          rw [List.getElem?_set_ne ha, List.getElem?_set_ne hb]
          exact E.ap a b t1 d1 t2 d2 hab h1 h2
    hd := fun w zs h => by
      obtain ⟨h1, h2, h3, h4, h5⟩ := E1.hd w zs h
      have ne : w ≠ p := fun z => by
        have h1' := (E.hd w zs h).1
        rw [z, hp] at h1'
        cases h1'
      refine ⟨h1, h2, h3, h4, fun j t' es' hj => ?_⟩
      rw [List.getElem?_set] at hj ⊢
      by_cases hi : i = j
      · rw [if_pos hi]
        split
        · exact fun z => ne (V.ref.inj (Option.some.inj (Option.some.inj z))).symm
        · exact fun z => nomatch z
      · rw [if_neg hi] at hj ⊢
        exact h5 j t' es' hj
    bx := E.bx.step (Ex.refl _) (fun j b h => by
      obtain ⟨hj, h⟩ := set_box (by intro b z; cases z) h
      exact ⟨h, List.getElem?_set_ne hj⟩) fun a ha f => by
      have ne : a ≠ p := fun z => ha (by rw [z]; exact hp)
      refine ⟨upd_ne ne, f.g, f.h0, f.tg, f.hd, fun j t' es' h => ?_⟩
      rw [List.getElem?_set] at h ⊢
      by_cases hj : i = j
      · rw [if_pos hj]
        split
        · exact fun z => ne (V.ref.inj (Option.some.inj (Option.some.inj z))).symm
        · exact fun z => nomatch z
      · rw [if_neg hj] at h ⊢
        exact f.ow j t' es' h }
/-- a list is being made beside -/
theorem EnvOk.hide (E : EnvOk K c G H σ δ) {p : Addr} {ob : HO} (hp : H p = none) (h0 : c.H0 p = none) : EnvOk K { c with hid := (p, ob) :: c.hid } G (upd H p ob) σ δ := by
  have E1 := E.al (Al.tmp (o := ob) E.ex hp)
  exact {
    g0 := E1.g0
    xw := E1.xw
    ex := E1.ex
    fr := E1.fr
    fs := E1.fs
    tg := E1.tg
    len := E1.len
    sl := fun i s h => by
      have z := E1.sl i s h
      cases s with
      | no => trivial
      | dat d => exact z
      | scr es => exact z
      | box b => trivial
      | own t ds => exact z
    ap := E1.ap
    hd := fun q ys h => by
      rcases List.mem_cons.mp h with e | h
      · cases e
        refine ⟨upd_same, E.ex.none hp, h0, fun j hj z => (E.tg j hj).1 (by rw [← z]; exact hp), fun i t ds hs z => ?_⟩
        obtain ⟨p', zs, e, _, hh, _⟩ := E.sl i _ hs
        rw [z] at e
        rw [← V.ref.inj (Option.some.inj (Option.some.inj e)), hp] at hh
        cases hh
      · exact E1.hd q ys h
    bx := E.bx.step (Ex.refl _) (fun j b h => ⟨h, rfl⟩) fun a ha f => by
      have ne : a ≠ p := fun z => ha (by rw [z]; exact hp)
      refine ⟨upd_ne ne, f.g, f.h0, f.tg, fun o h => ?_, f.ow⟩
      rcases List.mem_cons.mp h with e | h
      · cases e
        exact ne rfl
      · exact f.hd o h }
/-- .. and grows -/
theorem EnvOk.grow {p : Addr} {ob ob' : HO} (E : EnvOk K { c with hid := (p, ob) :: c.hid } G H σ δ) (hn : ∀ zs, (p, zs) ∉ c.hid) : EnvOk K { c with hid := (p, ob') :: c.hid } G (upd H p ob') σ δ := by
  obtain ⟨a1, a2, a3, a4, a5⟩ := E.hd p ob List.mem_cons_self
  exact {
    g0 := E.g0
    xw := E.xw
    ex := fun a o h => by
      rw [upd_ne (ne_of_none h a2)]
      exact E.ex a o h
    fr := fun a o h k => by
      rw [upd_ne (ne_of_none h a3)]
      exact E.fr a o h k
    fs := E.fs
    tg := fun j hj => by
      refine ⟨?_, (E.tg j hj).2⟩
      rw [upd_ne (a4 j hj).symm]
      exact (E.tg j hj).1
    len := E.len
    sl := fun i s h => by
      have z := E.sl i s h
      cases s with
      | no => trivial
      | dat d => exact z
      | scr es => exact z
      | box b => trivial
      | own t ds =>
        obtain ⟨p1, zs, e1, g1, h1, r1, q1⟩ := z
        have ne : p1 ≠ p := fun z => a5 i t ds h (by rw [e1, z])
        exact ⟨p1, zs, e1, g1, by rw [upd_ne ne]; exact h1, r1, q1⟩
    ap := E.ap
    hd := fun q zs h => by
      rcases List.mem_cons.mp h with e | h
      · cases e
        exact ⟨upd_same, a2, a3, a4, a5⟩
      · obtain ⟨h1, h2, h3⟩ := E.hd q zs (List.mem_cons_of_mem _ h)
        have ne : q ≠ p := fun z => hn zs (by rw [← z]; exact h)
        exact ⟨by rw [upd_ne ne]; exact h1, h2, h3⟩
    bx := E.bx.step (Ex.refl _) (fun j b h => ⟨h, rfl⟩) fun a ha f => by
      have ne : a ≠ p := fun z => f.hd ob (by rw [z]; exact List.mem_cons_self)
      refine ⟨upd_ne ne, f.g, f.h0, f.tg, fun o h => ?_, f.ow⟩
      rcases List.mem_cons.mp h with e | h
      · cases e
        exact ne rfl
      · exact f.hd o (List.mem_cons_of_mem _ h) }
/-- .. and is there -/
theorem EnvOk.show {p : Addr} {xs : List V} {ds : List PyData} (E : EnvOk K { c with hid := (p, .lst xs) :: c.hid } G H σ δ) (hn : ∀ zs, (p, zs) ∉ c.hid) (r : RpAll K G xs ds) :
    ∃ G', Ex G G' ∧ Rp K G' (.ref p) (.list ds) ∧ EnvOk K c G' H σ δ := by
  obtain ⟨a1, a2, a3, a4, a5⟩ := E.hd p (.lst xs) List.mem_cons_self
  have eg : Ex G (upd G p (.lst xs)) := Ex.new a2
  refine ⟨upd G p (.lst xs), eg, .lst upd_same (r.up eg), ?_⟩
  exact {
    g0 := E.g0.trans eg
    xw := E.xw
    ex := fun a o h => by
      by_cases ha : a = p
      · subst ha
        rw [upd_same] at h
        cases h
        exact a1
      · rw [upd_ne ha] at h
        exact E.ex a o h
    fr := E.fr
    fs := fun a h1 h2 => by
      have ha : a ≠ p := fun z => h2 (by rw [z]; exact a3)
      rw [upd_ne ha]
      exact E.fs a h1 h2
    tg := fun j hj => ⟨(E.tg j hj).1, by rw [upd_ne (a4 j hj).symm]; exact (E.tg j hj).2⟩
    len := E.len
    sl := fun i s h => by
      have z := E.sl i s h
      cases s with
      | no => trivial
      | dat d =>
        obtain ⟨x, e1, r1⟩ := z
        exact ⟨x, e1, r1.up eg⟩
      | scr es =>
        obtain ⟨a, ys, e1, h1, r1⟩ := z
        exact ⟨a, ys, e1, ex_l eg h1, r1.up eg⟩
      | box b => trivial
      | own t es =>
        obtain ⟨p1, zs, e1, g1, h1, r1, q1⟩ := z
        have ne : p1 ≠ p := fun z => a5 i t es h (by rw [e1, z])
        exact ⟨p1, zs, e1, by rw [upd_ne ne]; exact g1, h1, r1.up eg, q1⟩
    ap := E.ap
    hd := fun q zs h => by
      obtain ⟨h1, h2, h3⟩ := E.hd q zs (List.mem_cons_of_mem _ h)
      have ne : q ≠ p := fun z => hn zs (by rw [← z]; exact h)
      exact ⟨h1, by rw [upd_ne ne]; exact h2, h3⟩
    bx := E.bx.step eg (fun j b h => ⟨h, rfl⟩) fun a ha f => by
      have ne : a ≠ p := fun z => f.hd _ (by rw [z]; exact List.mem_cons_self)
      exact ⟨rfl, by rw [upd_ne ne]; exact f.g, f.h0, f.tg, fun o h => f.hd o (List.mem_cons_of_mem _ h), f.ow⟩ }
/-- .. and is forgotten -/
theorem EnvOk.unhide {p : Addr} {ob : HO} (E : EnvOk K { c with hid := (p, ob) :: c.hid } G H σ δ) : EnvOk K c G H σ δ where
  g0 := E.g0
  xw := E.xw
  ex := E.ex
  fr := E.fr
  fs := E.fs
  tg := E.tg
  len := E.len
  sl := fun i s h => by
    have z := E.sl i s h
    cases s with
    | no => trivial
    | dat d => exact z
    | scr es => exact z
    | box b => trivial
    | own t ds => exact z
  ap := E.ap
  hd := fun q zs h => E.hd q zs (List.mem_cons_of_mem _ h)
  bx := E.bx.step (Ex.refl _) (fun j b h => ⟨h, rfl⟩) fun a ha f => ⟨rfl, f.g, f.h0, f.tg, fun o h => f.hd o (List.mem_cons_of_mem _ h), f.ow⟩
end
end TL

set_option Elab.async false
set_option linter.all false
set_option maxRecDepth 100000
set_option maxHeartbeats 2000000
/-! TL2: expressions by data. -/
namespace TL
open PySem PySem.Spec L2
variable [XW]

abbrev DQ := PyData → List Sl → Prop
abbrev DTE := List Sl → DQ → Prop
abbrev DTT := List Sl → (Bool → List Sl → Prop) → Prop
abbrev DTA := List Sl → (List PyData → List Sl → Prop) → Prop
abbrev DTO := List Sl → (Option Int → List Sl → Prop) → Prop
abbrev R2D := PyData → PyData → (PyData → Prop) → Prop
abbrev R1D := PyData → (PyData → Prop) → Prop

def RE (K : PySem.W.Frag) (t : TE) (u : DTE) : Prop := ∀ (c : Cf) (σ : L2.St) (G H : Hp) (δ : List Sl) (Q : VK) (R : DQ), EnvOk K c G H σ δ → u δ R →
  (∀ d δ' v G' H', R d δ' → EnvOk K c G' H' σ δ' → Ex G G' → Rp K G' v d → Q v H') → t σ H Q
def RT (K : PySem.W.Frag) (t : TT) (u : DTT) : Prop := ∀ (c : Cf) (σ : L2.St) (G H : Hp) (δ : List Sl) (Q : Bool → Hp → Prop) (R : Bool → List Sl → Prop), EnvOk K c G H σ δ → u δ R →
  (∀ b δ' G' H', R b δ' → EnvOk K c G' H' σ δ' → Ex G G' → Q b H') → t σ H Q
def RA (K : PySem.W.Frag) (t : TA) (u : DTA) : Prop := ∀ (c : Cf) (σ : L2.St) (G H : Hp) (δ : List Sl) (Q : List V → Hp → Prop) (R : List PyData → List Sl → Prop), EnvOk K c G H σ δ → u δ R →
  (∀ ds δ' vs G' H', R ds δ' → EnvOk K c G' H' σ δ' → Ex G G' → RpAll K G' vs ds → Q vs H') → t σ H Q
def ROp (K : PySem.W.Frag) (t : TO) (u : DTO) : Prop := ∀ (c : Cf) (σ : L2.St) (G H : Hp) (δ : List Sl) (Q : Option Int → Hp → Prop) (R : Option Int → List Sl → Prop), EnvOk K c G H σ δ → u δ R →
  (∀ o δ' G' H', R o δ' → EnvOk K c G' H' σ δ' → Ex G G' → Q o H') → t σ H Q
structure DE (X : Cx) (e : Expr) (t : TE) (u : DTE) : Prop where
  pe : PE X e t
  re : RE X.K t u
structure DT (X : Cx) (e : Expr) (t : TT) (u : DTT) : Prop where
  pt : PT X e t
  rt : RT X.K t u
structure DW (X : Cx) (e : Expr) (t : TT) (u : DTT) : Prop where
  pw : PW X e t
  rt : RT X.K t u
structure DA (X : Cx) (es : List Expr) (t : TA) (u : DTA) : Prop where
  pa : PA X es t
  ra : RA X.K t u
structure DO (X : Cx) (e : Option Expr) (t : TO) (u : DTO) : Prop where
  po : PO X e t
  ro : ROp X.K t u

/-- an operation by values -/
def RO (K : PySem.W.Frag) (r : R2) (rd : R2D) : Prop := ∀ (G H : Hp) (x y : V) (d1 d2 : PyData) (Q : VK) (R : PyData → Prop), Ex G H → Rp K G x d1 → Rp K G y d2 → rd d1 d2 R →
  (∀ d v G' H', R d → Al G H G' H' → Rp K G' v d → Q v H') → r x y H Q
def R1 (K : PySem.W.Frag) (r : V → Hp → VK → Prop) (rd : R1D) : Prop := ∀ (G H : Hp) (x : V) (d : PyData) (Q : VK) (R : PyData → Prop), Ex G H → Rp K G x d → rd d R →
  (∀ d v G' H', R d → Al G H G' H' → Rp K G' v d → Q v H') → r x H Q

/-! ### readings -/
def dVar (i : Nat) : DTE := fun δ R => match δ[i]? with
  | some (.dat d) => R d δ
  | some (.own none ds) => R (.list ds) (δ.set i (.dat (.list ds)))
  | _ => False
def dC (d : PyData) : DTE := fun δ R => R d δ
def dOp (rd : R2D) (ua ub : DTE) : DTE := fun δ R => ua δ fun d1 δ1 => ub δ1 fun d2 δ2 => rd d1 d2 fun d => R d δ2
def dUn (rd : R1D) (ua : DTE) : DTE := fun δ R => ua δ fun d1 δ1 => rd d1 fun d => R d δ1
def dTest (u : DTE) : DTT := fun δ R => u δ fun d δ' => match d with
  | .bool b => R b δ'
  | _ => False
def dAnd (t u : DTT) : DTT := fun δ R => t δ fun b δ1 => if b = true then u δ1 R else R false δ1
def dOr (t u : DTT) : DTT := fun δ R => t δ fun b δ1 => if b = true then R true δ1 else u δ1 R
def dNot (t : DTT) : DTT := fun δ R => t δ fun b δ1 => R (!b) δ1
def dAndV (ua ub : DTE) : DTE := fun δ R => ua δ fun d δ1 => match d with
  | .bool b => if b = true then ub δ1 R else R (.bool false) δ1
  | _ => False
def dOrV (ua ub : DTE) : DTE := fun δ R => ua δ fun d δ1 => match d with
  | .bool b => if b = true then R (.bool true) δ1 else ub δ1 R
  | _ => False
def dNotV (ua : DTE) : DTE := fun δ R => ua δ fun d δ1 => match d with
  | .bool b => R (.bool (!b)) δ1
  | _ => False
def dIf (t : DTT) (ua ub : DTE) : DTE := fun δ R => t δ fun b δ1 => if b = true then ua δ1 R else ub δ1 R
def dNil : DTA := fun δ R => R [] δ
def dCons (u : DTE) (ur : DTA) : DTA := fun δ R => u δ fun d δ1 => ur δ1 fun ds δ2 => R (d :: ds) δ2
def dTup (u : DTA) : DTE := fun δ R => u δ fun ds δ1 => ds.length ≤ sizeLine ∧ R (.tuple ds) δ1
def dLst (u : DTA) : DTE := fun δ R => u δ fun ds δ1 => ds.length ≤ sizeLine ∧ R (.list ds) δ1
def dNoPart : DTO := fun δ R => R none δ
def dPart (u : DTE) : DTO := fun δ R => u δ fun d δ1 => match d with
  | .int i => R (some i) δ1
  | _ => False

section
variable {K : PySem.W.Frag} {ta tb : TE} {ua ub : DTE} {t t' : TT} {u u' : DTT} {r : R2} {rd : R2D}
theorem re_var {i : Nat} : RE K (tVar i) (dVar i) := by
  intro c σ G H δ Q R E h k
  have h : (match δ[i]? with
    | some (.dat d) => R d δ
    | some (.own none ds) => R (.list ds) (δ.set i (.dat (.list ds)))
    | _ => False) := h
  cases hs : δ[i]? with
  | none =>
    rw [hs] at h
    exact h.elim
  | some s =>
    rw [hs] at h
    have z := E.sl i s hs
    cases s with
    | no => exact h.elim
    | box b => exact h.elim
    | scr ds => exact h.elim
    | dat d =>
      obtain ⟨x, e, r⟩ := z
      exact ⟨x, e, k d δ x G H h E (Ex.refl _) r⟩
    | own t ds =>
      cases t with
      | some j => exact h.elim
      | none =>
        obtain ⟨p, xs, e, _⟩ := z
        obtain ⟨G', eg, rp, E'⟩ := E.freeze hs e
        exact ⟨.ref p, e, k _ _ _ G' H h E' eg rp⟩
theorem re_c {v : V} {d : PyData} (h : ∀ G, Rp K G v d) : RE K (tC v) (dC d) := fun c σ G H δ Q R E hu k => k d δ v G H hu E (Ex.refl _) (h G)
theorem re_op (ha : RE K ta ua) (hb : RE K tb ub) (hr : RO K r rd) : RE K (tOp r ta tb) (dOp rd ua ub) := by
  intro c σ G H δ Q R E h k
  refine ha c σ G H δ _ _ E h fun d1 δ1 v1 G1 H1 h1 E1 e1 r1 => ?_
  refine hb c σ G1 H1 δ1 _ _ E1 h1 fun d2 δ2 v2 G2 H2 h2 E2 e2 r2 => ?_
  refine hr G2 H2 v1 v2 d1 d2 _ _ E2.ex (r1.up e2) r2 h2 fun d v G3 H3 h3 A r3 => ?_
  exact k d δ2 v G3 H3 h3 (E2.al A) ((e1.trans e2).trans A.g) r3
theorem re_un {r : V → Hp → VK → Prop} {rd : R1D} (ha : RE K ta ua) (hr : R1 K r rd) : RE K (tUn r ta) (dUn rd ua) := by
  intro c σ G H δ Q R E h k
  refine ha c σ G H δ _ _ E h fun d1 δ1 v1 G1 H1 h1 E1 e1 r1 => ?_
  refine hr G1 H1 v1 d1 _ _ E1.ex r1 h1 fun d v G3 H3 h3 A r3 => ?_
  exact k d δ1 v G3 H3 h3 (E1.al A) (e1.trans A.g) r3
theorem rt_test (ha : RE K ta ua) : RT K (tTest ta) (dTest ua) := by
  intro c σ G H δ Q R E h k
  refine ha c σ G H δ _ _ E h fun d δ1 v G1 H1 h1 E1 e1 r1 => ?_
  cases d with
  | bool b => exact ⟨b, r1.bl_of, k b δ1 G1 H1 h1 E1 e1⟩
  | _ => exact False.elim h1
theorem rt_and (h1 : RT K t u) (h2 : RT K t' u') : RT K (tAnd t t') (dAnd u u') := by
  intro c σ G H δ Q R E h k
  refine h1 c σ G H δ _ _ E h fun b δ1 G1 H1 q E1 e1 => ?_
  cases b with
  | true => exact h2 c σ G1 H1 δ1 Q R E1 q fun b δ2 G2 H2 q2 E2 e2 => k b δ2 G2 H2 q2 E2 (e1.trans e2)
  | false => exact k false δ1 G1 H1 q E1 e1
theorem rt_or (h1 : RT K t u) (h2 : RT K t' u') : RT K (tOr t t') (dOr u u') := by
  intro c σ G H δ Q R E h k
  refine h1 c σ G H δ _ _ E h fun b δ1 G1 H1 q E1 e1 => ?_
  cases b with
  | false => exact h2 c σ G1 H1 δ1 Q R E1 q fun b δ2 G2 H2 q2 E2 e2 => k b δ2 G2 H2 q2 E2 (e1.trans e2)
  | true => exact k true δ1 G1 H1 q E1 e1
theorem rt_not (h1 : RT K t u) : RT K (tNot t) (dNot u) := by
  intro c σ G H δ Q R E h k
  exact h1 c σ G H δ _ _ E h fun b δ1 G1 H1 q E1 e1 => k (!b) δ1 G1 H1 q E1 e1
theorem re_and (ha : RE K ta ua) (hb : RE K tb ub) : RE K (tAndV ta tb) (dAndV ua ub) := by
  intro c σ G H δ Q R E h k
  refine ha c σ G H δ _ _ E h fun d δ1 v G1 H1 h1 E1 e1 r1 => ?_
  cases d with
  | bool b =>
    refine ⟨b, r1.bl_of, ?_⟩
    cases b with
    | true => exact hb c σ G1 H1 δ1 Q R E1 h1 fun d δ2 v G2 H2 q2 E2 e2 r2 => k d δ2 v G2 H2 q2 E2 (e1.trans e2) r2
    | false => exact k _ δ1 _ G1 H1 h1 E1 e1 (.bl false)
  | _ => exact False.elim h1
theorem re_or (ha : RE K ta ua) (hb : RE K tb ub) : RE K (tOrV ta tb) (dOrV ua ub) := by
  intro c σ G H δ Q R E h k
  refine ha c σ G H δ _ _ E h fun d δ1 v G1 H1 h1 E1 e1 r1 => ?_
  cases d with
  | bool b =>
    refine ⟨b, r1.bl_of, ?_⟩
    cases b with
    | false => exact hb c σ G1 H1 δ1 Q R E1 h1 fun d δ2 v G2 H2 q2 E2 e2 r2 => k d δ2 v G2 H2 q2 E2 (e1.trans e2) r2
    | true => exact k _ δ1 _ G1 H1 h1 E1 e1 (.bl true)
  | _ => exact False.elim h1
theorem re_not (ha : RE K ta ua) : RE K (tNotV ta) (dNotV ua) := by
  intro c σ G H δ Q R E h k
  refine ha c σ G H δ _ _ E h fun d δ1 v G1 H1 h1 E1 e1 r1 => ?_
  cases d with
  | bool b => exact ⟨b, r1.bl_of, k _ δ1 _ G1 H1 h1 E1 e1 (.bl _)⟩
  | _ => exact False.elim h1
theorem re_if (hc : RT K t u) (ha : RE K ta ua) (hb : RE K tb ub) : RE K (tIf t ta tb) (dIf u ua ub) := by
  intro c σ G H δ Q R E h k
  refine hc c σ G H δ _ _ E h fun b δ1 G1 H1 q E1 e1 => ?_
  cases b with
  | true => exact ha c σ G1 H1 δ1 Q R E1 q fun d δ2 v G2 H2 q2 E2 e2 r2 => k d δ2 v G2 H2 q2 E2 (e1.trans e2) r2
  | false => exact hb c σ G1 H1 δ1 Q R E1 q fun d δ2 v G2 H2 q2 E2 e2 r2 => k d δ2 v G2 H2 q2 E2 (e1.trans e2) r2
theorem ra_nil : RA K tNil dNil := fun c σ G H δ Q R E h k => k [] δ [] G H h E (Ex.refl _) .nil
theorem ra_cons {tr : TA} {ur : DTA} (ha : RE K ta ua) (hr : RA K tr ur) : RA K (tCons ta tr) (dCons ua ur) := by
  intro c σ G H δ Q R E h k
  refine ha c σ G H δ _ _ E h fun d δ1 v G1 H1 h1 E1 e1 r1 => ?_
  exact hr c σ G1 H1 δ1 _ _ E1 h1 fun ds δ2 vs G2 H2 h2 E2 e2 r2 => k _ δ2 _ G2 H2 h2 E2 (e1.trans e2) (.cons (r1.up e2) r2)
theorem re_tup {tr : TA} {ur : DTA} (hr : RA K tr ur) : RE K (tTup tr) (dTup ur) := by
  intro c σ G H δ Q R E h k
  refine hr c σ G H δ _ _ E h fun ds δ1 vs G1 H1 h1 E1 e1 r1 => ?_
  refine ⟨by rw [r1.len]; exact h1.1, fun p hp => ?_⟩
  have A := Al.new (o := .tup vs) E1.ex hp
  exact k _ δ1 _ _ _ h1.2 (E1.al A) (e1.trans A.g) (.tup upd_same (r1.up A.g))
theorem re_lst {tr : TA} {ur : DTA} (hr : RA K tr ur) : RE K (tLst tr) (dLst ur) := by
  intro c σ G H δ Q R E h k
  refine hr c σ G H δ _ _ E h fun ds δ1 vs G1 H1 h1 E1 e1 r1 => ?_
  refine ⟨by rw [r1.len]; exact h1.1, fun p hp => ?_⟩
  have A := Al.new (o := .lst vs) E1.ex hp
  exact k _ δ1 _ _ _ h1.2 (E1.al A) (e1.trans A.g) (.lst upd_same (r1.up A.g))
theorem ro_none : ROp K tNoPart dNoPart := fun c σ G H δ Q R E h k => k none δ G H h E (Ex.refl _)
theorem ro_part (ha : RE K ta ua) : ROp K (tPart ta) (dPart ua) := by
  intro c σ G H δ Q R E h k
  refine ha c σ G H δ _ _ E h fun d δ1 v G1 H1 h1 E1 e1 r1 => ?_
  cases d with
  | int i => exact ⟨i, r1.int_of, k (some i) δ1 G1 H1 h1 E1 e1⟩
  | _ => exact False.elim h1

/-! ### operations by data -/
def dI (g : Int → Int → Int) : R2D := fun a b R => match a, b with
  | .int i, .int j => R (.int (g i j))
  | _, _ => False
def dIC (C : Int → Int → Prop) (g : Int → Int → Int) : R2D := fun a b R => match a, b with
  | .int i, .int j => C i j ∧ R (.int (g i j))
  | _, _ => False
def dB (g : Int → Int → Bool) : R2D := fun a b R => match a, b with
  | .int i, .int j => R (.bool (g i j))
  | _, _ => False
def dS (g : Str → Str → Bool) : R2D := fun a b R => match a, b with
  | .str i, .str j => R (.bool (g i j))
  | _, _ => False
def dCat : R2D := fun a b R => match a, b with
  | .list x, .list y => x.length + y.length ≤ sizeLine ∧ R (.list (x ++ y))
  | _, _ => False
def dAddS : R2D := fun a b R => match a, b with
  | .str x, .str y => x.length + y.length ≤ sizeLine ∧ R (.str (x ++ y))
  | _, _ => False
def dMulS : R2D := fun a b R => match a, b with
  | .str x, .int i => (-(2 ^ 63 : Int) ≤ i ∧ i ≤ 20000 ∧ x.length ≤ 800) ∧ R (.str (Txt.mul x i))
  | _, _ => False
def dEq : R2D := fun a b R => SeqAt.shaped a = true ∧ SeqAt.shaped b = true ∧ R (.bool (PyData.eqv a b))
def dNe : R2D := fun a b R => SeqAt.shaped a = true ∧ SeqAt.shaped b = true ∧ R (.bool (!PyData.eqv a b))
def dIn : R2D := fun a b R => match b with
  | .list ds => SeqAt.shaped a = true ∧ SeqAt.shaped (.list ds) = true ∧ R (.bool (ds.any fun z => PyData.eqv z a))
  | _ => False
def dNotIn : R2D := fun a b R => match b with
  | .list ds => SeqAt.shaped a = true ∧ SeqAt.shaped (.list ds) = true ∧ R (.bool (!ds.any fun z => PyData.eqv z a))
  | _ => False
def dIxL : R2D := fun a b R => match a, b with
  | .list ds, .int i => (match atI ds i with
    | some d => R d
    | none => False)
  | _, _ => False
def dIxT : R2D := fun a b R => match a, b with
  | .tuple ds, .int i => (match atI ds i with
    | some d => R d
    | none => False)
  | _, _ => False
def dIxS : R2D := fun a b R => match a, b with
  | .str z, .int i => z.length ≤ sizeLine ∧ (match atI z.cps.toList i with
    | some c => R (.str ⟨#[c]⟩)
    | none => False)
  | _, _ => False
theorem ro_I {g : Int → Int → Int} : RO K (rI0 fun i j => .int (g i j)) (dI g) := by
  intro G H x y d1 d2 Q R e r1 r2 h k
  cases d1 <;> cases d2 <;> first
    | exact False.elim h
    | exact ⟨_, _, r1.int_of, r2.int_of, k _ _ G H h (Al.refl e) (.int _)⟩
theorem ro_IC {C : Int → Int → Prop} {g : Int → Int → Int} : RO K (rI C fun i j => .int (g i j)) (dIC C g) := by
  intro G H x y d1 d2 Q R e r1 r2 h k
  cases d1 <;> cases d2 <;> first
    | exact False.elim h
    | exact ⟨_, _, r1.int_of, r2.int_of, h.1, k _ _ G H h.2 (Al.refl e) (.int _)⟩
theorem ro_B {g : Int → Int → Bool} : RO K (rI0 fun i j => .bl (g i j)) (dB g) := by
  intro G H x y d1 d2 Q R e r1 r2 h k
  cases d1 <;> cases d2 <;> first
    | exact False.elim h
    | exact ⟨_, _, r1.int_of, r2.int_of, k _ _ G H h (Al.refl e) (.bl _)⟩
theorem ro_S {g : Str → Str → Bool} : RO K (fun x y H Q => ∃ i j, x = .str i ∧ y = .str j ∧ Q (.bl (g i j)) H) (dS g) := by
  intro G H x y d1 d2 Q R e r1 r2 h k
  cases d1 <;> cases d2 <;> first
    | exact False.elim h
    | exact ⟨_, _, r1.str_of, r2.str_of, k _ _ G H h (Al.refl e) (.bl _)⟩
theorem ro_cat : RO K rCat dCat := by
  intro G H x y d1 d2 Q R e r1 r2 h k
  cases d1 <;> cases d2 <;> first
    | exact False.elim h
    | skip
  obtain ⟨a, xs, rfl, h1, q1⟩ := r1.lst_of
  obtain ⟨b, ys, rfl, h2, q2⟩ := r2.lst_of
  refine ⟨a, b, xs, ys, rfl, rfl, e _ _ h1, e _ _ h2, by rw [q1.len, q2.len]; exact h.1, fun p hp => ?_⟩
  have A := Al.new (o := .lst (xs ++ ys)) e hp
  exact k _ _ _ _ h.2 A (.lst upd_same ((q1.app q2).up A.g))
theorem ro_addS : RO K (fun x y H Q => ∃ i j, x = .str i ∧ y = .str j ∧ i.length + j.length ≤ sizeLine ∧ Q (.str (i ++ j)) H) dAddS := by
  intro G H x y d1 d2 Q R e r1 r2 h k
  cases d1 <;> cases d2 <;> first
    | exact False.elim h
    | exact ⟨_, _, r1.str_of, r2.str_of, h.1, k _ _ G H h.2 (Al.refl e) (.str _)⟩
def rMulS : R2 := fun x y H Q => ∃ z i, x = .str z ∧ y = .int i ∧ (-(2 ^ 63 : Int) ≤ i ∧ i ≤ 20000 ∧ z.length ≤ 800) ∧ Q (.str (Txt.mul z i)) H
theorem ro_mulS : RO K rMulS dMulS := by
  intro G H x y d1 d2 Q R e r1 r2 h k
  cases d1 <;> cases d2 <;> first
    | exact False.elim h
    | exact ⟨_, _, r1.str_of, r2.int_of, h.1, k _ _ G H h.2 (Al.refl e) (.str _)⟩
theorem ro_eq : RO K (rEqD K) dEq := by
  intro G H x y d1 d2 Q R e r1 r2 h k
  exact ⟨d1, d2, (r1.up e).dp _ _ (SeqAt.canLay_of_shaped h.1), (r2.up e).dp _ _ (SeqAt.canLay_of_shaped h.2.1), h.1, h.2.1, k _ _ G H h.2.2 (Al.refl e) (.bl _)⟩
theorem ro_ne : RO K (rNeD K) dNe := by
  intro G H x y d1 d2 Q R e r1 r2 h k
  exact ⟨d1, d2, (r1.up e).dp _ _ (SeqAt.canLay_of_shaped h.1), (r2.up e).dp _ _ (SeqAt.canLay_of_shaped h.2.1), h.1, h.2.1, k _ _ G H h.2.2 (Al.refl e) (.bl _)⟩
theorem ro_in : RO K (rInD K) dIn := by
  intro G H x y d1 d2 Q R e r1 r2 h k
  cases d2 <;> first
    | exact False.elim h
    | exact ⟨d1, _, (r1.up e).dp _ _ (SeqAt.canLay_of_shaped h.1), (r2.up e).dp _ _ (SeqAt.canLay_of_shaped h.2.1), h.1, h.2.1, k _ _ G H h.2.2 (Al.refl e) (.bl _)⟩
theorem ro_notIn : RO K (rNotInD K) dNotIn := by
  intro G H x y d1 d2 Q R e r1 r2 h k
  cases d2 <;> first
    | exact False.elim h
    | exact ⟨d1, _, (r1.up e).dp _ _ (SeqAt.canLay_of_shaped h.1), (r2.up e).dp _ _ (SeqAt.canLay_of_shaped h.2.1), h.1, h.2.1, k _ _ G H h.2.2 (Al.refl e) (.bl _)⟩
theorem at_rp {G : Hp} {xs : List V} {ds : List PyData} (r : RpAll K G xs ds) {i : Int} {d : PyData} (h : atI ds i = some d) : ∃ v, atI xs i = some v ∧ Rp K G v d := by
  unfold atI at h ⊢
  rw [r.len]
  cases q : ixN ds.length i with
  | none =>
    rw [q] at h
    cases h
  | some j =>
    rw [q] at h
    exact r.get h
theorem ro_ixL : RO K (rIxL K) dIxL := by
  intro G H x y d1 d2 Q R e r1 r2 h k
  cases d1 <;> cases d2 <;> first
    | exact False.elim h
    | skip
  rename_i ds i
  obtain ⟨a, xs, rfl, h1, q1⟩ := r1.lst_of
  have h : (match atI ds i with
    | some d => R d
    | none => False) := h
  cases q : atI ds i with
  | none =>
    rw [q] at h
    exact h.elim
  | some d =>
    rw [q] at h
    obtain ⟨v, hv, rv⟩ := at_rp q1 q
    exact ⟨a, xs, i, v, rfl, r2.int_of, .inl (.inl (e _ _ h1)), hv, k d v G H h (Al.refl e) rv⟩
theorem ro_ixT : RO K (rIxT K) dIxT := by
  intro G H x y d1 d2 Q R e r1 r2 h k
  cases d1 <;> cases d2 <;> first
    | exact False.elim h
    | skip
  rename_i ds i
  obtain ⟨a, xs, rfl, h1, q1⟩ := r1.tup_of
  have h : (match atI ds i with
    | some d => R d
    | none => False) := h
  cases q : atI ds i with
  | none =>
    rw [q] at h
    exact h.elim
  | some d =>
    rw [q] at h
    obtain ⟨v, hv, rv⟩ := at_rp q1 q
    exact ⟨a, xs, i, v, rfl, r2.int_of, .inl (.inl (e _ _ h1)), hv, k d v G H h (Al.refl e) rv⟩
theorem ro_ixS : RO K rIxS dIxS := by
  intro G H x y d1 d2 Q R e r1 r2 h k
  cases d1 <;> cases d2 <;> first
    | exact False.elim h
    | skip
  rename_i z i
  obtain ⟨hz, h⟩ := h
  have h : (match atI z.cps.toList i with
    | some c => R (.str ⟨#[c]⟩)
    | none => False) := h
  cases q : atI z.cps.toList i with
  | none =>
    rw [q] at h
    exact h.elim
  | some c =>
    rw [q] at h
    exact ⟨z, i, c, r1.str_of, r2.int_of, hz, q, k _ _ G H h (Al.refl e) (.str _)⟩

/-! ### slices -/
abbrev R3D := PyData → Option Int → Option Int → (PyData → Prop) → Prop
def RSl (K : PySem.W.Frag) (r : V → Option Int → Option Int → Hp → VK → Prop) (rd : R3D) : Prop := ∀ (G H : Hp) (x : V) (d : PyData) (lo hi : Option Int) (Q : VK) (R : PyData → Prop), Ex G H → Rp K G x d → rd d lo hi R →
  (∀ d v G' H', R d → Al G H G' H' → Rp K G' v d → Q v H') → r x lo hi H Q
def dSl (rd : R3D) (u : DTE) (ul uh : DTO) : DTE := fun δ R => u δ fun d δ1 => ul δ1 fun lo δ2 => uh δ2 fun hi δ3 => rd d lo hi fun d' => R d' δ3
theorem re_sl {r : V → Option Int → Option Int → Hp → VK → Prop} {rd : R3D} {tl th : TO} {ul uh : DTO} (ha : RE K ta ua) (hl : ROp K tl ul) (hh : ROp K th uh) (hr : RSl K r rd) : RE K (tSl r ta tl th) (dSl rd ua ul uh) := by
  intro c σ G H δ Q R E h k
  refine ha c σ G H δ _ _ E h fun d1 δ1 v1 G1 H1 h1 E1 e1 r1 => ?_
  refine hl c σ G1 H1 δ1 _ _ E1 h1 fun lo δ2 G2 H2 h2 E2 e2 => ?_
  refine hh c σ G2 H2 δ2 _ _ E2 h2 fun hi δ3 G3 H3 h3 E3 e3 => ?_
  refine hr G3 H3 v1 d1 lo hi _ _ E3.ex ((r1.up e2).up e3) h3 fun d v G4 H4 h4 A r4 => ?_
  exact k d δ3 v G4 H4 h4 (E3.al A) (((e1.trans e2).trans e3).trans A.g) r4
def cutP (ds : List PyData) (lo hi : Option Int) : List PyData := (ds.drop (HT.sIx ds.length 0 lo)).take (HT.sIx ds.length ds.length hi - HT.sIx ds.length 0 lo)
theorem cut_rp {G : Hp} {xs : List V} {ds : List PyData} (r : RpAll K G xs ds) (lo hi : Option Int) : RpAll K G (cutV xs lo hi) (cutP ds lo hi) := by
  unfold cutV cutP
  rw [r.len]
  exact (r.drop _).take _
def dSlL : R3D := fun d lo hi R => match d with
  | .list ds => R (.list (cutP ds lo hi))
  | _ => False
def dSlS : R3D := fun d lo hi R => match d with
  | .str z => z.length ≤ sizeLine ∧ R (.str (cutS z lo hi))
  | _ => False
def dSlT : R3D := fun d lo hi R => match d with
  | .tuple ds => ¬ (HT.sIx ds.length 0 lo = 0 ∧ HT.sIx ds.length ds.length hi = ds.length) ∧ R (.tuple (cutP ds lo hi))
  | _ => False
theorem rsl_list : RSl K (rSlL K) dSlL := by
  intro G H x d lo hi Q R e r h k
  cases d <;> first
    | exact False.elim h
    | skip
  obtain ⟨a, xs, rfl, h1, q1⟩ := r.lst_of
  refine ⟨a, xs, rfl, .inl (.inl (e _ _ h1)), fun p hp => ?_⟩
  have A := Al.new (o := .lst (cutV xs lo hi)) e hp
  exact k _ _ _ _ h A (.lst upd_same ((cut_rp q1 lo hi).up A.g))
theorem rsl_tup : RSl K (rSlT K) dSlT := by
  intro G H x d lo hi Q R e r h k
  cases d <;> first
    | exact False.elim h
    | skip
  obtain ⟨a, xs, rfl, h1, q1⟩ := r.tup_of
  refine ⟨a, xs, rfl, .inl (.inl (e _ _ h1)), by rw [q1.len]; exact h.1, fun p hp => ?_⟩
  have A := Al.new (o := .tup (cutV xs lo hi)) e hp
  exact k _ _ _ _ h.2 A (.tup upd_same ((cut_rp q1 lo hi).up A.g))
theorem rsl_str : RSl K rSlS dSlS := by
  intro G H x d lo hi Q R e r h k
  cases d <;> first
    | exact False.elim h
    | exact ⟨_, r.str_of, h.1, k _ _ G H h.2 (Al.refl e) (.str _)⟩
/-- a slice of what was handed in -/
def dSlScr (i : Nat) (ul uh : DTO) : DTE := fun δ R => match δ[i]? with
  | some (.scr ds) => ul δ fun lo δ2 => uh δ2 fun hi δ3 => R (.list (cutP ds lo hi)) δ3
  | _ => False
theorem re_slScr {i : Nat} {tl th : TO} {ul uh : DTO} (hl : ROp K tl ul) (hh : ROp K th uh) : RE K (tSl (rSlL K) (tVar i) tl th) (dSlScr i ul uh) := by
  intro c σ G H δ Q R E h k
  have h : (match δ[i]? with
    | some (.scr ds) => ul δ fun lo δ2 => uh δ2 fun hi δ3 => R (.list (cutP ds lo hi)) δ3
    | _ => False) := h
  cases hs : δ[i]? with
  | none =>
    rw [hs] at h
    exact h.elim
  | some s =>
    rw [hs] at h
    have z := E.sl i s hs
    cases s with
    | no => exact h.elim
    | box b => exact h.elim
    | dat d => exact h.elim
    | own t ds => exact h.elim
    | scr ds =>
      obtain ⟨a, xs, e, sq, r⟩ := z
      refine ⟨.ref a, e, ?_⟩
      refine hl c σ G H δ _ _ E h fun lo δ2 G2 H2 h2 E2 e2 => ?_
      refine hh c σ G2 H2 δ2 _ _ E2 h2 fun hi δ3 G3 H3 h3 E3 e3 => ?_
      refine ⟨a, xs, rfl, ex_l E3.ex (ex_l e3 (ex_l e2 sq)), fun p hp => ?_⟩
      have A := Al.new (o := .lst (cutV xs lo hi)) E3.ex hp
      exact k _ _ _ _ _ h3 (E3.al A) ((e2.trans e3).trans A.g) (.lst upd_same ((cut_rp r lo hi).up ((e2.trans e3).trans A.g)))
end

section
variable {X : Cx} {a b c e : Expr} {es : List Expr} {ta tb tc te : TE} {ua ub uc ue : DTE} {pos p p2 : Pos} {t t' : TT} {u u' : DTT} {tr : TA} {ur : DTA}
theorem de_var (i : Nat) {x : Str} (hN : X.N[i]? = some x := by rfl) (hv : Vis X.env.scope x := by first | exact Or.inl rfl | exact Or.inr (Or.inl rfl) | exact Or.inr (Or.inr rfl)) (hd : (x == ("__debug__" : Str)) = false := by decide)
    (hcd : (x == ("__classdict__" : Str)) = false := by decide) : DE X (.Name x pos) (tVar i) (dVar i) := ⟨pe_var hN hv hd hcd, re_var⟩
theorem de_int {i j} : DE X (.Constant (.int i) j pos) (tC (.int i)) (dC (.int i)) := ⟨pe_int, re_c fun _ => .int i⟩
theorem de_bl {k j} : DE X (.Constant (.bool k) j pos) (tC (.bl k)) (dC (.bool k)) := ⟨pe_bl, re_c fun _ => .bl k⟩
theorem de_non {j} : DE X (.Constant .none j pos) (tC .non) (dC .none) := ⟨pe_non, re_c fun _ => .non⟩
theorem de_str {x j} : DE X (.Constant (.str x) j pos) (tC (.str x)) (dC (.str x)) := ⟨pe_str, re_c fun _ => .str x⟩
/-- a constant of the module -/
theorem de_gint {x : Str} {i : Int} (hg : Gl X x) (h : ∃ tk, X.mg x = some (.int i tk)) (hd : (x == ("__debug__" : Str)) = false := by decide) : DE X (.Name x pos) (tC (.int i)) (dC (.int i)) := by
  obtain ⟨tk, h⟩ := h
  exact ⟨pe_glob hg h ⟨_, rfl⟩ hd, re_c fun _ => .int i⟩
theorem de_op {op : Operator} {r : R2} {rd : R2D} (ho : OpR X (binaryOp op) r) (hr : RO X.K r rd) (ha : DE X a ta ua) (hb : DE X b tb ub) : DE X (.BinOp a op b pos) (tOp r ta tb) (dOp rd ua ub) := ⟨pe_op ho ha.pe hb.pe, re_op ha.re hb.re hr⟩
theorem de_cmp {op : CmpOp} {r : R2} {rd : R2D} (ho : OpR X (compareOp op) r) (hr : RO X.K r rd) (hm : behindInMarks op b = false) (ha : DE X a ta ua) (hb : DE X b tb ub) : DE X (.Compare a [op] [b] pos) (tOp r ta tb) (dOp rd ua ub) := ⟨pe_cmpR ho ha.pe hb.pe hm, re_op ha.re hb.re hr⟩
theorem dt_cmp {op : CmpOp} {r : R2} {rd : R2D} (ho : OpR X (compareOp op) r) (hr : RO X.K r rd) (hm : behindInMarks op b = false) (ha : DE X a ta ua) (hb : DE X b tb ub) : DT X (.Compare a [op] [b] pos) (tTest (tOp r ta tb)) (dTest (dOp rd ua ub)) := ⟨pt_cmpR ho ha.pe hb.pe hm, rt_test (re_op ha.re hb.re hr)⟩
theorem dt_val (h : DE X e te ue) (he : ∀ whole, isTrue e X.env whole = (do let v ← whole; standAt e.pos; holding [v] (truthy v)) := by intro _; rfl) : DT X e (tTest te) (dTest ue) := ⟨pt_val h.pe he, rt_test h.re⟩
theorem dt_not (h : DT X a t u) : DT X (.UnaryOp .Not a pos) (tNot t) (dNot u) := ⟨pt_not h.pt, rt_not h.rt⟩
theorem dw_and1 (h : DT X a t u) : DW X (.BoolOp .And [a] pos) t u := ⟨pw_and1 h.pt, h.rt⟩
theorem dw_or1 (h : DT X a t u) : DW X (.BoolOp .Or [a] pos) t u := ⟨pw_or1 h.pt, h.rt⟩
theorem dw_and {rest : List Expr} (ha : DT X a t u) (hb : DW X (.BoolOp .And (b :: rest) pos) t' u') : DW X (.BoolOp .And (a :: b :: rest) pos) (tAnd t t') (dAnd u u') := ⟨pw_and ha.pt hb.pw, rt_and ha.rt hb.rt⟩
theorem dw_or {rest : List Expr} (ha : DT X a t u) (hb : DW X (.BoolOp .Or (b :: rest) pos) t' u') : DW X (.BoolOp .Or (a :: b :: rest) pos) (tOr t t') (dOr u u') := ⟨pw_or ha.pt hb.pw, rt_or ha.rt hb.rt⟩
theorem dt_w (h : DW X e t u) : DT X e t u := ⟨h.pw.pt, h.rt⟩
theorem de_one {op} (h : DE X a ta ua) : DE X (.BoolOp op [a] pos) ta ua := ⟨pe_one h.pe, h.re⟩
theorem de_and {rest : List Expr} (ha : DE X a ta ua) (hb : DE X (.BoolOp .And (b :: rest) pos) tb ub) : DE X (.BoolOp .And (a :: b :: rest) pos) (tAndV ta tb) (dAndV ua ub) := ⟨pe_and ha.pe hb.pe, re_and ha.re hb.re⟩
theorem de_or {rest : List Expr} (ha : DE X a ta ua) (hb : DE X (.BoolOp .Or (b :: rest) pos) tb ub) : DE X (.BoolOp .Or (a :: b :: rest) pos) (tOrV ta tb) (dOrV ua ub) := ⟨pe_or ha.pe hb.pe, re_or ha.re hb.re⟩
theorem de_not (ha : DE X a ta ua) : DE X (.UnaryOp .Not a pos) (tNotV ta) (dNotV ua) := ⟨pe_not ha.pe, re_not ha.re⟩
theorem de_if (hc : DT X c t u) (ha : DE X a ta ua) (hb : DE X b tb ub) : DE X (.IfExp c a b pos) (tIf t ta tb) (dIf u ua ub) := ⟨pe_ifExp hc.pt ha.pe hb.pe, re_if hc.rt ha.re hb.re⟩
theorem da_nil : DA X [] tNil dNil := ⟨pa_nil, ra_nil⟩
theorem da_cons (ha : DE X e te ue) (hr : DA X es tr ur) (hs : starEach (e :: es) X.env = (false, eval e X.env) :: starEach es X.env := by rfl) : DA X (e :: es) (tCons te tr) (dCons ue ur) := ⟨pa_cons ha.pe hr.pa hs, ra_cons ha.re hr.ra⟩
theorem de_tup {x1} (h : DA X es tr ur) : DE X (.Tuple es x1 pos) (tTup tr) (dTup ur) := ⟨pe_tup h.pa, re_tup h.ra⟩
theorem de_lst (h : DA X es tr ur) : DE X (.List es pos) (tLst tr) (dLst ur) := ⟨pe_lst h.pa, re_lst h.ra⟩
theorem do_none : DO X none tNoPart dNoPart := ⟨po_none, ro_none⟩
theorem do_some (h : DE X e te ue) : DO X (some e) (tPart te) (dPart ue) := ⟨po_some h.pe, ro_part h.re⟩
theorem de_ix {r : R2} {rd : R2D} (hi : IxR X r) (hr : RO X.K r rd) (ha : DE X a ta ua) (hb : DE X b tb ub) (hs : PlainIx b := by exact fun _ _ => rfl) : DE X (.Subscript a b pos) (tOp r ta tb) (dOp rd ua ub) := ⟨pe_ix hi ha.pe hb.pe hs, re_op ha.re hb.re hr⟩
theorem de_sl {r : V → Option Int → Option Int → Hp → VK → Prop} {rd : R3D} {lo hi : Option Expr} {tl th : TO} {ul uh : DTO} (hs : SlR X r) (hr : RSl X.K r rd) (he : DE X e te ue) (hl : DO X lo tl ul) (hh : DO X hi th uh) :
    DE X (.Subscript e (.Slice lo hi none p2) pos) (tSl r te tl th) (dSl rd ue ul uh) := ⟨pe_slice hs he.pe hl.po hh.po, re_sl he.re hl.ro hh.ro hr⟩
theorem de_slScr (i : Nat) {x : Str} {lo hi : Option Expr} {tl th : TO} {ul uh : DTO} (hl : DO X lo tl ul) (hh : DO X hi th uh) (hN : X.N[i]? = some x := by rfl) (hv : Vis X.env.scope x := by first | exact Or.inl rfl | exact Or.inr (Or.inl rfl) | exact Or.inr (Or.inr rfl)) (hd : (x == ("__debug__" : Str)) = false := by decide)
    (hcd : (x == ("__classdict__" : Str)) = false := by decide) :
    DE X (.Subscript (.Name x p) (.Slice lo hi none p2) pos) (tSl (rSlL X.K) (tVar i) tl th) (dSlScr i ul uh) := ⟨pe_slice sl_list (pe_var hN hv hd hcd) hl.po hh.po, re_slScr hl.ro hh.ro⟩
theorem op_mulS : OpR X (binaryOp .Mult) rMulS := by
  intro pins s σ H x y v u Q I rx ry h
  obtain ⟨z, i, rfl, rfl, ⟨h1, h2, h3⟩, q⟩ := h
  obtain ⟨t, rfl⟩ := rx
  obtain ⟨t', rfl⟩ := ry
  exact SB.mul (PyProof.Rows.mulOk_of 800 20000 h3 h2 h1 (by decide) (by decide)) fun t' k => ⟨.str _, H, I.tok k, ⟨t', rfl⟩, q⟩
/-- 'a' <= x <= 'z' and its like -/
def dChain (r r' : R2D) (ua ub uc : DTE) : DTE := fun δ R => ua δ fun d1 δ1 => ub δ1 fun d2 δ2 => r d1 d2 fun d => match d with
  | .bool k => if k = true then uc δ2 fun d3 δ3 => r' d2 d3 fun d' => R d' δ3 else R (.bool false) δ2
  | _ => False
end
end TL

set_option Elab.async false
set_option linter.all false
set_option maxRecDepth 100000
set_option maxHeartbeats 2000000
/-! TL3: statements, loops, comprehensions by data. -/
namespace TL
open PySem PySem.Spec L2
variable [XW]

theorem EnvOk.new0 {K : PySem.W.Frag} {c : Cf} {G H : Hp} {σ : L2.St} {δ : List Sl} (E : EnvOk K c G H σ δ) {p : Addr} (hp : H p = none) : c.H0 p = none := by
  cases q : c.H0 p with
  | none => rfl
  | some o =>
    by_cases ht : ∃ j, j < c.n ∧ p = c.τ j
    · obtain ⟨j, hj, e⟩ := ht
      exact absurd (by rw [← e]; exact hp) (E.tg j hj).1
    · have z := E.fr p o q fun j hj e => ht ⟨j, hj, e⟩
      rw [hp] at z
      cases z

/-! ### what is left of expressions -/
section
variable {K : PySem.W.Frag} {ta tb tc : TE} {ua ub uc : DTE} {r r' : R2} {rd rd' : R2D}
theorem re_chain (ha : RE K ta ua) (hb : RE K tb ub) (hc : RE K tc uc) (hr : RO K r rd) (hr' : RO K r' rd') : RE K (tChain r r' ta tb tc) (dChain rd rd' ua ub uc) := by
  intro c σ G H δ Q R E h k
  refine ha c σ G H δ _ _ E h fun d1 δ1 v1 G1 H1 h1 E1 e1 r1 => ?_
  refine hb c σ G1 H1 δ1 _ _ E1 h1 fun d2 δ2 v2 G2 H2 h2 E2 e2 r2 => ?_
  refine hr G2 H2 v1 v2 d1 d2 _ _ E2.ex (r1.up e2) r2 h2 fun d v G3 H3 h3 A r3 => ?_
  cases d with
  | bool b =>
    refine ⟨b, r3.bl_of, ?_⟩
    cases b with
    | true =>
      refine hc c σ G3 H3 δ2 _ _ (E2.al A) h3 fun d3 δ3 v3 G4 H4 h4 E4 e4 r4 => ?_
      refine hr' G4 H4 v2 v3 d2 d3 _ _ E4.ex ((r2.up A.g).up e4) r4 h4 fun d v G5 H5 h5 A5 r5 => ?_
      exact k d δ3 v G5 H5 h5 (E4.al A5) ((((e1.trans e2).trans A.g).trans e4).trans A5.g) r5
    | false => exact k _ δ2 _ G3 H3 h3 (E2.al A) ((e1.trans e2).trans A.g) (.bl false)
  | _ => exact False.elim h3
/-- a list that stands in a slot, one that is being made too -/
def slL : Option Sl → Option (List PyData)
  | some (.own _ ds) => some ds
  | some (.dat (.list ds)) => some ds
  | _ => none
theorem slL_ok {c : Cf} {G H : Hp} {σ : L2.St} {δ : List Sl} (E : EnvOk K c G H σ δ) {i : Nat} {ds : List PyData} (h : slL δ[i]? = some ds) : ∃ p xs, σ[i]? = some (some (.ref p)) ∧ H p = some (.lst xs) ∧ RpAll K G xs ds := by
  cases hs : δ[i]? with
  | none =>
    rw [hs] at h
    cases h
  | some s =>
    rw [hs] at h
    have z := E.sl i s hs
    cases s with
    | no => cases h
    | box b => cases h
    | scr es => cases h
    | own t es =>
      have e := Option.some.inj h
      subst e
      obtain ⟨p, xs, e, _, hh, r, _⟩ := z
      exact ⟨p, xs, e, hh, r⟩
    | dat x =>
      cases x <;> first
        | cases h
        | skip
      obtain ⟨x, e, rx⟩ := z
      obtain ⟨a, xs, rfl, q1, q2⟩ := rx.lst_of
      exact ⟨a, xs, e, E.ex _ _ q1, q2⟩
/-- an item of a list by its name -/
def dIxV (i : Nat) (ub : DTE) : DTE := fun δ R => (slL δ[i]?).isSome = true ∧ ub δ fun d δ1 => match slL δ1[i]?, d with
  | some ds, .int k => (match atI ds k with
    | some x => R x δ1
    | none => False)
  | _, _ => False
theorem re_ixV {i : Nat} (hb : RE K tb ub) : RE K (tOp (rIxL K) (tVar i) tb) (dIxV i ub) := by
  intro c σ G H δ Q R E h k
  obtain ⟨h0, h⟩ := h
  obtain ⟨ds0, h0⟩ := Option.isSome_iff_exists.mp h0
  obtain ⟨p, xs0, hv, _, _⟩ := slL_ok E h0
  refine ⟨.ref p, hv, ?_⟩
  refine hb c σ G H δ _ _ E h fun d δ1 y G1 H1 h1 E1 e1 r1 => ?_
  cases hs : slL δ1[i]? with
  | none =>
    rw [hs] at h1
    exact False.elim h1
  | some ds =>
    rw [hs] at h1
    cases d <;> first
      | exact False.elim h1
      | skip
    rename_i j
    have h1 : (match atI ds j with
      | some x => R x δ1
      | none => False) := h1
    obtain ⟨p', xs, hv', hh, rr⟩ := slL_ok E1 hs
    rw [hv] at hv'
    have ev := V.ref.inj (Option.some.inj (Option.some.inj hv'))
    subst ev
    cases q : atI ds j with
    | none =>
      rw [q] at h1
      exact h1.elim
    | some w =>
      rw [q] at h1
      obtain ⟨u, hu, ru⟩ := at_rp rr q
      exact ⟨p, xs, j, u, rfl, r1.int_of, .inl (.inl hh), hu, k w δ1 u G1 H1 h1 E1 e1 ru⟩
/-- how long something is -/
def dLen (u : DTE) : DTE := fun δ R => u δ fun d δ1 => match d with
  | .str x => x.length ≤ sizeLine ∧ R (.int (x.length : Int)) δ1
  | .list ds => R (.int (ds.length : Int)) δ1
  | .tuple ds => R (.int (ds.length : Int)) δ1
  | _ => False
def rLen (K : PySem.W.Frag) : List V → Hp → VK → Prop := fun xs H Q => ∃ x n, xs = [x] ∧ LenV K x H n ∧ Q (.int n) H
theorem re_len (ha : RE K ta ua) : RE K (tCB (rLen K) (tCons ta tNil)) (dLen ua) := by
  intro c σ G H δ Q R E h k
  refine ha c σ G H δ _ _ E h fun d δ1 v G1 H1 h1 E1 e1 r1 => ?_
  cases d <;> first
    | exact False.elim h1
    | skip
  · have e := r1.str_of
    subst e
    exact ⟨_, _, rfl, ⟨h1.1, rfl⟩, k _ δ1 _ G1 H1 h1.2 E1 e1 (.int _)⟩
  · obtain ⟨a, xs, rfl, q1, q2⟩ := r1.lst_of
    exact ⟨_, _, rfl, .inl ⟨xs, .inl (.inl (E1.ex _ _ q1)), rfl⟩, by rw [q2.len]; exact k _ δ1 _ G1 H1 h1 E1 e1 (.int _)⟩
  · obtain ⟨a, xs, rfl, q1, q2⟩ := r1.tup_of
    exact ⟨_, _, rfl, .inr ⟨xs, .inl (.inl (E1.ex _ _ q1)), rfl⟩, by rw [q2.len]; exact k _ δ1 _ G1 H1 h1 E1 e1 (.int _)⟩
/-- .. of a list, or of what was handed in, by its name -/
def dLenV (i : Nat) : DTE := fun δ R => match δ[i]? with
  | some (.own _ ds) => R (.int (ds.length : Int)) δ
  | some (.dat (.list ds)) => R (.int (ds.length : Int)) δ
  | some (.scr ds) => R (.int (ds.length : Int)) δ
  | _ => False
theorem re_lenV {i : Nat} : RE K (tCB (rLen K) (tCons (tVar i) tNil)) (dLenV i) := by
  intro c σ G H δ Q R E h k
  have fin : ∀ p xs (ds : List PyData), σ[i]? = some (some (.ref p)) → SqL K H p xs → RpAll K G xs ds → R (.int (ds.length : Int)) δ → tCB (rLen K) (tCons (tVar i) tNil) σ H Q := fun p xs ds e q r hr =>
    ⟨_, e, _, _, rfl, .inl ⟨xs, q, rfl⟩, by rw [r.len]; exact k _ δ _ G H hr E (Ex.refl _) (.int _)⟩
  cases hs : δ[i]? with
  | none =>
    unfold dLenV at h
    rw [hs] at h
    exact False.elim h
  | some s =>
    have z := E.sl i s hs
    unfold dLenV at h
    rw [hs] at h
    cases s with
    | no => exact False.elim h
    | box b => exact False.elim h
    | scr ds =>
      obtain ⟨a, xs, e, q, r⟩ := z
      exact fin a xs ds e (ex_l E.ex q) r h
    | own t ds =>
      obtain ⟨p, xs, e, _, hh, r, _⟩ := z
      exact fin p xs ds e (.inl (.inl hh)) r h
    | dat d =>
      cases d <;> first
        | exact False.elim h
        | skip
      obtain ⟨x, e, rx⟩ := z
      obtain ⟨a, xs, rfl, q1, q2⟩ := rx.lst_of
      exact fin a xs _ e (.inl (.inl (E.ex _ _ q1))) q2 h
/-- isinstance with a built-in type -/
def tyD : PyData → String
  | .none => "NoneType"
  | .bool _ => "bool"
  | .int _ => "int"
  | .str _ => "str"
  | .list _ => "list"
  | .tuple _ => "tuple"
  | .dict ds => if isErr ds = true then "" else "dict"
def dIsi (T : String) (u : DTE) : DTE := fun δ R => u δ fun d δ1 => match kitB (tyD d) T with
  | some b => R (.bool b) δ1
  | none => False
theorem re_isi {T : String} (ha : RE K ta ua) (hT : kitB "" T = none := by decide +kernel) : RE K (tCB (rIsi K) (tCons ta (tCons (tC (.ty T)) tNil))) (dIsi T ua) := by
  intro c σ G H δ Q R E h k
  refine ha c σ G H δ _ _ E h fun d δ1 v G1 H1 h1 E1 e1 r1 => ?_
  have h1 : (match kitB (tyD d) T with
    | some b => R (.bool b) δ1
    | none => False) := h1
  have ty : TyX K H1 v (.type (tyD d)) := by
    cases r1 with
    | non => exact .base .non
    | bl b => exact .base (.bl b)
    | int i => exact .base (.int i)
    | str x => exact .base (.str x)
    | lst q r => exact .base (.lst (E1.ex _ _ q))
    | tup q r => exact .base (.tup (E1.ex _ _ q))
    | dic q r n =>
      rw [show tyD (.dict _) = "dict" from if_neg (by rw [n]; exact Bool.false_ne_true)]
      exact .fDict (E1.ex _ _ q)
    | fn q =>
      have z : (match kitB "" T with
        | some b => R (.bool b) δ1
        | none => False) := h1
      rw [hT] at z
      exact z.elim
    | err0 q =>
      have z : (match kitB "" T with
        | some b => R (.bool b) δ1
        | none => False) := h1
      rw [hT] at z
      exact z.elim
    | err q1 q2 q3 q4 q5 =>
      have z : (match kitB "" T with
        | some b => R (.bool b) δ1
        | none => False) := h1
      rw [hT] at z
      exact z.elim
  cases q : kitB (tyD d) T with
  | none =>
    rw [q] at h1
    exact h1.elim
  | some b =>
    rw [q] at h1
    exact ⟨v, .ty T, _, _, b, rfl, .ty T, ty, kit_ty q, k _ δ1 _ G1 H1 h1 E1 e1 (.bl b)⟩
/-- int(..) -/
def dInt1 (u : DTE) : DTE := fun δ R => u δ fun d δ1 => match d with
  | .int i => R (.int i) δ1
  | .bool b => R (.int (if b then 1 else 0)) δ1
  | _ => False
def rInt1 : List V → Hp → VK → Prop := fun xs H Q => (∃ i, xs = [.int i] ∧ Q (.int i) H) ∨ ∃ k, xs = [.bl k] ∧ Q (.int (if k then 1 else 0)) H
theorem re_int1 (ha : RE K ta ua) : RE K (tCB rInt1 (tCons ta tNil)) (dInt1 ua) := by
  intro c σ G H δ Q R E h k
  refine ha c σ G H δ _ _ E h fun d δ1 v G1 H1 h1 E1 e1 r1 => ?_
  cases d <;> first
    | exact False.elim h1
    | skip
  · have e := r1.bl_of
    subst e
    exact .inr ⟨_, rfl, k _ δ1 _ G1 H1 h1 E1 e1 (.int _)⟩
  · have e := r1.int_of
    subst e
    exact .inl ⟨_, rfl, k _ δ1 _ G1 H1 h1 E1 e1 (.int _)⟩
/-- a.join(list of texts) -/
def strsOf : List PyData → Option (List Str)
  | [] => some []
  | .str x :: r => (strsOf r).map (x :: ·)
  | _ :: _ => none
theorem strs_rp {G : Hp} : ∀ {ds : List PyData} {xs : List V} {ys : List Str}, RpAll K G xs ds → strsOf ds = some ys → xs = ys.map V.str
  | _, _, _, .nil, h => by
    cases h
    rfl
  | d :: ds, _, ys, .cons (v := v) (vs := vs) r rr, h => by
    cases d <;> first
      | (cases h; done)
      | skip
    rename_i x
    have h : (strsOf ds).map (x :: ·) = some ys := h
    cases q : strsOf ds with
    | none =>
      rw [q] at h
      cases h
    | some zs =>
      rw [q] at h
      cases h
      rw [strs_rp rr q, r.str_of]
      rfl
def dJoin (ua ub : DTE) : DTE := fun δ R => ua δ fun d1 δ1 => match d1 with
  | .str a => ub δ1 fun d2 δ2 => (match d2 with
    | .list ds => (match strsOf ds with
      | some ys => (ys.map (·.length)).sum + ys.length * a.length ≤ 16777216 ∧ R (.str (Txt.join a ys)) δ2
      | none => False)
    | _ => False)
  | _ => False
def rJoin (K : PySem.W.Frag) : V → List V → Hp → VK → Prop := fun x xs H Q => ∃ a p, ∃ ys : List Str, x = .str a ∧ xs = [.ref p] ∧ (SqL K H p (ys.map V.str) ∨ SqT K H p (ys.map V.str)) ∧
      (ys.map (·.length)).sum + ys.length * a.length ≤ 16777216 ∧ Q (.str (Txt.join a ys)) H
theorem re_join (ha : RE K ta ua) (hb : RE K tb ub) : RE K (tM1 (rJoin K) ta tb) (dJoin ua ub) := by
  intro c σ G H δ Q R E h k
  refine ha c σ G H δ _ _ E h fun d1 δ1 v1 G1 H1 h1 E1 e1 r1 => ?_
  have sv : ∃ a, d1 = .str a := by
    cases d1 <;> first
      | exact ⟨_, rfl⟩
      | exact False.elim h1
  obtain ⟨a, rfl⟩ := sv
  refine ⟨⟨a, r1.str_of⟩, ?_⟩
  refine hb c σ G1 H1 δ1 _ _ E1 h1 fun d2 δ2 v2 G2 H2 h2 E2 e2 r2 => ?_
  cases d2 <;> first
    | exact False.elim h2
    | skip
  rename_i ds
  have h2 : (match strsOf ds with
    | some ys => (ys.map (·.length)).sum + ys.length * a.length ≤ 16777216 ∧ R (.str (Txt.join a ys)) δ2
    | none => False) := h2
  obtain ⟨p, xs, rfl, q1, q2⟩ := r2.lst_of
  cases q : strsOf ds with
  | none =>
    rw [q] at h2
    exact h2.elim
  | some ys =>
    rw [q] at h2
    exact ⟨a, p, ys, r1.str_of, rfl, .inl (.inl (.inl (by rw [← strs_rp q2 q]; exact E2.ex _ _ q1))), h2.1, k _ δ2 _ G2 H2 h2.2 E2 (e1.trans e2) (.str _)⟩
end
end TL

set_option Elab.async false
set_option linter.all false
set_option maxRecDepth 100000
set_option maxHeartbeats 2000000
/-! TL4: statements, loops, comprehensions by data. -/
namespace TL
open PySem PySem.Spec L2
variable [XW]

structure DEnds where
  nx : List Sl → Prop
  rt : PyData → List Sl → Prop
  bk : List Sl → Prop := fun _ => False
  ct : List Sl → Prop := fun _ => False
  rn : List PyData → List Sl → Prop := fun _ _ => False
abbrev DTS := DEnds → List Sl → Prop
structure EndsOk (K : PySem.W.Frag) (c : Cf) (G : Hp) (E : DEnds) (D : Ends) : Prop where
  nx : ∀ σ' G' H' δ', E.nx δ' → EnvOk K c G' H' σ' δ' → Ex G G' → D.nx σ' H'
  rt : ∀ d δ' v σ' G' H', E.rt d δ' → EnvOk K c G' H' σ' δ' → Ex G G' → Rp K G' v d → D.rt v H'
  bk : ∀ σ' G' H' δ', E.bk δ' → EnvOk K c G' H' σ' δ' → Ex G G' → D.bk σ' H'
  ct : ∀ σ' G' H' δ', E.ct δ' → EnvOk K c G' H' σ' δ' → Ex G G' → D.ct σ' H'
  rn : ∀ ds δ' p xs σ' G' H', E.rn ds δ' → EnvOk K { c with hid := (p, .lst xs) :: c.hid } G' H' σ' δ' → (∀ zs, (p, zs) ∉ c.hid) → Ex G G' → RpAll K G' xs ds → D.rt (.ref p) H'
  h0 : c.hid = []
theorem EndsOk.up {K : PySem.W.Frag} {c : Cf} {G G1 : Hp} {E : DEnds} {D : Ends} (h : EndsOk K c G E D) (e : Ex G G1) : EndsOk K c G1 E D :=
  ⟨fun σ' G' H' δ' a b k => h.nx σ' G' H' δ' a b (e.trans k), fun d δ' v σ' G' H' a b k r => h.rt d δ' v σ' G' H' a b (e.trans k) r, fun σ' G' H' δ' a b k => h.bk σ' G' H' δ' a b (e.trans k), fun σ' G' H' δ' a b k => h.ct σ' G' H' δ' a b (e.trans k), fun ds δ' p xs σ' G' H' a b n k r => h.rn ds δ' p xs σ' G' H' a b n (e.trans k) r, h.h0⟩
def RS (K : PySem.W.Frag) (t : TS) (u : DTS) : Prop := ∀ (c : Cf) (σ : L2.St) (G H : Hp) (δ : List Sl) (D : Ends) (E : DEnds), EnvOk K c G H σ δ → u E δ → EndsOk K c G E D → t D σ H
structure DS (X : Cx) (st : Stmt) (t : TS) (u : DTS) : Prop where
  ps : PS X st t
  rs : RS X.K t u
structure DSs (X : Cx) (st : List Stmt) (t : TS) (u : DTS) : Prop where
  ps : PSs X st t
  rs : RS X.K t u

/-! ### targets -/
abbrev DTG := PyData → List Sl → (List Sl → Prop) → Prop
abbrev DTGs := List PyData → List Sl → (List Sl → Prop) → Prop
/-- js: the slots that are stored to -/
def RG (K : PySem.W.Frag) (g : TG) (u : DTG) (js : List Nat) : Prop := ∀ (c : Cf) (σ : L2.St) (G H : Hp) (δ : List Sl) (v : V) (d : PyData) (Q : L2.St → Hp → Prop) (R : List Sl → Prop), EnvOk K c G H σ δ → Rp K G v d → u d δ R →
  (∀ σ' δ', R δ' → EnvOk K c G H σ' δ' → σ'.length = σ.length → (∀ i, i ∉ js → σ'[i]? = σ[i]?) → Q σ' H) → g v σ H Q
def RGs (K : PySem.W.Frag) (g : TGs) (u : DTGs) (js : List Nat) : Prop := ∀ (c : Cf) (σ : L2.St) (G H : Hp) (δ : List Sl) (vs : List V) (ds : List PyData) (Q : L2.St → Hp → Prop) (R : List Sl → Prop), EnvOk K c G H σ δ → RpAll K G vs ds → u ds δ R →
  (∀ σ' δ', R δ' → EnvOk K c G H σ' δ' → σ'.length = σ.length → (∀ i, i ∉ js → σ'[i]? = σ[i]?) → Q σ' H) → g vs σ H Q
structure DG (X : Cx) (e : Expr) (g : TG) (u : DTG) (js : List Nat) : Prop where
  pg : PG X e g
  rg : RG X.K g u js
structure DGs (X : Cx) (es : List Expr) (g : TGs) (u : DTGs) (js : List Nat) : Prop where
  pg : PGs X es g
  rg : RGs X.K g u js
def dgName (i : Nat) : DTG := fun d δ R => R (δ.set i (.dat d))
def dgNil : DTGs := fun ds δ R => match ds with
  | [] => R δ
  | _ => False
def dgCons (u : DTG) (us : DTGs) : DTGs := fun ds δ R => match ds with
  | d :: r => u d δ fun δ1 => us r δ1 R
  | [] => False
def dgTup (n : Nat) (us : DTGs) : DTG := fun d δ R => match d with
  | .tuple ds => ds.length = n ∧ us ds δ R
  | _ => False
section
variable {K : PySem.W.Frag}
theorem rg_name {i : Nat} : RG K (gName i) (dgName i) [i] := by
  intro c σ G H δ v d Q R E r h k
  refine k _ _ h (E.put r) List.length_set fun j hj => ?_
  rw [List.getElem?_set_ne]
  exact fun z => hj (by rw [z]; exact List.mem_singleton.mpr rfl)
theorem rgs_nil : RGs K gNil dgNil [] := by
  intro c σ G H δ vs ds Q R E r h k
  cases r with
  | nil => exact ⟨rfl, k σ δ h E rfl fun _ _ => rfl⟩
  | cons _ _ => exact False.elim h
theorem rgs_cons {g : TG} {u : DTG} {gs : TGs} {us : DTGs} {js js' : List Nat} (h1 : RG K g u js) (h2 : RGs K gs us js') : RGs K (gCons g gs) (dgCons u us) (js ++ js') := by
  intro c σ G H δ vs ds Q R E r h k
  cases r with
  | nil => exact False.elim h
  | cons r rr =>
    refine ⟨_, _, rfl, ?_⟩
    refine h1 c σ G H δ _ _ _ _ E r h fun σ1 δ1 q1 E1 l1 s1 => ?_
    refine h2 c σ1 G H δ1 _ _ _ _ E1 rr q1 fun σ2 δ2 q2 E2 l2 s2 => ?_
    exact k σ2 δ2 q2 E2 (l2.trans l1) fun i hi => (s2 i fun z => hi (List.mem_append_right _ z)).trans (s1 i fun z => hi (List.mem_append_left _ z))
theorem rg_tup {n : Nat} {gs : TGs} {us : DTGs} {js : List Nat} (h1 : RGs K gs us js) : RG K (gTup K n gs) (dgTup n us) js := by
  intro c σ G H δ v d Q R E r h k
  cases d <;> first
    | exact False.elim h
    | skip
  obtain ⟨a, xs, rfl, q1, q2⟩ := r.tup_of
  exact ⟨a, xs, rfl, .inl (.inl (E.ex _ _ q1)), by rw [q2.len]; exact h.1, h1 c σ G H δ xs _ Q R E q2 h.2 k⟩
end

/-! ### statements -/
def dNext : DTS := fun E δ => E.nx δ
def dSeq (u u' : DTS) : DTS := fun E δ => u { E with nx := u' E } δ
def dBreak : DTS := fun E δ => E.bk δ
def dCont : DTS := fun E δ => E.ct δ
def dDrop (u : DTE) : DTS := fun E δ => u δ fun _ δ1 => E.nx δ1
def dRet (u : DTE) : DTS := fun E δ => u δ E.rt
/-- return [..], a list that the asker may change -/
def dRetNew (u : DTA) : DTS := fun E δ => u δ fun ds δ1 => ds.length ≤ sizeLine ∧ E.rn ds δ1
def dRetN : DTS := fun E δ => E.rt .none δ
def dIfS (t : DTT) (u u' : DTS) : DTS := fun E δ => t δ fun b δ1 => if b = true then u E δ1 else u' E δ1
def dAsg (u : DTE) (g : DTG) : DTS := fun E δ => u δ fun d δ1 => g d δ1 E.nx
/-- name op= e, of iotaD -/
def dAug (f : Int → Int → Int) (i : Nat) (u : DTE) : DTS := fun E δ => match δ[i]? with
  | some (.dat (.int a)) => u δ fun d δ1 => (match d with
    | .int b => E.nx (δ1.set i (.dat (.int (f a b))))
    | _ => False)
  | _ => False
/-- xs[i] = e, xs a name -/
def dSetI (i : Nat) (u ui : DTE) : DTS := fun E δ => u δ fun d δ1 => (slL δ1[i]?).isSome = true ∧ ui δ1 fun di δ2 => match δ2[i]?, di with
  | some (.own t ds), .int k => (match ixN ds.length k with
    | some j => E.nx (δ2.set i (.own t (ds.set j d)))
    | none => False)
  | _, _ => False
/-- xs.append(e), xs a name -/
def dApp (i : Nat) (u : DTE) : DTS := fun E δ => (slL δ[i]?).isSome = true ∧ u δ fun d δ1 => match δ1[i]? with
  | some (.own t ds) => ds.length < sizeLine ∧ E.nx (δ1.set i (.own t (ds ++ [d])))
  | _ => False
/-- xs = [..], a list that is to change -/
def dAsgOwn (i : Nat) (u : DTA) : DTS := fun E δ => u δ fun ds δ1 => ds.length ≤ sizeLine ∧ E.nx (δ1.set i (.own none ds))
section
variable {K : PySem.W.Frag} {te tb : TE} {ue ub : DTE} {t t' : TS} {u u' : DTS} {g : TG} {ug : DTG} {js : List Nat}
theorem rs_next : RS K tNext dNext := fun c σ G H δ D E EV h k => k.nx σ G H δ h EV (Ex.refl _)
theorem rs_break : RS K tBreak dBreak := fun c σ G H δ D E EV h k => k.bk σ G H δ h EV (Ex.refl _)
theorem rs_cont : RS K tCont dCont := fun c σ G H δ D E EV h k => k.ct σ G H δ h EV (Ex.refl _)
theorem rs_seq (h1 : RS K t u) (h2 : RS K t' u') : RS K (tSeq t t') (dSeq u u') := by
  intro c σ G H δ D E EV h k
  refine h1 c σ G H δ { D with nx := t' D } { E with nx := u' E } EV h ⟨fun σ' G' H' δ' a b e => ?_, k.rt, k.bk, k.ct, k.rn, k.h0⟩
  exact h2 c σ' G' H' δ' D E b a (k.up e)
theorem rs_drop (ha : RE K te ue) : RS K (tDrop te) (dDrop ue) := by
  intro c σ G H δ D E EV h k
  exact ha c σ G H δ _ _ EV h fun d δ1 v G1 H1 h1 E1 e1 _ => k.nx σ G1 H1 δ1 h1 E1 e1
theorem rs_ret (ha : RE K te ue) : RS K (tRet te) (dRet ue) := by
  intro c σ G H δ D E EV h k
  exact ha c σ G H δ _ _ EV h fun d δ1 v G1 H1 h1 E1 e1 r => k.rt d δ1 v σ G1 H1 h1 E1 e1 r
theorem rs_retNew {ta : TA} {ua : DTA} (ha : RA K ta ua) : RS K (tRet (tLst ta)) (dRetNew ua) := by
  intro c σ G H δ D E EV h k
  refine ha c σ G H δ _ _ EV h fun ds δ1 vs G1 H1 h1 E1 e1 r => ?_
  refine ⟨by rw [r.len]; exact h1.1, fun p hp => ?_⟩
  refine k.rn ds δ1 p vs σ G1 _ h1.2 (E1.hide hp (E1.new0 hp)) (fun zs z => ?_) e1 r
  have q := (E1.hd p zs z).1
  rw [hp] at q
  cases q
theorem rs_retN : RS K tRetN dRetN := fun c σ G H δ D E EV h k => k.rt .none δ .non σ G H h EV (Ex.refl _) .non
theorem rs_if {tc : TT} {uc : DTT} (hc : RT K tc uc) (h1 : RS K t u) (h2 : RS K t' u') : RS K (tIfS tc t t') (dIfS uc u u') := by
  intro c σ G H δ D E EV h k
  refine hc c σ G H δ _ _ EV h fun b δ1 G1 H1 q E1 e1 => ?_
  cases b with
  | true => exact h1 c σ G1 H1 δ1 D E E1 q (k.up e1)
  | false => exact h2 c σ G1 H1 δ1 D E E1 q (k.up e1)
theorem rs_asg (ha : RE K te ue) (hg : RG K g ug js) : RS K (tAsg te g) (dAsg ue ug) := by
  intro c σ G H δ D E EV h k
  refine ha c σ G H δ _ _ EV h fun d δ1 v G1 H1 h1 E1 e1 r => ?_
  exact hg c σ G1 H1 δ1 v d _ _ E1 r h1 fun σ' δ' q E2 _ _ => k.nx σ' G1 H1 δ' q E2 e1
theorem rs_aug {f : Int → Int → Int} {i : Nat} (ha : RE K te ue) : RS K (tAug i te (ipI f)) (dAug f i ue) := by
  intro c σ G H δ D E EV h k
  unfold dAug at h
  cases hs : δ[i]? with
  | none =>
    rw [hs] at h
    exact False.elim h
  | some s =>
    rw [hs] at h
    have z := EV.sl i s hs
    cases s <;> first
      | exact False.elim h
      | skip
    rename_i d0
    cases d0 <;> first
      | exact False.elim h
      | skip
    rename_i a
    obtain ⟨x, e, rx⟩ := z
    have ex := rx.int_of
    subst ex
    refine ⟨_, e, ?_⟩
    refine ha c σ G H δ _ _ EV h fun d δ1 v G1 H1 h1 E1 e1 r => ?_
    cases d <;> first
      | exact False.elim h1
      | skip
    rename_i b
    exact ⟨a, b, rfl, r.int_of, k.nx _ G1 H1 _ h1 (E1.put (.int _)) e1⟩
theorem rs_setI {i : Nat} (ha : RE K te ue) (hi : RE K tb ub) : RS K (tAsg te (gSub (tVar i) tb rSetL)) (dSetI i ue ub) := by
  intro c σ G H δ D E EV h k
  refine ha c σ G H δ _ _ EV h fun d δ1 v G1 H1 h1 E1 e1 r => ?_
  obtain ⟨hsome, h1⟩ := h1
  obtain ⟨ds0, h0⟩ := Option.isSome_iff_exists.mp hsome
  obtain ⟨p, xs0, hv, _, _⟩ := slL_ok E1 h0
  refine ⟨.ref p, hv, ?_⟩
  refine hi c σ G1 H1 δ1 _ _ E1 h1 fun di δ2 y G2 H2 h2 E2 e2 r2 => ?_
  cases hs : δ2[i]? with
  | none =>
    rw [hs] at h2
    exact False.elim h2
  | some s =>
    rw [hs] at h2
    cases s <;> first
      | exact False.elim h2
      | skip
    rename_i tg ds
    cases di <;> first
      | exact False.elim h2
      | skip
    rename_i kk
    have h2 : (match ixN ds.length kk with
      | some j => E.nx (δ2.set i (.own tg (ds.set j d)))
      | none => False) := h2
    obtain ⟨p', xs, e, hg, hh, rr, q⟩ := E2.sl i _ hs
    have e' := e
    rw [hv] at e'
    have ev := V.ref.inj (Option.some.inj (Option.some.inj e'))
    subst ev
    cases q : ixN ds.length kk with
    | none =>
      rw [q] at h2
      exact h2.elim
    | some j =>
      rw [q] at h2
      refine ⟨p, xs, kk, j, rfl, r2.int_of, hh, by rw [rr.len]; exact q, ?_⟩
      exact k.nx σ G2 _ _ h2 (E2.poke hs hv (RpAll.set (r.up e2) j rr)) (e1.trans e2)
theorem rs_app {i : Nat} (ha : RE K te ue) : RS K (tDrop (tBM K "list" rAppend (tVar i) (tCons te tNil))) (dApp i ue) := by
  intro c σ G H δ D E EV h k
  obtain ⟨hsome, h⟩ := h
  obtain ⟨ds0, h0⟩ := Option.isSome_iff_exists.mp hsome
  obtain ⟨p, xs0, hv, hh0, _⟩ := slL_ok EV h0
  refine ⟨.ref p, hv, .inl ⟨rfl, _, .inl (.inl hh0)⟩, ?_⟩
  refine ha c σ G H δ _ _ EV h fun d δ1 v G1 H1 h1 E1 e1 r => ?_
  cases hs : δ1[i]? with
  | none =>
    rw [hs] at h1
    exact False.elim h1
  | some s =>
    rw [hs] at h1
    cases s <;> first
      | exact False.elim h1
      | skip
    rename_i tg ds
    obtain ⟨p', xs, e, hg, hh, rr, q⟩ := E1.sl i _ hs
    have e' := e
    rw [hv] at e'
    have ev := V.ref.inj (Option.some.inj (Option.some.inj e'))
    subst ev
    refine ⟨p, xs, v, rfl, rfl, hh, by rw [rr.len]; exact h1.1, ?_⟩
    exact k.nx σ G1 _ _ h1.2 (E1.poke hs hv (rr.app (.one r))) e1
theorem rs_asgOwn {i : Nat} {ta : TA} {ua : DTA} (ha : RA K ta ua) : RS K (tAsg (tLst ta) (gName i)) (dAsgOwn i ua) := by
  intro c σ G H δ D E EV h k
  refine ha c σ G H δ _ _ EV h fun ds δ1 vs G1 H1 h1 E1 e1 r => ?_
  refine ⟨by rw [r.len]; exact h1.1, fun p hp => ?_⟩
  exact k.nx _ G1 _ _ h1.2 (E1.fresh hp (E1.new0 hp) r) e1
end

/-! ### what is walked -/
structure Yields (K : PySem.W.Frag) (G : Hp) (J : It) (ds : List PyData) : Prop where
  stop : ∀ G1 H1, Ex G G1 → Ex G1 H1 → J.stop ds.length H1
  go : ∀ G1 H1 i d, Ex G G1 → Ex G1 H1 → ds[i]? = some d → J.go i H1 ∧ ∀ x H2, J.yld i H1 x H2 → ∃ G2, Al G1 H1 G2 H2 ∧ Rp K G2 x d
abbrev DTI := List Sl → (List PyData → List Sl → Prop) → Prop
def RI (K : PySem.W.Frag) (w : TI) (u : DTI) : Prop := ∀ (c : Cf) (σ : L2.St) (G H : Hp) (δ : List Sl) (Q : It → Hp → Prop) (R : List PyData → List Sl → Prop), EnvOk K c G H σ δ → u δ R →
  (∀ ds δ' J G' H', R ds δ' → EnvOk K c G' H' σ δ' → Ex G G' → Yields K G' J ds → Q J H') → w σ H Q
structure DI (X : Cx) (tg iter : Expr) (w : TI) (u : DTI) : Prop where
  pi : PI X tg iter w
  ri : RI X.K w u
def diL (u : DTE) : DTI := fun δ R => u δ fun d δ1 => match d with
  | .list ds => R ds δ1
  | _ => False
def diT (u : DTE) : DTI := fun δ R => u δ fun d δ1 => match d with
  | .tuple ds => R ds δ1
  | _ => False
def diS (u : DTE) : DTI := fun δ R => u δ fun d δ1 => match d with
  | .str x => R (x.cps.toList.map fun c => .str ⟨#[c]⟩) δ1
  | _ => False
def iotaD (lo : Int) (n : Nat) : List PyData := (List.range n).map fun (i : Nat) => PyData.int (lo + (i : Int))
def diR1 (u : DTE) : DTI := fun δ R => u δ fun d δ1 => match d with
  | .int n => (-(2 ^ 62) ≤ n ∧ n < 2 ^ 62) ∧ R (iotaD 0 n.toNat) δ1
  | _ => False
def diR2 (u u' : DTE) : DTI := fun δ R => u δ fun d δ1 => u' δ1 fun d' δ2 => match d, d' with
  | .int m, .int n => (-(2 ^ 62) ≤ m ∧ m < 2 ^ 62 ∧ -(2 ^ 62) ≤ n ∧ n < 2 ^ 62) ∧ R (iotaD m (n - m).toNat) δ2
  | _, _ => False
section
variable {K : PySem.W.Frag} {te tb : TE} {ue ub : DTE}
theorem ri_list (ha : RE K te ue) : RI K (iList K te) (diL ue) := by
  intro c σ G H δ Q R E h k
  refine ha c σ G H δ _ _ E h fun d δ1 v G1 H1 h1 E1 e1 r => ?_
  cases d <;> first
    | exact False.elim h1
    | skip
  rename_i ds
  obtain ⟨a, xs, rfl, q1, q2⟩ := r.lst_of
  refine ⟨a, rfl, ⟨xs, .inl (.inl (E1.ex _ _ q1))⟩, k ds δ1 _ G1 H1 h1 E1 e1 ⟨fun G2 H2 a1 a2 => ⟨xs, .inl (.inl (a2 _ _ (a1 _ _ q1))), by rw [q2.len]; exact Nat.le_refl _⟩, fun G2 H2 i d a1 a2 hd => ?_⟩⟩
  obtain ⟨v, hv, rv⟩ := q2.get hd
  have hq : SqL K H2 a xs := .inl (.inl (a2 _ _ (a1 _ _ q1)))
  refine ⟨⟨xs, v, hq, hv⟩, fun x H3 hy => ?_⟩
  obtain ⟨rfl, hy⟩ := hy
  have e := (hy xs hq).symm.trans hv
  cases e
  exact ⟨G2, Al.refl a2, rv.up a1⟩
theorem ri_tup (ha : RE K te ue) : RI K (iTup K te) (diT ue) := by
  intro c σ G H δ Q R E h k
  refine ha c σ G H δ _ _ E h fun d δ1 v G1 H1 h1 E1 e1 r => ?_
  cases d <;> first
    | exact False.elim h1
    | skip
  rename_i ds
  obtain ⟨a, xs, rfl, q1, q2⟩ := r.tup_of
  refine ⟨a, rfl, ⟨xs, .inl (.inl (E1.ex _ _ q1))⟩, k ds δ1 _ G1 H1 h1 E1 e1 ⟨fun G2 H2 a1 a2 => ⟨xs, .inl (.inl (a2 _ _ (a1 _ _ q1))), by rw [q2.len]; exact Nat.le_refl _⟩, fun G2 H2 i d a1 a2 hd => ?_⟩⟩
  obtain ⟨v, hv, rv⟩ := q2.get hd
  have hq : SqT K H2 a xs := .inl (.inl (a2 _ _ (a1 _ _ q1)))
  refine ⟨⟨xs, v, hq, hv⟩, fun x H3 hy => ?_⟩
  obtain ⟨rfl, hy⟩ := hy
  have e := (hy xs hq).symm.trans hv
  cases e
  exact ⟨G2, Al.refl a2, rv.up a1⟩
theorem ri_str (ha : RE K te ue) : RI K (iStr te) (diS ue) := by
  intro c σ G H δ Q R E h k
  refine ha c σ G H δ _ _ E h fun d δ1 v G1 H1 h1 E1 e1 r => ?_
  cases d <;> first
    | exact False.elim h1
    | skip
  rename_i x
  refine ⟨x, r.str_of, k _ δ1 _ G1 H1 h1 E1 e1 ⟨fun G2 H2 a1 a2 => ?_, fun G2 H2 i d a1 a2 hd => ?_⟩⟩
  · show x.cps.size ≤ (x.cps.toList.map fun c => PyData.str ⟨#[c]⟩).length
    rw [List.length_map, Array.length_toList]
    exact Nat.le_refl _
  · rw [List.getElem?_map] at hd
    cases q : x.cps.toList[i]? with
    | none =>
      rw [q] at hd
      cases hd
    | some ch =>
      rw [q] at hd
      cases hd
      have hl := (List.getElem?_eq_some_iff.mp q).1
      rw [Array.length_toList] at hl
      refine ⟨hl, fun y H3 hy => ?_⟩
      obtain ⟨rfl, ch', hc, rfl⟩ := hy
      rw [Array.getElem?_toList] at q
      rw [q] at hc
      cases hc
      exact ⟨G2, Al.refl a2, .str _⟩
theorem iotaD_get {lo : Int} {n i : Nat} {d : PyData} (h : (iotaD lo n)[i]? = some d) : i < n ∧ d = .int (lo + (i : Int)) := by
  unfold iotaD at h
  rw [List.getElem?_map] at h
  cases q : (List.range n)[i]? with
  | none =>
    rw [q] at h
    cases h
  | some j =>
    rw [q] at h
    obtain ⟨h1, h2⟩ := List.getElem?_eq_some_iff.mp q
    rw [List.getElem_range] at h2
    subst h2
    rw [List.length_range] at h1
    exact ⟨h1, (Option.some.inj h).symm⟩
theorem yld_iotaD {G : Hp} {lo : Int} {n : Nat} : Yields K G (Itr lo n) (iotaD lo n) := ⟨fun G2 H2 a1 a2 => by
    show n ≤ (iotaD lo n).length
    unfold iotaD
    rw [List.length_map, List.length_range]
    exact Nat.le_refl _, fun G2 H2 i d a1 a2 hd => by
    obtain ⟨h1, rfl⟩ := iotaD_get hd
    refine ⟨h1, fun x H3 hy => ?_⟩
    obtain ⟨rfl, rfl⟩ := hy
    exact ⟨G2, Al.refl a2, .int _⟩⟩
theorem ri_r1 (ha : RE K te ue) : RI K (iRng1 (tCons te tNil)) (diR1 ue) := by
  intro c σ G H δ Q R E h k
  refine ha c σ G H δ _ _ E h fun d δ1 v G1 H1 h1 E1 e1 r => ?_
  cases d <;> first
    | exact False.elim h1
    | skip
  rename_i n
  have e := r.int_of
  subst e
  exact ⟨n, rfl, h1.1.1, h1.1.2, k _ δ1 _ G1 H1 h1.2 E1 e1 yld_iotaD⟩
theorem ri_r2 (ha : RE K te ue) (hb : RE K tb ub) : RI K (iRng2 (tCons te (tCons tb tNil))) (diR2 ue ub) := by
  intro c σ G H δ Q R E h k
  refine ha c σ G H δ _ _ E h fun d δ1 v G1 H1 h1 E1 e1 r => ?_
  refine hb c σ G1 H1 δ1 _ _ E1 h1 fun d2 δ2 v2 G2 H2 h2 E2 e2 r2 => ?_
  cases d <;> cases d2 <;> first
    | exact False.elim h2
    | skip
  rename_i m n
  have e := r.int_of
  subst e
  have e' := r2.int_of
  subst e'
  exact ⟨m, n, rfl, h2.1, k _ δ2 _ G2 H2 h2.2 E2 (e1.trans e2) yld_iotaD⟩
end

/-! ### loops -/
def forW (g : DTG) (u : DTS) (E : DEnds) : List PyData → List Sl → Prop
  | [], δ => E.nx δ
  | d :: r, δ => g d δ fun δ1 => u { E with nx := forW g u E r, ct := forW g u E r, bk := E.nx } δ1
def dFor (w : DTI) (g : DTG) (u : DTS) : DTS := fun E δ => w δ fun ds δ1 => forW g u E ds δ1
def whW (t : DTT) (u : DTS) (E : DEnds) : Nat → List Sl → Prop
  | 0, _ => False
  | n + 1, δ => t δ fun b δ1 => if b = true then u { E with nx := whW t u E n, ct := whW t u E n, bk := E.nx } δ1 else E.nx δ1
def dWhile (t : DTT) (u : DTS) : DTS := fun E δ => ∃ n, whW t u E n δ
section
variable {K : PySem.W.Frag} {w : TI} {uw : DTI} {g : TG} {ug : DTG} {js : List Nat} {t : TS} {u : DTS} {tc : TT} {uc : DTT}
theorem rs_for (hw : RI K w uw) (hg : RG K g ug js) (hb : RS K t u) : RS K (tFor w g t) (dFor uw ug u) := by
  intro c σ G H δ D E EV h k
  refine hw c σ G H δ _ _ EV h fun ds δ1 J G1 H1 h1 E1 e1 Y => ?_
  refine ⟨fun i m σ H => ∃ G δ, EnvOk K c G H σ δ ∧ Ex G1 G ∧ i ≤ ds.length ∧ m = ds.length - i ∧ forW ug u E (ds.drop i) δ, ⟨ds.length, G1, δ1, E1, Ex.refl _, Nat.zero_le _, rfl, h1⟩, ?_⟩
  rintro i m σ2 H2 ⟨G2, δ2, E2, e2, hi, rfl, h2⟩
  by_cases hlt : i < ds.length
  · have hd : ds[i]? = some ds[i] := List.getElem?_eq_getElem hlt
    rw [List.drop_eq_getElem_cons hlt] at h2
    obtain ⟨hgo, hy⟩ := Y.go G2 H2 i _ e2 E2.ex hd
    refine .inr ⟨hgo, fun σ' H' => ∃ G δ, EnvOk K c G H' σ' δ ∧ Ex G1 G ∧ forW ug u E (ds.drop (i + 1)) δ, fun σ' H' ⟨G', δ', a1, a2, a3⟩ => ⟨ds.length - (i + 1), by omega, G', δ', a1, a2, hlt, rfl, a3⟩, fun x H3 hx => ?_⟩
    obtain ⟨G3, A, rx⟩ := hy x H3 hx
    refine hg c σ2 G3 H3 δ2 x _ _ _ (E2.al A) rx h2 fun σ4 δ4 h4 E4 _ _ => ?_
    have e13 : Ex G1 G3 := e2.trans A.g
    refine hb c σ4 G3 H3 δ4 _ { E with nx := forW ug u E (ds.drop (i + 1)), ct := forW ug u E (ds.drop (i + 1)), bk := E.nx } E4 h4 ⟨?_, ?_, ?_, ?_, ?_, k.h0⟩
    · exact fun σ' G' H' δ' a b e => ⟨G', δ', b, e13.trans e, a⟩
    · exact fun d δ' v σ' G' H' a b e r => k.rt d δ' v σ' G' H' a b ((e1.trans e13).trans e) r
    · exact fun σ' G' H' δ' a b e => k.nx σ' G' H' δ' a b ((e1.trans e13).trans e)
    · exact fun σ' G' H' δ' a b e => ⟨G', δ', b, e13.trans e, a⟩
    · exact fun ds δ' p xs σ' G' H' a b n e r => k.rn ds δ' p xs σ' G' H' a b n ((e1.trans e13).trans e) r
  · have ei : i = ds.length := by omega
    subst ei
    rw [List.drop_length] at h2
    exact .inl ⟨Y.stop G2 H2 e2 E2.ex, k.nx σ2 G2 H2 δ2 h2 E2 (e1.trans e2)⟩
theorem rs_while (hc : RT K tc uc) (hb : RS K t u) : RS K (tWhile tc t) (dWhile uc u) := by
  intro c σ G H δ D E EV h k
  obtain ⟨n, h⟩ := h
  refine ⟨fun m σ H => ∃ G' δ, EnvOk K c G' H σ δ ∧ Ex G G' ∧ whW uc u E m δ, ⟨n, G, δ, EV, Ex.refl _, h⟩, ?_⟩
  rintro m σ1 H1 ⟨G1, δ1, E1, e1, h1⟩
  cases m with
  | zero => exact False.elim h1
  | succ m =>
    refine hc c σ1 G1 H1 δ1 _ _ E1 h1 fun b δ2 G2 H2 h2 E2 e2 => ?_
    cases b with
    | false =>
      exact k.nx σ1 G2 H2 δ2 h2 E2 (e1.trans e2)
    | true =>
      refine ⟨fun σ' H' => ∃ G' δ, EnvOk K c G' H' σ' δ ∧ Ex G G' ∧ whW uc u E m δ, fun σ' H' q => ⟨m, Nat.lt_succ_self m, q⟩, ?_⟩
      refine hb c σ1 G2 H2 δ2 _ { E with nx := whW uc u E m, ct := whW uc u E m, bk := E.nx } E2 h2 ⟨?_, ?_, ?_, ?_, ?_, k.h0⟩
      · exact fun σ' G' H' δ' a b e => ⟨G', δ', b, (e1.trans e2).trans e, a⟩
      · exact fun d δ' v σ' G' H' a b e r => k.rt d δ' v σ' G' H' a b ((e1.trans e2).trans e) r
      · exact fun σ' G' H' δ' a b e => k.nx σ' G' H' δ' a b ((e1.trans e2).trans e)
      · exact fun σ' G' H' δ' a b e => ⟨G', δ', b, (e1.trans e2).trans e, a⟩
      · exact fun ds δ' p xs σ' G' H' a b n e r => k.rn ds δ' p xs σ' G' H' a b n ((e1.trans e2).trans e) r
end

/-! ### comprehensions -/
def wipeS (δ : List Sl) : List Nat → List Sl
  | [] => δ
  | v :: vs => (wipeS δ vs).set v .no
def lcW (vs : List Nat) (g : DTG) (t : DTT) (u : DTE) (R : List PyData → List Sl → Prop) : List PyData → List PyData → List Sl → Prop
  | [], acc, δ => R acc δ
  | d :: r, acc, δ => g d (wipeS δ vs) fun δ1 => t δ1 fun b δ2 => if b = true then u δ2 fun y δ3 => acc.length < sizeLine ∧ lcW vs g t u R r (acc ++ [y]) (wipeS δ3 vs) else lcW vs g t u R r acc (wipeS δ2 vs)
def dLc (w : DTI) (g : DTG) (t : DTT) (u : DTE) (vs : List Nat) : DTE := fun δ R => w δ fun ds δ1 => lcW vs g t u (fun acc δ' => R (.list acc) δ') ds [] δ1
/-- .. given to a name that is to change -/
def dLcOwn (i : Nat) (w : DTI) (g : DTG) (t : DTT) (u : DTE) (vs : List Nat) : DTS := fun E δ => w δ fun ds δ1 => lcW vs g t u (fun acc δ' => E.nx (δ'.set i (.own none acc))) ds [] δ1
def dYes : DTT := fun δ R => R true δ
section
variable {K : PySem.W.Frag} {w : TI} {uw : DTI} {g : TG} {ug : DTG} {js : List Nat} {tt : TT} {ut : DTT} {te : TE} {ue : DTE}
theorem rt_yes : RT K tYes dYes := fun c σ G H δ Q R E h k => k true δ G H h E (Ex.refl _)
theorem wipe_get (σ : L2.St) (i : Nat) : ∀ vs : List Nat, (wipe σ vs)[i]? = if i ∈ vs ∧ i < σ.length then some none else σ[i]?
  | [] => by simp [wipe]
  | v :: vs => by
    have ih := wipe_get σ i vs
    show ((wipe σ vs).set v none)[i]? = _
    rw [List.getElem?_set, wipe_length]
    by_cases h : v = i
    · subst h
      by_cases hl : v < σ.length
      · simp [hl]
      · simp [hl]
    · rw [if_neg h, ih]
      have e : (i ∈ v :: vs) ↔ i ∈ vs := by
        rw [List.mem_cons]
        exact ⟨fun z => z.elim (fun z => absurd z.symm h) id, Or.inr⟩
      by_cases hm : i ∈ vs
      · by_cases hl : i < σ.length
        · simp [hm, hl]
        · simp [hm, hl]
      · simp [hm, Ne.symm h]
theorem wipe_eq {σ σ' : L2.St} {vs : List Nat} (hl : σ'.length = σ.length) (h : ∀ i, i ∉ vs → σ'[i]? = σ[i]?) : wipe σ' vs = wipe σ vs := by
  apply List.ext_getElem?
  intro i
  rw [wipe_get, wipe_get, hl]
  by_cases hm : i ∈ vs
  · by_cases hi : i < σ.length
    · simp [hm, hi]
    · rw [if_neg (fun z => hi z.2), if_neg (fun z => hi z.2), List.getElem?_eq_none (by omega), List.getElem?_eq_none (by omega)]
  · rw [if_neg (fun z => hm z.1), if_neg (fun z => hm z.1)]
    exact h i hm
theorem EnvOk.wipe {c : Cf} {G H : Hp} {σ : L2.St} {δ : List Sl} (E : EnvOk K c G H σ δ) : ∀ vs : List Nat, EnvOk K c G H (L2.wipe σ vs) (wipeS δ vs)
  | [] => E
  | v :: vs => (EnvOk.wipe E vs).drop
theorem wipeS_no {δ : List Sl} {i : Nat} {s : Sl} : ∀ (vs : List Nat), i ∈ vs → (wipeS δ vs)[i]? = some s → s = Sl.no
  | [], hi, _ => nomatch hi
  | v :: vs, hi, hs => by
    have hs : ((wipeS δ vs).set v Sl.no)[i]? = some s := hs
    rw [List.getElem?_set] at hs
    by_cases hv : v = i
    · rw [if_pos hv] at hs
      split at hs
      · exact (Option.some.inj hs).symm
      · cases hs
    · rw [if_neg hv] at hs
      rcases List.mem_cons.mp hi with z | z
      · exact absurd z.symm hv
      · exact wipeS_no vs z hs
/-- other values in slots that nothing is known of -/
theorem EnvOk.other {c : Cf} {G H : Hp} {σ σ' : L2.St} {δ : List Sl} {vs : List Nat} (E : EnvOk K c G H σ (wipeS δ vs)) (hl : σ'.length = σ.length) (h : ∀ i, i ∉ vs → σ'[i]? = σ[i]?) : EnvOk K c G H σ' (wipeS δ vs) := by
  have same : ∀ (i : Nat) (s : Sl), (wipeS δ vs)[i]? = some s → s ≠ Sl.no → σ'[i]? = σ[i]? := fun i s hs hn => h i fun z => hn (wipeS_no vs z hs)
  exact {
    xw := E.xw, g0 := E.g0, ex := E.ex, fr := E.fr, fs := E.fs, tg := E.tg
    len := by rw [hl]; exact E.len
    sl := fun i s hs => by
      cases s with
      | no => trivial
      | box b => trivial
      | dat d => rw [same i _ hs (by intro z; cases z)]; exact E.sl i _ hs
      | scr d => rw [same i _ hs (by intro z; cases z)]; exact E.sl i _ hs
      | own t d => rw [same i _ hs (by intro z; cases z)]; exact E.sl i _ hs
    ap := fun i j t1 d1 t2 d2 hij h1 h2 => by
      rw [same i _ h1 (by intro z; cases z), same j _ h2 (by intro z; cases z)]
      exact E.ap i j t1 d1 t2 d2 hij h1 h2
    hd := fun p xs hm => by
      obtain ⟨a1, a2, a3, a4, a5⟩ := E.hd p xs hm
      refine ⟨a1, a2, a3, a4, fun i t ds hs => ?_⟩
      rw [same i _ hs (by intro z; cases z)]
      exact a5 i t ds hs
    bx := E.bx.step (Ex.refl _) (fun i b hs => ⟨hs, same i _ hs (by intro z; cases z)⟩) fun a _ f => ⟨rfl, f.g, f.h0, f.tg, f.hd, fun i t ds hs => by
      rw [same i _ hs (by intro z; cases z)]
      exact f.ow i t ds hs⟩ }
end
end TL

set_option Elab.async false
set_option linter.all false
set_option maxRecDepth 100000
set_option maxHeartbeats 2000000
/-! TL5: comprehensions, calls, defs by data. -/
namespace TL
open PySem PySem.Spec L2
variable [XW]

section
variable {K : PySem.W.Frag} {w : TI} {uw : DTI} {g : TG} {ug : DTG} {js vs : List Nat} {tt : TT} {ut : DTT} {te : TE} {ue : DTE}
/-- the turns of a comprehension, from the list that is being made at D -/
theorem lc_turns (hg : RG K g ug js) (ht : RT K tt ut) (he : RE K te ue) (hj : ∀ j ∈ js, j ∈ vs) {c : Cf} {σ : L2.St} {G1 : Hp} {ds : List PyData} {J : It} {D : Addr} {Q : VK} {R : List PyData → List Sl → Prop} {H1 : Hp} {δ1 : List Sl}
    (E1 : EnvOk K { c with hid := (D, .lst []) :: c.hid } G1 H1 σ δ1) (hn : ∀ zs, (D, zs) ∉ c.hid) (Y : Yields K G1 J ds) (h : lcW vs ug ut ue R ds [] δ1)
    (k : ∀ acc δ' xs G' H', R acc δ' → EnvOk K { c with hid := (D, .lst xs) :: c.hid } G' H' σ δ' → Ex G1 G' → RpAll K G' xs acc → Q (.ref D) H') :
    ∃ W : Nat → Nat → Hp → Prop, (∃ m, W 0 m H1) ∧ ∀ i m H, W i m H →
      (J.stop i H ∧ Q (.ref D) H) ∨ (J.go i H ∧ ∃ Nx : Hp → Prop, (∀ H', Nx H' → ∃ m', m' < m ∧ W (i + 1) m' H') ∧ ∀ x H', J.yld i H x H' → g x (wipe σ vs) H' fun σ2 H2 => wipe σ2 vs = wipe σ vs ∧ tt σ2 H2 fun b H3 =>
        if b = true then te σ2 H3 fun y H4 => ∃ acc, H4 D = some (.lst acc) ∧ acc.length < sizeLine ∧ Nx (upd H4 D (.lst (acc ++ [y]))) else Nx H3) := by
  refine ⟨fun i m H => ∃ G δ acc xs, EnvOk K { c with hid := (D, .lst xs) :: c.hid } G H σ δ ∧ Ex G1 G ∧ RpAll K G xs acc ∧ i ≤ ds.length ∧ m = ds.length - i ∧ lcW vs ug ut ue R (ds.drop i) acc δ, ⟨ds.length, G1, δ1, [], [], E1, Ex.refl _, .nil, Nat.zero_le _, rfl, h⟩, ?_⟩
  rintro i m H ⟨G, δ, acc, xs, E, e, r, hi, rfl, h⟩
  by_cases hlt : i < ds.length
  · have hd : ds[i]? = some ds[i] := List.getElem?_eq_getElem hlt
    rw [List.drop_eq_getElem_cons hlt] at h
    obtain ⟨hgo, hy⟩ := Y.go G H i _ e E.ex hd
    refine .inr ⟨hgo, fun H' => ∃ G δ acc xs, EnvOk K { c with hid := (D, .lst xs) :: c.hid } G H' σ δ ∧ Ex G1 G ∧ RpAll K G xs acc ∧ lcW vs ug ut ue R (ds.drop (i + 1)) acc δ, fun H' ⟨G', δ', acc', xs', a1, a2, a3, a4⟩ => ⟨ds.length - (i + 1), by omega, G', δ', acc', xs', a1, a2, a3, hlt, rfl, a4⟩, fun x H2 hx => ?_⟩
    obtain ⟨G2, A, rx⟩ := hy x H2 hx
    have E2 := (E.al A).wipe vs
    refine hg _ (wipe σ vs) G2 H2 _ x _ _ _ E2 rx h fun σ3 δ3 h3 E3 l3 s3 => ?_
    rw [wipe_length] at l3
    have o3 : ∀ i, i ∉ vs → σ3[i]? = σ[i]? := fun i hi => by
      rw [s3 i fun z => hi (hj i z), wipe_get, if_neg fun z => hi z.1]
    refine ⟨wipe_eq l3 o3, ?_⟩
    have back : ∀ {cc : Cf} {G H : Hp} {δ : List Sl}, EnvOk K cc G H σ3 δ → EnvOk K cc G H σ (wipeS δ vs) := fun {cc G H δ} E => by
      have z := E.wipe vs
      rw [wipe_eq l3 o3] at z
      refine z.other (by rw [wipe_length]) fun i hi => ?_
      rw [wipe_get, if_neg fun z => hi z.1]
    refine ht _ σ3 G2 H2 δ3 _ _ E3 h3 fun b δ4 G4 H4 h4 E4 e4 => ?_
    have e14 : Ex G1 G4 := (e.trans A.g).trans e4
    cases b with
    | false => exact ⟨G4, wipeS δ4 vs, acc, xs, back E4, e14, r.up (A.g.trans e4), h4⟩
    | true =>
      refine he _ σ3 G4 H4 δ4 _ _ E4 h4 fun y δ5 v G5 H5 h5 E5 e5 r5 => ?_
      have r' : RpAll K G5 xs acc := r.up ((A.g.trans e4).trans e5)
      obtain ⟨q1, q2⟩ := E5.hd D (.lst xs) List.mem_cons_self
      refine ⟨xs, q1, by rw [r'.len]; exact h5.1, G5, wipeS δ5 vs, acc ++ [y], xs ++ [v], (back E5).grow hn, e14.trans e5, r'.app (.one r5), h5.2⟩
  · have ei : i = ds.length := by omega
    subst ei
    rw [List.drop_length] at h
    exact .inl ⟨Y.stop G H e E.ex, k acc δ xs G H h E e r⟩
theorem hid_new {c : Cf} {G H : Hp} {σ : L2.St} {δ : List Sl} (E : EnvOk K c G H σ δ) {D : Addr} (hD : H D = none) : ∀ zs, (D, zs) ∉ c.hid := fun zs z => by
  have q := (E.hd D zs z).1
  rw [hD] at q
  cases q
theorem Yields.up {G G' : Hp} {J : It} {ds : List PyData} (Y : Yields K G J ds) (e : Ex G G') : Yields K G' J ds := ⟨fun G1 H1 a b => Y.stop G1 H1 (e.trans a) b, fun G1 H1 i d a b h => Y.go G1 H1 i d (e.trans a) b h⟩
theorem re_lc (hw : RI K w uw) (hg : RG K g ug js) (ht : RT K tt ut) (he : RE K te ue) (hj : ∀ j ∈ js, j ∈ vs) : RE K (tLc w g tt te vs) (dLc uw ug ut ue vs) := by
  intro c σ G H δ Q R E h k
  refine hw c σ G H δ _ _ E h fun ds δ1 J G1 H1 h1 E1 e1 Y => ?_
  intro D hD
  have hn := hid_new E1 hD
  refine lc_turns hg ht he hj (E1.hide (ob := .lst []) hD (E1.new0 hD)) hn Y h1 fun acc δ' xs G' H' hR E' e' r' => ?_
  obtain ⟨G2, e2, rp, E2⟩ := E'.show hn r'
  exact k _ δ' _ G2 H' hR E2 ((e1.trans e').trans e2) rp
/-- what was made beside is given to a name -/
theorem EnvOk.give {c : Cf} {G H : Hp} {σ : L2.St} {δ : List Sl} {p : Addr} {xs : List V} {ds : List PyData} (E : EnvOk K { c with hid := (p, .lst xs) :: c.hid } G H σ δ) (hn : ∀ zs, (p, zs) ∉ c.hid) (r : RpAll K G xs ds) (i : Nat) :
    EnvOk K c G H (σ.set i (some (.ref p))) (δ.set i (.own none ds)) := by
  obtain ⟨a1, a2, a3, a4, a5⟩ := E.hd p (.lst xs) List.mem_cons_self
  exact {
    xw := E.xw, g0 := E.g0, ex := E.ex, fr := E.fr, fs := E.fs, tg := E.tg
    len := by rw [List.length_set, List.length_set, E.len]
    sl := fun j s h => by
      rw [List.getElem?_set] at h ⊢
      by_cases hj : i = j
      · rw [if_pos hj] at h ⊢
        by_cases hl : i < δ.length
        · rw [if_pos hl] at h
          rw [if_pos (by rw [E.len]; exact hl)]
          cases h
          exact ⟨p, xs, rfl, a2, a1, r, a3, a4⟩
        · rw [if_neg hl] at h
          cases h
      · rw [if_neg hj] at h ⊢
        have z := E.sl j s h
        cases s with
        | no => trivial
        | box b => trivial
        | dat d => exact z
        | scr d => exact z
        | own t d => exact z
    ap := fun a b t1 d1 t2 d2 hab h1 h2 => by
      rw [List.getElem?_set] at h1 h2
      by_cases ha : i = a
      · have hb : ¬ i = b := fun z => hab (ha.symm.trans z)
        rw [if_neg hb] at h2
        rw [List.getElem?_set, if_pos ha, List.getElem?_set_ne hb]
        split
        · exact fun z => a5 b t2 d2 h2 z.symm
        · rw [if_pos ha] at h1
          split at h1
          · rename_i u w
            rw [E.len] at u
            exact absurd w u
          · cases h1
      · rw [if_neg ha] at h1
        rw [List.getElem?_set_ne ha]
        by_cases hb : i = b
        · rw [List.getElem?_set, if_pos hb]
          split
          · exact a5 a t1 d1 h1
          · rw [if_pos hb] at h2
            split at h2
            · rename_i u w
              rw [E.len] at u
              exact absurd w u
            · cases h2
        · rw [if_neg hb] at h2
          rw [List.getElem?_set_ne hb]
          exact E.ap a b t1 d1 t2 d2 hab h1 h2
    hd := fun q ys h => by
      obtain ⟨h1, h2, h3, h4, h5⟩ := E.hd q ys (List.mem_cons_of_mem _ h)
      have ne : q ≠ p := fun z => hn ys (by rw [← z]; exact h)
      refine ⟨h1, h2, h3, h4, fun j t es hs => ?_⟩
      rw [List.getElem?_set] at hs ⊢
      by_cases hj : i = j
      · rw [if_pos hj]
        split
        · exact fun z => ne (V.ref.inj (Option.some.inj (Option.some.inj z))).symm
        · exact fun z => nomatch z
      · rw [if_neg hj] at hs ⊢
        exact h5 j t es hs
    bx := E.bx.step (Ex.refl _) (fun j b h => by
      obtain ⟨hj, h⟩ := set_box (by intro b z; cases z) h
      exact ⟨h, List.getElem?_set_ne hj⟩) fun a _ f => by
      have ne : a ≠ p := fun z => f.hd _ (by rw [z]; exact List.mem_cons_self)
      refine ⟨rfl, f.g, f.h0, f.tg, fun o h => f.hd o (List.mem_cons_of_mem _ h), fun j t es hs => ?_⟩
      rw [List.getElem?_set] at hs ⊢
      by_cases hj : i = j
      · rw [if_pos hj]
        split
        · exact fun z => ne (V.ref.inj (Option.some.inj (Option.some.inj z))).symm
        · exact fun z => nomatch z
      · rw [if_neg hj] at hs ⊢
        exact f.ow j t es hs }
theorem rs_lcOwn {i : Nat} (hw : RI K w uw) (hg : RG K g ug js) (ht : RT K tt ut) (he : RE K te ue) (hj : ∀ j ∈ js, j ∈ vs) : RS K (tAsg (tLc w g tt te vs) (gName i)) (dLcOwn i uw ug ut ue vs) := by
  intro c σ G H δ D' E EV h k
  refine hw c σ G H δ _ _ EV h fun ds δ1 J G1 H1 h1 E1 e1 Y => ?_
  intro D hD
  have hn := hid_new E1 hD
  refine lc_turns (Q := fun x H1 => gName i x σ H1 D'.nx) hg ht he hj (E1.hide (ob := .lst []) hD (E1.new0 hD)) hn Y h1 fun acc δ' xs G' H' hR E' e' r' => ?_
  exact k.nx _ G' H' _ hR (E'.give hn r' i) (e1.trans e')
end
end TL

set_option Elab.async false
set_option linter.all false
set_option maxRecDepth 100000
set_option maxHeartbeats 2000000
/-! TL6: calls and defs by data. -/
namespace TL
open PySem PySem.Spec L2
variable [XW]

/-- an argument: a datum, or a slot handed on (a list that the callee may change, or what was handed in) -/
inductive CA where
  | d (d : PyData)
  | s (i : Nat)
inductive CAs (K : PySem.W.Frag) (G : Hp) (σ : L2.St) : List V → List CA → Prop
  | nil : CAs K G σ [] []
  | d {v : V} {d : PyData} {vs : List V} {cs : List CA} : Rp K G v d → CAs K G σ vs cs → CAs K G σ (v :: vs) (.d d :: cs)
  | s {v : V} {i : Nat} {vs : List V} {cs : List CA} : σ[i]? = some (some v) → CAs K G σ vs cs → CAs K G σ (v :: vs) (.s i :: cs)
theorem CAs.up {K : PySem.W.Frag} {G G' : Hp} {σ : L2.St} (e : Ex G G') : ∀ {vs : List V} {cs : List CA}, CAs K G σ vs cs → CAs K G' σ vs cs
  | _, _, .nil => .nil
  | _, _, .d r t => .d (r.up e) (CAs.up e t)
  | _, _, .s r t => .s r (CAs.up e t)
theorem CAs.len {K : PySem.W.Frag} {G : Hp} {σ : L2.St} : ∀ {vs : List V} {cs : List CA}, CAs K G σ vs cs → vs.length = cs.length
  | _, _, .nil => rfl
  | _, _, .d r t => by rw [List.length_cons, List.length_cons, CAs.len t]
  | _, _, .s r t => by rw [List.length_cons, List.length_cons, CAs.len t]
abbrev DCA := List Sl → (List CA → List Sl → Prop) → Prop
def RCA (K : PySem.W.Frag) (t : TA) (u : DCA) : Prop := ∀ (c : Cf) (σ : L2.St) (G H : Hp) (δ : List Sl) (Q : List V → Hp → Prop) (R : List CA → List Sl → Prop), EnvOk K c G H σ δ → u δ R →
  (∀ cs δ' vs G' H', R cs δ' → EnvOk K c G' H' σ δ' → Ex G G' → CAs K G' σ vs cs → Q vs H') → t σ H Q
structure DCa (X : Cx) (es : List Expr) (t : TA) (u : DCA) : Prop where
  pa : PA X es t
  ra : RCA X.K t u
def cNil : DCA := fun δ R => R [] δ
def cD (u : DTE) (ur : DCA) : DCA := fun δ R => u δ fun d δ1 => ur δ1 fun cs δ2 => R (.d d :: cs) δ2
def isS : Option Sl → Bool
  | some (.own _ _) => true
  | some (.scr _) => true
  | _ => false
def cS (i : Nat) (ur : DCA) : DCA := fun δ R => isS δ[i]? = true ∧ ur δ fun cs δ2 => R (.s i :: cs) δ2
section
variable {K : PySem.W.Frag} {te : TE} {ue : DTE} {tr : TA} {ur : DCA}
theorem rca_nil : RCA K tNil cNil := fun c σ G H δ Q R E h k => k [] δ [] G H h E (Ex.refl _) .nil
theorem rca_d (ha : RE K te ue) (hr : RCA K tr ur) : RCA K (tCons te tr) (cD ue ur) := by
  intro c σ G H δ Q R E h k
  refine ha c σ G H δ _ _ E h fun d δ1 v1 G1 H1 h1 E1 e1 r1 => ?_
  exact hr c σ G1 H1 δ1 _ _ E1 h1 fun ds δ2 vs G2 H2 h2 E2 e2 r2 => k _ δ2 _ G2 H2 h2 E2 (e1.trans e2) (.d (r1.up e2) r2)
theorem rca_s {i : Nat} (hr : RCA K tr ur) : RCA K (tCons (tVar i) tr) (cS i ur) := by
  intro c σ G H δ Q R E h k
  obtain ⟨h0, h⟩ := h
  have val : ∃ v, σ[i]? = some (some v) := by
    cases hs : δ[i]? with
    | none =>
      rw [hs] at h0
      cases h0
    | some s =>
      rw [hs] at h0
      have z := E.sl i s hs
      cases s with
      | no => cases h0
      | box b => cases h0
      | dat d => cases h0
      | scr ds =>
        obtain ⟨a, xs, e, _⟩ := z
        exact ⟨_, e⟩
      | own t ds =>
        obtain ⟨a, xs, e, _⟩ := z
        exact ⟨_, e⟩
  obtain ⟨v, hv⟩ := val
  refine ⟨v, hv, ?_⟩
  exact hr c σ G H δ _ _ E h fun ds δ2 vs G2 H2 h2 E2 e2 r2 => k _ δ2 _ G2 H2 h2 E2 e2 (.s hv r2)
end
/-- the slots that the callee gets -/
def asOf (δ : List Sl) : List CA → Nat → List Sl
  | [], _ => []
  | .d d :: r, j => .dat d :: asOf δ r j
  | .s i :: r, j => match δ[i]? with
    | some (.own _ ds) => .own (some j) ds :: asOf δ r (j + 1)
    | some (.scr ds) => .scr ds :: asOf δ r j
    | _ => .no :: asOf δ r j
/-- the slots whose lists it may change -/
def muts (δ : List Sl) : List CA → List Nat
  | [] => []
  | .d _ :: r => muts δ r
  | .s i :: r => match δ[i]? with
    | some (.own _ _) => i :: muts δ r
    | _ => muts δ r
def setOut (δ : List Sl) (i : Nat) (o : List PyData) : List Sl := match δ[i]? with
  | some (.own t _) => δ.set i (.own t o)
  | _ => δ
def setOuts : List Sl → List Nat → List (List PyData) → List Sl
  | δ, i :: M, o :: os => setOuts (setOut δ i o) M os
  | δ, _, _ => δ
def addr (σ : L2.St) (i : Nat) : Addr := match σ[i]? with
  | some (some (.ref p)) => p
  | _ => 0
abbrev DSp := List Sl → (PyData → List (List PyData) → Prop) → Prop
/-- what is left behind a def -/
structure Fin (K : PySem.W.Frag) (c : Cf) (G H : Hp) (outs : List (List PyData)) : Prop where
  g0 : Ex c.G0 G
  ex : Ex G H
  fr : ∀ a o, c.H0 a = some o → (∀ j, j < c.n → a ≠ c.τ j) → H a = some o
  fs : ∀ a, c.G0 a = none → c.H0 a ≠ none → G a = none
  tg : ∀ j, j < c.n → H (c.τ j) ≠ none ∧ G (c.τ j) = none
  out : ∀ j cs, outs[j]? = some cs → ∃ xs, H (c.τ j) = some (.lst xs) ∧ RpAll K G xs cs
def spD (K : PySem.W.Frag) (S : DSp) : Sp := fun vs H Q _ => ∃ (c : Cf) (as : List Sl) (R : PyData → List (List PyData) → Prop), c.hid = [] ∧ c.H0 = H ∧ EnvC K c c.G0 H (vs.map some) as ∧ S as R ∧
  ∀ d outs v G' H', R d outs → Fin K c G' H' outs → Rp K G' v d → Q v H'
/-- .. and a new list comes back, the asker's own -/
abbrev DSn := List Sl → (List PyData → List (List PyData) → Prop) → Prop
def spN (K : PySem.W.Frag) (S : DSn) : Sp := fun vs H Q _ => ∃ (c : Cf) (as : List Sl) (R : List PyData → List (List PyData) → Prop), c.hid = [] ∧ c.H0 = H ∧ EnvC K c c.G0 H (vs.map some) as ∧ S as R ∧
  ∀ ds outs p xs G' H', R ds outs → Fin K c G' H' outs → H p = none → G' p = none → H' p = some (.lst xs) → RpAll K G' xs ds → Q (.ref p) H'
/-- name = f(..), a new list, to change -/
def dCallOwn (i : Nat) (S : DSn) (ua : DCA) (E : List Sl → Prop) (δ : List Sl) : Prop := ua δ fun cs δ1 => (muts δ1 cs).Nodup ∧ S (asOf δ1 cs 0) fun ds outs => outs.length = (muts δ1 cs).length ∧ E ((setOuts δ1 (muts δ1 cs) outs).set i (.own none ds))
def dCall (S : DSp) (ua : DCA) : DTE := fun δ R => ua δ fun cs δ1 => (muts δ1 cs).Nodup ∧ S (asOf δ1 cs 0) fun d outs => outs.length = (muts δ1 cs).length ∧ R d (setOuts δ1 (muts δ1 cs) outs)

/-! ### the slots handed on -/
theorem muts_own {δ : List Sl} : ∀ {cs : List CA} {i : Nat}, i ∈ muts δ cs → ∃ t ds, δ[i]? = some (.own t ds)
  | [], i, h => nomatch h
  | .d _ :: r, i, h => muts_own (cs := r) h
  | .s k :: r, i, h => by
    cases hs : δ[k]? with
    | none =>
      have h : i ∈ (match δ[k]? with
        | some (.own _ _) => k :: muts δ r
        | _ => muts δ r) := h
      rw [hs] at h
      exact muts_own (cs := r) h
    | some s =>
      have h : i ∈ (match δ[k]? with
        | some (.own _ _) => k :: muts δ r
        | _ => muts δ r) := h
      rw [hs] at h
      cases s with
      | own t ds =>
        rcases List.mem_cons.mp h with e | h
        · rw [e]
          exact ⟨t, ds, hs⟩
        · exact muts_own (cs := r) h
      | no => exact muts_own (cs := r) h
      | box b => exact muts_own (cs := r) h
      | dat d => exact muts_own (cs := r) h
      | scr d => exact muts_own (cs := r) h
theorem asOf_own {δ : List Sl} : ∀ {cs : List CA} {j0 i : Nat} {t : Option Nat} {ds : List PyData}, (asOf δ cs j0)[i]? = some (.own t ds) → ∃ k i' t', t = some (j0 + k) ∧ (muts δ cs)[k]? = some i' ∧ δ[i']? = some (.own t' ds) ∧ cs[i]? = some (.s i')
  | [], j0, i, t, ds, h => by
    have h : ([] : List Sl)[i]? = some (.own t ds) := h
    simp at h
  | .d x :: r, j0, i, t, ds, h => by
    cases i with
    | zero =>
      have h : some (Sl.dat x) = some (.own t ds) := h
      cases h
    | succ i =>
      have h : (asOf δ r j0)[i]? = some (.own t ds) := h
      exact asOf_own (cs := r) (i := i) (j0 := j0) h
  | .s k :: r, j0, i, t, ds, h => by
    have hm : muts δ (.s k :: r) = (match δ[k]? with
        | some (.own _ _) => k :: muts δ r
        | _ => muts δ r) := rfl
    have ha : asOf δ (.s k :: r) j0 = (match δ[k]? with
        | some (.own _ ds) => .own (some j0) ds :: asOf δ r (j0 + 1)
        | some (.scr ds) => .scr ds :: asOf δ r j0
        | _ => .no :: asOf δ r j0) := rfl
    rw [ha] at h
    rw [hm]
    have rest : ∀ i, (asOf δ r j0)[i]? = some (.own t ds) → ∃ k' i' t', t = some (j0 + k') ∧ (muts δ r)[k']? = some i' ∧ δ[i']? = some (.own t' ds) ∧ (CA.s k :: r)[i + 1]? = some (.s i') := fun i h => asOf_own (cs := r) (i := i) (j0 := j0) h
    cases hs : δ[k]? with
    | none =>
      rw [hs] at h
      cases i with
      | zero => cases (show some Sl.no = some (.own t ds) from h)
      | succ i => exact rest i h
    | some s =>
      rw [hs] at h
      cases s with
      | no =>
        cases i with
        | zero => cases (show some Sl.no = some (.own t ds) from h)
        | succ i => exact rest i h
      | box b =>
        cases i with
        | zero => cases (show some Sl.no = some (.own t ds) from h)
        | succ i => exact rest i h
      | dat d =>
        cases i with
        | zero => cases (show some Sl.no = some (.own t ds) from h)
        | succ i => exact rest i h
      | scr d =>
        cases i with
        | zero => cases (show some (Sl.scr d) = some (.own t ds) from h)
        | succ i => exact rest i h
      | own t0 d =>
        cases i with
        | zero =>
          cases (show some (Sl.own (some j0) d) = some (.own t ds) from h)
          exact ⟨0, k, t0, rfl, rfl, hs, rfl⟩
        | succ i =>
          have h : (asOf δ r (j0 + 1))[i]? = some (.own t ds) := h
          obtain ⟨k', i', t', e, a, b, cc⟩ := asOf_own (cs := r) (i := i) (j0 := j0 + 1) h
          exact ⟨k' + 1, i', t', by rw [e]; congr 1; omega, a, b, cc⟩
theorem asOf_tag {δ : List Sl} {cs : List CA} {i i' j : Nat} {ds ds' : List PyData} (hn : (muts δ cs).Nodup) : ∀ {cs' : List CA} {j0 : Nat}, (asOf δ cs' j0)[i]? = some (.own (some j) ds) → (asOf δ cs' j0)[i']? = some (.own (some j) ds') → i = i' := by
  intro cs'
  induction cs' generalizing i i' with
  | nil =>
    intro j0 h
    simp [asOf] at h
  | cons a r ih =>
    intro j0 h h'
    have ge : ∀ {q : Nat} {es : List PyData} {j1 : Nat}, (asOf δ r j1)[q]? = some (.own (some j) es) → j1 ≤ j := fun {q es j1} h => by
      obtain ⟨k, _, _, e, _⟩ := asOf_own (cs := r) h
      have := Option.some.inj e
      omega
    cases a with
    | d x =>
      cases i with
      | zero => cases (show some (Sl.dat x) = some (.own (some j) ds) from h)
      | succ i =>
        cases i' with
        | zero => cases (show some (Sl.dat x) = some (.own (some j) ds') from h')
        | succ i' => rw [ih (i := i) (i' := i') (j0 := j0) h h']
    | s k =>
      have ha : asOf δ (.s k :: r) j0 = (match δ[k]? with
        | some (.own _ ds) => .own (some j0) ds :: asOf δ r (j0 + 1)
        | some (.scr ds) => .scr ds :: asOf δ r j0
        | _ => .no :: asOf δ r j0) := rfl
      rw [ha] at h h'
      cases hs : δ[k]? with
      | none =>
        rw [hs] at h h'
        cases i with
        | zero => cases (show some Sl.no = some (.own (some j) ds) from h)
        | succ i =>
          cases i' with
          | zero => cases (show some Sl.no = some (.own (some j) ds') from h')
          | succ i' => rw [ih (i := i) (i' := i') (j0 := j0) h h']
      | some s =>
        rw [hs] at h h'
        cases s with
        | no =>
          cases i with
          | zero => cases (show some Sl.no = some (.own (some j) ds) from h)
          | succ i =>
            cases i' with
            | zero => cases (show some Sl.no = some (.own (some j) ds') from h')
            | succ i' => rw [ih (i := i) (i' := i') (j0 := j0) h h']
        | box b =>
          cases i with
          | zero => cases (show some Sl.no = some (.own (some j) ds) from h)
          | succ i =>
            cases i' with
            | zero => cases (show some Sl.no = some (.own (some j) ds') from h')
            | succ i' => rw [ih (i := i) (i' := i') (j0 := j0) h h']
        | dat d =>
          cases i with
          | zero => cases (show some Sl.no = some (.own (some j) ds) from h)
          | succ i =>
            cases i' with
            | zero => cases (show some Sl.no = some (.own (some j) ds') from h')
            | succ i' => rw [ih (i := i) (i' := i') (j0 := j0) h h']
        | scr d =>
          cases i with
          | zero => cases (show some (Sl.scr d) = some (.own (some j) ds) from h)
          | succ i =>
            cases i' with
            | zero => cases (show some (Sl.scr d) = some (.own (some j) ds') from h')
            | succ i' => rw [ih (i := i) (i' := i') (j0 := j0) h h']
        | own t0 d =>
          cases i with
          | zero =>
            cases (show some (Sl.own (some j0) d) = some (.own (some j) ds) from h)
            cases i' with
            | zero => rfl
            | succ i' =>
              have h' : (asOf δ r (j + 1))[i']? = some (.own (some j) ds') := h'
              have := ge h'
              omega
          | succ i =>
            have h : (asOf δ r (j0 + 1))[i]? = some (.own (some j) ds) := h
            cases i' with
            | zero =>
              cases (show some (Sl.own (some j0) d) = some (.own (some j) ds') from h')
              have := ge h
              omega
            | succ i' => rw [ih (i := i) (i' := i') (j0 := j0 + 1) h h']
theorem asOf_len {δ : List Sl} : ∀ (cs : List CA) (j0 : Nat), (asOf δ cs j0).length = cs.length
  | [], _ => rfl
  | .d x :: r, j0 => by
    show (asOf δ r j0).length + 1 = r.length + 1
    rw [asOf_len r]
  | .s k :: r, j0 => by
    show (match δ[k]? with
        | some (.own _ ds) => Sl.own (some j0) ds :: asOf δ r (j0 + 1)
        | some (.scr ds) => .scr ds :: asOf δ r j0
        | _ => .no :: asOf δ r j0).length = r.length + 1
    split <;> rw [List.length_cons, asOf_len r]
theorem asOf_dat {δ : List Sl} : ∀ {cs : List CA} {j0 i : Nat} {x : PyData}, (asOf δ cs j0)[i]? = some (.dat x) → cs[i]? = some (.d x)
  | [], _, i, _, h => by
    have h : ([] : List Sl)[i]? = some _ := h
    simp at h
  | .d y :: r, j0, i, x, h => by
    cases i with
    | zero =>
      cases (show some (Sl.dat y) = some (.dat x) from h)
      rfl
    | succ i => exact asOf_dat (cs := r) (j0 := j0) h
  | .s k :: r, j0, i, x, h => by
    have h : (match δ[k]? with
        | some (.own _ ds) => Sl.own (some j0) ds :: asOf δ r (j0 + 1)
        | some (.scr ds) => .scr ds :: asOf δ r j0
        | _ => .no :: asOf δ r j0)[i]? = some (.dat x) := h
    split at h
    · cases i with
      | zero => simp at h
      | succ i => exact asOf_dat (cs := r) (j0 := j0 + 1) h
    · cases i with
      | zero => simp at h
      | succ i => exact asOf_dat (cs := r) (j0 := j0) h
    · cases i with
      | zero => simp at h
      | succ i => exact asOf_dat (cs := r) (j0 := j0) h
theorem asOf_scr {δ : List Sl} : ∀ {cs : List CA} {j0 i : Nat} {x : List PyData}, (asOf δ cs j0)[i]? = some (.scr x) → ∃ k, cs[i]? = some (.s k) ∧ δ[k]? = some (.scr x)
  | [], _, i, _, h => by
    have h : ([] : List Sl)[i]? = some _ := h
    simp at h
  | .d y :: r, j0, i, x, h => by
    cases i with
    | zero => cases (show some (Sl.dat y) = some (.scr x) from h)
    | succ i => exact asOf_scr (cs := r) (j0 := j0) h
  | .s k :: r, j0, i, x, h => by
    have h : (match δ[k]? with
        | some (.own _ ds) => Sl.own (some j0) ds :: asOf δ r (j0 + 1)
        | some (.scr ds) => .scr ds :: asOf δ r j0
        | _ => .no :: asOf δ r j0)[i]? = some (.scr x) := h
    split at h
    · cases i with
      | zero => simp at h
      | succ i => exact asOf_scr (cs := r) (j0 := j0 + 1) h
    · rename_i ds hk
      cases i with
      | zero =>
        cases (show some (Sl.scr ds) = some (.scr x) from h)
        exact ⟨k, rfl, hk⟩
      | succ i => exact asOf_scr (cs := r) (j0 := j0) h
    · cases i with
      | zero => simp at h
      | succ i => exact asOf_scr (cs := r) (j0 := j0) h
theorem CAs.get_s {K : PySem.W.Frag} {G : Hp} {σ : L2.St} : ∀ {vs : List V} {cs : List CA} {i k : Nat}, CAs K G σ vs cs → cs[i]? = some (.s k) → ∃ v, vs[i]? = some v ∧ σ[k]? = some (some v)
  | _, _, _, _, .nil, h => by simp at h
  | _, _, 0, k, .d _ _, h => by simp at h
  | _, _, 0, k, .s q _, h => by
    simp at h
    subst h
    exact ⟨_, rfl, q⟩
  | _, _, i + 1, k, .d _ t, h => by
    obtain ⟨v, a, b⟩ := CAs.get_s (i := i) (k := k) t (by simpa using h)
    exact ⟨v, by simpa using a, b⟩
  | _, _, i + 1, k, .s _ t, h => by
    obtain ⟨v, a, b⟩ := CAs.get_s (i := i) (k := k) t (by simpa using h)
    exact ⟨v, by simpa using a, b⟩
theorem CAs.get_d {K : PySem.W.Frag} {G : Hp} {σ : L2.St} : ∀ {vs : List V} {cs : List CA} {i : Nat} {x : PyData}, CAs K G σ vs cs → cs[i]? = some (.d x) → ∃ v, vs[i]? = some v ∧ Rp K G v x
  | _, _, _, _, .nil, h => by simp at h
  | _, _, 0, x, .d q _, h => by
    simp at h
    subst h
    exact ⟨_, rfl, q⟩
  | _, _, 0, x, .s _ _, h => by simp at h
  | _, _, i + 1, x, .d _ t, h => by
    obtain ⟨v, a, b⟩ := CAs.get_d (i := i) (x := x) t (by simpa using h)
    exact ⟨v, by simpa using a, b⟩
  | _, _, i + 1, x, .s _ t, h => by
    obtain ⟨v, a, b⟩ := CAs.get_d (i := i) (x := x) t (by simpa using h)
    exact ⟨v, by simpa using a, b⟩
theorem setOut_len {δ : List Sl} {i : Nat} {o : List PyData} : (setOut δ i o).length = δ.length := by
  unfold setOut
  split
  · rw [List.length_set]
  · rfl
theorem setOut_get {δ : List Sl} {i k : Nat} {o : List PyData} {t : Option Nat} {ds : List PyData} (hi : δ[i]? = some (.own t ds)) : (setOut δ i o)[k]? = if i = k then some (.own t o) else δ[k]? := by
  unfold setOut
  rw [hi]
  show (δ.set i (.own t o))[k]? = _
  rw [List.getElem?_set]
  by_cases h : i = k
  · rw [if_pos h, if_pos h, if_pos (List.getElem?_eq_some_iff.mp hi).1]
  · rw [if_neg h, if_neg h]
theorem setOuts_get : ∀ {M : List Nat} {δ : List Sl} {outs : List (List PyData)} {k : Nat}, M.Nodup → outs.length = M.length → (∀ i ∈ M, ∃ t ds, δ[i]? = some (.own t ds)) →
    (setOuts δ M outs).length = δ.length ∧ (k ∉ M → (setOuts δ M outs)[k]? = δ[k]?) ∧ (∀ (j : Nat) (t : Option Nat) (ds : List PyData), M[j]? = some k → δ[k]? = some (.own t ds) → ∃ o, outs[j]? = some o ∧ (setOuts δ M outs)[k]? = some (.own t o))
  | [], δ, outs, k, _, _, _ => ⟨rfl, fun _ => rfl, fun j t ds h => by simp at h⟩
  | i :: M, δ, [], k, _, hl, _ => by simp at hl
  | i :: M, δ, o :: os, k, hn, hl, ho => by
    obtain ⟨hi, hn'⟩ := List.nodup_cons.mp hn
    obtain ⟨t0, ds0, h0⟩ := ho i List.mem_cons_self
    have ho' : ∀ q ∈ M, ∃ t ds, (setOut δ i o)[q]? = some (.own t ds) := fun q hq => by
      obtain ⟨t, ds, h⟩ := ho q (List.mem_cons_of_mem _ hq)
      rw [setOut_get h0, if_neg (fun z => hi (by rw [z]; exact hq))]
      exact ⟨t, ds, h⟩
    obtain ⟨a, b, cc⟩ := setOuts_get (M := M) (δ := setOut δ i o) (outs := os) (k := k) hn' (by simpa using hl) ho'
    show (setOuts (setOut δ i o) M os).length = δ.length ∧ _ ∧ _
    refine ⟨by rw [a, setOut_len], fun hk => ?_, fun j t ds hj hd => ?_⟩
    · show (setOuts (setOut δ i o) M os)[k]? = δ[k]?
      rw [b fun z => hk (List.mem_cons_of_mem _ z), setOut_get h0, if_neg fun z => hk (by rw [z]; exact List.mem_cons_self)]
    · show ∃ o', (o :: os)[j]? = some o' ∧ (setOuts (setOut δ i o) M os)[k]? = some (.own t o')
      cases j with
      | zero =>
        have e : i = k := by simpa using hj
        subst e
        rw [h0] at hd
        cases hd
        refine ⟨o, rfl, ?_⟩
        rw [b hi, setOut_get h0, if_pos rfl]
      | succ j =>
        have hj' : M[j]? = some k := by simpa using hj
        have ne : ¬ i = k := fun z => hi (by rw [z]; exact List.mem_of_getElem? hj')
        obtain ⟨o', q1, q2⟩ := cc j t ds hj' (by rw [setOut_get h0, if_neg ne]; exact hd)
        exact ⟨o', by simpa using q1, q2⟩
end TL

set_option Elab.async false
set_option linter.all false
set_option maxRecDepth 100000
set_option maxHeartbeats 2000000
/-! TLg: defs that run where nothing is being shown by repr (so that repr tells one text for one datum). -/
namespace TL
open PySem PySem.Spec PyProof.Rows L2

/-- room, and no repr under way -/
structure RoomG (k : Nat) (A : Around) : Prop where
  room : Room k A
  gd : A.guards = some []
theorem RoomG.mono {j k : Nat} {A : Around} (r : RoomG k A) (h : j ≤ k) : RoomG j A := ⟨r.room.mono h, r.gd⟩
theorem RoomG.deeper {k : Nat} {A : Around} (r : RoomG (k + 1) A) (env : Env) : RoomG k (A.deeper env) := ⟨r.room.deeper env, r.gd⟩
theorem RoomG.un {k : Nat} {A : Around} (r : RoomG k A) : A.units + 16 * k + 200 < cLine := r.room.un
theorem RoomG.units {k : Nat} {A : Around} (r : RoomG k A) : A.units + 64 < cLine := by
  have := r.un
  omega
theorem RoomG.units1 {k : Nat} {A : Around} (r : RoomG k A) : A.units + 65 < cLine := by
  have := r.un
  omega
structure FnOkG (P : Program) (w : World) (K : PySem.W.Frag) (mg : Str → Option Value) (base : Heap) (CX : CXT) (k : Nat) (f : Addr) (fd : FuncData) (ps : List Str) (sp : Sp) : Prop where
  len : ∀ vs H Q E, sp vs H Q E → vs.length = ps.length
  run : ∀ (B : Around) (out : List Env) (t : Shared) (H : Hp) (as : Args) (us : List Value) (vs : List V) (Q : VK) (E : XK), RoomG k B → Env0 P w K mg base B out t H → BindsTo t fd as (ps.zip us) → Vals vs us → sp vs H Q E →
    codeAny (model P w) B (.call (.ref f) as) (CR CX out P w H t Q E) t
section
variable {P : Program} {w : World} {K : PySem.W.Frag} {mg : Str → Option Value} {base : Heap} {CX : CXT} {j k : Nat} {f : Addr} {fd : FuncData} {ps : List Str} {sp sp' : Sp}
theorem FnOkG.mono (F : FnOkG P w K mg base CX j f fd ps sp) (h : j ≤ k) : FnOkG P w K mg base CX k f fd ps sp := ⟨F.len, fun B o t H as us vs Q E r => F.run B o t H as us vs Q E (r.mono h)⟩
theorem FnOkG.imp (F : FnOkG P w K mg base CX k f fd ps sp) (h : ∀ vs H Q E, sp' vs H Q E → sp vs H Q E) : FnOkG P w K mg base CX k f fd ps sp' :=
  ⟨fun vs H Q E q => F.len vs H Q E (h _ _ _ _ q), fun B o t H as us vs Q E r e b v q => F.run B o t H as us vs Q E r e b v (h _ _ _ _ q)⟩
end
section
variable {X : Cx} {CX : CXT} {k : Nat} {f : Addr} {fd : FuncData} {ps ks : List Str} {sp : Sp} {dvs : List V} {ds : List Value} {E : XK} {x : Str} {p pos : Pos} {e : Expr} {es : List Expr} {kws : List Keyword} {t tk : TA}
/-- the callee runs -/
theorem run_fnG {pins : List (Addr × Obj)} {σ : L2.St} {H : Hp} {z : Shared} {Q : VK} {us : List Value} {vs : List V} (F : FnOkG X.prog X.w X.K X.mg X.base CX k f fd ps sp) (hr : RoomG k X.A) (hb : Binds X.K fd ps ds) (hd : Vals dvs ds) (hx : Passes CX X E)
    (I : Inv X pins σ H z) (r : Vals vs us) (h : sp (vs ++ dvs) H Q E) : wpAny (model X.prog X.w) X.A (call (.ref f) us) (EP X pins σ Q) X.xe z := by
  have rr := r.append hd
  have len := rr.length.symm.trans (F.len _ _ _ _ h)
  refine wpAny_call (codeAny_mono (F.run X.A X.stack z H _ _ _ Q E hr I.env0 (hb z us I.kIn len) rr h) ?_)
  rintro (er | fl) z' hq
  · exact hx pins σ H z er z' I hq
  · cases fl <;> first
      | exact I.after hq
      | exact False.elim hq
theorem run_fnkG {g : List Value → List Value → List Value} {gV : List V → List V → List V} {pins : List (Addr × Obj)} {σ : L2.St} {H : Hp} {z : Shared} {Q : VK} {us ws : List Value} {vs zs : List V} (F : FnOkG X.prog X.w X.K X.mg X.base CX k f fd ps sp) (hr : RoomG k X.A)
    (hb : KBinds X.K fd ps ks g gV) (hx : Passes CX X E) (I : Inv X pins σ H z) (r : Vals vs us) (rz : Vals zs ws) (h : sp (gV vs zs) H Q E) : wpAny (model X.prog X.w) X.A (call (.ref f) us (ks.zip ws)) (EP X pins σ Q) X.xe z := by
  have rr := hb.rel r rz
  have len := rr.length.symm.trans (F.len _ _ _ _ h)
  refine wpAny_call (codeAny_mono (F.run X.A X.stack z H _ _ _ Q E hr I.env0 (hb.to z us ws I.kIn len) rr h) ?_)
  rintro (er | fl) z' hq
  · exact hx pins σ H z er z' I hq
  · cases fl <;> first
      | exact I.after hq
      | exact False.elim hq
theorem pe_callG (F : FnOkG X.prog X.w X.K X.mg X.base CX k f fd ps sp) (hr : RoomG k X.A) (hg : Gl X x) (hm : X.mg x = some (.ref f)) (hk : PySem.W.keepIn X.K (.ref f) = true) (hb : Binds X.K fd ps ds) (hd : Vals dvs ds) (hx : Passes CX X E) (ha : PA X (e :: es) t)
    (hdb : (x == ("__debug__" : Str)) = false := by decide) (he : starEach (e :: es) X.env = (false, eval e X.env) :: starEach es X.env := by rfl) (hpl : (backTo pos (starEach es X.env)).any (·.1) = false := by rfl) : PE X (.Call (.Name x p) (e :: es) [] pos) (tCall sp dvs E t) := by
  constructor
  intro pins z σ H Q I h
  refine wpAny_Call_Name_kw (ld_glob I hg hm ?_ hdb)
  exact PySem.W.callWith_K (h₀ := X.base) I.ok.mod.kin hk (thn (ha.run pos pins z σ H _ I h) fun us z1 ⟨vs, H1, I1, r, q⟩ => ⟨I1.kIn, run_fnG F hr hb hd hx I1 r q⟩) he hpl
theorem pe_callG0 (F : FnOkG X.prog X.w X.K X.mg X.base CX k f fd ps sp) (hr : RoomG k X.A) (hg : Gl X x) (hm : X.mg x = some (.ref f)) (hk : PySem.W.keepIn X.K (.ref f) = true) (hb : Binds X.K fd ps ds) (hd : Vals dvs ds) (hx : Passes CX X E)
    (hdb : (x == ("__debug__" : Str)) = false := by decide) : PE X (.Call (.Name x p) [] [] pos) (tCall sp dvs E tNil) := by
  constructor
  intro pins z σ H Q I h
  exact wpAny_Call_Name_kw (ld_glob I hg hm (PySem.W.callWith_K0 I.kIn hk (run_fnG (us := []) F hr hb hd hx I .nil h)) hdb)
end
section
variable {P : Program} {w : World} {K : PySem.W.Frag} {mg : Str → Option Value} {base : Heap} {CX : CXT}
/-- a def by its body -/
theorem fn_ofG {k : Nat} {f : Addr} {name qual : Str} {params : Arguments} {body : List Stmt} {scope : Scope} {dV kV doc pm cdv ct oc : Value} {an od : Option Addr} {osl : Array (Option Value)} {N ps : List Str} {sp : Sp}
    (lk : K.lookup f = some ⟨oc, od, .func (PySem.W.fnOf name qual params body scope dV kV doc pm an cdv ct), osl⟩) (hcd : PySem.W.codeIn K cdv qual = true) (S : FnScope N ps scope) (len : ∀ vs H Q E, sp vs H Q E → vs.length = ps.length)
    (hbody : ∀ (B : Around) (out : List Env) (z : Shared) (H : Hp) (vs : List V) (Q : VK) (E : XK), RoomG k (B.deeper (envOfC qual scope z.heap.objs.size f cdv)) → sp vs H Q E →
      ∃ t, PSs (cxOf CX P w K mg base N qual scope f cdv B out z H E) body t ∧ t { nx := fun _ H' => Q .non H', rt := Q } (start N vs) H) : FnOkG P w K mg base CX (k + 1) f (PySem.W.fnOf name qual params body scope dV kV doc pm an cdv ct) ps sp := by
  constructor
  · exact len
  intro B out z H as us vs Q E hr e0 hb r hsp
  have KZ := e0.mod.kin.keeps fun b o e => (e0.bs b o e).1
  have room := hr.deeper (envOfC qual scope z.heap.objs.size f cdv)
  obtain ⟨t, ht, hq⟩ := hbody B out z H vs Q E room hsp
  have kinds : ∀ y ∈ ps.zip us, scope.names.lookup y.1 = some .local ∨ (scope.names.lookup y.1 = some .cell ∧ ((cellsFrom (z.heap.objs.size + 1) scope.names []).lookup y.1).isSome = true) := by
    rintro ⟨n, v⟩ hy
    cases S.par n (List.of_mem_zip hy).1 with
    | inl q => exact Or.inl q
    | inr q => exact Or.inr ⟨q, PySem.W.cellsFrom_some _ _ _ (Or.inl q)⟩
  refine codeAny_call_function hr.room.depth (KZ _ _ lk) rfl S.co S.gen rfl (PySem.W.codeRec_of KZ hcd) (hb _ _ _ _ (wpAny_newFunctionEnv_cells S.kind kinds ?_))
  rintro env rfl z1 x
  have lim := (e0.mod.nolimit.keeps fun b o e => (e0.bs b o e).1).keeps x.toInCall.keep
  refine ⟨lim, codeAny_func ?_⟩
  have I := inv_start (CX := CX) (E := E) S hr.room.hd e0 (len _ _ _ _ hsp) r x
  refine wpAny_mono (ht.run [] z1 (start N vs) H _ I hq) ?_ (fun e s' hs => hs)
  intro fl z2 hs
  cases fl with
  | ret u =>
    obtain ⟨v, σ', H', J, rv, q⟩ := hs
    exact ⟨v, H', J.os, J.bare, J.base, J.hok, rv, q⟩
  | next =>
    obtain ⟨σ', H', J, q⟩ := hs
    exact ⟨V.non, H', J.os, J.bare, J.base, J.hok, rfl, q⟩
  | brk =>
    obtain ⟨_, _, _, q⟩ := hs
    cases q
  | cont =>
    obtain ⟨_, _, _, q⟩ := hs
    cases q
theorem fun_okG {x qual : Str} {st : Stmt} {f : Addr} {fd : FuncData} {N ps : List Str} {k : Nat} {sp : Sp} (F : Fun K x qual st f fd) (S : FnScope N ps (defScope st)) (len : ∀ vs H Q E, sp vs H Q E → vs.length = ps.length)
    (hbody : ∀ (cdv : Value) (B : Around) (out : List Env) (z : Shared) (H : Hp) (vs : List V) (Q : VK) (E : XK), RoomG k (B.deeper (envOfC qual (defScope st) z.heap.objs.size f cdv)) → sp vs H Q E →
      ∃ t, PSs (cxOf CX P w K mg base N qual (defScope st) f cdv B out z H E) (defBody st) t ∧ t { nx := fun _ H' => Q .non H', rt := Q } (start N vs) H) : FnOkG P w K mg base CX (k + 1) f fd ps sp := by
  obtain ⟨oc, od, kV, doc, pm, an, cdv, ct, osl, e, lk, hcd⟩ := F.ex
  subst e
  exact fn_ofG lk hcd S len (hbody cdv)

/-! ### the law's call -/
/-- nothing but the script is tracked -/
theorem law_at {fa a : Addr} {fd : FuncData} {x : Str} {k : Nat} {sp : Sp} {z : Shared} {us : List Value} {ns : List Int} {mb : Str → Option Value} (KX : K.In z.heap) (hns : z.heap.Ns mainGlobals mg) (hb : z.heap.Ns builtinsNs mb) (hbb : ∀ x : Str, x ≠ "__name__" → mb x = bootBuiltins x) (hlim : z.heap.NoLimit) (hg : z.gens = #[])
    (ha : z.heap.get? a = some { cls := .type "list", data := .seq us.toArray }) (hr : RoomG k callerA) (F : ∀ base : Heap, K.In base → base.Ns mainGlobals mg → FnOkG P w K mg base CX0 k fa fd [x] sp) (hbind : ∀ (s : Shared) (u : Value), BindsTo s fd ⟨[u], []⟩ [(x, u)])
    (H : Hp) (hO : Only H) (hok : HOk P w H z.heap) (hA : ∀ b, H b ≠ none → b = a ∧ K.lookup a = none) (hsp : sp [.ref a] H (fun v _ => v = .bl true) fun _ _ _ => False) :
    codeAny (model P w) callerA (.call (.ref fa) ⟨[.ref a], []⟩) (fun r s' => r = .ok (.ret (.bool true)) ∧ OldK z.heap s'.heap ∧ s'.os = z.os ∧ AllBare s'.gens) z := by
  have dict0 : ∀ {b : Addr} {o : Obj} {es : Array DictEntry} {ep : Nat}, z.heap.get? b = some o → o.data = .dict es ep → H b = none := by
    intro b o es ep e d
    by_cases q : H b = none
    · exact q
    · have eb := (hA b q).1
      rw [eb, ha] at e
      cases e
      cases (show Data.seq us.toArray _ = Data.dict es ep from d)
  have ns0 : ∀ {b : Addr} {m : Str → Option Value}, z.heap.Ns b m → (hidT z.heap H).Ns b m := by
    rintro b m ⟨o, es, ep, e, d, r⟩
    exact ⟨o, es, ep, hidT_get e (dict0 e d), d, r⟩
  have K0 : K.In (hidT z.heap H) := by
    intro b o e
    refine hidT_get (KX b o e) ?_
    by_cases q : H b = none
    · exact q
    · obtain ⟨eb, hk⟩ := hA b q
      rw [eb, hk] at e
      cases e
  obtain ⟨mc, l1, l2⟩ := hlim
  have M0 : Mod K mg (hidT z.heap H) := { kin := K0, glob := ns0 hns, blt := ⟨mb, ns0 hb, hbb⟩, nolimit := ⟨mc, ns0 l1, l2⟩ }
  have E0' : Env0 P w K mg (hidT z.heap H) callerA [] z H := { frames := rfl, mod := M0, bs := fun b o e => of_hidT e, bsz := Nat.le_of_eq (hidT_size _ _), funs := trivial, frf := (fun b hb => nomatch (show b ∈ ([] : List Addr) from hb)), hok := hok, bare := .of_eq hg }
  refine codeAny_mono ((F _ K0 (ns0 hns)).run callerA [] z H _ [.ref a] [.ref a] _ _ hr E0' (hbind z (.ref a)) (.cons rfl .nil) hsp) ?_
  rintro (er | fl) s' h
  · exact False.elim h
  cases fl <;> first
    | exact False.elim h
    | skip
  rename_i u
  obtain ⟨v, H', os, bare, un, hok', r', q⟩ := h
  have q : v = .bl true := q
  subst q
  have r' : u = Value.bool true := r'
  subst r'
  refine ⟨rfl, OldK.of_keep ?_, os, bare⟩
  intro b o e
  rcases hO b with q | ⟨ob, xs, q⟩
  · exact un.keep b o e q (fun m => nomatch (show b ∈ ([] : List Addr) from m)) (fun m => nomatch m)
  · obtain ⟨e1, _⟩ := hok b _ q
    obtain ⟨e2, _⟩ := hok' b _ (un.frzs b ob _ q)
    rw [e] at e1
    cases e1
    exact e2
theorem law_callG {fa a : Addr} {fd : FuncData} {x : Str} {k : Nat} {sp : Sp} {z : Shared} {us : List Value} {ns : List Int} {mb : Str → Option Value} (KX : K.In z.heap) (hns : z.heap.Ns mainGlobals mg) (hb : z.heap.Ns builtinsNs mb) (hbb : ∀ x : Str, x ≠ "__name__" → mb x = bootBuiltins x) (hlim : z.heap.NoLimit) (hg : z.gens = #[])
    (ha : z.heap.get? a = some { cls := .type "list", data := .seq us.toArray }) (hi : IntsAre us ns) (hl : ns.length ≤ sizeLine) (hr : RoomG k callerA) (F : ∀ base : Heap, K.In base → base.Ns mainGlobals mg → FnOkG P w K mg base CX0 k fa fd [x] sp) (hbind : ∀ (s : Shared) (u : Value), BindsTo s fd ⟨[u], []⟩ [(x, u)])
    (hsp : ∀ H : Hp, Only H → SqL K H a (ns.map V.int) → sp [.ref a] H (fun v _ => v = .bl true) fun _ _ _ => False) :
    codeAny (model P w) callerA (.call (.ref fa) ⟨[.ref a], []⟩) (fun r s' => r = .ok (.ret (.bool true)) ∧ OldK z.heap s'.heap ∧ s'.os = z.os ∧ AllBare s'.gens) z := by
  have rv := vals_ints hi
  have at_ := fun H hO hok hA hS => law_at (ns := ns) KX hns hb hbb hlim hg ha hr F hbind H hO hok hA (hsp H hO hS)
  cases hk : K.lookup a with
  | some o =>
    have e := KX a o hk
    rw [ha] at e
    cases e
    refine at_ (fun _ => none) (fun _ => .inl rfl) (fun b u q => nomatch (show (none : Option HO) = some u from q)) (fun b q => absurd rfl q) ?_
    exact .inr ⟨_, us.toArray, _, hk, rfl, rfl, rfl, by rw [List.size_toArray, hi.length]; exact hl, by simpa using rv⟩
  | none =>
    have on : ∀ {b : Addr} {u : HO}, (fun b => if b = a then some (HO.frz { cls := .type "list", data := .seq us.toArray } (.lst (ns.map V.int))) else none) b = some u → b = a ∧ u = .frz { cls := .type "list", data := .seq us.toArray } (.lst (ns.map V.int)) := by
      intro b u q
      by_cases h : b = a
      · exact ⟨h, (Option.some.inj ((if_pos h).symm.trans q)).symm⟩
      · cases (if_neg h).symm.trans q
    refine at_ (fun b => if b = a then some (.frz { cls := .type "list", data := .seq us.toArray } (.lst (ns.map V.int))) else none) (fun b => ?_) (fun b u q => ?_) (fun b q => ?_) (.inl (.inr ⟨_, if_pos rfl⟩))
    · by_cases h : b = a
      · exact .inr ⟨_, _, if_pos h⟩
      · exact .inl (if_neg h)
    · obtain ⟨rfl, rfl⟩ := on q
      exact ⟨ha, by rw [List.length_map]; exact hl, us, _, rv, ha⟩
    · by_cases h : b = a
      · exact ⟨h, hk⟩
      · exact absurd (if_neg h) q
theorem walk_ofG {l : PySem.W.OpenLaw} {n k : Nat} {q : Program} {loose : List Str} {XP : (Str → Option Value) → Heap → Prop} {YP : World → Heap → Prop} {d : DefRec} {K : Params → PySem.W.Frag} {sp : World → Sp} {x : Str}
    (hn : l.most = some n) (hn2 : n ≤ sizeLine) (hdf : d.params.defaults = []) (hr : Room k callerA) (hY : ∀ (w : World) (h : Heap), YP w h → (K w.params).In h)
    (F : ∀ (w : World) (mg : Str → Option Value) (fa : Addr) (h : Heap), (K w.params).In h → h.Ns mainGlobals mg → mg d.name = some (.ref fa) →
      ∃ fd : FuncData, (∀ (s : Shared) (u : Value), BindsTo s fd ⟨[u], []⟩ [(x, u)]) ∧ ∀ base : Heap, (K w.params).In base → base.Ns mainGlobals mg → FnOkG l.prog w (K w.params) mg base CX0 k fa fd [x] (sp w))
    (hsp : ∀ (w : World) (H : Hp) (a : Addr) (ns : List Int), ns.length ≤ n → Only H → SqL (K w.params) H a (ns.map V.int) → sp w [.ref a] H (fun v _ => v = .bl true) fun _ _ _ => False) :
    PySem.W.WalkO q loose XP YP l.row.toRowW d [] (fun f vs => PySem.call f vs) := by
  refine Att.attach_call hn hdf ?_
  intro w s0 z mg mb fa o pm cd doc a us ns G Y ho hd hcd hmg hobj hints hlen hg
  have KX := hY w _ Y
  obtain ⟨fd, hb, hF⟩ := F w mg fa _ KX G.T.g hmg
  exact law_callG KX G.T.g G.T.b G.T.builtins G.T.nolimit hg hobj hints (Nat.le_trans hlen hn2) ⟨hr, rfl⟩ hF hb fun H hO hS => hsp w H a ns hlen hO hS
end
end TL

set_option Elab.async false
set_option linter.all false
set_option maxRecDepth 100000
set_option maxHeartbeats 2000000
/-! TL7: calls and defs by data, the rules. -/
namespace TL
open PySem PySem.Spec L2

theorem map_some_get {vs : List V} {i : Nat} {v : V} (h : vs[i]? = some v) : (vs.map some)[i]? = some (some v) := by
  rw [List.getElem?_map, h]
  rfl
theorem addr_of {σ : L2.St} {i : Nat} {p : Addr} (h : σ[i]? = some (some (.ref p))) : addr σ i = p := by
  unfold addr
  rw [h]
theorem getD_of {M : List Nat} {j i : Nat} (h : M[j]? = some i) : M.getD j 0 = i := by
  rw [List.getD_eq_getElem?_getD, h]
  rfl
section
variable [XW]
variable {K : PySem.W.Frag} {c : Cf} {G H G' H' : Hp} {σ : L2.St} {δ : List Sl} {cs : List CA} {vs : List V} {outs : List (List PyData)}
abbrev calleeC (σ : L2.St) (M : List Nat) (G H : Hp) : Cf := ⟨fun j => addr σ (M.getD j 0), M.length, G, H, []⟩
/-- the list in a slot handed on -/
theorem mut_at (E : EnvOk K c G H σ δ) {j : Nat} (hj : j < (muts δ cs).length) : ∃ i t ds p xs, (muts δ cs)[j]? = some i ∧ δ[i]? = some (.own t ds) ∧ σ[i]? = some (some (.ref p)) ∧ G p = none ∧ H p = some (.lst xs) ∧ RpAll K G xs ds ∧ addr σ ((muts δ cs).getD j 0) = p ∧
    (match t with
        | some j => j < c.n ∧ p = c.τ j
        | none => c.H0 p = none ∧ ∀ j, j < c.n → p ≠ c.τ j) := by
  have hi : (muts δ cs)[j]? = some (muts δ cs)[j] := List.getElem?_eq_getElem hj
  obtain ⟨t, ds, h⟩ := muts_own (List.mem_of_getElem? hi)
  obtain ⟨p, xs, e, g, hh, r, q⟩ := E.sl _ _ h
  exact ⟨_, t, ds, p, xs, hi, h, e, g, hh, r, by rw [getD_of hi]; exact addr_of e, q⟩
theorem asOf_box {δ : List Sl} : ∀ {cs : List CA} {j0 i : Nat} {b : Box}, (asOf δ cs j0)[i]? ≠ some (.box b)
  | [], j0, i, b, h => by
    have h : ([] : List Sl)[i]? = some (.box b) := h
    simp at h
  | .d x :: r, j0, i, b, h => by
    cases i with
    | zero => cases (show some (Sl.dat x) = some (.box b) from h)
    | succ i => exact asOf_box (cs := r) (i := i) (j0 := j0) h
  | .s k :: r, j0, i, b, h => by
    have ha : asOf δ (.s k :: r) j0 = (match δ[k]? with
        | some (.own _ ds) => .own (some j0) ds :: asOf δ r (j0 + 1)
        | some (.scr ds) => .scr ds :: asOf δ r j0
        | _ => .no :: asOf δ r j0) := rfl
    rw [ha] at h
    cases i with
    | zero => split at h <;> cases h
    | succ i =>
      split at h
      · exact asOf_box (cs := r) (i := i) (j0 := j0 + 1) h
      · exact asOf_box (cs := r) (i := i) (j0 := j0) h
      · exact asOf_box (cs := r) (i := i) (j0 := j0) h
theorem callee_env (E : EnvOk K c G H σ δ) (r : CAs K G σ vs cs) (hn : (muts δ cs).Nodup) : EnvC K (calleeC σ (muts δ cs) G H) G H (vs.map some) (asOf δ cs 0) where
  g0 := Ex.refl _
  ex := E.ex
  fr := fun a o h _ => h
  fs := fun a h _ => h
  tg := fun j hj => by
    obtain ⟨i, t, ds, p, xs, _, _, _, g, hh, _, ea, _⟩ := mut_at E hj
    show H (addr σ ((muts δ cs).getD j 0)) ≠ none ∧ G (addr σ ((muts δ cs).getD j 0)) = none
    rw [ea, hh]
    exact ⟨(by intro z; cases z), g⟩
  len := by rw [List.length_map, r.len, asOf_len]
  sl := fun i s h => by
    cases s with
    | no => trivial
    | box b => trivial
    | dat x =>
      obtain ⟨v, hv, rv⟩ := r.get_d (asOf_dat h)
      exact ⟨v, map_some_get hv, rv⟩
    | scr x =>
      obtain ⟨k, h1, h2⟩ := asOf_scr h
      obtain ⟨v, hv, hσ⟩ := r.get_s h1
      obtain ⟨a, xs, e, q, rr⟩ := E.sl k _ h2
      rw [hσ] at e
      have ev := Option.some.inj (Option.some.inj e)
      subst ev
      exact ⟨a, xs, map_some_get hv, q, rr⟩
    | own t ds =>
      obtain ⟨k, i', t', et, hM, hδ, hc⟩ := asOf_own h
      obtain ⟨v, hv, hσ⟩ := r.get_s hc
      obtain ⟨p, xs, e, g, hh, rr, _⟩ := E.sl i' _ hδ
      rw [hσ] at e
      have ev := Option.some.inj (Option.some.inj e)
      subst ev
      refine ⟨p, xs, map_some_get hv, g, hh, rr, ?_⟩
      rw [et, Nat.zero_add]
      refine ⟨(List.getElem?_eq_some_iff.mp hM).1, ?_⟩
      show p = addr σ ((muts δ cs).getD k 0)
      rw [getD_of hM, addr_of hσ]
  ap := fun i j t1 d1 t2 d2 hij h1 h2 => by
    obtain ⟨k1, i1, t1', e1, hM1, hδ1, hc1⟩ := asOf_own h1
    obtain ⟨k2, i2, t2', e2, hM2, hδ2, hc2⟩ := asOf_own h2
    obtain ⟨v1, hv1, hσ1⟩ := r.get_s hc1
    obtain ⟨v2, hv2, hσ2⟩ := r.get_s hc2
    rw [map_some_get hv1, map_some_get hv2]
    intro z
    have ev := Option.some.inj (Option.some.inj z)
    by_cases hk : k1 = k2
    · subst hk
      rw [e1] at h1
      rw [e2] at h2
      exact hij (asOf_tag hn h1 h2)
    · have ne : i1 ≠ i2 := fun q => hk (nd_ix hn hM1 (by rw [q]; exact hM2))
      exact E.ap i1 i2 _ _ _ _ ne hδ1 hδ2 (by rw [hσ1, hσ2, ev])
  hd := fun p xs h => nomatch h
  bx := BoxOk.none fun i b => asOf_box
theorem caller_box (E : EnvOk K c G H σ δ) (hn : (muts δ cs).Nodup) (hl : outs.length = (muts δ cs).length) (F : Fin K (calleeC σ (muts δ cs) G H) G' H' outs) {c' : Cf} (h0 : c'.H0 = c.H0) (hτ : c'.τ = c.τ) (hN : c'.n = c.n)
    (hh : ∀ a, H a ≠ none → (∀ o, (a, o) ∉ c.hid) → ∀ o, (a, o) ∉ c'.hid) : BoxOk K c' G' H' σ (setOuts δ (muts δ cs) outs) := by
  have so := fun k => setOuts_get (M := muts δ cs) (δ := δ) (outs := outs) (k := k) hn hl fun i hi => muts_own hi
  refine E.bx.step F.g0 (fun k b h => ?_) fun a ha f => ⟨?_, F.fs a f.g ha, by rw [h0]; exact f.h0, by rw [hN, hτ]; exact f.tg, hh a ha f.hd, fun k t ds h => ?_⟩
  · by_cases hk : k ∈ muts δ cs
    · obtain ⟨j, hj, e⟩ := List.mem_iff_getElem.mp hk
      obtain ⟨t', ds', hd⟩ := muts_own hk
      obtain ⟨o, _, q⟩ := (so k).2.2 j t' ds' (by rw [List.getElem?_eq_getElem hj, e]) hd
      rw [h] at q
      cases q
    · rw [(so k).2.1 hk] at h
      exact ⟨h, rfl⟩
  · cases q : H a with
    | none => exact absurd q ha
    | some o =>
      refine F.fr a o q fun j hj z => ?_
      obtain ⟨i, t, ds, p, xs, hi, hd, hσ, _, _, _, ea, _⟩ := mut_at E hj
      have z : a = addr σ ((muts δ cs).getD j 0) := z
      rw [ea] at z
      exact f.ow i t ds hd (by rw [hσ, z])
  · by_cases hk : k ∈ muts δ cs
    · obtain ⟨t', ds', hd⟩ := muts_own hk
      exact f.ow k t' ds' hd
    · rw [(so k).2.1 hk] at h
      exact f.ow k t ds h
theorem caller_back (E : EnvOk K c G H σ δ) (hn : (muts δ cs).Nodup) (hl : outs.length = (muts δ cs).length) (F : Fin K (calleeC σ (muts δ cs) G H) G' H' outs) : EnvOk K c G' H' σ (setOuts δ (muts δ cs) outs) := by
  have so := fun k => setOuts_get (M := muts δ cs) (δ := δ) (outs := outs) (k := k) hn hl fun i hi => muts_own hi
  -- what is no callee's own list stays
  have far : ∀ a, (∀ (i : Nat) (t : Option Nat) (ds : List PyData), i ∈ muts δ cs → δ[i]? = some (.own t ds) → σ[i]? ≠ some (some (.ref a))) → ∀ o, H a = some o → H' a = some o := fun a ha o h => by
    refine F.fr a o h fun j hj z => ?_
    obtain ⟨i, t, ds, p, xs, hi, hd, hσ, _, _, _, ea, _⟩ := mut_at E hj
    have z : a = addr σ ((muts δ cs).getD j 0) := z
    rw [ea] at z
    exact ha i t ds (List.mem_of_getElem? hi) hd (by rw [hσ, z])
  have gno : ∀ a, G a = none → H a ≠ none → G' a = none := F.fs
  have back : ∀ (k : Nat) (t : Option Nat) (ds : List PyData), (setOuts δ (muts δ cs) outs)[k]? = some (.own t ds) → ∃ ds', δ[k]? = some (.own t ds') := fun k t ds h => by
    by_cases hk : k ∈ muts δ cs
    · obtain ⟨j, hj, e⟩ := List.mem_iff_getElem.mp hk
      obtain ⟨t', ds', hd⟩ := muts_own hk
      obtain ⟨o, _, q⟩ := (so k).2.2 j t' ds' (by rw [List.getElem?_eq_getElem hj, e]) hd
      rw [h] at q
      cases q
      exact ⟨ds', hd⟩
    · rw [(so k).2.1 hk] at h
      exact ⟨ds, h⟩
  have tagH : ∀ j, j < c.n → H' (c.τ j) ≠ none := fun j hj => by
    by_cases hk : ∃ j', j' < (muts δ cs).length ∧ c.τ j = addr σ ((muts δ cs).getD j' 0)
    · obtain ⟨j', hj', e⟩ := hk
      rw [e]
      exact (F.tg j' hj').1
    · cases q : H (c.τ j) with
      | none => exact absurd q (E.tg j hj).1
      | some o =>
        rw [F.fr _ o q fun j' hj' z => hk ⟨j', hj', z⟩]
        exact fun z => nomatch z
  exact {
    xw := E.xw
    g0 := E.g0.trans F.g0
    ex := F.ex
    fr := fun a o h k => by
      refine far a (fun i t ds _ hd hσ => ?_) o (E.fr a o h k)
      obtain ⟨p, xs, e, _, _, _, q⟩ := E.sl i _ hd
      rw [hσ] at e
      have ev := V.ref.inj (Option.some.inj (Option.some.inj e))
      subst ev
      cases t with
      | none =>
        rw [q.1] at h
        cases h
      | some j => exact k j q.1 q.2
    fs := fun a h1 h2 => by
      by_cases ht : ∃ j, j < c.n ∧ a = c.τ j
      · obtain ⟨j, hj, rfl⟩ := ht
        exact gno _ (E.tg j hj).2 (E.tg j hj).1
      · refine gno a (E.fs a h1 h2) ?_
        cases q : c.H0 a with
        | none => exact absurd q h2
        | some o =>
          rw [E.fr a o q fun j hj z => ht ⟨j, hj, z⟩]
          exact fun z => nomatch z
    tg := fun j hj => ⟨tagH j hj, gno _ (E.tg j hj).2 (E.tg j hj).1⟩
    len := by rw [E.len, (so 0).1]
    sl := fun k s h => by
      by_cases hk : k ∈ muts δ cs
      · obtain ⟨j, hj, e⟩ := List.mem_iff_getElem.mp hk
        have hj' : (muts δ cs)[j]? = some k := by rw [List.getElem?_eq_getElem hj, e]
        obtain ⟨i, t, ds, p, xs, hi, hd, hσ, g, hh, _, ea, q⟩ := mut_at E hj
        rw [hj'] at hi
        cases hi
        obtain ⟨o, ho, so'⟩ := (so k).2.2 j t ds hj' hd
        rw [h] at so'
        cases so'
        obtain ⟨ys, f1, f2⟩ := F.out j o ho
        have f1 : H' (addr σ ((muts δ cs).getD j 0)) = some (.lst ys) := f1
        rw [ea] at f1
        exact ⟨p, ys, hσ, gno p g (by rw [hh]; exact fun z => nomatch z), f1, f2, q⟩
      · rw [(so k).2.1 hk] at h
        have z := E.sl k s h
        cases s with
        | no => trivial
        | box b => trivial
        | dat d =>
          obtain ⟨x, e, r⟩ := z
          exact ⟨x, e, r.up F.g0⟩
        | scr d =>
          obtain ⟨a, xs, e, q, r⟩ := z
          exact ⟨a, xs, e, ex_l F.g0 q, r.up F.g0⟩
        | own t ds =>
          obtain ⟨p, xs, e, g, hh, r, q⟩ := z
          refine ⟨p, xs, e, gno p g (by rw [hh]; exact fun z => nomatch z), far p (fun i t' ds' hi hd hσ => ?_) _ hh, r.up F.g0, q⟩
          exact E.ap k i _ _ _ _ (fun z => hk (by rw [z]; exact hi)) h hd (by rw [e, hσ])
    ap := fun i j t1 d1 t2 d2 hij h1 h2 => by
      obtain ⟨e1, b1⟩ := back i t1 d1 h1
      obtain ⟨e2, b2⟩ := back j t2 d2 h2
      exact E.ap i j _ _ _ _ hij b1 b2
    hd := fun p xs hm => by
      obtain ⟨a1, a2, a3, a4, a5⟩ := E.hd p xs hm
      refine ⟨far p (fun i t ds _ hd => a5 i t ds hd) _ a1, gno p a2 (by rw [a1]; exact fun z => nomatch z), a3, a4, fun i t ds hs => ?_⟩
      obtain ⟨ds', b⟩ := back i t ds hs
      exact a5 i t ds' b
    bx := caller_box E hn hl F rfl rfl rfl fun _ _ h => h }
theorem re_call {S : DSp} {t : TA} {ua : DCA} (ha : RCA K t ua) : RE K (tCall (spD K S) [] E0 t) (dCall S ua) := by
  intro c σ G H δ Q R E h k
  refine ha c σ G H δ _ _ E h fun cs δ1 vs G1 H1 h1 E1 e1 r1 => ?_
  obtain ⟨hn, hS⟩ := h1
  show spD K S (vs ++ []) H1 Q E0
  rw [List.append_nil]
  refine ⟨calleeC σ (muts δ1 cs) G1 H1, asOf δ1 cs 0, _, rfl, rfl, callee_env E1 r1 hn, hS, fun d outs v G' H' hR F rv => ?_⟩
  exact k d _ v G' H' hR.2 (caller_back E1 hn hR.1 F) (e1.trans F.g0) rv
theorem rs_callOwn {S : DSn} {t : TA} {ua : DCA} {i : Nat} (ha : RCA K t ua) : RS K (tAsg (tCall (spN K S) [] E0 t) (gName i)) (fun E δ => dCallOwn i S ua E.nx δ) := by
  intro c σ G H δ D E EV h k
  refine ha c σ G H δ _ _ EV h fun cs δ1 vs G1 H1 h1 E1 e1 r1 => ?_
  obtain ⟨hn, hS⟩ := h1
  show spN K S (vs ++ []) H1 _ E0
  rw [List.append_nil]
  refine ⟨calleeC σ (muts δ1 cs) G1 H1, asOf δ1 cs 0, _, rfl, rfl, callee_env E1 r1 hn, hS, fun ds outs p xs G' H' hR F hp gp hh rr => ?_⟩
  have EB := caller_back E1 hn hR.1 F
  have old : ∀ (j : Nat) (t : Option Nat) (es : List PyData), (setOuts δ1 (muts δ1 cs) outs)[j]? = some (Sl.own t es) → σ[j]? ≠ some (some (V.ref p)) := fun j t es hs z => by
    have so := setOuts_get (M := muts δ1 cs) (δ := δ1) (outs := outs) (k := j) hn hR.1 fun i hi => muts_own hi
    have hd : ∃ t' ds', δ1[j]? = some (Sl.own t' ds') := by
      by_cases hj : j ∈ muts δ1 cs
      · exact muts_own hj
      · rw [so.2.1 hj] at hs
        exact ⟨_, _, hs⟩
    obtain ⟨t', ds', hd⟩ := hd
    obtain ⟨q, ys, e, _, q1, _⟩ := E1.sl j _ hd
    rw [z] at e
    rw [← V.ref.inj (Option.some.inj (Option.some.inj e)), hp] at q1
    cases q1
  have n0 : ∀ zs, (p, zs) ∉ c.hid := fun zs z => by
    have q := (E1.hd p zs z).1
    rw [hp] at q
    cases q
  have EH : EnvOk K { c with hid := (p, .lst xs) :: c.hid } G' H' σ (setOuts δ1 (muts δ1 cs) outs) := {
    xw := EB.xw, g0 := EB.g0, ex := EB.ex, fr := EB.fr, fs := EB.fs, tg := EB.tg, len := EB.len
    sl := fun i s h => by
      have z := EB.sl i s h
      cases s with
      | no => trivial
      | box b => trivial
      | dat d => exact z
      | scr d => exact z
      | own t d => exact z
    ap := EB.ap
    hd := fun q ys hm => by
      rcases List.mem_cons.mp hm with e | hm
      · cases e
        exact ⟨hh, gp, E1.new0 hp, fun j hj z => (E1.tg j hj).1 (by rw [← z]; exact hp), old⟩
      · exact EB.hd q ys hm
    bx := caller_box E1 hn hR.1 F rfl rfl rfl fun a ha h o hm => by
      rcases List.mem_cons.mp hm with e | hm
      · cases e
        exact ha hp
      · exact h o hm }
  exact k.nx _ G' H' _ hR.2 (EH.give n0 rr i) (e1.trans F.g0)
end

/-! ### a def -/
def OutsIn (δ : List Sl) (outs : List (List PyData)) : Prop := ∀ (j : Nat) (cs : List PyData), outs[j]? = some cs → ∃ i : Nat, δ[i]? = some (Sl.own (some j) cs)
theorem outs0 {δ : List Sl} : OutsIn δ [] := fun j cs h => by simp at h
def endsOf (R : PyData → List (List PyData) → Prop) : DEnds where
  nx := fun δ => ∃ outs, R .none outs ∧ OutsIn δ outs
  rt := fun d δ => ∃ outs, R d outs ∧ OutsIn δ outs
section
variable {P : Program} {w : World} {K : PySem.W.Frag} {mg : Str → Option Value} {base : Heap}
theorem EnvC.more {c : Cf} {G H : Hp} {σ : L2.St} {δ : List Sl} (E : EnvC K c G H σ δ) (n : Nat) : EnvC K c G H (σ ++ List.replicate n none) (δ ++ List.replicate n .no) := by
  have g1 : ∀ (i : Nat) (s : Sl), (δ ++ List.replicate n Sl.no)[i]? = some s → s ≠ Sl.no → δ[i]? = some s ∧ (σ ++ List.replicate n none)[i]? = σ[i]? := fun i s h hs => by
    by_cases hi : i < δ.length
    · rw [List.getElem?_append_left hi] at h
      exact ⟨h, List.getElem?_append_left (by rw [E.len]; exact hi)⟩
    · rw [List.getElem?_append_right (by omega), List.getElem?_replicate] at h
      split at h
      · exact absurd (Option.some.inj h).symm hs
      · cases h
  exact {
    g0 := E.g0, ex := E.ex, fr := E.fr, fs := E.fs, tg := E.tg
    len := by rw [List.length_append, List.length_append, List.length_replicate, List.length_replicate, E.len]
    sl := fun i s h => by
      cases s with
      | no => trivial
      | box b => trivial
      | dat d =>
        obtain ⟨a, b⟩ := g1 i _ h (by intro z; cases z)
        rw [b]
        exact E.sl i _ a
      | scr d =>
        obtain ⟨a, b⟩ := g1 i _ h (by intro z; cases z)
        rw [b]
        exact E.sl i _ a
      | own t d =>
        obtain ⟨a, b⟩ := g1 i _ h (by intro z; cases z)
        rw [b]
        exact E.sl i _ a
    ap := fun i j t1 d1 t2 d2 hij h1 h2 => by
      obtain ⟨a, b⟩ := g1 i _ h1 (by intro z; cases z)
      obtain ⟨a', b'⟩ := g1 j _ h2 (by intro z; cases z)
      rw [b, b']
      exact E.ap i j _ _ _ _ hij a a'
    hd := fun p xs h => by
      obtain ⟨a1, a2, a3, a4, a5⟩ := E.hd p xs h
      refine ⟨a1, a2, a3, a4, fun i t ds hs => ?_⟩
      obtain ⟨a, b⟩ := g1 i _ hs (by intro z; cases z)
      rw [b]
      exact a5 i t ds a
    bx := E.bx.step (Ex.refl _) (fun i b h => g1 i _ h (by intro z; cases z)) fun a _ f => ⟨rfl, f.g, f.h0, f.tg, f.hd, fun i t ds hs => by
      obtain ⟨h1, h2⟩ := g1 i _ hs (by intro z; cases z)
      rw [h2]
      exact f.ow i t ds h1⟩ }
theorem fnD {x qual : Str} {st : Stmt} {f : Addr} {fd : FuncData} {N ps : List Str} {k : Nat} {S : DSp} (F : Fun K x qual st f fd) (sc : FnScope N ps (defScope st)) (len : ∀ as R, S as R → as.length = ps.length)
    (hbody : ∀ (cdv : Value) (A : Around) (outer : List Env) (s : Shared) (H : Hp) (E : XK), RoomG k (A.deeper (PyProof.Rows.envOfC qual (defScope st) s.heap.objs.size f cdv)) →
      ∃ t u, DSs (cxOf CX0 P w K mg base N qual (defScope st) f cdv A outer s H E).nox (defBody st) t u ∧ ∀ as R, S as R → u (endsOf R) (as ++ List.replicate (N.length - ps.length) .no)) : FnOkG P w K mg base CX0 (k + 1) f fd ps (spD K S) := by
  refine fun_okG F sc (fun vs H Q E h => ?_) (fun cdv A outer s H vs Q E hr h => ?_)
  · obtain ⟨c, as, R, _, _, EV, hS, _⟩ := h
    have := EV.len
    rw [List.length_map] at this
    rw [this]
    exact len as R hS
  · obtain ⟨c, as, R, hh, h0, EV, hS, k⟩ := h
    obtain ⟨t, u, D, red⟩ := hbody cdv A outer s H E hr
    refine ⟨t, D.ps.nox, ?_⟩
    have l1 : vs.length = ps.length := by
      have := EV.len
      rw [List.length_map] at this
      rw [this]
      exact len as R hS
    have EV' : EnvOk K c c.G0 H (L2.start N vs) (as ++ List.replicate (N.length - ps.length) .no) := by
      have z := (EV.more (N.length - ps.length)).ok
      unfold L2.start
      rw [l1]
      exact z
    have fin : ∀ {σ' : L2.St} {G' H' : Hp} {δ' : List Sl} {outs : List (List PyData)}, EnvOk K c G' H' σ' δ' → OutsIn δ' outs → Fin K c G' H' outs := fun {σ' G' H' δ' outs} E ho =>
      ⟨E.g0, E.ex, E.fr, E.fs, E.tg, fun j cs hj => by
        obtain ⟨i, hi⟩ := ho j cs hj
        obtain ⟨p, xs, _, _, hh, r, q⟩ := E.sl i _ hi
        exact ⟨xs, by rw [← q.2]; exact hh, r⟩⟩
    refine D.rs c (L2.start N vs) c.G0 H _ _ (endsOf R) EV' (red as R hS) ⟨?_, ?_, ?_, ?_, ?_, hh⟩
    · rintro σ' G' H' δ' ⟨outs, hR, ho⟩ E' e
      exact k .none outs .non G' H' hR (fin E' ho) .non
    · rintro d δ' v σ' G' H' ⟨outs, hR, ho⟩ E' e r
      exact k d outs v G' H' hR (fin E' ho) r
    · exact fun σ' G' H' δ' a _ _ => False.elim a
    · exact fun σ' G' H' δ' a _ _ => False.elim a
    · exact fun ds δ' p xs σ' G' H' a _ _ _ _ => False.elim a
def endsNew (R : List PyData → List (List PyData) → Prop) : DEnds where
  nx := fun _ => False
  rt := fun _ _ => False
  rn := fun ds δ => ∃ outs, R ds outs ∧ OutsIn δ outs
/-- a def that hands back a new list -/
theorem fnN {x qual : Str} {st : Stmt} {f : Addr} {fd : FuncData} {N ps : List Str} {k : Nat} {S : DSn} (F : Fun K x qual st f fd) (sc : FnScope N ps (defScope st)) (len : ∀ as R, S as R → as.length = ps.length)
    (hbody : ∀ (cdv : Value) (A : Around) (outer : List Env) (s : Shared) (H : Hp) (E : XK), RoomG k (A.deeper (PyProof.Rows.envOfC qual (defScope st) s.heap.objs.size f cdv)) →
      ∃ t u, DSs (cxOf CX0 P w K mg base N qual (defScope st) f cdv A outer s H E).nox (defBody st) t u ∧ ∀ as R, S as R → u (endsNew R) (as ++ List.replicate (N.length - ps.length) .no)) : FnOkG P w K mg base CX0 (k + 1) f fd ps (spN K S) := by
  refine fun_okG F sc (fun vs H Q E h => ?_) (fun cdv A outer s H vs Q E hr h => ?_)
  · obtain ⟨c, as, R, _, _, EV, hS, _⟩ := h
    have := EV.len
    rw [List.length_map] at this
    rw [this]
    exact len as R hS
  · obtain ⟨c, as, R, hh, h0, EV, hS, k⟩ := h
    obtain ⟨t, u, D, red⟩ := hbody cdv A outer s H E hr
    refine ⟨t, D.ps.nox, ?_⟩
    have l1 : vs.length = ps.length := by
      have := EV.len
      rw [List.length_map] at this
      rw [this]
      exact len as R hS
    have EV' : EnvOk K c c.G0 H (L2.start N vs) (as ++ List.replicate (N.length - ps.length) .no) := by
      have z := (EV.more (N.length - ps.length)).ok
      unfold L2.start
      rw [l1]
      exact z
    refine D.rs c (L2.start N vs) c.G0 H _ _ (endsNew R) EV' (red as R hS) ⟨fun σ' G' H' δ' a _ _ => False.elim a, fun d δ' v σ' G' H' a _ _ _ => False.elim a, fun σ' G' H' δ' a _ _ => False.elim a, fun σ' G' H' δ' a _ _ => False.elim a, ?_, hh⟩
    rintro ds δ' p xs σ' G' H' ⟨outs, hR, ho⟩ E' hn e r
    obtain ⟨q1, q2, q3, q4, q5⟩ := E'.hd p _ List.mem_cons_self
    refine k ds outs p xs G' H' hR ⟨E'.g0, E'.ex, E'.fr, E'.fs, E'.tg, fun j cs hj => ?_⟩ (by rw [← h0]; exact q3) q2 q1 r
    obtain ⟨i, hi⟩ := ho j cs hj
    obtain ⟨p', ys, _, _, hh', r', q⟩ := E'.sl i _ hi
    exact ⟨ys, by rw [← q.2]; exact hh', r'⟩
end
end TL

set_option Elab.async false
set_option linter.all false
set_option maxRecDepth 100000
set_option maxHeartbeats 2000000
/-! TL8: the rules by syntax. -/
namespace TL
open PySem PySem.Spec L2
variable [XW]

/-- a def that may be called by its name -/
structure Kn (P : Program) (w : World) (K : PySem.W.Frag) (mg : Str → Option Value) (base : Heap) (k : Nat) (x : Str) (S : DSp) : Prop where
  ex : ∃ (f : Addr) (fd : FuncData) (ps : List Str), FnOkG P w K mg base CX0 k f fd ps (spD K S) ∧ mg x = some (.ref f) ∧ PySem.W.keepIn K (.ref f) = true ∧ Binds K fd ps []
section
variable {X : Cx} {a b c e : Expr} {es : List Expr} {ta tb tc te : TE} {ua ub uc ue : DTE} {pos p p2 : Pos} {t t' : TS} {u u' : DTS} {tt : TT} {ut : DTT} {tr : TA} {ur : DTA} {tca : TA} {uca : DCA}
theorem de_chain {op op' : CmpOp} {r r' : R2} {rd rd' : R2D} (ho : OpR X (compareOp op) r) (hr : RO X.K r rd) (ho' : OpR X (compareOp op') r') (hr' : RO X.K r' rd') (ha : DE X a ta ua) (hb : DE X b tb ub) (hc : DE X c tc uc)
    (hm : lastMarks [op, op'] [b, c] = false := by with_unfolding_all rfl) : DE X (.Compare a [op, op'] [b, c] pos) (tChain r r' ta tb tc) (dChain rd rd' ua ub uc) := ⟨pe_chain ho ho' ha.pe hb.pe hc.pe hm, re_chain ha.re hb.re hc.re hr hr'⟩
theorem dt_chain {op op' : CmpOp} {r r' : R2} {rd rd' : R2D} (ho : OpR X (compareOp op) r) (hr : RO X.K r rd) (ho' : OpR X (compareOp op') r') (hr' : RO X.K r' rd') (ha : DE X a ta ua) (hb : DE X b tb ub) (hc : DE X c tc uc)
    (hm : lastMarks [op, op'] [b, c] = false := by with_unfolding_all rfl) : DT X (.Compare a [op, op'] [b, c] pos) (tTest (tChain r r' ta tb tc)) (dTest (dChain rd rd' ua ub uc)) := ⟨pt_chain ho ho' ha.pe hb.pe hc.pe hm, rt_test (re_chain ha.re hb.re hc.re hr hr')⟩
theorem de_ixV (i : Nat) {x : Str} (hb : DE X b tb ub) (hN : X.N[i]? = some x := by rfl) (hv : Vis X.env.scope x := by first | exact Or.inl rfl | exact Or.inr (Or.inl rfl) | exact Or.inr (Or.inr rfl)) (hd : (x == ("__debug__" : Str)) = false := by decide)
    (hcd : (x == ("__classdict__" : Str)) = false := by decide) (hs : PlainIx b := by exact fun _ _ => rfl) : DE X (.Subscript (.Name x p) b pos) (tOp (rIxL X.K) (tVar i) tb) (dIxV i ub) := ⟨pe_ix ix_list (pe_var hN hv hd hcd) hb.pe hs, re_ixV hb.re⟩
theorem de_len {ps : Pos} (hm : X.mg "len" = none) (ha : DE X e te ue) (hg : Gl X "len" := by rfl) (hs : starEach [e] X.env = (false, eval e X.env) :: starEach [] X.env := by rfl) (hpl : (backTo pos (starEach [] X.env)).any (·.1) = false := by rfl) :
    DE X (.Call (.Name "len" p) [e] [] pos) (tCB (rLen X.K) (tCons te tNil)) (dLen ue) := ⟨pe_callB call_len hg hm PySem.boot_len (pa_cons ha.pe pa_nil hs) (by decide) (by decide) hs hpl, re_len ha.re⟩
theorem de_lenV (i : Nat) {x : Str} (hm : X.mg "len" = none) (hN : X.N[i]? = some x := by rfl) (hv : Vis X.env.scope x := by first | exact Or.inl rfl | exact Or.inr (Or.inl rfl) | exact Or.inr (Or.inr rfl)) (hd : (x == ("__debug__" : Str)) = false := by decide)
    (hcd : (x == ("__classdict__" : Str)) = false := by decide) (hg : Gl X "len" := by rfl) (hs : starEach [.Name x p2] X.env = (false, eval (.Name x p2) X.env) :: starEach [] X.env := by rfl) (hpl : (backTo pos (starEach [] X.env)).any (·.1) = false := by rfl) :
    DE X (.Call (.Name "len" p) [.Name x p2] [] pos) (tCB (rLen X.K) (tCons (tVar i) tNil)) (dLenV i) := ⟨pe_callB call_len hg hm PySem.boot_len (pa_cons (pe_var hN hv hd hcd) pa_nil hs) (by decide) (by decide) hs hpl, re_lenV⟩
theorem de_isi {T : String} {Tn : Str} (hm : X.mg "isinstance" = none) (hT : X.mg Tn = none) (hv : bootBuiltins Tn = some (.type T)) (ha : DE X e te ue) (hg : Gl X "isinstance" := by rfl) (hgT : Gl X Tn := by rfl) (hb : bootBuiltins "isinstance" = some (.builtin "isinstance") := by decide +kernel)
    (hn : Tn ≠ "__name__" := by decide) (hd : (Tn == ("__debug__" : Str)) = false := by decide)
    (hs : starEach [e, .Name Tn p2] X.env = (false, eval e X.env) :: starEach [.Name Tn p2] X.env := by rfl) (hs2 : starEach [.Name Tn p2] X.env = (false, eval (.Name Tn p2) X.env) :: starEach [] X.env := by rfl) (hpl : (backTo pos (starEach [.Name Tn p2] X.env)).any (·.1) = false := by rfl) (hTe : kitB "" T = none := by decide +kernel) :
    DE X (.Call (.Name "isinstance" p) [e, .Name Tn p2] [] pos) (tCB (rIsi X.K) (tCons te (tCons (tC (.ty T)) tNil))) (dIsi T ue) :=
  ⟨pe_callB call_isi hg hm hb (pa_cons ha.pe (pa_cons (pe_bltn (v := .ty T) hgT hT hv rfl hn hd) pa_nil hs2) hs) (by decide) (by decide) hs hpl, re_isi ha.re hTe⟩
theorem de_int1 (hm : X.mg "int" = none) (ha : DE X e te ue) (hg : Gl X "int" := by rfl) (hb : bootBuiltins "int" = some (.type "int") := by decide +kernel) (hs : starEach [e] X.env = (false, eval e X.env) :: starEach [] X.env := by rfl) (hpl : (backTo pos (starEach [] X.env)).any (·.1) = false := by rfl) :
    DE X (.Call (.Name "int" p) [e] [] pos) (tCB rInt1 (tCons te tNil)) (dInt1 ue) := ⟨pe_callTy call_int1 hg hm hb (pa_cons ha.pe pa_nil hs) (by decide) (by decide) hs hpl, re_int1 ha.re⟩
theorem de_join {apos : Pos} (ha : DE X a ta ua) (hb : DE X b tb ub) (hs : starEach [b] X.env = [(false, eval b X.env)] := by rfl) (hbase : attributeBase a "join" X.env (eval a X.env) = eval a X.env := by rfl) (hline : (apos.endLine == pos.line) = true := by rfl) :
    DE X (.Call (.Attribute a "join" apos) [b] [] pos) (tM1 (rJoin X.K) ta tb) (dJoin ua ub) := ⟨pe_join ha.pe hb.pe hs hbase hline, re_join ha.re hb.re⟩
theorem dca_nil : DCa X [] tNil cNil := ⟨pa_nil, rca_nil⟩
theorem dca_d (ha : DE X e te ue) (hr : DCa X es tca uca) (hs : starEach (e :: es) X.env = (false, eval e X.env) :: starEach es X.env := by rfl) : DCa X (e :: es) (tCons te tca) (cD ue uca) := ⟨pa_cons ha.pe hr.pa hs, rca_d ha.re hr.ra⟩
theorem dca_s (i : Nat) {x : Str} (hr : DCa X es tca uca) (hN : X.N[i]? = some x := by rfl) (hv : Vis X.env.scope x := by first | exact Or.inl rfl | exact Or.inr (Or.inl rfl) | exact Or.inr (Or.inr rfl)) (hd : (x == ("__debug__" : Str)) = false := by decide)
    (hcd : (x == ("__classdict__" : Str)) = false := by decide) (hs : starEach (.Name x p :: es) X.env = (false, eval (.Name x p) X.env) :: starEach es X.env := by rfl) : DCa X (.Name x p :: es) (tCons (tVar i) tca) (cS i uca) := ⟨pa_cons (pe_var hN hv hd hcd) hr.pa hs, rca_s hr.ra⟩
theorem de_call {x : Str} {S : DSp} {k j : Nat} (kn : Kn X.prog X.w X.K X.mg X.base k x S) (hr : RoomG j X.A) (hk : k ≤ j) (ha : DCa X (e :: es) tca uca) (hg : Gl X x := by rfl) (hdb : (x == ("__debug__" : Str)) = false := by decide)
    (he : starEach (e :: es) X.env = (false, eval e X.env) :: starEach es X.env := by rfl) (hpl : (backTo pos (starEach es X.env)).any (·.1) = false := by rfl) : DE X (.Call (.Name x p) (e :: es) [] pos) (tCall (spD X.K S) [] E0 tca) (dCall S uca) := by
  obtain ⟨f, fd, ps, F, hm, kp, b⟩ := kn.ex
  exact ⟨pe_callG F (hr.mono hk) hg hm kp b .nil pass0 ha.pa hdb he hpl, re_call ha.ra⟩
theorem de_call0 {x : Str} {S : DSp} {k j : Nat} (kn : Kn X.prog X.w X.K X.mg X.base k x S) (hr : RoomG j X.A) (hk : k ≤ j) (hg : Gl X x := by rfl) (hdb : (x == ("__debug__" : Str)) = false := by decide) :
    DE X (.Call (.Name x p) [] [] pos) (tCall (spD X.K S) [] E0 tNil) (dCall S cNil) := by
  obtain ⟨f, fd, ps, F, hm, kp, b⟩ := kn.ex
  exact ⟨pe_callG0 F (hr.mono hk) hg hm kp b .nil pass0 hdb, re_call rca_nil⟩

/-- a def that hands back a new list -/
structure KnN (P : Program) (w : World) (K : PySem.W.Frag) (mg : Str → Option Value) (base : Heap) (k : Nat) (x : Str) (S : DSn) : Prop where
  ex : ∃ (f : Addr) (fd : FuncData) (ps : List Str), FnOkG P w K mg base CX0 k f fd ps (spN K S) ∧ mg x = some (.ref f) ∧ PySem.W.keepIn K (.ref f) = true ∧ Binds K fd ps []
theorem ds_callOwn (i : Nat) {x y : Str} {cpos : Pos} {S : DSn} {k j : Nat} (hN : X.N.Nodup) (kn : KnN X.prog X.w X.K X.mg X.base k x S) (hr : RoomG j X.A) (hk : k ≤ j) (ha : DCa X (e :: es) tca uca) (hi : X.N[i]? = some y := by rfl) (hx : Loc X.env.scope y := by first | exact Or.inl rfl | exact Or.inr rfl)
    (hs : swapsWith (.Call (.Name x p) (e :: es) [] cpos) (some (.Name y p2)) pos.line X.env = pure false := by rfl) (hf : X.fn y = true ∨ X.env.scope.names.lookup y = some .local := by first | exact .inl rfl | exact .inr rfl | assumption)
    (hg : Gl X x := by rfl) (hdb : (x == ("__debug__" : Str)) = false := by decide)
    (he : starEach (e :: es) X.env = (false, eval e X.env) :: starEach es X.env := by rfl) (hpl : (backTo cpos (starEach es X.env)).any (·.1) = false := by rfl) :
    DS X (.Assign [.Name y p2] (.Call (.Name x p) (e :: es) [] cpos) pos) (tAsg (tCall (spN X.K S) [] E0 tca) (gName i)) (fun E δ => dCallOwn i S uca E.nx δ) := by
  obtain ⟨f, fd, ps, F, hm, kp, b⟩ := kn.ex
  exact ⟨ps_set hN hi hx (pe_callG F (hr.mono hk) hg hm kp b .nil pass0 ha.pa hdb he hpl) hs hf, rs_callOwn ha.ra⟩
theorem ds_retNew (he : DA X es tr ur) : DS X (.Return (some (.List es p)) pos) (tRet (tLst tr)) (dRetNew ur) := ⟨ps_ret (pe_lst he.pa), rs_retNew he.ra⟩
/-! ### statements -/
theorem dss_nil : DSs X [] tNext dNext := ⟨pss_nil, rs_next⟩
theorem dss_cons {st : Stmt} {rest : List Stmt} (h1 : DS X st t u) (h2 : DSs X rest t' u') : DSs X (st :: rest) (tSeq t t') (dSeq u u') := ⟨pss_cons h1.ps h2.ps, rs_seq h1.rs h2.rs⟩
theorem dss_one {st : Stmt} (h1 : DS X st t u) : DSs X [st] t u := ⟨pss_one h1.ps, h1.rs⟩
theorem ds_pass : DS X (.Pass pos) tNext dNext := ⟨ps_pass, rs_next⟩
theorem ds_break : DS X (.Break pos) tBreak dBreak := ⟨ps_break, rs_break⟩
theorem ds_cont : DS X (.Continue pos) tCont dCont := ⟨ps_continue, rs_cont⟩
theorem ds_expr (he : DE X e te ue) (hs : swapsWith e none pos.line X.env = pure false := by rfl) : DS X (.Expr e pos) (tDrop te) (dDrop ue) := ⟨ps_expr he.pe hs, rs_drop he.re⟩
theorem ds_ret (he : DE X e te ue) : DS X (.Return (some e) pos) (tRet te) (dRet ue) := ⟨ps_ret he.pe, rs_ret he.re⟩
theorem ds_retN : DS X (.Return none pos) tRetN dRetN := ⟨ps_retN, rs_retN⟩
theorem ds_if {st st' : List Stmt} (hc : DT X c tt ut) (h1 : DSs X st t u) (h2 : DSs X st' t' u') : DS X (.If c st st' pos) (tIfS tt t t') (dIfS ut u u') := ⟨ps_if hc.pt h1.ps h2.ps, rs_if hc.rt h1.rs h2.rs⟩
theorem dg_name (i : Nat) {x : Str} (hN : X.N.Nodup) (hi : X.N[i]? = some x := by rfl) (hx : Loc X.env.scope x := by first | exact Or.inl rfl | exact Or.inr rfl) (hf : X.fn x = true ∨ X.env.scope.names.lookup x = some .local := by first | exact .inl rfl | exact .inr rfl | assumption) :
    DG X (.Name x pos) (gName i) (dgName i) [i] := ⟨pg_name hN hi hx hf, rg_name⟩
theorem dgs_nil : DGs X [] gNil dgNil [] := ⟨pgs_nil, rgs_nil⟩
theorem dgs_cons {g : TG} {ug : DTG} {gs : TGs} {ugs : DTGs} {js js' : List Nat} (h1 : DG X e g ug js) (h2 : DGs X es gs ugs js') (hs : (assignEach (e :: es) X.env).map (·.2) = assign e X.env :: (assignEach es X.env).map (·.2) := by rfl) :
    DGs X (e :: es) (gCons g gs) (dgCons ug ugs) (js ++ js') := ⟨pgs_cons h1.pg h2.pg hs, rgs_cons h1.rg h2.rg⟩
theorem dg_tup {gs : TGs} {ugs : DTGs} {js : List Nat} {k n : Nat} (hc : X.calm = true) (h : DGs X es gs ugs js) (hn : (assignEach es X.env).length = n := by rfl) (hst : (assignEach es X.env).findIdx? (·.1) = none := by rfl) : DG X (.Tuple es k pos) (gTup X.K n gs) (dgTup n ugs) js :=
  ⟨pg_tup hc h.pg hn hst, rg_tup h.rg⟩
theorem ds_set (i : Nat) {x : Str} (hN : X.N.Nodup) (he : DE X e te ue) (hi : X.N[i]? = some x := by rfl) (hx : Loc X.env.scope x := by first | exact Or.inl rfl | exact Or.inr rfl) (hs : swapsWith e (some (.Name x p)) pos.line X.env = pure false := by rfl)
    (hf : X.fn x = true ∨ X.env.scope.names.lookup x = some .local := by first | exact .inl rfl | exact .inr rfl | assumption) : DS X (.Assign [.Name x p] e pos) (tAsg te (gName i)) (dAsg ue (dgName i)) := ⟨ps_set hN hi hx he.pe hs hf, rs_asg he.re rg_name⟩
theorem ds_setTup {g : TG} {ug : DTG} {js : List Nat} (he : DE X e te ue) (hg : DG X a g ug js) (hs : swapsWithSole [a] e pos.line X.env = pure false := by rfl) (hw : swappedStores [a] e X.env = pure none := by rfl)
    (h1 : (assignEach [a] X.env).map (·.2) = [assign a X.env] := by rfl) : DS X (.Assign [a] e pos) (tAsg te g) (dAsg ue ug) := ⟨ps_asg he.pe hg.pg hs hw h1, rs_asg he.re hg.rg⟩
/-- xs = [..], to change -/
theorem ds_own (i : Nat) {x : Str} (hN : X.N.Nodup) (he : DA X es tr ur) (hi : X.N[i]? = some x := by rfl) (hx : Loc X.env.scope x := by first | exact Or.inl rfl | exact Or.inr rfl) (hs : swapsWith (.List es p2) (some (.Name x p)) pos.line X.env = pure false := by rfl)
    (hf : X.fn x = true ∨ X.env.scope.names.lookup x = some .local := by first | exact .inl rfl | exact .inr rfl | assumption) : DS X (.Assign [.Name x p] (.List es p2) pos) (tAsg (tLst tr) (gName i)) (dAsgOwn i ur) := ⟨ps_set hN hi hx (pe_lst he.pa) hs hf, rs_asgOwn he.ra⟩
theorem ds_setI (i : Nat) {x : Str} (he : DE X e te ue) (hb : DE X b tb ub) (hN : X.N[i]? = some x := by rfl) (hv : Vis X.env.scope x := by first | exact Or.inl rfl | exact Or.inr (Or.inl rfl) | exact Or.inr (Or.inr rfl)) (hd : (x == ("__debug__" : Str)) = false := by decide)
    (hcd : (x == ("__classdict__" : Str)) = false := by decide)
    (hs : swapsWithSole [.Subscript (.Name x p) b p2] e pos.line X.env = pure false := by rfl) (hw : swappedStores [.Subscript (.Name x p) b p2] e X.env = pure none := by rfl) (h1 : (assignEach [.Subscript (.Name x p) b p2] X.env).map (·.2) = [assign (.Subscript (.Name x p) b p2) X.env] := by rfl)
    (ha : ∀ v, assign (.Subscript (.Name x p) b p2) X.env v = (do
      let ov ← holding [v] (eval (.Name x p) X.env)
      let iv ← holding [v, ov] (eval b X.env)
      standAt p2
      holding [v, ov, iv] (setItem ov iv v)
      release [v, ov, iv] []) := by intro _; rfl) :
    DS X (.Assign [.Subscript (.Name x p) b p2] e pos) (tAsg te (gSub (tVar i) tb rSetL)) (dSetI i ue ub) := ⟨ps_asg he.pe (pg_sub (pe_var hN hv hd hcd) hb.pe set_list ha) hs hw h1, rs_setI he.re hb.re⟩
theorem ds_aug (i : Nat) {x : Str} {op : Operator} {f : Int → Int → Int} (hN : X.N.Nodup) (ho : PIp X op (ipI f)) (he : DE X e te ue) (hi : X.N[i]? = some x := by rfl) (hx : Loc X.env.scope x := by first | exact Or.inl rfl | exact Or.inr rfl)
    (hf : X.fn x = true ∨ X.env.scope.names.lookup x = some .local := by first | exact .inl rfl | exact .inr rfl | assumption) : DS X (.AugAssign (.Name x p) op e pos) (tAug i te (ipI f)) (dAug f i ue) := ⟨ps_aug hN hi hx he.pe ho hf, rs_aug he.re⟩
theorem di_list (h : DE X e te ue) : DI X a e (iList X.K te) (diL ue) := ⟨pi_list h.pe, ri_list h.re⟩
theorem di_tup (h : DE X e te ue) : DI X a e (iTup X.K te) (diT ue) := ⟨pi_tup h.pe, ri_tup h.re⟩
theorem di_str (h : DE X e te ue) : DI X a e (iStr te) (diS ue) := ⟨pi_str h.pe, ri_str h.re⟩
theorem di_r1 (hm : X.mg "range" = none) (h : DE X e te ue) (hg : Gl X "range" := by rfl) (hs : starEach [e] X.env = [(false, eval e X.env)] := by rfl) : DI X a (.Call (.Name "range" p) [e] [] pos) (iRng1 (tCons te tNil)) (diR1 ue) := ⟨pi_range1 hg hm (pa_cons h.pe pa_nil hs) hs, ri_r1 h.re⟩
theorem di_r2 (hm : X.mg "range" = none) (h : DE X e te ue) (h' : DE X b tb ub) (hg : Gl X "range" := by rfl) (hs : starEach [e, b] X.env = [(false, eval e X.env), (false, eval b X.env)] := by rfl) (hs2 : starEach [b] X.env = [(false, eval b X.env)] := by rfl) :
    DI X a (.Call (.Name "range" p) [e, b] [] pos) (iRng2 (tCons te (tCons tb tNil))) (diR2 ue ub) := ⟨pi_range2 hg hm (pa_cons h.pe (pa_cons h'.pe pa_nil hs2) (by rw [hs, hs2])) hs hs2, ri_r2 h.re h'.re⟩
theorem ds_for {g : TG} {ug : DTG} {js : List Nat} {w : TI} {uw : DTI} {body : List Stmt} (hp : PassesOwn (model X.prog X.w) X.A X.env X.xe) (hc : X.calm = true) (hi : DI X a e w uw) (hg : DG X a g ug js) (hb : DSs X body t u) (hs : ∀ x, foldedSetIterable e X.env x = pure x := by intro _; rfl) :
    DS X (.For a e body [] pos) (tFor w g t) (dFor uw ug u) := ⟨ps_for hp hc hi.pi hg.pg hb.ps hs, rs_for hi.ri hg.rg hb.rs⟩
theorem ds_while {body : List Stmt} (hp : PassesOwn (model X.prog X.w) X.A X.env X.xe) (hc : DT X c tt ut) (hb : DSs X body t u) : DS X (.While c body [] pos) (tWhile tt t) (dWhile ut u) := ⟨ps_while hp hc.pt hb.ps, rs_while hc.rt hb.rs⟩
theorem ds_app (i : Nat) {x : Str} {apos cpos : Pos} (he : DE X e te ue) (pb : PE X (.Call (.Attribute (.Name x p) "append" apos) [e] [] cpos) (tBM X.K "list" rAppend (tVar i) (tCons te tNil))) (hs : swapsWith (.Call (.Attribute (.Name x p) "append" apos) [e] [] cpos) none pos.line X.env = pure false := by rfl) :
    DS X (.Expr (.Call (.Attribute (.Name x p) "append" apos) [e] [] cpos) pos) (tDrop (tBM X.K "list" rAppend (tVar i) (tCons te tNil))) (dApp i ue) := ⟨ps_expr pb hs, rs_app he.re⟩
/-! ### comprehensions -/
structure DTs (X : Cx) (ifs : List Expr) (t : TT) (u : DTT) : Prop where
  pt : PTs X ifs t
  rt : RT X.K t u
theorem dts_nil : DTs X [] tYes dYes := ⟨pts_nil, rt_yes⟩
theorem dts_one (h : DT X c tt ut) : DTs X [c] tt ut := ⟨pts_one h.pt, h.rt⟩
theorem de_lc {elt tg iter : Expr} {ifs : List Expr} {scope : Scope} (own : List (Str × Nat)) {w : TI} {uw : DTI} {g : TG} {ug : DTG} {js : List Nat} (hc : X.calm = true) (hN : X.N.Nodup) (hi : DI X tg iter w uw) (ok : BlkOk X.N X.env.scope scope own)
    (hg : ∀ (s : Shared) (H : Hp) (C : Addr) (cl : List (Str × Addr)) (fp : List Addr), DG (X.blk s H scope (compEnvC scope cl C X.env) fp) tg g ug js) (ht : ∀ (s : Shared) (H : Hp) (C : Addr) (cl : List (Str × Addr)) (fp : List Addr), DTs (X.blk s H scope (compEnvC scope cl C X.env) fp) ifs tt ut)
    (he : ∀ (s : Shared) (H : Hp) (C : Addr) (cl : List (Str × Addr)) (fp : List Addr), DE (X.blk s H scope (compEnvC scope cl C X.env) fp) elt te ue) (hj : ∀ j ∈ js, j ∈ own.map (·.2)) (hs : ∀ x, foldedSetIterable iter X.env x = pure x := by intro _; rfl) :
    DE X (.ListComp elt [⟨tg, iter, ifs, 0⟩] scope pos) (tLc w g tt te (own.map (·.2))) (dLc uw ug ut ue (own.map (·.2))) :=
  ⟨pe_lc hc hN hi.pi ok (fun a b c d e => (hg a b c d e).pg) (fun a b c d e => (ht a b c d e).pt) (fun a b c d e => (he a b c d e).pe) hs,
   re_lc hi.ri (hg X.s_0 X.H_0 0 [] []).rg (ht X.s_0 X.H_0 0 [] []).rt (he X.s_0 X.H_0 0 [] []).re hj⟩
theorem ds_setLc (i : Nat) {y : Str} {py spos : Pos} {elt tg iter : Expr} {ifs : List Expr} {scope : Scope} (own : List (Str × Nat)) {w : TI} {uw : DTI} {g : TG} {ug : DTG} {js : List Nat} (hc : X.calm = true) (hN : X.N.Nodup) (hi : DI X tg iter w uw) (ok : BlkOk X.N X.env.scope scope own)
    (hg : ∀ (s : Shared) (H : Hp) (C : Addr) (cl : List (Str × Addr)) (fp : List Addr), DG (X.blk s H scope (compEnvC scope cl C X.env) fp) tg g ug js) (ht : ∀ (s : Shared) (H : Hp) (C : Addr) (cl : List (Str × Addr)) (fp : List Addr), DTs (X.blk s H scope (compEnvC scope cl C X.env) fp) ifs tt ut)
    (he : ∀ (s : Shared) (H : Hp) (C : Addr) (cl : List (Str × Addr)) (fp : List Addr), DE (X.blk s H scope (compEnvC scope cl C X.env) fp) elt te ue) (hj : ∀ j ∈ js, j ∈ own.map (·.2))
    (hsw : swapsWith (.ListComp elt [⟨tg, iter, ifs, 0⟩] scope pos) (some (.Name y py)) spos.line X.env = pure true) (hy : X.N[i]? = some y := by rfl) (hyl : X.env.scope.names.lookup y = some .local := by rfl) (hs : ∀ x, foldedSetIterable iter X.env x = pure x := by intro _; rfl) :
    DS X (.Assign [.Name y py] (.ListComp elt [⟨tg, iter, ifs, 0⟩] scope pos) spos) (tAsg (tLc w g tt te (own.map (·.2))) (gName i)) (dAsg (dLc uw ug ut ue (own.map (·.2))) (dgName i)) :=
  ⟨ps_setLc hc hN hy hyl hsw hi.pi ok (fun a b c d e => (hg a b c d e).pg) (fun a b c d e => (ht a b c d e).pt) (fun a b c d e => (he a b c d e).pe) hs,
   rs_asg (re_lc hi.ri (hg X.s_0 X.H_0 0 [] []).rg (ht X.s_0 X.H_0 0 [] []).rt (he X.s_0 X.H_0 0 [] []).re hj) rg_name⟩
end
end TL

set_option Elab.async false
set_option linter.all false
set_option maxRecDepth 100000
set_option maxHeartbeats 2000000
/-! TL9: small dicts, min, max; what stands of texts; a look at what is shaped. -/
namespace TL
open PySem PySem.Spec L2
variable [XW]

section
variable {K : PySem.W.Frag} {ta tb : TE} {ua ub : DTE}
/-- a dict that will not change any more -/
def tFix (t : TE) : TE := fun σ H Q => t σ H fun v H1 => ∃ (a : Addr) (kvs : List (Key × V)), v = .ref a ∧ H1 a = some (.dK kvs) ∧ ∀ o : Obj, Q v (upd H1 a (.frz o (.dK kvs)))
theorem pe_fix {X : Cx} {e : Expr} {t : TE} (h : PE X e t) : PE X e (tFix t) := by
  refine ⟨fun pins s σ H Q I hw => thn (h.run pins s σ H _ I hw) fun v s1 ⟨x, H1, I1, r, a, kvs, ex, ea, q⟩ => ?_⟩
  obtain ⟨od, I2⟩ := I1.lock ea (by trivial)
  exact ⟨x, _, I2, r, q od⟩
theorem re_dict0 : RE K (tFix tDNewK) (dC (.dict [])) := fun c σ G H δ Q R E h k p hp => by
  refine ⟨p, [], rfl, upd_same, fun o => ?_⟩
  rw [upd_upd]
  have A := Al.new (o := .frz o (.dK [])) E.ex hp
  exact k _ δ _ _ _ h (E.al A) A.g (.dic upd_same .nil rfl)
theorem re_dict1 {x : Str} {v : V} {d : PyData} (hv : ∀ G, Rp K G v d) : RE K (tFix (tDisp [(tC (.str x), tC v)])) (dC (.dict [(.str x, d)])) := fun c σ G H δ Q R E h k p hp => by
  refine ⟨upd_same, [(.inr x, v)], rfl, by show 1 ≤ 15; decide, p, _, rfl, upd_same, fun o => ?_⟩
  rw [upd_upd, upd_upd]
  have A := Al.new (o := .frz o (.dK (mergeK [] [((.inr x : Key), v)]))) E.ex hp
  exact k _ δ _ _ _ h (E.al A) A.g (.dic upd_same (.cons (k := Sum.inr x) (hv _) .nil) rfl)
def rMax2 : List V → Hp → VK → Prop := fun xs H Q => ∃ i j, xs = [.int i, .int j] ∧ Q (.int (if j > i then j else i)) H
def rMin2 : List V → Hp → VK → Prop := fun xs H Q => ∃ i j, xs = [.int i, .int j] ∧ Q (.int (if j < i then j else i)) H
def dII (f : Int → Int → Int) (ua ub : DTE) : DTE := fun δ R => ua δ fun d1 δ1 => ub δ1 fun d2 δ2 => match d1, d2 with
  | .int i, .int j => R (.int (f i j)) δ2
  | _, _ => False
theorem re_max2 (ha : RE K ta ua) (hb : RE K tb ub) : RE K (tCB rMax2 (tCons ta (tCons tb tNil))) (dII (fun i j => if j > i then j else i) ua ub) := by
  intro c σ G H δ Q R E h k
  refine ha c σ G H δ _ _ E h fun d1 δ1 v1 G1 H1 h1 E1 e1 r1 => ?_
  refine hb c σ G1 H1 δ1 _ _ E1 h1 fun d2 δ2 v2 G2 H2 h2 E2 e2 r2 => ?_
  cases d1 <;> cases d2 <;> first
    | exact False.elim h2
    | exact ⟨_, _, by rw [r1.int_of, r2.int_of], k _ δ2 _ G2 H2 h2 E2 (e1.trans e2) (.int _)⟩
theorem re_min2 (ha : RE K ta ua) (hb : RE K tb ub) : RE K (tCB rMin2 (tCons ta (tCons tb tNil))) (dII (fun i j => if j < i then j else i) ua ub) := by
  intro c σ G H δ Q R E h k
  refine ha c σ G H δ _ _ E h fun d1 δ1 v1 G1 H1 h1 E1 e1 r1 => ?_
  refine hb c σ G1 H1 δ1 _ _ E1 h1 fun d2 δ2 v2 G2 H2 h2 E2 e2 r2 => ?_
  cases d1 <;> cases d2 <;> first
    | exact False.elim h2
    | exact ⟨_, _, by rw [r1.int_of, r2.int_of], k _ δ2 _ G2 H2 h2 E2 (e1.trans e2) (.int _)⟩
theorem r1_neg : R1 K (rU fun i => .int (-i)) (fun d R => match d with
  | .int i => R (.int (-i))
  | _ => False) := by
  intro G H x d Q R e r h k
  cases d <;> first
    | exact False.elim h
    | exact ⟨_, r.int_of, k _ _ G H h (Al.refl e) (.int _)⟩
end
section
variable {X : Cx} {a b e v : Expr} {ta tb te tv : TE} {ua ub ue uv : DTE} {pos p : Pos}
theorem de_dict0 : DE X (.Dict [] [] pos) (tFix tDNewK) (dC (.dict [])) := ⟨pe_fix pe_dnewK, re_dict0⟩
theorem de_dict1 {x : Str} {j : Nat} {q : Pos} {y : V} {d : PyData} (hv : PE X v (tC y)) (hr : ∀ G, Rp X.K G y d) : DE X (.Dict [some (.Constant (.str x) j q)] [v] pos) (tFix (tDisp [(tC (.str x), tC y)])) (dC (.dict [(.str x, d)])) :=
  ⟨pe_fix (pe_disp (pps_cons pe_str hv pps_nil) rfl rfl (by simp) (by show 1 ≤ 15; decide)), re_dict1 hr⟩
theorem de_un {op : UnaryOp} {r : V → Hp → VK → Prop} {rd : R1D} (ho : UnR X (unaryOp op) r) (hr : R1 X.K r rd) (ha : DE X a ta ua) : DE X (.UnaryOp op a pos) (tUn r ta) (dUn rd ua) := ⟨pe_un ho ha.pe, re_un ha.re hr⟩
theorem de_max2 (hm : X.mg "max" = none) (ha : DE X a ta ua) (hb : DE X b tb ub) (hc : X.calm = true := by rfl) (hg : Gl X "max" := by rfl) (hs : starEach [a, b] X.env = (false, eval a X.env) :: starEach [b] X.env := by rfl) (hs2 : starEach [b] X.env = (false, eval b X.env) :: starEach [] X.env := by rfl) (hpl : (backTo pos (starEach [b] X.env)).any (·.1) = false := by rfl) :
    DE X (.Call (.Name "max" p) [a, b] [] pos) (tCB rMax2 (tCons ta (tCons tb tNil))) (dII (fun i j => if j > i then j else i) ua ub) := ⟨pe_callB (call_max2 hc) hg hm PyProof.Rows.boot_max (pa_cons ha.pe (pa_cons hb.pe pa_nil hs2) hs) (by decide) (by decide) hs hpl, re_max2 ha.re hb.re⟩
theorem de_min2 (hm : X.mg "min" = none) (ha : DE X a ta ua) (hb : DE X b tb ub) (hc : X.calm = true := by rfl) (hg : Gl X "min" := by rfl) (hs : starEach [a, b] X.env = (false, eval a X.env) :: starEach [b] X.env := by rfl) (hs2 : starEach [b] X.env = (false, eval b X.env) :: starEach [] X.env := by rfl) (hpl : (backTo pos (starEach [b] X.env)).any (·.1) = false := by rfl) :
    DE X (.Call (.Name "min" p) [a, b] [] pos) (tCB rMin2 (tCons ta (tCons tb tNil))) (dII (fun i j => if j < i then j else i) ua ub) := ⟨pe_callB (call_min2 hc) hg hm PyProof.Rows.boot_min (pa_cons ha.pe (pa_cons hb.pe pa_nil hs2) hs) (by decide) (by decide) hs hpl, re_min2 ha.re hb.re⟩
end

/-! ### the law's own run -/
def spLaw (K : PySem.W.Frag) : Sp := fun vs H Q _ => ∃ (a : Addr) (ns : List Int), vs = [.ref a] ∧ SqL K H a (ns.map V.int) ∧ ns.length ≤ 63 ∧ ∀ H', Q (.bl true) H'
/-- by data: handed in are at most 63 ints, True comes out -/
def S_law : DSp := fun as R => ∃ ns : List Int, ns.length ≤ 63 ∧ as = [.scr (ns.map PyData.int)] ∧ R (.bool true) []
theorem ints_rp {K : PySem.W.Frag} {G : Hp} : ∀ ns : List Int, RpAll K G (ns.map V.int) (ns.map PyData.int)
  | [] => .nil
  | n :: r => .cons (.int n) (ints_rp r)
theorem law_by {P : Program} {w : World} {K : PySem.W.Frag} {mg : Str → Option Value} {base : Heap} {k : Nat} {f : Addr} {fd : FuncData} {ps : List Str} (F : FnOkG P w K mg base CX0 k f fd ps (spD K S_law)) : FnOkG P w K mg base CX0 k f fd ps (spLaw K) :=
  F.imp fun vs H Q E h => by
    obtain ⟨a, ns, rfl, hS, hl, q⟩ := h
    refine ⟨⟨fun _ => 0, 0, H, H, []⟩, [.scr (ns.map PyData.int)], fun d outs => d = .bool true, rfl, rfl, ?_, ⟨ns, hl, rfl, rfl⟩, fun d outs v G' H' hd _ r => ?_⟩
    · exact {
        g0 := Ex.refl _, ex := Ex.refl _, fr := fun a o h _ => h, fs := fun a h _ => h
        tg := fun j hj => absurd hj (Nat.not_lt_zero j)
        len := rfl
        sl := fun i s h => by
          cases i with
          | zero =>
            cases (show some (Sl.scr (ns.map PyData.int)) = some s from h)
            exact ⟨a, _, rfl, hS, ints_rp ns⟩
          | succ i => simp at h
        ap := fun i j t1 d1 t2 d2 hij h1 h2 => by
          cases i with
          | zero => cases (show some (Sl.scr (ns.map PyData.int)) = some (.own t1 d1) from h1)
          | succ i => simp at h1
        hd := fun p xs h => nomatch h
        bx := BoxOk.none fun i b h => by
          cases i with
          | zero => cases (show some (Sl.scr (ns.map PyData.int)) = some (.box b) from h)
          | succ i => simp at h }
    · subst hd
      rw [r.bl_of]
      exact q H'
end TL

set_option Elab.async false
set_option linter.all false
set_option maxRecDepth 100000
set_option maxHeartbeats 4000000
/-! TLs: what the readings are reckoned with. -/
namespace TL
open PySem PySem.Spec L2
variable [XW]
theorem kb_ss : kitB "str" "str" = some true := by decide +kernel
theorem kb_ns : kitB "NoneType" "str" = some false := by decide +kernel
theorem kb_bs : kitB "bool" "str" = some false := by decide +kernel
theorem kb_is : kitB "int" "str" = some false := by decide +kernel
theorem kb_ls : kitB "list" "str" = some false := by decide +kernel
theorem kb_ts : kitB "tuple" "str" = some false := by decide +kernel
theorem kb_ds : kitB "dict" "str" = some false := by decide +kernel
theorem kb_bb : kitB "bool" "bool" = some true := by decide +kernel
theorem sh_int (i : Int) : SeqAt.shaped (.int i) = true := rfl
theorem sh_bool (b : Bool) : SeqAt.shaped (.bool b) = true := rfl
theorem sh_none : SeqAt.shaped .none = true := rfl
theorem sh_str {x : Str} (h : PyData.strOk x = true) : SeqAt.shaped (.str x) = true := by
  unfold SeqAt.shaped
  rw [Bool.and_eq_true]
  exact ⟨by simpa [PyData.canLay0] using h, rfl⟩
theorem ev_ii (i j : Int) : PyData.eqv (.int i) (.int j) = (i == j) := by simp [PyData.eqv]
theorem ev_bb (i j : Bool) : PyData.eqv (.bool i) (.bool j) = (i == j) := by simp [PyData.eqv]
theorem ev_ss (i j : Str) : PyData.eqv (.str i) (.str j) = (i == j) := by simp [PyData.eqv]
/-- codes that a text may have -/
def okC (z : Str) : Prop := ∀ c ∈ z.cps.toList, c < 1114112
theorem strOk_of {z : Str} (h : okC z) : PyData.strOk z = true := by
  unfold PyData.strOk
  rw [← Array.all_toList, List.all_eq_true]
  intro c hc
  exact decide_eq_true (h c hc)
/-- one sign below another -/
theorem lt_one {a b : Nat} : decide (([a] : List Nat) < [b]) = decide (a < b) := by
  apply decide_eq_decide.mpr
  constructor
  · intro h
    cases h with
    | rel h => exact h
    | cons h => cases h
  · intro h
    exact List.Lex.rel h
theorem lt_one' {a b : Nat} : ([a] : List Nat) < [b] ↔ a < b := by
  have := lt_one (a := a) (b := b)
  simpa using this
theorem le_one' {a b : Nat} : ([a] : List Nat) ≤ [b] ↔ a ≤ b := by
  show ¬ (([b] : List Nat) < [a]) ↔ _
  rw [lt_one']
  omega
theorem cps_a : (Str.ofString "a").cps.toList = [97] := by decide +kernel
theorem cps_z : (Str.ofString "z").cps.toList = [122] := by decide +kernel
theorem cps_one (c : Nat) : (Str.mk #[c]).cps.toList = [c] := rfl
theorem len_one (c : Nat) : (Str.mk #[c]).length = 1 := rfl

end TL

set_option Elab.async false
set_option linter.all false
set_option maxRecDepth 100000
set_option maxHeartbeats 4000000
/-! TLd: the drawing hand; comprehensions by filter and map. -/
namespace TL
open PySem PySem.Spec L2
def S_hand : DSn := fun as R => ∃ (ns : List Int) (k : Int), as = [.scr (ns.map PyData.int), .dat (.int k)] ∧ ns.length ≤ 63 ∧ (0 ≤ k ∧ k ≤ 63) ∧ ∀ x y : Int, 0 ≤ x → 0 ≤ y → y < 2147483648 → R [.int x, .int y] []
/-- a hand -/
def okH (x y : Int) : Prop := 0 ≤ x ∧ 0 ≤ y ∧ y < 2147483648
def S_draw : DSp := fun as R => ∃ x y n : Int, as = [.own (some 0) [.int x, .int y], .dat (.int n)] ∧ okH x y ∧ (0 < n ∧ n < 1073741824) ∧
  ∀ r x' y' : Int, (0 ≤ r ∧ r < n) → okH x' y' → R (.int r) [[.int x', .int y']]
theorem call_draw {i : Nat} {u : DTE} {δ : List Sl} {R : DQ} {t : Option Nat} {x y n : Int} (hs : δ[i]? = some (.own t [.int x, .int y])) (hv : okH x y) (hn : 0 < n ∧ n < 1073741824) (hu : ∀ Q : DQ, Q (.int n) δ → u δ Q)
    (k : ∀ r x' y' : Int, (0 ≤ r ∧ r < n) → okH x' y' → R (.int r) (δ.set i (.own t [.int x', .int y']))) : dCall S_draw (cS i (cD u cNil)) δ R := by
  refine ⟨by rw [hs]; rfl, hu _ ?_⟩
  have hm : muts δ [.s i, .d (.int n)] = [i] := by
    show (match δ[i]? with
      | some (.own _ _) => i :: muts δ [.d (.int n)]
      | _ => muts δ [.d (.int n)]) = [i]
    rw [hs]
    rfl
  have ha : asOf δ [.s i, .d (.int n)] 0 = [.own (some 0) [.int x, .int y], .dat (.int n)] := by
    show (match δ[i]? with
      | some (.own _ ds) => Sl.own (some 0) ds :: asOf δ [.d (.int n)] 1
      | some (.scr ds) => .scr ds :: asOf δ [.d (.int n)] 0
      | _ => .no :: asOf δ [.d (.int n)] 0) = _
    rw [hs]
    rfl
  show (muts δ [.s i, .d (.int n)]).Nodup ∧ S_draw (asOf δ [.s i, .d (.int n)] 0) fun d outs => outs.length = (muts δ [.s i, .d (.int n)]).length ∧ R d (setOuts δ (muts δ [.s i, .d (.int n)]) outs)
  rw [hm, ha]
  refine ⟨by simp, x, y, n, rfl, hv, hn, fun r x' y' hr hv' => ⟨rfl, ?_⟩⟩
  have e : setOuts δ [i] [[.int x', .int y']] = δ.set i (.own t [.int x', .int y']) := by
    show setOut δ i [.int x', .int y'] = _
    unfold setOut
    rw [hs]
  rw [e]
  exact k r x' y' hr hv'
theorem outs1 {δ : List Sl} {cs : List PyData} (i : Nat) (h : δ[i]? = some (.own (some 0) cs)) : OutsIn δ [cs] := fun j ds hj => by
  cases j with
  | zero =>
    have e : cs = ds := by simpa using hj
    exact ⟨i, by rw [← e]; exact h⟩
  | succ j => simp at hj
/-- a comprehension that changes nothing -/
theorem lc_fm {vs : List Nat} {g : DTG} {t : DTT} {u : DTE} {R : List PyData → List Sl → Prop} (p : PyData → Bool) (f : PyData → PyData) {δ0 : List Sl} : ∀ (ds acc : List PyData) (δ : List Sl), wipeS δ vs = δ0 → acc.length + ds.length ≤ 16777216 →
    (∀ d ∈ ds, ∀ (Y : PyData → List Sl → Prop) (N : List Sl → Prop), (p d = true → ∀ δ3, wipeS δ3 vs = δ0 → Y (f d) δ3) → (p d = false → ∀ δ2, wipeS δ2 vs = δ0 → N δ2) → g d δ0 (fun δ1 => t δ1 fun b δ2 => if b = true then u δ2 Y else N δ2)) →
    wipeS δ0 vs = δ0 → (∀ δ', wipeS δ' vs = δ0 → R (acc ++ (ds.filter p).map f) δ') → lcW vs g t u R ds acc δ
  | [], acc, δ, h0, hl, hs, h00, k => by
    have z := k δ h0
    simp at z
    exact z
  | d :: r, acc, δ, h0, hl, hs, h00, k => by
    show g d (wipeS δ vs) fun δ1 => t δ1 fun b δ2 => if b = true then u δ2 fun y δ3 => acc.length < sizeLine ∧ lcW vs g t u R r (acc ++ [y]) (wipeS δ3 vs) else lcW vs g t u R r acc (wipeS δ2 vs)
    rw [h0]
    have hl' : acc.length + r.length + 1 ≤ 16777216 := by
      rw [List.length_cons] at hl
      omega
    refine hs d List.mem_cons_self (fun y δ3 => acc.length < sizeLine ∧ lcW vs g t u R r (acc ++ [y]) (wipeS δ3 vs)) _ (fun hp δ3 h3 => ⟨by rw [sizeLine_eq]; omega, ?_⟩) (fun hp δ2 h2 => ?_)
    · rw [h3]
      refine lc_fm p f r (acc ++ [f d]) δ0 h00 (by rw [List.length_append, List.length_singleton]; omega) (fun d' hd' => hs d' (List.mem_cons_of_mem _ hd')) h00 fun δ' h' => ?_
      have z := k δ' h'
      rw [List.filter_cons, if_pos hp, List.map_cons] at z
      rw [List.append_assoc]
      exact z
    · rw [h2]
      refine lc_fm p f r acc δ0 h00 (by omega) (fun d' hd' => hs d' (List.mem_cons_of_mem _ hd')) h00 fun δ' h' => ?_
      have z := k δ' h'
      rw [List.filter_cons, if_neg (by rw [hp]; decide)] at z
      exact z
theorem at0 {α : Type} (a : α) (l : List α) : atI (a :: l) 0 = some a := by
  unfold atI ixN
  rw [if_pos (by decide), if_pos (by simp only [List.length_cons]; omega)]
  rfl
theorem at1 {α : Type} (a b : α) (l : List α) : atI (a :: b :: l) 1 = some b := by
  unfold atI ixN
  rw [if_pos (by decide), if_pos (by simp only [List.length_cons]; omega)]
  rfl
theorem ix20 : ixN 2 0 = some 0 := rfl
theorem ix21 : ixN 2 1 = some 1 := rfl
theorem cutP_map (ns : List Int) (lo hi : Option Int) : ∃ ms : List Int, cutP (ns.map PyData.int) lo hi = ms.map PyData.int ∧ ms.length ≤ ns.length := by
  refine ⟨(ns.drop (HT.sIx ns.length 0 lo)).take (HT.sIx ns.length ns.length hi - HT.sIx ns.length 0 lo), ?_, ?_⟩
  · unfold cutP
    rw [List.length_map, List.map_take, List.map_drop]
  · rw [List.length_take, List.length_drop]
    omega
theorem cell_at (ns : List Int) (lo hi : Option Int) : ∃ z : Int, atI (cutP (ns.map PyData.int) lo hi ++ [PyData.int 0]) 0 = some (.int z) := by
  obtain ⟨ms, e, _⟩ := cutP_map ns lo hi
  rw [e]
  cases ms with
  | nil => exact ⟨0, rfl⟩
  | cons m r => exact ⟨m, at0 _ _⟩
theorem nat_le_size {n : Nat} (h : n ≤ 16777216) : n ≤ sizeLine := by
  rw [sizeLine_eq]
  exact h
end TL

set_option Elab.async false
set_option linter.all false
set_option maxRecDepth 100000
set_option maxHeartbeats 4000000
/-! TLe: calls by their kinds; loops by an invariant; texts. -/
namespace TL
open PySem PySem.Spec L2
theorem asOf_d (δ : List Sl) : ∀ (ds : List PyData) (j : Nat), asOf δ (ds.map CA.d) j = ds.map Sl.dat
  | [], _ => rfl
  | d :: r, j => by
    show Sl.dat d :: asOf δ (r.map CA.d) j = _
    rw [asOf_d δ r j]
    rfl
theorem muts_d (δ : List Sl) : ∀ ds : List PyData, muts δ (ds.map CA.d) = []
  | [] => rfl
  | d :: r => muts_d δ r
/-- a call by data alone -/
theorem call_pure {S : DSp} {ua : DCA} {δ : List Sl} {R : DQ} (ds : List PyData) (hu : ∀ Q : List CA → List Sl → Prop, Q (ds.map CA.d) δ → ua δ Q) (k : S (ds.map Sl.dat) fun d outs => outs = [] ∧ R d δ) (mono : ∀ R R' : PyData → List (List PyData) → Prop, (∀ d o, R d o → R' d o) → S (ds.map Sl.dat) R → S (ds.map Sl.dat) R') : dCall S ua δ R := by
  refine hu _ ?_
  rw [muts_d, asOf_d]
  refine ⟨List.nodup_nil, mono _ _ (fun d o h => ?_) k⟩
  obtain ⟨rfl, h⟩ := h
  exact ⟨rfl, h⟩
/-- a call that may change the list in slot i, its first argument -/
theorem call_own1 {S : DSp} {ua : DCA} {δ : List Sl} {R : DQ} {i : Nat} {t : Option Nat} {cs : List PyData} (hs : δ[i]? = some (.own t cs)) (ds : List PyData) (hu : ∀ Q : List CA → List Sl → Prop, Q (ds.map CA.d) δ → ua δ Q)
    (k : S (.own (some 0) cs :: ds.map Sl.dat) fun d outs => ∃ o, outs = [o] ∧ R d (δ.set i (.own t o))) (mono : ∀ R R' : PyData → List (List PyData) → Prop, (∀ d o, R d o → R' d o) → S (.own (some 0) cs :: ds.map Sl.dat) R → S (.own (some 0) cs :: ds.map Sl.dat) R') : dCall S (cS i ua) δ R := by
  refine ⟨by rw [hs]; rfl, hu _ ?_⟩
  have hm : muts δ (.s i :: ds.map CA.d) = [i] := by
    show (match δ[i]? with
      | some (.own _ _) => i :: muts δ (ds.map CA.d)
      | _ => muts δ (ds.map CA.d)) = [i]
    rw [hs, muts_d]
  have ha : asOf δ (.s i :: ds.map CA.d) 0 = .own (some 0) cs :: ds.map Sl.dat := by
    show (match δ[i]? with
      | some (.own _ ds') => Sl.own (some 0) ds' :: asOf δ (ds.map CA.d) 1
      | some (.scr ds') => .scr ds' :: asOf δ (ds.map CA.d) 0
      | _ => .no :: asOf δ (ds.map CA.d) 0) = _
    rw [hs, asOf_d]
  show (muts δ (.s i :: ds.map CA.d)).Nodup ∧ S (asOf δ (.s i :: ds.map CA.d) 0) fun d outs => outs.length = (muts δ (.s i :: ds.map CA.d)).length ∧ R d (setOuts δ (muts δ (.s i :: ds.map CA.d)) outs)
  rw [hm, ha]
  refine ⟨by simp, mono _ _ (fun d o h => ?_) k⟩
  obtain ⟨o, rfl, h⟩ := h
  refine ⟨rfl, ?_⟩
  have e : setOuts δ [i] [o] = δ.set i (.own t o) := by
    show setOut δ i o = _
    unfold setOut
    rw [hs]
  rw [e]
  exact h
/-- a new hand -/
theorem call_hand {i j q : Nat} {δ : List Sl} {E : List Sl → Prop} {ns : List Int} {k : Int} (hs : δ[j]? = some (.scr (ns.map PyData.int))) (hk : δ[q]? = some (.dat (.int k))) (hl : ns.length ≤ 63) (hb : 0 ≤ k ∧ k ≤ 63)
    (h : ∀ x y : Int, okH x y → E (δ.set i (.own none [.int x, .int y]))) : dCallOwn i S_hand (cS j (cD (dVar q) cNil)) E δ := by
  refine ⟨by rw [hs]; rfl, ?_⟩
  show dVar q δ _
  unfold dVar
  rw [hk]
  have hm : muts δ [.s j, .d (.int k)] = [] := by
    show (match δ[j]? with
      | some (.own _ _) => j :: muts δ [.d (.int k)]
      | _ => muts δ [.d (.int k)]) = []
    rw [hs]
    rfl
  have ha : asOf δ [.s j, .d (.int k)] 0 = [.scr (ns.map PyData.int), .dat (.int k)] := by
    show (match δ[j]? with
      | some (.own _ ds) => Sl.own (some 0) ds :: asOf δ [.d (.int k)] 1
      | some (.scr ds) => .scr ds :: asOf δ [.d (.int k)] 0
      | _ => .no :: asOf δ [.d (.int k)] 0) = _
    rw [hs]
    rfl
  show (muts δ [.s j, .d (.int k)]).Nodup ∧ S_hand (asOf δ [.s j, .d (.int k)] 0) fun ds outs => outs.length = (muts δ [.s j, .d (.int k)]).length ∧ E ((setOuts δ (muts δ [.s j, .d (.int k)]) outs).set i (.own none ds))
  rw [hm, ha]
  exact ⟨List.nodup_nil, ns, k, rfl, hl, hb, fun x y a b c => ⟨rfl, h x y ⟨a, b, c⟩⟩⟩
theorem for_inv {g : DTG} {u : DTS} {E : DEnds} (I : List Sl → Prop) (he : ∀ δ, I δ → E.nx δ) : ∀ (ds : List PyData) (δ : List Sl), I δ →
    (∀ d ∈ ds, ∀ δ, I δ → ∀ N : List Sl → Prop, (∀ δ', I δ' → N δ') → g d δ fun δ1 => u { E with nx := N, ct := N, bk := E.nx } δ1) → forW g u E ds δ
  | [], δ, hi, _ => he δ hi
  | d :: r, δ, hi, hs => hs d List.mem_cons_self δ hi _ fun δ' h' => for_inv I he r δ' h' fun d' hd' => hs d' (List.mem_cons_of_mem _ hd')
/-- texts -/
theorem okC_cut {z : Str} (h : okC z) (lo hi : Option Int) : okC (cutS z lo hi) := fun c hc => by
  have hc : c ∈ (z.cps.toList.drop (HT.sIx z.length 0 lo)).take (HT.sIx z.length z.length hi - HT.sIx z.length 0 lo) := hc
  exact h c (List.mem_of_mem_drop (List.mem_of_mem_take hc))
theorem tl_app (x y : Str) : (x ++ y).cps.toList = x.cps.toList ++ y.cps.toList := TL.tl_append x y
theorem okC_app {x y : Str} (hx : okC x) (hy : okC y) : okC (x ++ y) := fun c hc => by
  rw [tl_app, List.mem_append] at hc
  exact hc.elim (hx c) (hy c)
theorem len_app (x y : Str) : (x ++ y).length = x.length + y.length := PySem.Str.length_append x y
theorem okC_one {c : Nat} (h : c < 1114112) : okC ⟨#[c]⟩ := fun d hd => by
  have e : d = c := by simpa using hd
  rw [e]
  exact h
theorem mul01 {x : Str} {i : Int} (h0 : 0 ≤ i) (h1 : i < 2) : (Txt.mul x i = Str.empty) ∨ Txt.mul x i = x := by
  have hi : i = 0 ∨ i = 1 := by omega
  rcases hi with rfl | rfl
  · left
    unfold Txt.mul
    rw [if_pos (by decide)]
  · right
    unfold Txt.mul
    rw [if_neg (by decide), if_pos (by simp)]
theorem join_ones : ∀ cs : List Nat, Txt.join (Str.ofString "") (cs.map fun c => (⟨#[c]⟩ : Str)) = ⟨cs.toArray⟩ := fun cs => by
  apply TL.ext_tl
  rw [TL.join_eq]
  show TL.tl (Str.join _ _) = cs
  rw [TL.tl_join]
  have e0 : TL.tl (Str.ofString "") = [] := by decide +kernel
  rw [e0]
  induction cs with
  | nil => rfl
  | cons c r ih =>
    cases r with
    | nil => rfl
    | cons d r =>
      show [c] ++ ([] ++ TL.joinL [] _) = c :: d :: r
      rw [List.nil_append]
      exact congrArg (c :: ·) ih
theorem strsOf_ones : ∀ cs : List Nat, strsOf (cs.map fun c => PyData.str ⟨#[c]⟩) = some (cs.map fun c => (⟨#[c]⟩ : Str))
  | [] => rfl
  | c :: r => by
    show (strsOf (r.map fun c => PyData.str ⟨#[c]⟩)).map _ = _
    rw [strsOf_ones r]
    rfl
end TL

set_option Elab.async false
set_option linter.all false
set_option maxRecDepth 100000
set_option maxHeartbeats 4000000
/-! TLp: slices of texts with a step; sums, greatest; find; the set of a list of ints, sorted. -/
namespace TL
open PySem PySem.Spec L2
variable [XW]

/-! ### z[a:b:k] -/
def sliceS (z : Str) (a b k : Int) : Str :=
  if (k == 1 && (Builtin.Str.strSliceIndices (some a) (some b) k z.length).length == z.length) = true then z
  else ⟨((Builtin.Str.strSliceIndices (some a) (some b) k z.length).filterMap (z.cps[·]?)).toArray⟩
def tSlStep (te ta tb tk : TE) : TE := fun σ H Q => te σ H fun x H1 => ta σ H1 fun a H2 => tb σ H2 fun b H3 => tk σ H3 fun k H4 =>
  ∃ z i j n, x = .str z ∧ a = .int i ∧ b = .int j ∧ k = .int n ∧ n ≠ 0 ∧ z.length ≤ sizeLine ∧ Q (.str (sliceS z i j n)) H4
section
variable {X : Cx} {e a b k : Expr} {te ta tb tk : TE} {pos p2 : Pos}
open PyProof.Rows in
theorem pe_slStep (he : PE X e te) (ha : PE X a ta) (hb : PE X b tb) (hk : PE X k tk) : PE X (.Subscript e (.Slice (some a) (some b) (some k) p2) pos) (tSlStep te ta tb tk) := by
  refine ⟨fun pins s σ H Q I h => ?_⟩
  refine PyProof.Rows.Subscript_ (thn (he.run pins s σ H _ I h) fun v s1 ⟨x, H1, I1, r1, q1⟩ => ?_)
  refine wpAny_Slice ?_
  rw [evalPart_some]
  refine thn (ha.run pins s1 σ H1 _ I1 q1) fun va s2 ⟨x2, H2, I2, r2, q2⟩ => ?_
  rw [evalPart_some]
  refine thn (hb.run pins s2 σ H2 _ I2 q2) fun vb s3 ⟨x3, H3, I3, r3, q3⟩ => ?_
  rw [evalPart_some]
  refine thn (hk.run pins s3 σ H3 _ I3 q3) fun vk s4 ⟨x4, H4, I4, r4, q4⟩ => ?_
  obtain ⟨z, i, j, n, rfl, rfl, rfl, rfl, hn, hz, q⟩ := q4
  obtain ⟨t1, rfl⟩ := r1
  obtain ⟨t2, rfl⟩ := r2
  obtain ⟨t3, rfl⟩ := r3
  obtain ⟨t4, rfl⟩ := r4
  have I5 : Inv X pins σ H4 { s4 with heap := s4.heap.push { cls := .type "slice", data := .fields #[.int i t2, .int j t3, .int n t4] } } := I4.kept (t' := s4.toks) fun b ob q => Heap.get?_push_of_some _ q
  refine tail_any (ops := [.ref s4.heap.objs.size, .str z t1]) (typeIs_str _ _ _) F.slot_str_getitem.lookup ?_ (by with_unfolding_all rfl)
  refine wpAny_getItem_str_slice (l := some (i, t2)) (u := some (j, t3)) (st := some (n, t4)) ⟨_, Heap.get?_push_size _ rfl, rfl, rfl⟩ (by simpa using hn) ?_
  unfold sliceMade slicePicked
  unfold sliceS at q
  show Made.post (if (n == 1 && (Builtin.Str.strSliceIndices (some i) (some j) n z.length).length == z.length) = true then Made.val (.str z t1) else _) _ _
  by_cases c : (n == 1 && (Builtin.Str.strSliceIndices (some i) (some j) n z.length).length == z.length) = true
  · rw [if_pos c] at q ⊢
    exact ⟨.str z, H4, I5, ⟨_, rfl⟩, q⟩
  · rw [if_neg c] at q ⊢
    refine ⟨?_, .str _, H4, I5.tok _, ⟨_, rfl⟩, q⟩
    show (((Builtin.Str.strSliceIndices (some i) (some j) n z.length).filterMap (z.cps[·]?)).toArray).size ≤ sizeLine
    rw [List.size_toArray]
    exact Nat.le_trans (List.length_filterMap_le _ _) (Nat.le_trans (sliceIndicesBy_le _ _ n hn z.length) hz)
def dSlStep (ue ua ub uk : DTE) : DTE := fun δ R => ue δ fun d δ1 => ua δ1 fun d1 δ2 => ub δ2 fun d2 δ3 => uk δ3 fun d3 δ4 => match d, d1, d2, d3 with
  | .str z, .int i, .int j, .int n => (n ≠ 0 ∧ z.length ≤ sizeLine) ∧ R (.str (sliceS z i j n)) δ4
  | _, _, _, _ => False
theorem re_slStep {K : PySem.W.Frag} {ue ua ub uk : DTE} (he : RE K te ue) (ha : RE K ta ua) (hb : RE K tb ub) (hk : RE K tk uk) : RE K (tSlStep te ta tb tk) (dSlStep ue ua ub uk) := by
  intro c σ G H δ Q R E h kk
  refine he c σ G H δ _ _ E h fun d δ1 v G1 H1 h1 E1 e1 r => ?_
  refine ha c σ G1 H1 δ1 _ _ E1 h1 fun d1 δ2 v1 G2 H2 h2 E2 e2 r1 => ?_
  refine hb c σ G2 H2 δ2 _ _ E2 h2 fun d2 δ3 v2 G3 H3 h3 E3 e3 r2 => ?_
  refine hk c σ G3 H3 δ3 _ _ E3 h3 fun d3 δ4 v3 G4 H4 h4 E4 e4 r3 => ?_
  cases d <;> first
    | exact False.elim h4
    | skip
  cases d1 <;> first
    | exact False.elim h4
    | skip
  cases d2 <;> first
    | exact False.elim h4
    | skip
  cases d3 <;> first
    | exact False.elim h4
    | skip
  exact ⟨_, _, _, _, r.str_of, r1.int_of, r2.int_of, r3.int_of, h4.1.1, h4.1.2, kk _ δ4 _ G4 H4 h4.2 E4 (((e1.trans e2).trans e3).trans e4) (.str _)⟩
theorem de_slStep {ue ua ub uk : DTE} (he : DE X e te ue) (ha : DE X a ta ua) (hb : DE X b tb ub) (hk : DE X k tk uk) : DE X (.Subscript e (.Slice (some a) (some b) (some k) p2) pos) (tSlStep te ta tb tk) (dSlStep ue ua ub uk) :=
  ⟨pe_slStep he.pe ha.pe hb.pe hk.pe, re_slStep he.re ha.re hb.re hk.re⟩
end

/-! ### sums, the greatest, find -/
def intsOf : List PyData → Option (List Int)
  | [] => some []
  | .int x :: r => (intsOf r).map (x :: ·)
  | _ :: _ => none
theorem intsOf_map : ∀ ns : List Int, intsOf (ns.map PyData.int) = some ns
  | [] => rfl
  | n :: r => by
    show (intsOf (r.map PyData.int)).map _ = _
    rw [intsOf_map r]
    rfl
section
variable {K : PySem.W.Frag} {ta tb : TE} {ua ub : DTE}
theorem ints_of_rp {G : Hp} : ∀ {ds : List PyData} {xs : List V} {ys : List Int}, RpAll K G xs ds → intsOf ds = some ys → xs = ys.map V.int
  | _, _, _, .nil, h => by
    cases h
    rfl
  | d :: ds, _, ys, .cons (v := v) (vs := vs) r rr, h => by
    cases d <;> first
      | (cases h; done)
      | skip
    rename_i x
    have h : (intsOf ds).map (x :: ·) = some ys := h
    cases q : intsOf ds with
    | none =>
      rw [q] at h
      cases h
    | some zs =>
      rw [q] at h
      cases h
      rw [ints_of_rp rr q, r.int_of]
      rfl
def dSum (u : DTE) : DTE := fun δ R => u δ fun d δ1 => match d with
  | .list ds => (match intsOf ds with
    | some ns => R (.int ns.sum) δ1
    | none => False)
  | _ => False
theorem re_sum (ha : RE K ta ua) : RE K (tCB (rSum K) (tCons ta tNil)) (dSum ua) := by
  intro c σ G H δ Q R E h k
  refine ha c σ G H δ _ _ E h fun d δ1 v G1 H1 h1 E1 e1 r => ?_
  cases d <;> first
    | exact False.elim h1
    | skip
  rename_i ds
  have h1 : (match intsOf ds with
    | some ns => R (.int ns.sum) δ1
    | none => False) := h1
  obtain ⟨a, xs, rfl, q1, q2⟩ := r.lst_of
  cases q : intsOf ds with
  | none =>
    rw [q] at h1
    exact h1.elim
  | some ns =>
    rw [q] at h1
    exact ⟨a, ns, rfl, .inl (.inl (by rw [← ints_of_rp q2 q]; exact E1.ex _ _ q1)), k _ δ1 _ G1 H1 h1 E1 e1 (.int _)⟩
/-- the greatest of a list that is not empty -/
def dMaxL (u : DTE) : DTE := fun δ R => u δ fun d δ1 => match d with
  | .list ds => (match intsOf ds with
    | some ns => 0 < ns.length ∧ ∀ m, m ∈ ns → (∀ y, y ∈ ns → y ≤ m) → R (.int m) δ1
    | none => False)
  | _ => False
theorem re_maxL (ha : RE K ta ua) : RE K (tCB (rMax K) (tCons ta tNil)) (dMaxL ua) := by
  intro c σ G H δ Q R E h k
  refine ha c σ G H δ _ _ E h fun d δ1 v G1 H1 h1 E1 e1 r => ?_
  cases d <;> first
    | exact False.elim h1
    | skip
  rename_i ds
  have h1 : (match intsOf ds with
    | some ns => 0 < ns.length ∧ ∀ m, m ∈ ns → (∀ y, y ∈ ns → y ≤ m) → R (.int m) δ1
    | none => False) := h1
  obtain ⟨a, xs, rfl, q1, q2⟩ := r.lst_of
  cases q : intsOf ds with
  | none =>
    rw [q] at h1
    exact h1.elim
  | some ns =>
    rw [q] at h1
    exact ⟨a, ns, rfl, .inl (.inl (by rw [← ints_of_rp q2 q]; exact E1.ex _ _ q1)), h1.1, fun m hm hy => k _ δ1 _ G1 H1 (h1.2 m hm hy) E1 e1 (.int _)⟩
def rFind : V → List V → Hp → VK → Prop := fun x xs H Q => ∃ a b, x = .str a ∧ xs = [.str b] ∧ Q (.int (Txt.find a b)) H
def dFind (ua ub : DTE) : DTE := fun δ R => ua δ fun d1 δ1 => match d1 with
  | .str a => ub δ1 fun d2 δ2 => (match d2 with
    | .str b => R (.int (Txt.find a b)) δ2
    | _ => False)
  | _ => False
theorem re_find (ha : RE K ta ua) (hb : RE K tb ub) : RE K (tM1 rFind ta tb) (dFind ua ub) := by
  intro c σ G H δ Q R E h k
  refine ha c σ G H δ _ _ E h fun d1 δ1 v1 G1 H1 h1 E1 e1 r1 => ?_
  cases d1 <;> first
    | exact False.elim h1
    | skip
  rename_i a
  refine ⟨⟨a, r1.str_of⟩, ?_⟩
  refine hb c σ G1 H1 δ1 _ _ E1 h1 fun d2 δ2 v2 G2 H2 h2 E2 e2 r2 => ?_
  cases d2 <;> first
    | exact False.elim h2
    | exact ⟨a, _, r1.str_of, by rw [r2.str_of], k _ δ2 _ G2 H2 h2 E2 (e1.trans e2) (.int _)⟩
end
section
variable {X : Cx} {a b : Expr} {ta tb : TE} {ua ub : DTE} {pos p : Pos}
theorem de_sum1 (hm : X.mg "sum" = none) (ha : DE X a ta ua) (hc : X.calm = true := by rfl) (hg : Gl X "sum" := by rfl) (hv : bootBuiltins "sum" = some (.builtin "sum") := by decide +kernel) (hs : starEach [a] X.env = (false, eval a X.env) :: starEach [] X.env := by rfl) (hpl : (backTo pos (starEach [] X.env)).any (·.1) = false := by rfl) :
    DE X (.Call (.Name "sum" p) [a] [] pos) (tCB (rSum X.K) (tCons ta tNil)) (dSum ua) := ⟨pe_callB (cr_sum hc) hg hm hv (pa_cons ha.pe pa_nil hs) (by decide) (by decide) hs hpl, re_sum ha.re⟩
theorem de_max1 (hm : X.mg "max" = none) (ha : DE X a ta ua) (hc : X.calm = true := by rfl) (hg : Gl X "max" := by rfl) (hs : starEach [a] X.env = (false, eval a X.env) :: starEach [] X.env := by rfl) (hpl : (backTo pos (starEach [] X.env)).any (·.1) = false := by rfl) :
    DE X (.Call (.Name "max" p) [a] [] pos) (tCB (rMax X.K) (tCons ta tNil)) (dMaxL ua) := ⟨pe_callB (cr_max hc) hg hm PyProof.Rows.boot_max (pa_cons ha.pe pa_nil hs) (by decide) (by decide) hs hpl, re_maxL ha.re⟩
theorem de_m_find {apos : Pos} (ha : DE X a ta ua) (hb : DE X b tb ub) (hs : starEach [b] X.env = [(false, eval b X.env)] := by rfl) (hbase : attributeBase a "find" X.env (eval a X.env) = eval a X.env := by rfl) (hline : (apos.endLine == pos.line) = true := by rfl) :
    DE X (.Call (.Attribute a "find" apos) [b] [] pos) (tM1 rFind ta tb) (dFind ua ub) := ⟨pe_m1 F.slot_str_find F.type_str_find mt_find ha.pe hb.pe hs hbase hline, re_find ha.re hb.re⟩
end
end TL

set_option Elab.async false
set_option linter.all false
set_option maxRecDepth 100000
set_option maxHeartbeats 4000000
/-! TLq: the set of a list of ints, made by the type's call; sorted of it. -/
namespace TL
open PySem PySem.Spec PyProof.Rows L2
variable [XW]
/-- a set without members, as it is laid -/
abbrev setE (w : World) : Obj := { cls := .type "set", dict := none, data := .set #[] 0 (.fresh 0 0 (!w.params.followText "set-order")) }
section
variable {P : Program} {w : World} {A : Around} {E : Value → Shared → Prop} {s : Shared}
/-- what is known behind the filling -/
def Filled (w : World) (s : Shared) (ns : List Int) (s2 : Shared) : Prop := ∃ (g : Heap) (k n : Nat), s2 = { s with heap := g, toks := k } ∧ SetR w g s.heap.objs.size (fun j => decide (j ∈ ns)) n ∧ n ≤ ns.length ∧ ∀ b o, s.heap.get? b = some o → g.get? b = some o
set_option maxHeartbeats 4000000 in
theorem fill_list {l : Addr} {its : Array Value} {ns : List Int} (calm : A.handled = none) (L : s.heap.IsList l its) (hit : IntsAre its.toList ns) (room : ns.length + 1 < scanBound) :
    codeAny (model P w) A (.call (.builtin "set.__init__") ⟨[.ref s.heap.objs.size, .ref l], []⟩) (wants (fun r s2 => r = .none ∧ Filled w s ns s2) E) { s with heap := s.heap.push (setE w) } := by
  have e0 : (s.heap.push (setE w)).get? s.heap.objs.size = some (setE w) := Heap.get?_push_size _ rfl
  have ty : Shared.TypeIs { s with heap := s.heap.push (setE w) } (.ref s.heap.objs.size) "set" := ⟨_, e0, rfl⟩
  have isz : its.size = ns.length := by
    have q := IntsAre.length hit
    rwa [Array.length_toList] at q
  refine codeAny_call_builtin F.called_set.init.plain F.entry_set_init (check_set_init_1 ty ?_)
  have L1 : (s.heap.push (setE w)).IsList l its := L.push _
  obtain ⟨⟨oc, od, ob, os⟩, ho, hc, n0, hd⟩ := L
  simp only at hc hd
  subst hc hd
  have hlt : l < s.heap.objs.size := Heap.lt_size ho
  have ho1 : (s.heap.push (setE w)).get? l = some { cls := .type "list", dict := od, data := .seq its n0, slots := os } := Heap.get?_push_of_some _ ho
  have f1 := F.sub_list_set
  have f2 := F.sub_list_frozenset
  have f3 : (Value.type "list" == Value.type "dict") = false := by decide
  unfold Builtin.«set.__init__» noKeywords Builtin.Frozenset.updateFrom
  generalize hp : pyIter = PI
  wp_walk
  subst hp
  refine wpAny_pyIter_list L1 ?_
  refine wpAny_bind (wpAny_runValue ?_)
  have c3 : A.in1.in1.handled = none := by simp [calm]
  have n1 : (s.heap.push (setE w)).objs.size = s.heap.objs.size + 1 := Heap.size_push ..
  have n2 : l ≠ (s.heap.push (setE w)).objs.size := by
    rw [n1]
    exact Nat.ne_of_lt (Nat.lt_succ_of_lt hlt)
  have n3 : s.heap.objs.size ∉ [(s.heap.push (setE w)).objs.size, l] := by
    rw [n1]
    intro z
    rcases List.mem_cons.mp z with z | z
    · exact absurd z (Nat.ne_of_lt (Nat.lt_succ_self _))
    · exact absurd (List.mem_singleton.mp z) (Nat.ne_of_gt hlt)
  have vals : ∀ (i : Nat) (v : Value), its[i]? = some v → ∃ k t, ns[i]? = some k ∧ v = .int k t := fun i v hv => by
    have hi : i < ns.length := by
      rw [← isz]
      exact (Array.getElem?_eq_some_iff.mp hv).1
    obtain ⟨t, e⟩ := IntsAre.int_at hit i v (by rw [Array.getElem?_toList]; exact hv)
    refine ⟨ns[i], t, List.getElem?_eq_getElem hi, ?_⟩
    rw [e, List.getD_eq_getElem?_getD, List.getElem?_eq_getElem hi]
    rfl
  refine set_update_ints ((Walks.list c3 _ l n2 its).toS) s.heap.objs.size n3 ns isz room vals (its.size - 0) 0 _ (by omega) (Nat.zero_le _) ?_ ?_ ?_
  · exact ⟨⟨_, Heap.get?_push_size _ rfl, rfl, rfl⟩, L1.push _⟩
  · exact ⟨0, Nat.le_refl 0, setR_new_at (Heap.get?_push_of_some _ e0)⟩
  · intro s3 n mv hn S
    obtain ⟨g, gs, dr, tk, oo⟩ := s3
    obtain rfl : gs = s.gens := mv.gens
    obtain rfl : dr = s.drawn := mv.drawn
    obtain rfl : oo = s.os := mv.os
    show wpAny _ _ _ _ _ _
    refine wpAny_pure ?_
    show wpAny _ _ (ret Value.none) _ _ _
    refine wpAny_pure ⟨rfl, g, tk, n, rfl, S, by rw [isz] at hn; exact hn, fun b o e => ?_⟩
    have b0 : b < s.heap.objs.size := Heap.lt_size e
    refine mv.heap b o (fun z => ?_) (Heap.get?_push_of_some _ (Heap.get?_push_of_some _ e))
    rcases List.mem_cons.mp z with z | z
    · exact absurd z (Nat.ne_of_lt b0)
    · have z := List.mem_singleton.mp z
      rw [n1] at z
      exact absurd z (Nat.ne_of_lt (Nat.lt_succ_of_lt b0))
/-- set(xs), xs a list of ints -/
theorem set_of_ints {l : Addr} {its : Array Value} {ns : List Int} {Q : Value → Shared → Prop} (calm : A.handled = none) (L : s.heap.IsList l its) (hit : IntsAre its.toList ns) (room : ns.length + 1 < scanBound)
    (k : ∀ s2, Filled w s ns s2 → Q (.ref s.heap.objs.size) s2) : wpAny (model P w) A (call (.type "set") [.ref l]) Q E s := by
  obtain ⟨m1, m2, m3⟩ := F.called_set.mro; have m4 := F.called_set.made; have m5 := F.called_set.sub
  refine wpAny_call (codeAny_of_tree ?tree); case tree =>
  show wpAny _ _ (callAny (.type "set") ⟨[.ref l], []⟩) _ _ _
  refine wpAny_pure ⟨Code.quiet_builtin _ (by decide +kernel), codeAny_builtin F.entry_type_call ?body⟩; case body =>
  rw [Around.under_plain (weight_type_call_type "set" [.ref l] []) rfl]; have m6 := F.called_set.notType; have m7 := F.called_set.canCreate; have m8 := F.typeCall_set_1 (.ref l)
  repeat (any_goals first | assumption | wp_step)
  refine codeAny_mono (code_set_led1 (.ref l) (E := E) (Q₁ := fun v s1 => v = .ref s.heap.objs.size ∧ s1 = { s with heap := s.heap.push (setE w) }) ⟨rfl, rfl⟩) ?after
  case after =>
    rintro (e | f) s1 hr
    · exact hr
    · cases f with
      | ret v =>
        obtain ⟨rfl, rfl⟩ := hr
        have e0 : (s.heap.push (setE w)).get? s.heap.objs.size = some (setE w) := Heap.get?_push_size _ rfl
        have ty : Shared.TypeIs { s with heap := s.heap.push (setE w) } (.ref s.heap.objs.size) "set" := ⟨_, e0, rfl⟩
        have i1 := F.called_set.init.lookup; have i2 := F.called_set.init.bind (.ref s.heap.objs.size)
        repeat (any_goals first | assumption | wp_step)
        refine codeAny_mono (fill_list (E := E) (by first | exact calm | simp [calm]) L hit room) ?done
        case done =>
          rintro (e | f) s2 hr2
          · exact hr2
          · cases f with
            | ret r =>
              obtain ⟨rfl, hf⟩ := hr2
              repeat (any_goals first | assumption | wp_step)
              exact k _ hf
            | _ => exact hr2.elim
      | _ => exact hr.elim
end
/-! ### over the layer -/
section
variable {X : Cx}
/-- set(xs) -/
def rSetI (K : PySem.W.Frag) (w : World) : List V → Hp → VK → Prop := fun xs H Q => ∃ (a : Addr) (ns : List Int), xs = [V.ref a] ∧ SqL K H a (ns.map V.int) ∧ ns.length < 60 ∧
  ∀ (p : Addr) (n : Nat), H p = none → n ≤ ns.length → Q (.ref p) (upd H p (SetO w p (fun j => decide (j ∈ ns)) n))
theorem cr_setI (hc : X.calm = true) : CallR X (.type "set") (rSetI X.K X.w) := by
  intro pins s σ H xs us Q I r h
  obtain ⟨a, ns, rfl, hS, hl, q⟩ := h
  rw [Vals.ref1 r]
  obtain ⟨its, rv, pl, hz⟩ := I.list hS
  refine set_of_ints (I.ok.hd hc) pl.isList (by rw [List.toList_toArray]; exact ints_of_vals rv) (by unfold scanBound; omega) fun s2 hf => ?_
  obtain ⟨g, k, n, rfl, S, hn, kept⟩ := hf
  have free : H s.heap.objs.size = none := I.hok.fresh (Nat.le_refl _)
  exact ⟨.ref _, _, I.laid (t' := k) kept (Nat.le_refl _) (setO_new S), rfl, q _ n free hn⟩
end
end TL

set_option Elab.async false
set_option linter.all false
set_option maxRecDepth 100000
set_option maxHeartbeats 4000000
/-! TLr: max with default=, sorted(set(ints)), tuples put together, calls by keywords alone. -/
namespace TL
open PySem PySem.Spec L2
variable [XW]
section
variable {X : Cx}
/-- max(xs, default=d) -/
def rMaxDf (K : PySem.W.Frag) : List V → List V → Hp → VK → Prop := fun xs zs H Q => ∃ (a : Addr) (ns : List Int) (d : Int), xs = [V.ref a] ∧ zs = [V.int d] ∧ SqL K H a (ns.map V.int) ∧ (ns = [] → Q (.int d) H) ∧ ∀ m, m ∈ ns → (∀ y, y ∈ ns → y ≤ m) → Q (.int m) H
theorem foldmax_in : ∀ (r : List Int) (n : Int), r.foldl max n ∈ n :: r ∧ ∀ y ∈ n :: r, y ≤ r.foldl max n
  | [], n => ⟨List.mem_cons_self, fun y hy => by rw [List.mem_singleton.mp hy]; exact Int.le_refl _⟩
  | k :: r, n => by
    obtain ⟨h1, h2⟩ := foldmax_in r (max n k)
    rw [List.foldl_cons]
    constructor
    · rcases List.mem_cons.mp h1 with e | e
      · rw [e]
        by_cases hk : n ≤ k
        · rw [Int.max_eq_right hk]
          exact List.mem_cons_of_mem _ List.mem_cons_self
        · rw [Int.max_eq_left (by omega)]
          exact List.mem_cons_self
      · exact List.mem_cons_of_mem _ (List.mem_cons_of_mem _ e)
    · intro y hy
      have top := h2 _ List.mem_cons_self
      rcases List.mem_cons.mp hy with e | hy
      · rw [e]
        exact Int.le_trans (Int.le_max_left _ _) top
      · rcases List.mem_cons.mp hy with e | hy
        · rw [e]
          exact Int.le_trans (Int.le_max_right _ _) top
        · exact h2 y (List.mem_cons_of_mem _ hy)
theorem depth_ints : ∀ ns : List Int, PyData.depthAll (ns.map PyData.int) = 0
  | [] => rfl
  | n :: r => by
    show max (PyData.depth (.int n)) (PyData.depthAll (r.map PyData.int)) = 0
    rw [depth_ints r]
    rfl
theorem cr_maxDf (hc : X.calm = true) (hu : X.A.units + 65 < cLine) : CallRK X (.builtin "max") [Str.ofString "default"] (rMaxDf X.K) := by
  intro pins s σ H xs zs us ws Q I r rz h
  obtain ⟨a, ns, d, rfl, rfl, hs, q0, q1⟩ := h
  obtain ⟨its, rv, hl, _⟩ := I.list hs
  rw [Vals.ref1 r]
  obtain ⟨u, rfl, ru⟩ := L2.vals1 rz
  obtain ⟨t, rfl⟩ := ru
  show wpAny _ _ (call (.builtin "max") [.ref a] [(Str.ofString "default", .int d t)]) _ _ _
  refine PySem.W.max_list_default (xs := ns.map PyData.int) (as := []) (I.ok.hd hc) hl.isList (by rw [List.toList_toArray]; exact PyProof.Rows.ints_readAll _ rv.ints) ⟨fun x hx y hy => ?_, fun x hx => ?_⟩ (by rw [depth_ints]; omega) (fun e h' tk hk => ?_) (fun y ys i v h' tk bs e hv rd hk => ?_)
  · obtain ⟨i, _, rfl⟩ := List.mem_map.mp hx
    obtain ⟨j, _, rfl⟩ := List.mem_map.mp hy
    rfl
  · obtain ⟨i, _, rfl⟩ := List.mem_map.mp hx
    exact fun z => nomatch z
  · exact ⟨.int d, H, I.kept hk, ⟨_, rfl⟩, q0 (List.map_eq_nil_iff.mp e)⟩
  · cases ns with
    | nil => cases e
    | cons n r =>
      rw [List.map_cons] at e
      obtain ⟨rfl, rfl⟩ := List.cons.inj e
      rw [PySem.W.maxD_ints] at rd
      obtain ⟨h1, h2⟩ := foldmax_in r n
      cases rd
      exact ⟨.int _, H, I.kept hk, ⟨_, rfl⟩, q1 _ h1 h2⟩
end
section
variable {K : PySem.W.Frag} {ta tb : TE} {ua ub : DTE}
def dMaxDf (u : DTE) (k : Int) : DTE := fun δ R => u δ fun d δ1 => match d with
  | .list ds => (match intsOf ds with
    | some ns => (ns = [] → R (.int k) δ1) ∧ ∀ m, m ∈ ns → (∀ y, y ∈ ns → y ≤ m) → R (.int m) δ1
    | none => False)
  | _ => False
theorem re_maxDf {k0 : Int} (ha : RE K ta ua) : RE K (tCKw (rMaxDf K) (tCons ta tNil) (tCons (tC (.int k0)) tNil)) (dMaxDf ua k0) := by
  intro c σ G H δ Q R E h k
  refine ha c σ G H δ _ _ E h fun d δ1 v G1 H1 h1 E1 e1 r => ?_
  cases d <;> first
    | exact False.elim h1
    | skip
  rename_i ds
  have h1 : (match intsOf ds with
    | some ns => (ns = [] → R (.int k0) δ1) ∧ ∀ m, m ∈ ns → (∀ y, y ∈ ns → y ≤ m) → R (.int m) δ1
    | none => False) := h1
  obtain ⟨a, xs, rfl, q1, q2⟩ := r.lst_of
  cases q : intsOf ds with
  | none =>
    rw [q] at h1
    exact h1.elim
  | some ns =>
    rw [q] at h1
    exact ⟨a, ns, k0, rfl, rfl, .inl (.inl (by rw [← ints_of_rp q2 q]; exact E1.ex _ _ q1)), fun z => k _ δ1 _ G1 H1 (h1.1 z) E1 e1 (.int _), fun m hm hy => k _ δ1 _ G1 H1 (h1.2 m hm hy) E1 e1 (.int _)⟩
/-- sorted(set(xs)), xs a list of ints -/
def dSortSet (u : DTE) : DTE := fun δ R => u δ fun d δ1 => match d with
  | .list ds => (match intsOf ds with
    | some ns => ns.length < 60 ∧ ∀ ms : List Int, ms.Pairwise (· < ·) → (∀ k, k ∈ ms ↔ k ∈ ns) → R (.list (ms.map PyData.int)) δ1
    | none => False)
  | _ => False
theorem re_sortSet {w : World} (ha : RE K ta ua) : RE K (tCB (rSortedSet w) (tCons (tCB (rSetI K w) (tCons ta tNil)) tNil)) (dSortSet ua) := by
  intro c σ G H δ Q R E h k
  refine ha c σ G H δ _ _ E h fun d δ1 v G1 H1 h1 E1 e1 r => ?_
  cases d <;> first
    | exact False.elim h1
    | skip
  rename_i ds
  have h1 : (match intsOf ds with
    | some ns => ns.length < 60 ∧ ∀ ms : List Int, ms.Pairwise (· < ·) → (∀ k, k ∈ ms ↔ k ∈ ns) → R (.list (ms.map PyData.int)) δ1
    | none => False) := h1
  obtain ⟨a, xs, rfl, q1, q2⟩ := r.lst_of
  cases q : intsOf ds with
  | none =>
    rw [q] at h1
    exact h1.elim
  | some ns =>
    rw [q] at h1
    obtain ⟨hl, h1⟩ := h1
    refine ⟨a, ns, rfl, .inl (.inl (by rw [← ints_of_rp q2 q]; exact E1.ex _ _ q1)), hl, fun p n hp hn => ?_⟩
    refine ⟨p, _, n, rfl, upd_same, by omega, fun ms p2 hs hm hlen hp2 => ?_⟩
    have A1 : Al G1 H1 G1 (upd H1 p (SetO w p (fun j => decide (j ∈ ns)) n)) := Al.tmp E1.ex hp
    have A2 := Al.new (o := .lst (ms.map V.int)) A1.ex hp2
    have A := A1.trans A2
    have rp : Rp K (upd G1 p2 (.lst (ms.map V.int))) (.ref p2) (.list (ms.map PyData.int)) := .lst upd_same (ints_rp ms)
    refine k _ δ1 _ _ _ (h1 ms hs fun j => ?_) (E1.al A) (e1.trans A.g) rp
    rw [hm j]
    exact decide_eq_true_iff
/-- two tuples put together, the one ahead not empty -/
def rdCatT : R2D := fun d1 d2 R => match d1, d2 with
  | .tuple xs, .tuple ys => 0 < xs.length ∧ xs.length + ys.length ≤ sizeLine ∧ R (.tuple (xs ++ ys))
  | _, _ => False
theorem ro_catT : RO K (rCatT K) rdCatT := by
  intro G H x y d1 d2 Q R e r1 r2 h k
  cases d1 <;> first
    | exact False.elim h
    | skip
  cases d2 <;> first
    | exact False.elim h
    | skip
  rename_i xs ys
  obtain ⟨h0, hz, h⟩ := h
  obtain ⟨a, vs, rfl, a1, a2⟩ := r1.tup_of
  obtain ⟨b, us, rfl, b1, b2⟩ := r2.tup_of
  have l1 := a2.len
  have l2 := b2.len
  refine ⟨a, b, vs, us, rfl, rfl, .inl (.inl (e _ _ a1)), .inl (.inl (e _ _ b1)), fun z => by rw [z] at l1; simp at l1; omega, by omega, fun z => ?_, fun z p hp => ?_⟩
  · subst z
    cases b2
    rw [List.append_nil] at h
    exact k _ _ G H h (Al.refl e) (.tup a1 a2)
  · have A := Al.new (o := .tup (vs ++ us)) e hp
    exact k _ _ _ _ h A (.tup upd_same (RpAll.app (a2.up A.g) (b2.up A.g)))
end
section
variable {X : Cx} {a b e : Expr} {ta tb : TE} {ua ub : DTE} {pos p p2 pk : Pos}
theorem de_maxDf {k0 : Int} {nm : Option Str} {v : Expr} (hm : X.mg "max" = none) (hu : X.A.units + 65 < cLine) (ha : DE X a ta ua) (hv : PE X v (tC (.int k0))) (hc : X.calm = true := by rfl) (hg : Gl X "max" := by rfl)
    (he : backTo pos (starEach [a] X.env) = (false, eval a X.env) :: backTo pos (starEach [] X.env) := by rfl) (hpl : (backTo pos (starEach [a] X.env)).any (·.1) = false := by rfl) (hs : starEach [a] X.env = (false, eval a X.env) :: starEach [] X.env := by rfl)
    (hall : (backToKw pos (keywordEach [⟨nm, v, pk⟩] X.env)).all (·.1.isSome) = true := by rfl) (hnone : (backToKw pos (keywordEach [⟨nm, v, pk⟩] X.env)).any (·.1.isNone) = false := by rfl) (hks : (backToKw pos (keywordEach [⟨nm, v, pk⟩] X.env)).filterMap (·.1) = [Str.ofString "default"] := by rfl) :
    DE X (.Call (.Name "max" p) [a] [⟨nm, v, pk⟩] pos) (tCKw (rMaxDf X.K) (tCons ta tNil) (tCons (tC (.int k0)) tNil)) (dMaxDf ua k0) :=
  ⟨pe_callBK (cr_maxDf hc hu) hg hm PyProof.Rows.boot_max (pa_cons ha.pe pa_nil hs) (pk_cons hv pk_nil) (by decide) (by decide) he hpl hall hnone hks, re_maxDf ha.re⟩
theorem de_sortSet (hm : X.mg "sorted" = none) (hm2 : X.mg "set" = none) (ha : DE X a ta ua) (hc : X.calm = true := by rfl) (hg : Gl X "sorted" := by rfl) (hg2 : Gl X "set" := by rfl)
    (hv : bootBuiltins "sorted" = some (.builtin "sorted") := by decide +kernel) (hv2 : bootBuiltins "set" = some (.type "set") := by decide +kernel)
    (hs : starEach [a] X.env = (false, eval a X.env) :: starEach [] X.env := by rfl) (hpl : (backTo p2 (starEach [] X.env)).any (·.1) = false := by rfl)
    (hs2 : starEach [.Call (.Name "set" pk) [a] [] p2] X.env = (false, eval (.Call (.Name "set" pk) [a] [] p2) X.env) :: starEach [] X.env := by rfl) (hpl2 : (backTo pos (starEach [] X.env)).any (·.1) = false := by rfl) :
    DE X (.Call (.Name "sorted" p) [.Call (.Name "set" pk) [a] [] p2] [] pos) (tCB (rSortedSet X.w) (tCons (tCB (rSetI X.K X.w) (tCons ta tNil)) tNil)) (dSortSet ua) :=
  ⟨pe_callB (cr_sortedSet hc) hg hm hv (pa_cons (pe_callTy (cr_setI hc) hg2 hm2 hv2 (pa_cons ha.pe pa_nil hs) (by decide) (by decide) hs hpl) pa_nil hs2) (by decide) (by decide) hs2 hpl2, re_sortSet ha.re⟩
end
end TL

set_option Elab.async false
set_option linter.all false
set_option maxRecDepth 100000
set_option maxHeartbeats 4000000
/-! TLk: own defs called by keywords alone. -/
namespace TL
open PySem PySem.Spec L2
variable [XW]
/-- a def that may be called by the names of its parameters, too -/
structure KnK (P : Program) (w : World) (K : PySem.W.Frag) (mg : Str → Option Value) (base : Heap) (k : Nat) (x : Str) (ks : List Str) (S : DSp) : Prop where
  ex : ∃ (f : Addr) (fd : FuncData) (ps : List Str), FnOkG P w K mg base CX0 k f fd ps (spD K S) ∧ mg x = some (.ref f) ∧ PySem.W.keepIn K (.ref f) = true ∧ KBinds K fd ps ks (fun us ws => us ++ ws) (fun us ws => us ++ ws)
section
variable {X : Cx} {CX : CXT} {k : Nat} {f : Addr} {fd : FuncData} {ps ks : List Str} {sp : Sp} {E : XK} {x : Str} {p pos pk : Pos} {kws : List Keyword} {tk : TA} {g : List Value → List Value → List Value} {gV : List V → List V → List V}
theorem pe_callK0 (F : FnOkG X.prog X.w X.K X.mg X.base CX k f fd ps sp) (hr : RoomG k X.A) (hg : Gl X x) (hm : X.mg x = some (.ref f)) (hk : PySem.W.keepIn X.K (.ref f) = true) (hb : KBinds X.K fd ps ks g gV) (hx : Passes CX X E)
    (hkw : PK X kws tk) (hall : (backToKw pos (keywordEach kws X.env)).all (·.1.isSome) = true := by rfl) (hks : (backToKw pos (keywordEach kws X.env)).filterMap (·.1) = ks := by rfl)
    (hdb : (x == ("__debug__" : Str)) = false := by decide)
    (hpl : ((backTo pos (starEach [] X.env)).any (·.1) || (backToKw pos (keywordEach kws X.env)).any (·.1.isNone)) = false := by rfl) :
    PE X (.Call (.Name x p) [] kws pos) (tCallK sp gV E tNil tk) := by
  refine ⟨fun pins s σ H Q I h => ?_⟩
  refine wpAny_Call_Name_kw (ld_glob I hg hm ?_ hdb)
  refine PySem.W.callWith_KW0 (h₀ := X.base) I.ok.mod.kin hk hall (thn (hkw.run pos pins s σ H _ I h) fun ws s2 ⟨zs, H2, I2, rz, q2⟩ => ⟨I2.kIn, ?_⟩) hpl
  rw [hks]
  exact run_fnkG F hr hb hx I2 .nil rz q2
theorem pk_of_pa : ∀ {kws : List Keyword} {t : TA}, (∃ e te nm q, kws = [⟨nm, e, q⟩] ∧ PE X e te ∧ t = tCons te tNil) → PK X kws t := fun {kws t} ⟨e, te, nm, q, h1, h2, h3⟩ => by
  subst h1 h3
  exact pk_cons h2 pk_nil
theorem de_callKw {v : Expr} {tv : TE} {uv : DTE} {nm : Option Str} {S : DSp} {j : Nat} (kn : KnK X.prog X.w X.K X.mg X.base k x ks S) (hr : RoomG j X.A) (hk : k ≤ j) (hv : DE X v tv uv) (hg : Gl X x := by rfl) (hdb : (x == ("__debug__" : Str)) = false := by decide)
    (hall : (backToKw pos (keywordEach [⟨nm, v, pk⟩] X.env)).all (·.1.isSome) = true := by rfl) (hks : (backToKw pos (keywordEach [⟨nm, v, pk⟩] X.env)).filterMap (·.1) = ks := by rfl)
    (hpl : ((backTo pos (starEach [] X.env)).any (·.1) || (backToKw pos (keywordEach [⟨nm, v, pk⟩] X.env)).any (·.1.isNone)) = false := by rfl) :
    DE X (.Call (.Name x p) [] [⟨nm, v, pk⟩] pos) (tCall (spD X.K S) [] E0 (tCons tv tNil)) (dCall S (cD uv cNil)) := by
  obtain ⟨f, fd, ps, F, hm, kp, b⟩ := kn.ex
  refine ⟨?_, re_call (rca_d hv.re rca_nil)⟩
  have q := pe_callK0 (p := p) (tk := tCons tv tNil) F (hr.mono hk) hg hm kp b pass0 (pk_cons hv.pe pk_nil) hall hks hdb hpl
  have e : tCallK (spD X.K S) (fun us ws => us ++ ws) E0 tNil (tCons tv tNil) = tCall (spD X.K S) [] E0 (tCons tv tNil) := by
    funext σ H Q
    show (tv σ H fun z H2 => spD X.K S ([] ++ [z]) H2 Q E0) = (tv σ H fun z H2 => spD X.K S ([z] ++ []) H2 Q E0)
    rfl
  rw [← e]
  exact q
end
theorem kbinds1 {K : PySem.W.Frag} {x qual : Str} {st : Stmt} {f : Addr} {fd : FuncData} {y : Str} (F : Fun K x qual st f fd)
    (h1 : ∀ (kV doc pm : Value) (an : Option Addr) (cdv ct u : Value), bindArgs (PySem.W.fnOf x qual (defArgs st) (defBody st) (defScope st) .none kV doc pm an cdv ct) ⟨[u], []⟩ = pure [(y, u)])
    (h2 : ∀ (kV doc pm : Value) (an : Option Addr) (cdv ct u : Value), bindArgs (PySem.W.fnOf x qual (defArgs st) (defBody st) (defScope st) .none kV doc pm an cdv ct) ⟨[], [(y, u)]⟩ = pure [(y, u)]) :
    KBinds K fd [y] [y] (fun us ws => us ++ ws) (fun us ws => us ++ ws) := by
  obtain ⟨oc, od, kV, doc, pm, an, cdv, ct, osl, rfl, lk, hcd⟩ := F.ex
  refine ⟨fun s us ws _ hl => ?_, fun r rz => r.append rz⟩
  rw [List.length_append] at hl
  rcases us with _ | ⟨u, us⟩
  · rcases ws with _ | ⟨u, ws⟩
    · simp at hl
    · have e : ws = [] := by
        simp at hl
        exact hl
      subst e
      exact .of_eq (h2 kV doc pm an cdv ct u)
  · have e : us = [] ∧ ws = [] := by
      constructor <;> apply List.eq_nil_of_length_eq_zero <;> simp at hl <;> omega
    obtain ⟨rfl, rfl⟩ := e
    exact .of_eq (h1 kV doc pm an cdv ct u)
end TL

set_option Elab.async false
set_option linter.all false
set_option maxRecDepth 100000
set_option maxHeartbeats 4000000
/-! TLt: calls in a comprehension; a call whose later arguments change its first; a promise that asks for nothing. -/
namespace TL
open PySem PySem.Spec L2
variable [XW]
def MonoS (S : DSp) : Prop := ∀ (as : List Sl) (R R' : PyData → List (List PyData) → Prop), (∀ d o, R d o → R' d o) → S as R → S as R'
theorem var_at {i : Nat} {δ : List Sl} {R : DQ} {d : PyData} (h : δ[i]? = some (.dat d)) (k : R d δ) : dVar i δ R := by
  unfold dVar
  rw [h]
  exact k
theorem own_tail {S : DSp} {δ : List Sl} {R : DQ} {i : Nat} {t : Option Nat} {cs : List PyData} (hs : δ[i]? = some (.own t cs)) (ds : List PyData) (mono : MonoS S)
    (k : S (.own (some 0) cs :: ds.map Sl.dat) fun d outs => ∃ o, outs = [o] ∧ R d (δ.set i (.own t o))) :
    (muts δ (.s i :: ds.map CA.d)).Nodup ∧ S (asOf δ (.s i :: ds.map CA.d) 0) fun d outs => outs.length = (muts δ (.s i :: ds.map CA.d)).length ∧ R d (setOuts δ (muts δ (.s i :: ds.map CA.d)) outs) := by
  have z := call_own1 (R := R) (ua := fun δ Q => Q (ds.map CA.d) δ) hs ds (fun Q q => q) k (mono _)
  exact z.2
theorem lc_calls {i : Nat} {S : DSp} {R : List PyData → List Sl → Prop} (mono : MonoS S) {δ0 : List Sl} (h00 : wipeS δ0 [i] = δ0) (hi : i < δ0.length) : ∀ (ps : List (PyData × PyData)) (acc : List PyData) (δ : List Sl), wipeS δ [i] = δ0 → acc.length + ps.length ≤ 16777216 →
    (∀ q ∈ ps, ∀ R' : PyData → List (List PyData) → Prop, R' q.2 [] → S [.dat q.1] R') → (∀ δ', wipeS δ' [i] = δ0 → R (acc ++ ps.map (·.2)) δ') → lcW [i] (dgName i) dYes (dCall S (cD (dVar i) cNil)) R (ps.map (·.1)) acc δ
  | [], acc, δ, h0, hl, hs, k => by
    have z := k δ h0
    rw [List.map_nil, List.append_nil] at z
    exact z
  | q :: r, acc, δ, h0, hl, hs, k => by
    have hl' : acc.length + r.length + 1 ≤ 16777216 := by
      rw [List.length_cons] at hl
      omega
    show dCall S (cD (dVar i) cNil) ((wipeS δ [i]).set i (.dat q.1)) fun y δ3 => acc.length < sizeLine ∧ lcW [i] (dgName i) dYes (dCall S (cD (dVar i) cNil)) R (r.map (·.1)) (acc ++ [y]) (wipeS δ3 [i])
    rw [h0]
    refine call_pure [q.1] (fun Q z => ?_) ?_ (mono _)
    · exact var_at (by rw [List.getElem?_set_self hi]) z
    · refine hs q List.mem_cons_self _ ⟨rfl, by rw [sizeLine_eq]; omega, ?_⟩
      have e : wipeS (δ0.set i (.dat q.1)) [i] = δ0 := by
        show (δ0.set i (.dat q.1)).set i .no = δ0
        rw [List.set_set]
        exact h00
      rw [e]
      refine lc_calls mono h00 hi r (acc ++ [q.2]) δ0 h00 (by rw [List.length_append, List.length_singleton]; omega) (fun q' hq' => hs q' (List.mem_cons_of_mem _ hq')) fun δ' h' => ?_
      have z := k δ' h'
      rw [List.map_cons] at z
      rw [List.append_assoc]
      exact z
theorem fn_none {P : Program} {w : World} {K : PySem.W.Frag} {mg : Str → Option Value} {base : Heap} {k : Nat} {f : Addr} {fd : FuncData} {ps : List Str} {S : DSp} (h : ∀ as R, ¬ S as R) : FnOkG P w K mg base CX0 k f fd ps (spD K S) :=
  ⟨fun vs H Q E ⟨_, _, _, _, _, _, z, _⟩ => absurd z (h _ _), fun A outer s H args us vs Q E _ _ _ _ ⟨_, _, _, _, _, _, z, _⟩ => absurd z (h _ _)⟩
end TL

set_option Elab.async false
set_option linter.all false
set_option maxRecDepth 100000
set_option maxHeartbeats 4000000
/-! TLi: the rules that name the frozen part of the heap, told again so that they may stand in a comprehension. -/
namespace TL
open PySem PySem.Spec L2
variable [XW]
section
variable {X : Cx} {K : PySem.W.Frag} {a b e : Expr} {es : List Expr} {ta tb te : TE} {ua ub ue : DTE} {pos p p2 : Pos} {tca : TA} {uca : DCA}
theorem de_callI {P : Program} {w : World} {mg : Str → Option Value} {base : Heap} {x : Str} {S : DSp} {k j : Nat} (kn : Kn P w K mg base k x S) (hr : RoomG j X.A) (hk : k ≤ j) (ha : DCa X (e :: es) tca uca)
    (hX : X.prog = P ∧ X.w = w ∧ X.K = K ∧ X.mg = mg ∧ X.base = base := by exact ⟨rfl, rfl, rfl, rfl, rfl⟩) (hg : Gl X x := by rfl) (hdb : (x == ("__debug__" : Str)) = false := by decide)
    (he : starEach (e :: es) X.env = (false, eval e X.env) :: starEach es X.env := by rfl) (hpl : (backTo pos (starEach es X.env)).any (·.1) = false := by rfl) : DE X (.Call (.Name x p) (e :: es) [] pos) (tCall (spD K S) [] E0 tca) (dCall S uca) := by
  obtain ⟨rfl, rfl, rfl, rfl, rfl⟩ := hX
  exact de_call kn hr hk ha hg hdb he hpl
theorem de_ixVI (i : Nat) {x : Str} (hb : DE X b tb ub) (hK : X.K = K := by rfl) (hN : X.N[i]? = some x := by rfl) (hv : Vis X.env.scope x := by first | exact Or.inl rfl | exact Or.inr (Or.inl rfl) | exact Or.inr (Or.inr rfl)) (hd : (x == ("__debug__" : Str)) = false := by decide)
    (hcd : (x == ("__classdict__" : Str)) = false := by decide) (hs : PlainIx b := by exact fun _ _ => rfl) : DE X (.Subscript (.Name x p) b pos) (tOp (rIxL K) (tVar i) tb) (dIxV i ub) := by
  subst hK
  exact de_ixV i hb hN hv hd hcd hs
theorem de_lenI {ps : Pos} (hm : X.mg "len" = none) (ha : DE X e te ue) (hK : X.K = K := by rfl) (hg : Gl X "len" := by rfl) (hs : starEach [e] X.env = (false, eval e X.env) :: starEach [] X.env := by rfl) (hpl : (backTo pos (starEach [] X.env)).any (·.1) = false := by rfl) :
    DE X (.Call (.Name "len" p) [e] [] pos) (tCB (rLen K) (tCons te tNil)) (dLen ue) := by
  subst hK
  exact de_len (ps := default) hm ha hg hs hpl
theorem de_isiI {T : String} {Tn : Str} (hm : X.mg "isinstance" = none) (hT : X.mg Tn = none) (hv : bootBuiltins Tn = some (.type T)) (ha : DE X e te ue) (hK : X.K = K := by rfl) (hg : Gl X "isinstance" := by rfl) (hgT : Gl X Tn := by rfl) (hb : bootBuiltins "isinstance" = some (.builtin "isinstance") := by decide +kernel)
    (hn : Tn ≠ "__name__" := by decide) (hd : (Tn == ("__debug__" : Str)) = false := by decide)
    (hs : starEach [e, .Name Tn p2] X.env = (false, eval e X.env) :: starEach [.Name Tn p2] X.env := by rfl) (hs2 : starEach [.Name Tn p2] X.env = (false, eval (.Name Tn p2) X.env) :: starEach [] X.env := by rfl) (hpl : (backTo pos (starEach [.Name Tn p2] X.env)).any (·.1) = false := by rfl) (hTe : kitB "" T = none := by decide +kernel) :
    DE X (.Call (.Name "isinstance" p) [e, .Name Tn p2] [] pos) (tCB (rIsi K) (tCons te (tCons (tC (.ty T)) tNil))) (dIsi T ue) := by
  subst hK
  exact de_isi hm hT hv ha hg hgT hb hn hd hs hs2 hpl hTe
end
end TL

set_option Elab.async false
set_option linter.all false
set_option maxRecDepth 100000
set_option maxHeartbeats 4000000
/-! TLm: what K03 found out and other laws want too; statements that are never reached. -/
namespace TL
open PySem PySem.Spec L2
variable [XW]
def isNon : PyData → Bool
  | .none => true
  | _ => false
def dIsN : R2D := fun a b R => match b with
  | .none => R (.bool (isNon a))
  | _ => False
def dNotN : R2D := fun a b R => match b with
  | .none => R (.bool (!isNon a))
  | _ => False
theorem isNon_rp {K : PySem.W.Frag} {G : Hp} {x : V} {d : PyData} (r : Rp K G x d) : decide (x = V.non) = isNon d := by
  cases r <;> simp [isNon, errD, fnvD]
theorem ro_isN {K : PySem.W.Frag} : RO K (fun x y H Q => y = .non ∧ Q (.bl (decide (x = .non))) H) dIsN := by
  intro G H x y d1 d2 Q R e r1 r2 h k
  cases d2 <;> first
    | exact False.elim h
    | skip
  refine ⟨r2.non_of, ?_⟩
  rw [isNon_rp r1]
  exact k _ _ G H h (Al.refl e) (.bl _)
theorem ro_notN {K : PySem.W.Frag} : RO K (fun x y H Q => y = .non ∧ Q (.bl (!decide (x = .non))) H) dNotN := by
  intro G H x y d1 d2 Q R e r1 r2 h k
  cases d2 <;> first
    | exact False.elim h
    | skip
  refine ⟨r2.non_of, ?_⟩
  rw [isNon_rp r1]
  exact k _ _ G H h (Al.refl e) (.bl _)
theorem call_own_late {S : DSp} {R : DQ} {i : Nat} {t : Option Nat} {δ : List Sl} {ua : DCA} (P : List PyData → List PyData → List Sl → Prop) (hi : isS δ[i]? = true)
    (hu : ∀ Q : List CA → List Sl → Prop, (∀ ds cs δ2, P ds cs δ2 → Q (ds.map CA.d) δ2) → ua δ Q) (mono : MonoS S)
    (k : ∀ ds cs δ2, P ds cs δ2 → δ2[i]? = some (.own t cs) ∧ S (.own (some 0) cs :: ds.map Sl.dat) fun d outs => ∃ o, outs = [o] ∧ R d (δ2.set i (.own t o))) : dCall S (cS i ua) δ R :=
  ⟨hi, hu _ fun ds cs δ2 h => own_tail (k ds cs δ2 h).1 ds mono (k ds cs δ2 h).2⟩
theorem eqv_ints : ∀ ns : List Int, PyData.eqvAll (ns.map PyData.int) (ns.map PyData.int) = true
  | [] => by simp [PyData.eqvAll]
  | n :: r => by
    show PyData.eqvAll (.int n :: r.map PyData.int) (.int n :: r.map PyData.int) = true
    simp [PyData.eqvAll, ev_ii, eqv_ints r]
theorem eqv_lints (ns : List Int) : PyData.eqv (.list (ns.map PyData.int)) (.list (ns.map PyData.int)) = true := by
  simp [PyData.eqv, eqv_ints ns]
theorem sh_ints (ns : List Int) : SeqAt.shaped (.list (ns.map PyData.int)) = true := by
  have a : PyData.canLayAll0 (ns.map PyData.int) = true := by
    induction ns with
    | nil => rfl
    | cons n r ih =>
      show (PyData.canLay0 (.int n) && PyData.canLayAll0 (r.map PyData.int)) = true
      rw [ih]
      rfl
  unfold SeqAt.shaped
  rw [Bool.and_eq_true]
  refine ⟨a, decide_eq_true ?_⟩
  show PyData.depthAll _ + 1 ≤ 64
  rw [depth_ints]
  decide
/-- two rising lists with the same members are one -/
theorem rise_eq : ∀ {a b : List Int}, a.Pairwise (· < ·) → b.Pairwise (· < ·) → (∀ k, k ∈ a ↔ k ∈ b) → a = b
  | [], [], _, _, _ => rfl
  | [], y :: b, _, _, h => absurd ((h y).mpr List.mem_cons_self) (by simp)
  | x :: a, [], _, _, h => absurd ((h x).mp List.mem_cons_self) (by simp)
  | x :: a, y :: b, ha, hb, h => by
    have ha' := List.pairwise_cons.mp ha
    have hb' := List.pairwise_cons.mp hb
    have e : x = y := by
      rcases List.mem_cons.mp ((h x).mp List.mem_cons_self) with e | h1
      · exact e
      · rcases List.mem_cons.mp ((h y).mpr List.mem_cons_self) with e | h2
        · exact e.symm
        · have := hb'.1 x h1
          have := ha'.1 y h2
          omega
    subst e
    refine congrArg (x :: ·) (rise_eq ha'.2 hb'.2 fun k => ⟨fun hk => ?_, fun hk => ?_⟩)
    · rcases List.mem_cons.mp ((h k).mp (List.mem_cons_of_mem _ hk)) with e | h1
      · have := ha'.1 k hk
        omega
      · exact h1
    · rcases List.mem_cons.mp ((h k).mpr (List.mem_cons_of_mem _ hk)) with e | h1
      · have := hb'.1 k hk
        omega
      · exact h1
/-- a statement that is never reached -/
def tNever : TS := fun _ _ _ => False
def dNever : DTS := fun _ _ => False
theorem ds_never {X : Cx} {st : Stmt} : DS X st tNever dNever := ⟨⟨fun _ _ _ _ _ _ h => False.elim h⟩, fun _ _ _ _ _ _ _ _ h _ => False.elim h⟩
end TL

set_option Elab.async false
set_option linter.all false
set_option maxRecDepth 100000
set_option maxHeartbeats 4000000
/-! TLo: all and any of a list of truths. -/
namespace TL
open PySem PySem.Spec L2
variable [XW]
def boolsOf : List PyData → Option (List Bool)
  | [] => some []
  | .bool b :: r => (boolsOf r).map (b :: ·)
  | _ :: _ => none
theorem boolsOf_map : ∀ bs : List Bool, boolsOf (bs.map PyData.bool) = some bs
  | [] => rfl
  | b :: r => by
    show (boolsOf (r.map PyData.bool)).map (b :: ·) = some (b :: r)
    rw [boolsOf_map r]
    rfl
section
variable {K : PySem.W.Frag} {ta : TE} {ua : DTE}
theorem bools_of_rp {G : Hp} : ∀ {ds : List PyData} {xs : List V} {ys : List Bool}, RpAll K G xs ds → boolsOf ds = some ys → xs = ys.map V.bl
  | _, _, _, .nil, h => by
    cases h
    rfl
  | d :: ds, _, ys, .cons (v := v) (vs := vs) r rr, h => by
    cases d <;> first
      | (cases h; done)
      | skip
    rename_i x
    have h : (boolsOf ds).map (x :: ·) = some ys := h
    cases q : boolsOf ds with
    | none =>
      rw [q] at h
      cases h
    | some zs =>
      rw [q] at h
      cases h
      rw [bools_of_rp rr q, r.bl_of]
      rfl
def dBools (f : List Bool → Bool) (u : DTE) : DTE := fun δ R => u δ fun d δ1 => match d with
  | .list ds => (match boolsOf ds with
    | some bs => R (.bool (f bs)) δ1
    | none => False)
  | _ => False
theorem re_bools {r : List V → Hp → VK → Prop} {f : List Bool → Bool} (hr : ∀ (a : Addr) (bs : List Bool) (H : Hp) (Q : VK), SqL K H a (bs.map V.bl) → Q (.bl (f bs)) H → r [V.ref a] H Q) (ha : RE K ta ua) : RE K (tCB r (tCons ta tNil)) (dBools f ua) := by
  intro c σ G H δ Q R E h k
  refine ha c σ G H δ _ _ E h fun d δ1 v G1 H1 h1 E1 e1 rr => ?_
  cases d <;> first
    | exact False.elim h1
    | skip
  rename_i ds
  have h1 : (match boolsOf ds with
    | some bs => R (.bool (f bs)) δ1
    | none => False) := h1
  obtain ⟨a, xs, rfl, q1, q2⟩ := rr.lst_of
  cases q : boolsOf ds with
  | none =>
    rw [q] at h1
    exact h1.elim
  | some bs =>
    rw [q] at h1
    exact hr a bs H1 _ (.inl (.inl (by rw [← bools_of_rp q2 q]; exact E1.ex _ _ q1))) (k _ δ1 _ G1 H1 h1 E1 e1 (.bl _))
end
section
variable {X : Cx} {a : Expr} {ta : TE} {ua : DTE} {pos p : Pos}
theorem de_all1 (hm : X.mg "all" = none) (ha : DE X a ta ua) (hc : X.calm = true := by rfl) (hg : Gl X "all" := by rfl) (hv : bootBuiltins "all" = some (.builtin "all") := by decide +kernel) (hs : starEach [a] X.env = (false, eval a X.env) :: starEach [] X.env := by rfl) (hpl : (backTo pos (starEach [] X.env)).any (·.1) = false := by rfl) :
    DE X (.Call (.Name "all" p) [a] [] pos) (tCB (rAll X.K) (tCons ta tNil)) (dBools (fun bs => bs.all id) ua) := ⟨pe_callB (cr_all hc) hg hm hv (pa_cons ha.pe pa_nil hs) (by decide) (by decide) hs hpl, re_bools (fun a bs H Q h q => ⟨a, bs, rfl, h, q⟩) ha.re⟩
theorem de_any1 (hm : X.mg "any" = none) (ha : DE X a ta ua) (hc : X.calm = true := by rfl) (hg : Gl X "any" := by rfl) (hv : bootBuiltins "any" = some (.builtin "any") := by decide +kernel) (hs : starEach [a] X.env = (false, eval a X.env) :: starEach [] X.env := by rfl) (hpl : (backTo pos (starEach [] X.env)).any (·.1) = false := by rfl) :
    DE X (.Call (.Name "any" p) [a] [] pos) (tCB (rAny X.K) (tCons ta tNil)) (dBools (fun bs => bs.any id) ua) := ⟨pe_callB (cr_any hc) hg hm hv (pa_cons ha.pe pa_nil hs) (by decide) (by decide) hs hpl, re_bools (fun a bs H Q h q => ⟨a, bs, rfl, h, q⟩) ha.re⟩
end
end TL

set_option Elab.async false
set_option linter.all false
set_option maxRecDepth 100000
set_option maxHeartbeats 4000000
/-! TLu: f-texts, pop, a text in a list that grows, written dicts of the module, repr of data, a sign in a text, truth. -/
namespace TL
open PySem PySem.Spec L2
variable [XW]

/-! ### f-texts -/
def dFmt (u : DTE) : DTE := fun δ R => u δ fun d δ1 => match d with
  | .str y => y.length ≤ sizeLine ∧ R (.str y) δ1
  | .int i => i.natAbs.log2 < 1920 ∧ R (.str (toString i)) δ1
  | _ => False
def dJs : List DTE → Str → List Sl → (Str → List Sl → Prop) → Prop
  | [], acc, δ, R => R acc δ
  | u :: us, acc, δ, R => u δ fun d δ1 => match d with
    | .str y => (acc ++ y).length ≤ sizeLine ∧ dJs us (acc ++ y) δ1 R
    | _ => False
def dJoined (us : List DTE) : DTE := fun δ R => dJs us Str.empty δ fun out δ1 => R (.str out) δ1
inductive DJ (X : Cx) : List Expr → List TE → List DTE → Prop where
  | nil : DJ X [] [] []
  | cons {e : Expr} {t : TE} {u : DTE} {es : List Expr} {ts : List TE} {us : List DTE} (h : DE X e t u) (r : DJ X es ts us) : DJ X (e :: es) (t :: ts) (u :: us)
theorem DJ.pj {X : Cx} {es : List Expr} {ts : List TE} {us : List DTE} (h : DJ X es ts us) : PJ X es ts := by
  induction h with
  | nil => exact .nil
  | cons h _ ih => exact .cons h.pe ih
theorem DJ.rj {X : Cx} {es : List Expr} {ts : List TE} {us : List DTE} (h : DJ X es ts us) : ∀ (c : Cf) (σ : L2.St) (G H : Hp) (δ : List Sl) (acc : Str) (Q : Str → Hp → Prop) (R : Str → List Sl → Prop), EnvOk X.K c G H σ δ → dJs us acc δ R →
    (∀ out δ' G' H', R out δ' → EnvOk X.K c G' H' σ δ' → Ex G G' → Q out H') → tJs ts acc σ H Q := by
  induction h with
  | nil =>
    intro c σ G H δ acc Q R E h k
    exact k acc δ G H h E (Ex.refl _)
  | cons h _ ih =>
    intro c σ G H δ acc Q R E hh k
    refine h.re c σ G H δ _ _ E hh fun d δ1 v G1 H1 h1 E1 e1 r1 => ?_
    cases d <;> first
      | exact False.elim h1
      | skip
    exact ⟨_, r1.str_of, h1.1, ih c σ G1 H1 δ1 _ Q R E1 h1.2 fun out δ' G' H' a b e => k out δ' G' H' a b (e1.trans e)⟩
section
variable {X : Cx} {e v1 v2 : Expr} {rest : List Expr} {te : TE} {ue : DTE} {ts : List TE} {us : List DTE} {pos : Pos}
theorem re_fmt {K : PySem.W.Frag} (ha : RE K te ue) : RE K (tFmt te) (dFmt ue) := by
  intro c σ G H δ Q R E h k
  refine ha c σ G H δ _ _ E h fun d δ1 v G1 H1 h1 E1 e1 r1 => ?_
  cases d <;> first
    | exact False.elim h1
    | skip
  · exact .inr ⟨_, r1.int_of, h1.1, k _ δ1 _ G1 H1 h1.2 E1 e1 (.str _)⟩
  · exact .inl ⟨_, r1.str_of, h1.1, k _ δ1 _ G1 H1 h1.2 E1 e1 (.str _)⟩
theorem de_fmt (h : DE X e te ue) : DE X (.FormattedValue e (-1) none pos) (tFmt te) (dFmt ue) := ⟨pe_fmt h.pe, re_fmt h.re⟩
theorem dj_nil : DJ X [] [] [] := .nil
theorem dj_cons (h : DE X e te ue) (r : DJ X rest ts us) : DJ X (e :: rest) (te :: ts) (ue :: us) := .cons h r
theorem de_joined (h : DJ X (v1 :: v2 :: rest) ts us) : DE X (.JoinedStr (v1 :: v2 :: rest) pos) (fun σ H Q => tJs ts Str.empty σ H fun out H1 => Q (.str out) H1) (dJoined us) :=
  ⟨pe_joined h.pj, fun c σ G H δ Q R E hh k => h.rj c σ G H δ Str.empty _ _ E hh fun out δ' G' H' a b e => k _ δ' _ G' H' a b e (.str _)⟩
end

/-! ### pop -/
def dPop (i : Nat) : DTE := fun δ R => match δ[i]? with
  | some (.own t ds) => (match ds.getLast? with
    | some d => R d (δ.set i (.own t ds.dropLast))
    | none => False)
  | _ => False
theorem RpAll.init {K : PySem.W.Frag} {G : Hp} : ∀ {vs : List V} {ds : List PyData}, RpAll K G vs ds → RpAll K G vs.dropLast ds.dropLast
  | _, _, .nil => .nil
  | _, _, .cons _ .nil => .nil
  | _, _, .cons r (.cons q t) => .cons r (RpAll.init (.cons q t))
theorem re_pop {K : PySem.W.Frag} {i : Nat} : RE K (tBM0 K "list" rPop (tVar i)) (dPop i) := by
  intro c σ G H δ Q R E h k
  unfold dPop at h
  cases hs : δ[i]? with
  | none =>
    rw [hs] at h
    exact False.elim h
  | some s =>
    rw [hs] at h
    cases s <;> first
      | exact False.elim h
      | skip
    rename_i t ds
    have h : (match ds.getLast? with
      | some d => R d (δ.set i (.own t ds.dropLast))
      | none => False) := h
    obtain ⟨p, xs, e, hg, hh, r, _⟩ := E.sl i _ hs
    cases q : ds.getLast? with
    | none =>
      rw [q] at h
      exact False.elim h
    | some d =>
      rw [q] at h
      have hd : ds[ds.length - 1]? = some d := by rw [← List.getLast?_eq_getElem?]; exact q
      obtain ⟨v, hv, rv⟩ := r.get hd
      refine ⟨.ref p, e, .inl ⟨rfl, _, .inl (.inl hh)⟩, p, xs, v, rfl, rfl, hh, by rw [r.len]; exact hv, ?_⟩
      exact k d _ v G _ h (E.poke hs e (RpAll.init r)) (Ex.refl _) rv
/-! ### xs[k] += text -/
def dAugI (i : Nat) (ui u : DTE) (f : PyData → PyData → (PyData → Prop) → Prop) : DTS := fun E δ => (slL δ[i]?).isSome = true ∧ ui δ fun di δ1 => match δ1[i]?, di with
  | some (.own _ ds), .int k => (match ixN ds.length k with
    | some j => (match ds[j]? with
      | some old => u δ1 fun d δ2 => f old d fun new => (match δ2[i]? with
        | some (.own t2 ds2) => (match ixN ds2.length k with
          | some j2 => E.nx (δ2.set i (.own t2 (ds2.set j2 new)))
          | none => False)
        | _ => False)
      | none => False)
    | none => False)
  | _, _ => False
/-- an operation in place, of data that are laid nowhere anew -/
def RIp (K : PySem.W.Frag) (r : TIp) (rd : R2D) : Prop := RO K r rd
theorem get_own {K : PySem.W.Frag} {G : Hp} {xs : List V} {ds : List PyData} (r : RpAll K G xs ds) {k : Int} {j : Nat} {d : PyData} (h : ixN ds.length k = some j) (hd : ds[j]? = some d) : ∃ v, atI xs k = some v ∧ Rp K G v d := by
  refine at_rp r ?_
  unfold atI
  rw [h]
  exact hd
theorem rs_augI {K : PySem.W.Frag} {i : Nat} {ti te : TE} {ui ue : DTE} {r : TIp} {rd : R2D} (hi : RE K ti ui) (ha : RE K te ue) (hr : RO K r rd) : RS K (tAugS (tVar i) ti te (rIxL K) r rSetL) (dAugI i ui ue rd) := by
  intro c σ G H δ D E EV h k
  obtain ⟨hsome, h⟩ := h
  obtain ⟨ds0, h0⟩ := Option.isSome_iff_exists.mp hsome
  obtain ⟨p, xs0, hv, _, _⟩ := slL_ok EV h0
  refine ⟨.ref p, hv, ?_⟩
  refine hi c σ G H δ _ _ EV h fun di δ1 y G1 H1 h1 E1 e1 r1 => ?_
  cases hs : δ1[i]? with
  | none =>
    rw [hs] at h1
    exact False.elim h1
  | some s =>
    rw [hs] at h1
    cases s <;> first
      | exact False.elim h1
      | skip
    rename_i tg ds
    cases di <;> first
      | exact False.elim h1
      | skip
    rename_i kk
    have h1 : (match ixN ds.length kk with
      | some j => (match ds[j]? with
        | some old => ue δ1 fun d δ2 => rd old d fun new => (match δ2[i]? with
          | some (.own t2 ds2) => (match ixN ds2.length kk with
            | some j2 => E.nx (δ2.set i (.own t2 (ds2.set j2 new)))
            | none => False)
          | _ => False)
        | none => False)
      | none => False) := h1
    obtain ⟨p', xs, e, hg, hh, rr, q⟩ := E1.sl i _ hs
    have e' := e
    rw [hv] at e'
    have ev := V.ref.inj (Option.some.inj (Option.some.inj e'))
    subst ev
    cases q1 : ixN ds.length kk with
    | none =>
      rw [q1] at h1
      exact h1.elim
    | some j =>
      rw [q1] at h1
      have h1 : (match ds[j]? with
        | some old => ue δ1 fun d δ2 => rd old d fun new => (match δ2[i]? with
          | some (.own t2 ds2) => (match ixN ds2.length kk with
            | some j2 => E.nx (δ2.set i (.own t2 (ds2.set j2 new)))
            | none => False)
          | _ => False)
        | none => False) := h1
      cases q2 : ds[j]? with
      | none =>
        rw [q2] at h1
        exact h1.elim
      | some old =>
        rw [q2] at h1
        obtain ⟨v, av, rv⟩ := get_own rr q1 q2
        refine ⟨p, xs, kk, v, rfl, r1.int_of, .inl (.inl hh), av, ?_⟩
        refine ha c σ G1 H1 δ1 _ _ E1 h1 fun d δ2 z G2 H2 h2 E2 e2 r2 => ?_
        refine hr G2 H2 v z old d _ _ E2.ex (rv.up e2) r2 h2 fun new w G3 H3 h3 A r3 => ?_
        have E3 := E2.al A
        cases hs2 : δ2[i]? with
        | none =>
          rw [hs2] at h3
          exact False.elim h3
        | some s2 =>
          rw [hs2] at h3
          cases s2 <;> first
            | exact False.elim h3
            | skip
          rename_i t2 ds2
          have h3 : (match ixN ds2.length kk with
            | some j2 => E.nx (δ2.set i (.own t2 (ds2.set j2 new)))
            | none => False) := h3
          obtain ⟨p2, ys, e3, hg3, hh3, rr3, _⟩ := E3.sl i _ hs2
          have e3' := e3
          rw [hv] at e3'
          have ev3 := V.ref.inj (Option.some.inj (Option.some.inj e3'))
          subst ev3
          cases q3 : ixN ds2.length kk with
          | none =>
            rw [q3] at h3
            exact h3.elim
          | some j2 =>
            rw [q3] at h3
            refine ⟨p, ys, kk, j2, rfl, r1.int_of, hh3, by rw [rr3.len]; exact q3, ?_⟩
            exact k.nx σ G3 _ _ h3 (E3.poke hs2 hv (RpAll.set r3 j2 rr3)) ((e1.trans e2).trans A.g)
theorem pget_list {X : Cx} : PGet X (rIxL X.K) := by
  intro pins s σ H x y v u Q I rx ry h
  obtain ⟨p, xs, i, z, rfl, rfl, hq, he, q⟩ := h
  cases rx
  obtain ⟨t, rfl⟩ := ry
  obtain ⟨its, r, pl, hz⟩ := I.list hq
  obtain ⟨j, h1, h2, h3, h4, h5⟩ := atI_get he
  obtain ⟨w, ew, rw'⟩ := r.get h2
  have hl := r.length
  have hn := line63
  have fin : EP X pins σ Q w s := ⟨z, H, I, rw', q⟩
  have sz : its.toArray.size = its.length := List.size_toArray
  by_cases h0 : 0 ≤ i
  · have hj : i.toNat = j := by
      rw [seqIndex_of h0 h5] at h1
      exact Option.some.inj h1
    exact wpAny_getItem_list pl.isList h0 (by omega) (by rw [hj]; simpa using ew) fin
  · have hj : (i + (its.toArray.size : Int)).toNat = j := by
      rw [seqIndex_neg (by omega) h4] at h1
      rw [sz, ← hl]
      exact Option.some.inj h1
    exact wpAny_getItem_list_neg pl.isList (by omega) (by omega) (by omega) (by rw [hj]; simpa using ew) fin
/-- name += text -/
def dAugT (i : Nat) (u : DTE) : DTS := fun E δ => match δ[i]? with
  | some (.dat (.str a)) => u δ fun d δ1 => (match d with
    | .str b => a.length + b.length ≤ sizeLine ∧ E.nx (δ1.set i (.dat (.str (a ++ b))))
    | _ => False)
  | _ => False
def rAddT : TIp := fun x y H Q => ∃ i j, x = .str i ∧ y = .str j ∧ i.length + j.length ≤ sizeLine ∧ Q (.str (i ++ j)) H
theorem rs_augT {K : PySem.W.Frag} {i : Nat} {te : TE} {ue : DTE} (ha : RE K te ue) : RS K (tAug i te rAddT) (dAugT i ue) := by
  intro c σ G H δ D E EV h k
  unfold dAugT at h
  cases hs : δ[i]? with
  | none =>
    rw [hs] at h
    exact False.elim h
  | some s =>
    rw [hs] at h
    have z := EV.sl i s hs
    cases s <;> first
      | exact False.elim h
      | skip
    rename_i d0
    cases d0 <;> first
      | exact False.elim h
      | skip
    rename_i a
    obtain ⟨x, e, rx⟩ := z
    have ex := rx.str_of
    subst ex
    refine ⟨_, e, ?_⟩
    refine ha c σ G H δ _ _ EV h fun d δ1 v G1 H1 h1 E1 e1 r => ?_
    cases d <;> first
      | exact False.elim h1
      | skip
    rename_i b
    exact ⟨a, b, rfl, r.str_of, h1.1, k.nx _ G1 H1 _ h1.2 (E1.put (.str _)) e1⟩
/-! ### a sign in a text; truth -/
def dInT (neg : Bool) : R2D := fun a b R => match a, b with
  | .str x, .str z => (match x.cps.toList with
    | [c] => R (.bool (if neg = true then !decide (c ∈ z.cps.toList) else decide (c ∈ z.cps.toList)))
    | _ => False)
  | _, _ => False
theorem one_of {x : Str} {c : Nat} (h : x.cps.toList = [c]) : x = ⟨#[c]⟩ := by
  cases x
  rename_i a
  have : a = #[c] := by
    apply Array.toList_inj.mp
    exact h
  rw [this]
theorem ro_inT (neg : Bool) {K : PySem.W.Frag} {r : R2} (hr : ∀ (c : Nat) (z : Str) (H : Hp) (Q : VK), Q (.bl (if neg = true then !decide (c ∈ z.cps.toList) else decide (c ∈ z.cps.toList))) H → r (.str ⟨#[c]⟩) (.str z) H Q) : RO K r (dInT neg) := by
  intro G H x y d1 d2 Q R e r1 r2 h k
  cases d1 <;> cases d2 <;> first
    | exact False.elim h
    | skip
  rename_i x z
  have e1 := r1.str_of
  have e2 := r2.str_of
  subst e1 e2
  have h : (match x.cps.toList with
    | [c] => R (.bool (if neg = true then !decide (c ∈ z.cps.toList) else decide (c ∈ z.cps.toList)))
    | _ => False) := h
  match q : x.cps.toList, h with
  | [c], h =>
    rw [one_of q]
    exact hr c z H Q (k _ _ G H h (Al.refl e) (.bl _))
theorem ro_inS {K : PySem.W.Frag} : RO K rInS (dInT false) := ro_inT false fun c z H Q q => ⟨c, z, rfl, rfl, q⟩
theorem ro_notInS {K : PySem.W.Frag} : RO K rNotInS (dInT true) := ro_inT true fun c z H Q q => ⟨c, z, rfl, rfl, q⟩
/-- the truth of a text, a list, a tuple, a truth -/
def dTru (u : DTE) : DTT := fun δ R => u δ fun d δ1 => match d with
  | .bool b => R b δ1
  | .str x => x.length ≤ sizeLine ∧ R ((x.length : Int) != 0) δ1
  | .int i => R (i != 0) δ1
  | .list ds => R (!ds.isEmpty) δ1
  | .tuple ds => R (!ds.isEmpty) δ1
  | .none => R false δ1
  | _ => False
theorem empty_rp {K : PySem.W.Frag} {G : Hp} {xs : List V} {ds : List PyData} (r : RpAll K G xs ds) : xs.isEmpty = ds.isEmpty := by
  cases r <;> rfl
theorem rt_tru {K : PySem.W.Frag} {te : TE} {ue : DTE} (ha : RE K te ue) : RT K (fun σ H Q => te σ H fun x H' => ∃ k, TruV K x H' k ∧ Q k H') (dTru ue) := by
  intro c σ G H δ Q R E h k
  refine ha c σ G H δ _ _ E h fun d δ1 v G1 H1 h1 E1 e1 r1 => ?_
  cases d <;> first
    | exact False.elim h1
    | skip
  · rw [r1.non_of]
    exact ⟨false, rfl, k _ δ1 G1 H1 h1 E1 e1⟩
  · rw [r1.bl_of]
    exact ⟨_, rfl, k _ δ1 G1 H1 h1 E1 e1⟩
  · rw [r1.int_of]
    exact ⟨_, rfl, k _ δ1 G1 H1 h1 E1 e1⟩
  · rw [r1.str_of]
    exact ⟨_, ⟨h1.1, rfl⟩, k _ δ1 G1 H1 h1.2 E1 e1⟩
  · obtain ⟨a, xs, rfl, q1, q2⟩ := r1.lst_of
    exact ⟨_, .inl ⟨xs, .inl (.inl (E1.ex _ _ q1)), rfl⟩, by rw [empty_rp q2]; exact k _ δ1 G1 H1 h1 E1 e1⟩
  · obtain ⟨a, xs, rfl, q1, q2⟩ := r1.tup_of
    exact ⟨_, .inr (.inl ⟨xs, .inl (.inl (E1.ex _ _ q1)), rfl⟩), by rw [empty_rp q2]; exact k _ δ1 G1 H1 h1 E1 e1⟩
/-! ### repr of data -/
def rRepr (K : PySem.W.Frag) : List V → Hp → VK → Prop := fun xs H Q => ∃ x d, xs = [x] ∧ Dp K H x d ∧ SeqAt.shaped d = true ∧ d.showable = true ∧ d.shown.length ≤ sizeLine ∧ Q (.str d.shown) H
theorem call_reprD {X : Cx} (hg : X.A.guards = some []) (hu : X.A.units + 65 < cLine) : CallR X (.builtin "repr") (rRepr X.K) := by
  intro pins s σ H xs us Q I r h
  obtain ⟨x, d, rfl, hd, sh, hs, hz, q⟩ := h
  obtain ⟨u, rfl, ru⟩ := L2.vals1 r
  have lay := SeqAt.canLay_of_shaped sh
  have dep : d.depth ≤ 64 := by
    have z : (d.canLay0 && decide (d.depth ≤ 64)) = true := sh
    rw [Bool.and_eq_true] at z
    exact of_decide_eq_true z.2
  obtain ⟨as, rd⟩ := Dp.reads I d x u hd ru
  have nod := PyData.noDict_hsm (as := as) (PyData.hasDict_of_canLay d lay)
  have big : ∀ (a : Addr), u = .ref a → wpAny (model X.prog X.w) X.A (call (.builtin "repr") [u]) (EP X pins σ Q) X.xe s := fun a e => by
    subst e
    exact repr_of_reads' rd hs nod hg (by omega) (fun _ _ e => e) (fun h' u tk hk => ⟨.str d.shown, H, I.kept hk, ⟨_, rfl⟩, q⟩) hz
  cases hd with
  | non =>
    obtain rfl : u = Value.none := ru
    exact PySem.P.repr_of_none ⟨.str (PyData.shown .none), H, I.tok _, ⟨_, rfl⟩, q⟩
  | bl b =>
    obtain rfl : u = Value.bool b := ru
    exact PySem.P.repr_of_bool ⟨.str (PyData.shown (.bool b)), H, I.tok _, ⟨_, rfl⟩, q⟩
  | int i =>
    obtain ⟨t, rfl⟩ := ru
    exact PySem.P.repr_of_int (of_decide_eq_true hs) ⟨.str (PyData.shown (.int i)), H, I.tok _, ⟨_, rfl⟩, q⟩
  | str y =>
    obtain ⟨t, rfl⟩ := ru
    exact PySem.P.repr_of_str ⟨.str (PyData.shown (.str y)), H, I.tok _, ⟨_, rfl⟩, q⟩ hz
  | lst _ _ => exact big _ ru
  | tup _ _ => exact big _ ru
def dRepr (u : DTE) : DTE := fun δ R => u δ fun d δ1 => SeqAt.shaped d = true ∧ d.showable = true ∧ d.shown.length ≤ sizeLine ∧ R (.str d.shown) δ1
theorem re_repr {K : PySem.W.Frag} {te : TE} {ue : DTE} (ha : RE K te ue) : RE K (tCB (rRepr K) (tCons te tNil)) (dRepr ue) := by
  intro c σ G H δ Q R E h k
  refine ha c σ G H δ _ _ E h fun d δ1 v G1 H1 h1 E1 e1 r1 => ?_
  exact ⟨v, d, rfl, (r1.up E1.ex).dp _ _ (SeqAt.canLay_of_shaped h1.1), h1.1, h1.2.1, h1.2.2.1, k _ δ1 _ G1 H1 h1.2.2.2 E1 e1 (.str _)⟩
/-! ### a written dict of the module -/
def rGetK (K : PySem.W.Frag) (d : Addr) : R2 := fun x y H Q => ∃ (z : Str) (u0 : Value) (v0 : V), x = .ref d ∧ y = .str z ∧ PySem.W.nsIn K d z = some (some u0) ∧ RelV v0 u0 ∧ Q v0 H
/-- D[text]: m tells the datum at a text -/
def dGetK (m : Str → Option PyData) (u : DTE) : DTE := fun δ R => u δ fun d δ1 => match d with
  | .str z => (match m z with
    | some x => R x δ1
    | none => False)
  | _ => False
/-- the dict at d tells what m tells, of texts alone -/
def KMap (K : PySem.W.Frag) (d : Addr) (m : Str → Option PyData) : Prop := ∀ z x, m z = some x → ∃ u0 v0, PySem.W.nsIn K d z = some (some u0) ∧ RelV v0 u0 ∧ ∀ G, Rp K G v0 x
theorem re_getK {K : PySem.W.Frag} {d : Addr} {m : Str → Option PyData} {te : TE} {ue : DTE} (hm : KMap K d m) (ha : RE K te ue) : RE K (tOp (rGetK K d) (tC (.ref d)) te) (dGetK m ue) := by
  intro c σ G H δ Q R E h k
  refine ha c σ G H δ _ _ E h fun y δ1 v G1 H1 h1 E1 e1 r1 => ?_
  cases y <;> first
    | exact False.elim h1
    | skip
  rename_i z
  have h1 : (match m z with
    | some x => R x δ1
    | none => False) := h1
  cases q : m z with
  | none =>
    rw [q] at h1
    exact h1.elim
  | some x =>
    rw [q] at h1
    obtain ⟨u0, v0, a1, a2, a3⟩ := hm z x q
    exact ⟨z, u0, v0, rfl, r1.str_of, a1, a2, k _ δ1 _ G1 H1 h1 E1 e1 (a3 G1)⟩
section
variable {X : Cx} {a b e : Expr} {ta tb te : TE} {ua ub ue : DTE} {pos p p2 : Pos}
theorem ix_getK {d : Addr} {es : Array DictEntry} {n : Nat} (D : KDict X.K X.w d es n) : IxR X (rGetK X.K d) := by
  intro value slice pins s σ H x y v u Q I rx ry h hs
  have h' := h
  obtain ⟨z, u0, v0, rfl, rfl, _⟩ := h'
  have rx' : v = .ref d := rx
  subst rx'
  exact PyProof.Rows.tail_any (kd_type D I) F.slot_dict_getitem.lookup (op_item_kd D pins s σ H _ _ _ _ Q I rx ry h) hs
theorem de_getK {x : Str} {d : Addr} {es : Array DictEntry} {n : Nat} {m : Str → Option PyData} (D : KDict X.K X.w d es n) (hm : KMap X.K d m) (hx : X.mg x = some (.ref d)) (hb : DE X b tb ub) (hg : Gl X x := by rfl) (hd : (x == ("__debug__" : Str)) = false := by decide)
    (hs : PlainIx b := by exact fun _ _ => rfl) : DE X (.Subscript (.Name x p) b pos) (tOp (rGetK X.K d) (tC (.ref d)) tb) (dGetK m ub) := ⟨pe_ix (ix_getK D) (pe_glob hg hx rfl hd) hb.pe hs, re_getK hm hb.re⟩
theorem de_repr1 (hm : X.mg "repr" = none) (hgd : X.A.guards = some []) (hu : X.A.units + 65 < cLine) (ha : DE X a ta ua) (hg : Gl X "repr" := by rfl) (hv : bootBuiltins "repr" = some (.builtin "repr") := by decide +kernel) (hs : starEach [a] X.env = (false, eval a X.env) :: starEach [] X.env := by rfl) (hpl : (backTo pos (starEach [] X.env)).any (·.1) = false := by rfl) :
    DE X (.Call (.Name "repr" p) [a] [] pos) (tCB (rRepr X.K) (tCons ta tNil)) (dRepr ua) := ⟨pe_callB (call_reprD hgd hu) hg hm hv (pa_cons ha.pe pa_nil hs) (by decide) (by decide) hs hpl, re_repr ha.re⟩
theorem dt_tru (h : DE X e te ue) (he : ∀ whole, isTrue e X.env whole = (do let v ← whole; standAt e.pos; holding [v] (truthy v)) := by intro _; rfl) : DT X e (fun σ H Q => te σ H fun x H' => ∃ k, TruV X.K x H' k ∧ Q k H') (dTru ue) := ⟨pt_truth h.pe he, rt_tru h.re⟩
theorem ds_augT (i : Nat) {x : Str} (hN : X.N.Nodup) (he : DE X e te ue) (hi : X.N[i]? = some x := by rfl) (hx : Loc X.env.scope x := by first | exact Or.inl rfl | exact Or.inr rfl)
    (hf : X.fn x = true ∨ X.env.scope.names.lookup x = some .local := by first | exact .inl rfl | exact .inr rfl | assumption) : DS X (.AugAssign (.Name x p) .Add e pos) (tAug i te rAddT) (dAugT i ue) := ⟨ps_aug hN hi hx he.pe iop_add_str hf, rs_augT he.re⟩
theorem ds_augI (i : Nat) {x : Str} (hb : DE X b tb ub) (he : DE X e te ue) (hN : X.N[i]? = some x := by rfl) (hv : Vis X.env.scope x := by first | exact Or.inl rfl | exact Or.inr (Or.inl rfl) | exact Or.inr (Or.inr rfl)) (hd : (x == ("__debug__" : Str)) = false := by decide)
    (hcd : (x == ("__classdict__" : Str)) = false := by decide) (ha : ∀ ov iv new, augStore b ov iv new = (do holding [new, ov, iv] (setItem ov iv new); release [new, ov, iv] []; pure .next) := by intros; rfl) :
    DS X (.AugAssign (.Subscript (.Name x p) b p2) .Add e pos) (tAugS (tVar i) tb te (rIxL X.K) rAddT rSetL) (dAugI i ub ue dAddS) := ⟨ps_augS (pe_var hN hv hd hcd) hb.pe pget_list he.pe iop_add_str set_list ha, rs_augI hb.re he.re ro_addS⟩
theorem de_pop (i : Nat) {x : Str} {apos : Pos} (pb : PE X (.Call (.Attribute (.Name x p) "pop" apos) [] [] pos) (tBM0 X.K "list" rPop (tVar i))) : DE X (.Call (.Attribute (.Name x p) "pop" apos) [] [] pos) (tBM0 X.K "list" rPop (tVar i)) (dPop i) := ⟨pb, re_pop⟩
end
end TL

set_option Elab.async false
set_option linter.all false
set_option maxRecDepth 100000
set_option maxHeartbeats 4000000
/-! TLv: calls that may change two lists. -/
namespace TL
open PySem PySem.Spec L2
variable [XW]
theorem asOf_app (δ : List Sl) : ∀ (ds : List PyData) (cs : List CA) (j : Nat), asOf δ (ds.map CA.d ++ cs) j = ds.map Sl.dat ++ asOf δ cs j
  | [], _, _ => rfl
  | d :: r, cs, j => by
    show Sl.dat d :: asOf δ (r.map CA.d ++ cs) j = _
    rw [asOf_app δ r cs j]
    rfl
theorem muts_app (δ : List Sl) : ∀ (ds : List PyData) (cs : List CA), muts δ (ds.map CA.d ++ cs) = muts δ cs
  | [], _ => rfl
  | d :: r, cs => muts_app δ r cs
theorem call_own2 {S : DSp} {ua : DCA} {δ δ' : List Sl} {R : DQ} {i j : Nat} {t1 t2 : Option Nat} {c1 c2 : List PyData} (ds : List PyData) (hu : ∀ Q : List CA → List Sl → Prop, Q (ds.map CA.d ++ [.s i, .s j]) δ' → ua δ Q) (hij : i ≠ j) (hi : δ'[i]? = some (.own t1 c1)) (hj : δ'[j]? = some (.own t2 c2)) (mono : MonoS S)
    (k : S (ds.map Sl.dat ++ [.own (some 0) c1, .own (some 1) c2]) fun d outs => ∃ o1 o2, outs = [o1, o2] ∧ R d ((δ'.set i (.own t1 o1)).set j (.own t2 o2))) : dCall S ua δ R := by
  have m1 : muts δ' [.s i, .s j] = [i, j] := by
    show (match δ'[i]? with
      | some (.own _ _) => i :: muts δ' [.s j]
      | _ => muts δ' [.s j]) = _
    rw [hi]
    show i :: (match δ'[j]? with
      | some (.own _ _) => j :: muts δ' []
      | _ => muts δ' []) = _
    rw [hj]
    rfl
  have a1 : asOf δ' [.s i, .s j] 0 = [.own (some 0) c1, .own (some 1) c2] := by
    show (match δ'[i]? with
      | some (.own _ ds) => Sl.own (some 0) ds :: asOf δ' [.s j] 1
      | some (.scr ds) => .scr ds :: asOf δ' [.s j] 0
      | _ => .no :: asOf δ' [.s j] 0) = _
    rw [hi]
    show Sl.own (some 0) c1 :: (match δ'[j]? with
      | some (.own _ ds) => Sl.own (some 1) ds :: asOf δ' [] 2
      | some (.scr ds) => .scr ds :: asOf δ' [] 1
      | _ => .no :: asOf δ' [] 1) = _
    rw [hj]
    rfl
  refine hu _ ?_
  rw [muts_app, asOf_app, m1, a1]
  refine ⟨by simp [hij], mono _ _ _ (fun d o h => ?_) k⟩
  obtain ⟨o1, o2, rfl, h⟩ := h
  refine ⟨rfl, ?_⟩
  have e : setOuts δ' [i, j] [o1, o2] = (δ'.set i (.own t1 o1)).set j (.own t2 o2) := by
    show setOut (setOut δ' i o1) j o2 = _
    have e1 : setOut δ' i o1 = δ'.set i (.own t1 o1) := by
      unfold setOut
      rw [hi]
    have e2 : (δ'.set i (.own t1 o1))[j]? = some (.own t2 c2) := by rw [List.getElem?_set_ne hij, hj]
    rw [e1]
    unfold setOut
    rw [e2]
  rw [e]
  exact h
/-- a call by data alone, whose arguments change lists -/
theorem call_pure2 {S : DSp} {ua : DCA} {δ δ' : List Sl} {R : DQ} (ds : List PyData) (hu : ∀ Q : List CA → List Sl → Prop, Q (ds.map CA.d) δ' → ua δ Q) (mono : MonoS S) (k : S (ds.map Sl.dat) fun d outs => outs = [] ∧ R d δ') : dCall S ua δ R := by
  refine hu _ ?_
  rw [muts_d, asOf_d]
  refine ⟨List.nodup_nil, mono _ _ _ (fun d o h => ?_) k⟩
  obtain ⟨rfl, h⟩ := h
  exact ⟨rfl, h⟩
theorem pop_at {δ : List Sl} {i : Nat} {t : Option Nat} {l : List PyData} {x : PyData} {R : DQ} (h : δ[i]? = some (.own t (l ++ [x]))) (k : R x (δ.set i (.own t l))) : dPop i δ R := by
  unfold dPop
  rw [h]
  show (match (l ++ [x]).getLast? with
    | some d => R d (δ.set i (.own t (l ++ [x]).dropLast))
    | none => False)
  rw [List.getLast?_append, List.dropLast_append_of_ne_nil (by simp)]
  simpa using k
/-- two texts -/
def dEqT : R2D := fun a b R => match a, b with
  | .str x, .str y => R (.bool (x == y))
  | _, _ => False
theorem ro_eqT {K : PySem.W.Frag} : RO K rEq dEqT := by
  intro G H x y d1 d2 Q R e r1 r2 h k
  cases d1 <;> cases d2 <;> first
    | exact False.elim h
    | skip
  have e1 := r1.str_of
  have e2 := r2.str_of
  subst e1 e2
  refine ⟨rfl, ?_⟩
  rw [dec_str]
  exact k _ _ G H h (Al.refl e) (.bl _)
/-- outs of two lists that were handed on -/
theorem outs2 {δ : List Sl} {a b : List PyData} (i j : Nat) (h0 : δ[i]? = some (.own (some 0) a)) (h1 : δ[j]? = some (.own (some 1) b)) : OutsIn δ [a, b] := by
  intro q cs hq
  rcases q with _ | _ | q
  · exact ⟨i, by rw [show cs = a by simpa using hq.symm]; exact h0⟩
  · exact ⟨j, by rw [show cs = b by simpa using hq.symm]; exact h1⟩
  · simp at hq
end TL

set_option Elab.async false
set_option linter.all false
set_option maxRecDepth 100000
set_option maxHeartbeats 2000000
/-! TLw: zip of two texts; repr of data with empty dicts in it; a tuple held against the empty one; get of a written dict; a list told again and again; tuple of a list; all of truths. -/
namespace TL
open PySem PySem.Spec L2
variable [XW]

/-! ### zip of two texts -/
def ItzS (x y : Str) : It :=
  ⟨fun i _ => i < x.cps.size ∧ i < y.cps.size,
    fun i H v H' => ∃ T c d, v = .ref T ∧ H T = none ∧ H' = upd H T (.tup [.str ⟨#[c]⟩, .str ⟨#[d]⟩]) ∧ x.cps[i]? = some c ∧ y.cps[i]? = some d,
    fun i _ => i = min x.cps.size y.cps.size⟩
theorem turn_zipS {P : Program} {w : World} {K : PySem.W.Frag} {elts : List Expr} {kk : Nat} {tpos : Pos} {z zi zo i1 i2 : Addr} {x y : Str} {t u : Tok} (D : ZipSep2 z zi zo i1 i2 [i1] [i2]) :
    Turn P w K (.Tuple elts kk tpos) (ItzS x y) [z, zi, zo, i1, i2] z (fun i h => IsZip h z zi zo .none ∧ IsTupOf2 h zi (.ref i1) (.ref i2) ∧ (∃ a b, IsTupOf2 h zo a b) ∧ h.IsStrIter i1 (strIterType x) x t i ∧ h.IsStrIter i2 (strIterType y) y u i) where
  mem := by simp
  obj := fun i h st c hc => by
    obtain ⟨hz, hTI, ⟨x0, y0, hTO⟩, ⟨o1, e1, c1, d1⟩, ⟨o2, e2, c2, d2⟩⟩ := st
    have e' : c = z ∨ c = zi ∨ c = zo ∨ c = i1 ∨ c = i2 := by simpa using hc
    rcases e' with q | q | q | q | q
    · rw [q]; exact ⟨_, hz, fun v q => nomatch q⟩
    · rw [q]; exact ⟨_, hTI, fun v q => nomatch q⟩
    · rw [q]; exact ⟨_, hTO, fun v q => nomatch q⟩
    · rw [q]; exact ⟨o1, e1, fun v q => by rw [d1] at q; cases q⟩
    · rw [q]; exact ⟨o2, e2, fun v q => by rw [d2] at q; cases q⟩
  keep := fun i h h' st k => by
    obtain ⟨hz, hTI, ⟨x0, y0, hTO⟩, ⟨o1, e1, r1⟩, ⟨o2, e2, r2⟩⟩ := st
    exact ⟨k z (by simp) _ hz, k zi (by simp) _ hTI, ⟨x0, y0, k zo (by simp) _ hTO⟩, ⟨o1, k i1 (by simp) o1 e1, r1⟩, ⟨o2, k i2 (by simp) o2 e2, r2⟩⟩
  item := by
    intro X hP hw hK hc i pins s σ H E I hf st hg
    subst hP hw hK
    obtain ⟨hz, hTI, ⟨x0, y0, hTO⟩, h1, h2⟩ := st
    have hd : X.A.in1.handled = none := I.ok.hd hc
    have D1 := Draws.text (prog := X.prog) (w := X.w) hd i1 x t
    have D2 := Draws.text (prog := X.prog) (w := X.w) hd i2 y u
    have hzl : z < s.heap.objs.size := Heap.lt_size hz
    refine wpAny_pyNext_zipD2_item D D1 D2 hz hTI hTO h1 h2 hg.1 hg.2 fun v1 v2 h' tk y1 y2 z' TO' h1' h2' hT hsz hk => ?_
    obtain ⟨c, u1, hc1, rfl⟩ := y1
    obtain ⟨d, u2, hd1, rfl⟩ := y2
    refine ⟨_, rfl, wpAny_letOwnedTupleGo_zip (s := { s with heap := h', toks := tk }) z' fun h'' z'' sb => ?_⟩
    have hT2 : h''.get? s.heap.objs.size = some { cls := .type "tuple", data := .seq #[.str ⟨#[c]⟩ u1, .str ⟨#[d]⟩ u2] } := (sb.2 _ (Nat.ne_of_gt hzl)).trans hT
    have new : ObjOk X.prog X.w (upd H s.heap.objs.size (.tup [.str ⟨#[c]⟩, .str ⟨#[d]⟩])) h'' s.heap.objs.size (.tup [.str ⟨#[c]⟩, .str ⟨#[d]⟩]) :=
      ⟨by show 2 ≤ sizeLine; decide, [.str ⟨#[c]⟩ u1, .str ⟨#[d]⟩ u2], .cons ⟨u1, rfl⟩ (.cons ⟨u2, rfl⟩ .nil), ⟨_, hT2, rfl, _, rfl⟩⟩
    have I1 : Inv X pins σ (upd H s.heap.objs.size (.tup [.str ⟨#[c]⟩, .str ⟨#[d]⟩])) { s with heap := h'', toks := tk } :=
      I.turnedNew (t' := tk) (ch := [z, zi, zo, i1, i2]) (fun c o hb q => (sb.2 c (fun q' => hb (by simp [q']))).trans (hk c o (fun q' => hb (by simp [q'])) (fun q' => hb (by simp [q'])) (fun q' => hb (by simp [q'])) (fun q' => hb (by simp [q'])) q)) hf (Nat.le_refl _) new
    have i1z : i1 ≠ z := D.zi1.symm
    have i2z : i2 ≠ z := D.zi2.symm
    refine ⟨.ref s.heap.objs.size, _, I1, rfl, ⟨_, c, d, rfl, I.hok.fresh (Nat.le_refl _), rfl, hc1, hd1⟩, ⟨z'', ?_, ⟨.str ⟨#[c]⟩ u1, .str ⟨#[d]⟩ u2, ?_⟩, ?_, ?_⟩, fun c hcm => ?_⟩
    · exact (sb.2 _ D.TIz).trans (hk _ _ D.TIz D.TITO D.TIi1 D.TIi2 hTI)
    · exact (sb.2 _ D.TOz).trans TO'
    · obtain ⟨o, e, r⟩ := h1'; exact ⟨o, (sb.2 _ i1z).trans e, r⟩
    · obtain ⟨o, e, r⟩ := h2'; exact ⟨o, (sb.2 _ i2z).trans e, r⟩
    · have hlt : c < s.heap.objs.size := by
        have e' : c = z ∨ c = zi ∨ c = zo ∨ c = i1 ∨ c = i2 := by simpa using hcm
        rcases e' with q | q | q | q | q
        · rw [q]; exact hzl
        · rw [q]; exact Heap.lt_size hTI
        · rw [q]; exact Heap.lt_size hTO
        · rw [q]; obtain ⟨_, e1, _⟩ := h1; exact Heap.lt_size e1
        · rw [q]; obtain ⟨_, e2, _⟩ := h2; exact Heap.lt_size e2
      rw [upd_ne (Nat.ne_of_lt hlt)]
      exact (hf c hcm).1
  done := by
    intro X hP hw hK hc i pins s σ H E I hf st hg
    subst hP hw hK
    obtain ⟨hz, hTI, ⟨x0, y0, hTO⟩, h1, h2⟩ := st
    have hd : X.A.in1.handled = none := I.ok.hd hc
    have D1 := Draws.text (prog := X.prog) (w := X.w) hd i1 x t
    have D2 := Draws.text (prog := X.prog) (w := X.w) hd i2 y u
    have hg' : i = min x.cps.size y.cps.size := hg
    exact wpAny_pyNext_zipD2_end D D1 D2 hz hTI hTO h1 h2 (by omega) (by omega) (by omega) fun h' tk hk => ⟨rfl, I.turnedL (t' := tk) (ch := [z, zi, zo, i1, i2]) (fun c o hb q =>
      hk c o (fun q' => hb (by simp [q'])) (fun q' => hb (by simp [q'])) (fun q' => hb (by simp [q'])) (fun q' => hb (by simp [q'])) q) hf⟩
  self := fun A i s Q E st h => wpAny_pyIter_zip st.1 h
def iZipS (ta : TA) : L2.TI := fun σ H R => ta σ H fun vs H1 => ∃ x y, vs = [.str x, .str y] ∧ R (ItzS x y) H1
theorem pi_zipS {X : Cx} {e e2 : Expr} {ta : TA} {p pos tpos : Pos} {elts : List Expr} {kk : Nat} (hg : Gl X "zip") (hm : X.mg "zip" = none) (ha : PA X [e, e2] ta)
    (hs : starEach [e, e2] X.env = (false, eval e X.env) :: starEach [e2] X.env := by rfl) (hpl : (backTo pos (starEach [e2] X.env)).any (·.1) = false := by rfl) :
    PI X (.Tuple elts kk tpos) (.Call (.Name "zip" p) [e, e2] [] pos) (iZipS ta) := by
  refine ⟨fun pins s σ H R I h => ?_⟩
  refine PyProof.Rows.Call_ (ld_blt I hg hm PyProof.Rows.boot_zip (PyProof.Rows.callWith_type1 (thn (ha.run pos pins s σ H _ I h) fun us s1 ⟨vs, H1, I1, r1, q1⟩ => ?_) hs hpl))
  obtain ⟨x, y, ex, q1⟩ := q1
  subst ex
  cases r1 with
  | cons r rr =>
    cases rr with
    | cons r' rr =>
      cases rr
      obtain ⟨t, rfl⟩ := r
      obtain ⟨u, rfl⟩ := r'
      have fresh5 : ∀ c, c ∈ [s1.heap.objs.size + 4, s1.heap.objs.size + 2, s1.heap.objs.size + 3, s1.heap.objs.size, s1.heap.objs.size + 1] → FpOk X pins H1 c := fun c hcm => by
        have e' : c = s1.heap.objs.size + 4 ∨ c = s1.heap.objs.size + 2 ∨ c = s1.heap.objs.size + 3 ∨ c = s1.heap.objs.size ∨ c = s1.heap.objs.size + 1 := by simpa using hcm
        have hle : s1.heap.objs.size ≤ c := by
          rcases e' with z | z | z | z | z
          · rw [z]; exact Nat.le_add_right _ _
          · rw [z]; exact Nat.le_add_right _ _
          · rw [z]; exact Nat.le_add_right _ _
          · rw [z]; exact Nat.le_refl _
          · rw [z]; exact Nat.le_add_right _ _
        exact I1.fpOk hle (I1.hok.fresh hle)
      refine zip_begins2 (begins_text x t) (begins_text y u) trivial trivial fun h' hz hTI hTO h1 h2 hsz hk => wpAny_pyIter_zip hz ?_
      have I2 : Inv X pins σ H1 { s1 with heap := h' } := I1.kept (t' := s1.toks) hk
      have sep : ZipSep2 (s1.heap.objs.size + 4) (s1.heap.objs.size + 2) (s1.heap.objs.size + 3) s1.heap.objs.size (s1.heap.objs.size + 1) [s1.heap.objs.size] [s1.heap.objs.size + 1] := by
        constructor <;> simp
      exact ⟨s1.heap.objs.size + 4, [s1.heap.objs.size + 4, s1.heap.objs.size + 2, s1.heap.objs.size + 3, s1.heap.objs.size, s1.heap.objs.size + 1], _, _, H1, rfl, I2, turn_zipS (x := x) (y := y) (t := t) (u := u) sep, ⟨hz, hTI, ⟨_, _, hTO⟩, ⟨_, h1, rfl, rfl⟩, ⟨_, h2, rfl, rfl⟩⟩, fresh5, q1⟩
/-- the pairs of two texts -/
def zipS (x y : Str) : List PyData := (x.cps.toList.zip y.cps.toList).map fun p => .tuple [.str ⟨#[p.1]⟩, .str ⟨#[p.2]⟩]
def diZS (ua ub : DTE) : DTI := fun δ R => ua δ fun d1 δ1 => ub δ1 fun d2 δ2 => match d1, d2 with
  | .str x, .str y => R (zipS x y) δ2
  | _, _ => False
theorem ri_zipS {K : PySem.W.Frag} {ta tb : TE} {ua ub : DTE} (ha : RE K ta ua) (hb : RE K tb ub) : RI K (iZipS (tCons ta (tCons tb tNil))) (diZS ua ub) := by
  intro c σ G H δ Q R E h k
  refine ha c σ G H δ _ _ E h fun d1 δ1 v1 G1 H1 h1 E1 e1 r1 => ?_
  refine hb c σ G1 H1 δ1 _ _ E1 h1 fun d2 δ2 v2 G2 H2 h2 E2 e2 r2 => ?_
  cases d1 <;> cases d2 <;> first
    | exact False.elim h2
    | skip
  rename_i x y
  refine ⟨x, y, by rw [r1.str_of, r2.str_of], k _ δ2 _ G2 H2 h2 E2 (e1.trans e2) ⟨fun G3 H3 a1 a2 => ?_, fun G3 H3 i d a1 a2 hd => ?_⟩⟩
  · show (zipS x y).length = min x.cps.size y.cps.size
    unfold zipS
    rw [List.length_map, List.length_zip, Array.length_toList, Array.length_toList]
  · unfold zipS at hd
    rw [List.getElem?_map] at hd
    cases q : (x.cps.toList.zip y.cps.toList)[i]? with
    | none =>
      rw [q] at hd
      cases hd
    | some ch =>
      rw [q] at hd
      cases hd
      rw [List.getElem?_zip_eq_some] at q
      obtain ⟨qa, qb⟩ := q
      have la := (List.getElem?_eq_some_iff.mp qa).1
      have lb := (List.getElem?_eq_some_iff.mp qb).1
      rw [Array.length_toList] at la lb
      rw [Array.getElem?_toList] at qa qb
      refine ⟨⟨la, lb⟩, fun z H4 hy => ?_⟩
      obtain ⟨T, c, d, rfl, hT, rfl, hc, hd⟩ := hy
      rw [qa] at hc
      rw [qb] at hd
      cases hc
      cases hd
      have A := Al.new (o := .tup [.str ⟨#[ch.1]⟩, .str ⟨#[ch.2]⟩]) a2 hT
      exact ⟨_, A, .tup upd_same (.cons (.str _) (.cons (.str _) .nil))⟩
theorem di_zipS {X : Cx} {a b : Expr} {ta tb : TE} {ua ub : DTE} {p pos tpos : Pos} {elts : List Expr} {kk : Nat} (hm : X.mg "zip" = none) (ha : DE X a ta ua) (hb : DE X b tb ub) (hg : Gl X "zip" := by rfl)
    (hs : starEach [a, b] X.env = (false, eval a X.env) :: starEach [b] X.env := by rfl) (hs2 : starEach [b] X.env = (false, eval b X.env) :: starEach [] X.env := by rfl) (hpl : (backTo pos (starEach [b] X.env)).any (·.1) = false := by rfl) :
    DI X (.Tuple elts kk tpos) (.Call (.Name "zip" p) [a, b] [] pos) (iZipS (tCons ta (tCons tb tNil))) (diZS ua ub) :=
  ⟨pi_zipS hg hm (pa_cons ha.pe (pa_cons hb.pe pa_nil hs2) hs) hs hpl, ri_zipS ha.re hb.re⟩
end TL

set_option Elab.async false
set_option linter.all false
set_option maxRecDepth 100000
set_option maxHeartbeats 2000000
/-! TLx: repr of data with empty dicts in it; a tuple held against the empty one; get of a written dict; a list told again and again; tuple of a list. -/
namespace TL
open PySem PySem.Spec L2
variable [XW]

/-! ### repr of data with empty dicts -/
mutual
/-- no dict but an empty one -/
def okD : PyData → Bool
  | .none => true
  | .bool _ => true
  | .int _ => true
  | .str _ => true
  | .list ds => okDs ds
  | .tuple ds => okDs ds
  | .dict ds => ds.isEmpty
def okDs : List PyData → Bool
  | [] => true
  | d :: ds => okD d && okDs ds
end
section
variable {X : Cx} {pins : List (Addr × Obj)} {σ : St} {H : Hp} {s : Shared}
theorem dict_empty (I : Inv X pins σ H s) {a : Addr} {od : Obj} (h : H a = some (.frz od (.dK []))) : ∃ o es n, s.heap.get? a = some o ∧ o.cls = .type "dict" ∧ o.data = .dict es n ∧ es.toList = [] ∧ (a == sysModules) = false := by
  obtain ⟨_, hd, vs, rel, o, es, ep, ho, hx, hdat, _, hp, _⟩ := dk_rd I.hok (.inr ⟨od, h⟩)
  cases rel
  refine ⟨o, es, ep, ho, hx.1, hdat, ?_, hd⟩
  generalize es.toList = l at hp
  cases hp
  rfl
mutual
theorem rp_repr (I : Inv X pins σ H s) : ∀ (d : PyData) (v : V) (u : Value), Rp X.K H v d → RelV v u → okD d = true → d.showable = true → d.shown.length ≤ sizeLine →
    ∃ as bs, Reads s.heap u d as ∧ ReadAtMost s.heap d.depth bs ∧ ReprK X.prog X.w bs s.heap d.depth u d.shown
  | .none, _, _, h, r, _, _, _ => by
    cases h
    cases r
    exact ⟨[], [], Reads.none, (fun _ h => nomatch h), by simp only [PyData.shown]; exact .of_is ReprIs.none _ _ _⟩
  | .bool b, _, _, h, r, _, _, _ => by
    cases h
    cases r
    exact ⟨[], [], Reads.bool b, (fun _ h => nomatch h), by simp only [PyData.shown]; exact .of_is (ReprIs.bool b) _ _ _⟩
  | .int i, _, _, h, r, _, hs, _ => by
    cases h
    obtain ⟨t, rfl⟩ := r
    exact ⟨[], [], Reads.int i t, (fun _ h => nomatch h), by simp only [PyData.shown]; exact .of_is (ReprIs.int t (by simpa [PyData.showable] using hs)) _ _ _⟩
  | .str x, _, _, h, r, _, _, hz => by
    cases h
    obtain ⟨t, rfl⟩ := r
    exact ⟨[], [], Reads.str x t, (fun _ h => nomatch h), by simp only [PyData.shown]; exact .of_is (ReprIs.str x t (by simpa only [PyData.shown] using hz)) _ _ _⟩
  | .list ds, _, _, h, r, ho, hs, hz => by
    cases h with
    | lst ha hr =>
      cases r
      rename_i a xs
      obtain ⟨its, rv, ⟨o, n, h1, h2, _, h3⟩, _⟩ := I.list (.inl (.inl ha))
      have hz' : (listText (PyData.shownAll ds)).length ≤ sizeLine := by simpa only [PyData.shown] using hz
      obtain ⟨as, bs, h4, hb, hk⟩ := rp_reprAll I ds _ its hr rv (by simpa [okD] using ho) (by simpa [PyData.showable] using hs) (fun t ht => Nat.le_trans (listText_mem_le ht) hz')
      have r : Reads s.heap (.ref a) (.list ds) _ := .list h1 h2 h3 (by simpa using h4)
      have hna : a ∉ bs := not_mem_of_deeper r (by simp only [PyData.depth]; omega) hb
      refine ⟨_, a :: bs, r, ReadAtMost.cons r (by simp only [PyData.depth]; omega) hb, ?_⟩
      simp only [PyData.depth, PyData.shown]
      cases its with
      | nil =>
        cases h4
        simp only [PyData.shownAll, listText_nil]
        exact ReprK.listEmpty h1 h2 h3
      | cons x l => exact ReprK.list h1 h2 h3 hna (by simpa using hk.length_eq) (fun i y e => hk.item i y (by simpa using e))
  | .tuple ds, _, _, h, r, ho, hs, hz => by
    cases h with
    | tup ha hr =>
      cases r
      rename_i a xs
      obtain ⟨its, rv, ⟨o, h1, h2, n, h3⟩, _⟩ := I.tuple (.inl (.inl ha))
      have hz' : (tupleText (PyData.shownAll ds)).length ≤ sizeLine := by simpa only [PyData.shown] using hz
      obtain ⟨as, bs, h4, hb, hk⟩ := rp_reprAll I ds _ its hr rv (by simpa [okD] using ho) (by simpa [PyData.showable] using hs) (fun t ht => Nat.le_trans (tupleText_mem_le ht) hz')
      have r : Reads s.heap (.ref a) (.tuple ds) _ := .tuple h1 h2 h3 (by simpa using h4)
      have hna : a ∉ bs := not_mem_of_deeper r (by simp only [PyData.depth]; omega) hb
      refine ⟨_, a :: bs, r, ReadAtMost.cons r (by simp only [PyData.depth]; omega) hb, ?_⟩
      simp only [PyData.depth, PyData.shown]
      exact ReprK.tuple h1 h2 h3 hna (by simpa using hk)
  | .dict ds, _, _, h, r, ho, hs, hz => by
    cases h with
    | err0 => cases (show false = true from ho)
    | err => cases (show false = true from ho)
    | fn => cases (show false = true from ho)
    | dic ha hl _ =>
      cases r
      rename_i a ob kvs _
      cases ds with
      | cons p q => cases (show false = true from ho)
      | nil =>
        have e : kvs = [] := List.length_eq_zero_iff.mp hl.len
        subst e
        obtain ⟨o, es, n, h1, h2, h3, h4, h5⟩ := dict_empty I ha
        have r : Reads s.heap (.ref a) (.dict []) _ := .dict (kvs := []) h1 h2 h3 (by rw [h4]; exact .nil) (by rw [h4]; exact .nil)
        have hb : ReadAtMost s.heap (PyData.depthKv []) [] := fun _ h => nomatch h
        refine ⟨_, [a], r, ReadAtMost.cons r (by simp only [PyData.depth]; omega) hb, ?_⟩
        simp only [PyData.depth, PyData.shown]
        exact ReprK.dict h1 h2 h3 h5 (fun h => nomatch h) (by rw [h4]; simp only [PyData.shownKv]; exact .nil)
theorem rp_reprAll (I : Inv X pins σ H s) : ∀ (ds : List PyData) (vs : List V) (us : List Value), RpAll X.K H vs ds → Vals vs us → okDs ds = true → PyData.showableAll ds = true → (∀ t ∈ PyData.shownAll ds, t.length ≤ sizeLine) →
    ∃ as bs, ReadsAll s.heap us ds as ∧ ReadAtMost s.heap (PyData.depthAll ds) bs ∧ ReprAllK X.prog X.w bs s.heap (PyData.depthAll ds) us (PyData.shownAll ds)
  | [], _, _, h, r, _, _, _ => by
    cases h
    cases r
    exact ⟨[], [], .nil, (fun _ h => nomatch h), by simp only [PyData.shownAll]; exact .nil⟩
  | d :: ds, _, _, h, r, ho, hs, hz => by
    cases h with
    | cons h1 h2 =>
      cases r with
      | cons r1 r2 =>
        have ho' : okD d = true ∧ okDs ds = true := by simpa [okDs] using ho
        have hs' : d.showable = true ∧ PyData.showableAll ds = true := by simpa [PyData.showableAll] using hs
        obtain ⟨as1, b1, q1, hb1, k1⟩ := rp_repr I d _ _ h1 r1 ho'.1 hs'.1 (hz _ (by simp only [PyData.shownAll]; exact List.mem_cons_self ..))
        obtain ⟨as2, b2, q2, hb2, k2⟩ := rp_reprAll I ds _ _ h2 r2 ho'.2 hs'.2 (fun t ht => hz t (by simp only [PyData.shownAll]; exact List.mem_cons_of_mem _ ht))
        refine ⟨_, b1 ++ b2, .cons q1 q2, ?_, ?_⟩
        · intro b hm
          simp only [PyData.depthAll]
          rcases List.mem_append.mp hm with hm | hm
          · obtain ⟨d', as', r', hd'⟩ := hb1 b hm
            exact ⟨d', as', r', Nat.le_trans hd' (Nat.le_max_left _ _)⟩
          · obtain ⟨d', as', r', hd'⟩ := hb2 b hm
            exact ⟨d', as', r', Nat.le_trans hd' (Nat.le_max_right _ _)⟩
        · simp only [PyData.depthAll, PyData.shownAll]
          exact .cons ((k1.more fun b hb => List.mem_append_left _ hb).level_le (Nat.le_max_left _ _)) (k2.more_le (fun b hb => List.mem_append_right _ hb) (Nat.le_max_right _ _))
end
end
def rReprX (K : PySem.W.Frag) : List V → Hp → VK → Prop := fun xs H Q => ∃ x d, xs = [x] ∧ Rp K H x d ∧ okD d = true ∧ d.showable = true ∧ d.shown.length ≤ sizeLine ∧ d.depth ≤ 64 ∧ Q (.str d.shown) H
theorem call_reprX {X : Cx} (hg : X.A.guards = some []) (hu : X.A.units + 65 < cLine) : CallR X (.builtin "repr") (rReprX X.K) := by
  intro pins s σ H xs us Q I r h
  obtain ⟨x, d, rfl, hd, ho, hs, hz, hdp, q⟩ := h
  obtain ⟨u, rfl, ru⟩ := L2.vals1 r
  have kk : ∀ b o, s.heap.get? b = some o → s.heap.get? b = some o := fun _ _ e => e
  have fin : ∀ (h' : Heap) (u : Tok) (tk : Tok), (∀ b o, s.heap.get? b = some o → h'.get? b = some o) → ∃ x t, Value.str d.shown u = .str x t ∧ EP X pins σ Q (.str d.shown u) { s with heap := h', toks := tk } := fun h' u tk hk => ⟨_, _, rfl, .str d.shown, H, I.kept hk, ⟨_, rfl⟩, q⟩
  cases hd with
  | err0 => cases (show false = true from ho)
  | fn => cases (show false = true from ho)
  | err => cases (show false = true from ho)
  | non =>
    obtain rfl : u = Value.none := ru
    exact PySem.P.repr_of_none ⟨.str (PyData.shown .none), H, I.tok _, ⟨_, rfl⟩, q⟩
  | bl b =>
    obtain rfl : u = Value.bool b := ru
    exact PySem.P.repr_of_bool ⟨.str (PyData.shown (.bool b)), H, I.tok _, ⟨_, rfl⟩, q⟩
  | int i =>
    obtain ⟨t, rfl⟩ := ru
    exact PySem.P.repr_of_int (of_decide_eq_true hs) ⟨.str (PyData.shown (.int i)), H, I.tok _, ⟨_, rfl⟩, q⟩
  | str y =>
    obtain ⟨t, rfl⟩ := ru
    exact PySem.P.repr_of_str ⟨.str (PyData.shown (.str y)), H, I.tok _, ⟨_, rfl⟩, q⟩ hz
  | @lst a xs ds ha hr =>
    obtain rfl : u = Value.ref a := ru
    obtain ⟨its, rv, ⟨o, n, h1, h2, _, h3⟩, _⟩ := I.list (.inl (.inl ha))
    have hz' : (listText (PyData.shownAll ds)).length ≤ sizeLine := by simpa only [PyData.shown] using hz
    obtain ⟨as, bs, h4, hb, hk⟩ := rp_reprAll I ds _ its hr rv (by simpa [okD] using ho) (by simpa [PyData.showable] using hs) (fun t ht => Nat.le_trans (listText_mem_le ht) hz')
    have r : Reads s.heap (.ref a) (.list ds) _ := .list h1 h2 h3 (by simpa using h4)
    have hna : a ∉ bs := not_mem_of_deeper r (by simp only [PyData.depth]; omega) hb
    simp only [PyData.depth] at hdp
    simp only [PyData.shown] at fin
    refine call_repr_slot (by omega) ⟨o, h1, h2⟩ F.slot_list_repr.toG ?_
    cases its with
    | nil =>
      cases h4
      simp only [PyData.shownAll, listText_nil] at fin
      exact call_list_repr_empty ⟨o, h1, h2⟩ h1 h3 (fin s.heap _ _ kk)
    | cons x l =>
      exact call_list_reprK h1 h2 h3 hna (by simpa using hk.length_eq) (fun i y e => hk.item i y (by simpa using e)) hg (fun b _ => Clear.nil b) (by show X.A.units + 1 + _ < cLine; omega) kk fin hz'
  | @tup a xs ds ha hr =>
    obtain rfl : u = Value.ref a := ru
    obtain ⟨its, rv, ⟨o, h1, h2, n, h3⟩, _⟩ := I.tuple (.inl (.inl ha))
    have hz' : (tupleText (PyData.shownAll ds)).length ≤ sizeLine := by simpa only [PyData.shown] using hz
    obtain ⟨as, bs, h4, hb, hk⟩ := rp_reprAll I ds _ its hr rv (by simpa [okD] using ho) (by simpa [PyData.showable] using hs) (fun t ht => Nat.le_trans (tupleText_mem_le ht) hz')
    have r : Reads s.heap (.ref a) (.tuple ds) _ := .tuple h1 h2 h3 (by simpa using h4)
    have hna : a ∉ bs := not_mem_of_deeper r (by simp only [PyData.depth]; omega) hb
    simp only [PyData.depth] at hdp
    simp only [PyData.shown] at fin
    refine call_repr_slot (by omega) ⟨o, h1, h2⟩ F.slot_tuple_repr ?_
    exact call_tuple_reprK h1 h2 h3 hna (by simpa using hk) hg (fun b _ => Clear.nil b) (by show X.A.units + 1 + _ < cLine; omega) kk fin hz'
  | @dic a ob kvs ds ha hl _ =>
    obtain rfl : u = Value.ref a := ru
    cases ds with
    | cons p q => cases (show false = true from ho)
    | nil =>
      have e : kvs = [] := List.length_eq_zero_iff.mp hl.len
      subst e
      obtain ⟨o, es, n, h1, h2, h3, h4, h5⟩ := dict_empty I ha
      have hz' : (dictText (PyData.shownKv [])).length ≤ sizeLine := by simpa only [PyData.shown] using hz
      simp only [PyData.shown] at fin
      refine call_repr_slot (by omega) ⟨o, h1, h2⟩ F.slot_dict_repr ?_
      exact call_dict_reprK (as := []) (d := 0) h1 h2 h3 h5 (fun h => nomatch h) (by rw [h4]; simp only [PyData.shownKv]; exact .nil) hg (fun b _ => Clear.nil b) (by show X.A.units + 1 + _ < cLine; omega) kk fin hz'
def dReprX (u : DTE) : DTE := fun δ R => u δ fun d δ1 => okD d = true ∧ d.showable = true ∧ d.shown.length ≤ sizeLine ∧ d.depth ≤ 64 ∧ R (.str d.shown) δ1
theorem re_reprX {K : PySem.W.Frag} {te : TE} {ue : DTE} (ha : RE K te ue) : RE K (tCB (rReprX K) (tCons te tNil)) (dReprX ue) := by
  intro c σ G H δ Q R E h k
  refine ha c σ G H δ _ _ E h fun d δ1 v G1 H1 h1 E1 e1 r1 => ?_
  exact ⟨v, d, rfl, r1.up E1.ex, h1.1, h1.2.1, h1.2.2.1, h1.2.2.2.1, k _ δ1 _ G1 H1 h1.2.2.2.2 E1 e1 (.str _)⟩

/-! ### a tuple held against the empty one -/
def rEqT0 (K : PySem.W.Frag) : R2 := fun x y H Q => ∃ a b xs, x = .ref a ∧ y = .ref b ∧ SqT K H a xs ∧ SqT K H b [] ∧ Q (.bl xs.isEmpty) H
theorem op_eqT0 {X : Cx} (hu : X.A.units < cLine) : OpR X (compareOp .Eq) (rEqT0 X.K) := by
  intro pins s σ H x y v u Q I rx ry h
  obtain ⟨a, b, xs, rfl, rfl, h1, h2, q⟩ := h
  cases rx
  cases ry
  obtain ⟨its, rv, p, _⟩ := I.tuple h1
  obtain ⟨its2, rv2, p2, _⟩ := I.tuple h2
  cases rv2
  refine SeqAt.eq_tupleAt (e := fun _ => true) (show s.heap.IsTuple a its.toArray from p) (show s.heap.IsTuple b #[] from p2) hu (fun j _ h => absurd h (Nat.not_lt_zero j)) ⟨.bl xs.isEmpty, H, I, ?_, q⟩
  have e : ((List.range (min its.toArray.size (#[] : Array Value).size)).all (fun _ => true) && its.toArray.size == (#[] : Array Value).size) = xs.isEmpty := by
    have l := rv.length
    cases xs with
    | nil =>
      cases its with
      | nil => rfl
      | cons x r => cases l
    | cons x r =>
      cases its with
      | nil => cases l
      | cons y r => simp
  rw [e]
  rfl
def rdEqT0 : R2D := fun d1 d2 R => match d1, d2 with
  | .tuple xs, .tuple [] => R (.bool xs.isEmpty)
  | _, _ => False
theorem ro_eqT0 {K : PySem.W.Frag} : RO K (rEqT0 K) rdEqT0 := by
  intro G H x y d1 d2 Q R e r1 r2 h k
  cases d1 <;> first
    | exact False.elim h
    | skip
  cases d2 <;> first
    | exact False.elim h
    | skip
  rename_i xs ys
  cases ys with
  | cons y r => exact False.elim h
  | nil =>
    obtain ⟨a, vs, rfl, a1, a2⟩ := r1.tup_of
    obtain ⟨b, us, rfl, b1, b2⟩ := r2.tup_of
    cases b2
    exact ⟨a, b, vs, rfl, rfl, .inl (.inl (e _ _ a1)), .inl (.inl (e _ _ b1)), by rw [empty_rp a2]; exact k _ _ G H h (Al.refl e) (.bl _)⟩

/-! ### get of a written dict -/
def tKG (K : PySem.W.Frag) (d : Addr) (ty : TE) : TE := fun σ H Q => ty σ H fun y H1 => ∃ (z : Str) (r : Option Value) (v : V), y = .str z ∧ PySem.W.nsIn K d z = some r ∧ RelV v (r.getD .none) ∧ Q v H1
theorem pe_kget {X : Cx} {x : Str} {e : Expr} {p apos cpos : Pos} {ty : TE} {d : Addr} {es : Array DictEntry} {n : Nat} (D : KDict X.K X.w d es n) (hx : X.mg x = some (.ref d)) (he : PE X e ty) (hg : Gl X x) (hd : (x == ("__debug__" : Str)) = false)
    (m : M1 X (.Name x p) "get" apos e cpos) : PE X (.Call (.Attribute (.Name x p) "get" apos) [e] [] cpos) (tKG X.K d ty) := by
  refine ⟨fun pins s σ H Q I h => ?_⟩
  refine wpAny_Call_method m.base m.few m.line PySem.F.plainAttrs_dict PySem.F.slot_dict_get PySem.F.type_dict_get (thn ((pe_glob (v := .ref d) hg hx rfl hd).run pins s σ H (fun v H1 => v = .ref d ∧ H1 = H) I ⟨rfl, rfl⟩) fun u s1 ⟨x, H1, I1, rx, ex, eh⟩ => ?_)
  subst ex eh
  obtain rfl : u = Value.ref d := rx
  have hm := PySem.W.mapOf_K (prog := X.prog) (w := X.w) I1.kIn D.at_ D.lit
  refine ⟨hm.typeIs, hm.noDict, ?_⟩
  rw [m.trees]
  refine Calls.callWith_builtin rfl (Calls.evalArgs_plain (Calls.spliced_cons (thn (he.run pins s1 σ H1 _ I1 h) fun iv s2 ⟨y, H2, I2, ry, z, r, v, ey, hn, rv, q2⟩ => Calls.spliced_nil ?_)))
  subst ey
  obtain ⟨t, rfl⟩ := ry
  have hm2 := PySem.W.mapOf_K (prog := X.prog) (w := X.w) I2.kIn D.at_ D.lit
  refine call_meetsIn PySem.F.slot_dict_get hm2.typeIs PySem.F.entry_dict_get (PySem.F.args_dict_get_2 _ _) (meets_dict_get (strKind X.prog X.w) d (PySem.strKind_is X.prog X.w z t) D.low) ⟨_, hm2, v, H2, I2.tok _, ?_, q2⟩
  rw [PySem.W.find_K D.at_ hn]
  exact rv
/-- the dict at d tells at every text what m tells -/
def KMap0 (K : PySem.W.Frag) (d : Addr) (m : Str → PyData) : Prop := ∀ z, ∃ r v, PySem.W.nsIn K d z = some r ∧ RelV v (r.getD .none) ∧ ∀ G, Rp K G v (m z)
def dKG (m : Str → PyData) (u : DTE) : DTE := fun δ R => u δ fun d δ1 => match d with
  | .str z => R (m z) δ1
  | _ => False
theorem re_kget {K : PySem.W.Frag} {d : Addr} {m : Str → PyData} {te : TE} {ue : DTE} (hm : KMap0 K d m) (ha : RE K te ue) : RE K (tKG K d te) (dKG m ue) := by
  intro c σ G H δ Q R E h k
  refine ha c σ G H δ _ _ E h fun y δ1 v G1 H1 h1 E1 e1 r1 => ?_
  cases y <;> first
    | exact False.elim h1
    | skip
  rename_i z
  obtain ⟨r, v0, a1, a2, a3⟩ := hm z
  exact ⟨z, r, v0, r1.str_of, a1, a2, k _ δ1 _ G1 H1 h1 E1 e1 (a3 G1)⟩
/-- a written dict whose texts and ints are known -/
theorem kmap0 {K : PySem.W.Frag} {d : Addr} {es : Array DictEntry} {n : Nat} (hl : K.lookup d = some ⟨.type "dict", none, .dict es n, #[]⟩) (kvs : List (Str × Int)) (h : ∃ f : Nat → Tok × Tok, es.toList.map (fun e => (e.key, e.val)) = kvs.mapIdx fun i p => (Value.str p.1 (f i).1, Value.int p.2 (f i).2)) :
    KMap0 K d fun z => match kvs.find? (·.1 == z) with
      | some p => .int p.2
      | none => .none := by
  intro z
  obtain ⟨f, h⟩ := h
  have key : ∀ (l : List DictEntry) (kvs : List (Str × Int)) (f : Nat → Tok × Tok), l.map (fun e => (e.key, e.val)) = kvs.mapIdx (fun i p => (Value.str p.1 (f i).1, Value.int p.2 (f i).2)) →
      ((∃ e p t, l.find? (·.key.isStr z) = some e ∧ kvs.find? (·.1 == z) = some p ∧ e.val = Value.int p.2 t) ∨ (l.find? (·.key.isStr z) = none ∧ kvs.find? (·.1 == z) = none)) ∧ l.any (·.refKey) = false := by
    intro l
    induction l with
    | nil =>
      intro kvs f h
      cases kvs with
      | nil => exact ⟨.inr ⟨rfl, rfl⟩, rfl⟩
      | cons p q => simp at h
    | cons e l ih =>
      intro kvs f h
      cases kvs with
      | nil => simp at h
      | cons p q =>
        rw [List.map_cons, List.mapIdx_cons] at h
        injection h with h1 h2
        injection h1 with hk hv
        obtain ⟨i1, i2⟩ := ih q (fun i => f (i + 1)) h2
        have e1 : e.key.isStr z = (p.1 == z) := by rw [hk]; rfl
        have e2 : e.refKey = false := by unfold DictEntry.refKey; rw [hk]
        refine ⟨?_, by rw [List.any_cons, e2, i2]; rfl⟩
        rw [List.find?_cons, List.find?_cons, e1]
        cases hp : (p.1 == z) with
        | true => exact .inl ⟨e, p, _, rfl, rfl, hv⟩
        | false => exact i1
  obtain ⟨k1, k2⟩ := key es.toList kvs f h
  have en : PySem.W.nsIn K d z = (match es.toList.find? (·.key.isStr z) with
      | some e => some (some e.val)
      | none => if es.toList.any (·.refKey) then none else some none) := by
    unfold PySem.W.nsIn
    rw [hl]
    rfl
  rcases k1 with ⟨e, p, t, a1, a2, a3⟩ | ⟨a1, a2⟩
  · refine ⟨some e.val, .int p.2, by rw [en]; simp only [a1], ⟨t, a3⟩, fun G => ?_⟩
    dsimp only
    rw [a2]
    exact .int _
  · refine ⟨none, .non, by rw [en]; simp only [a1, k2]; rfl, rfl, fun G => ?_⟩
    dsimp only
    rw [a2]
    exact .non

/-! ### a list again and again; tuple of a list -/
theorem RpAll.flat {K : PySem.W.Frag} {G : Hp} {xs : List V} {ds : List PyData} (r : RpAll K G xs ds) : ∀ n : Nat, RpAll K G (List.replicate n xs).flatten (List.replicate n ds).flatten
  | 0 => .nil
  | n + 1 => by
    rw [List.replicate_succ, List.replicate_succ, List.flatten_cons, List.flatten_cons]
    exact r.app (RpAll.flat r n)
def rdRep : R2D := fun d1 d2 R => match d1, d2 with
  | .list xs, .int k => -(2 ^ 63 : Int) ≤ k ∧ k < 2 ^ 63 ∧ xs.length * k.toNat ≤ sizeLine ∧ R (.list (List.replicate k.toNat xs).flatten)
  | _, _ => False
theorem ro_rep {K : PySem.W.Frag} : RO K rRep rdRep := by
  intro G H x y d1 d2 Q R e r1 r2 h k
  cases d1 <;> cases d2 <;> first
    | exact False.elim h
    | skip
  rename_i ds i
  obtain ⟨h1, h2, hz, h⟩ := h
  obtain ⟨a, xs, rfl, a1, a2⟩ := r1.lst_of
  refine ⟨a, i, xs, rfl, r2.int_of, e _ _ a1, h1, h2, by rw [a2.len]; exact hz, fun p hp => ?_⟩
  have A := Al.new (o := .lst (List.replicate i.toNat xs).flatten) e hp
  exact k _ _ _ _ h A (.lst upd_same ((a2.flat i.toNat).up A.g))
def dTupOf (u : DTE) : DTE := fun δ R => u δ fun d δ1 => match d with
  | .list ds => R (.tuple ds) δ1
  | .tuple ds => R (.tuple ds) δ1
  | _ => False
theorem re_tupOf {K : PySem.W.Frag} {ta : TE} {ua : DTE} (ha : RE K ta ua) : RE K (tThen ta (kTup K)) (dTupOf ua) := by
  intro c σ G H δ Q R E h k
  refine ha c σ G H δ _ _ E h fun d δ1 v G1 H1 h1 E1 e1 r1 => ?_
  cases d <;> first
    | exact False.elim h1
    | skip
  · obtain ⟨a, xs, rfl, q1, q2⟩ := r1.lst_of
    refine .inl ⟨a, xs, rfl, .inl (.inl (E1.ex _ _ q1)), fun p hp => ?_⟩
    have A := Al.new (o := .tup xs) E1.ex hp
    exact k _ δ1 _ _ _ h1 (E1.al A) (e1.trans A.g) (.tup upd_same (q2.up A.g))
  · obtain ⟨a, xs, rfl, q1, q2⟩ := r1.tup_of
    exact .inr ⟨a, xs, rfl, .inl (.inl (E1.ex _ _ q1)), k _ δ1 _ G1 H1 h1 E1 e1 r1⟩
section
variable {X : Cx} {a e : Expr} {ta te : TE} {ua ue : DTE} {pos p apos : Pos}
theorem de_reprX (hm : X.mg "repr" = none) (hgd : X.A.guards = some []) (hu : X.A.units + 65 < cLine) (ha : DE X a ta ua) (hg : Gl X "repr" := by rfl) (hv : bootBuiltins "repr" = some (.builtin "repr") := by decide +kernel) (hs : starEach [a] X.env = (false, eval a X.env) :: starEach [] X.env := by rfl) (hpl : (backTo pos (starEach [] X.env)).any (·.1) = false := by rfl) :
    DE X (.Call (.Name "repr" p) [a] [] pos) (tCB (rReprX X.K) (tCons ta tNil)) (dReprX ua) := ⟨pe_callB (call_reprX hgd hu) hg hm hv (pa_cons ha.pe pa_nil hs) (by decide) (by decide) hs hpl, re_reprX ha.re⟩
theorem de_kget {x : Str} {d : Addr} {es : Array DictEntry} {n : Nat} {m : Str → PyData} (D : KDict X.K X.w d es n) (hm : KMap0 X.K d m) (hx : X.mg x = some (.ref d)) (he : DE X e te ue) (hg : Gl X x := by rfl) (hd : (x == ("__debug__" : Str)) = false := by decide)
    (mm : M1 X (.Name x p) "get" apos e pos := by exact ⟨rfl, rfl, rfl, rfl⟩) : DE X (.Call (.Attribute (.Name x p) "get" apos) [e] [] pos) (tKG X.K d te) (dKG m ue) := ⟨pe_kget D hx he.pe hg hd mm, re_kget hm he.re⟩
theorem de_tuple1 (hm : X.mg "tuple" = none) (ha : DE X a ta ua) (hg : Gl X "tuple" := by rfl) (na : starEach [a] X.env = (false, eval a X.env) :: starEach [] X.env := by rfl) :
    DE X (.Call (.Name "tuple" p) [a] [] pos) (tThen ta (kTup X.K)) (dTupOf ua) := ⟨pe_tupleOf hg hm ha.pe na, re_tupOf ha.re⟩
end
end TL

set_option Elab.async false
set_option linter.all false
set_option maxRecDepth 100000
set_option maxHeartbeats 4000000
/-! TLy: sets of texts that can be walked: one more text, set(text), set comprehensions of texts, sorted of them, len of them. -/
namespace TL
open PySem PySem.Spec L2
variable [XW]

/-- the text of an entry -/
def kT (e : Int × Value) : Str := match e.2 with
  | .str x _ => x
  | _ => Str.empty
def isT (w : World) (e : Int × Value) : Prop := ∃ x t, e = (hashStr w x, Value.str x t)
/-- what stands at a: a set of texts, l its members, each once -/
def SetT (w : World) (h : Heap) (a : Addr) (l : List Str) : Prop :=
  ∃ o es ep t, h.get? a = some o ∧ o.ExactSet ∧ o.data = .set es ep t ∧ (∀ e ∈ es.toList, isT w e) ∧ (es.toList.map kT).Perm l ∧ l.Nodup ∧
    es.size < scanBound ∧ t.fits es.size = true ∧ Ris t.place.toList ∧ (w.params.followText "set-order" = true ∨ t.led = true)
section
variable {P : Program} {w : World} {h h' : Heap} {a : Addr} {l : List Str}
theorem SetT.at (R : SetT w h a l) (k : ∀ o, h.get? a = some o → h'.get? a = some o) : SetT w h' a l := by
  obtain ⟨o, es, ep, t, ho, r⟩ := R
  exact ⟨o, es, ep, t, k o ho, r⟩
theorem isT_el {m : List (Int × Value)} (g : ∀ e ∈ m, isT w e) : ElemsOf (PySem.strKind P w) m := fun e he => by
  obtain ⟨x, t, rfl⟩ := g e he
  exact ⟨⟨x, strKind_is P w x t, rfl⟩, rfl⟩
theorem isT_is {e : Int × Value} (g : isT w e) (x : Str) : (PySem.strKind P w).is x e.2 = true ↔ kT e = x := by
  obtain ⟨y, t, rfl⟩ := g
  constructor
  · intro z
    exact (PySem.strKind P w).inj _ _ _ (strKind_is P w y t) z
  · intro z
    have z : y = x := z
    rw [z]
    exact strKind_is P w x t
theorem isT_mem {m : List (Int × Value)} (g : ∀ e ∈ m, isT w e) (x : Str) : x ∈ m.map kT ↔ ∃ e ∈ m, (PySem.strKind P w).is x e.2 = true := by
  rw [List.mem_map]
  exact ⟨fun ⟨e, he, q⟩ => ⟨e, he, (isT_is (g e he) x).mpr q⟩, fun ⟨e, he, q⟩ => ⟨e, he, (isT_is (g e he) x).mp q⟩⟩
theorem SetT.len (R : SetT w h a l) : ∃ o es ep t, h.get? a = some o ∧ o.data = .set es ep t ∧ es.size = l.length := by
  obtain ⟨o, es, ep, t, ho, _, hd, _, pm, _⟩ := R
  refine ⟨o, es, ep, t, ho, hd, ?_⟩
  rw [← pm.length_eq, List.length_map, Array.length_toList]
theorem SetT.setOf (R : SetT w h a l) : h.SetOf (PySem.strKind P w) a (fun x => decide (x ∈ l)) l.length := by
  obtain ⟨o, es, ep, t, ho, hx, hd, g, pm, _, hb, hf, _⟩ := R
  refine ⟨o, es, ep, t, ho, hx, hd, isT_el g, fun x => ?_, hb, hf, ?_⟩
  · rw [decide_eq_true_iff, ← pm.mem_iff]
    exact isT_mem g x
  · rw [← pm.length_eq, List.length_map, Array.length_toList]
end
section
variable {P : Program} {w : World} {A : Around} {E : Value → Shared → Prop} {s : Shared} {a : Addr} {l : List Str}
/-- the tail of an add: what was laid stays, grown or not -/
theorem addT_tail {g : Bool → Sem Unit} (hgv : ∀ (b : Bool) (z : Shared) (Q' : Unit → Shared → Prop), Q' () z → wpAny (model P w) A (g b) Q' E z)
    {o : Obj} {es es1 : Array (Int × Value)} {ep : Nat} {t t2 : SetTable} (ho : s.heap.get? a = some o) (hx : o.ExactSet) (hd : o.data = .set es ep t)
    (g1 : ∀ e ∈ es1.toList, isT w e) (p1 : (es1.toList.map kT).Perm l) (nd : l.Nodup) (b1 : es1.size < scanBound) (f1 : t2.fits es1.size = true) (r1 : Ris t2.place.toList)
    (l1 : w.params.followText "set-order" = true ∨ t2.led = true) {dm : Bool} {R : Option Bool → Shared → Prop} (k : ∀ h', Heap.SameBut a s.heap h' → SetT w h' a l → R (some true) { s with heap := h' }) :
    wpAny (model P w) A (do
        storeSet a es1 t2
        if (!dm && t2.tooFull) = true then do
            g (relayAll t2 es1 (SetTable.grown es1.size)).2.2
            storeSet a (relayAll t2 es1 (SetTable.grown es1.size)).1 (relayAll t2 es1 (SetTable.grown es1.size)).2.1
            pure (some true)
          else pure (some true)) R E s := by
  have z1 := store_at (es' := es1) (t' := t2) ho hd
  have y1 := Heap.SameBut.update s.heap a (Obj.putSet es1 t2)
  refine wpAny_bind (wpAny_storeSet_of ho hd ?_ (fits_of_scanBound b1))
  by_cases hc : (!dm && t2.tooFull) = true
  · rw [if_pos hc]
    have q1 := relayAll_perm t2 es1 (SetTable.grown es1.size)
    have q2 := relayAll_fits t2 es1 (SetTable.grown es1.size)
    have q3 := relayAll_ris t2 es1 (SetTable.grown es1.size)
    have q4 := relayAll_led t2 es1 (SetTable.grown es1.size)
    generalize relayAll t2 es1 (SetTable.grown es1.size) = Z at q1 q2 q3 q4 ⊢
    obtain ⟨es2, t3, gv⟩ := Z
    dsimp only at q1 q2 q3 q4 ⊢
    have sz : es2.size = es1.size := by
      have z := q1.length_eq
      rw [Array.length_toList, Array.length_toList] at z
      exact z
    have b2 : es2.size < scanBound := by
      rw [sz]
      exact b1
    refine wpAny_bind (hgv _ _ _ (wpAny_bind (wpAny_storeSet_of z1 rfl (wpAny_pure (k _ (y1.trans (Heap.SameBut.update _ a _)) ?_)) (fits_of_scanBound b2))))
    exact ⟨_, es2, _, t3, store_at (es' := es2) (t' := t3) z1 rfl, hx, rfl, fun e he => g1 e (q1.mem_iff.mp he), (q1.map kT).trans p1, nd, b2, q2, q3, l1.imp id fun z => q4.trans z⟩
  · rw [if_neg hc]
    exact wpAny_pure (k _ y1 ⟨_, es1, _, t2, z1, hx, rfl, g1, p1, nd, b1, f1, r1, l1⟩)
/-- .. and its head -/
theorem addT_hashed {x : Str} {tk : Tok} {Q : Bool → Shared → Prop} (R : SetT w s.heap a l) (room : l.length + 1 < scanBound)
    (k : ∀ h', Heap.SameBut a s.heap h' → SetT w h' a (if x ∈ l then l else x :: l) → Q (!decide (x ∈ l)) { s with heap := h' }) :
    wpAny (model P w) A (setAddHashed a (.str x tk) ((PySem.strKind P w).hash x)) Q E s := by
  obtain ⟨o, es, ep, t, ho, hx, hd, g, pm, nd, hb, hf, hr, hl⟩ := id R
  have key : (PySem.strKind P w).is x (.str x tk) = true := strKind_is P w x tk
  have el : ElemsOf (PySem.strKind P w) es.toList := isT_el g
  have sc : (Value.str x tk).scannable = true := rfl
  unfold setAddHashed setAddHashedIn
  refine wpAny_holding (wpAny_bind (wpAny_setState_of ho hd hf ?_))
  dsimp only
  rw [byScan_of sc hb el]
  simp only [↓reduceIte]
  unfold setAddByScan
  refine wpAny_bind (wpAny_bind (wpAny_rule (wpAny_bind (wpAny_setScan_of key ho hd hf el ?_))))
  cases found : List.findIdx? (fun e => (PySem.strKind P w).is x e.2) es.toList with
  | some j =>
    dsimp only
    obtain ⟨hj, pj, _⟩ := List.findIdx?_eq_some_iff_getElem.mp found
    have hm : x ∈ l := pm.mem_iff.mp ((isT_mem (P := P) g x).mpr ⟨es.toList[j], List.getElem_mem hj, pj⟩)
    have q := k s.heap (Heap.SameBut.refl a s.heap) (by rw [if_pos hm]; exact R)
    rw [decide_eq_true hm] at q
    exact wpAny_pure (wpAny_pure q)
  | none =>
    dsimp only
    have hm : x ∉ l := fun z => by
      obtain ⟨e, he, q⟩ := (isT_mem (P := P) g x).mp (pm.mem_iff.mpr z)
      have c := List.findIdx?_eq_none_iff.mp found e he
      rw [q] at c
      cases c
    have way : ∀ (b : Bool) {z : Shared} {Q' : Unit → Shared → Prop}, Q' () z → wpAny (model P w) A (match b with | true => rule "set.scan.the-table-gave-way" | false => pure ()) Q' E z := fun b z Q' q => by
      cases b with
      | true => exact wpAny_rule q
      | false => exact wpAny_pure q
    have q1 := layNew_perm t es ((PySem.strKind P w).hash x) (.str x tk)
    have q2 := layNew_fits t es ((PySem.strKind P w).hash x) (.str x tk)
    have q3 := layNew_ris t es ((PySem.strKind P w).hash x) (.str x tk) hr
    have q4 := layNew_led t es ((PySem.strKind P w).hash x) (.str x tk)
    generalize layNew t es ((PySem.strKind P w).hash x) (.str x tk) = Z at q1 q2 q3 q4 ⊢
    obtain ⟨es1, t1, dm, gave⟩ := Z
    dsimp only at q1 q2 q3 q4 ⊢
    rw [Array.toList_push] at q1
    have pc : es1.toList.Perm (((PySem.strKind P w).hash x, Value.str x tk) :: es.toList) := q1.trans (List.perm_append_singleton _ _)
    have g1 : ∀ e ∈ es1.toList, isT w e := fun e he => (List.mem_cons.mp (pc.mem_iff.mp he)).elim (fun z => ⟨x, tk, z⟩) (g e)
    have p1 : (es1.toList.map kT).Perm (x :: l) := (pc.map kT).trans (.cons x pm)
    have nd1 : (x :: l).Nodup := List.nodup_cons.mpr ⟨hm, nd⟩
    have sz : es1.size = l.length + 1 := by
      have z := p1.length_eq
      rw [List.length_map, Array.length_toList] at z
      exact z
    have b1 : es1.size < scanBound := by
      rw [sz]
      exact room
    have ld : w.params.followText "set-order" = true ∨ t1.led = true := hl.imp id fun z => q4.trans z
    have fin : ∀ h', Heap.SameBut a s.heap h' → SetT w h' a (x :: l) → Q true { s with heap := h' } := fun h' sb r => by
      have q := k h' sb (by rw [if_neg hm]; exact r)
      rw [decide_eq_false hm] at q
      exact q
    refine wpAny_bind (way _ ?_)
    split
    · refine wpAny_bind ?_
      rw [hashByValue_scannable 8 sc]
      refine wpAny_pure (addT_tail (l := x :: l) (fun b z Q' q => way b q) ho hx hd g1 p1 nd1 b1 ?_ ?_ ?_ fun h' sb r => ?_)
      · first
          | (split <;> first | exact q2 | exact SetTable.fits_plain_off q2)
          | exact q2
      · first
          | (split <;> exact q3)
          | exact q3
      · first
          | (split <;> exact ld)
          | exact ld
      · dsimp only
        exact wpAny_pure (fin h' sb r)
    · refine wpAny_bind (wpAny_pure ?_)
      simp only [↓reduceIte]
      refine addT_tail (l := x :: l) (fun b z Q' q => way b q) ho hx hd g1 p1 nd1 b1 q2 q3 ld fun h' sb r => ?_
      dsimp only
      exact wpAny_pure (fin h' sb r)
/-- found.add(x) -/
theorem addT {x : Str} {tk : Tok} {Q : Value → Shared → Prop} (R : SetT w s.heap a l) (room : l.length + 1 < scanBound)
    (k : ∀ h', Heap.SameBut a s.heap h' → SetT w h' a (if x ∈ l then l else x :: l) → Q .none { s with heap := h', toks := s.toks + 1 }) :
    wpAny (model P w) A (call (.builtin "set.add") [.ref a, .str x tk]) Q E s := by
  refine wpAny_call_entry F.slot_set_add (R.setOf (P := P)).typeIs F.entry_set_add ?_ (F.args_set_add_2 _ _)
  unfold Builtin.«set.add» Builtin.Frozenset.oneOther
  simp only [List.isEmpty_nil, bind_assoc]
  unfold Builtin.Frozenset.addrOf setAdd
  refine wpAny_bind (wpAny_pure ?_)
  try dsimp only
  refine wpAny_bind (wpAny_pure ?_)
  try dsimp only
  refine wpAny_bind (wpAny_holding (wpAny_bind ((PySem.strKind P w).pyHash (strKind_is P w x tk) ?_)))
  refine addT_hashed (s := { s with toks := s.toks + 1 }) R room fun h' sb r => ?_
  show wpAny _ _ (ret Value.none) _ _ _
  exact wpAny_pure ⟨_, rfl, k h' sb r⟩
theorem setT_fresh {h : Heap} (ho : h.get? a = some (setE w)) : SetT w h a [] :=
  ⟨_, #[], 0, _, ho, ⟨rfl, rfl, rfl⟩, rfl, (fun e he => by simp at he), (by simp), .nil, (by decide), (by rfl), List.Pairwise.nil, by
    show _ ∨ (!w.params.followText "set-order") = true
    cases w.params.followText "set-order" <;> simp⟩
end
/-! ### over the layer -/
def setTO (w : World) (a : Addr) (l : List Str) : HO := .ext fun h => SetT w h a l
section
variable {X : Cx} {pins : List (Addr × Obj)} {σ : L2.St} {H : Hp} {s : Shared}
theorem setTO_ok {P : Program} {w : World} {h : Heap} {a : Addr} {l : List Str} (R : SetT w h a l) : ObjOk P w H h a (setTO w a l) := by
  have ⟨o, _, _, _, ho, _⟩ := R
  exact ⟨R, ⟨o, ho⟩, fun h1 h2 p k => SetT.at p k⟩
theorem setTO_get {a : Addr} {l : List Str} (I : Inv X pins σ H s) (ha : H a = some (setTO X.w a l)) : SetT X.w s.heap a l := (I.hok a _ ha).1
/-- one more of whatever kind is put into the set at D -/
abbrev AddW := Addr → V → Hp → (Hp → Prop) → Prop
def AddR (P : Program) (w : World) (r : AddW) : Prop := ∀ (X : Cx), X.prog = P → X.w = w → ∀ (pins : List (Addr × Obj)) (σ : L2.St) (H : Hp) (s : Shared) (D : Addr) (y : V) (u : Value) (N : Hp → Prop) (Q E : Value → Shared → Prop), Inv X pins σ H s → RelV y u → r D y H N →
  (∀ v s' H', Inv X pins σ H' s' → N H' → Q v s') → wpAny (model X.prog X.w) X.A (call (.builtin "set.add") [.ref D, u]) Q E s
def rAddTx (w : World) : AddW := fun D y H N => ∃ z l, y = .str z ∧ H D = some (setTO w D l) ∧ l.length + 1 < scanBound ∧ N (upd H D (setTO w D (if z ∈ l then l else z :: l)))
theorem addR_text {P : Program} {w : World} : AddR P w (rAddTx w) := by
  intro X hp hw pins σ H s D y u N Q E I ry h k
  subst hp hw
  obtain ⟨z, l, rfl, hD, hl, hn⟩ := h
  obtain ⟨t, rfl⟩ := ry
  refine addT (setTO_get I hD) hl fun h' sb new => ?_
  have there : ∃ v, h'.get? D = some v := by
    have ⟨o, _, _, _, ho, _⟩ := new
    exact ⟨o, ho⟩
  exact k _ _ _ (I.write (e := D) (t' := s.toks + 1) (by rw [hD]; trivial) (.inl rfl) (fun b v hb hv => (sb.2 b hb).trans hv) there (setTO_ok new)) hn
/-- {elt for target in iter if ..}: D the new set, o what stands there at first -/
def tScG (r : AddW) (o0 : Addr → HO) (wi : L2.TI) (g : TG) (tt : TT) (te : TE) (vs : List Nat) : TE := fun σ H Q => wi σ H fun J H1 => ∀ D, H1 D = none → ∃ W : Nat → Nat → Hp → Prop, (∃ m, W 0 m (upd H1 D (o0 D))) ∧ ∀ i m H, W i m H →
  (J.stop i H ∧ Q (.ref D) H) ∨ (J.go i H ∧ ∃ Nx : Hp → Prop, (∀ H', Nx H' → ∃ m', m' < m ∧ W (i + 1) m' H') ∧ ∀ x H', J.yld i H x H' → g x (wipe σ vs) H' fun σ2 H2 => wipe σ2 vs = wipe σ vs ∧ tt σ2 H2 fun b H3 =>
    if b = true then te σ2 H3 fun y H4 => r D y H4 Nx else Nx H3)
/-- what is laid first -/
def FreshR (P : Program) (w : World) (o0 : Addr → HO) : Prop := ∀ (H : Hp) (h : Heap) (a : Addr), h.get? a = some (setE w) → ObjOk P w H h a (o0 a)
theorem fresh_text {P : Program} {w : World} : FreshR P w fun a => setTO w a [] := fun H h a e => setTO_ok (setT_fresh e)
theorem pe_scG {r : AddW} {o0 : Addr → HO} {elt tg iter : Expr} {ifs : List Expr} {scope : Scope} {own : List (Str × Nat)} {pos : Pos} {wi : L2.TI} {g : TG} {tt : TT} {te : TE} (ar : AddR X.prog X.w r) (fr : FreshR X.prog X.w o0) (hc : X.calm = true) (hN : X.N.Nodup) (hi : PI X tg iter wi)
    (ok : BlkOk X.N X.env.scope scope own) (hg : ∀ (s : Shared) (H : Hp) (C : Addr) (cl : List (Str × Addr)) (fp : List Addr), PG (X.blk s H scope (compEnvC scope cl C X.env) fp) tg g)
    (ht : ∀ (s : Shared) (H : Hp) (C : Addr) (cl : List (Str × Addr)) (fp : List Addr), PTs (X.blk s H scope (compEnvC scope cl C X.env) fp) ifs tt)
    (he : ∀ (s : Shared) (H : Hp) (C : Addr) (cl : List (Str × Addr)) (fp : List Addr), PE (X.blk s H scope (compEnvC scope cl C X.env) fp) elt te) (hs : ∀ x, foldedSetIterable iter X.env x = pure x := by intro _; rfl) :
    PE X (.SetComp elt [⟨tg, iter, ifs, 0⟩] scope pos) (tScG r o0 wi g tt te (own.map (·.2))) := by
  refine ⟨fun pins s σ H Q I h => ?_⟩
  rw [PpSet.eval_SetComp]
  have cells : ∀ y ∈ scope.names, y.2 = .free → ∃ c, X.env.cells.lookup y.1 = some c := fun y hy e => (ok.free y hy e).elim (fun k => I.ok.has _ (.inl k)) fun k => I.ok.has _ (.inr k)
  refine wpAny_comprehension_free rfl hs (closure_ok cells) ok.kind (fun y hy e => by rw [ok.uniq y hy, e]) (thn (hi.run pins s σ H _ I h) fun xv s1 hx => thn hx fun itv s2 h2 => ?_)
  obtain ⟨it, fp, tn, J, H2, rfl, I2, T, st2, f2, q⟩ := h2
  refine PpSet.newSet_ok (newEnv_comp ?_)
  have hDn : H2 s2.heap.objs.size = none := I2.hok.fresh (Nat.le_refl _)
  obtain ⟨W, ⟨m0, w0⟩, turn⟩ := q s2.heap.objs.size hDn
  generalize hD : s2.heap.objs.size = D at *
  generalize hs3 : ({ s2 with heap := s2.heap.push (setE X.w) } : Shared) = s3
  have h3 : s3.heap = s2.heap.push (setE X.w) := by rw [← hs3]
  have e3 : s3.heap.get? D = some (setE X.w) := by
    rw [h3, ← hD]
    exact Heap.get?_push_size _ rfl
  have I3 : Inv X pins σ (upd H2 D (o0 D)) s3 := by
    rw [← hs3]
    refine I2.laid (t' := s2.toks) (fun b o e => Heap.get?_push_of_some _ e) (Nat.le_of_eq hD) (fr _ _ _ ?_)
    rw [← hD]
    exact Heap.get?_push_size _ rfl
  have lo : ∀ b ∈ fp, b < s2.heap.objs.size := fun b hb => by
    obtain ⟨o, e, _⟩ := T.obj _ _ st2 b hb
    exact Heap.lt_size e
  have f3 : ∀ b ∈ fp, FpOk X pins (upd H2 D (o0 D)) b ∧ b < s3.heap.objs.size := fun b hb => by
    have hlt := lo b hb
    constructor
    · refine ⟨?_, (f2 b hb).2⟩
      rw [upd_ne (by rw [← hD]; exact Nat.ne_of_lt hlt)]
      exact (f2 b hb).1
    · rw [h3, Heap.size_push]
      exact Nat.lt_succ_of_lt hlt
  have st3 : tn 0 s3.heap := T.keep _ _ _ st2 fun b _ o e => by
    rw [h3]
    exact Heap.get?_push_of_some _ e
  have I4 := block_start I3 ok hN f3
  have pg := hg s3 (upd H2 D (o0 D)) s3.heap.objs.size (cellsFrom (s3.heap.objs.size + 1) scope.names (cloFrom X.env.cells scope.names [])) fp
  have pt := ht s3 (upd H2 D (o0 D)) s3.heap.objs.size (cellsFrom (s3.heap.objs.size + 1) scope.names (cloFrom X.env.cells scope.names [])) fp
  have pe := he s3 (upd H2 D (o0 D)) s3.heap.objs.size (cellsFrom (s3.heap.objs.size + 1) scope.names (cloFrom X.env.cells scope.names [])) fp
  show codeAny _ _ (.compStart (.SetComp elt [⟨tg, iter, ifs, 0⟩] scope pos) 0 (.ref it) (.ref D) (compEnvC scope (cellsFrom (s3.heap.objs.size + 1) scope.names (cloFrom X.env.cells scope.names [])) s3.heap.objs.size X.env)) _ _
  have none_fp : ∀ b ∈ fp, (upd H2 D (o0 D)) b = none := fun b hb => (f3 b hb).1.1
  generalize hce : compEnvC scope (cellsFrom (s3.heap.objs.size + 1) scope.names (cloFrom X.env.cells scope.names [])) s3.heap.objs.size X.env = ce at I4 pg pt pe ⊢
  have cL : ce.locals = s3.heap.objs.size := by
    subst hce
    rfl
  generalize hH3 : upd H2 D (o0 D) = H3 at I3 I4 pg pt pe w0 none_fp f3
  generalize hs4 : ({ s3 with heap := pushCells (s3.heap.push { cls := .type "dict", data := .dict #[] }) scope.names } : Shared) = s4 at I4 ⊢
  have st4 : tn 0 s4.heap := T.keep _ _ _ st3 fun b _ o e => by
    rw [← hs4]
    exact pushCells_keeps _ _ _ _ (Heap.get?_push_of_some _ e)
  have own_fp : ∀ {σ' : L2.St} {H' : Hp} {z : Shared}, Inv (X.blk s3 H3 scope ce fp) [] σ' H' z → (∀ b ∈ fp, H' b = none) → ∀ b ∈ fp, FpOk (X.blk s3 H3 scope ce fp) [] H' b := fun {σ' H' z} I' hn b hb =>
    ⟨hn b hb, (I'.ok.exf b hb).1, I'.ok.exfs b hb, .inl hb, fun x c e => (I'.ok.exf b hb).2 x c e, fun p hp => absurd (show p ∈ ([] : List (Addr × Obj)) ++ [] from hp) (by simp)⟩
  refine PpSet.codeAny_compStart_set ?loop (T.self X.A 0 _ _ _ st4 ?loop)
  case loop =>
    refine PpSet.compLoopS_any (fun n z => ∃ i H', Inv (X.blk s3 H3 scope ce fp) [] (wipe σ (own.map (·.2))) H' z ∧ tn i z.heap ∧ (∀ b ∈ fp, H' b = none) ∧ W i n H') ?_ m0 ⟨0, H3, I4, st4, none_fp, w0⟩
    rintro n s5 ⟨i, H5, I5, st5, n5, w5⟩
    rcases turn i n H5 w5 with ⟨stop, qq⟩ | ⟨go, Nx, hNx, step⟩
    · refine thnF (T.done (X.blk s3 H3 scope ce fp) rfl rfl rfl hc i [] s5 _ H5 (fun _ _ => False) I5 (own_fp I5 n5) st5 stop) fun r s6 ⟨hr, I6⟩ => ?_
      subst hr
      have I7 : Inv X pins σ H5 s6 := I3.call' (ch := fp) I6.os I6.base I6.hok I6.bare fun b hb => ⟨(f3 b hb).1.2.2.2.1, (f3 b hb).1.2.1, (f3 b hb).1.2.2.2.2.1, (f3 b hb).1.2.2.2.2.2⟩
      have nC : H5 s3.heap.objs.size = none := by
        have z : H5 ce.locals = none := I6.free
        rwa [cL] at z
      obtain ⟨m, hn, _⟩ := I6.loc
      have hn : s6.heap.Ns ce.locals m := hn
      rw [cL] at hn
      refine ⟨m, hn, fun h'' sb => ?_⟩
      obtain ⟨a0, a1, a2, a3, a4, a5⟩ := I3.fpOk (Nat.le_refl _) nC
      exact ⟨.ref D, H5, I7.turned (t' := s6.toks) (fun b o hb e => (sb.2 b hb).trans e) a0 a1 a3 a4 a5, rfl, qq⟩
    · refine thnF (T.item (X.blk s3 H3 scope ce fp) rfl rfl rfl hc i [] s5 _ H5 (fun _ _ => False) I5 (own_fp I5 n5) st5 go) fun o6 s6 ⟨u, hr, h6⟩ => ?_
      subst hr
      refine thnF h6 fun _ s7 ⟨x, H7, I7, r7, y7, st7, n7⟩ => ?_
      have I8 := I7.pinned (own_fp I7 n7) (T.obj _ _ st7)
      refine thnF (pg.run _ s7 _ H7 x u _ I8 r7 (step x H7 y7)) fun _ s8 ⟨σ8, H8, I9, hw8, q8⟩ => ?_
      refine thnF (pt.run _ s8 σ8 H8 _ I9 q8) fun b s9 ⟨H9, I10, q9⟩ => ?_
      have fin : ∀ {z : Shared} {H' : Hp}, Inv (X.blk s3 H3 scope ce fp) ([] ++ pinsAt fp s7.heap) σ8 H' z → Nx H' →
          ∃ m, m < n ∧ ∃ i H', Inv (X.blk s3 H3 scope ce fp) [] (wipe σ (own.map (·.2))) H' z ∧ tn i z.heap ∧ (∀ b ∈ fp, H' b = none) ∧ W i m H' := fun {z H'} I' nx => by
        obtain ⟨m', hm, w'⟩ := hNx H' nx
        have pin : ∀ b ∈ fp, ∀ o, s7.heap.get? b = some o → z.heap.get? b = some o ∧ H' b = none := fun b hb o e =>
          let y := I'.pin (b, o) (List.mem_append_right _ (List.mem_append_right _ (mem_pinsAt hb e)))
          ⟨y.1, y.2.1⟩
        have hl : (wipe σ (own.map (·.2))).length = σ8.length := by rw [← hw8, wipe_length]
        refine ⟨m', hm, i + 1, H', (I'.unpinned (pins := [])).weak hl (fun j v e => ?_), T.keep _ _ _ st7 fun b hb o e => (pin b hb o e).1, fun b hb => ?_, w'⟩
        · rw [← hw8] at e
          exact (wipe_some e).1
        · obtain ⟨o, e, _⟩ := T.obj _ _ st7 b hb
          exact (pin b hb o e).2
      cases b with
      | false =>
        simp only [Bool.false_eq_true, if_false] at q9 ⊢
        exact fin I10 q9
      | true =>
        simp only [if_true] at q9 ⊢
        refine thnF (pe.run _ s9 σ8 H9 _ I10 q9) fun z s10 ⟨yv, H10, I11, r11, nx⟩ => ?_
        exact ar (X.blk s3 H3 scope ce fp) rfl rfl _ _ _ _ D yv z Nx _ _ I11 r11 nx fun _ s11 H11 I12 n12 => fin I12 n12
/-- sorted(found), fewer than 64 texts -/
def rSortT (w : World) : List V → Hp → VK → Prop := fun vs H Q => ∃ (a : Addr) (l : List Str), vs = [V.ref a] ∧ H a = some (setTO w a l) ∧ l.length < 64 ∧
  ∀ (ys : List Str) (p : Addr), ys.Perm l → PyProof.Rows.sortedS ys = true → H p = none → Q (.ref p) (upd H p (.lst (ys.map V.str)))
theorem cr_sortT (hc : X.calm = true) : CallR X (.builtin "sorted") (rSortT X.w) := by
  intro pins s σ H vs us Q I r h
  obtain ⟨a, l, rfl, ha, h64, q⟩ := h
  rw [Vals.ref1 r]
  obtain ⟨o, es, ep, t, ho, hx, hd, g, pm, nd, hb, hf, hr, hl⟩ := setTO_get I ha
  refine Calls.call_function_entry PyProof.Rows.kind_sorted PyProof.Rows.plain_sorted PyProof.Rows.entry_sorted (PyProof.Rows.args_sorted1 _) ?_
  unfold Builtin.«sorted»
  refine wpAny_bind (m := checkCount "sorted" 1 1 _) (wpAny_pure ?_)
  refine wpAny_bind (collect_set (A := X.A.in1) (I.ok.hd hc) ⟨o, ho, hx.1, hd⟩ hf hb hr hl fun s1 out k1 hz g1 o1 po => ?_)
  have el : ∀ v ∈ out, ∃ x t, v = Value.str x t := fun v hv => by
    obtain ⟨e, he, rfl⟩ := List.mem_map.mp (po.mem_iff.mp hv)
    obtain ⟨x, t, rfl⟩ := g e he
    exact ⟨x, t, rfl⟩
  have hS := PyProof.Rows.strsAre_map out el
  have pl : (out.map PyProof.Rows.strOf).Perm l := by
    have z := po.map PyProof.Rows.strOf
    rw [List.map_map] at z
    refine z.trans (.trans (.of_eq (List.map_congr_left fun e he => ?_)) pm)
    obtain ⟨x, t, rfl⟩ := g e he
    rfl
  have ol : out.length = l.length := by
    rw [← pl.length_eq, List.length_map]
  have I1 : Inv X pins σ H s1 := I.call' (ch := []) o1 (Un.kept k1) (I.hok.kept k1) (by rw [g1]; exact I.bare) (fun _ z => nomatch z)
  refine wpAny_bind (wpAny_newList ?_ (by rw [ol, sizeLine_eq]; omega))
  have hL : (s1.heap.push (PyProof.Rows.seqObj "list" out.toArray 0)).get? s1.heap.objs.size = some (PyProof.Rows.seqObj "list" out.toArray 0) := Heap.get?_push_size _ rfl
  refine wpAny_bind (wpAny_holding (wpAny_call_entry PyProof.Rows.slot_list_sort ⟨_, hL, rfl⟩ PyProof.Rows.entry_list_sort
    (PyProof.Rows.list_sort_treeK PyProof.Rows.strKind_oneLt hL hS.keysOf (fun v₁ v₂ rest e => PyProof.Rows.keyKind_strs (by rw [← e]; exact hS)) (by rw [ol]; exact h64) fun st' hp hs => ⟨_, rfl, ?_⟩) (PyProof.Rows.args_list_sort _)))
  obtain ⟨ys, y1, y2, y3⟩ := PyProof.Rows.sorted_out_str hS hp hs
  obtain ⟨e', he'⟩ := PyProof.Rows.sortedHeap_at (vs := out) (out := (PyProof.Rows.arrOf st').map (·.2)) hL
  have py := y2.trans pl
  have hlen : (ys.map V.str).length ≤ sizeLine := by
    rw [List.length_map, py.length_eq]
    exact Nat.le_trans (Nat.le_of_lt h64) (by decide)
  refine wpAny_pure ⟨_, rfl, .ref s1.heap.objs.size, upd H s1.heap.objs.size (.lst (ys.map V.str)), I1.laid (t' := s1.toks) (fun b u e => ?_) (Nat.le_refl _)
    (show ObjOk X.prog X.w _ _ _ (.lst (ys.map V.str)) from ⟨hlen, ((PyProof.Rows.arrOf st').map (·.2)).toList, e', vals_of_strs y1, by rw [Array.toArray_toList]; exact he'⟩), rfl, q ys _ py y3 (I1.hok.fresh (Nat.le_refl _))⟩
  have hb' : b < s1.heap.objs.size := Heap.lt_size e
  rw [PyProof.Rows.sortedHeap_old (Nat.ne_of_lt hb') (by rw [PyProof.Rows.size_push']; exact Nat.lt_succ_of_lt hb')]
  exact Heap.get?_push_of_some _ e
end
end TL

set_option Elab.async false
set_option linter.all false
set_option maxRecDepth 100000
set_option maxHeartbeats 4000000
/-! TLz: set(text), len of it; sorted set comprehensions of texts by data; stars in tuples; x in a tuple; == with a written tuple; zip of lists. -/
namespace TL
open PySem PySem.Spec PyProof.Rows L2
variable [XW]
/-! ### set(x), x a text -/
section
variable {P : Program} {w : World} {A : Around} {E : Value → Shared → Prop} {s : Shared}
/-- the signs of a text, each once -/
def Signs (x : Str) (l : List Str) : Prop := ∀ z, z ∈ l ↔ ∃ c ∈ x.cps.toList, z = ⟨#[c]⟩
theorem fill_text {I : Addr} {fp wr : List Addr} {n : Nat} {Pv : Nat → Value → Prop} {St : Nat → Heap → Prop} {R : Result → Shared → Prop} (W : Walks P w A.in1 I fp wr n Pv St) (S : Addr) (hSf : S ∉ fp)
    (x : Str) (hn : n = x.cps.size) (hb : x.cps.size + 1 < scanBound) (hv : ∀ i v, Pv i v → ∃ c u, x.cps[i]? = some c ∧ v = Value.str ⟨#[c]⟩ u) :
    ∀ (k i : Nat) (s : Shared) (l : List Str), n - i = k → i ≤ n → St i s.heap → l.length ≤ i → SetT w s.heap S l → (∀ z, z ∈ l ↔ ∃ c ∈ x.cps.toList.take i, z = ⟨#[c]⟩) →
      (∀ s' l, Moved (S :: wr) (fun a b => b = a) s s' → SetT w s'.heap S l → Signs x l → l.length ≤ n → R (.ok (.ret .none)) s') →
      codeAny (model P w) A (.builtin "set.update.loop" ⟨[.ref S, .ref I], []⟩) R s := by
  have WS := W.toS
  have hSw : S ∉ wr := fun h => hSf (W.sub _ h)
  intro k
  induction k with
  | zero =>
    intro i s l hk hi hst hl hS hm hR
    have e : i = n := by omega
    subst e
    refine codeAny_builtin F.entry_set_update_loop ?_
    rw [Around.under_plainId F.plain_set_update_loop _]
    show wpAny _ A.in1 (pyNext (.ref I) >>= _) _ _ s
    refine wpAny_bind (WS.done s _ _ hst fun s' mv => ?_)
    show wpAny _ A.in1 (ret Value.none) _ _ s'
    refine wpAny_pure (hR s' l (mv.mono fun b hb => List.mem_cons_of_mem _ hb) (hS.at fun o e => mv.heap S o hSw e) (fun z => ?_) hl)
    rw [hm z, List.take_of_length_le (by rw [Array.length_toList, hn]; exact Nat.le_refl _)]
  | succ k ih =>
    intro i s l hk hi hst hl hS hm hR
    have lt : i < n := by omega
    refine codeAny_builtin F.entry_set_update_loop ?_
    rw [Around.under_plainId F.plain_set_update_loop _]
    show wpAny _ A.in1 (pyNext (.ref I) >>= _) _ _ s
    refine wpAny_bind (WS.item i s _ _ lt hst fun v s' hP hst' mv => ?_)
    obtain ⟨c, u, hc, rfl⟩ := hv i v hP
    have hS' : SetT w s'.heap S l := hS.at fun o e => mv.heap S o hSw e
    show wpAny _ A.in1 (holding [Value.str ⟨#[c]⟩ u] (setAdd S (.str ⟨#[c]⟩ u)) >>= _) _ _ s'
    refine wpAny_bind (wpAny_holding ?_)
    unfold setAdd
    refine wpAny_holding (wpAny_bind ((PySem.strKind P w).pyHash (strKind_is P w ⟨#[c]⟩ u) ?_))
    refine addT_hashed (s := { s' with toks := s'.toks + 1 }) hS' (by omega) fun h' sb S2 => ?_
    have len2 : (if (⟨#[c]⟩ : Str) ∈ l then l else ⟨#[c]⟩ :: l).length ≤ i + 1 := by
      split
      · omega
      · rw [List.length_cons]
        omega
    have mem2 : ∀ z, z ∈ (if (⟨#[c]⟩ : Str) ∈ l then l else ⟨#[c]⟩ :: l) ↔ ∃ d ∈ x.cps.toList.take (i + 1), z = ⟨#[d]⟩ := fun z => by
      have e : x.cps.toList.take (i + 1) = x.cps.toList.take i ++ [c] := by
        rw [List.take_add_one, Array.getElem?_toList, hc]
        rfl
      rw [e]
      have base : (∃ d ∈ x.cps.toList.take i ++ [c], z = ⟨#[d]⟩) ↔ z ∈ l ∨ z = ⟨#[c]⟩ := by
        rw [hm z]
        constructor
        · rintro ⟨d, hd, rfl⟩
          rcases List.mem_append.mp hd with hd | hd
          · exact .inl ⟨d, hd, rfl⟩
          · rw [List.mem_singleton.mp hd]
            exact .inr rfl
        · rintro (⟨d, hd, rfl⟩ | rfl)
          · exact ⟨d, List.mem_append_left _ hd, rfl⟩
          · exact ⟨c, List.mem_append_right _ (List.mem_singleton.mpr rfl), rfl⟩
      rw [base]
      split
      · rename_i hin
        exact ⟨.inl, fun z => z.elim id fun e => e ▸ hin⟩
      · rw [List.mem_cons]
        exact Or.comm
    refine wpAny_pure ⟨plainId_quiet F.plain_set_update_loop _, ih (i + 1) _ _ (by omega) lt (WS.frame _ s' _ _ hst' (Nat.le_succ _) fun b hb o e => ?_) len2 S2 mem2 fun s'' l2 m2 S3 g3 n3 => ?_⟩
    · rw [sb.2 b (fun h : b = S => hSf (by rw [← h]; exact hb))]
      exact e
    · refine hR s'' l2 (Moved.trans WS.gtrans ((mv.mono fun b hb => List.mem_cons_of_mem _ hb).then_heap (Nat.le_succ _) fun b o hb e => ?_) m2) S3 g3 n3
      rw [sb.2 b (fun h : b = S => hb (by rw [h]; exact List.mem_cons_self))]
      exact e
end
section
variable {P : Program} {w : World} {A : Around} {E : Value → Shared → Prop} {s : Shared}
set_option maxHeartbeats 4000000 in
theorem init_text {x : Str} {u : Tok} (calm : A.handled = none) (hb : x.cps.size + 1 < scanBound) :
    codeAny (model P w) A (.call (.builtin "set.__init__") ⟨[.ref s.heap.objs.size, .str x u], []⟩)
      (wants (fun r s2 => r = .none ∧ ∃ (g : Heap) (k : Nat) (l : List Str), s2 = { s with heap := g, toks := k } ∧ SetT w g s.heap.objs.size l ∧ Signs x l ∧ l.length ≤ x.cps.size ∧ ∀ b o, s.heap.get? b = some o → g.get? b = some o) E)
      { s with heap := s.heap.push (setE w) } := by
  have e0 : (s.heap.push (setE w)).get? s.heap.objs.size = some (setE w) := Heap.get?_push_size _ rfl
  have ty : Shared.TypeIs { s with heap := s.heap.push (setE w) } (.ref s.heap.objs.size) "set" := ⟨_, e0, rfl⟩
  refine codeAny_call_builtin F.called_set.init.plain F.entry_set_init (check_set_init_1 ty ?_)
  have f1 := F.sub_str_set
  have f2 := F.sub_str_frozenset
  have f3 : (Value.type "str" == Value.type "dict") = false := by decide
  unfold Builtin.«set.__init__» noKeywords Builtin.Frozenset.updateFrom
  generalize hp : pyIter = PI
  wp_walk
  subst hp
  refine wpAny_pyIter_str fun o St hW st0 => ?_
  refine wpAny_bind (wpAny_runValue ?_)
  have c3 : A.in1.in1.handled = none := by simp [calm]
  have n1 : (s.heap.push (setE w)).objs.size = s.heap.objs.size + 1 := Heap.size_push ..
  have n3 : s.heap.objs.size ∉ [(s.heap.push (setE w)).objs.size] := by
    rw [n1]
    intro z
    exact absurd (List.mem_singleton.mp z) (Nat.ne_of_lt (Nat.lt_succ_self _))
  refine fill_text (hW _ c3) s.heap.objs.size n3 x rfl hb (fun i v h => h) (x.cps.size - 0) 0 _ [] (by omega) (Nat.zero_le _) st0 (Nat.le_refl _) (setT_fresh (Heap.get?_push_of_some _ e0)) (by simp) ?_
  intro s3 l mv S g3 hl
  obtain ⟨g, gs, dr, tk, oo⟩ := s3
  obtain rfl : gs = s.gens := mv.gens
  obtain rfl : dr = s.drawn := mv.drawn
  obtain rfl : oo = s.os := mv.os
  show wpAny _ _ _ _ _ _
  refine wpAny_pure ?_
  show wpAny _ _ (ret Value.none) _ _ _
  refine wpAny_pure ⟨rfl, g, tk, l, rfl, S, g3, hl, fun b ob e => ?_⟩
  have b0 : b < s.heap.objs.size := Heap.lt_size e
  refine mv.heap b ob (fun z => ?_) (Heap.get?_push_of_some _ (Heap.get?_push_of_some _ e))
  rcases List.mem_cons.mp z with z | z
  · exact absurd z (Nat.ne_of_lt b0)
  · have z := List.mem_singleton.mp z
    rw [n1] at z
    exact absurd z (Nat.ne_of_lt (Nat.lt_succ_of_lt b0))
/-- set(x) -/
theorem set_of_text {x : Str} {u : Tok} {Q : Value → Shared → Prop} (calm : A.handled = none) (hb : x.cps.size + 1 < scanBound)
    (k : ∀ (g : Heap) (t : Nat) (l : List Str), SetT w g s.heap.objs.size l → Signs x l → l.length ≤ x.cps.size → (∀ b o, s.heap.get? b = some o → g.get? b = some o) → Q (.ref s.heap.objs.size) { s with heap := g, toks := t }) :
    wpAny (model P w) A (call (.type "set") [.str x u]) Q E s := by
  obtain ⟨m1, m2, m3⟩ := F.called_set.mro; have m4 := F.called_set.made; have m5 := F.called_set.sub
  refine wpAny_call (codeAny_of_tree ?tree); case tree =>
  show wpAny _ _ (callAny (.type "set") ⟨[.str x u], []⟩) _ _ _
  refine wpAny_pure ⟨Code.quiet_builtin _ (by decide +kernel), codeAny_builtin F.entry_type_call ?body⟩; case body =>
  rw [Around.under_plain (weight_type_call_type "set" [.str x u] []) rfl]; have m6 := F.called_set.notType; have m7 := F.called_set.canCreate; have m8 := F.typeCall_set_1 (.str x u)
  repeat (any_goals first | assumption | wp_step)
  refine codeAny_mono (code_set_led1 (.str x u) (E := E) (Q₁ := fun v s1 => v = .ref s.heap.objs.size ∧ s1 = { s with heap := s.heap.push (setE w) }) ⟨rfl, rfl⟩) ?after
  case after =>
    rintro (e | f) s1 hr
    · exact hr
    · cases f with
      | ret v =>
        obtain ⟨rfl, rfl⟩ := hr
        have e0 : (s.heap.push (setE w)).get? s.heap.objs.size = some (setE w) := Heap.get?_push_size _ rfl
        have ty : Shared.TypeIs { s with heap := s.heap.push (setE w) } (.ref s.heap.objs.size) "set" := ⟨_, e0, rfl⟩
        have i1 := F.called_set.init.lookup; have i2 := F.called_set.init.bind (.ref s.heap.objs.size)
        repeat (any_goals first | assumption | wp_step)
        refine codeAny_mono (init_text (E := E) (by first | exact calm | simp [calm]) hb) ?done
        case done =>
          rintro (e | f) s2 hr2
          · exact hr2
          · cases f with
            | ret r =>
              obtain ⟨rfl, g, t, l, rfl, S, g3, hl, kept⟩ := hr2
              repeat (any_goals first | assumption | wp_step)
              exact k g t l S g3 hl kept
            | _ => exact hr2.elim
      | _ => exact hr.elim
end
section
variable {X : Cx}
def rSetS (w : World) : List V → Hp → VK → Prop := fun xs H Q => ∃ x : Str, xs = [V.str x] ∧ x.cps.size < 4000 ∧ ∀ (p : Addr) (l : List Str), H p = none → Signs x l → l.Nodup → Q (.ref p) (upd H p (setTO w p l))
theorem cr_setS (hc : X.calm = true) : CallR X (.type "set") (rSetS X.w) := by
  intro pins s σ H xs us Q I r h
  obtain ⟨x, rfl, hl, q⟩ := h
  obtain ⟨u, rfl, t, rfl⟩ := L2.vals1 r
  refine set_of_text (I.ok.hd hc) (by unfold scanBound; omega) fun g k l S g3 _ kept => ?_
  have free : H s.heap.objs.size = none := I.hok.fresh (Nat.le_refl _)
  have nd : l.Nodup := by
    obtain ⟨_, _, _, _, _, _, _, _, _, nd, _⟩ := S
    exact nd
  exact ⟨.ref _, _, I.laid (t' := k) kept (Nat.le_refl _) (setTO_ok S), rfl, q _ l free g3 nd⟩
/-- len(found) -/
def rLenT (w : World) : List V → Hp → VK → Prop := fun xs H Q => ∃ (a : Addr) (l : List Str), xs = [V.ref a] ∧ H a = some (setTO w a l) ∧ Q (.int (l.length : Nat)) H
theorem cr_lenT : CallR X (.builtin "len") (rLenT X.w) := by
  intro pins s σ H xs us Q I r h
  obtain ⟨a, l, rfl, ha, q⟩ := h
  rw [Vals.ref1 r]
  obtain ⟨o, es, ep, t, ho, hx, hd, g, pm, nd, hb, hf, hr, hl⟩ := setTO_get I ha
  have sz : es.size = l.length := by rw [← pm.length_eq, List.length_map, Array.length_toList]
  refine call_len_set ho hx hd hf ?_ ?_
  · unfold scanBound at hb
    omega
  · rw [sz]
    exact ⟨.int _, H, (I.tok _).tok _, ⟨_, rfl⟩, q⟩
end
/-! ### by data -/
section
variable {K : PySem.W.Frag} {ta tb te : TE} {ua ub ue : DTE}
/-- len(set(x)) -/
def dLenSet (u : DTE) : DTE := fun δ R => u δ fun d δ1 => match d with
  | .str x => x.cps.size < 4000 ∧ ∀ l, Signs x l → l.Nodup → R (.int (l.length : Nat)) δ1
  | _ => False
theorem re_lenSet {w : World} (ha : RE K ta ua) : RE K (tCB (rLenT w) (tCons (tCB (rSetS w) (tCons ta tNil)) tNil)) (dLenSet ua) := by
  intro c σ G H δ Q R E h k
  refine ha c σ G H δ _ _ E h fun d δ1 v G1 H1 h1 E1 e1 r => ?_
  cases d <;> first
    | exact False.elim h1
    | skip
  rename_i x
  obtain ⟨hl, h1⟩ := h1
  have e := r.str_of
  subst e
  refine ⟨x, rfl, hl, fun p l hp g nd => ?_⟩
  have A1 : Al G1 H1 G1 (upd H1 p (setTO w p l)) := Al.tmp E1.ex hp
  exact ⟨p, l, rfl, upd_same, k _ δ1 _ _ _ (h1 l g nd) (E1.al A1) (e1.trans A1.g) (.int _)⟩
/-- the turns of a set comprehension -/
def scW (vs : List Nat) (g : DTG) (t : DTT) (u : DTE) (R : List Str → List Sl → Prop) : List PyData → List Str → List Sl → Prop
  | [], acc, δ => R acc δ
  | d :: r, acc, δ => g d (wipeS δ vs) fun δ1 => t δ1 fun b δ2 => if b = true then u δ2 fun y δ3 => (match y with
    | .str z => acc.length < 4000 ∧ scW vs g t u R r (acc ++ [z]) (wipeS δ3 vs)
    | _ => False) else scW vs g t u R r acc (wipeS δ2 vs)
/-- sorted({..}), of texts -/
def dSortSc (w : DTI) (g : DTG) (t : DTT) (u : DTE) (vs : List Nat) : DTE := fun δ R => w δ fun ds δ1 => scW vs g t u (fun acc δ' => (∀ l : List Str, l.Nodup → (∀ z, z ∈ l ↔ z ∈ acc) → l.length < 64) ∧
  ∀ ms : List Str, PyProof.Rows.sortedS ms = true → ms.Nodup → (∀ z, z ∈ ms ↔ z ∈ acc) → R (.list (ms.map PyData.str)) δ') ds [] δ1
theorem strs_rpD {G : Hp} : ∀ ms : List Str, RpAll K G (ms.map V.str) (ms.map PyData.str)
  | [] => .nil
  | z :: r => .cons (.str z) (strs_rpD r)
section
variable {wi : L2.TI} {uw : DTI} {g : TG} {ug : DTG} {js vs : List Nat} {tt : TT} {ut : DTT}
theorem re_sortSc {w : World} (hw : RI K wi uw) (hg : RG K g ug js) (ht : RT K tt ut) (he : RE K te ue) (hj : ∀ j ∈ js, j ∈ vs) : RE K (tCB (rSortT w) (tCons (tScG (rAddTx w) (fun a => setTO w a []) wi g tt te vs) tNil)) (dSortSc uw ug ut ue vs) := by
  intro c σ G H δ Q R E h k
  refine hw c σ G H δ _ _ E h fun ds δ1 J G1 H1 h1 E1 e1 Y => ?_
  intro D hD
  have hn := hid_new E1 hD
  refine ⟨fun i m H => ∃ G δ acc l, EnvOk K { c with hid := (D, setTO w D l) :: c.hid } G H σ δ ∧ Ex G1 G ∧ l.Nodup ∧ (∀ z, z ∈ l ↔ z ∈ acc) ∧ l.length ≤ acc.length ∧ i ≤ ds.length ∧ m = ds.length - i ∧
    scW vs ug ut ue (fun acc δ' => (∀ l : List Str, l.Nodup → (∀ z, z ∈ l ↔ z ∈ acc) → l.length < 64) ∧ ∀ ms : List Str, PyProof.Rows.sortedS ms = true → ms.Nodup → (∀ z, z ∈ ms ↔ z ∈ acc) → R (.list (ms.map PyData.str)) δ') (ds.drop i) acc δ,
    ⟨ds.length, G1, δ1, [], [], E1.hide (ob := setTO w D []) hD (E1.new0 hD), Ex.refl _, .nil, fun _ => Iff.rfl, Nat.le_refl _, Nat.zero_le _, rfl, h1⟩, ?_⟩
  rintro i m H2 ⟨G2, δ2, acc, l, E2, e2, nd, hm, hll, hi, rfl, h2⟩
  by_cases hlt : i < ds.length
  · have hd : ds[i]? = some ds[i] := List.getElem?_eq_getElem hlt
    rw [List.drop_eq_getElem_cons hlt] at h2
    obtain ⟨hgo, hy⟩ := Y.go G2 H2 i _ e2 E2.ex hd
    refine .inr ⟨hgo, fun H' => ∃ G δ acc l, EnvOk K { c with hid := (D, setTO w D l) :: c.hid } G H' σ δ ∧ Ex G1 G ∧ l.Nodup ∧ (∀ z, z ∈ l ↔ z ∈ acc) ∧ l.length ≤ acc.length ∧
      scW vs ug ut ue (fun acc δ' => (∀ l : List Str, l.Nodup → (∀ z, z ∈ l ↔ z ∈ acc) → l.length < 64) ∧ ∀ ms : List Str, PyProof.Rows.sortedS ms = true → ms.Nodup → (∀ z, z ∈ ms ↔ z ∈ acc) → R (.list (ms.map PyData.str)) δ') (ds.drop (i + 1)) acc δ,
      fun H' ⟨G', δ', acc', l', a1, a2, a3, a4, a5, a6⟩ => ⟨ds.length - (i + 1), by omega, G', δ', acc', l', a1, a2, a3, a4, a5, hlt, rfl, a6⟩, fun x H3 hx => ?_⟩
    obtain ⟨G3, A, rx⟩ := hy x H3 hx
    have E3 := (E2.al A).wipe vs
    refine hg _ (wipe σ vs) G3 H3 _ x _ _ _ E3 rx h2 fun σ4 δ4 h4 E4 l4 s4 => ?_
    rw [wipe_length] at l4
    have o4 : ∀ i, i ∉ vs → σ4[i]? = σ[i]? := fun i hi => by
      rw [s4 i fun z => hi (hj i z), wipe_get, if_neg fun z => hi z.1]
    refine ⟨wipe_eq l4 o4, ?_⟩
    have back : ∀ {cc : Cf} {G H : Hp} {δ : List Sl}, EnvOk K cc G H σ4 δ → EnvOk K cc G H σ (wipeS δ vs) := fun {cc G H δ} E => by
      have z := E.wipe vs
      rw [wipe_eq l4 o4] at z
      refine z.other (by rw [wipe_length]) fun i hi => ?_
      rw [wipe_get, if_neg fun z => hi z.1]
    refine ht _ σ4 G3 H3 δ4 _ _ E4 h4 fun b δ5 G5 H5 h5 E5 e5 => ?_
    have e15 : Ex G1 G5 := (e2.trans A.g).trans e5
    cases b with
    | false => exact ⟨G5, wipeS δ5 vs, acc, l, back E5, e15, nd, hm, hll, h5⟩
    | true =>
      refine he _ σ4 G5 H5 δ5 _ _ E5 h5 fun y δ6 v G6 H6 h6 E6 e6 r6 => ?_
      cases y <;> first
        | exact False.elim h6
        | skip
      rename_i z
      obtain ⟨q1, q2⟩ := E6.hd D _ List.mem_cons_self
      have h6 : acc.length < 4000 ∧ scW vs ug ut ue _ (ds.drop (i + 1)) (acc ++ [z]) (wipeS δ6 vs) := h6
      refine ⟨z, l, r6.str_of, q1, by unfold scanBound; omega, G6, wipeS δ6 vs, acc ++ [z], _, (back E6).grow hn, e15.trans e6, ?_, fun y => ?_, ?_, h6.2⟩
      · split
        · exact nd
        · rename_i hz
          exact List.nodup_cons.mpr ⟨hz, nd⟩
      · rw [List.mem_append, List.mem_singleton, ← hm y]
        split
        · rename_i hz
          exact ⟨.inl, fun q => q.elim id fun e => e ▸ hz⟩
        · rw [List.mem_cons]
          exact Or.comm
      · rw [List.length_append, List.length_singleton]
        split
        · omega
        · rw [List.length_cons]
          omega
  · have ei : i = ds.length := by omega
    subst ei
    rw [List.drop_length] at h2
    obtain ⟨h64, h2⟩ := h2
    obtain ⟨q1, q2⟩ := E2.hd D _ List.mem_cons_self
    refine .inl ⟨Y.stop G2 H2 e2 E2.ex, D, l, rfl, q1, h64 l nd hm, fun ys p py sy hp => ?_⟩
    have A2 := Al.new (o := .lst (ys.map V.str)) E2.ex hp
    refine k _ δ2 _ _ _ (h2 ys sy (py.nodup_iff.mpr nd) fun z => (py.mem_iff).trans (hm z)) (E2.unhide.al A2) ((e1.trans e2).trans A2.g) (.lst upd_same (strs_rpD ys))
end
/-- a slice of a tuple, the whole one too -/
def dSlA : R3D := fun d lo hi R => match d with
  | .tuple ds => R (.tuple (cutP ds lo hi))
  | _ => False
theorem rsl_tupA : RSl K (rSlA K) dSlA := by
  intro G H x d lo hi Q R e r h k
  cases d <;> first
    | exact False.elim h
    | skip
  rename_i ds
  obtain ⟨a, xs, rfl, h1, q1⟩ := r.tup_of
  refine ⟨a, xs, rfl, .inl (.inl (e _ _ h1)), fun hw => ?_, fun _ p hp => ?_⟩
  · rw [q1.len] at hw
    have e1 : cutP ds lo hi = ds := by
      unfold cutP
      rw [hw.1, hw.2, List.drop_zero, Nat.sub_zero, List.take_length]
    have h : R (.tuple (cutP ds lo hi)) := h
    rw [e1] at h
    exact k _ _ G H h (Al.refl e) (.tup h1 q1)
  · have A := Al.new (o := .tup (cutV xs lo hi)) e hp
    exact k _ _ _ _ h A (.tup upd_same ((cut_rp q1 lo hi).up A.g))
/-- *e in a display -/
def dStar (u : DTE) (ur : DTA) : DTA := fun δ R => u δ fun d δ1 => match d with
  | .list ds => ur δ1 fun es δ2 => R (ds ++ es) δ2
  | .tuple ds => ur δ1 fun es δ2 => R (ds ++ es) δ2
  | _ => False
theorem ra_star {tr : TA} {ur : DTA} (ha : RE K te ue) (hr : RA K tr ur) : RA K (StX.tStar K te tr) (dStar ue ur) := by
  intro c σ G H δ Q R E h k
  refine ha c σ G H δ _ _ E h fun d δ1 v G1 H1 h1 E1 e1 r1 => ?_
  cases d <;> first
    | exact False.elim h1
    | skip
  · obtain ⟨a, xs, rfl, q1, q2⟩ := r1.lst_of
    refine ⟨a, xs, rfl, .inr (.inl (.inl (E1.ex _ _ q1))), ?_⟩
    exact hr c σ G1 H1 δ1 _ _ E1 h1 fun es δ2 vs G2 H2 h2 E2 e2 r2 => k _ δ2 _ G2 H2 h2 E2 (e1.trans e2) (RpAll.app (q2.up e2) r2)
  · obtain ⟨a, xs, rfl, q1, q2⟩ := r1.tup_of
    refine ⟨a, xs, rfl, .inl (.inl (.inl (E1.ex _ _ q1))), ?_⟩
    exact hr c σ G1 H1 δ1 _ _ E1 h1 fun es δ2 vs G2 H2 h2 E2 e2 r2 => k _ δ2 _ G2 H2 h2 E2 (e1.trans e2) (RpAll.app (q2.up e2) r2)
/-- x in a tuple -/
def rInDT (K : PySem.W.Frag) (neg : Bool) : R2 := fun x y H Q => ∃ d ds, Dp K H x d ∧ Dp K H y (.tuple ds) ∧ SeqAt.shaped d = true ∧ SeqAt.shaped (.tuple ds) = true ∧ Q (.bl (if neg = true then !(ds.any fun z => PyData.eqv z d) else ds.any fun z => PyData.eqv z d)) H
def dInTup (neg : Bool) : R2D := fun a b R => match b with
  | .tuple ds => SeqAt.shaped a = true ∧ SeqAt.shaped (.tuple ds) = true ∧ R (.bool (if neg = true then !(ds.any fun z => PyData.eqv z a) else ds.any fun z => PyData.eqv z a))
  | _ => False
theorem ro_inTup (neg : Bool) : RO K (rInDT K neg) (dInTup neg) := by
  intro G H x y d1 d2 Q R e r1 r2 h k
  cases d2 <;> first
    | exact False.elim h
    | skip
  rename_i ds
  exact ⟨d1, ds, (r1.up e).dp _ _ (SeqAt.canLay_of_shaped h.1), (r2.up e).dp _ _ (SeqAt.canLay_of_shaped h.2.1), h.1, h.2.1, k _ _ G H h.2.2 (Al.refl e) (.bl _)⟩
/-- == with a written thing -/
def dEqC (u : DTE) (d0 : PyData) (neg : Bool) : DTE := fun δ R => u δ fun d δ1 => SeqAt.shaped d = true ∧ R (.bool (if neg = true then !(PyData.eqv d d0) else PyData.eqv d d0)) δ1
theorem re_eqC {r : R2} {v0 : V} {d0 : PyData} (neg : Bool) (ha : RE K ta ua) (hr : ∀ x H Q d, Dp K H x d → SeqAt.shaped d = true → Q (.bl (if neg = true then !(PyData.eqv d d0) else PyData.eqv d d0)) H → r x v0 H Q) :
    RE K (tOp r ta (tC v0)) (dEqC ua d0 neg) := by
  intro c σ G H δ Q R E h k
  refine ha c σ G H δ _ _ E h fun d δ1 v G1 H1 h1 E1 e1 r1 => ?_
  exact hr v H1 _ d ((r1.up E1.ex).dp _ _ (SeqAt.canLay_of_shaped h1.1)) h1.1 (k _ δ1 _ G1 H1 h1.2 E1 e1 (.bl _))
/-- two texts held against each other -/
def dNeT : R2D := fun a b R => match a, b with
  | .str x, .str y => R (.bool (!(x == y)))
  | _, _ => False
theorem ro_neT : RO K rNe dNeT := by
  intro G H x y d1 d2 Q R e r1 r2 h k
  cases d1 <;> cases d2 <;> first
    | exact False.elim h
    | skip
  have e1 := r1.str_of
  have e2 := r2.str_of
  subst e1 e2
  refine ⟨rfl, ?_⟩
  rw [dec_str]
  exact k _ _ G H h (Al.refl e) (.bl _)
/-- zip of two lists -/
def zipL (xs ys : List PyData) : List PyData := (xs.zip ys).map fun p => .tuple [p.1, p.2]
def diZL (ua ub : DTE) : DTI := fun δ R => ua δ fun d1 δ1 => ub δ1 fun d2 δ2 => match d1, d2 with
  | .list x, .list y => R (zipL x y) δ2
  | _, _ => False
theorem ri_zipL (ha : RE K ta ua) (hb : RE K tb ub) : RI K (iZip K (tCons ta (tCons tb tNil))) (diZL ua ub) := by
  intro c σ G H δ Q R E h k
  refine ha c σ G H δ _ _ E h fun d1 δ1 v1 G1 H1 h1 E1 e1 r1 => ?_
  refine hb c σ G1 H1 δ1 _ _ E1 h1 fun d2 δ2 v2 G2 H2 h2 E2 e2 r2 => ?_
  cases d1 <;> cases d2 <;> first
    | exact False.elim h2
    | skip
  rename_i x y
  obtain ⟨a, xs, rfl, a1, a2⟩ := (r1.up e2).lst_of
  obtain ⟨b, ys, rfl, b1, b2⟩ := r2.lst_of
  have at1 : ∀ {G3 H3 : Hp}, Ex G2 G3 → Ex G3 H3 → SqL K H3 a xs ∧ SqL K H3 b ys := fun e3 e4 => ⟨.inl (.inl (e4 _ _ (e3 _ _ a1))), .inl (.inl (e4 _ _ (e3 _ _ b1)))⟩
  have sl := at1 (Ex.refl _) E2.ex
  refine ⟨a, b, xs, ys, rfl, sl.1, sl.2, k _ δ2 _ G2 H2 h2 E2 (e1.trans e2) ⟨fun G3 H3 z1 z2 => ?_, fun G3 H3 i d z1 z2 hd => ?_⟩⟩
  · refine ⟨xs, ys, (at1 z1 z2).1, (at1 z1 z2).2, ?_⟩
    have l1 := a2.len
    have l2 := b2.len
    unfold zipL
    rw [List.length_map, List.length_zip]
    omega
  · unfold zipL at hd
    rw [List.getElem?_map] at hd
    cases q : (x.zip y)[i]? with
    | none =>
      rw [q] at hd
      cases hd
    | some ch =>
      rw [q] at hd
      cases hd
      rw [List.getElem?_zip_eq_some] at q
      obtain ⟨qa, qb⟩ := q
      obtain ⟨u1, hu1, ru1⟩ := a2.get qa
      obtain ⟨u2, hu2, ru2⟩ := b2.get qb
      have sl := at1 z1 z2
      refine ⟨⟨xs, ys, u1, u2, sl.1, sl.2, hu1, hu2⟩, fun z H4 hy => ?_⟩
      obtain ⟨T, x', y', rfl, hT, rfl, hc, hd⟩ := hy
      have c1 := (hc xs sl.1).symm.trans hu1
      have c2 := (hd ys sl.2).symm.trans hu2
      cases c1
      cases c2
      have A := Al.new (o := .tup [u1, u2]) z2 hT
      exact ⟨_, A, .tup upd_same (.cons ((ru1.up z1).up A.g) (.cons ((ru2.up z1).up A.g) .nil))⟩
end
/-! ### rules by syntax -/
section
variable {X : Cx} {a b e : Expr} {es : List Expr} {ta tb te : TE} {ua ub ue : DTE} {tr : TA} {ur : DTA} {pos p p2 pk : Pos}
theorem op_inDT (neg : Bool) (hu : X.A.units + 65 < cLine) : OpR X (compareOp (if neg = true then .NotIn else .In)) (rInDT X.K neg) := by
  intro pins s σ H x y v u Q I rx ry h
  obtain ⟨d, ds, hd, he, sd, se, q⟩ := h
  obtain ⟨as, r1⟩ := Dp.reads I d x v hd rx
  obtain ⟨bs, r2⟩ := Dp.reads I (.tuple ds) y u he ry
  cases neg with
  | true => exact SeqAt.notIn_tuple_reads r2 r1 (SeqAt.canLay_of_shaped se) (SeqAt.canLay_of_shaped sd) (room_in_shaped sd hu) ⟨.bl _, H, I, rfl, q⟩
  | false => exact SeqAt.in_tuple_reads r2 r1 (SeqAt.canLay_of_shaped se) (SeqAt.canLay_of_shaped sd) (room_in_shaped sd hu) ⟨.bl _, H, I, rfl, q⟩
theorem da_star {sp_ : Pos} (ha : DE X e te ue) (hr : DA X es tr ur) (hs : starEach (.Starred e sp_ :: es) X.env = (true, eval e X.env) :: starEach es X.env := by rfl) : DA X (.Starred e sp_ :: es) (StX.tStar X.K te tr) (dStar ue ur) := ⟨StX.pa_star ha.pe hr.pa hs, ra_star ha.re hr.ra⟩
theorem de_lenSet (hm : X.mg "len" = none) (hm2 : X.mg "set" = none) (ha : DE X a ta ua) (hc : X.calm = true := by rfl) (hg : Gl X "len" := by rfl) (hg2 : Gl X "set" := by rfl)
    (hv2 : bootBuiltins "set" = some (.type "set") := by decide +kernel) (hs : starEach [a] X.env = (false, eval a X.env) :: starEach [] X.env := by rfl) (hpl : (backTo p2 (starEach [] X.env)).any (·.1) = false := by rfl)
    (hs2 : starEach [.Call (.Name "set" pk) [a] [] p2] X.env = (false, eval (.Call (.Name "set" pk) [a] [] p2) X.env) :: starEach [] X.env := by rfl) (hpl2 : (backTo pos (starEach [] X.env)).any (·.1) = false := by rfl) :
    DE X (.Call (.Name "len" p) [.Call (.Name "set" pk) [a] [] p2] [] pos) (tCB (rLenT X.w) (tCons (tCB (rSetS X.w) (tCons ta tNil)) tNil)) (dLenSet ua) :=
  ⟨pe_callB cr_lenT hg hm PySem.boot_len (pa_cons (pe_callTy (cr_setS hc) hg2 hm2 hv2 (pa_cons ha.pe pa_nil hs) (by decide) (by decide) hs hpl) pa_nil hs2) (by decide) (by decide) hs2 hpl2, re_lenSet ha.re⟩
theorem de_sortSc {elt tg iter : Expr} {ifs : List Expr} {scope : Scope} (own : List (Str × Nat)) {w : L2.TI} {uw : DTI} {g : TG} {ug : DTG} {js : List Nat} {tt : TT} {ut : DTT} (hm : X.mg "sorted" = none) (hc : X.calm = true) (hN : X.N.Nodup) (hi : DI X tg iter w uw) (ok : BlkOk X.N X.env.scope scope own)
    (hg : ∀ (s : Shared) (H : Hp) (C : Addr) (cl : List (Str × Addr)) (fp : List Addr), DG (X.blk s H scope (compEnvC scope cl C X.env) fp) tg g ug js) (ht : ∀ (s : Shared) (H : Hp) (C : Addr) (cl : List (Str × Addr)) (fp : List Addr), DTs (X.blk s H scope (compEnvC scope cl C X.env) fp) ifs tt ut)
    (he : ∀ (s : Shared) (H : Hp) (C : Addr) (cl : List (Str × Addr)) (fp : List Addr), DE (X.blk s H scope (compEnvC scope cl C X.env) fp) elt te ue) (hj : ∀ j ∈ js, j ∈ own.map (·.2)) (hs : ∀ x, foldedSetIterable iter X.env x = pure x := by intro _; rfl)
    (hgl : Gl X "sorted" := by rfl) (hv : bootBuiltins "sorted" = some (.builtin "sorted") := by decide +kernel)
    (hs2 : starEach [.SetComp elt [⟨tg, iter, ifs, 0⟩] scope p2] X.env = (false, eval (.SetComp elt [⟨tg, iter, ifs, 0⟩] scope p2) X.env) :: starEach [] X.env := by rfl) (hpl2 : (backTo pos (starEach [] X.env)).any (·.1) = false := by rfl) :
    DE X (.Call (.Name "sorted" p) [.SetComp elt [⟨tg, iter, ifs, 0⟩] scope p2] [] pos) (tCB (rSortT X.w) (tCons (tScG (rAddTx X.w) (fun a => setTO X.w a []) w g tt te (own.map (·.2))) tNil)) (dSortSc uw ug ut ue (own.map (·.2))) :=
  ⟨pe_callB (cr_sortT hc) hgl hm hv (pa_cons (pe_scG addR_text fresh_text hc hN hi.pi ok (fun a b c d e => (hg a b c d e).pg) (fun a b c d e => (ht a b c d e).pt) (fun a b c d e => (he a b c d e).pe) hs) pa_nil hs2) (by decide) (by decide) hs2 hpl2,
   re_sortSc hi.ri (hg X.s_0 X.H_0 0 [] []).rg (ht X.s_0 X.H_0 0 [] []).rt (he X.s_0 X.H_0 0 [] []).re hj⟩
theorem di_zipL {elts : List Expr} {kk : Nat} {tpos : Pos} (hm : X.mg "zip" = none) (ha : DE X a ta ua) (hb : DE X b tb ub) (hg : Gl X "zip" := by rfl)
    (hs : starEach [a, b] X.env = (false, eval a X.env) :: starEach [b] X.env := by rfl) (hs2 : starEach [b] X.env = (false, eval b X.env) :: starEach [] X.env := by rfl) (hpl : (backTo pos (starEach [b] X.env)).any (·.1) = false := by rfl) :
    DI X (.Tuple elts kk tpos) (.Call (.Name "zip" p) [a, b] [] pos) (iZip X.K (tCons ta (tCons tb tNil))) (diZL ua ub) :=
  ⟨pi_zip hg hm (pa_cons ha.pe (pa_cons hb.pe pa_nil hs2) hs) hs hpl, ri_zipL ha.re hb.re⟩
/-- a module's name that stands for a written tuple -/
structure GDat (K : PySem.W.Frag) (mg : Str → Option Value) (x : Str) (a0 : Addr) (d : PyData) : Prop where
  at_ : mg x = some (.ref a0)
  sh : SeqAt.shaped d = true
  dp : ∀ H, Dp K H (.ref a0) d
theorem de_eqG {x : Str} {a0 : Addr} {d0 : PyData} (hu : X.A.units + 64 < cLine) (D : GDat X.K X.mg x a0 d0) (ha : DE X a ta ua) (hg : Gl X x := by rfl) (hd : (x == ("__debug__" : Str)) = false := by decide)
    (hm : lastMarks [CmpOp.Eq] [Expr.Name x p] = false := by first | rfl | exact nomark _) : DE X (.Compare a [.Eq] [.Name x p] pos) (tOp (rEqD X.K) ta (tC (.ref a0))) (dEqC ua d0 false) :=
  ⟨pe_cmpR (op_eqD hu) ha.pe (pe_glob hg D.at_ rfl hd) hm, re_eqC false ha.re fun v H Q d hd hs q => ⟨d, d0, hd, D.dp H, hs, D.sh, q⟩⟩
theorem dt_eqG {x : Str} {a0 : Addr} {d0 : PyData} (hu : X.A.units + 64 < cLine) (D : GDat X.K X.mg x a0 d0) (ha : DE X a ta ua) (hg : Gl X x := by rfl) (hd : (x == ("__debug__" : Str)) = false := by decide)
    (hm : lastMarks [CmpOp.Eq] [Expr.Name x p] = false := by first | rfl | exact nomark _) : DT X (.Compare a [.Eq] [.Name x p] pos) (tTest (tOp (rEqD X.K) ta (tC (.ref a0)))) (dTest (dEqC ua d0 false)) :=
  ⟨pt_cmpR (op_eqD hu) ha.pe (pe_glob hg D.at_ rfl hd) hm, rt_test (re_eqC false ha.re fun v H Q d hd hs q => ⟨d, d0, hd, D.dp H, hs, D.sh, q⟩)⟩
/-- a written tuple of one text -/
theorem gdat_one {K : PySem.W.Frag} {mg : Str → Option Value} {x z : Str} {a0 : Addr} {t : Tok} {n : Nat} (hm : mg x = some (.ref a0)) (hl : K.lookup a0 = some ⟨.type "tuple", none, .seq #[.str z t] n, #[]⟩) (hs : SeqAt.shaped (.tuple [.str z]) = true) : GDat K mg x a0 (.tuple [.str z]) :=
  ⟨hm, hs, fun H => .tup (.inr ⟨_, _, _, hl, rfl, rfl, by show 1 ≤ sizeLine; decide, .cons (show RelV (V.str z) (Value.str z t) from ⟨t, rfl⟩) .nil⟩) (.cons (.str z) .nil)⟩
end
end TL

set_option Elab.async false
set_option linter.all false
set_option maxRecDepth 100000
set_option maxHeartbeats 4000000
/-! TXa: errors of classes of one's own over any built-in error: stored into, made, thrown. -/
namespace TXE
open PySem PySem.W PySem.Spec PySem.Calls PyProof.Rows Builtin Builtin.ObjectAttr
section
variable {prog : Program} {w : World} {A : Around} {R : Result → Shared → Prop} {hp : Heap} {g : Array GenState} {d : Drawn} {t : Nat} {os : OsState} {K : Frag} {B : String} {bmB : List Value} {name : Str} {tk : Tok} {v : Value} {x C dx : Addr} {fv : Array Value}
theorem dict_cls (h : hasDictIn K C = true) : ∃ cd, clsIn K C = some cd ∧ cd.hasDict = true := any_some h
/-- the first field -/
theorem first_field (SF : StoreFacts B bmB "object.__setattr__" "object") (KX : K.In hp) (hx : hp.get? x = some { cls := .ref C, data := .fields fv }) (ov : excOver K C bmB = true) (hd : hasDictIn K C = true) (ht : takerIn K C name = some none)
    (hq : ∀ h' tk' dx, (∀ b o, b ≠ x → hp.get? b = some o → h'.get? b = some o) → hp.objs.size ≤ dx → dx ≠ x → h'.get? x = some { cls := .ref C, dict := some dx, data := .fields fv } →
      h'.Ns1 dx (fun y => if y = name then some v else none) → R (.ok (.ret .none)) ⟨h', g, d, tk', os⟩) :
    codeAny (model prog w) A (.call (.builtin "object.__setattr__") ⟨[.ref x, .str name tk, v], []⟩) R ⟨hp, g, d, t, os⟩ := by
  obtain ⟨cd, hcd, hh⟩ := dict_cls hd
  have inst : InstAt hp x { cls := .ref C, data := .fields fv } C none := ⟨hx, rfl, rfl, trivial⟩
  have hxs : x ≠ hp.objs.size := Nat.ne_of_lt (Heap.lt_size hx)
  have hcls : Looks (model prog w) hp (classData C) cd := looks_clsIn KX hcd
  refine osa_openX SF KX inst ov ht fun b => ?_
  show wpAny _ _ (storeInOwnDict (.ref x) (.ref C) (.str name tk) name v b) _ _ _
  rcases cd with ⟨nm, bs, mro, ns, qn, hd', sn, sb, ab, col, del⟩
  cases (show hd' = true from hh)
  unfold storeInOwnDict ownDictForStores
  repeat (first | with_reducible refine HandSPX.store_in_new ?_ ?_ | with_reducible refine wpAny_loadPart_at hx ?_ | with_reducible refine hcls.at ?_ | wp_step)
  · exact ⟨_, #[], _, (Heap.get?_update_ne _ _ _ _ hxs.symm).trans (Heap.get?_push_at rfl rfl), rfl, fun e he => absurd he (by simp), fun _ => rfl⟩
  · intro h2 tk2 ns2 sb2
    have hx1 : (hp.push { cls := .type "dict", data := .dict #[] }).get? x = some { cls := .ref C, data := .fields fv } := Heap.get?_push_of_some _ hx
    refine hq h2 tk2 hp.objs.size (fun b o hb ho => ?_) (Nat.le_refl _) hxs.symm ?_ ns2
    · rw [sb2.2 b (Nat.ne_of_lt (Heap.lt_size ho)), Heap.get?_update_ne _ _ _ _ hb]
      exact Heap.get?_push_of_some _ ho
    · rw [sb2.2 x hxs]
      exact Heap.get?_update_self _ hx1 rfl
/-- a further field -/
theorem next_field {m0 : Str → Option Value} {nl : List Str} (SF : StoreFacts B bmB "object.__setattr__" "object") (KX : K.In hp) (hx : hp.get? x = some { cls := .ref C, dict := some dx, data := .fields fv }) (hns : hp.Ns1 dx m0) (hw : Within m0 nl) (hz : nl.length ≤ 1000)
    (ov : excOver K C bmB = true) (hd : hasDictIn K C = true) (ht : takerIn K C name = some none)
    (hq : ∀ h' tk', (∀ b o, b ≠ dx → hp.get? b = some o → h'.get? b = some o) → h'.Ns1 dx (fun y => if y = name then some v else m0 y) → R (.ok (.ret .none)) ⟨h', g, d, tk', os⟩) :
    codeAny (model prog w) A (.call (.builtin "object.__setattr__") ⟨[.ref x, .str name tk, v], []⟩) R ⟨hp, g, d, t, os⟩ := by
  obtain ⟨cd, hcd, hh⟩ := dict_cls hd
  obtain ⟨oD, esD, epD, hoD, hdD, _⟩ := hns.count hw
  have inst : InstAt hp x { cls := .ref C, dict := some dx, data := .fields fv } C (some oD) := ⟨hx, rfl, rfl, hoD⟩
  have hcls : Looks (model prog w) hp (classData C) cd := looks_clsIn KX hcd
  refine osa_openX SF KX inst ov ht fun b => ?_
  show wpAny _ _ (storeInOwnDict (.ref x) (.ref C) (.str name tk) name v b) _ _ _
  rcases cd with ⟨nm, bs, mro, ns, qn, hd', sn, sb, ab, col, del⟩
  cases (show hd' = true from hh)
  unfold storeInOwnDict ownDictForStores
  repeat (first | with_reducible refine OEX.store_in_old hns hw hz ?_ | with_reducible refine wpAny_loadPart_at hx ?_ | with_reducible refine hcls.at ?_ | wp_step)
  intro h2 tk2 ns2 sb2
  exact hq h2 tk2 (fun b o hb ho => (sb2.2 b hb).trans ho) ns2
end
end TXE

set_option Elab.async false
set_option linter.all false
set_option maxRecDepth 100000
set_option maxHeartbeats 4000000
/-! TXm: an error's class called by the names of its fields. -/
namespace TXE
open PySem PySem.W PySem.Spec PyProof.Rows
/-- what makes errors whose built-in bases are bmB: the __new__ of one of these bases -/
structure NewOver (newId : String) (bmB : List Value) : Prop where
  ex : ∃ (B initId : String) (bmF : List Value), ExcBaseFacts B newId initId bmF ∧ bmB.contains (.type B) = true ∧ bmB.contains (.type "AttributeError") = false ∧ bmB.contains (.type "NameError") = false
theorem NewOver.of {newId : String} {bmB : List Value} (F : ExcBaseFacts B newId initId bmB) : NewOver newId bmB := ⟨B, initId, bmB, F, F.hasB, F.noAttr, F.noName⟩
open PySem PySem.W PySem.Spec PySem.Calls PyProof.Rows Builtin Builtin.ObjectAttr HandSPX
section
variable {M : Model} {A : Around} {E : Value → Shared → Prop} {h : Heap} {g : Array GenState} {d : Drawn} {t : Nat} {os : OsState}
variable {nm q : Str} {C N : Addr} {bs bm bmB : List Value} {hdct : Bool} {sn : List Str} {sub : List Value} {ab : Bool} {col : Option Bool} {dd : Option Addr} {k0 k1 k2 k3 k5 : Option Value} {newId : String}
theorem kw_check (F0 : NewOver newId bmB) (hT : ∀ X : String, bm.contains (.type X) = bmB.contains (.type X)) {rest : List Value} {kw : List (Str × Value)} {Q : Unit → Shared → Prop}
    (hC : h.get? C = some (excClassObj nm q C N bs bm hdct sn sub ab col dd k0 k1 k2 k3 k5 newId)) (hq : Q () ⟨h, g, d, t, os⟩) : wpAny M A (checkBuiltinCall newId ⟨.ref C :: rest, kw⟩) Q E ⟨h, g, d, t, os⟩ := by
  obtain ⟨B, initId, bmF, F, d1, d2, d3⟩ := F0.ex
  have c1 : (Value.ref C :: bm).contains (.type B) = true := by rw [List.contains_cons, hT, d1, Bool.or_true]
  have c2 := F.noStar
  simp only [checkBuiltinCall, F.newKind, F.newSplit, F.newRow]
  repeat (first | refine wpAny_loadPart_at hC ?_ | (refine wpAny_isSubtype_exc hC ?_; rw [c1]) | refine wpAny_staticBase_exc hC ?_ | refine wpAny_madeBy_exc hC ?_ | simp only [bne_self_eq_false, Bool.false_eq_true, if_false] | wp_step)
  exact hq
end
section
variable {prog : Program} {w : World} {A : Around} {E : Value → Shared → Prop} {R : Result → Shared → Prop} {h : Heap} {g : Array GenState} {d : Drawn} {t : Nat} {os : OsState}
variable {nm q : Str} {C N : Addr} {bs bm bmB : List Value} {hdct : Bool} {sn : List Str} {sub : List Value} {ab : Bool} {col : Option Bool} {dd : Option Addr} {k0 k1 k2 k3 k5 : Option Value} {newId : String}
theorem kw_new (F0 : NewOver newId bmB) (hT : ∀ X : String, bm.contains (.type X) = bmB.contains (.type X)) {rest : List Value} {kw : List (Str × Value)}
    (hC : h.get? C = some (excClassObj nm q C N bs bm hdct sn sub ab col dd k0 k1 k2 k3 k5 newId))
    (hq : R (.ok (.ret (.ref (h.objs.size + 1)))) ⟨(h.push { cls := .type "tuple", data := .seq rest.toArray }).push
      { cls := .ref C, data := .fields #[.ref h.objs.size, .none, .none, .none, .bool false, .none] }, g, d, t, os⟩) (hrest : rest.length ≤ sizeLine) :
    codeAny (model prog w) A (.builtin newId ⟨.ref C :: rest, kw⟩) R ⟨h, g, d, t, os⟩ := by
  obtain ⟨B, initId, bmF, F, d1, d2, d3⟩ := F0.ex
  have ends := F.ends
  have c1 : (Value.ref C :: bm).contains (.type B) = true := by rw [List.contains_cons, hT, d1, Bool.or_true]
  have c2 : (Value.ref C :: bm).contains (.type "AttributeError") = false := by rw [List.contains_cons, hT, d2]; rfl
  have c3 : (Value.ref C :: bm).contains (.type "NameError") = false := by rw [List.contains_cons, hT, d3]; rfl
  refine codeAny_builtinAt F.entry ?_
  unfold Builtin.«BaseException.__new__»
  refine PySem.wpAt_bind ?_
  show PySem.wpAt _ _ _ (stack >>= _) _ _ _
  refine PySem.wpAt_bind (PySem.wpAt_stack fun p below => PySem.wpAt_of_wpAny ?_)
  wp_walk
  refine PySem.wpAt_of_wpAny ?_
  rw [F.owner]
  repeat (first | with_reducible refine wpAny_madeHere_exc F.canon hC ?_ | with_reducible refine wpAny_loadPart_at hC ?_ | (with_reducible refine wpAny_isSubtype_exc hC ?_; first | rw [c1] | rw [c2] | rw [c3]) | wp_step)
  show R _ _
  rw [Heap.size_push]
  exact hq
/-- type.__call__ with names: BaseException.__new__ takes no heed of them, the own __init__ gets them -/
theorem kw_type_call (F0 : NewOver newId bmB) (hT : ∀ X : String, bm.contains (.type X) = bmB.contains (.type X)) {rest : List Value} {kw : List (Str × Value)} {fI : Addr} {Q : Fin → Shared → Prop}
    (hC : h.get? C = some (excClassObj nm q C N bs bm hdct sn sub ab col dd k0 k1 k2 k3 k5 newId))
    (hi : Looks (model prog w) h (typeLookup (.ref C) "__init__") (some (.ref fI))) (hb : ∀ self, Looks (model prog w) h (bindSpecial (.ref fI) self) (.ref fI, [self])) (hrest : rest.length ≤ sizeLine)
    (hq : codeAny (model prog w) A (.call (.ref fI) ⟨.ref (h.objs.size + 1) :: rest, kw⟩)
      (fun r s' => match r with | .ok (.ret v) => v = .none ∧ Q (.done (.ret (.ref (h.objs.size + 1)))) s' | .ok _ => False | .error e => E e s')
      ⟨(h.push (kdv_tup rest)).push (excO C h.objs.size), g, d, t, os⟩) :
    wpAny (model prog w) A (Builtin.«type.__call__» ⟨.ref C :: rest, kw⟩) Q E ⟨h, g, d, t, os⟩ := by
  repeat (first | with_reducible refine wpAny_loadPart_at hC ?_ | with_reducible refine wpAny_madeBy_exc hC ?_ | wp_step)
  refine codeAny_call_builtin_code (Code.quiet_builtin _ (by obtain ⟨_, _, _, F, _⟩ := F0.ex; exact F.quiet)) (kw_check F0 hT hC ?_)
  refine kw_new F0 hT hC ?_ hrest
  show wpAny _ _ _ _ _ _
  have keep : ∀ b o, h.get? b = some o → ((h.push (kdv_tup rest)).push (excO C h.objs.size)).get? b = some o := fun b o e => Heap.get?_push_of_some _ (Heap.get?_push_of_some _ e)
  have hC1 := keep _ _ hC
  have got : ((h.push (kdv_tup rest)).push (excO C h.objs.size)).get? (h.objs.size + 1) = some (excO C h.objs.size) := by heap_get
  have own : (Value.ref C :: bm).contains (.ref C) = true := by simp
  have i1 := hi.keeps keep
  have b1 := (hb (.ref (h.objs.size + 1))).keeps keep
  unfold isInstance
  repeat (first | with_reducible refine wpAny_loadPart_at got ?_ | (with_reducible refine wpAny_isSubtype_exc hC1 ?_; rw [own]) | wp_step)
  show wpAny _ _ (typeLookup (.ref C) _) _ _ _
  refine i1.at ?_
  refine wpAny_holding (wpAny_bind (b1.at ?_))
  refine wpAny_bind (wpAny_call (codeAny_mono hq fun r s' z => ?_))
  rcases r with e | (v | _ | _ | _) <;> first | exact z | exact z.elim | skip
  obtain ⟨rfl, z⟩ := z
  first
    | exact wpAny_pure (wpAny_pure z)
    | (wp_walk; exact z)
theorem kw_check_type {M : Model} {rest : List Value} {kw : List (Str × Value)} {Q : Unit → Shared → Prop} (hC : h.get? C = some (excClassObj nm q C N bs bm hdct sn sub ab col dd k0 k1 k2 k3 k5 newId))
    (hq : Q () ⟨h, g, d, t, os⟩) : wpAny M A (checkBuiltinCall "type.__call__" ⟨.ref C :: rest, kw⟩) Q E ⟨h, g, d, t, os⟩ := by
  have hs := tc_sub
  have hTy : (⟨h, g, d, t, os⟩ : Shared).TypeIs (.ref C) "type" := ⟨_, hC, rfl⟩
  simp only [checkBuiltinCall, tc_kind, tc_split]
  repeat (any_goals (first | assumption | with_reducible refine wpAny_loadPart_at hC ?_ | with_reducible refine wpAny_onRaise ?_ | with_reducible refine wpAny_map ?_ | wp_step))
theorem kw_call (F0 : NewOver newId bmB) (hT : ∀ X : String, bm.contains (.type X) = bmB.contains (.type X)) {rest : List Value} {kw : List (Str × Value)} {fI : Addr}
    (hC : h.get? C = some (excClassObj nm q C N bs bm hdct sn sub ab col dd k0 k1 k2 k3 k5 newId))
    (hi : Looks (model prog w) h (typeLookup (.ref C) "__init__") (some (.ref fI))) (hb : ∀ self, Looks (model prog w) h (bindSpecial (.ref fI) self) (.ref fI, [self])) (hrest : rest.length ≤ sizeLine)
    (hq : codeAny (model prog w) (A.under (.builtin "type.__call__" ⟨.ref C :: rest, kw⟩)) (.call (.ref fI) ⟨.ref (h.objs.size + 1) :: rest, kw⟩) (InitBack (h.objs.size + 1) R)
      ⟨(h.push (kdv_tup rest)).push (excO C h.objs.size), g, d, t, os⟩) :
    codeAny (model prog w) A (.call (.ref C) ⟨rest, kw⟩) R ⟨h, g, d, t, os⟩ := by
  have f1 := tc_lookup
  have f2 := tc_bind (.ref C)
  have hTy : (⟨h, g, d, t, os⟩ : Shared).TypeIs (.ref C) "type" := ⟨_, hC, rfl⟩
  refine codeAny_of_tree ?_
  show wpAny _ _ (callAny (.ref C) _) _ _ _
  repeat (any_goals (first | assumption | with_reducible refine wpAny_loadPart_at hC ?_ | wp_step))
  refine ⟨rfl, ?_⟩
  refine codeAny_call_builtin_at (Code.quiet_builtin _ (by decide +kernel)) entry_typeCall (kw_check_type hC (kw_type_call F0 hT hC hi hb hrest ?_))
  refine codeAny_mono hq fun r s' z => ?_
  rcases r with e | (v | _ | _ | _) <;> exact z
end
end TXE

set_option Elab.async false
set_option linter.all false
set_option maxRecDepth 100000
set_option maxHeartbeats 4000000
/-! TXb: own errors: their fields stored, read; made; asked by isinstance. -/
namespace TL
open PySem PySem.Spec PyProof.Rows L2

/-- what the written part says of an error's class -/
structure ErrC (K : PySem.W.Frag) (C : Addr) : Prop where
  base : ∃ (newId B : String) (bmB : List Value), TXE.NewOver newId bmB ∧ StoreFacts B bmB "object.__setattr__" "object" ∧ PySem.W.excInitIn K C bmB newId = true ∧ PySem.W.excOver K C bmB = true
  sa : PySem.W.findIn K (.ref C) "__setattr__" = some (some (.builtin "object.__setattr__"))
  hd : PySem.W.hasDictIn K C = true
  ex : PySem.W.subIn K (.ref C) (.type "BaseException") = some true
  ty : PySem.W.typeIn K (.ref C) = some (.type "type")
  kp : PySem.W.keepIn K (.ref C) = true
  ga : PySem.W.findIn K (.ref C) "__getattribute__" = some (some (.builtin "BaseException.__getattribute__"))
  gg : PySem.W.findIn K (.ref C) "__getattr__" = some none
  kl : PySem.W.findIn K (.ref C) "__class__" = some (some (.builtin "object.__class__"))
  kg : PySem.W.specialIn K (.builtin "object.__class__") "__get__" = some (some (.builtin "getset_descriptor.__get__"))
  kt : PySem.W.takesIn K (.builtin "object.__class__") = some true
  mo : PySem.W.mroIn K C (.type "object") = some true
section
variable {X : Cx} {pins : List (Addr × Obj)} {σ : L2.St} {H : Hp} {z : Shared} {a C dx : Addr} {f : Str} {y : V} {u : Value} {fs : List (Str × V)} {Q : Unit → Shared → Prop} {Ex0 : Value → Shared → Prop} {A : Around}
/-- self.f = y, where nothing was stored -/
theorem put_first (T : ErrC X.K C) (I : Inv X pins σ H z) (e : H a = some (exo a C none)) (hno : PySem.W.takerIn X.K C f = some none) (ry : RelV y u)
    (h : ∀ dx z', H dx = none → dx ≠ a → Inv X pins σ (upd (upd H dx (exd dx [(f, y)])) a (exo a C (some dx))) z' → Q () z') : wpAny (model X.prog X.w) A (setAttr (.ref a) f u) Q Ex0 z := by
  obtain ⟨newId, B, bmB, _, SF, _, ov⟩ := T.base
  obtain ⟨t1, ho⟩ := exo_at I.hok e
  obtain ⟨hp, gs, dr, tk, ops⟩ := z
  refine PySem.W.set_plain I.kIn (ox := { cls := .ref C, dict := none, data := .fields #[.ref t1, .none, .none, .none, .bool false, .none] }) (od := none) ⟨ho, rfl, rfl, trivial⟩ T.sa ?_
  refine TXE.first_field SF I.kIn ho ov T.hd hno fun h2 tk2 dx keep size ne hx ns => ?_
  have hnd : H dx = none := I.hok.fresh size
  have old : ∀ {b : Addr} {o : Obj}, hp.get? b = some o → b ≠ dx := fun {b o} q => Nat.ne_of_lt (Nat.lt_of_lt_of_le (Heap.lt_size q) size)
  have nota : ∀ {b : Addr}, H b = none → b ≠ a := fun {b} n w => by
    rw [w, e] at n
    cases n
  have U : Un X.fs [] H (upd (upd H dx (exd dx [(f, y)])) a (exo a C (some dx))) hp h2 := {
    keep := fun b o q n _ _ => keep b o (nota n) q
    slot := fun b o q n _ _ => ⟨o.slots, keep b o (nota n) q⟩
    free := fun b o q n _ => by rw [upd_ne (nota n), upd_ne (old q), n]
    there := fun b o q _ => by
      by_cases hb : b = a
      · subst hb
        exact ⟨_, hx⟩
      · exact ⟨o, keep b o hb q⟩
    tups := fun b xs q => by rw [upd_ne (at_ne e q exo_tup), upd_ne (ne_of_none q hnd), q]
    frzs := fun b o v q => by rw [upd_ne (at_ne e q exo_frz), upd_ne (ne_of_none q hnd), q]
    tbls := fun b ps q => ⟨#[], by rw [upd_ne (at_ne e q exo_tbl), upd_ne (ne_of_none q hnd), q, Array.append_empty]⟩ }
  refine h dx _ hnd ne (I.un (t' := tk2) U fun b o q => ?_)
  by_cases hb : b = a
  · subst hb
    rw [upd_same] at q
    cases q
    exact exo_ok hx
  rw [upd_ne hb] at q
  by_cases hd : b = dx
  · subst hd
    rw [upd_same] at q
    cases q
    exact exd_ok ns (relO_put (fs := []) ry fun _ => True.intro)
  rw [upd_ne hd] at q
  refine (I.hok b o q).stay (fun c v hc w => keep c v ?_ w) (fun c hc => ?_) fun c xs hc => ?_
  · rcases hc with rfl | hc
    · exact hb
    · exact at_ne e hc exo_own
  · rw [upd_ne (at_ne e hc exo_own), upd_ne (ne_of_none hc hnd), hc]
  · rw [upd_ne (at_ne e hc exo_tup), upd_ne (ne_of_none hc hnd), hc]
/-- self.f = y, where something was stored before -/
theorem put_next (T : ErrC X.K C) (I : Inv X pins σ H z) (e : H a = some (exo a C (some dx))) (ed : H dx = some (exd dx fs)) (hl : fs.length ≤ 900) (hno : PySem.W.takerIn X.K C f = some none) (ry : RelV y u)
    (h : ∀ z', Inv X pins σ (upd H dx (exd dx ((f, y) :: fs))) z' → Q () z') : wpAny (model X.prog X.w) A (setAttr (.ref a) f u) Q Ex0 z := by
  obtain ⟨newId, B, bmB, _, SF, _, ov⟩ := T.base
  obtain ⟨t1, ho⟩ := exo_at I.hok e
  obtain ⟨mA, ns, rel⟩ := exd_at I.hok ed
  have hw := within_of rel
  obtain ⟨hp, gs, dr, tk, ops⟩ := z
  obtain ⟨oD, _, _, hoD, _, _⟩ := ns.count hw
  refine PySem.W.set_plain I.kIn (ox := { cls := .ref C, dict := some dx, data := .fields #[.ref t1, .none, .none, .none, .bool false, .none] }) (od := some oD) ⟨ho, rfl, rfl, hoD⟩ T.sa ?_
  refine TXE.next_field SF I.kIn ho ns hw (by rw [List.length_map]; omega) ov T.hd hno fun h2 tk2 keep ns2 => ?_
  have hd : ∃ o, h2.get? dx = some o := by
    obtain ⟨o, _, _, w, _⟩ := ns2
    exact ⟨o, w⟩
  exact h _ (I.write (t' := tk2) (x := dx) (e := dx) (o := exd dx ((f, y) :: fs)) (by rw [ed]; exact True.intro) (.inl rfl) keep hd (exd_ok ns2 (relO_put ry rel)))
end
/-- self.f = e -/
def tFld (K : PySem.W.Frag) (f : Str) (to te : TE) : TS := fun D σ H => te σ H fun y H1 => to σ H1 fun x H2 => ∃ a C : Addr, x = .ref a ∧ ErrC K C ∧ PySem.W.takerIn K C f = some none ∧
  ((H2 a = some (exo a C none) ∧ ∀ dx, H2 dx = none → dx ≠ a → D.nx σ (upd (upd H2 dx (exd dx [(f, y)])) a (exo a C (some dx)))) ∨
    (∃ (dx : Addr) (fs : List (Str × V)), H2 a = some (exo a C (some dx)) ∧ H2 dx = some (exd dx fs) ∧ fs.length ≤ 900 ∧ D.nx σ (upd H2 dx (exd dx ((f, y) :: fs)))))
theorem ps_fld {X : Cx} {o e : Expr} {to te : TE} {f : Str} {p pos : Pos} (ho : PE X o to) (he : PE X e te) (hs : swapsWith e (some (.Attribute o f p)) pos.line X.env = pure false := by rfl) : PS X (.Assign [.Attribute o f p] e pos) (tFld X.K f to te) := by
  constructor
  intro pins z σ H D I h
  refine plainObj_wpAny_Assign_Attribute (thn (he.run pins z σ H _ I h) ?_) hs
  rintro v z1 ⟨y, H1, I1, r1, q1⟩
  refine thn (ho.run pins z1 σ H1 _ I1 q1) ?_
  rintro u z2 ⟨x, H2, I2, r2, a, C, rfl, T, hno, q⟩
  obtain rfl : u = Value.ref a := r2
  rcases q with ⟨ea, q⟩ | ⟨dx, fs, ea, ed, hl, q⟩
  · exact put_first T I2 ea hno r1 fun dx z' n ne J => ⟨σ, _, J, q dx n ne⟩
  · exact put_next T I2 ea ed hl hno r1 fun z' J => ⟨σ, _, J, q⟩
end TL

set_option Elab.async false
set_option linter.all false
set_option maxRecDepth 100000
set_option maxHeartbeats 4000000
/-! TXc: an error of a class of one's own is made; raise; defs that raise, by data. -/
namespace TL
open PySem PySem.Spec PyProof.Rows L2

/-- an own __init__ that stores each parameter in the field of its name -/
def spInit (C : Addr) (fields : List Str) : Sp := fun vs H Q _ => ∃ (a : Addr) (xs : List V), vs = .ref a :: xs ∧ xs.length = fields.length ∧ H a = some (exo a C none) ∧
  ∀ (dx : Addr) (H' : Hp), H dx = none → dx ≠ a → H' a = some (exo a C (some dx)) → H' dx = some (exd dx (fields.zip xs).reverse) → (∀ b, b ≠ a → b ≠ dx → H' b = H b) → Q .non H'
theorem RoomG.make {k : Nat} {A : Around} (r : RoomG (k + 1) A) (C : Addr) (us : List Value) (kw : List (Str × Value)) : RoomG k (A.under (.builtin "type.__call__" ⟨.ref C :: us, kw⟩)) := ⟨r.room.make C us kw, r.gd⟩
/-- C(..), its __init__ as above -/
def tMkE (C : Addr) (fields : List Str) (ta : TA) : L2.St → Hp → XK → Prop := fun σ H Q => ta σ H fun vs H1 => vs.length = fields.length ∧ vs.length ≤ 1000 ∧ ∀ d, H1 d = none → Q (.ref C) (some d) (upd H1 d (.xd (fields.zip vs).reverse))
/-- the class x of errors, at C, with these fields -/
structure KnE (P : Program) (w : World) (K : PySem.W.Frag) (mg : Str → Option Value) (base : Heap) (x : Str) (C : Addr) (fields : List Str) : Prop where
  ec : ErrC K C
  at_ : mg x = some (.ref C)
  ini : ∃ (fI : Addr) (fd : FuncData) (ps : List Str) (CX : CXT), PySem.W.findIn K (.ref C) "__init__" = some (some (.ref fI)) ∧ PySem.W.typeIn K (.ref fI) = some (.type "function") ∧ FnOkG P w K mg base CX 1 fI fd ps (spInit C fields) ∧ Binds K fd ps [] ∧
    ∀ X : Cx, X.prog = P → X.w = w → Passes CX X (fun _ _ _ => False)
section
variable {X : Cx} {x : Str} {C : Addr} {fields : List Str} {e : Expr} {es : List Expr} {ta : TA} {p pos : Pos}
theorem pmk_err {k : Nat} (kn : KnE X.prog X.w X.K X.mg X.base x C fields) (hr : RoomG (k + 2) X.A) (hg : Gl X x) (ha : PA X (e :: es) ta)
    (hdb : (x == ("__debug__" : Str)) = false := by decide) (he : starEach (e :: es) X.env = (false, eval e X.env) :: starEach es X.env := by rfl) (hpl : (backTo pos (starEach es X.env)).any (·.1) = false := by rfl) :
    PMk X (.Call (.Name x p) (e :: es) [] pos) (tMkE C fields ta) := by
  intro pins σ0 σ H Q I h
  obtain ⟨fI, fd, ps, CX, iC, tI, F1, hb, hx⟩ := kn.ini
  have T := kn.ec
  obtain ⟨newId, B, bmB, FB, _, qi, _⟩ := T.base
  refine wpAny_Call_Name_kw (ld_glob I hg kn.at_ ?_ hdb)
  refine PySem.W.callWith_K (h₀ := X.base) I.ok.mod.kin T.kp (thn (ha.run pos pins σ0 σ H _ I h) fun us z1 ⟨vs, H1, I1, r1, len, hz, q1⟩ => ⟨I1.kIn, ?_⟩) he hpl
  obtain ⟨hp, gs, dr, tk, ops⟩ := z1
  obtain ⟨nm, N, qn, bs, bm, hdct, sn, sub, ab, col, dd, k0, k1, k2, k3, k5, hC, hT⟩ := PySem.W.excInit_of I1.kIn qi
  have one : hp.objs.size ≤ hp.objs.size + 1 := Nat.le_succ _
  generalize hE : hp.objs.size + 1 = a at one
  have hn : H1 a = none := I1.hok.fresh one
  have keep : ∀ b o, hp.get? b = some o → ((hp.push (PySem.W.kdv_tup us)).push (PySem.HandSPX.excO C hp.objs.size)).get? b = some o := fun b o w => Heap.get?_push_of_some _ (Heap.get?_push_of_some _ w)
  have at_a : ((hp.push (PySem.W.kdv_tup us)).push (PySem.HandSPX.excO C hp.objs.size)).get? a = some (PySem.HandSPX.excO C hp.objs.size) := by
    subst hE
    heap_get
  have I2 : Inv X pins σ (upd H1 a (exo a C none)) ⟨(hp.push (PySem.W.kdv_tup us)).push (PySem.HandSPX.excO C hp.objs.size), gs, dr, tk, ops⟩ := I1.laid (t' := tk) (a := a) (o := exo a C none) keep one (exo_ok at_a)
  have rel : Vals (V.ref a :: vs) (Value.ref a :: us) := .cons rfl r1
  have hlen := Paired.length r1
  have hus : us.length ≤ sizeLine := by
    rw [← hlen, sizeLine_eq]
    omega
  have sp : spInit C fields (V.ref a :: vs) (upd H1 a (exo a C none))
      (fun v H2 => v = .non ∧ ∃ dx : Addr, H2 a = some (exo a C (some dx)) ∧ H2 dx = some (exd dx (fields.zip vs).reverse) ∧ H1 dx = none ∧ dx ≠ a ∧ ∀ b, b ≠ a → b ≠ dx → H2 b = H1 b) (fun _ _ _ => False) := by
    refine ⟨a, vs, rfl, len, upd_same, fun dx H2 n1 n2 e1 e2 e3 => ⟨rfl, dx, e1, e2, ?_, n2, fun b b1 b2 => ?_⟩⟩
    · rw [upd_ne n2] at n1
      exact n1
    · rw [e3 b b1 b2, upd_ne b1]
  have lenP : (Value.ref a :: us ++ []).length = ps.length := by
    rw [List.append_nil, ← F1.len _ _ _ _ sp, List.length_cons, List.length_cons, hlen]
  have bnd := hb _ (Value.ref a :: us) I2.kIn lenP
  rw [List.append_nil] at bnd
  subst hE
  refine wpAny_call (TXE.kw_call (kw := []) FB hT hC (PySem.W.looks_findIn I1.kIn iC) (fun self => PySem.W.bind_fn I1.kIn self tI) hus
    (codeAny_mono (F1.run _ X.stack _ _ ⟨Value.ref (hp.objs.size + 1) :: us, []⟩ (Value.ref (hp.objs.size + 1) :: us) _ _ (fun _ _ _ => False) ((hr.make C us []).mono (by omega)) (I2.env0.make C us []) bnd rel sp) ?_))
  rintro (er | fl) z' hq
  · exact hx X rfl rfl pins σ _ _ er z' I2 hq
  · cases fl with
    | ret u =>
      obtain ⟨v, H2, os2, bare2, un2, hok2, rv, rfl, dx, ea, ed, hd1, ne, q2⟩ := hq
      obtain ⟨h2, g2, d2, t2, os'⟩ := z'
      refine ⟨rv, mk_end (raises_own T.ex T.ty) I1 one keep un2 hok2 os2 bare2 ea ed hd1 ?_⟩
      have eq : upd (del H2 (hp.objs.size + 1)) dx (.xd (fields.zip vs).reverse) = upd H1 dx (.xd (fields.zip vs).reverse) := by
        funext b
        by_cases b2 : b = dx
        · subst b2
          rw [upd_same, upd_same]
        · rw [upd_ne b2, upd_ne b2]
          by_cases b1 : b = hp.objs.size + 1
          · subst b1
            rw [del_same, hn]
          · rw [del_ne b1, q2 b b1 b2]
      rw [eq]
      exact q1 dx hd1
    | next => exact False.elim hq
    | brk => exact False.elim hq
    | cont => exact False.elim hq
end
end TL

set_option Elab.async false
set_option linter.all false
set_option maxRecDepth 100000
set_option maxHeartbeats 4000000
/-! TXd: own __init__s; raise; defs that raise, by data. -/
namespace TL
open PySem PySem.Spec PyProof.Rows L2

/-- the defs that a class's suite holds -/
def inCls (n : Nat) : Stmt → Stmt
  | .ClassDef _ _ _ b _ _ _ _ _ _ p => b.getD n (.Pass p)
  | st => st
section
variable {P : Program} {w : World} {K : PySem.W.Frag} {mg : Str → Option Value} {base : Heap} {x qual : Str} {st : Stmt} {f C : Addr} {fd : FuncData} {s n n' : Str}
theorem init1 (F : Fun K x qual st f fd) (sc : FnScope [s, n] [s, n] (defScope st)) (T : ErrC K C) (hf : PySem.W.takerIn K C n = some none)
    (hps : ∀ (cdv : Value) (A : Around) (outer : List Env) (z : Shared) (H : Hp) (E : XK), PSs (cxOf CX0 P w K mg base [s, n] qual (defScope st) f cdv A outer z H E) (defBody st) (tFld K n (tVar 0) (tVar 1))) : FnOkG P w K mg base CX0 1 f fd [s, n] (spInit C [n]) := by
  refine fun_okG F sc (fun vs H Q E h => ?_) (fun cdv A outer z H vs Q E hr h => ⟨_, hps cdv A outer z H E, ?_⟩)
  · obtain ⟨a, xs, rfl, len, _⟩ := h
    rw [List.length_cons, len]
    rfl
  · obtain ⟨a, xs, rfl, len, ha, q⟩ := h
    match xs, len with
    | [y], _ =>
      refine ⟨y, rfl, .ref a, rfl, a, C, rfl, T, hf, .inl ⟨ha, fun dx h1 h2 => q dx _ h1 h2 upd_same ?_ fun b b1 b2 => ?_⟩⟩
      · rw [upd_ne h2, upd_same]
        rfl
      · rw [upd_ne b1, upd_ne b2]
theorem init2 (F : Fun K x qual st f fd) (sc : FnScope [s, n, n'] [s, n, n'] (defScope st)) (T : ErrC K C) (hf : PySem.W.takerIn K C n = some none) (hf' : PySem.W.takerIn K C n' = some none)
    (hps : ∀ (cdv : Value) (A : Around) (outer : List Env) (z : Shared) (H : Hp) (E : XK), PSs (cxOf CX0 P w K mg base [s, n, n'] qual (defScope st) f cdv A outer z H E) (defBody st) (tSeq (tFld K n (tVar 0) (tVar 1)) (tFld K n' (tVar 0) (tVar 2)))) : FnOkG P w K mg base CX0 1 f fd [s, n, n'] (spInit C [n, n']) := by
  refine fun_okG F sc (fun vs H Q E h => ?_) (fun cdv A outer z H vs Q E hr h => ⟨_, hps cdv A outer z H E, ?_⟩)
  · obtain ⟨a, xs, rfl, len, _⟩ := h
    rw [List.length_cons, len]
    rfl
  · obtain ⟨a, xs, rfl, len, ha, q⟩ := h
    match xs, len with
    | [y, y'], _ =>
      refine ⟨y, rfl, .ref a, rfl, a, C, rfl, T, hf, .inl ⟨ha, fun dx h1 h2 => ⟨y', rfl, .ref a, rfl, a, C, rfl, T, hf', .inr ⟨dx, [(n, y)], upd_same, by rw [upd_ne h2, upd_same], by show 1 ≤ 900; omega, ?_⟩⟩⟩⟩
      refine q dx _ h1 h2 ?_ ?_ fun b b1 b2 => ?_
      · rw [upd_ne (Ne.symm h2), upd_same]
      · rw [upd_same]
        rfl
      · rw [upd_ne b2, upd_ne b1, upd_ne b2]
theorem pass_cx0 : ∀ X : Cx, X.prog = P → X.w = w → Passes CX0 X (fun _ _ _ => False) := fun X _ _ => pass0
end
theorem zip_rev {α β : Type} : ∀ {l : List α} {m : List β}, l.length = m.length → (l.zip m).reverse = l.reverse.zip m.reverse
  | [], [], _ => rfl
  | a :: l, b :: m, h => by
    have h : l.length = m.length := Nat.succ.inj h
    rw [List.zip_cons_cons, List.reverse_cons, List.reverse_cons, List.reverse_cons, zip_rev h, List.zip_append (by rw [List.length_reverse, List.length_reverse, h])]
    rfl
theorem RpAll.rev {K : PySem.W.Frag} {G : Hp} : ∀ {vs : List V} {ds : List PyData}, RpAll K G vs ds → RpAll K G vs.reverse ds.reverse
  | _, _, .nil => .nil
  | _, _, .cons h r => by
    rw [List.reverse_cons, List.reverse_cons]
    exact (RpAll.rev r).app (.one h)
section
variable [XW] {K : PySem.W.Frag}
theorem EnvOk.core {c : Cf} {G H : Hp} {σ : L2.St} {δ : List Sl} (E : EnvOk K c G H σ δ) : EnvC K { c with hid := [] } G H σ δ where
  g0 := E.g0
  ex := E.ex
  fr := E.fr
  fs := E.fs
  tg := E.tg
  len := E.len
  sl := fun i s h => by
    have z := E.sl i s h
    cases s with
    | no => trivial
    | box b => trivial
    | dat d => exact z
    | scr d => exact z
    | own t d => exact z
  ap := E.ap
  hd := fun p o h => nomatch h
  bx := E.bx.like rfl rfl rfl fun _ h => nomatch h
/-- raise C(..) -/
def dRaise (C : Addr) (fields : List Str) (ua : DTA) : DTS := fun _ δ => ua δ fun ds δ1 => ds.length = fields.length ∧ fields.length ≤ 1000 ∧ XW.xr (errD C fields.reverse ds.reverse) δ1
theorem rs_raise {C : Addr} {fields : List Str} {ta : TA} {ua : DTA} (ha : RA K ta ua) : RS K (fun _ σ H => tMkE C fields ta σ H fun cls d H' => XW.w cls d σ H') (dRaise C fields ua) := by
  intro c σ G H δ D E EV h k
  refine ha c σ G H δ _ _ EV h fun ds δ1 vs G1 H1 h1 E1 e1 r1 => ?_
  obtain ⟨len, big, hx⟩ := h1
  have len1 := r1.len
  refine ⟨by rw [len1, len], by omega, fun d hd => ?_⟩
  have E2 := E1.al (Al.new (o := .xd (fields.zip vs).reverse) E1.ex hd)
  refine E2.xw _ _ _ _ _ _ _ hx E2.core (.some upd_same (zip_rev (by rw [len1, len])) (r1.rev.up (Ex.new (E1.ex.none hd))) ?_)
  rw [List.length_reverse, List.length_reverse, len]
theorem ds_raise {X : Cx} {x : Str} {C : Addr} {fields : List Str} {e : Expr} {es : List Expr} {ta : TA} {ua : DTA} {p pos pos' : Pos} {j : Nat} (hc : X.calm = true) (tk : Takes X XW.w) (kn : KnE X.prog X.w X.K X.mg X.base x C fields) (hr : RoomG j X.A) (hk : 2 ≤ j) (ha : DA X (e :: es) ta ua) (hg : Gl X x := by rfl)
    (hdb : (x == ("__debug__" : Str)) = false := by decide) (he : starEach (e :: es) X.env = (false, eval e X.env) :: starEach es X.env := by rfl) (hpl : (backTo pos (starEach es X.env)).any (·.1) = false := by rfl) :
    DS X (.Raise (some (.Call (.Name x p) (e :: es) [] pos)) none pos') (fun _ σ H => tMkE C fields ta σ H fun cls d H' => XW.w cls d σ H') (dRaise C fields ua) :=
  ⟨ps_raise hc tk (pmk_err (k := 0) (hr.mono hk) (kn := kn) hg ha.pa hdb he hpl), rs_raise ha.ra⟩
end

/-! ### defs that raise -/
abbrev DSx := List Sl → (PyData → List (List PyData) → Prop) → (PyData → List (List PyData) → Prop) → Prop
def spX (K : PySem.W.Frag) (S : DSx) : Sp := fun vs H Q E => ∃ (c : Cf) (as : List Sl) (R Xr : PyData → List (List PyData) → Prop), c.hid = [] ∧ c.H0 = H ∧ EnvC K c c.G0 H (vs.map some) as ∧ S as R Xr ∧
  (∀ d outs v G' H', R d outs → Fin K c G' H' outs → Rp K G' v d → Q v H') ∧ ∀ err outs cls d G' H', Xr err outs → Fin K c G' H' outs → ErrRp K G' cls d err → E cls d H'
theorem EnvC.fin {K : PySem.W.Frag} {c : Cf} {G H : Hp} {σ : L2.St} {δ : List Sl} {outs : List (List PyData)} (E : EnvC K c G H σ δ) (ho : OutsIn δ outs) : Fin K c G H outs :=
  ⟨E.g0, E.ex, E.fr, E.fs, E.tg, fun j cs hj => by
    obtain ⟨i, hi⟩ := ho j cs hj
    obtain ⟨p, xs, _, _, hh, r, q⟩ := E.sl i _ hi
    exact ⟨xs, by rw [← q.2]; exact hh, r⟩⟩
section
variable {P : Program} {w : World} {K : PySem.W.Frag} {mg : Str → Option Value} {base : Heap}
theorem takes_cx {N : List Str} {qual : Str} {scope : Scope} {f : Addr} {cdv : Value} {A : Around} {outer : List Env} {z : Shared} {H : Hp} {E : XK} : Takes (cxOf (L2.CX P w) P w K mg base N qual scope f cdv A outer z H E) (fun cls d _ H => E cls d H) :=
  takes_of rfl rfl rfl rfl
theorem fnX {x qual : Str} {st : Stmt} {f : Addr} {fd : FuncData} {N ps : List Str} {k : Nat} {S : DSx} (F : Fun K x qual st f fd) (sc : FnScope N ps (defScope st)) (len : ∀ as R Xr, S as R Xr → as.length = ps.length)
    (hbody : ∀ (cdv : Value) (A : Around) (outer : List Env) (z : Shared) (H : Hp) (E : XK), RoomG k (A.deeper (envOfC qual (defScope st) z.heap.objs.size f cdv)) → ∀ (xw : XW), Takes (cxOf (L2.CX P w) P w K mg base N qual (defScope st) f cdv A outer z H E) xw.w →
      ∃ t u, DSs (cxOf (L2.CX P w) P w K mg base N qual (defScope st) f cdv A outer z H E) (defBody st) t u ∧ ∀ as R Xr, S as R Xr → (xw.xr = fun err δ => ∃ outs, Xr err outs ∧ OutsIn δ outs) → u (endsOf R) (as ++ List.replicate (N.length - ps.length) .no)) :
    FnOkG P w K mg base (L2.CX P w) (k + 1) f fd ps (spX K S) := by
  refine fun_okG F sc (fun vs H Q E h => ?_) (fun cdv A outer z H vs Q E hr h => ?_)
  · obtain ⟨c, as, R, Xr, _, _, EV, hS, _⟩ := h
    have := EV.len
    rw [List.length_map] at this
    rw [this]
    exact len as R Xr hS
  · obtain ⟨c, as, R, Xr, hh, h0, EV, hS, k, kx⟩ := h
    let xw : XW := ⟨fun cls d _ H => E cls d H, fun err δ => ∃ outs, Xr err outs ∧ OutsIn δ outs⟩
    obtain ⟨t, u, D, red⟩ := hbody cdv A outer z H E hr xw takes_cx
    refine ⟨t, D.ps, ?_⟩
    have l1 : vs.length = ps.length := by
      have := EV.len
      rw [List.length_map] at this
      rw [this]
      exact len as R Xr hS
    have core : ({ c with hid := [] } : Cf) = c := by
      obtain ⟨τ, n, G0, H0, hid⟩ := c
      dsimp only at hh
      subst hh
      rfl
    have EV' : EnvOk K c c.G0 H (L2.start N vs) (as ++ List.replicate (N.length - ps.length) .no) := by
      have y := EV.more (N.length - ps.length)
      have y' : EnvC K c c.G0 H (L2.start N vs) (as ++ List.replicate (N.length - ps.length) .no) := by
        unfold L2.start
        rw [l1]
        exact y
      refine ⟨y', fun cls d err G' H' σ' δ' hx EC er => ?_⟩
      obtain ⟨outs, hX, ho⟩ := hx
      rw [core] at EC
      exact kx err outs cls d G' H' hX (EC.fin ho) er
    refine D.rs c (L2.start N vs) c.G0 H _ _ (endsOf R) EV' (red as R Xr hS rfl) ⟨?_, ?_, ?_, ?_, ?_, hh⟩
    · rintro σ' G' H' δ' ⟨outs, hR, ho⟩ E' e
      exact k .none outs .non G' H' hR (E'.toEnvC.fin ho) .non
    · rintro d δ' v σ' G' H' ⟨outs, hR, ho⟩ E' e r
      exact k d outs v G' H' hR (E'.toEnvC.fin ho) r
    · exact fun σ' G' H' δ' a _ _ => False.elim a
    · exact fun σ' G' H' δ' a _ _ => False.elim a
    · exact fun ds δ' p xs σ' G' H' a _ _ _ _ => False.elim a
/-- a def that may raise, by its name -/
structure KnX (P : Program) (w : World) (K : PySem.W.Frag) (mg : Str → Option Value) (base : Heap) (k : Nat) (x : Str) (S : DSx) : Prop where
  ex : ∃ (f : Addr) (fd : FuncData) (ps : List Str), FnOkG P w K mg base (L2.CX P w) k f fd ps (spX K S) ∧ mg x = some (.ref f) ∧ PySem.W.keepIn K (.ref f) = true ∧ Binds K fd ps []
end
section
variable {X : Cx} {CX : CXT} {k : Nat} {f : Addr} {fd : FuncData} {ps : List Str} {sp : Sp} {E : L2.St → XK} {x : Str} {p pos : Pos} {e : Expr} {es : List Expr} {t : TA} {ds : List Value} {dvs : List V}
theorem run_fnGS {pins : List (Addr × Obj)} {σ : L2.St} {H : Hp} {z : Shared} {Q : VK} {us : List Value} {vs : List V} (F : FnOkG X.prog X.w X.K X.mg X.base CX k f fd ps sp) (hr : RoomG k X.A) (hb : Binds X.K fd ps ds) (hd : Vals dvs ds) (hx : PassesAt CX X σ (E σ))
    (I : Inv X pins σ H z) (r : Vals vs us) (h : sp (vs ++ dvs) H Q (E σ)) : wpAny (model X.prog X.w) X.A (call (.ref f) us) (EP X pins σ Q) X.xe z := by
  have rr := r.append hd
  have len := rr.length.symm.trans (F.len _ _ _ _ h)
  refine wpAny_call (codeAny_mono (F.run X.A X.stack z H _ _ _ Q (E σ) hr I.env0 (hb z us I.kIn len) rr h) ?_)
  rintro (er | fl) z' hq
  · exact hx pins H z er z' I hq
  · cases fl <;> first
      | exact I.after hq
      | exact False.elim hq
/-- .. with defaults dvs -/
def tCallSD (sp : Sp) (dvs : List V) (E : L2.St → XK) (t : TA) : TE := fun σ H Q => t σ H fun vs H1 => sp (vs ++ dvs) H1 Q (E σ)
theorem pe_callGS (F : FnOkG X.prog X.w X.K X.mg X.base CX k f fd ps sp) (hr : RoomG k X.A) (hg : Gl X x) (hm : X.mg x = some (.ref f)) (hk : PySem.W.keepIn X.K (.ref f) = true) (hb : Binds X.K fd ps ds) (hd : Vals dvs ds) (hx : ∀ σ, PassesAt CX X σ (E σ)) (ha : PA X (e :: es) t)
    (hdb : (x == ("__debug__" : Str)) = false := by decide) (he : starEach (e :: es) X.env = (false, eval e X.env) :: starEach es X.env := by rfl) (hpl : (backTo pos (starEach es X.env)).any (·.1) = false := by rfl) : PE X (.Call (.Name x p) (e :: es) [] pos) (tCallSD sp dvs E t) := by
  constructor
  intro pins z σ H Q I h
  refine wpAny_Call_Name_kw (ld_glob I hg hm ?_ hdb)
  exact PySem.W.callWith_K (h₀ := X.base) I.ok.mod.kin hk (thn (ha.run pos pins z σ H _ I h) fun us z1 ⟨vs, H1, I1, r, q⟩ => ⟨I1.kIn, run_fnGS F hr hb hd (hx σ) I1 r q⟩) he hpl
end
section
variable [XW] {K : PySem.W.Frag}
def dCallX (S : DSx) (ua : DCA) : DTE := fun δ R => ua δ fun cs δ1 => (muts δ1 cs).Nodup ∧ S (asOf δ1 cs 0) (fun d outs => outs.length = (muts δ1 cs).length ∧ R d (setOuts δ1 (muts δ1 cs) outs)) fun err outs => outs.length = (muts δ1 cs).length ∧ XW.xr err (setOuts δ1 (muts δ1 cs) outs)
theorem re_callX {S : DSx} {t : TA} {ua : DCA} (ha : RCA K t ua) : RE K (tCallSD (spX K S) [] (WE XW.w) t) (dCallX S ua) := by
  intro c σ G H δ Q R E h k
  refine ha c σ G H δ _ _ E h fun cs δ1 vs G1 H1 h1 E1 e1 r1 => ?_
  obtain ⟨hn, hS⟩ := h1
  show spX K S (vs ++ []) H1 Q _
  rw [List.append_nil]
  refine ⟨calleeC σ (muts δ1 cs) G1 H1, asOf δ1 cs 0, _, _, rfl, rfl, callee_env E1 r1 hn, hS, fun d outs v G' H' hR F rv => ?_, fun err outs cls d G' H' hX F er => ?_⟩
  · exact k d _ v G' H' hR.2 (caller_back E1 hn hR.1 F) (e1.trans F.g0) rv
  · have EB := caller_back E1 hn hX.1 F
    exact EB.xw _ _ _ _ _ _ _ hX.2 EB.core er
theorem de_callX {X : Cx} {x : Str} {S : DSx} {k j : Nat} {e : Expr} {es : List Expr} {tca : TA} {uca : DCA} {p pos : Pos} (tk : Takes X XW.w) (kn : KnX X.prog X.w X.K X.mg X.base k x S) (hr : RoomG j X.A) (hk : k ≤ j) (ha : DCa X (e :: es) tca uca) (hg : Gl X x := by rfl) (hdb : (x == ("__debug__" : Str)) = false := by decide)
    (he : starEach (e :: es) X.env = (false, eval e X.env) :: starEach es X.env := by rfl) (hpl : (backTo pos (starEach es X.env)).any (·.1) = false := by rfl) : DE X (.Call (.Name x p) (e :: es) [] pos) (tCallSD (spX X.K S) [] (WE XW.w) tca) (dCallX S uca) := by
  obtain ⟨f, fd, ps, F, hm, kp, b⟩ := kn.ex
  exact ⟨pe_callGS F (hr.mono hk) hg hm kp b .nil (fun σ => passAt tk σ) ha.pa hdb he hpl, re_callX ha.ra⟩
end
end TL

set_option Elab.async false
set_option linter.all false
set_option maxRecDepth 100000
set_option maxHeartbeats 4000000
/-! TXe: try, except x as n: the caught error is a thing of ours from there on. -/
namespace TL
open PySem PySem.Spec PyProof.Rows L2

theorem errO_ok {P : Program} {w : World} {H : Hp} {h : Heap} {e C : Addr} {od : Option Addr} {ox : Obj} {vs : Array Value} (he : h.get? e = some ox) (hc : ox.cls = .ref C) (hd : ox.dict = od) (hv : ox.data = .fields vs) : ObjOk P w H h e (errO e C od) :=
  ⟨⟨ox, vs, he, hc, hd, hv⟩, ⟨_, he⟩, fun h1 h2 z k => by
    obtain ⟨ox, vs, q, r⟩ := z
    exact ⟨ox, vs, k _ q, r⟩⟩
theorem errO_at {P : Program} {w : World} {H : Hp} {h : Heap} {e C : Addr} {od : Option Addr} (hok : HOk P w H h) (he : H e = some (errO e C od)) : ∃ (ox : Obj) (vs : Array Value), h.get? e = some ox ∧ ox.cls = .ref C ∧ ox.dict = od ∧ ox.data = .fields vs := by
  have y : ObjOk P w H h e (.ext fun h => ∃ (ox : Obj) (vs : Array Value), h.get? e = some ox ∧ ox.cls = .ref C ∧ ox.dict = od ∧ ox.data = .fields vs) := hok e _ he
  exact y.1
section
variable {X : Cx} {pins : List (Addr × Obj)} {σ : L2.St} {H : Hp} {sI z : Shared} {B : Heap} {a C : Addr} {d : Option Addr}
/-- on the ground, with the error's object -/
theorem landed_with (I : Inv X pins σ H sI) (nb : ∀ b o, sI.heap.get? b = some o → b ∉ frs X.stack → B.get? b = some o) (fl : HandSPX.FlyingZ B X.stack a (Zc (.ref C) d) z.heap) (up : sI.heap.UpToSlots z.heap) (na : H a = none) (os : z.os = sI.os) (ag : AllBare z.gens) :
    Inv X pins σ (upd H a (errO a C d)) z := by
  obtain ⟨st, Ba, _, tr⟩ := fl
  obtain ⟨oe, vs, T, oT, ts, he, hz, hd, _⟩ := tr
  have frame : ∀ b ∈ frs X.stack, ∀ o, sI.heap.get? b = some o → (∃ sl, z.heap.get? b = some { o with slots := sl }) ∧ ∀ vs, o.data ≠ .fields vs := fun b hb o e => by
    obtain ⟨_, o2, e2, nf⟩ := I.stack.mem hb
    rw [e] at e2
    cases e2
    exact ⟨up b o e nf, nf⟩
  have nea : ∀ {b : Addr} {o : Obj}, sI.heap.get? b = some o → b ≠ a := fun {b o} e w => by
    subst w
    by_cases hb : b ∈ frs X.stack
    · obtain ⟨⟨sl, q⟩, nf⟩ := frame b hb o e
      rw [he] at q
      have q := Option.some.inj q
      exact nf vs (by rw [q] at hd; exact hd)
    · rw [nb b o e hb] at Ba
      cases Ba
  have hok : HOk X.prog X.w (upd H a (errO a C d)) z.heap := fun b ob q => by
    by_cases hb : b = a
    · subst hb
      rw [upd_same] at q
      cases q
      exact errO_ok he hz.1 hz.2 hd
    · rw [upd_ne hb] at q
      exact ((I.inGround nb).kept st b ob q).stay (fun _ _ _ r => r) (fun c hc => by rw [upd_ne (ne_of_none hc na), hc]) fun c xs hc => by rw [upd_ne (ne_of_none hc na), hc]
  have J := I.call (ch := []) (h' := z.heap) (g' := z.gens) (t' := z.toks) (d' := z.drawn) (H' := upd H a (errO a C d))
    { keep := fun b o e _ hb _ => st b o (nb b o e hb)
      slot := fun b o e _ hb _ => (frame b hb o e).1
      free := fun b o e n _ => by rw [upd_ne (nea e), n]
      there := fun b o e _ => by
        by_cases hb : b ∈ frs X.stack
        · obtain ⟨⟨sl, q⟩, _⟩ := frame b hb o e
          exact ⟨_, q⟩
        · exact ⟨o, st b o (nb b o e hb)⟩
      tups := fun b xs q => by rw [upd_ne (ne_of_none q na), q]
      frzs := fun b o u q => by rw [upd_ne (ne_of_none q na), q]
      tbls := fun b ps q => ⟨#[], by rw [upd_ne (ne_of_none q na), q, Array.append_empty]⟩ } hok ag (fun _ y => nomatch y)
  obtain ⟨a1, a2, a3, a4, a5⟩ := z
  cases (show a5 = sI.os from os)
  exact J
theorem suite_of (I : Inv X pins σ H z) (a : Addr) : Inv (X.suite a (X.pn ++ pins)) [] σ H z :=
  ⟨I.ok.suite _ _, I.os, I.bare, I.base, I.loc, I.cell, I.free, I.freeC, fun p hp => I.pin p (by rw [List.append_nil] at hp; exact hp), I.hok, I.len⟩
theorem suite_off {a : Addr} {pn : List (Addr × Obj)} (I : Inv (X.suite a (X.pn ++ pins)) pn σ H z) (ok : X.Ok) : Inv X pins σ H z :=
  ⟨ok, I.os, I.bare, I.base, I.loc, I.cell, I.free, I.freeC, fun p hp => I.pin p (List.mem_append_left _ hp), I.hok, I.len⟩
end
/-- what the clauses hs do with an error that has landed -/
structure Cat (X : Cx) (hs : List ExceptHandler) (wh : Ends → WX) : Prop where
  run : ∀ (pins : List (Addr × Obj)) (σ : L2.St) (H : Hp) (sI z : Shared) (B : Heap) (a : Addr) (cls : Value) (d : Option Addr) (D : Ends), Inv X pins σ H sI → (∀ b o, sI.heap.get? b = some o → b ∉ frs X.stack → B.get? b = some o) →
    HandSPX.FlyingZ B X.stack a (Zc cls d) z.heap → sI.heap.UpToSlots z.heap → H a = none → z.os = sI.os → AllBare z.gens → wh D cls d σ H → wpAny (model X.prog X.w) X.A (handleBy (.ref a) X.env hs) (SP X pins D) X.xe z
/-- none of them: that must not be -/
theorem cat_nil {X : Cx} : Cat X [] (fun _ _ _ _ _ => False) := ⟨fun _ _ _ _ _ _ _ _ _ _ _ _ _ _ _ _ _ h => h.elim⟩
/-- the ends of a suite whose name goes -/
def forget (i : Nat) (D : Ends) : Ends := { nx := fun σ H => D.nx (σ.set i none) H, rt := D.rt, bk := fun σ H => D.bk (σ.set i none) H, ct := fun σ H => D.ct (σ.set i none) H }
def wCat (K : PySem.W.Frag) (c : Value) (i : Nat) (ts : TS) (wh : Ends → WX) : Ends → WX := fun D cls d σ H => ∃ b, PySem.W.exmOne K cls c = some b ∧
  (b = true → ∃ C : Addr, cls = .ref C ∧ ∀ a, H a = none → ts (forget i D) (σ.set i (some (.ref a))) (upd H a (errO a C d))) ∧ (b = false → wh D cls d σ H)
section
variable {X : Cx} {x n : Str} {c : Value} {i : Nat} {body suite : List Stmt} {b₀ : Stmt} {np pos pos' : Pos} {tb : WX → TS} {ts : TS} {wh : Ends → WX} {hs : List ExceptHandler} {h₀ : ExceptHandler}
theorem cat_cons (hst : X.stack = X.env :: X.outer) (hN : X.N.Nodup) (hi : X.N[i]? = some n) (hln : X.env.kindOf n = some .local) (hc : Names X x c) (hsu : ∀ (a : Addr) (pn : List (Addr × Obj)), PSs (X.suite a pn) (b₀ :: suite) ts) (hr : Cat X hs wh) :
    Cat X (.ExceptHandler (some (.Name x np)) (some n) (b₀ :: suite) pos' :: hs) (wCat X.K c i ts wh) := by
  constructor
  intro pins σ H sI z B a cls d D I nb fl up na os ag w
  obtain ⟨b, hb1, hyes, hno⟩ := w
  have ok := I.ok
  have J : Inv X pins σ H z := I.landed nb fl.1 up os ag
  refine wpAny_handleBy_cons (codeAny_handlers_test ?_) (by intro q; cases q)
  obtain ⟨oe, vs, he, hz, hd⟩ := fl.there
  have LT : PySem.W.Looks (model X.prog X.w) z.heap (typeOf (.ref a)) cls := fun A Q E s k q => wpAny_typeOf_ref (k _ _ he) (by rw [hz.1]; exact q)
  have LM := PySem.W.exm_one (M := model X.prog X.w) J.kIn LT hb1
  have test : ∀ {Q : Value → Shared → Prop} {E : Value → Shared → Prop}, Q c z → wpAny (model X.prog X.w) (X.A.mark (some (.ref a))) (eval (.Name x np) X.env) Q E z := fun {Q E} q => by
    obtain ⟨hg, hdbg, hm | ⟨hm, hv, hnn⟩⟩ := hc
    · exact ld_glob (X := X.suite a (X.pn ++ pins)) (suite_of J a) hg hm q hdbg
    · exact ld_blt (X := X.suite a (X.pn ++ pins)) (suite_of J a) hg hm hv q hnn hdbg
  refine test (LM.here ?_)
  cases b with
  | false => exact hr.run pins σ H sI z B a cls d D I nb fl up na os ag (hno rfl)
  | true =>
    obtain ⟨C, rfl, hq⟩ := hyes rfl
    refine codeAny_handlers_suite_as ?_
    refine HandSPX.lands_againZ fl fun h4 fl4 up4 => ?_
    have J4 : Inv X pins σ (upd H a (errO a C d)) { z with heap := h4 } := landed_with I nb fl4 (up.trans up4) na os ag
    refine store_ok (X := X.suite a (X.pn ++ pins)) (v := .ref a) (suite_of J4 a) hN hi (.inl hln) rfl (fun s5 S5 => ?_) (.inr hln)
    refine wpAny_mono ((hsu a (X.pn ++ pins)).run [] s5 _ _ (forget i D) S5 (hq a na)) (fun f s6 hsp => ?_) (fun _ _ y => False.elim y)
    have fin : ∀ {σ6 : L2.St} {H6 : Hp} {Q : Shared → Prop}, Inv (X.suite a (X.pn ++ pins)) [] σ6 H6 s6 → (∀ s7, Inv X pins (σ6.set i none) H6 s7 → Q s7) →
        wpAny (model X.prog X.w) X.A (do bindName X.env n .none; unbindBehindTheSuite X.env n pos') (fun _ s7 => Q s7) X.xe s6 := fun {σ6 H6 Q} S6 hq => gone_ok (suite_off S6 ok) hN hi hln hq
    cases f with
    | ret u =>
      obtain ⟨v6, σ6, H6, S6, r6, q6⟩ := hsp
      exact fin S6 fun s7 J7 => ⟨_, _, _, J7, r6, q6⟩
    | next =>
      obtain ⟨σ6, H6, S6, q6⟩ := hsp
      exact fin S6 fun s7 J7 => ⟨_, _, J7, q6⟩
    | brk =>
      obtain ⟨σ6, H6, S6, q6⟩ := hsp
      exact fin S6 fun s7 J7 => ⟨_, _, J7, q6⟩
    | cont =>
      obtain ⟨σ6, H6, S6, q6⟩ := hsp
      exact fin S6 fun s7 J7 => ⟨_, _, J7, q6⟩
theorem ps_tryC (hst : X.stack = X.env :: X.outer) (hf : X.env.frame = some X.env.locals)
    (hb : ∀ (W : WX) (pn : List (Addr × Obj)) (xe : Value → Shared → Prop), Takes (X.tr pn xe) W → PassesOwn (model X.prog X.w) X.A X.env xe → PSs (X.tr pn xe) body (tb W)) (hc : Cat X (h₀ :: hs) wh) :
    PS X (.Try body (h₀ :: hs) [] [] pos) (fun D σ H => tb (wh D) D σ H) := by
  constructor
  intro pins z σ H D I h
  have ok := I.ok
  refine wpAny_Try_except ?_
  refine wpAny_mono ((hb (wh D) (X.pn ++ pins) (fun e s₁ => wpAny (model X.prog X.w) X.A (noteFrame e X.env) (fun _ s₂ => wpAny (model X.prog X.w) X.A (setFlight e none) (fun _ s₃ =>
    wpAny (model X.prog X.w) X.A (handleBy e X.env (h₀ :: hs)) (SP X pins D) X.xe s₃) X.xe s₂) X.xe s₁) (fun u s' xx => ?_) PassesOwn.looking).run [] z σ H D (I.toTry _) h) (fun f s1 hsp => ?_) (fun e s1 he => he)
  · obtain ⟨a, B, sI, pins', σ', H', cls, d, rfl, J', nb, up, sky, na, os, ag, hw⟩ := xx
    have J : Inv X pins σ' H' sI := J'.ofTry ok
    show wpAny (model X.prog X.w) X.A (noteFrame (.ref a) X.env) _ _ _
    refine Sky.land Zc.steady (by rw [ok.frames, hst]) hf (by rw [← hst]; exact sky) fun h3 fl3 up3 => ?_
    exact hc.run pins σ' H' sI { s' with heap := h3 } B a cls d D J nb (by rw [hst]; exact fl3) (up.trans up3) na os ag hw
  · cases f with
    | next =>
      obtain ⟨σ', H', J', q⟩ := hsp
      exact wpAny_execs_nil ⟨σ', H', J'.ofTry ok, q⟩
    | ret u =>
      obtain ⟨v, σ', H', J', r, q⟩ := hsp
      exact ⟨v, σ', H', J'.ofTry ok, r, q⟩
    | brk =>
      obtain ⟨σ', H', J', q⟩ := hsp
      exact ⟨σ', H', J'.ofTry ok, q⟩
    | cont =>
      obtain ⟨σ', H', J', q⟩ := hsp
      exact ⟨σ', H', J'.ofTry ok, q⟩
end
end TL

set_option Elab.async false
set_option linter.all false
set_option maxRecDepth 100000
set_option maxHeartbeats 4000000
/-! TXf: try by data; errors as data: their fields, isinstance. -/
namespace TL
open PySem PySem.Spec PyProof.Rows L2

theorem strs_inj : ∀ {a b : List Str}, a.map PyData.str = b.map PyData.str → a = b
  | [], [], _ => rfl
  | x :: a, y :: b, h => by
    rw [List.map_cons, List.map_cons] at h
    injection h with h1 h2
    injection h1 with h1
    rw [h1, strs_inj h2]
theorem errD_inj {C C' : Addr} {ns ns' : List Str} {ds ds' : List PyData} (h : errD C ns ds = errD C' ns' ds') : C = C' ∧ ns = ns' ∧ ds = ds' := by
  unfold errD at h
  injection h with h
  injection h with h _
  injection h with h1 h2
  injection h1 with h1
  injection h2 with h2
  injection h2 with h2 h3
  injection h2 with h2
  exact ⟨Int.ofNat.inj h2, strs_inj h3, h1⟩
/-- what an error's fields are -/
def FldRp (K : PySem.W.Frag) (G : Hp) (d : Option Addr) (ns : List Str) (ds : List PyData) : Prop :=
  (d = none ∧ ns = [] ∧ ds = []) ∨ ∃ (dd : Addr) (fs : List (Str × V)) (vs : List V), d = some dd ∧ G dd = some (.xd fs) ∧ fs = ns.zip vs ∧ RpAll K G vs ds ∧ ns.length = ds.length
theorem ErrRp.split {K : PySem.W.Frag} {G : Hp} {cls : Value} {d : Option Addr} {C : Addr} {ns : List Str} {ds : List PyData} {err : PyData} (r : ErrRp K G cls d err) (e : err = errD C ns ds) : cls = .ref C ∧ FldRp K G d ns ds := by
  cases r with
  | none =>
    obtain ⟨rfl, rfl, rfl⟩ := errD_inj e
    exact ⟨rfl, .inl ⟨rfl, rfl, rfl⟩⟩
  | some h1 h2 h3 h4 =>
    obtain ⟨rfl, rfl, rfl⟩ := errD_inj e
    exact ⟨rfl, .inr ⟨_, _, _, rfl, h1, h2, h3, h4⟩⟩
theorem Rp.of_err {K : PySem.W.Frag} {G : Hp} {a C : Addr} {d : Option Addr} {ns : List Str} {ds : List PyData} (h : G a = some (errO a C d)) (r : FldRp K G d ns ds) : Rp K G (.ref a) (errD C ns ds) := by
  rcases r with ⟨rfl, rfl, rfl⟩ | ⟨dd, fs, vs, rfl, h1, h2, h3, h4⟩
  · exact .err0 h
  · exact .err h h1 h2 h3 h4
theorem Rp.err_of {K : PySem.W.Frag} {G : Hp} {v : V} {C : Addr} {ns : List Str} {ds : List PyData} {err : PyData} (r : Rp K G v err) (e : err = errD C ns ds) : ∃ (a : Addr) (d : Option Addr), v = .ref a ∧ G a = some (errO a C d) ∧ FldRp K G d ns ds := by
  cases r with
  | non => cases e
  | bl b => cases e
  | int i => cases e
  | str x => cases e
  | lst _ _ => cases e
  | tup _ _ => cases e
  | dic h1 h2 h3 =>
    have e : PyData.dict _ = PyData.dict _ := e
    injection e with e
    subst e
    cases (show true = false from h3)
  | fn f =>
    have e : PyData.dict [(PyData.list [], PyData.int _)] = PyData.dict [(PyData.list ds, PyData.tuple _)] := e
    cases e
  | err0 h =>
    obtain ⟨rfl, rfl, rfl⟩ := errD_inj e
    exact ⟨_, _, rfl, h, .inl ⟨rfl, rfl, rfl⟩⟩
  | err h1 h2 h3 h4 h5 =>
    obtain ⟨rfl, rfl, rfl⟩ := errD_inj e
    exact ⟨_, _, rfl, h1, .inr ⟨_, _, _, rfl, h2, h3, h4, h5⟩⟩
theorem look_put {α : Type} (f g : Str) (y : α) (fs : List (Str × α)) : ((f, y) :: fs).lookup g = if g = f then some y else fs.lookup g := by
  rw [List.lookup_cons]
  by_cases h : g = f
  · rw [if_pos h, show (g == f) = true by simpa using h]
  · rw [if_neg h, show (g == f) = false by simpa using h]
theorem RpAll.look {K : PySem.W.Frag} {G : Hp} {f : Str} {x : PyData} : ∀ {ns : List Str} {vs : List V} {ds : List PyData}, RpAll K G vs ds → (ns.zip ds).lookup f = some x → ∃ v, (ns.zip vs).lookup f = some v ∧ Rp K G v x
  | [], _, _, _, h => by cases h
  | n :: ns, [], [], _, h => by cases h
  | n :: ns, _, _, .cons (v := v) (d := d) r t, h => by
    rw [List.zip_cons_cons, look_put] at h
    rw [List.zip_cons_cons, look_put]
    by_cases e : f = n
    · rw [if_pos e] at h ⊢
      cases h
      exact ⟨v, rfl, r⟩
    · rw [if_neg e] at h ⊢
      exact RpAll.look t h
/-! ### try -/
section
variable {X : Cx} {x n : Str} {c : Value} {i : Nat} {body suite : List Stmt} {b₀ : Stmt} {np pos pos' : Pos} {ts : TS} {us : DTS} {wh : Ends → WX} {hs : List ExceptHandler} {h₀ : ExceptHandler}
/-- an air in which anything may fly -/
def airX (X : Cx) : Value → Shared → Prop := fun e s₁ => wpAny (model X.prog X.w) X.A (noteFrame e X.env) (fun _ s₂ => wpAny (model X.prog X.w) X.A (setFlight e none) (fun _ _ => True) (fun _ _ => True) s₂) (fun _ _ => True) s₁
theorem takes_air (hst : X.stack = X.env :: X.outer) (hf : X.env.frame = some X.env.locals) (pn : List (Addr × Obj)) (W : WX) : Takes (X.tr pn (airX X)) W := fun u s' h => by
  obtain ⟨a, B, sI, pins', σ', H', cls, d, rfl, J', nb, up, sky, na, os, ag, hw⟩ := h
  have fr : X.A.frames = some (X.env :: X.outer) := by
    rw [← hst]
    exact J'.ok.frames
  exact Sky.land Zc.steady fr hf (by rw [← hst]; exact sky) fun _ _ _ => trivial
structure DCat [XW] (X : Cx) (hs : List ExceptHandler) (wh : Ends → WX) (hx : DEnds → PyData → List Sl → Prop) : Prop where
  cat : Cat X hs wh
  rel : ∀ (c : Cf) (σ : L2.St) (G H : Hp) (δ : List Sl) (D : Ends) (E : DEnds) (cls : Value) (d : Option Addr) (err : PyData), hx E err δ → EnvOk X.K c G H σ δ → EndsOk X.K c G E D → ErrRp X.K G cls d err → wh D cls d σ H
theorem dcat_nil [XW] : DCat X [] (fun _ _ _ _ _ => False) (fun _ _ _ => False) := ⟨cat_nil, fun _ _ _ _ _ _ _ _ _ _ h _ _ _ => h.elim⟩
def forgetD (i : Nat) (E : DEnds) : DEnds := { nx := fun δ => E.nx (δ.set i .no), rt := E.rt, bk := fun δ => E.bk (δ.set i .no), ct := fun δ => E.ct (δ.set i .no), rn := E.rn }
theorem EndsOk.forget [XW] {K : PySem.W.Frag} {c : Cf} {G : Hp} {E : DEnds} {D : Ends} (h : EndsOk K c G E D) (i : Nat) : EndsOk K c G (forgetD i E) (forget i D) :=
  ⟨fun σ' G' H' δ' a b k => h.nx _ G' H' _ a b.drop k, h.rt, fun σ' G' H' δ' a b k => h.bk _ G' H' _ a b.drop k, fun σ' G' H' δ' a b k => h.ct _ G' H' _ a b.drop k, h.rn, h.h0⟩
/-- the clause of the class c: what the suite does, or what the further ones do -/
def hxCat (K : PySem.W.Frag) (c : Value) (i : Nat) (us : DTS) (hx : DEnds → PyData → List Sl → Prop) : DEnds → PyData → List Sl → Prop := fun E err δ => ∃ C ns ds b, err = errD C ns ds ∧ PySem.W.exmOne K (.ref C) c = some b ∧
  if b = true then us (forgetD i E) (δ.set i (.dat err)) else hx E err δ
theorem dcat_cons [XW] {hx : DEnds → PyData → List Sl → Prop} (hst : X.stack = X.env :: X.outer) (hN : X.N.Nodup) (hi : X.N[i]? = some n) (hln : X.env.kindOf n = some .local) (hc : Names X x c) (hsu : ∀ (a : Addr) (pn : List (Addr × Obj)), DSs (X.suite a pn) (b₀ :: suite) ts us) (hr : DCat X hs wh hx) :
    DCat X (.ExceptHandler (some (.Name x np)) (some n) (b₀ :: suite) pos' :: hs) (wCat X.K c i ts wh) (hxCat X.K c i us hx) where
  cat := cat_cons hst hN hi hln hc (fun a pn => (hsu a pn).ps) hr.cat
  rel := fun c' σ G H δ D E cls d err h EV k er => by
    obtain ⟨C, ns, ds, b, ee, hb, h⟩ := h
    obtain ⟨rfl, fr⟩ := er.split ee
    refine ⟨b, hb, fun eb => ⟨C, rfl, fun a na => ?_⟩, fun eb => ?_⟩
    · rw [if_pos eb] at h
      have eg : Ex G (upd G a (errO a C d)) := Ex.new (EV.ex.none na)
      have E1 := EV.al (Al.new (o := errO a C d) EV.ex na)
      have fr' : FldRp X.K (upd G a (errO a C d)) d ns ds := by
        rcases fr with q | ⟨dd, fs, vs, q1, q2, q3, q4, q5⟩
        · exact .inl q
        · exact .inr ⟨dd, fs, vs, q1, eg _ _ q2, q3, q4.up eg, q5⟩
      have r : Rp X.K (upd G a (errO a C d)) (.ref a) err := by
        rw [ee]
        exact Rp.of_err upd_same fr'
      exact (hsu 0 []).rs c' _ _ _ _ (forget i D) (forgetD i E) (E1.put r) h ((k.up eg).forget i)
    · rw [eb, if_neg Bool.false_ne_true] at h
      exact hr.rel c' σ G H δ D E _ d err h EV k er
theorem DSs.ps1 {X : Cx} {xw : XW} {st : List Stmt} {t : TS} {u : DTS} (h : @DSs xw X st t u) : PSs X st t := h.ps
theorem DSs.rs1 {X : Cx} {xw : XW} {st : List Stmt} {t : TS} {u : DTS} (h : @DSs xw X st t u) : @RS xw X.K t u := h.rs
theorem EnvOk.out {K : PySem.W.Frag} {xw : XW} {c : Cf} {G H : Hp} {σ : L2.St} {δ : List Sl} (h : @EnvOk xw K c G H σ δ) : EnvC K c G H σ δ := h.toEnvC
theorem ds_try [XW] {hx : DEnds → PyData → List Sl → Prop} {tb : XW → TS} {ub : XW → DTS} (hst : X.stack = X.env :: X.outer) (hf : X.env.frame = some X.env.locals)
    (hb : ∀ (xw : XW) (pn : List (Addr × Obj)) (xe : Value → Shared → Prop), Takes (X.tr pn xe) xw.w → PassesOwn (model X.prog X.w) X.A X.env xe → @DSs xw (X.tr pn xe) body (tb xw) (ub xw)) (hc : DCat X (h₀ :: hs) wh hx)
    (ht : ∀ w xr xr', tb ⟨w, xr⟩ = tb ⟨w, xr'⟩ := by intros; rfl) (hu : ∀ w w' xr, ub ⟨w, xr⟩ = ub ⟨w', xr⟩ := by intros; rfl) :
    DS X (.Try body (h₀ :: hs) [] [] pos) (fun D σ H => tb ⟨wh D, fun _ _ => False⟩ D σ H) (fun E δ => ub ⟨fun _ _ _ _ => False, hx E⟩ E δ) where
  ps := ps_tryC (tb := fun W => tb ⟨W, fun _ _ => False⟩) hst hf (fun W pn xe tk po => (hb ⟨W, fun _ _ => False⟩ pn xe tk po).ps1) hc.cat
  rs := fun c σ G H δ D E EV h k => by
    have core : ({ c with hid := [] } : Cf) = c := by
      have hh := k.h0
      obtain ⟨τ, n, G0, H0, hid⟩ := c
      dsimp only at hh
      subst hh
      rfl
    have RB := (hb ⟨wh D, hx E⟩ [] (airX X) (takes_air hst hf [] _) PassesOwn.looking).rs1
    let c1 : Cf := { c with G0 := G }
    -- back and forth
    have back : ∀ {c2 : Cf} {G' H' : Hp} {σ' : L2.St} {δ' : List Sl}, c2 = c1 → EnvC X.K c2 G' H' σ' δ' → EnvOk X.K c G' H' σ' δ' ∧ Ex G G' := fun {c2 G' H' σ' δ'} e Z => by
      subst e
      refine ⟨{ xw := EV.xw, g0 := EV.g0.trans Z.g0, ex := Z.ex, fr := Z.fr, fs := fun a h1 h2 => Z.fs a (EV.fs a h1 h2) h2, tg := Z.tg, len := Z.len, sl := fun i s h => ?_, ap := Z.ap, hd := Z.hd, bx := Z.bx.like rfl rfl rfl fun _ h => h }, Z.g0⟩
      have z := Z.sl i s h
      cases s with
      | no => trivial
      | box b => trivial
      | dat d => exact z
      | scr d => exact z
      | own t d => exact z
    have E1 : @EnvOk ⟨wh D, hx E⟩ X.K c1 G H σ δ := by
      refine @EnvOk.mk ⟨wh D, hx E⟩ _ _ _ _ _ _ { g0 := Ex.refl _, ex := EV.ex, fr := EV.fr, fs := fun a h1 _ => h1, tg := EV.tg, len := EV.len, sl := fun i s h => ?_, ap := EV.ap, hd := EV.hd, bx := EV.bx.like rfl rfl rfl fun _ h => h } ?_
      · have z := EV.sl i s h
        cases s with
        | no => trivial
        | box b => trivial
        | dat d => exact z
        | scr d => exact z
        | own t d => exact z
      · intro cls d err G' H' σ' δ' hxx Z er
        obtain ⟨EO, eg⟩ := back (by show ({ c1 with hid := [] } : Cf) = c1; exact congrArg (fun q : Cf => ({ q with G0 := G } : Cf)) core) Z
        exact hc.rel c σ' G' H' δ' D E cls d err hxx EO (k.up eg) er
    have h1 : ub ⟨wh D, hx E⟩ E δ := by
      rw [hu (wh D) (fun _ _ _ _ => False) (hx E)]
      exact h
    show tb ⟨wh D, fun _ _ => False⟩ D σ H
    rw [ht (wh D) (fun _ _ => False) (hx E)]
    refine RB c1 σ G H δ D E E1 h1 (@EndsOk.mk ⟨wh D, hx E⟩ X.K c1 G E D ?_ ?_ ?_ ?_ ?_ (show c1.hid = [] from k.h0))
    · intro σ' G' H' δ' a b _
      obtain ⟨EO, eg⟩ := back rfl b.out
      exact k.nx σ' G' H' δ' a EO eg
    · intro d δ' v σ' G' H' a b _ r
      obtain ⟨EO, eg⟩ := back rfl b.out
      exact k.rt d δ' v σ' G' H' a EO eg r
    · intro σ' G' H' δ' a b _
      obtain ⟨EO, eg⟩ := back rfl b.out
      exact k.bk σ' G' H' δ' a EO eg
    · intro σ' G' H' δ' a b _
      obtain ⟨EO, eg⟩ := back rfl b.out
      exact k.ct σ' G' H' δ' a EO eg
    · intro ds δ' p xs σ' G' H' a b hn _ r
      have Z := b.out
      have EO : EnvOk X.K { c with hid := (p, .lst xs) :: c.hid } G' H' σ' δ' := by
        refine { xw := EV.xw, g0 := EV.g0.trans Z.g0, ex := Z.ex, fr := Z.fr, fs := fun a h1 h2 => Z.fs a (EV.fs a h1 h2) h2, tg := Z.tg, len := Z.len, sl := fun i s h => ?_, ap := Z.ap, hd := Z.hd, bx := Z.bx.like rfl rfl rfl fun _ h => h }
        have z := Z.sl i s h
        cases s with
        | no => trivial
        | box b => trivial
        | dat d => exact z
        | scr d => exact z
        | own t d => exact z
      exact k.rn ds δ' p xs σ' G' H' a EO hn Z.g0 r
end
end TL

set_option Elab.async false
set_option linter.all false
set_option maxRecDepth 100000
set_option maxHeartbeats 4000000
/-! TXg: an error's fields are read; isinstance of an error. -/
namespace TL
open PySem PySem.Spec PyProof.Rows L2

/-- at a: an error of the class at C, its dict d there -/
def IsErr (H : Hp) (a C : Addr) (d : Option Addr) : Prop := H a = some (errO a C d) ∧ (d = none ∨ ∃ (dd : Addr) (fs : List (Str × V)), d = some dd ∧ H dd = some (.xd fs))
theorem inst_of {P : Program} {w : World} {H : Hp} {h : Heap} {a C : Addr} {d : Option Addr} (hok : HOk P w H h) (e : IsErr H a C d) : ∃ (ox : Obj) (od : Option Obj), PySem.W.InstAt h a ox C od := by
  obtain ⟨ea, ed⟩ := e
  obtain ⟨ox, vs, e1, e2, e3, e4⟩ := errO_at hok ea
  have nc : PySem.W.notCls ox = true := by
    unfold PySem.W.notCls
    rw [e4]
  rcases ed with rfl | ⟨dd, fs, rfl, e5⟩
  · exact ⟨ox, none, e1, e2, nc, by rw [e3]; trivial⟩
  · have hx : ObjOk P w H h dd (.xd fs) := hok dd _ e5
    obtain ⟨mA, ⟨o, es, ep, ho, _⟩, _⟩ := hx
    exact ⟨ox, some o, e1, e2, nc, by rw [e3]; exact ho⟩
theorem Rp.is_err {K : PySem.W.Frag} {G H : Hp} {v : V} {C : Addr} {ns : List Str} {ds : List PyData} (r : Rp K G v (errD C ns ds)) (e : Ex G H) : ∃ (a : Addr) (d : Option Addr), v = .ref a ∧ IsErr H a C d := by
  obtain ⟨a, d, rfl, h, f⟩ := r.err_of rfl
  refine ⟨a, d, rfl, e _ _ h, ?_⟩
  rcases f with ⟨h1, _⟩ | ⟨dd, fs, vs, h1, h2, _⟩
  · exact .inl h1
  · exact .inr ⟨dd, fs, h1, e _ _ h2⟩
/-! ### e.f -/
def tEf (K : PySem.W.Frag) (f : Str) (te : TE) : TE := fun σ H Q => te σ H fun x H1 => ∃ (a C dd : Addr) (fs : List (Str × V)) (v : V), x = .ref a ∧ H1 a = some (errO a C (some dd)) ∧ H1 dd = some (.xd fs) ∧ fs.lookup f = some v ∧ ErrC K C ∧ PySem.W.findIn K (.ref C) f = some none ∧ Q v H1
theorem pe_ef {X : Cx} {e : Expr} {te : TE} {pos : Pos} {f : Str} (he : PE X e te) (hb : attributeBase e f X.env (eval e X.env) = eval e X.env := by rfl) : PE X (.Attribute e f pos) (tEf X.K f te) := by
  constructor
  intro pins z σ H Q I h
  refine attr_of hb (thn (he.run pins z σ H _ I h) ?_)
  rintro u z1 ⟨x, H1, I1, rx, a, C, dd, fs, v, rfl, ea, ed, l, T, hno, q⟩
  obtain rfl : u = Value.ref a := rx
  obtain ⟨ox, vs, e1, e2, e3, e4⟩ := errO_at I1.hok ea
  have hx : ObjOk X.prog X.w H1 z1.heap dd (.xd fs) := I1.hok dd _ ed
  obtain ⟨mA, ns, hr⟩ := hx
  obtain ⟨od, ho, hl⟩ := lookIn_ns ns
  obtain ⟨u, hu, ru⟩ := RelO.some_of (v := v) (o := mA f) (by rw [← l]; exact hr f)
  have J : PySem.W.InstAt z1.heap a ox C (some od) := ⟨e1, e2, by unfold PySem.W.notCls; rw [e4], by rw [e3]; exact ho⟩
  exact HandSPX.exc_get I1.kIn J T.ga T.gg T.ex (PySem.W.findObj_own T.hd hno rfl (by rw [hl, hu])) (handed_of ru) ⟨v, H1, I1.tok _, ru, q⟩
/-! ### isinstance -/
def rIsEr (K : PySem.W.Frag) : List V → Hp → VK → Prop := fun xs H Q => ∃ (a C : Addr) (d : Option Addr) (c : V) (cv : Value) (b : Bool), xs = [.ref a, c] ∧ IsErr H a C d ∧ ErrC K C ∧ (∀ u, RelV c u → u = cv) ∧ PySem.W.kitOne K (.ref C) cv = some b ∧ Q (.bl b) H
theorem call_isEr {X : Cx} : CallR X (.builtin "isinstance") (rIsEr X.K) := by
  intro pins z σ H xs us Q I r h
  obtain ⟨a, C, d, c, cv, b, rfl, ie, T, hcv, hb, q⟩ := h
  cases r with
  | @cons _ u1 _ us1 rx rr =>
  cases rr with
  | @cons _ u2 _ us2 rt rn =>
    cases rn
    obtain rfl : u1 = Value.ref a := rx
    obtain rfl := hcv _ rt
    obtain ⟨ox, od, J⟩ := inst_of I.hok ie
    obtain ⟨cd, hc, _⟩ := TXE.dict_cls T.hd
    exact PySem.W.kia_one (PySem.W.kitx_exc (od := od) (by rw [hc]; rfl) T.ga T.gg T.ex T.kl T.kg T.kt T.mo) I.kIn J hb (fun y => nomatch y) fun tk => ⟨.bl b, H, I.kept (t' := tk) fun _ _ y => y, rfl, q⟩
section
variable [XW] {K : PySem.W.Frag} {te : TE} {ue : DTE}
def dEf (K : PySem.W.Frag) (f : Str) (ue : DTE) : DTE := fun δ R => ue δ fun d δ1 => ∃ (C : Addr) (ns : List Str) (ds : List PyData) (x : PyData), d = errD C ns ds ∧ ErrC K C ∧ PySem.W.findIn K (.ref C) f = some none ∧ (ns.zip ds).lookup f = some x ∧ R x δ1
theorem re_ef {f : Str} (he : RE K te ue) : RE K (tEf K f te) (dEf K f ue) := by
  intro c σ G H δ Q R E h k
  refine he c σ G H δ _ _ E h fun d δ1 v G1 H1 h1 E1 e1 r1 => ?_
  obtain ⟨C, ns, ds, x, rfl, T, hno, l, hR⟩ := h1
  obtain ⟨a, d, rfl, ea, fl⟩ := r1.err_of rfl
  rcases fl with ⟨_, rfl, _⟩ | ⟨dd, fs, vs, rfl, e2, rfl, ra, _⟩
  · cases l
  · obtain ⟨y, l2, ry⟩ := ra.look l
    exact ⟨a, C, dd, _, y, rfl, E1.ex _ _ ea, E1.ex _ _ e2, l2, T, hno, k x δ1 y G1 H1 hR E1 e1 ry⟩
def dIsE (K : PySem.W.Frag) (cv : Value) (ue : DTE) : DTE := fun δ R => ue δ fun d δ1 => ∃ (C : Addr) (ns : List Str) (ds : List PyData) (b : Bool), d = errD C ns ds ∧ ErrC K C ∧ PySem.W.kitOne K (.ref C) cv = some b ∧ R (.bool b) δ1
theorem re_isE {c : V} {cv : Value} (hcv : ∀ u, RelV c u → u = cv) (he : RE K te ue) : RE K (tCB (rIsEr K) (tCons te (tCons (tC c) tNil))) (dIsE K cv ue) := by
  intro c' σ G H δ Q R E h k
  refine he c' σ G H δ _ _ E h fun d δ1 v G1 H1 h1 E1 e1 r1 => ?_
  obtain ⟨C, ns, ds, b, rfl, T, hb, hR⟩ := h1
  obtain ⟨a, d, rfl, ie⟩ := r1.is_err E1.ex
  exact ⟨a, C, d, c, cv, b, rfl, ie, T, hcv, hb, k _ δ1 _ G1 H1 hR E1 e1 (.bl b)⟩
theorem de_ef {X : Cx} {e : Expr} {pos : Pos} {f : Str} (he : DE X e te ue) (hb : attributeBase e f X.env (eval e X.env) = eval e X.env := by rfl) : DE X (.Attribute e f pos) (tEf X.K f te) (dEf X.K f ue) := ⟨pe_ef he.pe hb, re_ef he.re⟩
theorem de_isE {X : Cx} {e : Expr} {Tn : Str} {c : V} {cv : Value} {p p2 pos : Pos} (hm : X.mg "isinstance" = none) (he : DE X e te ue) (hc : PE X (.Name Tn p2) (tC c)) (hcv : ∀ u, RelV c u → u = cv) (hg : Gl X "isinstance" := by rfl) (hb : bootBuiltins "isinstance" = some (.builtin "isinstance") := by decide +kernel)
    (hs : starEach [e, .Name Tn p2] X.env = (false, eval e X.env) :: starEach [.Name Tn p2] X.env := by rfl) (hs2 : starEach [.Name Tn p2] X.env = (false, eval (.Name Tn p2) X.env) :: starEach [] X.env := by rfl) (hpl : (backTo pos (starEach [.Name Tn p2] X.env)).any (·.1) = false := by rfl) :
    DE X (.Call (.Name "isinstance" p) [e, .Name Tn p2] [] pos) (tCB (rIsEr X.K) (tCons te (tCons (tC c) tNil))) (dIsE X.K cv ue) :=
  ⟨pe_callB call_isEr hg hm hb (pa_cons he.pe (pa_cons hc pa_nil hs2) hs) (by decide) (by decide) hs hpl, re_isE hcv he.re⟩
theorem ref_is {a : Addr} : ∀ u, RelV (.ref a) u → u = Value.ref a := fun u h => h
theorem ty_is {T : String} : ∀ u, RelV (.ty T) u → u = Value.type T := fun u h => h
end
end TL

set_option Elab.async false
set_option linter.all false
set_option maxRecDepth 100000
set_option maxHeartbeats 4000000
/-! TXh: defs with defaults; slices of lists with a step; or by truth; products put in place. -/
namespace TL
open PySem PySem.Spec PyProof.Rows L2

/-- a def behind the top, whatever its defaults -/
structure FunA (K : PySem.W.Frag) (x qual : Str) (st : Stmt) (f : Addr) (fd : FuncData) : Prop where
  ex : ∃ (oc : Value) (od : Option Addr) (dV kV doc pm : Value) (an : Option Addr) (cdv ct : Value) (osl : Array (Option Value)),
    fd = PySem.W.fnOf x qual (defArgs st) (defBody st) (defScope st) dV kV doc pm an cdv ct ∧ K.lookup f = some ⟨oc, od, .func fd, osl⟩ ∧ PySem.W.codeIn K cdv qual = true
theorem _root_.L2.FunD.any {K : PySem.W.Frag} {x qual : Str} {st : Stmt} {f : Addr} {fd : FuncData} {dvs : List V} {kws : List (Str × V)} (F : FunD K x qual (defArgs st) (defBody st) (defScope st) dvs kws f fd) : FunA K x qual st f fd := by
  obtain ⟨oc, od, dV, kV, doc, pm, an, cdv, ct, osl, h1, h2, h3, _⟩ := F.ex
  exact ⟨oc, od, dV, kV, doc, pm, an, cdv, ct, osl, h1, h2, h3⟩
/-- a tuple of defaults stands -/
theorem fund_mk {K : PySem.W.Frag} {x qual : Str} {st : Stmt} {f : Addr} {oc kV doc pm cdv ct : Value} {od an : Option Addr} {osl : Array (Option Value)} {T : Addr} {o : Obj} {its : List Value} {n : Nat} {dvs : List V} (hd : dvs ≠ [])
    (lk : K.lookup f = some ⟨oc, od, .func (PySem.W.fnOf x qual (defArgs st) (defBody st) (defScope st) (.ref T) kV doc pm an cdv ct), osl⟩) (hcd : PySem.W.codeIn K cdv qual = true) (hk : PySem.W.keepIn K (.ref f) = true)
    (lT : K.lookup T = some o) (oT : o.data = .seq its.toArray n) (r : Vals dvs its) : FunD K x qual (defArgs st) (defBody st) (defScope st) dvs [] f (PySem.W.fnOf x qual (defArgs st) (defBody st) (defScope st) (.ref T) kV doc pm an cdv ct) :=
  ⟨⟨oc, od, .ref T, kV, doc, pm, an, cdv, ct, osl, rfl, lk, hcd, .inr ⟨hd, T, o, its, n, rfl, lT, oT, r⟩, .inl rfl⟩, hk⟩
section
variable {P : Program} {w : World} {K : PySem.W.Frag} {mg : Str → Option Value} {base : Heap}
theorem fun_okA {CX : CXT} {x qual : Str} {st : Stmt} {f : Addr} {fd : FuncData} {N ps : List Str} {k : Nat} {sp : Sp} (F : FunA K x qual st f fd) (S : FnScope N ps (defScope st)) (len : ∀ vs H Q E, sp vs H Q E → vs.length = ps.length)
    (hbody : ∀ (cdv : Value) (B : Around) (out : List Env) (z : Shared) (H : Hp) (vs : List V) (Q : VK) (E : XK), RoomG k (B.deeper (envOfC qual (defScope st) z.heap.objs.size f cdv)) → sp vs H Q E →
      ∃ t, PSs (cxOf CX P w K mg base N qual (defScope st) f cdv B out z H E) (defBody st) t ∧ t { nx := fun _ H' => Q .non H', rt := Q } (start N vs) H) : FnOkG P w K mg base CX (k + 1) f fd ps sp := by
  obtain ⟨oc, od, dV, kV, doc, pm, an, cdv, ct, osl, e, lk, hcd⟩ := F.ex
  subst e
  exact fn_ofG lk hcd S len (hbody cdv)
/-- fnX, whatever the defaults -/
theorem fnXA {x qual : Str} {st : Stmt} {f : Addr} {fd : FuncData} {N ps : List Str} {k : Nat} {S : DSx} (F : FunA K x qual st f fd) (sc : FnScope N ps (defScope st)) (len : ∀ as R Xr, S as R Xr → as.length = ps.length)
    (hbody : ∀ (cdv : Value) (A : Around) (outer : List Env) (z : Shared) (H : Hp) (E : XK), RoomG k (A.deeper (envOfC qual (defScope st) z.heap.objs.size f cdv)) → ∀ (xw : XW), Takes (cxOf (L2.CX P w) P w K mg base N qual (defScope st) f cdv A outer z H E) xw.w →
      ∃ t u, DSs (cxOf (L2.CX P w) P w K mg base N qual (defScope st) f cdv A outer z H E) (defBody st) t u ∧ ∀ as R Xr, S as R Xr → (xw.xr = fun err δ => ∃ outs, Xr err outs ∧ OutsIn δ outs) → u (endsOf R) (as ++ List.replicate (N.length - ps.length) .no)) :
    FnOkG P w K mg base (L2.CX P w) (k + 1) f fd ps (spX K S) := by
  refine fun_okA F sc (fun vs H Q E h => ?_) (fun cdv A outer z H vs Q E hr h => ?_)
  · obtain ⟨c, as, R, Xr, _, _, EV, hS, _⟩ := h
    have := EV.len
    rw [List.length_map] at this
    rw [this]
    exact len as R Xr hS
  · obtain ⟨c, as, R, Xr, hh, h0, EV, hS, k, kx⟩ := h
    let xw : XW := ⟨fun cls d _ H => E cls d H, fun err δ => ∃ outs, Xr err outs ∧ OutsIn δ outs⟩
    obtain ⟨t, u, D, red⟩ := hbody cdv A outer z H E hr xw takes_cx
    refine ⟨t, D.ps, ?_⟩
    have l1 : vs.length = ps.length := by
      have := EV.len
      rw [List.length_map] at this
      rw [this]
      exact len as R Xr hS
    have core : ({ c with hid := [] } : Cf) = c := by
      obtain ⟨τ, n, G0, H0, hid⟩ := c
      dsimp only at hh
      subst hh
      rfl
    have EV' : EnvOk K c c.G0 H (L2.start N vs) (as ++ List.replicate (N.length - ps.length) .no) := by
      have y := EV.more (N.length - ps.length)
      have y' : EnvC K c c.G0 H (L2.start N vs) (as ++ List.replicate (N.length - ps.length) .no) := by
        unfold L2.start
        rw [l1]
        exact y
      refine ⟨y', fun cls d err G' H' σ' δ' hx EC er => ?_⟩
      obtain ⟨outs, hX, ho⟩ := hx
      rw [core] at EC
      exact kx err outs cls d G' H' hX (EC.fin ho) er
    refine D.rs c (L2.start N vs) c.G0 H _ _ (endsOf R) EV' (red as R Xr hS rfl) ⟨?_, ?_, ?_, ?_, ?_, hh⟩
    · rintro σ' G' H' δ' ⟨outs, hR, ho⟩ E' e
      exact k .none outs .non G' H' hR (E'.toEnvC.fin ho) .non
    · rintro d δ' v σ' G' H' ⟨outs, hR, ho⟩ E' e r
      exact k d outs v G' H' hR (E'.toEnvC.fin ho) r
    · exact fun σ' G' H' δ' a _ _ => False.elim a
    · exact fun σ' G' H' δ' a _ _ => False.elim a
    · exact fun ds δ' p xs σ' G' H' a _ _ _ _ => False.elim a
end
/-! ### xs[a:b:k] -/
def pickL {α : Type} (xs : List α) (lo hi st : Option Int) : List α := (sliceRange (sliceBounds lo hi st xs.length).1 (sliceBounds lo hi st xs.length).2.1 (sliceBounds lo hi st xs.length).2.2).filterMap (xs[·]?)
theorem vals_places : ∀ {vs : List V} {us : List Value}, Vals vs us → ∀ js : List Nat, Vals (js.filterMap (vs[·]?)) (js.filterMap (us[·]?))
  | _, _, _, [] => .nil
  | vs, us, r, j :: js => by
    have ih := vals_places r js
    rw [List.filterMap_cons, List.filterMap_cons]
    cases e : vs[j]? with
    | none =>
      have e2 : us[j]? = none := by
        rw [List.getElem?_eq_none_iff] at e ⊢
        rw [← r.length]
        exact e
      rw [e2]
      exact ih
    | some v =>
      obtain ⟨u, e2, ru⟩ := r.get e
      rw [e2]
      exact .cons ru ih
theorem rp_places {K : PySem.W.Frag} {G : Hp} : ∀ {vs : List V} {ds : List PyData}, RpAll K G vs ds → ∀ js : List Nat, RpAll K G (js.filterMap (vs[·]?)) (js.filterMap (ds[·]?))
  | _, _, _, [] => .nil
  | vs, ds, r, j :: js => by
    have ih := rp_places r js
    rw [List.filterMap_cons, List.filterMap_cons]
    cases e : vs[j]? with
    | none =>
      have e2 : ds[j]? = none := by
        rw [List.getElem?_eq_none_iff] at e ⊢
        rw [← r.len]
        exact e
      rw [e2]
      exact ih
    | some v =>
      obtain ⟨d, e2, rd⟩ := r.get' e
      rw [e2]
      exact .cons rd ih
def tSlK (K : PySem.W.Frag) (te : TE) (tl th tk : TO) : TE := fun σ H Q => te σ H fun x H1 => tl σ H1 fun lo H2 => th σ H2 fun hi H3 => tk σ H3 fun st H4 => ∃ a xs, x = .ref a ∧ SqL K H4 a xs ∧ st ≠ some 0 ∧ (pickL xs lo hi st).length ≤ sizeLine ∧ ∀ p, H4 p = none → Q (.ref p) (upd H4 p (.lst (pickL xs lo hi st)))
theorem pe_slK {X : Cx} {e : Expr} {lo hi : Option Expr} {k : Expr} {te : TE} {tl th tk : TO} {pos p2 : Pos} (he : PE X e te) (hl : PO X lo tl) (hh : PO X hi th) (hk : PO X (some k) tk) : PE X (.Subscript e (.Slice lo hi (some k) p2) pos) (tSlK X.K te tl th tk) := by
  constructor
  intro pins z σ H Q I h
  refine Subscript_ (thn (he.run pins z σ H _ I h) ?_)
  rintro v z1 ⟨x, H1, I1, r1, q1⟩
  refine wpAny_Slice (thn (hl.run pins z1 σ H1 _ I1 q1) ?_)
  rintro vl z2 ⟨l, H2, I2, pl, q2⟩
  refine thn (hh.run pins z2 σ H2 _ I2 q2) ?_
  rintro vu z3 ⟨u, H3, I3, pu, q3⟩
  refine thn (hk.run pins z3 σ H3 _ I3 q3) ?_
  rintro vs z4 ⟨st, H4, I4, ps, a, xs, rfl, hx, h0, hz, q⟩
  cases r1
  have I5 : Inv X pins σ H4 { z4 with heap := z4.heap.push { cls := .type "slice", data := .fields #[vl, vu, vs] } } := I4.kept (t' := z4.toks) fun b ob q => Heap.get?_push_of_some _ q
  obtain ⟨its, r, ht, hsz⟩ := I5.list hx
  have hlen := r.length
  refine tail_any (ops := [.ref a, .ref z4.heap.objs.size]) ht.isList.typeIs (PySem.slot_list_getitem.lookup) ?_ (by with_unfolding_all rfl)
  refine wpAny_getItem_list_slice ht.isList (Heap.IsSliceOf.new _ vl vu vs) pl pu ps h0 ?_ (by rw [List.size_toArray]; omega)
  have rr : Vals (pickL xs l u st) (slicePick its.toArray l u st).toList := by
    unfold pickL slicePick
    rw [List.size_toArray, ← hlen]
    simpa using vals_places r _
  refine ⟨.ref _, _, I5.laid (t' := z4.toks) (o := .lst (pickL xs l u st)) (fun b ob q => Heap.get?_push_of_some _ q) (Nat.le_refl _) ?_, rfl, q _ (I5.hok.fresh (Nat.le_refl _))⟩
  exact ⟨hz, _, 0, rr, by rw [Heap.get?_push_size _ rfl]⟩
section
variable [XW] {K : PySem.W.Frag}
def dSlK (ue : DTE) (ul uh uk : DTO) : DTE := fun δ R => ue δ fun d δ1 => ul δ1 fun lo δ2 => uh δ2 fun hi δ3 => uk δ3 fun st δ4 => match d with
  | .list ds => st ≠ some 0 ∧ (pickL ds lo hi st).length ≤ sizeLine ∧ R (.list (pickL ds lo hi st)) δ4
  | _ => False
theorem re_slK {te : TE} {ue : DTE} {tl th tk : TO} {ul uh uk : DTO} (he : RE K te ue) (hl : ROp K tl ul) (hh : ROp K th uh) (hk : ROp K tk uk) : RE K (tSlK K te tl th tk) (dSlK ue ul uh uk) := by
  intro c σ G H δ Q R E h k
  refine he c σ G H δ _ _ E h fun d δ1 v G1 H1 h1 E1 e1 r1 => ?_
  refine hl c σ G1 H1 δ1 _ _ E1 h1 fun lo δ2 G2 H2 h2 E2 e2 => ?_
  refine hh c σ G2 H2 δ2 _ _ E2 h2 fun hi δ3 G3 H3 h3 E3 e3 => ?_
  refine hk c σ G3 H3 δ3 _ _ E3 h3 fun st δ4 G4 H4 h4 E4 e4 => ?_
  cases d <;> first
    | exact False.elim h4
    | skip
  rename_i ds
  obtain ⟨h0, hz, h4⟩ := h4
  obtain ⟨a, xs, rfl, q1, q2⟩ := (r1.up ((e2.trans e3).trans e4)).lst_of
  have q3 : RpAll K G4 (pickL xs lo hi st) (pickL ds lo hi st) := by
    unfold pickL
    rw [q2.len]
    exact rp_places q2 _
  refine ⟨a, xs, rfl, .inl (.inl (E4.ex _ _ q1)), h0, by rw [q3.len]; exact hz, fun p hp => ?_⟩
  have A := Al.new (o := .lst (pickL xs lo hi st)) E4.ex hp
  exact k _ δ4 _ _ _ h4 (E4.al A) ((((e1.trans e2).trans e3).trans e4).trans A.g) (.lst upd_same (q3.up A.g))
theorem de_slK {X : Cx} {e : Expr} {lo hi : Option Expr} {k : Expr} {te : TE} {ue : DTE} {tl th tk : TO} {ul uh uk : DTO} {pos p2 : Pos} (he : DE X e te ue) (hl : DO X lo tl ul) (hh : DO X hi th uh) (hk : DO X (some k) tk uk) : DE X (.Subscript e (.Slice lo hi (some k) p2) pos) (tSlK X.K te tl th tk) (dSlK ue ul uh uk) :=
  ⟨pe_slK he.pe hl.po hh.po hk.po, re_slK he.re hl.ro hh.ro hk.ro⟩
/-! ### or, by truth -/
def truD : PyData → Option Bool
  | .bool b => some b
  | .none => some false
  | .list ds => some (!ds.isEmpty)
  | .tuple ds => some (!ds.isEmpty)
  | _ => none
def dOrT (ua ub : DTE) : DTE := fun δ R => ua δ fun d δ1 => match truD d with
  | some true => R d δ1
  | some false => ub δ1 R
  | none => False
theorem tru_rp {G H : Hp} {v : V} {d : PyData} {b : Bool} (r : Rp K G v d) (e : Ex G H) (h : truD d = some b) : TruV K v H b := by
  cases d <;> first
    | (cases h; done)
    | skip
  · cases h
    rw [r.non_of]
    exact rfl
  · cases h
    rw [r.bl_of]
    exact rfl
  · cases h
    obtain ⟨a, xs, rfl, q1, q2⟩ := r.lst_of
    exact .inl ⟨xs, .inl (.inl (e _ _ q1)), by rw [empty_rp q2]⟩
  · cases h
    obtain ⟨a, xs, rfl, q1, q2⟩ := r.tup_of
    exact .inr (.inl ⟨xs, .inl (.inl (e _ _ q1)), by rw [empty_rp q2]⟩)
theorem re_orT {ta tb : TE} {ua ub : DTE} (ha : RE K ta ua) (hb : RE K tb ub) : RE K (tOrT K ta tb) (dOrT ua ub) := by
  intro c σ G H δ Q R E h k
  refine ha c σ G H δ _ _ E h fun d δ1 v G1 H1 h1 E1 e1 r1 => ?_
  cases q : truD d with
  | none =>
    rw [q] at h1
    exact h1.elim
  | some b =>
    rw [q] at h1
    refine ⟨b, tru_rp r1 E1.ex q, ?_⟩
    cases b with
    | true =>
      rw [if_pos rfl]
      exact k d δ1 v G1 H1 h1 E1 e1 r1
    | false =>
      rw [if_neg Bool.false_ne_true]
      exact hb c σ G1 H1 δ1 Q R E1 h1 fun d2 δ2 v2 G2 H2 q2 E2 e2 r2 => k d2 δ2 v2 G2 H2 q2 E2 (e1.trans e2) r2
theorem de_orT {X : Cx} {a b : Expr} {rest : List Expr} {ta tb : TE} {ua ub : DTE} {pos : Pos} (ha : DE X a ta ua) (hb : DE X (.BoolOp .Or (b :: rest) pos) tb ub) : DE X (.BoolOp .Or (a :: b :: rest) pos) (tOrT X.K ta tb) (dOrT ua ub) := ⟨pe_orT ha.pe hb.pe, re_orT ha.re hb.re⟩
/-! ### name op= e, by any rule of values -/
def dAugR (rd : R2D) (i : Nat) (u : DTE) : DTS := fun E δ => match δ[i]? with
  | some (.dat a) => u δ fun d δ1 => rd a d fun x => E.nx (δ1.set i (.dat x))
  | _ => False
theorem rs_augR {r : R2} {rd : R2D} {i : Nat} {te : TE} {ue : DTE} (hr : RO K r rd) (ha : RE K te ue) : RS K (tAug i te r) (dAugR rd i ue) := by
  intro c σ G H δ D E EV h k
  unfold dAugR at h
  cases hs : δ[i]? with
  | none =>
    rw [hs] at h
    exact h.elim
  | some s =>
    rw [hs] at h
    cases s with
    | no => exact h.elim
    | box b => exact h.elim
    | own t ds => exact h.elim
    | scr ds => exact h.elim
    | dat d0 =>
      obtain ⟨x, e, rx⟩ := EV.sl i _ hs
      refine ⟨x, e, ?_⟩
      refine ha c σ G H δ _ _ EV h fun d δ1 v G1 H1 h1 E1 e1 r1 => ?_
      refine hr G1 H1 x v d0 d _ _ E1.ex (rx.up e1) r1 h1 fun y u G2 H2 hy A ry => ?_
      exact k.nx _ G2 H2 _ hy ((E1.al A).put ry) (e1.trans A.g)
theorem iop_mulX {X : Cx} : PIp X .Mult (rI CMulX fun i j => .int (i * j)) := opI fun _ _ _ _ _ _ _ hc q => imul_int q hc.ok
theorem ds_augR (i : Nat) {X : Cx} {x : Str} {op : Operator} {r : R2} {rd : R2D} {e : Expr} {te : TE} {ue : DTE} {p pos : Pos} (hN : X.N.Nodup) (ho : PIp X op r) (hr : RO X.K r rd) (he : DE X e te ue) (hi : X.N[i]? = some x := by rfl) (hx : Loc X.env.scope x := by first | exact Or.inl rfl | exact Or.inr rfl)
    (hf : X.fn x = true ∨ X.env.scope.names.lookup x = some .local := by first | exact .inl rfl | exact .inr rfl | assumption) : DS X (.AugAssign (.Name x p) op e pos) (tAug i te r) (dAugR rd i ue) := ⟨ps_aug hN hi hx he.pe ho hf, rs_augR hr he.re⟩
end
end TL

set_option Elab.async false
set_option linter.all false
set_option maxRecDepth 100000
set_option maxHeartbeats 4000000
/-! TXi: calls of defs that may raise, a default left out, an argument by its name. -/
namespace TL
open PySem PySem.Spec PyProof.Rows L2

section
variable {K : PySem.W.Frag} {x qual : Str} {params : Arguments} {body : List Stmt} {scope : Scope} {dvs : List V} {f : Addr} {fd : FuncData} {ps : List Str}
/-- every parameter without default is given by place, the others by their names -/
theorem kbn_of (F : FunD K x qual params body scope dvs [] f fd) (n : Nat) (ks : List Str) (hd : dvs ≠ [])
    (h : ∀ (T : Addr) (kV doc pm : Value) (an : Option Addr) (cdv ct : Value) (us its ws : List Value), us.length = n → its.length = dvs.length → ws.length = ks.length →
      ∃ k, bindArgs (PySem.W.fnOf x qual params body scope (.ref T) kV doc pm an cdv ct) ⟨us, ks.zip ws⟩ = seqItems? (.ref T) >>= k ∧ k (some its.toArray) = pure (ps.zip (us ++ ws))) : KBn K fd ps n ks (fun us ws => us ++ ws) (fun vs zs => vs ++ zs) := by
  obtain ⟨oc, od, dV, kV, doc, pm, an, cdv, ct, osl, rfl, lk, hcd, hD, _⟩ := F.ex
  rcases hD with ⟨e, _⟩ | ⟨_, T, o, its, m, rfl, lT, oT, rT⟩
  · exact absurd e hd
  · refine ⟨fun z us ws Y l1 l2 => ?_, fun r1 r2 => r1.append r2⟩
    obtain ⟨k, e1, e2⟩ := h T kV doc pm an cdv ct us its ws l1 rT.length.symm l2
    refine BindsTo.of_looks fun M => ?_
    rw [e1]
    exact looks_items Y lT oT (.of_pure e2)
end
section
variable {X : Cx} {CX : CXT} {k n : Nat} {f : Addr} {fd : FuncData} {ps ks : List Str} {sp : Sp} {E : L2.St → XK} {x : Str} {p pos : Pos} {e : Expr} {es : List Expr} {kws : List Keyword} {t tk : TA} {g : List Value → List Value → List Value} {gV : List V → List V → List V}
/-- f(e, .., k = v, ..) -/
def tCallNS (n m : Nat) (sp : Sp) (gV : List V → List V → List V) (E : L2.St → XK) (t tk : TA) : TE := fun σ H Q => t σ H fun vs H1 => tk σ H1 fun zs H2 => vs.length = n ∧ zs.length = m ∧ sp (gV vs zs) H2 Q (E σ)
theorem run_fnNS {pins : List (Addr × Obj)} {σ : L2.St} {H : Hp} {z : Shared} {Q : VK} {us ws : List Value} {vs zs : List V} (F : FnOkG X.prog X.w X.K X.mg X.base CX k f fd ps sp) (hr : RoomG k X.A) (hb : KBn X.K fd ps n ks g gV) (hx : PassesAt CX X σ (E σ))
    (I : Inv X pins σ H z) (r : Vals vs us) (rz : Vals zs ws) (l1 : vs.length = n) (l2 : zs.length = ks.length) (h : sp (gV vs zs) H Q (E σ)) : wpAny (model X.prog X.w) X.A (call (.ref f) us (ks.zip ws)) (EP X pins σ Q) X.xe z := by
  have b := hb.to z us ws I.kIn (r.length.symm.trans l1) (rz.length.symm.trans l2)
  refine wpAny_call (codeAny_mono (F.run X.A X.stack z H _ _ _ Q (E σ) hr I.env0 b (hb.rel r rz) h) ?_)
  rintro (er | fl) z' hq
  · exact hx pins H z er z' I hq
  · cases fl <;> first
      | exact I.after hq
      | exact False.elim hq
theorem pe_callNS (F : FnOkG X.prog X.w X.K X.mg X.base CX k f fd ps sp) (hr : RoomG k X.A) (hg : Gl X x) (hm : X.mg x = some (.ref f)) (hk : PySem.W.keepIn X.K (.ref f) = true) (hb : KBn X.K fd ps n ks g gV) (hx : ∀ σ, PassesAt CX X σ (E σ))
    (ha : PA X (e :: es) t) (hkw : PK X kws tk) (hall : (backToKw pos (keywordEach kws X.env)).all (·.1.isSome) = true := by rfl) (hks : (backToKw pos (keywordEach kws X.env)).filterMap (·.1) = ks := by rfl)
    (hdb : (x == ("__debug__" : Str)) = false := by decide) (he : starEach (e :: es) X.env = (false, eval e X.env) :: starEach es X.env := by rfl)
    (hpl : ((backTo pos (starEach (e :: es) X.env)).any (·.1) || (backToKw pos (keywordEach kws X.env)).any (·.1.isNone)) = false := by rfl) :
    PE X (.Call (.Name x p) (e :: es) kws pos) (tCallNS n ks.length sp gV E t tk) := by
  constructor
  intro pins z σ H Q I h
  refine wpAny_Call_Name_kw (ld_glob I hg hm ?_ hdb)
  refine PySem.W.callWith_KW (h₀ := X.base) I.ok.mod.kin hk hall (thn (ha.run pos pins z σ H _ I h) ?_) hpl he
  rintro us z1 ⟨vs, H1, I1, r, q⟩
  refine thn (hkw.run pos pins z1 σ H1 _ I1 q) ?_
  rintro ws z2 ⟨zs, H2, I2, rz, l1, l2, q2⟩
  refine ⟨I2.kIn, ?_⟩
  rw [hks]
  exact run_fnNS F hr hb (hx σ) I2 r rz l1 l2 q2
end
theorem _root_.L2.Fun.any {K : PySem.W.Frag} {x qual : Str} {st : Stmt} {f : Addr} {fd : FuncData} (F : Fun K x qual st f fd) : FunA K x qual st f fd := by
  obtain ⟨oc, od, kV, doc, pm, an, cdv, ct, osl, h1, h2, h3⟩ := F.ex
  exact ⟨oc, od, .none, kV, doc, pm, an, cdv, ct, osl, h1, h2, h3⟩
/-- where nothing is let out -/
theorem takes_no {X : Cx} : Takes X XW0.w := fun _ _ h => by
  obtain ⟨_, _, _, _, _, _, _, _, _, _, _, _, _, _, _, _, y⟩ := h
  exact y.elim
theorem CAs.app {K : PySem.W.Frag} {G : Hp} {σ : L2.St} : ∀ {vs ws : List V} {cs es : List CA}, CAs K G σ vs cs → CAs K G σ ws es → CAs K G σ (vs ++ ws) (cs ++ es)
  | _, _, _, _, .nil, q => q
  | _, _, _, _, .d r t, q => .d r (CAs.app t q)
  | _, _, _, _, .s r t, q => .s r (CAs.app t q)
/-- a def that may raise, called without its last parameter, whose default is i -/
structure KnXd (P : Program) (w : World) (K : PySem.W.Frag) (mg : Str → Option Value) (base : Heap) (k : Nat) (x : Str) (i : Int) (S : DSx) : Prop where
  ex : ∃ (f : Addr) (fd : FuncData) (ps : List Str) (ds : List Value), FnOkG P w K mg base (L2.CX P w) k f fd ps (spX K S) ∧ mg x = some (.ref f) ∧ PySem.W.keepIn K (.ref f) = true ∧ Vals [V.int i] ds ∧ Binds K fd ps ds
/-- .. called with n by place and then one by the name y -/
structure KnXk (P : Program) (w : World) (K : PySem.W.Frag) (mg : Str → Option Value) (base : Heap) (k : Nat) (x : Str) (n : Nat) (y : Str) (S : DSx) : Prop where
  ex : ∃ (f : Addr) (fd : FuncData) (ps : List Str), FnOkG P w K mg base (L2.CX P w) k f fd ps (spX K S) ∧ mg x = some (.ref f) ∧ PySem.W.keepIn K (.ref f) = true ∧ KBn K fd ps n [y] (fun us ws => us ++ ws) (fun vs zs => vs ++ zs)
section
variable [XW] {K : PySem.W.Frag}
/-- the reading of a call with these arguments -/
def callX (S : DSx) (R : DQ) (cs : List CA) (δ1 : List Sl) : Prop := (muts δ1 cs).Nodup ∧ S (asOf δ1 cs 0) (fun d outs => outs.length = (muts δ1 cs).length ∧ R d (setOuts δ1 (muts δ1 cs) outs)) fun err outs => outs.length = (muts δ1 cs).length ∧ XW.xr err (setOuts δ1 (muts δ1 cs) outs)
theorem callX_ok {S : DSx} {c : Cf} {σ : L2.St} {G G1 H1 : Hp} {δ1 : List Sl} {cs : List CA} {vs : List V} {R : DQ} {Q : VK} (E1 : EnvOk K c G1 H1 σ δ1) (e1 : Ex G G1) (r1 : CAs K G1 σ vs cs) (h : callX S R cs δ1)
    (k : ∀ d δ' v G' H', R d δ' → EnvOk K c G' H' σ δ' → Ex G G' → Rp K G' v d → Q v H') : spX K S vs H1 Q (WE XW.w σ) := by
  obtain ⟨hn, hS⟩ := h
  refine ⟨calleeC σ (muts δ1 cs) G1 H1, asOf δ1 cs 0, _, _, rfl, rfl, callee_env E1 r1 hn, hS, fun d outs v G' H' hR F rv => ?_, fun err outs cls d G' H' hX F er => ?_⟩
  · exact k d _ v G' H' hR.2 (caller_back E1 hn hR.1 F) (e1.trans F.g0) rv
  · have EB := caller_back E1 hn hX.1 F
    exact EB.xw _ _ _ _ _ _ _ hX.2 EB.core er
def dCallXd (S : DSx) (i : Int) (ua : DCA) : DTE := fun δ R => ua δ fun cs δ1 => callX S R (cs ++ [.d (.int i)]) δ1
theorem re_callXd {S : DSx} {i : Int} {t : TA} {ua : DCA} (ha : RCA K t ua) : RE K (tCallSD (spX K S) [V.int i] (WE XW.w) t) (dCallXd S i ua) := by
  intro c σ G H δ Q R E h k
  refine ha c σ G H δ _ _ E h fun cs δ1 vs G1 H1 h1 E1 e1 r1 => ?_
  exact callX_ok E1 e1 (r1.app (.d (.int i) .nil)) h1 k
def dCallXk (S : DSx) (n : Nat) (ua : DCA) (uk : DTE) : DTE := fun δ R => ua δ fun cs δ1 => uk δ1 fun d δ2 => cs.length = n ∧ callX S R (cs ++ [.d d]) δ2
theorem re_callXk {S : DSx} {n : Nat} {t : TA} {ua : DCA} {tv : TE} {uv : DTE} (ha : RCA K t ua) (hv : RE K tv uv) : RE K (tCallNS n 1 (spX K S) (fun vs zs => vs ++ zs) (WE XW.w) t (tCons tv tNil)) (dCallXk S n ua uv) := by
  intro c σ G H δ Q R E h k
  refine ha c σ G H δ _ _ E h fun cs δ1 vs G1 H1 h1 E1 e1 r1 => ?_
  refine hv c σ G1 H1 δ1 _ _ E1 h1 fun d δ2 v G2 H2 h2 E2 e2 r2 => ?_
  obtain ⟨len, h2⟩ := h2
  refine ⟨by rw [r1.len, len], rfl, ?_⟩
  exact callX_ok E2 (e1.trans e2) ((r1.up e2).app (.d r2 .nil)) h2 k
theorem de_callXd {X : Cx} {x : Str} {i : Int} {S : DSx} {k j : Nat} {e : Expr} {es : List Expr} {tca : TA} {uca : DCA} {p pos : Pos} (tk : Takes X XW.w) (kn : KnXd X.prog X.w X.K X.mg X.base k x i S) (hr : RoomG j X.A) (hk : k ≤ j) (ha : DCa X (e :: es) tca uca) (hg : Gl X x := by rfl) (hdb : (x == ("__debug__" : Str)) = false := by decide)
    (he : starEach (e :: es) X.env = (false, eval e X.env) :: starEach es X.env := by rfl) (hpl : (backTo pos (starEach es X.env)).any (·.1) = false := by rfl) : DE X (.Call (.Name x p) (e :: es) [] pos) (tCallSD (spX X.K S) [V.int i] (WE XW.w) tca) (dCallXd S i uca) := by
  obtain ⟨f, fd, ps, ds, F, hm, kp, hv, b⟩ := kn.ex
  exact ⟨pe_callGS F (hr.mono hk) hg hm kp b hv (fun σ => passAt tk σ) ha.pa hdb he hpl, re_callXd ha.ra⟩
theorem de_callXk {X : Cx} {x y : Str} {n : Nat} {S : DSx} {k j : Nat} {e : Expr} {es : List Expr} {tca : TA} {uca : DCA} {p pos pk : Pos} {v : Expr} {tv : TE} {uv : DTE} {nm : Option Str} (tk : Takes X XW.w) (kn : KnXk X.prog X.w X.K X.mg X.base k x n y S) (hr : RoomG j X.A) (hk : k ≤ j) (ha : DCa X (e :: es) tca uca) (hv : DE X v tv uv) (hg : Gl X x := by rfl)
    (hall : (backToKw pos (keywordEach [⟨nm, v, pk⟩] X.env)).all (·.1.isSome) = true := by rfl) (hks : (backToKw pos (keywordEach [⟨nm, v, pk⟩] X.env)).filterMap (·.1) = [y] := by rfl) (hdb : (x == ("__debug__" : Str)) = false := by decide)
    (he : starEach (e :: es) X.env = (false, eval e X.env) :: starEach es X.env := by rfl) (hpl : ((backTo pos (starEach (e :: es) X.env)).any (·.1) || (backToKw pos (keywordEach [⟨nm, v, pk⟩] X.env)).any (·.1.isNone)) = false := by rfl) :
    DE X (.Call (.Name x p) (e :: es) [⟨nm, v, pk⟩] pos) (tCallNS n 1 (spX X.K S) (fun vs zs => vs ++ zs) (WE XW.w) tca (tCons tv tNil)) (dCallXk S n uca uv) := by
  obtain ⟨f, fd, ps, F, hm, kp, b⟩ := kn.ex
  exact ⟨pe_callNS F (hr.mono hk) hg hm kp b (fun σ => passAt tk σ) ha.pa (pk_cons hv.pe pk_nil) hall hks hdb he hpl, re_callXk ha.ra hv.re⟩
end
end TL

set_option Elab.async false
set_option linter.all false
set_option maxRecDepth 100000
set_option maxHeartbeats 4000000
/-! TXj: small things: targets and == within comprehensions; statements one by one; texts without end. -/
namespace TL
open PySem PySem.Spec L2
section
variable [XW]
theorem dg_tupI {X : Cx} {K : PySem.W.Frag} {es : List Expr} {pos : Pos} {gs : TGs} {ugs : DTGs} {js : List Nat} {k n : Nat} (hc : X.calm = true) (h : DGs X es gs ugs js) (hK : X.K = K := by rfl) (hn : (assignEach es X.env).length = n := by rfl) (hst : (assignEach es X.env).findIdx? (·.1) = none := by rfl) : DG X (.Tuple es k pos) (gTup K n gs) (dgTup n ugs) js := by
  subst hK
  exact dg_tup hc h hn hst
theorem dt_eqI {X : Cx} {K : PySem.W.Frag} {a b : Expr} {ta tb : TE} {ua ub : DTE} {pos : Pos} (hu : X.A.units + 64 < cLine) (ha : DE X a ta ua) (hb : DE X b tb ub) (hK : X.K = K := by rfl) (hm : lastMarks [CmpOp.Eq] [b] = false := by first | rfl | exact nomark _) :
    DT X (.Compare a [.Eq] [b] pos) (tTest (tOp (rEqD K) ta tb)) (dTest (dOp dEq ua ub)) := by
  subst hK
  exact dt_cmp (op_eqD hu) ro_eq hm ha hb
end
/-! ### where the context is bound: K told apart -/
theorem de_efI [XW] {X : Cx} {K : PySem.W.Frag} {e : Expr} {pos : Pos} {f : Str} {te : TE} {ue : DTE} (he : DE X e te ue) (hK : X.K = K := by rfl) (hb : attributeBase e f X.env (eval e X.env) = eval e X.env := by rfl) : DE X (.Attribute e f pos) (tEf K f te) (dEf K f ue) := by
  subst hK
  exact de_ef he hb
theorem de_isEI [XW] {X : Cx} {K : PySem.W.Frag} {e : Expr} {Tn : Str} {c : V} {cv : Value} {p p2 pos : Pos} {te : TE} {ue : DTE} (hm : X.mg "isinstance" = none) (he : DE X e te ue) (hc : PE X (.Name Tn p2) (tC c)) (hcv : ∀ u, RelV c u → u = cv) (hK : X.K = K := by rfl) (hg : Gl X "isinstance" := by rfl) (hb : bootBuiltins "isinstance" = some (.builtin "isinstance") := by decide +kernel)
    (hs : starEach [e, .Name Tn p2] X.env = (false, eval e X.env) :: starEach [.Name Tn p2] X.env := by rfl) (hs2 : starEach [.Name Tn p2] X.env = (false, eval (.Name Tn p2) X.env) :: starEach [] X.env := by rfl) (hpl : (backTo pos (starEach [.Name Tn p2] X.env)).any (·.1) = false := by rfl) :
    DE X (.Call (.Name "isinstance" p) [e, .Name Tn p2] [] pos) (tCB (rIsEr K) (tCons te (tCons (tC c) tNil))) (dIsE K cv ue) := by
  subst hK
  exact de_isE hm he hc hcv hg hb hs hs2 hpl
theorem de_callXI [XW] {X : Cx} {K : PySem.W.Frag} {x : Str} {S : DSx} {k j : Nat} {e : Expr} {es : List Expr} {tca : TA} {uca : DCA} {p pos : Pos} (tk : Takes X XW.w) (kn : KnX X.prog X.w X.K X.mg X.base k x S) (hr : RoomG j X.A) (hk : k ≤ j) (ha : DCa X (e :: es) tca uca) (hK : X.K = K := by rfl) (hg : Gl X x := by rfl) (hdb : (x == ("__debug__" : Str)) = false := by decide)
    (he : starEach (e :: es) X.env = (false, eval e X.env) :: starEach es X.env := by rfl) (hpl : (backTo pos (starEach es X.env)).any (·.1) = false := by rfl) : DE X (.Call (.Name x p) (e :: es) [] pos) (tCallSD (spX K S) [] (WE XW.w) tca) (dCallX S uca) := by
  subst hK
  exact de_callX tk kn hr hk ha hg hdb he hpl
theorem dcat_c [XW] {X : Cx} {x n : Str} {c : Value} {suite : List Stmt} {b₀ : Stmt} {np pos' : Pos} {ts : TS} {us : DTS} {wh : Ends → WX} {hs : List ExceptHandler} {hx : DEnds → PyData → List Sl → Prop} (i : Nat) (hN : X.N.Nodup) (hc : Names X x c) (hsu : ∀ (a : Addr) (pn : List (Addr × Obj)), DSs (X.suite a pn) (b₀ :: suite) ts us) (hr : DCat X hs wh hx)
    (hst : X.stack = X.env :: X.outer := by rfl) (hi : X.N[i]? = some n := by rfl) (hln : X.env.kindOf n = some .local := by rfl) : DCat X (.ExceptHandler (some (.Name x np)) (some n) (b₀ :: suite) pos' :: hs) (wCat X.K c i ts wh) (hxCat X.K c i us hx) := dcat_cons hst hN hi hln hc hsu hr
theorem sq_if {c : DTT} {a rest : DTS} {E : DEnds} {δ : List Sl} (h : c δ fun b δ1 => if b = true then a { E with nx := rest E } δ1 else rest E δ1) : dSeq (dIfS c a dNext) rest E δ := h
theorem sq_asg {u : DTE} {g : DTG} {rest : DTS} {E : DEnds} {δ : List Sl} (h : u δ fun d δ1 => g d δ1 (rest E)) : dSeq (dAsg u g) rest E δ := h
theorem sq_drop {u : DTE} {rest : DTS} {E : DEnds} {δ : List Sl} (h : u δ fun _ δ1 => rest E δ1) : dSeq (dDrop u) rest E δ := h
end TL

set_option Elab.async false
set_option linter.all false
set_option maxRecDepth 100000
set_option maxHeartbeats 4000000
/-! TXn: an error of a class of one's own is made as a value (it is given to a name, not raised). -/
namespace TL
open PySem PySem.Spec PyProof.Rows L2

/-- C(..), a value -/
def tMkV (C : Addr) (fields : List Str) (ta : TA) : TE := fun σ H Q => ta σ H fun vs H1 => vs.length = fields.length ∧ vs.length ≤ 1000 ∧
  ∀ a d, H1 a = none → H1 d = none → d ≠ a → Q (.ref a) (upd (upd H1 d (.xd (fields.zip vs).reverse)) a (errO a C (some d)))
section
variable {X : Cx} {pins : List (Addr × Obj)} {σ : L2.St} {H H1 : Hp} {z : Shared} {a C dx : Addr} {fs : List (Str × V)}
/-- what was laid step by step is from here on an error of ours -/
theorem err_of (I : Inv X pins σ H z) (ea : H a = some (exo a C (some dx))) (ed : H dx = some (exd dx fs)) (ne : dx ≠ a) (q : ∀ b, b ≠ a → b ≠ dx → H b = H1 b) :
    Inv X pins σ (upd (upd H1 dx (.xd fs)) a (errO a C (some dx))) z := by
  obtain ⟨t1, ho⟩ := exo_at I.hok ea
  have hx : ObjOk X.prog X.w H z.heap dx (exd dx fs) := I.hok dx _ ed
  obtain ⟨mA, ns, hr⟩ := exd_at I.hok ed
  have hd : ∃ o, z.heap.get? dx = some o := by
    obtain ⟨o, _, _, w, _⟩ := ns
    exact ⟨o, w⟩
  obtain ⟨hp, gs, dr, tk, ops⟩ := z
  have I1 := I.write (t' := tk) (x := dx) (e := dx) (o := .xd fs) (h' := hp) (by rw [ed]; exact True.intro) (.inl rfl) (fun b u _ w => w) hd ⟨mA, ns, hr⟩
  have e1 : upd H dx (.xd fs) a = some (exo a C (some dx)) := by rw [upd_ne ne.symm, ea]
  have I2 := I1.write (t' := tk) (x := a) (e := a) (o := errO a C (some dx)) (h' := hp) (by rw [e1]; exact True.intro) (.inl rfl) (fun b u _ w => w) ⟨_, ho⟩ (errO_ok ho rfl rfl rfl)
  have eq : upd (upd H dx (.xd fs)) a (errO a C (some dx)) = upd (upd H1 dx (.xd fs)) a (errO a C (some dx)) := by
    funext b
    by_cases ba : b = a
    · rw [ba, upd_same, upd_same]
    · rw [upd_ne ba, upd_ne ba]
      by_cases bd : b = dx
      · rw [bd, upd_same, upd_same]
      · rw [upd_ne bd, upd_ne bd, q b ba bd]
  rw [eq] at I2
  exact I2
end
section
variable {X : Cx} {x : Str} {C : Addr} {fields : List Str} {e : Expr} {es : List Expr} {ta : TA} {p pos : Pos}
theorem pe_mkV {k : Nat} (kn : KnE X.prog X.w X.K X.mg X.base x C fields) (hr : RoomG (k + 2) X.A) (hg : Gl X x) (ha : PA X (e :: es) ta)
    (hdb : (x == ("__debug__" : Str)) = false := by decide) (he : starEach (e :: es) X.env = (false, eval e X.env) :: starEach es X.env := by rfl) (hpl : (backTo pos (starEach es X.env)).any (·.1) = false := by rfl) :
    PE X (.Call (.Name x p) (e :: es) [] pos) (tMkV C fields ta) := by
  constructor
  intro pins σ0 σ H Q I h
  obtain ⟨fI, fd, ps, CX, iC, tI, F1, hb, hx⟩ := kn.ini
  have T := kn.ec
  obtain ⟨newId, B, bmB, FB, _, qi, _⟩ := T.base
  refine wpAny_Call_Name_kw (ld_glob I hg kn.at_ ?_ hdb)
  refine PySem.W.callWith_K (h₀ := X.base) I.ok.mod.kin T.kp (thn (ha.run pos pins σ0 σ H _ I h) fun us z1 ⟨vs, H1, I1, r1, len, hz, q1⟩ => ⟨I1.kIn, ?_⟩) he hpl
  obtain ⟨hp, gs, dr, tk, ops⟩ := z1
  obtain ⟨nm, N, qn, bs, bm, hdct, sn, sub, ab, col, dd, k0, k1, k2, k3, k5, hC, hT⟩ := PySem.W.excInit_of I1.kIn qi
  have one : hp.objs.size ≤ hp.objs.size + 1 := Nat.le_succ _
  generalize hE : hp.objs.size + 1 = a at one
  have hn : H1 a = none := I1.hok.fresh one
  have keep : ∀ b o, hp.get? b = some o → ((hp.push (PySem.W.kdv_tup us)).push (PySem.HandSPX.excO C hp.objs.size)).get? b = some o := fun b o w => Heap.get?_push_of_some _ (Heap.get?_push_of_some _ w)
  have at_a : ((hp.push (PySem.W.kdv_tup us)).push (PySem.HandSPX.excO C hp.objs.size)).get? a = some (PySem.HandSPX.excO C hp.objs.size) := by
    subst hE
    heap_get
  have I2 : Inv X pins σ (upd H1 a (exo a C none)) ⟨(hp.push (PySem.W.kdv_tup us)).push (PySem.HandSPX.excO C hp.objs.size), gs, dr, tk, ops⟩ := I1.laid (t' := tk) (a := a) (o := exo a C none) keep one (exo_ok at_a)
  have rel : Vals (V.ref a :: vs) (Value.ref a :: us) := .cons rfl r1
  have hlen := Paired.length r1
  have hus : us.length ≤ sizeLine := by
    rw [← hlen, sizeLine_eq]
    omega
  have sp : spInit C fields (V.ref a :: vs) (upd H1 a (exo a C none))
      (fun v H2 => v = .non ∧ ∃ dx : Addr, H2 a = some (exo a C (some dx)) ∧ H2 dx = some (exd dx (fields.zip vs).reverse) ∧ H1 dx = none ∧ dx ≠ a ∧ ∀ b, b ≠ a → b ≠ dx → H2 b = H1 b) (fun _ _ _ => False) := by
    refine ⟨a, vs, rfl, len, upd_same, fun dx H2 n1 n2 e1 e2 e3 => ⟨rfl, dx, e1, e2, ?_, n2, fun b b1 b2 => ?_⟩⟩
    · rw [upd_ne n2] at n1
      exact n1
    · rw [e3 b b1 b2, upd_ne b1]
  have lenP : (Value.ref a :: us ++ []).length = ps.length := by
    rw [List.append_nil, ← F1.len _ _ _ _ sp, List.length_cons, List.length_cons, hlen]
  have bnd := hb _ (Value.ref a :: us) I2.kIn lenP
  rw [List.append_nil] at bnd
  subst hE
  refine wpAny_call (TXE.kw_call (kw := []) FB hT hC (PySem.W.looks_findIn I1.kIn iC) (fun self => PySem.W.bind_fn I1.kIn self tI) hus
    (codeAny_mono (F1.run _ X.stack _ _ ⟨Value.ref (hp.objs.size + 1) :: us, []⟩ (Value.ref (hp.objs.size + 1) :: us) _ _ (fun _ _ _ => False) ((hr.make C us []).mono (by omega)) (I2.env0.make C us []) bnd rel sp) ?_))
  rintro (er | fl) z' hq
  · exact hx X rfl rfl pins σ _ _ er z' I2 hq
  · cases fl with
    | ret u =>
      obtain ⟨v, H3, I3, rv, rfl, dx, ea, ed, hd1, ne, q2⟩ := I2.after hq
      refine ⟨rv, ?_⟩
      exact ⟨.ref (hp.objs.size + 1), _, err_of I3 ea ed ne q2, rfl, q1 (hp.objs.size + 1) dx hn hd1 ne⟩
    | next => exact False.elim hq
    | brk => exact False.elim hq
    | cont => exact False.elim hq
end
section
variable [XW] {K : PySem.W.Frag}
/-- C(..), a datum -/
def dMkV (C : Addr) (fields : List Str) (ua : DTA) : DTE := fun δ R => ua δ fun ds δ1 => ds.length = fields.length ∧ fields.length ≤ 1000 ∧ R (errD C fields.reverse ds.reverse) δ1
theorem re_mkV {C : Addr} {fields : List Str} {ta : TA} {ua : DTA} (ha : RA K ta ua) : RE K (tMkV C fields ta) (dMkV C fields ua) := by
  intro c σ G H δ Q R EV h k
  refine ha c σ G H δ _ _ EV h fun ds δ1 vs G1 H1 h1 E1 e1 r1 => ?_
  obtain ⟨len, big, hR⟩ := h1
  have len1 := r1.len
  refine ⟨by rw [len1, len], by omega, fun a d na nd ne => ?_⟩
  have A1 := Al.new (o := .xd (fields.zip vs).reverse) E1.ex nd
  have E2 := E1.al A1
  have na2 : upd H1 d (.xd (fields.zip vs).reverse) a = none := by rw [upd_ne ne.symm, na]
  have A2 := Al.new (o := errO a C (some d)) E2.ex na2
  have E3 := E2.al A2
  refine k _ δ1 _ _ _ hR E3 ((e1.trans A1.g).trans A2.g) (.err upd_same (?_ : _ = some (HO.xd (fields.zip vs).reverse)) (zip_rev (by rw [len1, len])) ((r1.rev.up A1.g).up A2.g) ?_)
  · rw [upd_ne ne, upd_same]
  · rw [List.length_reverse, List.length_reverse, len]
theorem de_mkV {X : Cx} {x : Str} {C : Addr} {fields : List Str} {e : Expr} {es : List Expr} {ta : TA} {ua : DTA} {p pos : Pos} {j : Nat} (kn : KnE X.prog X.w X.K X.mg X.base x C fields) (hr : RoomG j X.A) (hk : 2 ≤ j) (ha : DA X (e :: es) ta ua) (hg : Gl X x := by rfl)
    (hdb : (x == ("__debug__" : Str)) = false := by decide) (he : starEach (e :: es) X.env = (false, eval e X.env) :: starEach es X.env := by rfl) (hpl : (backTo pos (starEach es X.env)).any (·.1) = false := by rfl) :
    DE X (.Call (.Name x p) (e :: es) [] pos) (tMkV C fields ta) (dMkV C fields ua) :=
  ⟨pe_mkV (k := 0) kn (hr.mono hk) hg ha.pa hdb he hpl, re_mkV ha.ra⟩
end
end TL

set_option Elab.async false
set_option linter.all false
set_option maxRecDepth 100000
set_option maxHeartbeats 4000000
/-! TXo: what the built-in KeyError is, as a base of own errors. -/
namespace TL
open PySem PySem.Spec PyProof.Rows

theorem key_store : StoreFacts "KeyError" [.type "KeyError", .type "LookupError", .type "Exception", .type "BaseException", .type "object"] "object.__setattr__" "object" where
  kind := by decide +kernel
  split := by decide +kernel
  hasOwner := by decide +kernel
  entry := PySem.F.entry_object_sa
  mro := by kernel_rfl
  slot := .of (owner := "object") (n := "__setattr__") (by rw [typeLookup_type, builtinLookup_eq_fast]; kernel_rfl) (by decide +kernel) (by decide +kernel) (by decide +kernel)
    (by first | exact .inl (by decide +kernel) | exact .inr (by decide +kernel)) (by rw [isSubtype_type]; kernel_rfl)
  args := fun _ _ _ => by unfold argsOk; kernel_rfl
  passes := fun _ => by kernel_rfl
theorem key_new : TXE.NewOver "LookupError.__new__" [.type "KeyError", .type "LookupError", .type "Exception", .type "BaseException", .type "object"] :=
  ⟨"LookupError", _, _, PySem.F.excBase_LookupError, by decide +kernel, by decide +kernel, by decide +kernel⟩
end TL

set_option Elab.async false
set_option linter.all false
set_option maxRecDepth 100000
set_option maxHeartbeats 4000000
/-! TXq: errors made as values by the names of their fields; errors of classes without __init__. -/
namespace TL
open PySem PySem.Spec PyProof.Rows L2

/-- names given last field first: what the keywords bring, in the fields' order -/
def tRev (t : TA) : TA := fun σ H Q => t σ H fun vs H1 => Q vs.reverse H1
/-- the class x, called by the names of its fields, the last field first -/
structure KnEk (P : Program) (w : World) (K : PySem.W.Frag) (mg : Str → Option Value) (base : Heap) (x : Str) (C : Addr) (fields : List Str) : Prop where
  ec : ErrC K C
  at_ : mg x = some (.ref C)
  ini : ∃ (fI : Addr) (fd : FuncData) (ps : List Str) (CX : CXT), PySem.W.findIn K (.ref C) "__init__" = some (some (.ref fI)) ∧ PySem.W.typeIn K (.ref fI) = some (.type "function") ∧ FnOkG P w K mg base CX 1 fI fd ps (spInit C fields) ∧
    KBn K fd ps 1 fields.reverse (fun us ws => us ++ ws.reverse) (fun vs zs => vs ++ zs.reverse) ∧ ∀ X : Cx, X.prog = P → X.w = w → Passes CX X (fun _ _ _ => False)
/-- parameters without defaults, given by their names from the last -/
theorem kbn_rev {K : PySem.W.Frag} {x qual : Str} {st : Stmt} {f : Addr} {fd : FuncData} {ps : List Str} (F : Fun K x qual st f fd) (ks : List Str)
    (h : ∀ (kV doc pm : Value) (an : Option Addr) (cdv ct : Value) (us ws : List Value), us.length = 1 → ws.length = ks.length →
      bindArgs (PySem.W.fnOf x qual (defArgs st) (defBody st) (defScope st) .none kV doc pm an cdv ct) ⟨us, ks.zip ws⟩ = pure (ps.zip (us ++ ws.reverse))) : KBn K fd ps 1 ks (fun us ws => us ++ ws.reverse) (fun vs zs => vs ++ zs.reverse) := by
  obtain ⟨oc, od, kV, doc, pm, an, cdv, ct, osl, rfl, lk, hcd⟩ := F.ex
  refine ⟨fun s us ws _ l1 l2 => .of_eq (h kV doc pm an cdv ct us ws l1 l2), fun r1 r2 => r1.append ?_⟩
  induction r2 with
  | nil => exact .nil
  | cons q _ ih =>
    rw [List.reverse_cons, List.reverse_cons]
    exact ih.append (.cons q .nil)
section
variable {X : Cx} {x : Str} {C : Addr} {fields : List Str} {kws : List Keyword} {tk : TA} {p pos : Pos}
theorem pe_mkK {k : Nat} (kn : KnEk X.prog X.w X.K X.mg X.base x C fields) (hr : RoomG (k + 2) X.A) (hg : Gl X x) (hk : PK X kws tk)
    (hall : (backToKw pos (keywordEach kws X.env)).all (·.1.isSome) = true := by rfl) (hks : (backToKw pos (keywordEach kws X.env)).filterMap (·.1) = fields.reverse := by rfl)
    (hdb : (x == ("__debug__" : Str)) = false := by decide) (hpl : ((backTo pos (starEach [] X.env)).any (·.1) || (backToKw pos (keywordEach kws X.env)).any (·.1.isNone)) = false := by rfl) :
    PE X (.Call (.Name x p) [] kws pos) (tMkV C fields (tRev tk)) := by
  constructor
  intro pins σ0 σ H Q I h
  obtain ⟨fI, fd, ps, CX, iC, tI, F1, hb, hx⟩ := kn.ini
  have T := kn.ec
  obtain ⟨newId, B, bmB, FB, _, qi, _⟩ := T.base
  refine wpAny_Call_Name_kw (ld_glob I hg kn.at_ ?_ hdb)
  refine PySem.W.callWith_KW0 (h₀ := X.base) I.ok.mod.kin T.kp hall (thn (hk.run pos pins σ0 σ H _ I h) fun ws z1 ⟨zs, H1, I1, r1, len, hz, q1⟩ => ⟨I1.kIn, ?_⟩) hpl
  rw [hks]
  show wpAny _ _ (call (.ref C) [] (fields.reverse.zip ws)) _ _ _
  obtain ⟨hp, gs, dr, tk', ops⟩ := z1
  obtain ⟨nm, N, qn, bs, bm, hdct, sn, sub, ab, col, dd, k0, k1, k2, k3, k5, hC, hT⟩ := PySem.W.excInit_of I1.kIn qi
  have one : hp.objs.size ≤ hp.objs.size + 1 := Nat.le_succ _
  generalize hE : hp.objs.size + 1 = a at one
  have hn : H1 a = none := I1.hok.fresh one
  have keep : ∀ b o, hp.get? b = some o → ((hp.push (PySem.W.kdv_tup [])).push (PySem.HandSPX.excO C hp.objs.size)).get? b = some o := fun b o w => Heap.get?_push_of_some _ (Heap.get?_push_of_some _ w)
  have at_a : ((hp.push (PySem.W.kdv_tup [])).push (PySem.HandSPX.excO C hp.objs.size)).get? a = some (PySem.HandSPX.excO C hp.objs.size) := by
    subst hE
    heap_get
  have I2 : Inv X pins σ (upd H1 a (exo a C none)) ⟨(hp.push (PySem.W.kdv_tup [])).push (PySem.HandSPX.excO C hp.objs.size), gs, dr, tk', ops⟩ := I1.laid (t' := tk') (a := a) (o := exo a C none) keep one (exo_ok at_a)
  have rel : Vals (V.ref a :: zs.reverse) (Value.ref a :: ws.reverse) := hb.rel (vs := [V.ref a]) (us := [Value.ref a]) (.cons rfl .nil) r1
  have lzw : zs.length = ws.length := Paired.length r1
  have lf : ws.length = fields.reverse.length := by rw [← lzw, List.length_reverse, ← len, List.length_reverse]
  have sp : spInit C fields (V.ref a :: zs.reverse) (upd H1 a (exo a C none))
      (fun v H2 => v = .non ∧ ∃ dx : Addr, H2 a = some (exo a C (some dx)) ∧ H2 dx = some (exd dx (fields.zip zs.reverse).reverse) ∧ H1 dx = none ∧ dx ≠ a ∧ ∀ b, b ≠ a → b ≠ dx → H2 b = H1 b) (fun _ _ _ => False) := by
    refine ⟨a, zs.reverse, rfl, len, upd_same, fun dx H2 n1 n2 e1 e2 e3 => ⟨rfl, dx, e1, e2, ?_, n2, fun b b1 b2 => ?_⟩⟩
    · rw [upd_ne n2] at n1
      exact n1
    · rw [e3 b b1 b2, upd_ne b1]
  have bnd := hb.to _ [Value.ref a] ws I2.kIn rfl lf
  subst hE
  refine wpAny_call (TXE.kw_call (kw := fields.reverse.zip ws) FB hT hC (PySem.W.looks_findIn I1.kIn iC) (fun self => PySem.W.bind_fn I1.kIn self tI) (by show 0 ≤ sizeLine; omega)
    (codeAny_mono (F1.run _ X.stack _ _ ⟨[Value.ref (hp.objs.size + 1)], fields.reverse.zip ws⟩ (Value.ref (hp.objs.size + 1) :: ws.reverse) _ _ (fun _ _ _ => False) ((hr.make C [] (fields.reverse.zip ws)).mono (by omega)) (I2.env0.make C [] (fields.reverse.zip ws)) bnd rel sp) ?_))
  rintro (er | fl) z' hq
  · exact hx X rfl rfl pins σ _ _ er z' I2 hq
  · cases fl with
    | ret u =>
      obtain ⟨v, H3, I3, rv, rfl, dx, ea, ed, hd1, ne, q2⟩ := I2.after hq
      exact ⟨rv, .ref (hp.objs.size + 1), _, err_of I3 ea ed ne q2, rfl, q1 (hp.objs.size + 1) dx hn hd1 ne⟩
    | next => exact False.elim hq
    | brk => exact False.elim hq
    | cont => exact False.elim hq
end
/-- the class x without an __init__ of its own -/
structure KnE0 (K : PySem.W.Frag) (mg : Str → Option Value) (x : Str) (C : Addr) : Prop where
  ec : ErrC K C
  at_ : mg x = some (.ref C)
  ini : ∃ (B newId initId : String) (bmB : List Value), ExcBaseFacts B newId initId bmB ∧ PySem.W.excIn K C bmB newId = true
def tMk0 (C : Addr) : TE := fun _ H Q => ∀ a, H a = none → Q (.ref a) (upd H a (errO a C none))
theorem pe_mk0 {X : Cx} {x : Str} {C : Addr} {p pos : Pos} (kn : KnE0 X.K X.mg x C) (hg : Gl X x) (hdb : (x == ("__debug__" : Str)) = false := by decide) : PE X (.Call (.Name x p) [] [] pos) (tMk0 C) := by
  constructor
  intro pins σ0 σ H Q I h
  obtain ⟨B, newId, initId, bmB, F, q⟩ := kn.ini
  refine wpAny_Call_Name_kw (ld_glob I hg kn.at_ ?_ hdb)
  refine PySem.W.callWith_K0 I.kIn kn.ec.kp ?_
  show wpAny _ _ (call (.ref C) []) _ _ _
  obtain ⟨bm, N, nm, qn, bs, hdct, sn, sub, ab, col, dd, k0, k1, k2, k3, k5, mN, hC, hN, hni, T⟩ := exc_obj I.kIn q
  refine wpAny_call_exc_subT F T hC hN hni (fun h' e hm => ?_) (by show 0 ≤ sizeLine; omega)
  obtain ⟨t, he, _, _⟩ := hm.there
  have he' := I.hok.gone hm.new
  exact ⟨.ref e, _, I.laidN (h' := h') hm.keeps hm.new he' (errO_ok he rfl rfl rfl), rfl, h e he'⟩
section
variable [XW] {K : PySem.W.Frag}
def dRev (u : DTA) : DTA := fun δ R => u δ fun ds δ1 => R ds.reverse δ1
theorem ra_rev {t : TA} {u : DTA} (h : RA K t u) : RA K (tRev t) (dRev u) := by
  intro c σ G H δ Q R E hu k
  exact h c σ G H δ _ _ E hu fun ds δ' vs G' H' hR E' e' r' => k _ δ' _ G' H' hR E' e' r'.rev
/-- keywords' values, by data -/
structure DK (X : Cx) (kws : List Keyword) (t : TA) (u : DTA) : Prop where
  pk : PK X kws t
  ra : RA X.K t u
theorem dk_nil {X : Cx} : DK X [] tNil dNil := ⟨pk_nil, ra_nil⟩
theorem dk_cons {X : Cx} {nm : Option Str} {e : Expr} {kpos : Pos} {kws : List Keyword} {te : TE} {ue : DTE} {t : TA} {u : DTA} (h : DE X e te ue) (r : DK X kws t u) : DK X (⟨nm, e, kpos⟩ :: kws) (tCons te t) (dCons ue u) := ⟨pk_cons h.pe r.pk, ra_cons h.re r.ra⟩
theorem de_mkK {X : Cx} {x : Str} {C : Addr} {fields : List Str} {kws : List Keyword} {t : TA} {u : DTA} {p pos : Pos} {j : Nat} (kn : KnEk X.prog X.w X.K X.mg X.base x C fields) (hr : RoomG j X.A) (hj : 2 ≤ j) (hk : DK X kws t u) (hg : Gl X x := by rfl)
    (hall : (backToKw pos (keywordEach kws X.env)).all (·.1.isSome) = true := by rfl) (hks : (backToKw pos (keywordEach kws X.env)).filterMap (·.1) = fields.reverse := by rfl)
    (hdb : (x == ("__debug__" : Str)) = false := by decide) (hpl : ((backTo pos (starEach [] X.env)).any (·.1) || (backToKw pos (keywordEach kws X.env)).any (·.1.isNone)) = false := by rfl) :
    DE X (.Call (.Name x p) [] kws pos) (tMkV C fields (tRev t)) (dMkV C fields (dRev u)) :=
  ⟨pe_mkK (k := 0) kn (hr.mono hj) hg hk.pk hall hks hdb hpl, re_mkV (ra_rev hk.ra)⟩
def dMk0 (C : Addr) : DTE := fun δ R => R (errD C [] []) δ
theorem re_mk0 {C : Addr} : RE K (tMk0 C) (dMk0 C) := by
  intro c σ G H δ Q R E h k a na
  have A1 := Al.new (o := errO a C none) E.ex na
  exact k _ δ _ _ _ h (E.al A1) A1.g (.err0 upd_same)
theorem de_mk0 {X : Cx} {x : Str} {C : Addr} {p pos : Pos} (kn : KnE0 X.K X.mg x C) (hg : Gl X x := by rfl) (hdb : (x == ("__debug__" : Str)) = false := by decide) : DE X (.Call (.Name x p) [] [] pos) (tMk0 C) (dMk0 C) := ⟨pe_mk0 kn hg hdb, re_mk0⟩
end
end TL

set_option Elab.async false
set_option linter.all false
set_option maxRecDepth 100000
set_option maxHeartbeats 4000000
/-! TXs: data held against data where only the lesser depth is bounded. -/
namespace TL
open PySem PySem.Spec L2
variable [XW]
/-- ==, != where one of both may be as deep as it likes -/
def rEqW (K : PySem.W.Frag) (neg : Bool) : R2 := fun a b Hp1 Q1 => ∃ da db, (Dp K Hp1 a da ∧ Dp K Hp1 b db) ∧ (da.canLay0 = true ∧ db.canLay0 = true ∧ min da.depth db.depth ≤ 64) ∧ Q1 (.bl (if neg = true then !(PyData.eqv da db) else PyData.eqv da db)) Hp1
theorem op_eqW {X : Cx} (neg : Bool) (roomy : X.A.units + 64 < cLine) : OpR X (compareOp (if neg = true then .NotEq else .Eq)) (rEqW X.K neg) := by
  rintro pins z σ G1 a b va vb Q1 J ra rb ⟨da, db, ⟨ha, hb⟩, ⟨ca, cb, dep⟩, fin⟩
  obtain ⟨_, one⟩ := Dp.reads J da a va ha ra
  obtain ⟨_, two⟩ := Dp.reads J db b vb hb rb
  cases neg with
  | true => exact SeqAt.compareNe_reads one two ca cb (by omega) ⟨.bl _, G1, J, rfl, fin⟩
  | false => exact SeqAt.compareEq_reads one two ca cb (by omega) ⟨.bl _, G1, J, rfl, fin⟩
def dEqW (neg : Bool) : R2D := fun d1 d2 R => (d1.canLay0 = true ∧ d2.canLay0 = true ∧ min d1.depth d2.depth ≤ 64) ∧ R (.bool (if neg = true then !(PyData.eqv d1 d2) else PyData.eqv d1 d2))
theorem ro_eqW {K : PySem.W.Frag} (neg : Bool) : RO K (rEqW K neg) (dEqW neg) := by
  intro G H x y d1 d2 Q R e r1 r2 h k
  obtain ⟨⟨h1, h2, h3⟩, h4⟩ := h
  exact ⟨d1, d2, ⟨Rp.dp d1 x (r1.up e) h1, Rp.dp d2 y (r2.up e) h2⟩, ⟨h1, h2, h3⟩, k _ _ G H h4 (Al.refl e) (.bl _)⟩
/-- x in a tuple, the like -/
def rInW (K : PySem.W.Frag) : R2 := fun a b Hp1 Q1 => ∃ da ds, (Dp K Hp1 a da ∧ Dp K Hp1 b (.tuple ds)) ∧ (da.canLay0 = true ∧ PyData.canLayAll0 ds = true ∧ min (PyData.depthAll ds) da.depth ≤ 64) ∧ Q1 (.bl (ds.any fun y => PyData.eqv y da)) Hp1
theorem op_inW {X : Cx} (roomy : X.A.units + 65 < cLine) : OpR X (compareOp .In) (rInW X.K) := by
  rintro pins z σ G1 a b va vb Q1 J ra rb ⟨da, ds, ⟨ha, hb⟩, ⟨ca, cb, dep⟩, fin⟩
  obtain ⟨_, one⟩ := Dp.reads J da a va ha ra
  obtain ⟨_, two⟩ := Dp.reads J (.tuple ds) b vb hb rb
  exact SeqAt.in_tuple_reads two one cb ca (by omega) ⟨.bl _, G1, J, rfl, fin⟩
def dInW : R2D := fun d1 d2 R => match d2 with
  | .tuple ds => (d1.canLay0 = true ∧ PyData.canLayAll0 ds = true ∧ min (PyData.depthAll ds) d1.depth ≤ 64) ∧ R (.bool (ds.any fun y => PyData.eqv y d1))
  | _ => False
theorem ro_inW {K : PySem.W.Frag} : RO K (rInW K) dInW := by
  intro G H x y d1 d2 Q R e r1 r2 h k
  cases d2 <;> first
    | exact False.elim h
    | skip
  rename_i ds
  obtain ⟨⟨h1, h2, h3⟩, h4⟩ := h
  exact ⟨d1, ds, ⟨Rp.dp d1 x (r1.up e) h1, Rp.dp (.tuple ds) y (r2.up e) (by simpa [PyData.canLay0] using h2)⟩, ⟨h1, h2, h3⟩, k _ _ G H h4 (Al.refl e) (.bl _)⟩
end TL

set_option Elab.async false
set_option linter.all false
set_option maxRecDepth 100000
set_option maxHeartbeats 4000000
/-! TYs: a set whose things are tuples of ints and texts (fewer than 64): membership, adding. -/
namespace TL
open PySem PySem.Spec PyProof.Rows L2
section
variable {P : Program} {w : World} {κ : Type} [DecidableEq κ] {kd : KeyKind P w κ} {A : Around} {E : Value → Shared → Prop} {s : Shared}
/-- keys that are no classes, and whose hash is told without a say of their own -/
structure Dull (kd : KeyKind P w κ) : Prop where
  cls : ∀ (n : Nat) {k : κ} {v : Value}, kd.is k v = true → ofAClassStatement n v = pure false
  byv : ∀ (n : Nat) {k : κ} {v : Value}, kd.is k v = true → ∃ b, hashByValue n v = pure b
theorem dull_mix : Dull (mixKind P w) where
  cls := fun n {k v} h => by
    rcases keyIs_shape (show keyIs k v = true from h) with ⟨i, t, _, rfl⟩ | ⟨x, t, _, rfl⟩ <;> cases n <;> rfl
  byv := fun n {k v} h => by
    rcases keyIs_shape (show keyIs k v = true from h) with ⟨i, t, _, rfl⟩ | ⟨x, t, _, rfl⟩
    · exact ⟨true, by cases n <;> rfl⟩
    · exact ⟨false, by cases n <;> rfl⟩
theorem Dull.items (d : Dull kd) {ks : List κ} {vs : List Value} (h : ItemsAre kd ks vs) : ∀ v ∈ vs, (∀ n, ofAClassStatement n v = pure false) ∧ ∀ n, ∃ b, hashByValue n v = pure b := by
  induction h with
  | nil => exact fun v hv => (List.not_mem_nil hv).elim
  | cons q _ ih =>
    intro v hv
    rcases List.mem_cons.mp hv with e | hv
    · subst e
      exact ⟨fun n => d.cls n q, fun n => d.byv n q⟩
    · exact ih v hv
theorem Dull.no_cls (d : Dull kd) {ks : List κ} {b : Addr} {Q : Bool → Shared → Prop} (hb : IsTupleKey kd s.heap ks b) (q : Q false s) : wpAny (model P w) A (ofAClassStatement 8 (.ref b)) Q E s := by
  have ty := hb.typeIs
  obtain ⟨ob, its, ep, h1, _, h3, h4⟩ := hb
  unfold ofAClassStatement
  refine wpAny_bind (wpAny_typeOf ty ?_)
  dsimp only
  simp only [show (("tuple" : String) == "tuple") = true by decide, if_true, Bool.not_true, Bool.false_eq_true, if_false]
  show wpAny _ _ (seqItems? (.ref b) >>= _) _ _ s
  refine wpAny_bind (wpAny_seqItems h1 h3 ?_)
  dsimp only
  refine wpAny_bind ?_
  show wpAny _ _ (forIn its _ _) _ _ s
  rw [← Array.forIn_toList]
  refine wpAny_forIn_list _ (fun left acc z => acc.1 = none ∧ z = s ∧ ∀ v ∈ left, ∀ n, ofAClassStatement n v = pure false) _ ?_ ?_ _ _ ⟨rfl, rfl, fun v hv => (d.items h4 v hv).1⟩
  · rintro v left acc z ⟨_, rfl, all⟩
    rw [all v List.mem_cons_self]
    refine wpAny_bind (wpAny_pure ?_)
    simp only [Bool.false_eq_true, if_false]
    exact wpAny_pure ⟨rfl, rfl, fun u hu => all u (List.mem_cons_of_mem _ hu)⟩
  · rintro ⟨c1, c2⟩ z ⟨e, rfl, _⟩
    simp only at e
    subst e
    exact wpAny_pure q
theorem Dull.by_val (d : Dull kd) {ks : List κ} {b : Addr} {Q : Bool → Shared → Prop} (hb : IsTupleKey kd s.heap ks b) (q : ∀ r, Q r s) : wpAny (model P w) A (hashByValue 8 (.ref b)) Q E s := by
  have ty := hb.typeIs
  obtain ⟨ob, its, ep, h1, _, h3, h4⟩ := hb
  unfold hashByValue
  refine wpAny_bind (wpAny_specialOf ty F.slot_tuple_hash.lookup ?_)
  show wpAny _ _ (seqItems? (.ref b) >>= _) _ _ s
  refine wpAny_bind (wpAny_seqItems h1 h3 ?_)
  refine wpAny_bind ?_
  show wpAny _ _ (forIn its _ _) _ _ s
  rw [← Array.forIn_toList]
  refine wpAny_forIn_list _ (fun left acc z => acc.1 = none ∧ z = s ∧ ∀ v ∈ left, ∀ n, ∃ b, hashByValue n v = pure b) _ ?_ ?_ _ _ ⟨rfl, rfl, fun v hv => (d.items h4 v hv).2⟩
  · rintro v left acc z ⟨_, rfl, all⟩
    obtain ⟨r, e⟩ := all v List.mem_cons_self 7
    rw [e]
    refine wpAny_bind (wpAny_pure ?_)
    cases r with
    | true =>
      simp only [Bool.not_true, Bool.false_eq_true, if_false]
      exact wpAny_pure ⟨rfl, rfl, fun u hu => all u (List.mem_cons_of_mem _ hu)⟩
    | false =>
      simp only [Bool.not_false, if_true]
      exact wpAny_pure (wpAny_pure (q false))
  · rintro ⟨c1, c2⟩ z ⟨e, rfl, _⟩
    simp only at e
    subst e
    exact wpAny_pure (q true)
/-- what a search among tuples lets be seen: nothing -/
theorem Dull.unseen (d : Dull kd) {ks : List κ} {b : Addr} {Q : Bool → Shared → Prop} (hb : IsTupleKey kd s.heap ks b) {ys : List Value} (hy : ∀ y ∈ ys, ∃ k' c, y = Value.ref c ∧ IsTupleKey kd s.heap k' c) (q : Q false s) :
    wpAny (model P w) A (searchCouldBeSeen (.ref b) ys) Q E s := by
  unfold searchCouldBeSeen
  refine wpAny_bind ?_
  refine wpAny_forIn_list _ (fun left acc z => acc.1 = none ∧ z = s ∧ ∀ y ∈ left, ∃ k' c, y = Value.ref c ∧ IsTupleKey kd s.heap k' c) _ ?_ ?_ _ _ ⟨rfl, rfl, hy⟩
  · rintro v left acc z ⟨_, rfl, all⟩
    obtain ⟨k', c, rfl, hc⟩ := all v List.mem_cons_self
    have more : ∀ y ∈ left, ∃ k' c, y = Value.ref c ∧ IsTupleKey kd z.heap k' c := fun u hu => all u (List.mem_cons_of_mem _ hu)
    dsimp only
    by_cases hv : (b == c || (carriedByValue (.ref b) && carriedByValue (.ref c))) = true
    · exact wp_if_pos hv (wpAny_pure ⟨rfl, rfl, more⟩)
    · refine wp_if_neg hv (wpAny_bind (wpAny_eqIsQuiet_tuple hb ?_))
      simp only [Bool.not_true, Bool.false_eq_true, if_false]
      refine wpAny_bind (wpAny_eqIsQuiet_tuple hc ?_)
      simp only [Bool.not_true, Bool.false_eq_true, if_false]
      refine wpAny_bind (d.no_cls hb ?_)
      simp only [Bool.false_eq_true, if_false]
      refine wpAny_bind (d.no_cls hc ?_)
      simp only [Bool.false_eq_true, if_false]
      exact wpAny_pure ⟨rfl, rfl, more⟩
  · rintro ⟨c1, c2⟩ z ⟨e, rfl, _⟩
    simp only at e
    subst e
    exact wpAny_pure q
/-! ### the set at a, in the order of its table -/
structure MSet (kd : KeyKind P w κ) (h : Heap) (a : Addr) (L : List (Addr × List κ)) (es : Array (Int × Value)) (ep : Nat) (t : SetTable) : Prop where
  obj : ∃ o, h.get? a = some o ∧ o.ExactSet ∧ o.data = .set es ep t
  rws : es.toList = L.map fun p => (tupleKeyHash kd p.2, Value.ref p.1)
  tab : TabOk t (L.map fun p => tupleKeyHash kd p.2)
  dif : (L.map Prod.snd).Nodup
  its : ∀ p ∈ L, IsTupleKey kd h p.2 p.1
  rm : L.length * 5 < t.mask * 3
/-- where a way stands after so many steps -/
def stands (m : Nat) (h : Int) (c : Nat) : SetTable.Probe := nth m (runAt m (SetTable.bits h % (m + 1)) (SetTable.bits h)) c
theorem stands_j (m : Nat) (h : Int) (c : Nat) : (stands m h c).j = way m h c := rfl
theorem stands_on (m : Nat) (h : Int) (c q : Nat) : nth m (stands m h c) q = stands m h (c + q) := (nth_add m c _ q).symm
theorem nth_clean (m : Nat) : ∀ (n : Nat) (p : SetTable.Probe), p.dummy = none → (nth m p n).dummy = none
  | 0, _, e => e
  | n + 1, p, e => nth_clean m n (adv m p) (by unfold adv; split <;> exact e)
theorem stands_clean (m : Nat) (h : Int) (c : Nat) : (stands m h c).dummy = none := nth_clean m c _ rfl
variable {a : Addr} {L : List (Addr × List κ)} {es : Array (Int × Value)} {ep : Nat} {t : SetTable}
theorem MSet.size (M : MSet kd s.heap a L es ep t) : es.size = L.length := by
  have e := congrArg List.length M.rws
  rwa [Array.length_toList, List.length_map] at e
theorem MSet.place (M : MSet kd s.heap a L es ep t) : t.place.size = L.length := by
  have e := M.tab.sz
  rwa [List.length_map] at e
theorem MSet.fit (M : MSet kd s.heap a L es ep t) : t.fits es.size = true := by
  have e1 := M.place
  have e2 := M.size
  have e3 := M.rm
  unfold SetTable.fits SetTable.fill
  rw [M.tab.dm, Bool.and_eq_true, beq_iff_eq, decide_eq_true_eq]
  refine ⟨by omega, ?_⟩
  show t.place.size + 0 ≤ t.mask
  omega
theorem MSet.at_ (M : MSet kd s.heap a L es ep t) {i : Nat} {p : Addr × List κ} (e : L[i]? = some p) : es[i]? = some (tupleKeyHash kd p.2, Value.ref p.1) := by
  rw [← Array.getElem?_toList, M.rws, List.getElem?_map, e]
  rfl
theorem MSet.whole (M : MSet kd s.heap a L es ep t) : ¬ t.gaveWay = true := by
  unfold SetTable.gaveWay
  rw [mask_odd M.tab.mok]
  decide
/-- the search, from a step of the way on -/
theorem MSet.seek (d : Dull kd) (M : MSet kd s.heap a L es ep t) {x : Addr} {k : List κ} (hx : IsTupleKey kd s.heap k x) (hu : A.units < cLine) (ad : Bool) {h : Int} (hh : h = tupleKeyHash kd k) {n : Nat} (hn : n < 10 * SetTable.turns t.mask)
    (out : way t.mask h n ∉ t.place.toList) (ins : ∀ c, c < n → way t.mask h c ∈ t.place.toList) {Q : SetFound → Shared → Prop}
    (yes : k ∈ L.map Prod.snd → ∀ o : Option Nat, (ad = false → o.isSome = true) → Q (.there o) s) (no : k ∉ L.map Prod.snd → Q (.free (way t.mask h n) false) s) :
    ∀ (f c : Nat) (from_ : Option SetTable.Probe), from_.getD (t.probeStart h) = stands t.mask h c → c ≤ n → n - c < f → (∀ (i : Nat) p, L[i]? = some p → p.2 = k → ∃ c', c ≤ c' ∧ c' < n ∧ t.place.toList[i]? = some (way t.mask h c')) →
      wpAny (model P w) A (setSearchFrom a (.ref x) h ad f from_) Q E s
  | 0, _, _, _, _, z, _ => absurd z (Nat.not_lt_zero _)
  | f + 1, c, from_, hf, hc, hl, hr => by
    obtain ⟨ob, b1, _, b3⟩ := M.obj
    rw [setSearchFrom_succ]
    refine wpAny_bind (wpAny_setState_of b1 b3 M.fit ?_)
    dsimp only
    refine wp_if_neg M.whole ?_
    have key := go_spec t M.tab.ris M.tab.dm (fun i => (es[i]?.map (·.1)).getD 0) h (10 * SetTable.turns t.mask) (n - c) (stands t.mask h c) (stands_clean _ _ _) (by omega)
      (fun q hq => by rw [stands_on, stands_j]; exact ins _ (by omega)) (by rw [stands_on, stands_j, show c + (n - c) = n by omega]; exact out)
    have hash : ∀ (i : Nat) p, L[i]? = some p → (es[i]?.map (·.1)).getD 0 = tupleKeyHash kd p.2 := fun i p e => by
      rw [M.at_ e]
      rfl
    have passed : ∀ (i : Nat) p c', L[i]? = some p → p.2 = k → c ≤ c' → t.place.toList[i]? = some (way t.mask h c') → ∀ m : Nat, (∀ k' i' : Nat, k' < m → t.place.toList[i']? = some (nth t.mask (stands t.mask h c) k').j → (es[i']?.map (·.1)).getD 0 ≠ h) → c + m ≤ c' := fun i p c' e1 e2 e3 e4 m hm => by
      rcases Nat.lt_or_ge c' (c + m) with z | z
      · refine absurd ?_ (hm (c' - c) i (by omega) (by rw [stands_on, stands_j, show c + (c' - c) = c' by omega]; exact e4))
        rw [hash i p e1, e2, hh]
      · exact z
    rcases key with ⟨q, i, hq, hi, hh', hno, pr⟩ | ⟨hno, pr⟩
    · have pr' : t.probe (fun i => (es[i]?.map (·.1)).getD 0) h (from_.getD (t.probeStart h)) = some (.candidate (way t.mask h (c + q)) i (stands t.mask h (c + (q + 1)))) := by
        rw [hf, ← stands_on, ← stands_j, ← stands_on]
        exact pr
      rw [stands_on, stands_j] at hi
      rw [pr']
      dsimp only
      have il : i < L.length := by
        have e1 := (List.getElem?_eq_some_iff.mp hi).1
        have e2 := M.place
        rw [Array.length_toList] at e1
        omega
      obtain ⟨p, hp⟩ : ∃ p, L[i]? = some p := ⟨_, List.getElem?_eq_getElem il⟩
      have pm : p ∈ L := List.mem_of_getElem? hp
      have slot := slot_live M.tab.ris hi
      have on : wpAny (model P w) A (searchRest a (.ref x) h ad f es t (way t.mask h (c + q)) i (stands t.mask h (c + (q + 1)))) Q E s := by
        unfold searchRest
        rw [M.at_ hp]
        dsimp only
        refine wpAny_bind (wpAny_holding (wpAny_eqBool_tuple hu (M.its p pm) hx ?_))
        refine wpAny_bind (wpAny_setState_of b1 b3 M.fit ?_)
        dsimp only
        by_cases ek : p.2 = k
        · have hm : k ∈ L.map Prod.snd := List.mem_map.mpr ⟨p, pm, ek⟩
          cases ad with
          | true =>
            refine wp_if_pos (by rw [decide_eq_true ek]; rfl) ?_
            exact wpAny_pure (yes hm none fun z => nomatch z)
          | false =>
            refine wp_if_neg (by simp) ?_
            rw [sameMem]
            dsimp only
            simp only [if_true, slot, M.at_ hp]
            apply wpAny_bind
            apply wpAny_isSame_ref_self
            apply wpAny_bind
            apply wpAny_pure
            simp only [if_true]
            refine wp_if_pos (decide_eq_true ek) ?_
            exact wpAny_pure (yes hm (some i) fun _ => rfl)
        · refine wp_if_neg (by rw [decide_eq_false ek]; simp) ?_
          rw [sameMem]
          dsimp only
          simp only [if_true, slot, M.at_ hp]
          apply wpAny_bind
          apply wpAny_isSame_ref_self
          apply wpAny_bind
          apply wpAny_pure
          simp only [if_true]
          refine wp_if_neg (by rw [decide_eq_false ek]; decide) ?_
          refine MSet.seek d M hx hu ad hh hn out ins yes no f (c + (q + 1)) (some _) rfl (by omega) (by omega) fun i0 p0 e0 k0 => ?_
          obtain ⟨c', g1, g2, g3⟩ := hr i0 p0 e0 k0
          have g4 := passed i0 p0 c' e0 k0 g1 g3 q hno
          refine ⟨c', ?_, g2, g3⟩
          rcases Nat.lt_or_ge (c + q) c' with y | y
          · omega
          · have ec : c' = c + q := Nat.le_antisymm y g4
            rw [ec] at g3
            have s0 := slot_live M.tab.ris g3
            rw [slot] at s0
            injection s0 with s0
            rw [← s0, hp] at e0
            cases e0
            exact absurd k0 ek
      by_cases led : t.led = true
      · exact wp_if_neg (by rw [led]; decide) on
      · refine wp_if_pos (by simp [led]) (wpAny_bind (d.unseen hx (fun y hy => ?_) (wp_if_neg (by decide) on)))
        obtain ⟨e, e1, rfl⟩ := List.mem_map.mp hy
        have e2 : e ∈ es ∧ e.1 = h := by simpa using e1
        have e3 : e ∈ es.toList := by simpa using e2.1
        rw [M.rws] at e3
        obtain ⟨p', e4, rfl⟩ := List.mem_map.mp e3
        exact ⟨p'.2, p'.1, rfl, M.its p' e4⟩
    · have pr' : t.probe (fun i => (es[i]?.map (·.1)).getD 0) h (from_.getD (t.probeStart h)) = some (.empty (way t.mask h n) none) := by
        have e : way t.mask h n = (nth t.mask (stands t.mask h c) (n - c)).j := by rw [stands_on, stands_j, show c + (n - c) = n by omega]
        rw [hf, e]
        exact pr
      rw [pr']
      dsimp only
      refine wpAny_pure (no fun hm => ?_)
      obtain ⟨p0, e0, k0⟩ := List.mem_map.mp hm
      obtain ⟨i0, hi0, e1⟩ := List.getElem_of_mem e0
      have e2 : L[i0]? = some p0 := by rw [List.getElem?_eq_getElem hi0, e1]
      obtain ⟨c', g1, g2, g3⟩ := hr i0 p0 e2 k0
      have := passed i0 p0 c' e2 k0 g1 g3 (n - c) hno
      omega
/-- the search as it is asked for -/
theorem MSet.seek_at (d : Dull kd) (M : MSet kd s.heap a L es ep t) {x : Addr} {k : List κ} (hx : IsTupleKey kd s.heap k x) (hu : A.units < cLine) (ad : Bool) {Q : SetFound → Shared → Prop}
    (yes : k ∈ L.map Prod.snd → ∀ o : Option Nat, (ad = false → o.isSome = true) → Q (.there o) s)
    (no : ∀ n, k ∉ L.map Prod.snd → way t.mask (tupleKeyHash kd k) n ∉ t.place.toList → (∀ c, c < n → way t.mask (tupleKeyHash kd k) c ∈ t.place.toList) → Q (.free (way t.mask (tupleKeyHash kd k) n) false) s) :
    wpAny (model P w) A (setSearch a (.ref x) (tupleKeyHash kd k) ad) Q E s := by
  have rm := M.rm
  obtain ⟨n, n1, n2, n3⟩ := M.tab.first (by rw [List.length_map]; omega) (tupleKeyHash kd k)
  have most : 10 * SetTable.turns t.mask ≤ 1420 := by
    unfold SetTable.turns
    rcases M.tab.mok with e | e | e <;> omega
  unfold setSearch
  refine MSet.seek d M hx hu ad rfl n1 n2 n3 yes (fun hm => no n hm n2 n3) 100000 0 none rfl (Nat.zero_le _) (by omega) fun i p e1 e2 => ?_
  have il : i < t.place.toList.length := by
    have z1 := (List.getElem?_eq_some_iff.mp e1).1
    have z2 := M.place
    rw [Array.length_toList]
    omega
  have e3 := List.getElem?_eq_getElem il
  obtain ⟨c, c1, c2⟩ := M.tab.before n2 (i := i) (by rw [List.getElem?_map, e1, ← e2]; rfl) e3
  exact ⟨c, Nat.zero_le _, c1, by rw [e3, c2]⟩
theorem MSet.find_at (d : Dull kd) (M : MSet kd s.heap a L es ep t) {x : Addr} {k : List κ} (hx : IsTupleKey kd s.heap k x) (hu : A.units < cLine) {Q : Option Nat → Shared → Prop} (q : ∀ o : Option Nat, o.isSome = decide (k ∈ L.map Prod.snd) → Q o s) :
    wpAny (model P w) A (setFind a (.ref x) (tupleKeyHash kd k)) Q E s := by
  obtain ⟨ob, b1, _, b3⟩ := M.obj
  unfold setFind
  rw [show (100000 : Nat) = 99999 + 1 from rfl]
  unfold setFindIn
  refine wpAny_bind (wpAny_setState_of b1 b3 M.fit ?_)
  dsimp only
  refine wp_if_neg (by simp [byScan, Value.scannable]) ?_
  refine wpAny_bind (M.seek_at d hx hu false (fun hm o ho => ?_) fun n hm _ _ => ?_)
  · exact wpAny_pure (q o (by rw [ho rfl, decide_eq_true hm]))
  · exact wpAny_pure (q none (by rw [decide_eq_false hm]; rfl))
theorem MSet.typeIs (M : MSet kd s.heap a L es ep t) : s.TypeIs (.ref a) "set" := by
  obtain ⟨ob, b1, b2, _⟩ := M.obj
  exact ⟨ob, b1, b2.1⟩
theorem MSet.has (d : Dull kd) (M : MSet kd s.heap a L es ep t) {x : Addr} {k : List κ} (hx : IsTupleKey kd s.heap k x) (hu : A.units + 1 < cLine) {Q : Value → Shared → Prop} (q : ∀ tk, Q (.bool (decide (k ∈ L.map Prod.snd))) { s with toks := tk }) :
    wpAny (model P w) A (compareOp .In (.ref x) (.ref a)) Q E s := by
  show wpAny _ _ (do return .bool (← contains (.ref a) (.ref x))) Q E s
  apply wpAny_bind
  unfold contains
  try with_reducible apply wpAny_holding
  apply wpAny_bind
  refine wpAny_specialOf M.typeIs F.slot_set_contains.lookup ?_
  show wpAny _ _ (if (some (Value.builtin "set.__contains__") == some Value.none) = true then _ else _) _ E s
  rw [if_neg (fun z => by rw [beq_builtin_none] at z; cases z)]
  apply wpAny_bind
  refine wpAny_callSpecialUnlessNone?_slot (name := Str.ofString "__contains__") M.typeIs F.slot_set_contains (wpAny_call_entry F.slot_set_contains M.typeIs entry_set_contains ?_ (F.args_set_contains_2 _ _))
  unfold Builtin.«frozenset.__contains__» Builtin.Frozenset.oneOther
  simp only [List.isEmpty_nil, bind_assoc]
  unfold Builtin.Frozenset.addrOf Builtin.Frozenset.withSetAsKey setContains
  apply wpAny_bind
  apply wpAny_pure
  try dsimp only
  apply wpAny_bind
  apply wpAny_pure
  try dsimp only
  apply wpAny_bind
  apply wpAny_tryCatch
  apply wpAny_holding
  apply wpAny_bind
  refine wpAny_pyHash_tuple ?hu hx ?_
  case hu => exact hu
  apply wpAny_bind
  refine MSet.find_at (s := { s with toks := s.toks + (k.length + 1) }) d M hx hu fun o ho => ?_
  apply wpAny_pure
  show wpAny _ _ (ret (Value.bool o.isSome)) _ _ _
  rw [ho]
  exact wpAny_pure ⟨_, rfl, wpAny_truthy_bool (wpAny_pure (q _))⟩
/-! ### one more -/
theorem key_same {h h' : Heap} {k : List κ} {b : Addr} {o : Obj} (hb : IsTupleKey kd h k b) (ho : h.get? a = some o) (hd : o.data = .set es ep t) (sb : Heap.SameBut a h h') : IsTupleKey kd h' k b := by
  obtain ⟨ob, its, n, e1, e2, e3, e4⟩ := hb
  refine ⟨ob, its, n, (sb.2 b fun z => ?_).trans e1, e2, e3, e4⟩
  subst z
  cases ho.symm.trans e1
  rw [hd] at e3
  cases e3
theorem perm_in {α : Type} (l : List α) (p : Nat) (x : α) : (l.take p ++ x :: l.drop p).Perm (x :: l) := by
  have z := @List.perm_middle α x (l.take p) (l.drop p)
  rwa [List.take_append_drop] at z
/-- the rows in another order -/
theorem rows_order {f : Addr × List κ → Int × Value} (hes : es.toList = L.map f) (order : Array Nat) (ho : order.toList.Perm (List.range L.length)) :
    ∃ L' : List (Addr × List κ), (order.filterMap (es[·]?)).toList = L'.map f ∧ L'.Perm L ∧ (L'.map fun p => (f p).1) = order.toList.map fun i => (es.map (·.1)).getD i 0 := by
  have row : ∀ i, es[i]? = (L[i]?).map f := fun i => by rw [← Array.getElem?_toList, hes, List.getElem?_map]
  have pick : ∀ l : List Nat, (∀ i ∈ l, i < L.length) → (l.filterMap fun i => es[i]?) = (l.filterMap fun i => L[i]?).map f ∧ ((l.filterMap fun i => L[i]?).map fun p => (f p).1) = l.map fun i => (es.map (·.1)).getD i 0 := by
    intro l
    induction l with
    | nil => exact fun _ => ⟨rfl, rfl⟩
    | cons i l ih =>
      intro hl
      obtain ⟨z1, z2⟩ := ih fun j hj => hl j (List.mem_cons_of_mem _ hj)
      obtain ⟨p, hp⟩ : ∃ p, L[i]? = some p := ⟨_, List.getElem?_eq_getElem (hl i List.mem_cons_self)⟩
      have ei : es[i]? = some (f p) := by rw [row i, hp]; rfl
      refine ⟨?_, ?_⟩
      · rw [List.filterMap_cons_some ei, List.filterMap_cons_some hp, z1]
        rfl
      · rw [List.filterMap_cons_some hp, List.map_cons, List.map_cons, z2]
        congr 1
        have e5 : (es.map (·.1))[i]? = some (f p).1 := by rw [Array.getElem?_map, ei]; rfl
        rw [Array.getD_eq_getD_getElem?, e5]
        rfl
  obtain ⟨z1, z2⟩ := pick order.toList fun i hi => List.mem_range.mp (ho.mem_iff.mp hi)
  refine ⟨order.toList.filterMap fun i => L[i]?, by simpa using z1, ?_, z2⟩
  have all : ∀ n, n ≤ L.length → ((List.range n).filterMap fun i => L[i]?) = L.take n := by
    intro n
    induction n with
    | zero => exact fun _ => rfl
    | succ n ih =>
      intro hn
      rw [List.range_succ, List.filterMap_append, ih (Nat.le_of_lt hn), List.take_succ, List.getElem?_eq_getElem hn, List.filterMap_cons_some (List.getElem?_eq_getElem hn)]
      rfl
  have z := ho.filterMap fun i => L[i]?
  rwa [all L.length (Nat.le_refl _), List.take_length] at z
/-- the table laid anew -/
theorem relaid_at {o : Obj} (h1 : s.heap.get? a = some o) (h2 : o.ExactSet) (h3 : o.data = .set es ep t) (rws : es.toList = L.map fun p => (tupleKeyHash kd p.2, Value.ref p.1)) (sz : t.place.size = es.size) (dm : t.dummies = #[]) (fl : es.size ≤ t.mask)
    (dif : (L.map Prod.snd).Nodup) (its : ∀ p ∈ L, IsTupleKey kd s.heap p.2 p.1) (few : L.length ≤ 70) {wanted m : Nat} (hw : SetTable.sizeAbove wanted - 1 = m) (hm : MaskOk m) (hs : SetTable.sizeAbove wanted ≤ 128) (hr : L.length * 5 < m * 3)
    {Q : Unit → Shared → Prop} (q : ∀ h' L' es' ep' t', Heap.SameBut a s.heap h' → MSet kd h' a L' es' ep' t' → L'.Perm L → Q () { s with heap := h' }) : wpAny (model P w) A (setRelay a wanted) Q E s := by
  have len : es.size = L.length := by
    have e := congrArg List.length rws
    rwa [Array.length_toList, List.length_map] at e
  have fit : t.fits es.size = true := by
    unfold SetTable.fits SetTable.fill
    rw [dm, Bool.and_eq_true, beq_iff_eq, decide_eq_true_eq]
    refine ⟨sz, ?_⟩
    show t.place.size + 0 ≤ t.mask
    omega
  obtain ⟨t', order, e, pm, tab, em, _, _, _⟩ := relaid_ok t (hs := es.map (·.1)) (wanted := wanted) hw hm (by rw [Array.size_map, len]; omega)
  rw [Array.size_map, len] at pm
  obtain ⟨L', r1, r2, r3⟩ := rows_order rws order pm
  rw [← r3] at tab
  have size' : (order.filterMap (es[·]?)).size = es.size := by
    have z := congrArg List.length r1
    rw [Array.length_toList, List.length_map, r2.length_eq] at z
    omega
  rw [setRelay_eq]
  refine wpAny_bind (wpAny_setState_of h1 h3 fit ?_)
  dsimp only
  refine wp_if_neg (by rw [sizeLine_eq]; omega) ?_
  rw [e]
  dsimp only
  apply wpAny_bind
  refine wp_if_neg (by rw [size']; simp) ?_
  apply wpAny_pure
  dsimp only
  refine wpAny_storeSet_of h1 h3 ?_ (by rw [size', len, sizeLine_eq]; omega)
  have sb : Heap.SameBut a s.heap (s.heap.update a (Obj.putSet (order.filterMap (es[·]?)) t')) := Heap.SameBut.update ..
  refine q _ L' (order.filterMap (es[·]?)) (ep + 1) t' sb ⟨⟨_, store_at h1 h3, ⟨h2.1, h2.2.1, h2.2.2⟩, rfl⟩, r1, tab, ?_, fun p hp => key_same (its p (r2.mem_iff.mp hp)) h1 h3 sb, ?_⟩ r2
  · exact (r2.map Prod.snd).nodup_iff.mpr dif
  · rw [r2.length_eq, em]
    exact hr
/-- a tuple that isn't there is added -/
theorem MSet.put (d : Dull kd) (M : MSet kd s.heap a L es ep t) {x : Addr} {k : List κ} (hx : IsTupleKey kd s.heap k x) (hu : A.units < cLine) (few : L.length < 64) (new : k ∉ L.map Prod.snd) {Q : Bool → Shared → Prop}
    (q : ∀ b h' L' es' ep' t', Heap.SameBut a s.heap h' → MSet kd h' a L' es' ep' t' → L'.Perm ((x, k) :: L) → Q b { s with heap := h' }) : wpAny (model P w) A (setAddHashed a (.ref x) (tupleKeyHash kd k)) Q E s := by
  obtain ⟨o, h1, h2, h3⟩ := M.obj
  have len := M.size
  have rm := M.rm
  unfold setAddHashed
  apply wpAny_holding
  rw [show (100000 : Nat) = 99999 + 1 from rfl, setAddHashedIn_succ]
  refine wpAny_bind (wpAny_setState_of h1 h3 M.fit ?_)
  dsimp only
  refine wp_if_neg (by simp [byScan, Value.scannable]) ?_
  refine wpAny_bind (M.seek_at d hx hu true (fun hm => absurd hm new) fun n _ out ins => ?_)
  dsimp only
  refine wpAny_bind (wpAny_setState_of h1 h3 M.fit ?_)
  dsimp only
  obtain ⟨p1, p2, p3, p4, _, _, _, _, p9⟩ := M.tab.put out ins
  generalize t.put (way t.mask (tupleKeyHash kd k) n) = pt at p1 p3 p4 p9 ⊢
  obtain ⟨t1, at1⟩ := pt
  dsimp only at p1 p3 p4 p9 ⊢
  subst p1
  generalize hb : SetTable.below t.place (way t.mask (tupleKeyHash kd k) n) = p at p2 p3 ⊢
  have pm := perm_in L p (x, k)
  have rws : (SetTable.insertAt es p (tupleKeyHash kd k, Value.ref x)).toList = (L.take p ++ (x, k) :: L.drop p).map fun p => (tupleKeyHash kd p.2, Value.ref p.1) := by
    rw [SetTable.toList_insertAt, M.rws, List.map_append, List.map_cons, List.map_take, List.map_drop]
  have hash : (L.take p ++ (x, k) :: L.drop p).map (fun p => tupleKeyHash kd p.2) = (L.map fun p => tupleKeyHash kd p.2).take p ++ tupleKeyHash kd k :: (L.map fun p => tupleKeyHash kd p.2).drop p := by
    rw [List.map_append, List.map_cons, List.map_take, List.map_drop]
  rw [← hash] at p3
  have dif : ((L.take p ++ (x, k) :: L.drop p).map Prod.snd).Nodup := by
    refine (pm.map Prod.snd).nodup_iff.mpr ?_
    rw [List.map_cons]
    exact List.nodup_cons.mpr ⟨new, M.dif⟩
  have size1 : (SetTable.insertAt es p (tupleKeyHash kd k, Value.ref x)).size = L.length + 1 := by
    have z := congrArg List.length rws
    rw [Array.length_toList, List.length_map, pm.length_eq] at z
    exact z
  generalize SetTable.insertAt es p (tupleKeyHash kd k, Value.ref x) = es1 at rws size1 ⊢
  generalize L.take p ++ (x, k) :: L.drop p = L1 at pm p3 dif rws
  have len1 : L1.length = L.length + 1 := pm.length_eq
  -- whether the new one hashes by value only marks the table
  have last : ∀ t2 : SetTable, t2.place = t1.place → t2.dummies = t1.dummies → t2.mask = t1.mask → t2.tooFull = t1.tooFull → wpAny (model P w) A (storeSet a es1 t2 >>= fun _ => (do
      if (!false && t2.tooFull) = true then setRelay a (SetTable.grown (es.size + 1))
      return true)) Q E s := by
    intro t2 g1 g2 g3 g4
    have tab2 : TabOk t2 (L1.map fun p => tupleKeyHash kd p.2) := ⟨by rw [g1]; exact p3.ris, by rw [g2]; exact p3.dm, by rw [g1]; exact p3.sz, by rw [g3]; exact p3.mok, by rw [g1, g3]; exact p3.bd, by rw [g1, g3]; exact p3.reach⟩
    refine wpAny_bind (wpAny_storeSet_of h1 h3 ?_ (by rw [size1, sizeLine_eq]; omega))
    have sb : Heap.SameBut a s.heap (s.heap.update a (Obj.putSet es1 t2)) := Heap.SameBut.update ..
    have at2 := store_at (es' := es1) (t' := t2) h1 h3
    generalize s.heap.update a (Obj.putSet es1 t2) = h' at sb at2 ⊢
    have its : ∀ p ∈ L1, IsTupleKey kd h' p.2 p.1 := fun p hp => by
      rcases List.mem_cons.mp (pm.mem_iff.mp hp) with e | hp
      · rw [e]
        exact key_same hx h1 h3 sb
      · exact key_same (M.its p hp) h1 h3 sb
    by_cases full : t1.tooFull = true
    · refine wp_if_pos (by rw [g4, full]; rfl) (wpAny_bind ?_)
      have z := full
      unfold SetTable.tooFull at z
      rw [decide_eq_true_eq, p9, List.length_map, p4] at z
      have two : (t.mask = 7 ∧ L.length = 4) ∨ (t.mask = 31 ∧ L.length = 18) := by
        rcases M.tab.mok with e | e | e <;> rw [e] at z rm <;> omega
      rw [len]
      have sz2 : t2.place.size = es1.size := by
        have z := tab2.sz
        rw [List.length_map] at z
        omega
      have go : ∀ m, SetTable.sizeAbove (SetTable.grown (L.length + 1)) - 1 = m → MaskOk m → SetTable.sizeAbove (SetTable.grown (L.length + 1)) ≤ 128 → (L.length + 1) * 5 < m * 3 →
          wpAny (model P w) A (setRelay a (SetTable.grown (L.length + 1))) (fun _ z => wpAny (model P w) A (pure true) Q E z) E { s with heap := h' } := fun m e1 e2 e3 e4 => by
        refine relaid_at (s := { s with heap := h' }) at2 ⟨h2.1, h2.2.1, h2.2.2⟩ rfl rws sz2 tab2.dm (by rw [size1, g3, p4]; rcases two with ⟨e, f⟩ | ⟨e, f⟩ <;> omega) dif its (by omega) e1 e2 e3 (by rw [len1]; exact e4) fun h'' L2 es2 ep2 t3 sb2 M2 pm2 => ?_
        exact wpAny_pure (q true h'' L2 es2 ep2 t3 (sb.trans sb2) M2 (pm2.trans pm))
      rcases two with ⟨_, e⟩ | ⟨_, e⟩
      · exact go 31 (by rw [e, size_20]) (.inr (.inl rfl)) (by rw [e, size_20]; decide) (by omega)
      · exact go 127 (by rw [e, size_76]) (.inr (.inr rfl)) (by rw [e, size_76]; decide) (by omega)
    · refine wp_if_neg (by rw [g4]; simpa using full) ?_
      refine wpAny_pure (q true h' L1 es1 (ep + 1) t2 sb ⟨⟨_, at2, ⟨h2.1, h2.2.1, h2.2.2⟩, rfl⟩, rws, tab2, dif, its, ?_⟩ pm)
      have z := full
      unfold SetTable.tooFull at z
      rw [decide_eq_true_eq, p9, List.length_map, p4] at z
      rw [len1, g3, p4]
      omega
  have fin : ∀ r : Bool, wpAny (model P w) A (storeSet a es1 (if r = true then t1 else { t1 with plain := false }) >>= fun _ => (do
      if (!false && (if r = true then t1 else { t1 with plain := false }).tooFull) = true then setRelay a (SetTable.grown (es.size + 1))
      return true)) Q E s := fun r => by
    cases r with
    | true => exact last t1 rfl rfl rfl rfl
    | false => exact last { t1 with plain := false } rfl rfl rfl rfl
  by_cases hp : t1.plain = true
  · first
      | exact wp_if_pos hp (wpAny_bind (d.by_val hx fun r => fin r))
      | (apply wpAny_bind; exact wp_if_pos hp (d.by_val hx fun r => fin r))
  · first
      | exact wp_if_neg hp (fin true)
      | exact wp_if_neg hp (wpAny_bind (wpAny_pure (fin true)))
      | (apply wpAny_bind; exact wp_if_neg hp (wpAny_pure (fin true)))
/-- found.add(x), as the method is called -/
theorem MSet.add (d : Dull kd) (M : MSet kd s.heap a L es ep t) {x : Addr} {k : List κ} (hx : IsTupleKey kd s.heap k x) (hu : A.units + 1 < cLine) (few : L.length < 64) (new : k ∉ L.map Prod.snd) {Q : Value → Shared → Prop}
    (q : ∀ tk h' L' es' ep' t', Heap.SameBut a s.heap h' → MSet kd h' a L' es' ep' t' → L'.Perm ((x, k) :: L) → Q .none { s with heap := h', toks := tk }) : wpAny (model P w) A (call (.builtin "set.add") [.ref a, .ref x]) Q E s := by
  refine wpAny_call_entry F.slot_set_add M.typeIs F.entry_set_add ?_ (F.args_set_add_2 _ _)
  unfold Builtin.«set.add» Builtin.Frozenset.oneOther
  simp only [List.isEmpty_nil, bind_assoc]
  unfold Builtin.Frozenset.addrOf setAdd
  apply wpAny_bind
  apply wpAny_pure
  try dsimp only
  apply wpAny_bind
  apply wpAny_pure
  try dsimp only
  apply wpAny_bind
  apply wpAny_holding
  apply wpAny_bind
  refine wpAny_pyHash_tuple ?hu hx ?_
  case hu => exact hu
  refine MSet.put (s := { s with toks := s.toks + (k.length + 1) }) d M hx ?hu few new fun b h' L' es' ep' t' sb M' pm => ?_
  case hu => exact hu
  show wpAny _ _ (ret Value.none) _ _ _
  exact wpAny_pure ⟨_, rfl, q _ h' L' es' ep' t' sb M' pm⟩
/-- a new set -/
theorem MSet.new {h : Heap} (ho : h.get? a = some { cls := .type "set", dict := none, data := .set #[] 0 (.fresh 0 0 (!w.params.followText "set-order")) }) : MSet (P := P) (w := w) kd h a [] #[] 0 (.fresh 0 0 (!w.params.followText "set-order")) :=
  ⟨⟨_, ho, ⟨rfl, rfl, rfl⟩, rfl⟩, rfl, ⟨List.Pairwise.nil, rfl, rfl, .inl rfl, fun x hx => (List.not_mem_nil hx).elim, fun i h j hi => by simp at hi⟩, List.nodup_nil, fun p hp => (List.not_mem_nil hp).elim, by show 0 * 5 < 7 * 3; decide⟩
end
end TL

set_option Elab.async false
set_option linter.all false
set_option maxRecDepth 100000
set_option maxHeartbeats 4000000
/-! TBa: boxes in slots: laid, opened, changed, frozen. -/
namespace TL
open PySem PySem.Spec PyProof.Rows L2
variable [XW]
section
variable {K : PySem.W.Frag} {c : Cf} {G H G' H' : Hp} {σ : L2.St} {δ : List Sl}
/-- what is free and alive stays as it is where only others are changed -/
theorem Free.step {a : Addr} {σ' : L2.St} {δ' : List Sl} (f : Free c G σ δ a) (hg : G' a = none) (how : ∀ (j : Nat) (t : Option Nat) (ds : List PyData), δ'[j]? = some (.own t ds) → σ'[j]? ≠ some (some (.ref a))) : Free c G' σ' δ' a := ⟨hg, f.h0, f.tg, f.hd, how⟩
/-- a box in a slot: its value, its addresses; and what may be put in its stead -/
theorem EnvOk.open_box (E : EnvOk K c G H σ δ) {i : Nat} {b : Box} (hs : δ[i]? = some (.box b)) : ∃ (x : V) (S : List Addr), σ[i]? = some (some x) ∧ b.at_ K G H x S ∧ (∀ a ∈ S, Free c G σ δ a ∧ H a ≠ none) ∧
    ∀ (b' : Box) (x' : V) (S' : List Addr) (G' H' : Hp), Ex G G' → Ex G' H' → (∀ a o, a ∉ S → H a = some o → H' a = some o) → (∀ a, a ∉ S → H a ≠ none → G a = none → G' a = none) → (∀ a ∈ S', G' a = none ∧ H' a ≠ none ∧ (a ∈ S ∨ H a = none)) →
      b'.at_ K G' H' x' S' → EnvOk K c G' H' (σ.set i (some x')) (δ.set i (.box b')) := by
  obtain ⟨F, hF⟩ := E.bx
  obtain ⟨⟨x, hx, hb⟩, hfree, hdis⟩ := hF i b hs
  refine ⟨x, F i, hx, hb, fun a ha => ⟨hfree a ha, b.live hb a ha⟩, fun b' x' S' G' H' eg eh keep keepG foot hb' => ?_⟩
  have hi : i < δ.length := (List.getElem?_eq_some_iff.mp hs).1
  have hiσ : i < σ.length := by rw [E.len]; exact hi
  -- an own list's address is none of the box's
  have nown : ∀ (j : Nat) (t : Option Nat) (ds : List PyData) (p : Addr), δ[j]? = some (.own t ds) → σ[j]? = some (some (.ref p)) → p ∉ F i := fun j t ds p h1 h2 hp => (hfree p hp).ow j t ds h1 h2
  have tag : ∀ j, j < c.n → c.τ j ∉ F i := fun j hj hp => (hfree _ hp).tg j hj rfl
  have live' : ∀ a, a ∉ F i → H a ≠ none → H' a ≠ none := fun a h1 h2 => by
    cases q : H a with
    | none => exact absurd q h2
    | some o => rw [keep a o h1 q]; exact fun z => nomatch z
  exact {
    xw := E.xw
    g0 := E.g0.trans eg
    ex := eh
    fr := fun a o h k => by
      refine keep a o (fun hp => ?_) (E.fr a o h k)
      rw [(hfree a hp).h0] at h
      cases h
    fs := fun a h1 h2 => by
      have na : a ∉ F i := fun hp => h2 (hfree a hp).h0
      by_cases ht : ∃ j, j < c.n ∧ a = c.τ j
      · obtain ⟨j, hj, rfl⟩ := ht
        exact keepG _ na (E.tg j hj).1 (E.tg j hj).2
      · refine keepG a na ?_ (E.fs a h1 h2)
        cases q : c.H0 a with
        | none => exact absurd q h2
        | some o =>
          rw [E.fr a o q fun j hj z => ht ⟨j, hj, z⟩]
          exact fun z => nomatch z
    tg := fun j hj => ⟨live' _ (tag j hj) (E.tg j hj).1, keepG _ (tag j hj) (E.tg j hj).1 (E.tg j hj).2⟩
    len := by rw [List.length_set, List.length_set, E.len]
    sl := fun j s h => by
      rw [List.getElem?_set] at h ⊢
      by_cases hj : i = j
      · rw [if_pos hj, if_pos hi] at h
        cases h
        trivial
      · rw [if_neg hj] at h ⊢
        have z := E.sl j s h
        cases s with
        | no => trivial
        | box b => trivial
        | dat d =>
          obtain ⟨y, e, r⟩ := z
          exact ⟨y, e, r.up eg⟩
        | scr ds =>
          obtain ⟨p, ys, e, q, r⟩ := z
          exact ⟨p, ys, e, ex_l eg q, r.up eg⟩
        | own t ds =>
          obtain ⟨p, ys, e, g, hh, r, q⟩ := z
          have np := nown j t ds p h e
          exact ⟨p, ys, e, keepG p np (by rw [hh]; exact fun z => nomatch z) g, keep p _ np hh, r.up eg, q⟩
    ap := fun p q t1 d1 t2 d2 hpq h1 h2 => by
      obtain ⟨hp, h1⟩ := set_own (by intro t d z; cases z) h1
      obtain ⟨hq, h2⟩ := set_own (by intro t d z; cases z) h2
      rw [List.getElem?_set_ne hp, List.getElem?_set_ne hq]
      exact E.ap p q t1 d1 t2 d2 hpq h1 h2
    hd := fun p o h => by
      obtain ⟨a1, a2, a3, a4, a5⟩ := E.hd p o h
      have np : p ∉ F i := fun z => (hfree p z).hd o h
      refine ⟨keep p o np a1, keepG p np (by rw [a1]; exact fun z => nomatch z) a2, a3, a4, fun j t ds hj => ?_⟩
      obtain ⟨hi', hj⟩ := set_own (by intro t d z; cases z) hj
      rw [List.getElem?_set_ne hi']
      exact a5 j t ds hj
    bx := by
      have newF : ∀ a ∈ S', a ∉ F i → H a = none := fun a ha hn => ((foot a ha).2.2).resolve_left hn
      have free' : ∀ a, Free c G σ δ a → G' a = none → Free c G' (σ.set i (some x')) (δ.set i (.box b')) a := fun a f hg => f.step hg fun j t ds hj => by
        obtain ⟨hi', hj⟩ := set_own (by intro t d z; cases z) hj
        rw [List.getElem?_set_ne hi']
        exact f.ow j t ds hj
      have fresh : ∀ a, H a = none → G' a = none → Free c G' (σ.set i (some x')) (δ.set i (.box b')) a := fun a hn hg => ⟨hg, E.new0 hn, fun j hj z => (E.tg j hj).1 (by rw [← z]; exact hn), (fun o h => by
        have z := (E.hd a o h).1
        rw [hn] at z
        cases z), fun j t ds hj z => by
        obtain ⟨hi', hj⟩ := set_own (by intro t d z; cases z) hj
        rw [List.getElem?_set_ne hi'] at z
        obtain ⟨p, ys, e, _, hh, _⟩ := E.sl j _ hj
        rw [z] at e
        rw [← V.ref.inj (Option.some.inj (Option.some.inj e)), hn] at hh
        cases hh⟩
      refine ⟨fun j => if j = i then S' else F j, fun j bj hj => ?_⟩
      by_cases hji : i = j
      · subst hji
        rw [List.getElem?_set, if_pos rfl, if_pos hi] at hj
        cases hj
        rw [List.getElem?_set, if_pos rfl, if_pos hiσ]
        simp only [if_true]
        refine ⟨⟨x', rfl, hb'⟩, fun a ha => ?_, fun j' bj' hne hj' a ha => ?_⟩
        · obtain ⟨f1, _, f3⟩ := foot a ha
          rcases f3 with f3 | f3
          · exact free' a (hfree a f3) f1
          · exact fresh a f3 f1
        · rw [if_neg hne]
          rw [List.getElem?_set, if_neg (fun z => hne z.symm)] at hj'
          obtain ⟨f1, _, f3⟩ := foot a ha
          rcases f3 with f3 | f3
          · exact hdis j' bj' hne hj' a f3
          · intro z
            obtain ⟨⟨y, _, hy⟩, _, _⟩ := hF j' bj' hj'
            exact bj'.live hy a z f3
      · rw [List.getElem?_set, if_neg hji] at hj
        rw [List.getElem?_set, if_neg hji]
        obtain ⟨⟨y, hy, hyb⟩, hyf, hyd⟩ := hF j bj hj
        have hne : ¬ j = i := fun z => hji z.symm
        simp only [if_neg hne]
        have out : ∀ a ∈ F j, a ∉ F i := fun a ha => hyd i b hji hs a ha
        refine ⟨⟨y, hy, bj.up hyb eg fun a ha => ?_⟩, fun a ha => free' a (hyf a ha) (keepG a (out a ha) (bj.live hyb a ha) (hyf a ha).g), fun j' bj' hne' hj' a ha => ?_⟩
        · cases q : H a with
          | none => exact absurd q (bj.live hyb a ha)
          | some o => exact keep a o (out a ha) q
        · by_cases hj'i : j' = i
          · subst hj'i
            rw [if_pos rfl]
            intro z
            rcases (foot a z).2.2 with f3 | f3
            · exact out a ha f3
            · exact bj.live hyb a ha f3
          · rw [if_neg hj'i]
            rw [List.getElem?_set, if_neg (fun z => hj'i z.symm)] at hj'
            exact hyd j' bj' hne' hj' a ha }
/-- a box laid in a slot -/
theorem EnvOk.new_box (E : EnvOk K c G H σ δ) {i : Nat} {b : Box} {x : V} {S : List Addr} (A : Al G H G' H') (foot : ∀ a ∈ S, G' a = none ∧ H a = none) (hb : b.at_ K G' H' x S) : EnvOk K c G' H' (σ.set i (some x)) (δ.set i (.box b)) := by
  -- the slot is emptied, then holds a box of nothing
  have E0 := E.drop (i := i) (v := some x)
  have E1 := E0.al A
  have live : ∀ a ∈ S, H' a ≠ none := fun a ha => b.live hb a ha
  have fresh : ∀ a ∈ S, Free c G' (σ.set i (some x)) (δ.set i (.box b)) a := fun a ha => by
    obtain ⟨f1, f2⟩ := foot a ha
    refine ⟨f1, E.new0 f2, fun j hj z => (E.tg j hj).1 (by rw [← z]; exact f2), fun o h => ?_, fun j t ds hj z => ?_⟩
    · have q := (E.hd a o h).1
      rw [f2] at q
      cases q
    · obtain ⟨hi, hj⟩ := set_own (by intro t d z; cases z) hj
      rw [List.getElem?_set_ne hi] at z
      obtain ⟨p, ys, e, _, hh, _⟩ := E.sl j _ hj
      rw [z] at e
      rw [← V.ref.inj (Option.some.inj (Option.some.inj e)), f2] at hh
      cases hh
  exact {
    xw := E1.xw, g0 := E1.g0, ex := E1.ex, fr := E1.fr, fs := E1.fs, tg := E1.tg
    len := by rw [List.length_set, List.length_set, E.len]
    sl := fun j s h => by
      rw [List.getElem?_set] at h
      by_cases hj : i = j
      · rw [if_pos hj] at h
        split at h
        · cases h
          trivial
        · cases h
      · rw [if_neg hj] at h
        exact E1.sl j s (by rw [List.getElem?_set_ne hj]; exact h)
    ap := fun p q t1 d1 t2 d2 hpq h1 h2 => by
      obtain ⟨hp, h1⟩ := set_own (by intro t d z; cases z) h1
      obtain ⟨hq, h2⟩ := set_own (by intro t d z; cases z) h2
      exact E1.ap p q t1 d1 t2 d2 hpq (by rw [List.getElem?_set_ne hp]; exact h1) (by rw [List.getElem?_set_ne hq]; exact h2)
    hd := fun p o h => by
      obtain ⟨a1, a2, a3, a4, a5⟩ := E1.hd p o h
      refine ⟨a1, a2, a3, a4, fun j t ds hj => ?_⟩
      obtain ⟨hi, hj⟩ := set_own (by intro t d z; cases z) hj
      exact a5 j t ds (by rw [List.getElem?_set_ne hi]; exact hj)
    bx := by
      obtain ⟨F, hF⟩ := E.bx
      refine ⟨fun j => if j = i then S else F j, fun j bj hj => ?_⟩
      by_cases hji : i = j
      · subst hji
        rw [List.getElem?_set, if_pos rfl] at hj
        split at hj
        · cases hj
          rw [List.getElem?_set, if_pos rfl, if_pos (by rw [E.len]; assumption)]
          simp only [if_true]
          refine ⟨⟨x, rfl, hb⟩, fresh, fun j' bj' hne hj' a ha => ?_⟩
          rw [if_neg hne]
          rw [List.getElem?_set, if_neg (fun z => hne z.symm)] at hj'
          intro z
          obtain ⟨⟨y, _, hy⟩, _, _⟩ := hF j' bj' hj'
          exact bj'.live hy a z (foot a ha).2
        · cases hj
      · rw [List.getElem?_set, if_neg hji] at hj
        rw [List.getElem?_set, if_neg hji]
        obtain ⟨⟨y, hy, hyb⟩, hyf, hyd⟩ := hF j bj hj
        have hne : ¬ j = i := fun z => hji z.symm
        simp only [if_neg hne]
        refine ⟨⟨y, hy, bj.up hyb A.g fun a ha => ?_⟩, fun a ha => ?_, fun j' bj' hne' hj' a ha => ?_⟩
        · cases q : H a with
          | none => exact absurd q (bj.live hyb a ha)
          | some o => exact A.h _ _ q
        · refine (hyf a ha).step (A.fs a (hyf a ha).g (bj.live hyb a ha)) fun j t ds hj => ?_
          obtain ⟨hi, hj⟩ := set_own (by intro t d z; cases z) hj
          rw [List.getElem?_set_ne hi]
          exact (hyf a ha).ow j t ds hj
        · by_cases hj'i : j' = i
          · subst hj'i
            rw [if_pos rfl]
            exact fun z => bj.live hyb a ha (foot a z).2
          · rw [if_neg hj'i]
            rw [List.getElem?_set, if_neg (fun z => hj'i z.symm)] at hj'
            exact hyd j' bj' hne' hj' a ha }
end
end TL

set_option Elab.async false
set_option linter.all false
set_option maxRecDepth 100000
set_option maxHeartbeats 4000000
/-! TBb: a set of tuples as a box: set(), in, add. -/
namespace TL
open PySem PySem.Spec PyProof.Rows L2
theorem dec_iff {p : Prop} {i : Decidable p} : (@decide p i = true ↔ p) := decide_eq_true_iff
/-- nothing at all -/
def bxNo : Box where
  at_ := fun _ _ _ _ S => S = []
  up := fun h _ _ => h
  live := fun h a ha => by rw [h] at ha; cases ha
theorem set_same {α : Type} {l : List α} {i : Nat} {x : α} (h : l[i]? = some x) : l.set i x = l := by
  apply List.ext_getElem?
  intro j
  rw [List.getElem?_set]
  by_cases hj : i = j
  · subst hj
    have hl : i < l.length := (List.getElem?_eq_some_iff.mp h).1
    rw [if_pos rfl, if_pos hl, h]
  · rw [if_neg hj]
section
variable [XW] {K : PySem.W.Frag} {c : Cf} {G H : Hp} {σ : L2.St} {δ : List Sl}
/-- what is in a box becomes a datum that stays -/
theorem EnvOk.ice (E : EnvOk K c G H σ δ) {i : Nat} {b : Box} (hs : δ[i]? = some (.box b)) : ∃ (x : V) (S : List Addr), σ[i]? = some (some x) ∧ b.at_ K G H x S ∧ (∀ a ∈ S, G a = none ∧ H a ≠ none) ∧
    ∀ (G' : Hp) (d : PyData), Ex G G' → Ex G' H → (∀ a, a ∉ S → G a = none → G' a = none) → Rp K G' x d → EnvOk K c G' H σ (δ.set i (.dat d)) := by
  obtain ⟨x, S, h1, h2, h3, h4⟩ := E.open_box hs
  refine ⟨x, S, h1, h2, fun a ha => ⟨(h3 a ha).1.g, (h3 a ha).2⟩, fun G' d e1 e2 e3 r => ?_⟩
  have z := (h4 bxNo x [] G' H e1 e2 (fun a o _ q => q) (fun a na _ g => e3 a na g) (fun a ha => (List.not_mem_nil ha).elim) rfl).put (i := i) r
  have es : σ.set i (some x) = σ := set_same h1
  rw [es, es] at z
  rwa [List.set_set] at z
end
/-- the set at a -/
def SetAt (P : Program) (w : World) (h : Heap) (a : Addr) (L : List (Addr × List Key)) : Prop := ∃ (es : Array (Int × Value)) (ep : Nat) (t : SetTable), (∃ o, h.get? a = some o ∧ o.ExactSet ∧ o.data = .set es ep t) ∧
  es.toList = L.map (fun p => (tupleKeyHash (mixKind P w) p.2, Value.ref p.1)) ∧ TabOk t (L.map fun p => tupleKeyHash (mixKind P w) p.2) ∧ (L.map Prod.snd).Nodup ∧ L.length * 5 < t.mask * 3
def SetM (P : Program) (w : World) (a : Addr) (L : List (Addr × List Key)) : HO := .ext fun h => SetAt P w h a L
section
variable {P : Program} {w : World} {a : Addr} {L : List (Addr × List Key)}
theorem MSet.at_set {h : Heap} {es : Array (Int × Value)} {ep : Nat} {t : SetTable} (M : MSet (mixKind P w) h a L es ep t) : SetAt P w h a L := ⟨es, ep, t, M.obj, M.rws, M.tab, M.dif, M.rm⟩
theorem SetAt.whole {h : Heap} (z : SetAt P w h a L) (hk : ∀ p ∈ L, IsTupleKey (mixKind P w) h p.2 p.1) : ∃ es ep t, MSet (mixKind P w) h a L es ep t := by
  obtain ⟨es, ep, t, h1, h2, h3, h4, h5⟩ := z
  exact ⟨es, ep, t, h1, h2, h3, h4, hk, h5⟩
theorem setM_ok {H : Hp} {h : Heap} (z : SetAt P w h a L) : ObjOk P w H h a (SetM P w a L) := by
  have ⟨_, _, _, ⟨o, ho, _⟩, _⟩ := z
  refine ⟨z, ⟨o, ho⟩, fun h1 h2 y k => ?_⟩
  obtain ⟨es, ep, t, ⟨o, ho, r⟩, q⟩ := y
  exact ⟨es, ep, t, ⟨o, k o ho, r⟩, q⟩
theorem setM_get {X : Cx} {pins : List (Addr × Obj)} {σ : L2.St} {H : Hp} {s : Shared} (I : Inv X pins σ H s) (e : H a = some (SetM X.prog X.w a L)) : SetAt X.prog X.w s.heap a L := (I.hok a _ e).1
theorem key_at {X : Cx} {pins : List (Addr × Obj)} {σ : L2.St} {H : Hp} {s : Shared} {b : Addr} {k : List Key} (I : Inv X pins σ H s) (e : H b = some (.tup (k.map kV))) : IsTupleKey (mixKind X.prog X.w) s.heap k b := key_of I.hok e
end
/-! ### the rules -/
section
variable {X : Cx}
def rNewM (P : Program) (w : World) : List V → Hp → VK → Prop := fun xs H Q => xs = [] ∧ ∀ p, H p = none → Q (.ref p) (upd H p (SetM P w p []))
theorem cr_newM : CallR X (.type "set") (rNewM X.prog X.w) := by
  intro pins s σ H xs us Q I r h
  obtain ⟨rfl, q⟩ := h
  cases r
  refine setR_new fun _ => ?_
  have z : SetAt X.prog X.w (s.heap.push { cls := .type "set", dict := none, data := .set #[] 0 (.fresh 0 0 (!X.w.params.followText "set-order")) }) s.heap.objs.size [] := (MSet.new (kd := mixKind X.prog X.w) (Heap.get?_push_size _ rfl)).at_set
  exact ⟨.ref _, upd H s.heap.objs.size (SetM X.prog X.w s.heap.objs.size []), I.laid (t' := s.toks) (fun b u e => Heap.get?_push_of_some _ e) (Nat.le_refl _) (setM_ok z), rfl, q _ (I.hok.fresh (Nat.le_refl _))⟩
def KeysAt (H : Hp) (L : List (Addr × List Key)) : Prop := ∀ p ∈ L, H p.1 = some (.tup (p.2.map kV))
def rInM (P : Program) (w : World) : V → V → Hp → VK → Prop := fun x y H Q => ∃ (b a : Addr) (k : List Key) (L : List (Addr × List Key)), x = .ref b ∧ y = .ref a ∧ H b = some (.tup (k.map kV)) ∧ H a = some (SetM P w a L) ∧ KeysAt H L ∧ ∀ b : Bool, (b = true ↔ k ∈ L.map Prod.snd) → Q (.bl b) H
theorem or_inM (hu : X.A.units + 1 < cLine) : OpR X (compareOp .In) (rInM X.prog X.w) := by
  intro pins s σ H x y v u Q I rx ry h
  obtain ⟨b, a, k, L, rfl, rfl, hb, ha, hk, q⟩ := h
  cases rx
  cases ry
  obtain ⟨es, ep, t, M⟩ := (setM_get I ha).whole fun p hp => key_at I (hk p hp)
  exact M.has dull_mix (key_at I hb) hu fun tk => ⟨.bl _, H, I.tok _, rfl, q _ dec_iff⟩
def rAddM (P : Program) (w : World) : V → List V → Hp → VK → Prop := fun x xs H Q => ∃ (a b : Addr) (k : List Key) (L : List (Addr × List Key)), x = .ref a ∧ xs = [.ref b] ∧ H b = some (.tup (k.map kV)) ∧ H a = some (SetM P w a L) ∧ KeysAt H L ∧ L.length < 64 ∧ k ∉ L.map Prod.snd ∧
  ∀ L' : List (Addr × List Key), L'.Perm ((b, k) :: L) → Q .non (upd H a (SetM P w a L'))
theorem mt_addM (hu : X.A.units + 1 < cLine) : MtR X "set.add" (rAddM X.prog X.w) := by
  intro pins s σ H x xs v us Q I rx rxs h
  obtain ⟨a, b, k, L, rfl, rfl, hb, ha, hk, few, new, q⟩ := h
  cases rx
  cases rxs with
  | cons ry rt =>
    cases rt
    cases ry
    obtain ⟨es, ep, t, M⟩ := (setM_get I ha).whole fun p hp => key_at I (hk p hp)
    refine M.add dull_mix (key_at I hb) hu few new fun tk h' L' es' ep' t' sb M' pm => ?_
    have he : ∃ z, h'.get? a = some z := by
      obtain ⟨o, ho, _⟩ := M'.obj
      exact ⟨o, ho⟩
    exact ⟨.non, upd H a (SetM X.prog X.w a L'), I.write (e := a) (t' := tk) (by rw [ha]; trivial) (.inl rfl) (fun c z hc hz => (sb.2 c hc).trans hz) he (setM_ok M'.at_set), rfl, q L' pm⟩
/-- o.add(e) -/
def tAddM (P : Program) (w : World) (to : TE) (t : TA) : TE := fun σ H Q => to σ H fun x H1 => (∃ a L, x = V.ref a ∧ H1 a = some (SetM P w a L)) ∧ t σ H1 fun xs H2 => rAddM P w x xs H2 Q
variable {o e : Expr} {es : List Expr} {to : TE} {t : TA} {apos cpos : Pos}
theorem pe_addM (hu : X.A.units + 1 < cLine) (ho : PE X o to) (ha : PA X (e :: es) t)
    (hbase : attributeBase o "add" X.env (eval o X.env) = eval o X.env := by rfl)
    (hfew : ((backTo cpos (starEach (e :: es) X.env)).all (fun x => !x.1) && (backToKw cpos (keywordEach [] X.env)).all (fun x => x.1.isSome)
      && decide ((e :: es).length + ([] : List Keyword).length + (if ([] : List Keyword).isEmpty then 0 else 1) < 30)) = true := by rfl)
    (hline : (apos.endLine == cpos.line) = true := by rfl) (hs : starEach (e :: es) X.env = (false, eval e X.env) :: starEach es X.env := by rfl) (hplain : (backTo cpos (starEach es X.env)).any (·.1) = false := by rfl) :
    PE X (.Call (.Attribute o "add" apos) (e :: es) [] cpos) (tAddM X.prog X.w to t) := by
  refine ⟨fun pins s σ H Q I h => ?_⟩
  refine wpAny_Call_method_late hbase hfew hline rfl (thn (ho.run pins s σ H _ I h) fun v s1 ⟨x, H1, I1, r1, ty, q1⟩ => ?_)
  obtain ⟨a, L, rfl, hL⟩ := ty
  cases r1
  obtain ⟨es', ep, tt, ⟨ob, b1, b2, b3⟩, _⟩ := setM_get I1 hL
  refine ⟨"set", "set.add", F.plainAttrs_set, F.slot_set_add, F.type_set_add, ⟨ob, b1, b2.1⟩, fun _ z => by cases z; exact ⟨ob, b1, b2.2.1⟩, ?_⟩
  have args := ha.run cpos pins s1 σ H1 _ I1 q1
  rw [hs] at args ⊢
  refine Calls.callWith_builtin (by show (false || (backTo cpos (starEach es X.env)).any (·.1)) = false; rw [hplain] <;> rfl) (Calls.evalArgs_plain ?_)
  exact thn args fun us s2 ⟨vs, H2, I2, r2, q2⟩ => mt_addM hu pins s2 σ H2 (.ref a) vs (.ref a) us Q I2 rfl r2 q2
end
end TL

set_option Elab.async false
set_option linter.all false
set_option maxRecDepth 100000
set_option maxHeartbeats 4000000
/-! TBc: over data: a set of tuples in a slot; dicts, their items, what is got of them; defs as values. -/
namespace TL
open PySem PySem.Spec PyProof.Rows L2
/-- a tuple of ints and texts -/
def keysD (k : List Key) : PyData := .tuple (k.map keyD)
theorem rp_key {K : PySem.W.Frag} {G : Hp} : ∀ {k : Key} {v : V}, Rp K G v (keyD k) → v = kV k
  | .inl i, _, h => h.int_of
  | .inr x, _, h => h.str_of
theorem rp_keys {K : PySem.W.Frag} {G : Hp} : ∀ {k : List Key} {vs : List V}, RpAll K G vs (k.map keyD) → vs = k.map kV
  | [], _, h => by cases h; rfl
  | a :: r, _, h => by
    cases h with
    | cons h1 h2 => rw [rp_key h1, rp_keys h2]; rfl
theorem Rp.keys {K : PySem.W.Frag} {G : Hp} {k : List Key} {v : V} (h : Rp K G v (keysD k)) : ∃ b, v = .ref b ∧ G b = some (.tup (k.map kV)) := by
  obtain ⟨b, xs, e, g, r⟩ := h.tup_of
  rw [rp_keys r] at g
  exact ⟨b, e, g⟩
/-- a set of these -/
def boxSet (P : Program) (w : World) (ks : List (List Key)) : Box where
  at_ := fun _ G H v S => ∃ (a : Addr) (L : List (Addr × List Key)), v = .ref a ∧ S = [a] ∧ H a = some (SetM P w a L) ∧ (L.map Prod.snd).Perm ks ∧ ∀ p ∈ L, G p.1 = some (.tup (p.2.map kV))
  up := by
    rintro K G G' H H' v S ⟨a, L, e1, e2, e3, e4, e5⟩ eg eh
    exact ⟨a, L, e1, e2, by rw [eh a (by rw [e2]; exact List.mem_cons_self)]; exact e3, e4, fun p hp => eg _ _ (e5 p hp)⟩
  live := by
    rintro K G H v S ⟨a, L, e1, rfl, e3, e4, e5⟩ b hb
    rw [List.mem_singleton.mp hb, e3]
    exact fun z => nomatch z
section
variable [XW] {K : PySem.W.Frag} {P : Program} {w : World} {ta : TE} {ua : DTE}
def dNewSet (P : Program) (w : World) (i : Nat) : DTS := fun E δ => E.nx (δ.set i (.box (boxSet P w [])))
theorem rs_newSet {i : Nat} : RS K (tAsg (tCB (rNewM P w) tNil) (gName i)) (dNewSet P w i) := by
  intro c σ G H δ D E EV h k
  refine ⟨rfl, fun p hp => ?_⟩
  refine k.nx _ G _ _ h (EV.new_box (Al.tmp EV.ex hp) (S := [p]) (fun a ha => ?_) ⟨p, [], rfl, rfl, upd_same, List.Perm.nil, fun q hq => (List.not_mem_nil hq).elim⟩) (Ex.refl _)
  rw [List.mem_singleton.mp ha]
  exact ⟨EV.ex.none hp, hp⟩
def dInSet (P : Program) (w : World) (i : Nat) (ua : DTE) : DTE := fun δ R => ua δ fun d δ1 => ∃ (ks : List (List Key)) (k : List Key), δ1[i]? = some (.box (boxSet P w ks)) ∧ d = keysD k ∧ ∀ b : Bool, (b = true ↔ k ∈ ks) → R (.bool b) δ1
theorem re_inSet {i : Nat} (ha : RE K ta ua) : RE K (tOp (rInM P w) ta (tVar i)) (dInSet P w i ua) := by
  intro c σ G H δ Q R E h k
  refine ha c σ G H δ _ _ E h fun d δ1 v G1 H1 h1 E1 e1 r1 => ?_
  obtain ⟨ks, key, hs, rfl, hR⟩ := h1
  obtain ⟨x, S, hσ, ⟨a, L, rfl, rfl, hL, pm, its⟩, _, _⟩ := E1.open_box hs
  obtain ⟨b, rfl, hb⟩ := r1.keys
  refine ⟨.ref a, hσ, b, a, key, L, rfl, rfl, E1.ex _ _ hb, hL, fun p hp => E1.ex _ _ (its p hp), fun q hq => ?_⟩
  exact k _ δ1 _ G1 H1 (hR q (hq.trans pm.mem_iff)) E1 e1 (.bl q)
def dAddSet (P : Program) (w : World) (i : Nat) (ua : DTE) : DTS := fun E δ => (∃ ks, δ[i]? = some (.box (boxSet P w ks))) ∧ ua δ fun d δ1 => ∃ (ks : List (List Key)) (k : List Key), δ1[i]? = some (.box (boxSet P w ks)) ∧ d = keysD k ∧ ks.length < 64 ∧ k ∉ ks ∧ E.nx (δ1.set i (.box (boxSet P w (k :: ks))))
theorem rs_addSet {i : Nat} (ha : RE K ta ua) : RS K (tDrop (tAddM P w (tVar i) (tCons ta tNil))) (dAddSet P w i ua) := by
  intro c σ G H δ D E EV h k
  obtain ⟨⟨ks0, h0⟩, h⟩ := h
  obtain ⟨x0, S0, hσ0, ⟨a0, L0, rfl, rfl, hL0, _, _⟩, _, _⟩ := EV.open_box h0
  refine ⟨.ref a0, hσ0, ⟨a0, L0, rfl, hL0⟩, ?_⟩
  refine ha c σ G H δ _ _ EV h fun d δ1 v G1 H1 h1 E1 e1 r1 => ?_
  obtain ⟨ks, key, hs, rfl, few, new, hN⟩ := h1
  obtain ⟨x, S, hσ, ⟨a, L, rfl, rfl, hL, pm, its⟩, free, put⟩ := E1.open_box hs
  rw [hσ0] at hσ
  obtain rfl : a0 = a := V.ref.inj (Option.some.inj (Option.some.inj hσ))
  obtain ⟨b, rfl, hb⟩ := r1.keys
  have len := pm.length_eq
  rw [List.length_map] at len
  refine ⟨a0, b, key, L, rfl, rfl, E1.ex _ _ hb, hL, fun p hp => E1.ex _ _ (its p hp), by omega, fun z => new (pm.mem_iff.mp z), fun L' pm' => ?_⟩
  have ga : G1 a0 = none := (free a0 List.mem_cons_self).1.g
  have z := put (boxSet P w (key :: ks)) (.ref a0) [a0] G1 (upd H1 a0 (SetM P w a0 L')) (Ex.refl _) (fun q o hq => by
      rw [upd_ne (ne_of_none hq ga)]
      exact E1.ex q o hq) (fun q o hq ho => by
      rw [upd_ne (fun z => hq (by rw [z]; exact List.mem_cons_self))]
      exact ho) (fun q _ _ g => g) (fun q hq => by
      rw [List.mem_singleton.mp hq]
      exact ⟨ga, (by rw [upd_same]; exact fun z => nomatch z), .inl List.mem_cons_self⟩)
    ⟨a0, L', rfl, rfl, upd_same, ?_, fun p hp => ?_⟩
  · rw [set_same hσ0] at z
    exact k.nx σ G1 _ _ hN z e1
  · exact (pm'.map Prod.snd).trans (List.Perm.cons key pm)
  · rcases List.mem_cons.mp (pm'.mem_iff.mp hp) with e | hp
    · rw [e]
      exact hb
    · exact its p hp
end
section
variable [XW] {X : Cx} {e : Expr} {te : TE} {ue : DTE} {p p2 pos : Pos}
theorem ds_newSet (i : Nat) {x : Str} (hN : X.N.Nodup) (hm : X.mg "set" = none) (hg : Gl X "set" := by rfl) (hv : bootBuiltins "set" = some (.type "set") := by decide +kernel) (hi : X.N[i]? = some x := by rfl) (hx : Loc X.env.scope x := by first | exact Or.inl rfl | exact Or.inr rfl)
    (hs : swapsWith (.Call (.Name "set" p2) [] [] pos) (some (.Name x p)) pos.line X.env = pure false := by rfl) (hf : X.fn x = true ∨ X.env.scope.names.lookup x = some .local := by first | exact .inl rfl | exact .inr rfl | assumption) {pos2 : Pos}
    (hs2 : swapsWith (.Call (.Name "set" p2) [] [] pos) (some (.Name x p)) pos2.line X.env = pure false := by rfl) :
    DS X (.Assign [.Name x p] (.Call (.Name "set" p2) [] [] pos) pos2) (tAsg (tCB (rNewM X.prog X.w) tNil) (gName i)) (dNewSet X.prog X.w i) := ⟨ps_set hN hi hx (pe_callTy0 cr_newM hg hm hv) hs2 hf, rs_newSet⟩
theorem dt_inSet (i : Nat) {x : Str} (hu : X.A.units + 65 < cLine) (he : DE X e te ue) (hN : X.N[i]? = some x := by rfl) (hv : Vis X.env.scope x := by first | exact Or.inl rfl | exact Or.inr (Or.inl rfl) | exact Or.inr (Or.inr rfl)) (hd : (x == ("__debug__" : Str)) = false := by decide)
    (hcd : (x == ("__classdict__" : Str)) = false := by decide) (hm : behindInMarks .In (.Name x p) = false := by rfl) : DT X (.Compare e [.In] [.Name x p] pos) (tTest (tOp (rInM X.prog X.w) te (tVar i))) (dTest (dInSet X.prog X.w i ue)) :=
  ⟨pt_cmpR (or_inM (by omega)) he.pe (pe_var hN hv hd hcd) hm, rt_test (re_inSet he.re)⟩
theorem ds_addSet (i : Nat) {x : Str} {apos cpos : Pos} (hu : X.A.units + 65 < cLine) (he : DE X e te ue) (hN : X.N[i]? = some x := by rfl) (hv : Vis X.env.scope x := by first | exact Or.inl rfl | exact Or.inr (Or.inl rfl) | exact Or.inr (Or.inr rfl)) (hd : (x == ("__debug__" : Str)) = false := by decide)
    (hcd : (x == ("__classdict__" : Str)) = false := by decide)
    (hb : attributeBase (.Name x p) "add" X.env (eval (.Name x p) X.env) = eval (.Name x p) X.env := by rfl)
    (hfew : ((backTo cpos (starEach [e] X.env)).all (fun x => !x.1) && (backToKw cpos (keywordEach [] X.env)).all (fun x => x.1.isSome)
      && decide ([e].length + ([] : List Keyword).length + (if ([] : List Keyword).isEmpty then 0 else 1) < 30)) = true := by rfl)
    (hline : (apos.endLine == cpos.line) = true := by rfl) (hst : starEach [e] X.env = (false, eval e X.env) :: starEach [] X.env := by rfl) (hpl : (backTo cpos (starEach [] X.env)).any (·.1) = false := by rfl)
    (hs : swapsWith (.Call (.Attribute (.Name x p) "add" apos) [e] [] cpos) none pos.line X.env = pure false := by rfl) :
    DS X (.Expr (.Call (.Attribute (.Name x p) "add" apos) [e] [] cpos) pos) (tDrop (tAddM X.prog X.w (tVar i) (tCons te tNil))) (dAddSet X.prog X.w i ue) :=
  ⟨ps_expr (pe_addM (by omega) (pe_var hN hv hd hcd) (pa_cons he.pe pa_nil hst) hb hfew hline hst hpl) hs, rs_addSet he.re⟩
end
end TL

set_option Elab.async false
set_option linter.all false
set_option maxRecDepth 100000
set_option maxHeartbeats 4000000
/-! TBd: over data: dicts of lists that are being lengthened, dicts that are being made. -/
namespace TL
open PySem PySem.Spec PyProof.Rows L2
/-- the first entry with this key -/
def kvAt {α : Type} (kvs : List (Key × α)) (k : Key) : Option α := (kvs.find? fun p => decide (p.1 = k)).map Prod.snd
/-- the entries as data -/
def kvD (kvs : List (Key × PyData)) : List (PyData × PyData) := kvs.map fun p => (keyD p.1, p.2)
def kvL (kvs : List (Key × List PyData)) : List (PyData × PyData) := kvs.map fun p => (keyD p.1, .list p.2)
/-- an entry stored -/
def kvPut {α : Type} (kvs : List (Key × α)) (k : Key) (x : α) : List (Key × α) := if (kvs.any fun p => decide (p.1 = k)) = true then kvs.map fun p => if p.1 = k then (p.1, x) else p else kvs ++ [(k, x)]
theorem kvAt_val {K : PySem.W.Frag} {G : Hp} {k : Key} : ∀ {es : List (Key × V)} {kvs : List (Key × PyData)}, RpKv K G es (kvD kvs) → (∀ d, kvAt kvs k = some d → ∃ v, valV es k = some v ∧ Rp K G v d) ∧ (kvAt kvs k = none → valV es k = none)
  | es, [], h => by
    cases h
    exact ⟨fun d e => by simp [kvAt] at e, fun _ => rfl⟩
  | es, (k0, d0) :: kvs, h => by
    have h : RpKv K G es ((keyD k0, d0) :: kvD kvs) := h
    generalize hq : (keyD k0, d0) :: kvD kvs = l at h
    cases h with
    | nil => cases hq
    | @cons k1 v es' d1 ds r t =>
      injection hq with q1 q2
      injection q1 with q1 q3
      subst q2 q3
      have ek : k0 = k1 := by
        cases k0 <;> cases k1 <;> simp [keyD] at q1 <;> first
          | (rw [q1])
          | cases q1
      subst ek
      obtain ⟨i1, i2⟩ := kvAt_val (k := k) t
      by_cases hk : k0 = k
      · subst hk
        refine ⟨fun d e => ?_, fun e => ?_⟩
        · simp [kvAt] at e
          subst e
          exact ⟨v, by simp [valV], r⟩
        · simp [kvAt] at e
      · have e1 : kvAt ((k0, d0) :: kvs) k = kvAt kvs k := by simp [kvAt, List.find?_cons, hk]
        have e2 : valV ((k0, v) :: es') k = valV es' k := by simp [valV, List.find?_cons, hk]
        rw [e1, e2]
        exact ⟨i1, i2⟩
theorem RpKv.put {K : PySem.W.Frag} {G : Hp} {k : Key} {v : V} {d : PyData} (r : Rp K G v d) : ∀ {es : List (Key × V)} {kvs : List (Key × PyData)}, RpKv K G es (kvD kvs) → RpKv K G (putK es k v) (kvD (kvPut kvs k d)) := by
  have split : ∀ {es : List (Key × V)} {k0 : Key} {d0 : PyData} {kvs : List (Key × PyData)}, RpKv K G es ((keyD k0, d0) :: kvD kvs) → ∃ v0 es', es = (k0, v0) :: es' ∧ Rp K G v0 d0 ∧ RpKv K G es' (kvD kvs) := by
    intro es k0 d0 kvs h
    generalize hq : (keyD k0, d0) :: kvD kvs = l at h
    cases h with
    | nil => cases hq
    | @cons k1 v es' d1 ds r t =>
      injection hq with q1 q2
      injection q1 with q1 q3
      subst q2 q3
      have ek : k0 = k1 := by
        cases k0 <;> cases k1 <;> simp [keyD] at q1 <;> first
          | (rw [q1])
          | cases q1
      subst ek
      exact ⟨v, es', rfl, r, t⟩
  have any : ∀ {es : List (Key × V)} {kvs : List (Key × PyData)}, RpKv K G es (kvD kvs) → (es.any fun p => decide (p.1 = k)) = kvs.any fun p => decide (p.1 = k) := by
    intro es kvs
    induction kvs generalizing es with
    | nil => intro h; cases h; rfl
    | cons p kvs ih =>
      intro h
      obtain ⟨v0, es', rfl, _, t⟩ := split h
      rw [List.any_cons, List.any_cons, ih t]
  have mp : ∀ {es : List (Key × V)} {kvs : List (Key × PyData)}, RpKv K G es (kvD kvs) → RpKv K G (es.map fun p => if p.1 = k then (p.1, v) else p) (kvD (kvs.map fun p => if p.1 = k then (p.1, d) else p)) := by
    intro es kvs
    induction kvs generalizing es with
    | nil => intro h; cases h; exact .nil
    | cons p kvs ih =>
      intro h
      obtain ⟨v0, es', rfl, r0, t⟩ := split h
      show RpKv K G ((if p.1 = k then (p.1, v) else (p.1, v0)) :: _) ((keyD (if p.1 = k then (p.1, d) else p).1, (if p.1 = k then (p.1, d) else p).2) :: _)
      by_cases hk : p.1 = k
      · rw [if_pos hk, if_pos hk]
        exact .cons r (ih t)
      · rw [if_neg hk, if_neg hk]
        exact .cons r0 (ih t)
  have snoc : ∀ {es : List (Key × V)} {kvs : List (Key × PyData)}, RpKv K G es (kvD kvs) → RpKv K G (es ++ [(k, v)]) (kvD (kvs ++ [(k, d)])) := by
    intro es kvs
    induction kvs generalizing es with
    | nil => intro h; cases h; exact .cons r .nil
    | cons p kvs ih =>
      intro h
      obtain ⟨v0, es', rfl, r0, t⟩ := split h
      exact .cons r0 (ih t)
  intro es kvs h
  unfold putK kvPut
  rw [any h]
  split
  · exact mp h
  · exact snoc h
/-! ### a dict that is being made -/
def boxD (kvs : List (Key × PyData)) : Box where
  at_ := fun K G H v S => ∃ (a : Addr) (es : List (Key × V)), v = .ref a ∧ S = [a] ∧ H a = some (.dK es) ∧ RpKv K G es (kvD kvs)
  up := by
    rintro K G G' H H' v S ⟨a, es, e1, e2, e3, e4⟩ eg eh
    exact ⟨a, es, e1, e2, by rw [eh a (by rw [e2]; exact List.mem_cons_self)]; exact e3, e4.up eg⟩
  live := by
    rintro K G H v S ⟨a, es, e1, rfl, e3, e4⟩ b hb
    rw [List.mem_singleton.mp hb, e3]
    exact fun z => nomatch z
theorem kvD_len (kvs : List (Key × PyData)) : (kvD kvs).length = kvs.length := by unfold kvD; rw [List.length_map]
section
variable [XW] {K : PySem.W.Frag} {te : TE} {ue : DTE}
def dNewDict (i : Nat) : DTS := fun E δ => E.nx (δ.set i (.box (boxD [])))
theorem rs_newDict {i : Nat} : RS K (tAsg tDNewK (gName i)) (dNewDict i) := by
  intro c σ G H δ D E EV h k p hp
  refine k.nx _ G _ _ h (EV.new_box (Al.tmp EV.ex hp) (S := [p]) (fun a ha => ?_) ⟨p, [], rfl, rfl, upd_same, .nil⟩) (Ex.refl _)
  rw [List.mem_singleton.mp ha]
  exact ⟨EV.ex.none hp, hp⟩
/-- d[k] = e, k a name -/
def dPutV (i j : Nat) (ue : DTE) : DTS := fun E δ => ue δ fun d δ1 => ∃ (kvs : List (Key × PyData)) (k : Key), δ1[i]? = some (.box (boxD kvs)) ∧ δ1[j]? = some (.dat (keyD k)) ∧ kvs.length < sizeLine ∧ E.nx (δ1.set i (.box (boxD (kvPut kvs k d))))
theorem rs_putV {i j : Nat} (he : RE K te ue) : RS K (sDPut (tVar i) (tVar j) te) (dPutV i j ue) := by
  intro c σ G H δ D E EV h k
  refine he c σ G H δ _ _ EV h fun d δ1 v G1 H1 h1 E1 e1 r1 => ?_
  obtain ⟨kvs, key, hs, hj, few, hN⟩ := h1
  obtain ⟨x, S, hσ, ⟨a, es, rfl, rfl, ha, r⟩, free, put⟩ := E1.open_box hs
  obtain ⟨y, hy, ry⟩ := E1.sl j _ hj
  have ry := rp_key ry
  subst ry
  have len : es.length < sizeLine := by
    have := r.len
    rw [kvD_len] at this
    omega
  refine ⟨.ref a, hσ, kV key, hy, a, _, rfl, DPut.k ha len, ?_⟩
  have ga : G1 a = none := (free a List.mem_cons_self).1.g
  have z := put (boxD (kvPut kvs key d)) (.ref a) [a] G1 (upd H1 a (.dK (putK es key v))) (Ex.refl _) (fun q o hq => by
      rw [upd_ne (ne_of_none hq ga)]
      exact E1.ex q o hq) (fun q o hq ho => by
      rw [upd_ne (fun z => hq (by rw [z]; exact List.mem_cons_self))]
      exact ho) (fun q _ _ g => g) (fun q hq => by
      rw [List.mem_singleton.mp hq]
      exact ⟨ga, (by rw [upd_same]; exact fun z => nomatch z), .inl List.mem_cons_self⟩)
    ⟨a, _, rfl, rfl, upd_same, RpKv.put r1 r⟩
  rw [set_same hσ] at z
  exact k.nx σ G1 _ _ hN z e1
/-- a name, its dict made -/
def dTold (i : Nat) : DTE := fun δ R => ∃ kvs, δ[i]? = some (.box (boxD kvs)) ∧ R (.dict (kvD kvs)) (δ.set i (.dat (.dict (kvD kvs))))
theorem re_told {i : Nat} : RE K (tFix (tVar i)) (dTold i) := by
  intro c σ G H δ Q R E h k
  obtain ⟨kvs, hs, hR⟩ := h
  obtain ⟨x, S, hσ, ⟨a, es, rfl, rfl, ha, r⟩, free, put⟩ := E.open_box hs
  refine ⟨.ref a, hσ, a, es, rfl, ha, fun o => ?_⟩
  have ga : G a = none := (free a List.mem_cons_self).1.g
  have eg : Ex G (upd G a (.frz o (.dK es))) := Ex.new ga
  have rp : Rp K (upd G a (.frz o (.dK es))) (.ref a) (.dict (kvD kvs)) := .dic upd_same (r.up eg) (r.noErr)
  have z := (put bxNo (.ref a) [] (upd G a (.frz o (.dK es))) (upd H a (.frz o (.dK es))) eg (fun q u hq => by
      by_cases hqa : q = a
      · rw [hqa, upd_same] at hq ⊢
        exact hq
      · rw [upd_ne hqa] at hq ⊢
        exact E.ex q u hq) (fun q u hq hu => by
      rw [upd_ne (fun z => hq (by rw [z]; exact List.mem_cons_self))]
      exact hu) (fun q hq _ g => by
      rw [upd_ne (fun z => hq (by rw [z]; exact List.mem_cons_self))]
      exact g) (fun q hq => (List.not_mem_nil hq).elim) rfl).put (i := i) rp
  rw [set_same hσ, set_same hσ, List.set_set] at z
  exact k _ _ _ _ _ hR z eg rp
end
end TL

set_option Elab.async false
set_option linter.all false
set_option maxRecDepth 100000
set_option maxHeartbeats 4000000
/-! TBe: over data: dicts of lists that are being lengthened. -/
namespace TL
open PySem PySem.Spec PyProof.Rows L2
/-- lists of one's own, and what is in them -/
inductive Lists (K : PySem.W.Frag) (G H : Hp) : List (Key × Addr) → List (Key × List PyData) → Prop
  | nil : Lists K G H [] []
  | cons {k : Key} {p : Addr} {xs : List V} {ds : List PyData} {es : List (Key × Addr)} {kvs : List (Key × List PyData)} : H p = some (.lst xs) → RpAll K G xs ds → Lists K G H es kvs → Lists K G H ((k, p) :: es) ((k, ds) :: kvs)
theorem Lists.up {K : PySem.W.Frag} {G G' H H' : Hp} (eg : Ex G G') : ∀ {es : List (Key × Addr)} {kvs : List (Key × List PyData)}, Lists K G H es kvs → (∀ a ∈ es.map Prod.snd, H' a = H a) → Lists K G' H' es kvs
  | _, _, .nil, _ => .nil
  | _, _, .cons (p := p) h r t, e => .cons (by rw [e p (by simp)]; exact h) (r.up eg) (t.up eg fun a ha => e a (List.mem_cons_of_mem _ ha))
theorem Lists.len {K : PySem.W.Frag} {G H : Hp} : ∀ {es : List (Key × Addr)} {kvs : List (Key × List PyData)}, Lists K G H es kvs → es.length = kvs.length
  | _, _, .nil => rfl
  | _, _, .cons _ _ t => by rw [List.length_cons, List.length_cons, t.len]
theorem Lists.live {K : PySem.W.Frag} {G H : Hp} : ∀ {es : List (Key × Addr)} {kvs : List (Key × List PyData)}, Lists K G H es kvs → ∀ a ∈ es.map Prod.snd, H a ≠ none
  | _, _, .nil, a, h => (List.not_mem_nil h).elim
  | _, _, .cons (p := p) h r t, a, ha => by
    rcases List.mem_cons.mp ha with e | ha
    · have e : a = p := e
      rw [e, h]
      exact fun z => nomatch z
    · exact t.live a ha
/-- as the dict has it -/
def refs (es : List (Key × Addr)) : List (Key × V) := es.map fun e => (e.1, V.ref e.2)
def boxDL (kvs : List (Key × List PyData)) : Box where
  at_ := fun K G H v S => ∃ (a : Addr) (es : List (Key × Addr)), v = .ref a ∧ S = a :: es.map Prod.snd ∧ S.Nodup ∧ H a = some (.dK (refs es)) ∧ Lists K G H es kvs
  up := by
    rintro K G G' H H' v S ⟨a, es, e1, e2, e3, e4, e5⟩ eg eh
    subst e2
    exact ⟨a, es, e1, rfl, e3, by rw [eh a List.mem_cons_self]; exact e4, e5.up eg fun b hb => eh b (List.mem_cons_of_mem _ hb)⟩
  live := by
    rintro K G H v S ⟨a, es, e1, rfl, e3, e4, e5⟩ b hb
    rcases List.mem_cons.mp hb with e | hb
    · rw [e, e4]
      exact fun z => nomatch z
    · exact e5.live b hb
/-- the first list with this key is lengthened -/
def kvApp (k : Key) (x : PyData) : List (Key × List PyData) → List (Key × List PyData)
  | [] => []
  | (k0, ds) :: r => if k0 = k then (k0, ds ++ [x]) :: r else (k0, ds) :: kvApp k x r
theorem Lists.at_ {K : PySem.W.Frag} {G H : Hp} {k : Key} : ∀ {es : List (Key × Addr)} {kvs : List (Key × List PyData)}, Lists K G H es kvs → (kvAt kvs k = none → valV (refs es) k = none) ∧ ∀ ds, kvAt kvs k = some ds → ∃ (p : Addr) (xs : List V), valV (refs es) k = some (.ref p) ∧ p ∈ es.map Prod.snd ∧ H p = some (.lst xs) ∧ RpAll K G xs ds ∧
    ((es.map Prod.snd).Nodup → ∀ (v : V) (x : PyData), Rp K G v x → Lists K G (upd H p (.lst (xs ++ [v]))) es (kvApp k x kvs))
  | _, _, .nil => ⟨fun _ => rfl, fun ds e => by simp [kvAt] at e⟩
  | _, _, .cons (k := k0) (p := p) (xs := xs) (ds := d0) (es := es) (kvs := kvs) h r t => by
    obtain ⟨i1, i2⟩ := Lists.at_ (k := k) t
    by_cases hk : k0 = k
    · subst hk
      refine ⟨fun e => by simp [kvAt] at e, fun ds e => ?_⟩
      have e : d0 = ds := by simpa [kvAt] using e
      subst e
      refine ⟨p, xs, by simp [refs, valV], by simp, h, r, fun nd v x rv => ?_⟩
      have np : p ∉ es.map Prod.snd := (List.nodup_cons.mp nd).1
      show Lists K G _ ((k0, p) :: es) (if k0 = k0 then (k0, d0 ++ [x]) :: kvs else _)
      rw [if_pos rfl]
      exact .cons upd_same (r.app (.one rv)) (t.up (Ex.refl _) fun a ha => upd_ne fun z => np (by rw [← z]; exact ha))
    · have e1 : kvAt ((k0, d0) :: kvs) k = kvAt kvs k := by simp [kvAt, List.find?_cons, hk]
      have e2 : valV (refs ((k0, p) :: es)) k = valV (refs es) k := by simp [refs, valV, List.find?_cons, hk]
      rw [e1, e2]
      refine ⟨i1, fun ds e => ?_⟩
      obtain ⟨q, ys, j1, j2, j3, j4, j5⟩ := i2 ds e
      refine ⟨q, ys, j1, List.mem_cons_of_mem _ j2, j3, j4, fun nd v x rv => ?_⟩
      obtain ⟨np, nd⟩ := List.nodup_cons.mp nd
      show Lists K G _ ((k0, p) :: es) (if k0 = k then _ else (k0, d0) :: kvApp k x kvs)
      rw [if_neg hk]
      exact .cons (by rw [upd_ne (fun z => np (by show p ∈ _; rw [z]; exact j2))]; exact h) r (j5 nd v x rv)
section
variable [XW] {K : PySem.W.Frag} {te : TE} {ue : DTE}
/-- whether a key stands in a dict of lists -/
def dInDL (i : Nat) (ue : DTE) : DTE := fun δ R => ue δ fun d δ1 => ∃ (kvs : List (Key × List PyData)) (k : Key), δ1[i]? = some (.box (boxDL kvs)) ∧ d = keyD k ∧ R (.bool (kvAt kvs k).isSome) δ1
theorem re_inDL {i : Nat} (he : RE K te ue) : RE K (tDIn te (tVar i)) (dInDL i ue) := by
  intro c σ G H δ Q R E h k
  refine he c σ G H δ _ _ E h fun d δ1 v G1 H1 h1 E1 e1 r1 => ?_
  obtain ⟨kvs, key, hs, rfl, hR⟩ := h1
  obtain ⟨x, S, hσ, ⟨a, es, rfl, rfl, nd, ha, ls⟩, _, _⟩ := E1.open_box hs
  have ev := rp_key r1
  subst ev
  refine ⟨.ref a, hσ, a, _, rfl, DGet.k ha, ?_⟩
  obtain ⟨l1, l2⟩ := Lists.at_ (k := key) ls
  have e : (valV (refs es) key).isSome = (kvAt kvs key).isSome := by
    cases q : kvAt kvs key with
    | none => rw [l1 q]; rfl
    | some ds =>
      obtain ⟨p, xs, z, _⟩ := l2 ds q
      rw [z]; rfl
  rw [e]
  exact k _ δ1 _ G1 H1 hR E1 e1 (.bl _)
/-- d[e].append(name) -/
def dAppDL (i j : Nat) (ue : DTE) : DTS := fun E δ => (∃ kvs, δ[i]? = some (.box (boxDL kvs))) ∧ ue δ fun d δ1 => ∃ (kvs : List (Key × List PyData)) (k : Key) (ds : List PyData) (x : PyData), δ1[i]? = some (.box (boxDL kvs)) ∧ d = keyD k ∧ kvAt kvs k = some ds ∧ δ1[j]? = some (.dat x) ∧ ds.length < sizeLine ∧
  E.nx (δ1.set i (.box (boxDL (kvApp k x kvs))))
theorem rs_appDL {i j : Nat} (he : RE K te ue) : RS K (tDrop (tBM K "list" rAppend (tDGet (tVar i) te) (tCons (tVar j) tNil))) (dAppDL i j ue) := by
  intro c σ G H δ D E EV h k
  obtain ⟨⟨kvs0, h0⟩, h⟩ := h
  obtain ⟨x0, S0, hσ0, ⟨a0, es0, rfl, rfl, _, _, _⟩, _, _⟩ := EV.open_box h0
  refine ⟨.ref a0, hσ0, ?_⟩
  refine he c σ G H δ _ _ EV h fun d δ1 v G1 H1 h1 E1 e1 r1 => ?_
  obtain ⟨kvs, key, ds, x, hs, rfl, hk, hj, few, hN⟩ := h1
  obtain ⟨x1, S, hσ, ⟨a, es, rfl, rfl, nd, ha, ls⟩, free, put⟩ := E1.open_box hs
  rw [hσ0] at hσ
  obtain rfl : a0 = a := V.ref.inj (Option.some.inj (Option.some.inj hσ))
  have ev := rp_key r1
  subst ev
  obtain ⟨_, l2⟩ := Lists.at_ (k := key) ls
  obtain ⟨p, xs, q1, q2, q3, q4, q5⟩ := l2 ds hk
  refine ⟨a0, .ref p, rfl, ?_, .inl ⟨rfl, xs, .inl (.inl q3)⟩, ?_⟩
  · rw [← q1]
    exact DGet.k ha
  obtain ⟨y, hy, ry⟩ := E1.sl j _ hj
  refine ⟨y, hy, p, xs, y, rfl, rfl, q3, by rw [q4.len]; exact few, ?_⟩
  have pS : p ∈ a0 :: es.map Prod.snd := List.mem_cons_of_mem _ q2
  have gp : G1 p = none := (free p pS).1.g
  have ne : a0 ≠ p := fun z => (List.nodup_cons.mp nd).1 (by rw [z]; exact q2)
  have z := put (boxDL (kvApp key x kvs)) (.ref a0) (a0 :: es.map Prod.snd) G1 (upd H1 p (.lst (xs ++ [y]))) (Ex.refl _) (fun q o hq => by
      rw [upd_ne (ne_of_none hq gp)]
      exact E1.ex q o hq) (fun q o hq ho => by
      rw [upd_ne (fun z => hq (by rw [z]; exact pS))]
      exact ho) (fun q _ _ g => g) (fun q hq => ⟨(free q hq).1.g, (by
      by_cases hqp : q = p
      · rw [hqp, upd_same]; exact fun z => nomatch z
      · rw [upd_ne hqp]; exact (free q hq).2), .inl hq⟩)
    ⟨a0, es, rfl, rfl, nd, by rw [upd_ne ne]; exact ha, q5 (List.nodup_cons.mp nd).2 y x ry⟩
  rw [set_same hσ0] at z
  exact k.nx σ G1 _ _ hN z e1
end
end TL

set_option Elab.async false
set_option linter.all false
set_option maxRecDepth 100000
set_option maxHeartbeats 4000000
/-! TBf: over data: a dict of empty lists is made; a dict of lists is told; what is got of a told dict, its items; enumerate. -/
namespace TL
open PySem PySem.Spec PyProof.Rows L2
section
variable [XW] {K : PySem.W.Frag} {c : Cf} {G H : Hp} {σ : L2.St} {δ : List Sl}
/-- what is hidden is forgotten, in part -/
theorem EnvOk.hid_to {hs : List (Addr × HO)} (E : EnvOk K c G H σ δ) (hh : ∀ x ∈ hs, x ∈ c.hid) : EnvOk K { c with hid := hs } G H σ δ where
  g0 := E.g0
  xw := E.xw
  ex := E.ex
  fr := E.fr
  fs := E.fs
  tg := E.tg
  len := E.len
  sl := fun i s h => by
    have z := E.sl i s h
    cases s with
    | no => trivial
    | box b => trivial
    | dat d => exact z
    | scr es => exact z
    | own t ds => exact z
  ap := E.ap
  hd := fun p o h => E.hd p o (hh _ h)
  bx := E.bx.like rfl rfl rfl hh
/-- what was hidden is put into a slot as a box -/
theorem EnvOk.give_box {hs : List (Addr × HO)} (E : EnvOk K { c with hid := hs ++ c.hid } G H σ δ) {S : List Addr} (hS : ∀ a ∈ S, (∃ o, (a, o) ∈ hs) ∧ ∀ o, (a, o) ∉ c.hid) {b : Box} {x : V} (hb : b.at_ K G H x S) (i : Nat) :
    EnvOk K c G H (σ.set i (some x)) (δ.set i (.box b)) := by
  have E0 : EnvOk K c G H σ δ := E.hid_to (hs := c.hid) fun x hx => List.mem_append_right _ hx
  have at_ : ∀ a ∈ S, G a = none ∧ c.H0 a = none ∧ (∀ j, j < c.n → a ≠ c.τ j) ∧ ∀ (j : Nat) (t : Option Nat) (ds : List PyData), δ[j]? = some (.own t ds) → σ[j]? ≠ some (some (.ref a)) := fun a ha => by
    obtain ⟨⟨o, ho⟩, _⟩ := hS a ha
    obtain ⟨a1, a2, a3, a4, a5⟩ := E.hd a o (List.mem_append_left _ ho)
    exact ⟨a2, a3, a4, a5⟩
  exact {
    xw := E0.xw, g0 := E0.g0, ex := E0.ex, fr := E0.fr, fs := E0.fs, tg := E0.tg
    len := by rw [List.length_set, List.length_set, E0.len]
    sl := fun j s h => by
      rw [List.getElem?_set] at h ⊢
      by_cases hj : i = j
      · rw [if_pos hj] at h
        split at h
        · cases h
          trivial
        · cases h
      · rw [if_neg hj] at h ⊢
        exact E0.sl j s h
    ap := fun p q t1 d1 t2 d2 hpq h1 h2 => by
      obtain ⟨hp, h1⟩ := set_own (by intro t d z; cases z) h1
      obtain ⟨hq, h2⟩ := set_own (by intro t d z; cases z) h2
      rw [List.getElem?_set_ne hp, List.getElem?_set_ne hq]
      exact E0.ap p q t1 d1 t2 d2 hpq h1 h2
    hd := fun p o h => by
      obtain ⟨a1, a2, a3, a4, a5⟩ := E0.hd p o h
      refine ⟨a1, a2, a3, a4, fun j t ds hj => ?_⟩
      obtain ⟨hi, hj⟩ := set_own (by intro t d z; cases z) hj
      rw [List.getElem?_set_ne hi]
      exact a5 j t ds hj
    bx := by
      obtain ⟨F, hF⟩ := E.bx
      have own : ∀ (j : Nat) (t : Option Nat) (ds : List PyData), (δ.set i (Sl.box b))[j]? = some (.own t ds) → i ≠ j ∧ δ[j]? = some (.own t ds) := fun j t ds h => set_own (by intro t d z; cases z) h
      refine ⟨fun j => if j = i then S else F j, fun j bj hj => ?_⟩
      by_cases hji : i = j
      · subst hji
        rw [List.getElem?_set, if_pos rfl] at hj
        split at hj
        · cases hj
          rw [List.getElem?_set, if_pos rfl, if_pos (by rw [E.len]; assumption)]
          simp only [if_true]
          refine ⟨⟨x, rfl, hb⟩, fun a ha => ?_, fun j' bj' hne hj' a ha => ?_⟩
          · obtain ⟨a1, a2, a3, a4⟩ := at_ a ha
            refine ⟨a1, a2, a3, (hS a ha).2, fun j t ds h => ?_⟩
            obtain ⟨hi, h⟩ := own j t ds h
            rw [List.getElem?_set_ne hi]
            exact a4 j t ds h
          · rw [if_neg hne]
            rw [List.getElem?_set, if_neg (fun z => hne z.symm)] at hj'
            intro z
            obtain ⟨⟨o, ho⟩, _⟩ := hS a ha
            exact ((hF j' bj' hj').2.1 a z).hd o (List.mem_append_left _ ho)
        · cases hj
      · rw [List.getElem?_set, if_neg hji] at hj
        rw [List.getElem?_set, if_neg hji]
        obtain ⟨hy, hyf, hyd⟩ := hF j bj hj
        have hne : ¬ j = i := fun z => hji z.symm
        simp only [if_neg hne]
        refine ⟨hy, fun a ha => ?_, fun j' bj' hne' hj' a ha => ?_⟩
        · have f := hyf a ha
          refine ⟨f.g, f.h0, f.tg, fun o h => f.hd o (List.mem_append_right _ h), fun j t ds h => ?_⟩
          obtain ⟨hi, h⟩ := own j t ds h
          rw [List.getElem?_set_ne hi]
          exact f.ow j t ds h
        · by_cases hj'i : j' = i
          · subst hj'i
            rw [if_pos rfl]
            intro z
            obtain ⟨⟨o, ho⟩, _⟩ := hS a z
            exact (hyf a ha).hd o (List.mem_append_left _ ho)
          · rw [if_neg hj'i]
            rw [List.getElem?_set, if_neg (fun z => hj'i z.symm)] at hj'
            exact hyd j' bj' hne' hj' a ha }
end
/-! ### {x: [] for x in ..} -/
/-- the keys, each once, each with nothing -/
def newL : List Key → List (Key × List PyData) → List (Key × List PyData)
  | [], acc => acc
  | k :: r, acc => newL r (if (acc.any fun p => decide (p.1 = k)) = true then acc else acc ++ [(k, [])])
def putE (es : List (Key × Addr)) (k : Key) (p : Addr) : List (Key × Addr) := if (es.any fun e => decide (e.1 = k)) = true then es.map fun e => if e.1 = k then (e.1, p) else e else es ++ [(k, p)]
theorem refs_put (es : List (Key × Addr)) (k : Key) (p : Addr) : putK (refs es) k (.ref p) = refs (putE es k p) := by
  have any : ((refs es).any fun e => decide (e.1 = k)) = es.any fun e => decide (e.1 = k) := by
    unfold refs
    rw [List.any_map]
    rfl
  unfold putK putE
  rw [any]
  split
  · unfold refs
    rw [List.map_map, List.map_map]
    refine List.map_congr_left fun e _ => ?_
    show (if e.1 = k then (e.1, V.ref p) else (e.1, V.ref e.2)) = ((if e.1 = k then (e.1, p) else e).1, V.ref (if e.1 = k then (e.1, p) else e).2)
    split <;> rfl
  · unfold refs
    rw [List.map_append]
    rfl
/-- so far all lists are empty -/
structure Empties (es : List (Key × Addr)) (kvs : List (Key × List PyData)) : Prop where
  ks : es.map Prod.fst = kvs.map Prod.fst
  nil : ∀ p ∈ kvs, p.2 = []
  one : (es.map Prod.fst).Nodup
  nd : (es.map Prod.snd).Nodup
theorem mem_putE {es : List (Key × Addr)} {k : Key} {p a : Addr} (h : a ∈ (putE es k p).map Prod.snd) : a = p ∨ a ∈ es.map Prod.snd := by
  unfold putE at h
  split at h
  · rw [List.map_map] at h
    obtain ⟨e, he, rfl⟩ := List.mem_map.mp h
    by_cases hk : e.1 = k
    · left
      show (if e.1 = k then (e.1, p) else e).2 = p
      rw [if_pos hk]
    · right
      refine List.mem_map.mpr ⟨e, he, ?_⟩
      show _ = (if e.1 = k then (e.1, p) else e).2
      rw [if_neg hk]
  · rw [List.map_append, List.mem_append] at h
    rcases h with h | h
    · exact .inr h
    · exact .inl (List.mem_singleton.mp h)
theorem any_fst {α : Type} (l : List (Key × α)) (k : Key) : (l.any fun e => decide (e.1 = k)) = true ↔ k ∈ l.map Prod.fst := by
  rw [List.any_eq_true, List.mem_map]
  constructor
  · rintro ⟨e, he, h⟩
    exact ⟨e, he, of_decide_eq_true h⟩
  · rintro ⟨e, he, h⟩
    exact ⟨e, he, decide_eq_true h⟩
theorem Empties.put {es : List (Key × Addr)} {kvs : List (Key × List PyData)} (m : Empties es kvs) (k : Key) {p : Addr} (new : p ∉ es.map Prod.snd) : Empties (putE es k p) (if (kvs.any fun e => decide (e.1 = k)) = true then kvs else kvs ++ [(k, [])]) := by
  have same : (es.any fun e => decide (e.1 = k)) = kvs.any fun e => decide (e.1 = k) := by rw [Bool.eq_iff_iff, any_fst, any_fst, m.ks]
  unfold putE
  rw [same]
  have fst : ∀ l : List (Key × Addr), (l.map fun e => if e.1 = k then (e.1, p) else e).map Prod.fst = l.map Prod.fst := fun l => by
    rw [List.map_map]
    refine List.map_congr_left fun e _ => ?_
    show (if e.1 = k then (e.1, p) else e).1 = e.1
    split <;> rfl
  by_cases h : (kvs.any fun e => decide (e.1 = k)) = true
  · rw [if_pos h, if_pos h]
    refine ⟨by rw [fst, m.ks], m.nil, by rw [fst]; exact m.one, ?_⟩
    -- the one key's address is exchanged
    have key : ∀ l : List (Key × Addr), (l.map Prod.fst).Nodup → (l.map Prod.snd).Nodup → p ∉ l.map Prod.snd → ((l.map fun e => if e.1 = k then (e.1, p) else e).map Prod.snd).Nodup ∧ (k ∉ l.map Prod.fst → p ∉ (l.map fun e => if e.1 = k then (e.1, p) else e).map Prod.snd) := by
      intro l
      induction l with
      | nil => exact fun _ _ _ => ⟨List.nodup_nil, fun _ z => by cases z⟩
      | cons e r ih =>
        intro n1 n2 n3
        obtain ⟨a1, a2⟩ := List.nodup_cons.mp n1
        obtain ⟨b1, b2⟩ := List.nodup_cons.mp n2
        have c1 : p ≠ e.2 := fun z => n3 (by rw [z]; exact List.mem_cons_self)
        have c2 : p ∉ r.map Prod.snd := fun z => n3 (List.mem_cons_of_mem _ z)
        obtain ⟨i1, i2⟩ := ih a2 b2 c2
        rw [List.map_cons, List.map_cons]
        have sub : ∀ x, x ∈ (r.map fun e => if e.1 = k then (e.1, p) else e).map Prod.snd → x = p ∨ x ∈ r.map Prod.snd := fun x hx => by
          rw [List.map_map] at hx
          obtain ⟨e', he', rfl⟩ := List.mem_map.mp hx
          by_cases hk : e'.1 = k
          · left
            show (if e'.1 = k then (e'.1, p) else e').2 = p
            rw [if_pos hk]
          · right
            refine List.mem_map.mpr ⟨e', he', ?_⟩
            show _ = (if e'.1 = k then (e'.1, p) else e').2
            rw [if_neg hk]
        by_cases hk : e.1 = k
        · refine ⟨List.nodup_cons.mpr ⟨?_, i1⟩, fun z => absurd (by rw [List.map_cons, hk]; exact List.mem_cons_self) z⟩
          rw [if_pos hk]
          exact i2 (by rw [← hk]; exact a1)
        · refine ⟨List.nodup_cons.mpr ⟨?_, i1⟩, fun z => ?_⟩
          · rw [if_neg hk]
            intro z
            rcases sub _ z with z | z
            · exact c1 z.symm
            · exact b1 z
          · rw [if_neg hk]
            rw [List.map_cons] at z
            intro y
            rcases List.mem_cons.mp y with y | y
            · exact c1 y
            · exact i2 (fun q => z (List.mem_cons_of_mem _ q)) y
    exact (key es m.one m.nd new).1
  · rw [if_neg h, if_neg h]
    have hk : k ∉ es.map Prod.fst := fun z => h (by rw [← same]; exact (any_fst es k).mpr z)
    refine ⟨by rw [List.map_append, List.map_append, m.ks]; rfl, fun q hq => ?_, ?_, ?_⟩
    · rcases List.mem_append.mp hq with hq | hq
      · exact m.nil q hq
      · rw [List.mem_singleton.mp hq]
    · rw [List.map_append]
      exact List.nodup_append.mpr ⟨m.one, List.nodup_cons.mpr ⟨List.not_mem_nil, List.nodup_nil⟩, fun a ha b hb z => hk (by have hb : b = k := List.mem_singleton.mp hb; rw [← hb, ← z]; exact ha)⟩
    · rw [List.map_append]
      exact List.nodup_append.mpr ⟨m.nd, List.nodup_cons.mpr ⟨List.not_mem_nil, List.nodup_nil⟩, fun a ha b hb z => new (by have hb : b = p := List.mem_singleton.mp hb; rw [← hb, ← z]; exact ha)⟩
theorem Empties.lists {K : PySem.W.Frag} {G H : Hp} : ∀ {es : List (Key × Addr)} {kvs : List (Key × List PyData)}, es.map Prod.fst = kvs.map Prod.fst → (∀ p ∈ kvs, p.2 = []) → (∀ a ∈ es.map Prod.snd, H a = some (.lst [])) → Lists K G H es kvs
  | [], [], _, _, _ => .nil
  | [], _ :: _, h, _, _ => by cases h
  | _ :: _, [], h, _, _ => by cases h
  | (k, p) :: es, (k', ds) :: kvs, h, n, l => by
    have h1 : k = k' := (List.cons.inj h).1
    have h2 : ds = [] := n _ List.mem_cons_self
    subst h1 h2
    exact .cons (l p List.mem_cons_self) .nil (Empties.lists (List.cons.inj h).2 (fun q hq => n q (List.mem_cons_of_mem _ hq)) fun a ha => l a (List.mem_cons_of_mem _ ha))
section
variable [XW] {K : PySem.W.Frag} {w : TI} {uw : DTI}
def dNewDL (i j : Nat) (vs : List Nat) (uw : DTI) : DTS := fun E δ => uw δ fun ds δ1 => wipeS δ1 vs = δ1 ∧ ∃ ks : List Key, ds = ks.map keyD ∧ ks.length < sizeLine ∧ j < δ1.length ∧ E.nx (δ1.set i (.box (boxDL (newL ks []))))
theorem putE_len (es : List (Key × Addr)) (k : Key) (p : Addr) : (putE es k p).length ≤ es.length + 1 := by
  unfold putE
  split
  · rw [List.length_map]; omega
  · rw [List.length_append]; exact Nat.le_refl _
theorem rs_newDL {i j : Nat} (hw : RI K w uw) : RS K (tAsg (tDc w (gName j) tYes (tVar j) (tLst tNil) [j]) (gName i)) (dNewDL i j [j] uw) := by
  intro c σ G H δ D E EV h k
  refine hw c σ G H δ _ _ EV h fun ds δ1 J G1 H1 h1 E1 e1 Y => ?_
  obtain ⟨hw, ks, rfl, few, jl, hN⟩ := h1
  intro A hA
  have h0 := k.h0
  -- hidden: the dict, and all lists that were made for it
  let hid : List (Key × Addr) → List Addr → List (Addr × HO) := fun es ps => (A, .dK (refs es)) :: ps.map fun p => (p, HO.lst [])
  have hj : ∀ (σ' : L2.St), σ'.length = σ.length → True := fun _ _ => trivial
  refine ⟨fun n m H => ∃ (G : Hp) (es : List (Key × Addr)) (kvs : List (Key × List PyData)) (ps : List Addr), EnvOk K { c with hid := hid es ps ++ c.hid } G H σ δ1 ∧ Ex G1 G ∧ Empties es kvs ∧ (∀ a ∈ es.map Prod.snd, a ∈ ps) ∧ A ∉ ps ∧ n ≤ ks.length ∧ es.length ≤ n ∧ m = ks.length - n ∧ newL ks [] = newL (ks.drop n) kvs,
    ⟨ks.length, G1, [], [], [], E1.hide hA (E1.new0 hA), Ex.refl _, ⟨rfl, fun p hp => (List.not_mem_nil hp).elim, List.nodup_nil, List.nodup_nil⟩, fun a ha => ha, List.not_mem_nil, Nat.zero_le _, Nat.le_refl _, rfl, rfl⟩, ?_⟩
  rintro n m H ⟨G, es, kvs, ps, E, e, mt, sub, hAp, hn, hl, rfl, hnew⟩
  have lenD : (ks.map keyD).length = ks.length := List.length_map _
  by_cases hlt : n < ks.length
  · have hd : (ks.map keyD)[n]? = some (keyD ks[n]) := by rw [List.getElem?_map, List.getElem?_eq_getElem hlt]; rfl
    rw [List.drop_eq_getElem_cons hlt] at hnew
    obtain ⟨hgo, hy⟩ := Y.go G H n _ e E.ex hd
    refine .inr ⟨hgo, fun H' => ∃ (G : Hp) (es : List (Key × Addr)) (kvs : List (Key × List PyData)) (ps : List Addr), EnvOk K { c with hid := hid es ps ++ c.hid } G H' σ δ1 ∧ Ex G1 G ∧ Empties es kvs ∧ (∀ a ∈ es.map Prod.snd, a ∈ ps) ∧ A ∉ ps ∧ es.length ≤ n + 1 ∧ newL ks [] = newL (ks.drop (n + 1)) kvs,
      fun H' ⟨G', es', kvs', ps', a1, a2, a3, a4, a5, a6, a7⟩ => ⟨ks.length - (n + 1), by omega, G', es', kvs', ps', a1, a2, a3, a4, a5, hlt, a6, rfl, a7⟩, fun x H2 hx => ?_⟩
    obtain ⟨G2, AL, rx⟩ := hy x H2 hx
    have ev := rp_key rx
    subst ev
    have E2 := E.al AL
    show L2.wipe (List.set (L2.wipe σ [j]) j (some (kV ks[n]))) [j] = L2.wipe σ [j] ∧ _
    have wl : L2.wipe (List.set (L2.wipe σ [j]) j (some (kV ks[n]))) [j] = L2.wipe σ [j] := wipe_eq (by rw [List.length_set, wipe_length]) fun q hq => by
      have hq : ¬ j = q := fun z => hq (by rw [z]; exact List.mem_singleton.mpr rfl)
      rw [List.getElem?_set_ne hq, wipe_get, if_neg fun z => hq (List.mem_singleton.mp z.1).symm]
    refine ⟨wl, ?_⟩
    have hjl : j < σ.length := by rw [E.len]; exact jl
    simp only [tYes, if_true]
    · refine ⟨kV ks[n], by rw [List.getElem?_set, if_pos rfl, if_pos (by rw [wipe_length]; exact hjl)], ?_⟩
      refine ⟨by show 0 ≤ 16777216; decide, fun p hp => ?_⟩
      refine ⟨refs es, ks[n], rfl, ?_, ?_, ?_⟩
      · have hA2 : H2 A = some (.dK (refs es)) := (E2.hd A _ (List.mem_append_left _ List.mem_cons_self)).1
        rw [upd_ne (ne_of_none hA2 hp)]
        exact hA2
      · show (refs es).length < _
        unfold refs
        rw [List.length_map]
        omega
      · -- the new list is hidden, then the dict grows
        have hp0 : c.H0 p = none := E2.new0 hp
        have E3 : EnvOk K { c with hid := (p, HO.lst []) :: (hid es ps ++ c.hid) } G2 (upd H2 p (.lst [])) σ δ1 := E2.hide hp hp0
        have E4 : EnvOk K { c with hid := (A, .dK (refs es)) :: ((p :: ps).map (fun p => (p, HO.lst [])) ++ c.hid) } G2 (upd H2 p (.lst [])) σ δ1 := E3.hid_to (hs := (A, .dK (refs es)) :: ((p :: ps).map (fun p => (p, HO.lst [])) ++ c.hid)) fun y hy => by
          rcases List.mem_cons.mp hy with e | hy
          · rw [e]
            exact List.mem_cons_of_mem _ (List.mem_append_left _ List.mem_cons_self)
          rcases List.mem_append.mp hy with hy | hy
          · rw [List.map_cons] at hy
            rcases List.mem_cons.mp hy with e | hy
            · rw [e]
              exact List.mem_cons_self
            · exact List.mem_cons_of_mem _ (List.mem_append_left _ (List.mem_cons_of_mem _ hy))
          · exact List.mem_cons_of_mem _ (List.mem_append_right _ hy)
        have npA : A ≠ p := fun z => by
          have q := (E2.hd A _ (List.mem_append_left _ List.mem_cons_self)).1
          rw [z, hp] at q
          cases q
        have nA : ∀ zs, (A, zs) ∉ (p :: ps).map (fun p => (p, HO.lst [])) ++ c.hid := fun zs hz => by
          rcases List.mem_append.mp hz with hz | hz
          · obtain ⟨q, hq, e⟩ := List.mem_map.mp hz
            injection e with e1 _
            rcases List.mem_cons.mp hq with z | z
            · exact npA (by rw [← e1, z])
            · exact hAp (by rw [← e1]; exact z)
          · rw [h0] at hz
            cases hz
        have E5 := E4.grow (c := { c with hid := (p :: ps).map (fun p => (p, HO.lst [])) ++ c.hid }) (ob' := .dK (putK (refs es) ks[n] (.ref p))) nA
        rw [refs_put] at E5
        rw [refs_put]
        have npe : p ∉ es.map Prod.snd := fun z => by
          have hz := sub p z
          have q := (E2.hd p (.lst []) (List.mem_append_left _ (List.mem_cons_of_mem _ (List.mem_map.mpr ⟨p, hz, rfl⟩)))).1
          rw [hp] at q
          cases q
        refine ⟨G2, putE es ks[n] p, _, p :: ps, E5, e.trans AL.g, mt.put ks[n] npe, fun a ha => ?_, ?_, ?_, hnew⟩
        · rcases mem_putE ha with z | z
          · rw [z]
            exact List.mem_cons_self
          · exact List.mem_cons_of_mem _ (sub a z)
        · intro z
          rcases List.mem_cons.mp z with z | z
          · exact npA z
          · exact hAp z
        · have := putE_len es ks[n] p
          omega
  · have en : n = ks.length := by omega
    subst en
    rw [List.drop_length] at hnew
    refine .inl ⟨by rw [← lenD]; exact Y.stop G H e E.ex, ?_⟩
    have hnil : ∀ a ∈ es.map Prod.snd, H a = some (.lst []) := fun a ha => (E.hd a (.lst []) (List.mem_append_left _ (List.mem_cons_of_mem _ (List.mem_map.mpr ⟨a, sub a ha, rfl⟩)))).1
    have hAd : H A = some (.dK (refs es)) := (E.hd A _ (List.mem_append_left _ List.mem_cons_self)).1
    have z := E.give_box (hs := hid es ps) (S := A :: es.map Prod.snd) (fun a ha => ⟨?_, fun o z => by rw [h0] at z; cases z⟩) (b := boxDL (newL ks [])) (x := .ref A) ⟨A, es, rfl, rfl, List.nodup_cons.mpr ⟨fun z => hAp (sub A z), mt.nd⟩, hAd, ?_⟩ i
    · exact k.nx _ G H _ hN z (e1.trans e)
    · rcases List.mem_cons.mp ha with z | z
      · exact ⟨_, by rw [z]; exact List.mem_cons_self⟩
      · exact ⟨_, List.mem_cons_of_mem _ (List.mem_map.mpr ⟨a, sub a z, rfl⟩)⟩
    · rw [hnew]
      exact Empties.lists mt.ks mt.nil hnil
end
end TL

set_option Elab.async false
set_option linter.all false
set_option maxRecDepth 100000
set_option maxHeartbeats 4000000
/-! TBg: over data: a dict of lists is told; what is got of a told dict; its items; enumerate; what is stored in one's own list. -/
namespace TL
open PySem PySem.Spec PyProof.Rows L2
theorem Rp.dic_of {K : PySem.W.Frag} {G : Hp} {v : V} {ds : List (PyData × PyData)} (h : Rp K G v (.dict ds)) (ne : isErr ds = false) : ∃ (a : Addr) (o : Obj) (kvs : List (Key × V)), v = .ref a ∧ G a = some (.frz o (.dK kvs)) ∧ RpKv K G kvs ds := by
  generalize hq : PyData.dict ds = d at h
  cases h with
  | dic h1 h2 h3 =>
    cases hq
    exact ⟨_, _, _, rfl, h1, h2⟩
  | fn f =>
    have := PyData.dict.inj hq
    subst this
    cases ne
  | err0 h1 =>
    have := PyData.dict.inj hq
    subst this
    cases ne
  | err h1 h2 h3 h4 h5 =>
    have := PyData.dict.inj hq
    subst this
    cases ne
  | _ => cases hq
theorem kvD_noErr (kvs : List (Key × PyData)) : isErr (kvD kvs) = false := by
  cases kvs with
  | nil => rfl
  | cons p r =>
    obtain ⟨k, x⟩ := p
    cases k <;> rfl
theorem kvL_D (kvs : List (Key × List PyData)) : kvL kvs = kvD (kvs.map fun p => (p.1, .list p.2)) := by
  unfold kvL kvD
  rw [List.map_map]
  rfl
theorem kvL_noErr (kvs : List (Key × List PyData)) : isErr (kvL kvs) = false := by rw [kvL_D]; exact kvD_noErr _
section
variable [XW] {K : PySem.W.Frag} {ta tb te : TE} {ua ub ue : DTE}
/-- a name, its dict of lists made -/
def dToldL (i : Nat) : DTE := fun δ R => ∃ kvs, δ[i]? = some (.box (boxDL kvs)) ∧ R (.dict (kvL kvs)) (δ.set i (.dat (.dict (kvL kvs))))
theorem Lists.kv {K : PySem.W.Frag} {G G' H : Hp} (eg : Ex G G') : ∀ {es : List (Key × Addr)} {kvs : List (Key × List PyData)}, Lists K G H es kvs → (∀ a ∈ es.map Prod.snd, G' a = H a) → RpKv K G' (refs es) (kvL kvs)
  | _, _, .nil, _ => .nil
  | _, _, .cons (p := p) h r t, e => .cons (.lst (by rw [e p (by simp)]; exact h) (r.up eg)) (t.kv eg fun a ha => e a (List.mem_cons_of_mem _ ha))
theorem re_toldL {i : Nat} : RE K (tFix (tVar i)) (dToldL i) := by
  intro c σ G H δ Q R E h k
  obtain ⟨kvs, hs, hR⟩ := h
  obtain ⟨x, S, hσ, ⟨a, es, rfl, rfl, nd, ha, ls⟩, free, put⟩ := E.open_box hs
  refine ⟨.ref a, hσ, a, refs es, rfl, ha, fun o => ?_⟩
  let H' := upd H a (.frz o (.dK (refs es)))
  let G' : Hp := fun q => if q ∈ a :: es.map Prod.snd then H' q else G q
  have gin : ∀ q, q ∈ a :: es.map Prod.snd → G' q = H' q := fun q hq => if_pos hq
  have gout : ∀ q, q ∉ a :: es.map Prod.snd → G' q = G q := fun q hq => if_neg hq
  have eg : Ex G G' := fun q u hq => by
    have nq : q ∉ a :: es.map Prod.snd := fun z => by
      have := (free q z).1.g
      rw [hq] at this
      cases this
    rw [gout q nq]
    exact hq
  have ha' : H' a = some (.frz o (.dK (refs es))) := upd_same
  have hne : ∀ q, q ≠ a → H' q = H q := fun q hq => upd_ne hq
  have eh : Ex G' H' := fun q u hq => by
    by_cases z : q ∈ a :: es.map Prod.snd
    · rw [← gin q z]
      exact hq
    · rw [gout q z] at hq
      rw [hne q (fun y => z (by rw [y]; exact List.mem_cons_self))]
      exact E.ex q u hq
  have rp : Rp K G' (.ref a) (.dict (kvL kvs)) := by
    refine .dic (o := o) (kvs := refs es) (by rw [gin a List.mem_cons_self]; exact ha') (ls.kv eg fun p hp => ?_) (kvL_noErr _)
    rw [gin p (List.mem_cons_of_mem _ hp)]
    exact hne p fun z => (List.nodup_cons.mp nd).1 (by rw [← z]; exact hp)
  have z := (put bxNo (.ref a) [] G' H' eg eh (fun q u hq hu => by
      rw [hne q (fun y => hq (by rw [y]; exact List.mem_cons_self))]
      exact hu) (fun q hq _ g => by
      rw [gout q hq]
      exact g) (fun q hq => (List.not_mem_nil hq).elim) rfl).put (i := i) rp
  rw [set_same hσ, set_same hσ, List.set_set] at z
  exact k _ _ _ _ _ hR z eg rp
/-- what stands under a key in a told dict -/
def dDGet (ua ub : DTE) : DTE := fun δ R => ua δ fun d δ1 => ub δ1 fun y δ2 => ∃ (kvs : List (Key × PyData)) (k : Key) (x : PyData), d = .dict (kvD kvs) ∧ y = keyD k ∧ kvAt kvs k = some x ∧ R x δ2
theorem re_dget (ha : RE K ta ua) (hb : RE K tb ub) : RE K (tDGet ta tb) (dDGet ua ub) := by
  intro c σ G H δ Q R E h k
  refine ha c σ G H δ _ _ E h fun d1 δ1 v1 G1 H1 h1 E1 e1 r1 => ?_
  refine hb c σ G1 H1 δ1 _ _ E1 h1 fun d2 δ2 v2 G2 H2 h2 E2 e2 r2 => ?_
  obtain ⟨kvs, key, x, rfl, rfl, hx, hR⟩ := h2
  have ev := rp_key r2
  subst ev
  obtain ⟨a, o, es, rfl, hg, rk⟩ := (r1.up e2).dic_of (kvD_noErr _)
  obtain ⟨v, hv, rv⟩ := (kvAt_val rk).1 x hx
  refine ⟨a, v, rfl, .inl ⟨es, key, .inr ⟨o, E2.ex _ _ hg⟩, rfl, hv.symm⟩, k x δ2 v G2 H2 hR E2 (e1.trans e2) rv⟩
/-- the items of a told dict -/
def diItems (ua : DTE) : DTI := fun δ R => ua δ fun d δ1 => ∃ kvs : List (Key × PyData), d = .dict (kvD kvs) ∧ R (kvs.map fun p => .tuple [keyD p.1, p.2]) δ1
theorem RpKv.get {K : PySem.W.Frag} {G : Hp} : ∀ {es : List (Key × V)} {kvs : List (Key × PyData)} {i : Nat} {p : Key × PyData}, RpKv K G es (kvD kvs) → kvs[i]? = some p → ∃ v, es[i]? = some (p.1, v) ∧ Rp K G v p.2
  | es, [], i, p, h, q => by simp at q
  | es, (k0, d0) :: kvs, i, p, h, q => by
    have h : RpKv K G es ((keyD k0, d0) :: kvD kvs) := h
    generalize hq : (keyD k0, d0) :: kvD kvs = l at h
    cases h with
    | nil => cases hq
    | @cons k1 v es' d1 ds r t =>
      injection hq with q1 q2
      injection q1 with q1 q3
      subst q2 q3
      have ek : k0 = k1 := by
        cases k0 <;> cases k1 <;> simp [keyD] at q1 <;> first
          | (rw [q1])
          | cases q1
      subst ek
      cases i with
      | zero =>
        cases q
        exact ⟨v, rfl, r⟩
      | succ i =>
        obtain ⟨w, h1, h2⟩ := RpKv.get (i := i) (p := p) t (by simpa using q)
        exact ⟨w, by simpa using h1, h2⟩
theorem ri_items (ha : RE K ta ua) : RI K (iItems ta) (diItems ua) := by
  intro c σ G H δ Q R E h k
  refine ha c σ G H δ _ _ E h fun d δ1 v G1 H1 h1 E1 e1 r1 => ?_
  obtain ⟨kvs, rfl, hR⟩ := h1
  obtain ⟨a, o, es, rfl, hg, rk⟩ := r1.dic_of (kvD_noErr _)
  have len : es.length = kvs.length := by rw [rk.len, kvD_len]
  refine ⟨a, o, es, rfl, E1.ex _ _ hg, k _ δ1 _ G1 H1 hR E1 e1 ⟨fun G2 H2 a1 a2 => ⟨a2 _ _ (a1 _ _ hg), by rw [List.length_map, len]; exact Nat.le_refl _⟩, fun G2 H2 i d a1 a2 hd => ?_⟩⟩
  rw [List.getElem?_map] at hd
  cases q : kvs[i]? with
  | none => rw [q] at hd; cases hd
  | some p =>
    rw [q] at hd
    cases hd
    obtain ⟨w, hw, rw_⟩ := rk.get q
    refine ⟨⟨a2 _ _ (a1 _ _ hg), by rw [len]; exact (List.getElem?_eq_some_iff.mp q).1⟩, fun z H3 hy => ?_⟩
    obtain ⟨T, k', v', h1, rfl, hT, rfl⟩ := hy
    rw [hw] at h1
    cases h1
    have A := Al.new (o := .tup [kV p.1, w]) a2 hT
    have rkey : Rp K (upd G2 T (.tup [kV p.1, w])) (kV p.1) (keyD p.1) := by
      cases p.1 with
      | inl i => exact .int i
      | inr x => exact .str x
    exact ⟨_, A, .tup upd_same (.cons rkey (.cons ((rw_.up a1).up A.g) .nil))⟩
/-- the pairs of number and item -/
def enumD (ds : List PyData) : List PyData := (List.range ds.length).zip ds |>.map fun p => .tuple [.int (p.1 : Nat), p.2]
def diEnum (ua : DTE) : DTI := fun δ R => ua δ fun d δ1 => match d with
  | .list ds => R (enumD ds) δ1
  | _ => False
theorem enumD_len (ds : List PyData) : (enumD ds).length = ds.length := by unfold enumD; rw [List.length_map, List.length_zip, List.length_range]; omega
theorem enumD_get {ds : List PyData} {i : Nat} {d : PyData} (h : (enumD ds)[i]? = some d) : ∃ x, ds[i]? = some x ∧ d = .tuple [.int (i : Nat), x] := by
  unfold enumD at h
  rw [List.getElem?_map] at h
  cases q : ((List.range ds.length).zip ds)[i]? with
  | none => rw [q] at h; cases h
  | some p =>
    rw [q] at h
    cases h
    rw [List.getElem?_zip_eq_some] at q
    obtain ⟨q1, q2⟩ := q
    obtain ⟨l, q1⟩ := List.getElem?_eq_some_iff.mp q1
    rw [List.getElem_range] at q1
    exact ⟨p.2, q2, by rw [q1]⟩
theorem ri_enum (ha : RE K ta ua) : RI K (iEnum K (tCons ta tNil)) (diEnum ua) := by
  intro c σ G H δ Q R E h k
  refine ha c σ G H δ _ _ E h fun d δ1 v G1 H1 h1 E1 e1 r1 => ?_
  cases d <;> first
    | exact False.elim h1
    | skip
  rename_i ds
  obtain ⟨a, xs, rfl, q1, q2⟩ := r1.lst_of
  refine ⟨a, xs, rfl, .inl (.inl (E1.ex _ _ q1)), k _ δ1 _ G1 H1 h1 E1 e1 ⟨fun G2 H2 a1 a2 => ⟨xs, .inl (.inl (a2 _ _ (a1 _ _ q1))), by rw [q2.len, enumD_len]; exact Nat.le_refl _⟩, fun G2 H2 i d a1 a2 hd => ?_⟩⟩
  obtain ⟨x, hx, rfl⟩ := enumD_get hd
  obtain ⟨v, hv, rv⟩ := q2.get hx
  have hq : SqL K H2 a xs := .inl (.inl (a2 _ _ (a1 _ _ q1)))
  refine ⟨⟨xs, v, hq, hv⟩, fun z H3 hy => ?_⟩
  obtain ⟨T, y, rfl, hT, rfl, hall⟩ := hy
  have e := (hall xs hq).symm.trans hv
  cases e
  have A := Al.new (o := .tup [.int (i : Nat), v]) a2 hT
  exact ⟨_, A, .tup upd_same (.cons (.int _) (.cons ((rv.up a1).up A.g) .nil))⟩
end
section
variable [XW] {X : Cx} {a b e : Expr} {ta tb te : TE} {ua ub ue : DTE} {p p2 pos : Pos}
theorem de_toldL (i : Nat) {x : Str} (hN : X.N[i]? = some x := by rfl) (hv : Vis X.env.scope x := by first | exact Or.inl rfl | exact Or.inr (Or.inl rfl) | exact Or.inr (Or.inr rfl)) (hd : (x == ("__debug__" : Str)) = false := by decide)
    (hcd : (x == ("__classdict__" : Str)) = false := by decide) : DE X (.Name x p) (tFix (tVar i)) (dToldL i) := ⟨pe_fix (pe_var hN hv hd hcd), re_toldL⟩
theorem de_told (i : Nat) {x : Str} (hN : X.N[i]? = some x := by rfl) (hv : Vis X.env.scope x := by first | exact Or.inl rfl | exact Or.inr (Or.inl rfl) | exact Or.inr (Or.inr rfl)) (hd : (x == ("__debug__" : Str)) = false := by decide)
    (hcd : (x == ("__classdict__" : Str)) = false := by decide) : DE X (.Name x p) (tFix (tVar i)) (dTold i) := ⟨pe_fix (pe_var hN hv hd hcd), re_told⟩
theorem de_dget (hu : X.A.units + 65 < cLine) (ha : DE X a ta ua) (hb : DE X b tb ub) (hs : NoSl b) : DE X (.Subscript a b pos) (tDGet ta tb) (dDGet ua ub) := ⟨pe_dget (by omega) ha.pe hb.pe hs, re_dget ha.re hb.re⟩
theorem di_items {elts : List Expr} {kk : Nat} {tpos apos cpos : Pos} (ha : DE X e te ue) (hbase : attributeBase e "items" X.env (eval e X.env) = eval e X.env := by rfl) (hline : (apos.endLine == cpos.line) = true := by rfl) :
    DI X (.Tuple elts kk tpos) (.Call (.Attribute e "items" apos) [] [] cpos) (iItems te) (diItems ue) := ⟨pi_items ha.pe hbase hline, ri_items ha.re⟩
theorem di_enum {elts : List Expr} {kk : Nat} {tpos : Pos} (hm : X.mg "enumerate" = none) (ha : DE X a ta ua) (hg : Gl X "enumerate" := by rfl) (hs : starEach [a] X.env = [(false, eval a X.env)] := by rfl) :
    DI X (.Tuple elts kk tpos) (.Call (.Name "enumerate" p) [a] [] pos) (iEnum X.K (tCons ta tNil)) (diEnum ua) := ⟨pi_enum hg hm (pa_cons ha.pe pa_nil hs) hs, ri_enum ha.re⟩
end
end TL

set_option Elab.async false
set_option linter.all false
set_option maxRecDepth 100000
set_option maxHeartbeats 4000000
/-! TBh: forms by syntax for boxes; a dict comprehension stored under a local name; ints added in one's own list; defs as values; calls with defaults that are None. -/
namespace TL
open PySem PySem.Spec PyProof.Rows L2
/-! ### a dict comprehension stored under a local name -/
theorem ps_setDc {X : Cx} {i : Nat} {y : Str} {py : Pos} {kx vx tg iter : Expr} {ifs : List Expr} {scope : Scope} {own : List (Str × Nat)} {pos spos : Pos} {wi : TI} {g : TG} {tt : TT} {tk tv : TE} (hc : X.calm = true) (hN : X.N.Nodup) (hy : X.N[i]? = some y) (hyl : X.env.scope.names.lookup y = some .local)
    (hsw : swapsWith (.DictComp kx vx [⟨tg, iter, ifs, 0⟩] scope pos) (some (.Name y py)) spos.line X.env = pure true) (hi : PI X tg iter wi) (ok : BlkOk X.N X.env.scope scope own)
    (hg : ∀ (s : Shared) (H : Hp) (C : Addr) (cl : List (Str × Addr)) (fp : List Addr), PG (X.blk s H scope (compEnvC scope cl C X.env) fp) tg g) (ht : ∀ (s : Shared) (H : Hp) (C : Addr) (cl : List (Str × Addr)) (fp : List Addr), PTs (X.blk s H scope (compEnvC scope cl C X.env) fp) ifs tt)
    (hk : ∀ (s : Shared) (H : Hp) (C : Addr) (cl : List (Str × Addr)) (fp : List Addr), PE (X.blk s H scope (compEnvC scope cl C X.env) fp) kx tk)
    (he : ∀ (s : Shared) (H : Hp) (C : Addr) (cl : List (Str × Addr)) (fp : List Addr), PE (X.blk s H scope (compEnvC scope cl C X.env) fp) vx tv) (hs : ∀ x, foldedSetIterable iter X.env x = pure x := by intro _; rfl) :
    PS X (.Assign [.Name y py] (.DictComp kx vx [⟨tg, iter, ifs, 0⟩] scope pos) spos) (tAsg (tDc wi g tt tk tv (own.map (·.2))) (gName i)) := by
  constructor
  intro pins s σ H D I h
  rw [exec_Assign_Name_used _ _ _ _ hsw]
  refine wpAny_bind (wpAny_standAt (wpAny_bind ?_))
  show wpAny _ X.A (do let _ ← comprehension (.DictComp kx vx [⟨tg, iter, ifs, 0⟩] scope pos) scope X.env (firstIterPos [⟨tg, iter, ifs, 0⟩] pos) newDict false (eval iter X.env) (some (assign (.Name y py) X.env))) _ _ s
  have h' : tDc wi g tt tk tv (own.map (·.2)) σ H (fun x H1 => gName i x σ H1 D.nx) := h
  refine wpAny_bind (thn (dc_core (Qf := fun _ z => SP X pins D .next z) hc hN I hi ok hg ht hk he hs h' ?_) fun _ z hq => wpAny_pure (wpAny_pure hq))
  intro L C z m H' I' q hn f
  show wpAny _ _ (assign (.Name y py) X.env (.ref L)) _ _ _
  refine wpAny_assign_Name (store_ok2 (v := V.ref L) I' hN hy (.inl hyl) rfl (fun z2 I2 ⟨a, sb, ha⟩ => ?_) (.inr hyl))
  obtain ⟨f0, f1, f2, f3, f4, f5⟩ := f
  have haC : C ≠ a := by
    rcases ha with e | e
    · rw [e]; exact f1
    · exact fun w => f4 y a e w.symm
  exact ⟨m, hn.sameBut sb haC, fun z3 sb3 => ⟨_, H', I2.turned (t' := z2.toks) (fun b o hb e => (sb3.2 b hb).trans e) f0 f1 f3 f4 f5, q⟩⟩
theorem sw_trueD {kx vx : Expr} {gs : List Comprehension} {scope : Scope} {pos py : Pos} {y : Str} {l : Nat} {env : Env} (hk : env.scope.kind = .function) (hy : env.scope.names.lookup y = some .local) (hl : (py.line == pos.line) = true)
    (ha : (scope.names.any fun (n, k) => n == y && (k == .local || k == .cell)) = false) : swapsWith (.DictComp kx vx gs scope pos) (some (.Name y py)) l env = pure true := by
  have ky : env.kindOf y = some .local := hy
  have hb : env.blockKind = .function := by unfold Env.blockKind; rw [hk]; rfl
  unfold swapsWith
  simp only [hb, ky, ha, Expr.pos, hl]
  rfl
section
variable [XW] {X : Cx} {a b e v : Expr} {ta tb te tv : TE} {ua ub ue uv : DTE} {p p2 pos : Pos}
/-- name = {x: [] for x in ..} -/
theorem ds_newDL (i j : Nat) {x y : Str} {px py p3 pos2 spos : Pos} {iter : Expr} {scope : Scope} {w : TI} {uw : DTI} (hc : X.calm = true) (hN : X.N.Nodup) (hi : DI X (.Name x px) iter w uw) (ok : BlkOk X.N X.env.scope scope [(x, j)])
    (hg : ∀ (s : Shared) (H : Hp) (C : Addr) (cl : List (Str × Addr)) (fp : List Addr), PG (X.blk s H scope (compEnvC scope cl C X.env) fp) (.Name x px) (gName j))
    (hk : ∀ (s : Shared) (H : Hp) (C : Addr) (cl : List (Str × Addr)) (fp : List Addr), PE (X.blk s H scope (compEnvC scope cl C X.env) fp) (.Name x p2) (tVar j))
    (hsw : swapsWith (.DictComp (.Name x p2) (.List [] p3) [⟨.Name x px, iter, [], 0⟩] scope pos2) (some (.Name y py)) spos.line X.env = pure true) (hy : X.N[i]? = some y := by rfl) (hyl : X.env.scope.names.lookup y = some .local := by rfl) (hs : ∀ x, foldedSetIterable iter X.env x = pure x := by intro _; rfl) :
    DS X (.Assign [.Name y py] (.DictComp (.Name x p2) (.List [] p3) [⟨.Name x px, iter, [], 0⟩] scope pos2) spos) (tAsg (tDc w (gName j) tYes (tVar j) (tLst tNil) [j]) (gName i)) (dNewDL i j [j] uw) :=
  ⟨ps_setDc (own := [(x, j)]) hc hN hy hyl hsw hi.pi ok hg (fun _ _ _ _ _ => pts_nil) hk (fun _ _ _ _ _ => pe_lst pa_nil) hs, rs_newDL hi.ri⟩
theorem dt_inDL (i : Nat) {x : Str} (hu : X.A.units + 65 < cLine) (he : DE X e te ue) (hN : X.N[i]? = some x := by rfl) (hv : Vis X.env.scope x := by first | exact Or.inl rfl | exact Or.inr (Or.inl rfl) | exact Or.inr (Or.inr rfl)) (hd : (x == ("__debug__" : Str)) = false := by decide)
    (hcd : (x == ("__classdict__" : Str)) = false := by decide) (hm : behindInMarks .In (.Name x p) = false := by rfl) : DT X (.Compare e [.In] [.Name x p] pos) (tTest (tDIn te (tVar i))) (dTest (dInDL i ue)) := by
  refine ⟨?_, rt_test (re_inDL he.re)⟩
  have q := pt_cmp (pos := pos) (pc_din (by omega) he.pe (pe_var (pos := p) hN hv hd hcd)) hm
  refine ⟨fun pins s σ H Q I h => q.run pins s σ H Q I ?_⟩
  exact h
theorem ds_appDL (i j : Nat) {x y : Str} {py apos cpos : Pos} (hu : X.A.units + 65 < cLine) (he : DE X e te ue) (hs0 : NoSl e) (hN : X.N[i]? = some x := by rfl) (hv : Vis X.env.scope x := by first | exact Or.inl rfl | exact Or.inr (Or.inl rfl) | exact Or.inr (Or.inr rfl)) (hd : (x == ("__debug__" : Str)) = false := by decide)
    (hcd : (x == ("__classdict__" : Str)) = false := by decide) (hN' : X.N[j]? = some y := by rfl) (hv' : Vis X.env.scope y := by first | exact Or.inl rfl | exact Or.inr (Or.inl rfl) | exact Or.inr (Or.inr rfl)) (hd' : (y == ("__debug__" : Str)) = false := by decide)
    (hcd' : (y == ("__classdict__" : Str)) = false := by decide)
    (hb : attributeBase (.Subscript (.Name x p) e p2) "append" X.env (eval (.Subscript (.Name x p) e p2) X.env) = eval (.Subscript (.Name x p) e p2) X.env := by rfl)
    (hfew : ((backTo cpos (starEach [.Name y py] X.env)).all (fun x => !x.1) && (backToKw cpos (keywordEach [] X.env)).all (fun x => x.1.isSome)
      && decide ([Expr.Name y py].length + ([] : List Keyword).length + (if ([] : List Keyword).isEmpty then 0 else 1) < 30)) = true := by rfl)
    (hline : (apos.endLine == cpos.line) = true := by rfl) (hst : starEach [.Name y py] X.env = (false, eval (.Name y py) X.env) :: starEach [] X.env := by rfl) (hpl : (backTo cpos (starEach [] X.env)).any (·.1) = false := by rfl)
    (hs : swapsWith (.Call (.Attribute (.Subscript (.Name x p) e p2) "append" apos) [.Name y py] [] cpos) none pos.line X.env = pure false := by rfl) :
    DS X (.Expr (.Call (.Attribute (.Subscript (.Name x p) e p2) "append" apos) [.Name y py] [] cpos) pos) (tDrop (tBM X.K "list" rAppend (tDGet (tVar i) te) (tCons (tVar j) tNil))) (dAppDL i j ue) :=
  ⟨ps_expr (pe_bm PySem.F.plainAttrs_list PySem.F.slot_list_append PySem.F.type_list_append mt_append (pe_dget (by omega) (pe_var hN hv hd hcd) he.pe hs0) (pa_cons (pe_var hN' hv' hd' hcd') pa_nil hst) hb hfew hline hst hpl) hs, rs_appDL he.re⟩
theorem ds_newDict (i : Nat) {x : Str} {pos2 : Pos} (hN : X.N.Nodup) (hi : X.N[i]? = some x := by rfl) (hx : Loc X.env.scope x := by first | exact Or.inl rfl | exact Or.inr rfl)
    (hs : swapsWith (.Dict [] [] pos) (some (.Name x p)) pos2.line X.env = pure false := by rfl) (hf : X.fn x = true ∨ X.env.scope.names.lookup x = some .local := by first | exact .inl rfl | exact .inr rfl | assumption) :
    DS X (.Assign [.Name x p] (.Dict [] [] pos) pos2) (tAsg tDNewK (gName i)) (dNewDict i) := ⟨ps_set hN hi hx pe_dnewK hs hf, rs_newDict⟩
theorem ds_putV (i j : Nat) {x y : Str} {py : Pos} (hu : X.A.units + 65 < cLine) (he : DE X e te ue) (hN : X.N[i]? = some x := by rfl) (hv : Vis X.env.scope x := by first | exact Or.inl rfl | exact Or.inr (Or.inl rfl) | exact Or.inr (Or.inr rfl)) (hd : (x == ("__debug__" : Str)) = false := by decide)
    (hcd : (x == ("__classdict__" : Str)) = false := by decide) (hN' : X.N[j]? = some y := by rfl) (hv' : Vis X.env.scope y := by first | exact Or.inl rfl | exact Or.inr (Or.inl rfl) | exact Or.inr (Or.inr rfl)) (hd' : (y == ("__debug__" : Str)) = false := by decide)
    (hcd' : (y == ("__classdict__" : Str)) = false := by decide) (hs : swapsWith e (some (.Subscript (.Name x p) (.Name y py) p2)) pos.line X.env = pure false := by rfl) :
    DS X (.Assign [.Subscript (.Name x p) (.Name y py) p2] e pos) (sDPut (tVar i) (tVar j) te) (dPutV i j ue) := ⟨ps_dput (by omega) (pe_var hN hv hd hcd) (pe_var hN' hv' hd' hcd') he.pe hs, rs_putV he.re⟩
/-- xs[k] += an int -/
theorem ds_augN (i : Nat) {x : Str} (hb : DE X b tb ub) (he : DE X e te ue) (hN : X.N[i]? = some x := by rfl) (hv : Vis X.env.scope x := by first | exact Or.inl rfl | exact Or.inr (Or.inl rfl) | exact Or.inr (Or.inr rfl)) (hd : (x == ("__debug__" : Str)) = false := by decide)
    (hcd : (x == ("__classdict__" : Str)) = false := by decide) (ha : ∀ ov iv new, augStore b ov iv new = (do holding [new, ov, iv] (setItem ov iv new); release [new, ov, iv] []; pure .next) := by intros; rfl) :
    DS X (.AugAssign (.Subscript (.Name x p) b p2) .Add e pos) (tAugS (tVar i) tb te (rIxL X.K) (rI0 fun i j => .int (i + j)) rSetL) (dAugI i ub ue (dI fun i j => i + j)) := ⟨ps_augS (pe_var hN hv hd hcd) hb.pe pget_list he.pe iop_add set_list ha, rs_augI hb.re he.re ro_I⟩
/-! ### defs as values -/
theorem Rp.fn_of {K : PySem.W.Frag} {G : Hp} {v : V} {f : Addr} (h : Rp K G v (fnvD f)) : v = .ref f := by
  generalize hq : fnvD f = d at h
  unfold fnvD at hq
  cases h with
  | fn g =>
    unfold fnvD at hq
    have e := PyData.dict.inj hq
    injection e with e _
    injection e with _ e
    injection e with e
    rw [Int.ofNat.inj e]
  | dic h1 h2 h3 =>
    have e := PyData.dict.inj hq
    subst e
    cases h3
  | err0 h1 =>
    have e := PyData.dict.inj hq
    injection e with e _
    injection e with _ e
    cases e
  | err h1 h2 h3 h4 h5 =>
    have e := PyData.dict.inj hq
    injection e with e _
    injection e with _ e
    cases e
  | _ => cases hq
theorem de_gfn {x : Str} {f : Addr} (h : X.mg x = some (.ref f)) (hg : Gl X x := by rfl) (hd : (x == ("__debug__" : Str)) = false := by decide) : DE X (.Name x pos) (tC (.ref f)) (dC (fnvD f)) := ⟨pe_glob hg h rfl hd, re_c fun _ => .fn f⟩
/-- what is known of a def at f -/
structure KnF (P : Program) (w : World) (K : PySem.W.Frag) (mg : Str → Option Value) (base : Heap) (k : Nat) (f : Addr) (S : DSp) : Prop where
  ex : ∃ (fd : FuncData) (ps : List Str), FnOkG P w K mg base CX0 k f fd ps (spD K S) ∧ PySem.W.keepIn K (.ref f) = true ∧ Binds K fd ps []
def dCallL (i : Nat) (f : Addr) (S : DSp) (ua : DCA) : DTE := fun δ R => δ[i]? = some (.dat (fnvD f)) ∧ dCall S ua δ R
def tCallLG (i : Nat) (f : Addr) (sp : Sp) (dvs : List V) (E : XK) (t : TA) : TE := fun σ H Q => σ[i]? = some (some (.ref f)) ∧ t σ H fun vs H1 => sp (vs ++ dvs) H1 Q E
theorem pe_callLG {X : Cx} {CX : CXT} {k i : Nat} {f : Addr} {fd : FuncData} {ps : List Str} {sp : Sp} {dvs : List V} {ds : List Value} {E : XK} {x : Str} {p pos : Pos} {e : Expr} {es : List Expr} {t : TA} (F : FnOkG X.prog X.w X.K X.mg X.base CX k f fd ps sp) (hr : RoomG k X.A) (hN : X.N[i]? = some x) (hv : Vis X.env.scope x) (hk : PySem.W.keepIn X.K (.ref f) = true) (hb : Binds X.K fd ps ds) (hd : Vals dvs ds) (hx : Passes CX X E) (ha : PA X (e :: es) t)
    (hdb : (x == ("__debug__" : Str)) = false) (hcd : (x == ("__classdict__" : Str)) = false)
    (he : starEach (e :: es) X.env = (false, eval e X.env) :: starEach es X.env) (hpl : (backTo pos (starEach es X.env)).any (·.1) = false) : PE X (.Call (.Name x p) (e :: es) [] pos) (tCallLG i f sp dvs E t) := by
  constructor
  intro pins z σ H Q I h
  refine wpAny_Call_Name_kw (thn ((pe_var (pos := p) hN hv hdb hcd).run pins z σ H (fun v H1 => v = .ref f ∧ H1 = H) I ⟨.ref f, h.1, rfl, rfl⟩) ?_)
  rintro u z1 ⟨v, H1, I1, r1, rfl, rfl⟩
  cases r1
  exact PySem.W.callWith_K (h₀ := X.base) I.ok.mod.kin hk (thn (ha.run pos pins z1 σ _ _ I1 h.2) fun us z2 ⟨vs, H2, I2, r, q⟩ => ⟨I2.kIn, run_fnG F hr hb hd hx I2 r q⟩) he hpl
theorem de_callL (i : Nat) {f : Addr} {P : Program} {w : World} {K : PySem.W.Frag} {mg : Str → Option Value} {base : Heap} {x : Str} {S : DSp} {k j : Nat} {es : List Expr} {tca : TA} {uca : DCA} (kn : KnF P w K mg base k f S) (hr : RoomG j X.A) (hk : k ≤ j) (ha : DCa X (e :: es) tca uca)
    (hX : X.prog = P ∧ X.w = w ∧ X.K = K ∧ X.mg = mg ∧ X.base = base := by exact ⟨rfl, rfl, rfl, rfl, rfl⟩) (hN : X.N[i]? = some x := by rfl) (hv : Vis X.env.scope x := by first | exact Or.inl rfl | exact Or.inr (Or.inl rfl) | exact Or.inr (Or.inr rfl)) (hd : (x == ("__debug__" : Str)) = false := by decide)
    (hcd : (x == ("__classdict__" : Str)) = false := by decide)
    (he : starEach (e :: es) X.env = (false, eval e X.env) :: starEach es X.env := by rfl) (hpl : (backTo pos (starEach es X.env)).any (·.1) = false := by rfl) : DE X (.Call (.Name x p) (e :: es) [] pos) (tCallLG i f (spD K S) [] E0 tca) (dCallL i f S uca) := by
  obtain ⟨rfl, rfl, rfl, rfl, rfl⟩ := hX
  obtain ⟨fd, ps, F, kp, b⟩ := kn.ex
  refine ⟨pe_callLG F (hr.mono hk) hN hv kp b .nil pass0 ha.pa hd hcd he hpl, ?_⟩
  intro c σ G H δ Q R E h k
  obtain ⟨y, hy, ry⟩ := E.sl i _ h.1
  rw [ry.fn_of] at hy
  exact ⟨hy, re_call ha.ra c σ G H δ Q R E h.2 k⟩
end
end TL

set_option Elab.async false
set_option linter.all false
set_option maxRecDepth 100000
set_option maxHeartbeats 4000000
/-! TBi: own defs whose last parameters have the default None: called without them, by place, by their names. -/
namespace TL
open PySem PySem.Spec PyProof.Rows L2
section
variable {P : Program} {w : World} {K : PySem.W.Frag} {mg : Str → Option Value} {base : Heap}
/-- fnD, whatever the defaults -/
theorem fnDA {x qual : Str} {st : Stmt} {f : Addr} {fd : FuncData} {N ps : List Str} {k : Nat} {S : DSp} (F : FunA K x qual st f fd) (sc : FnScope N ps (defScope st)) (len : ∀ as R, S as R → as.length = ps.length)
    (hbody : ∀ (cdv : Value) (A : Around) (outer : List Env) (s : Shared) (H : Hp) (E : XK), RoomG k (A.deeper (PyProof.Rows.envOfC qual (defScope st) s.heap.objs.size f cdv)) →
      ∃ t u, @DSs XW0 (cxOf CX0 P w K mg base N qual (defScope st) f cdv A outer s H E).nox (defBody st) t u ∧ ∀ as R, S as R → u (endsOf R) (as ++ List.replicate (N.length - ps.length) .no)) : FnOkG P w K mg base CX0 (k + 1) f fd ps (spD K S) := by
  refine fun_okA F sc (fun vs H Q E h => ?_) (fun cdv A outer s H vs Q E hr h => ?_)
  · obtain ⟨c, as, R, _, _, EV, hS, _⟩ := h
    have := EV.len
    rw [List.length_map] at this
    rw [this]
    exact len as R hS
  · obtain ⟨c, as, R, hh, h0, EV, hS, k⟩ := h
    obtain ⟨t, u, D, red⟩ := hbody cdv A outer s H E hr
    refine ⟨t, D.ps.nox, ?_⟩
    have l1 : vs.length = ps.length := by
      have := EV.len
      rw [List.length_map] at this
      rw [this]
      exact len as R hS
    have EV' : @EnvOk XW0 K c c.G0 H (L2.start N vs) (as ++ List.replicate (N.length - ps.length) .no) := by
      have z := (EV.more (N.length - ps.length)).ok
      unfold L2.start
      rw [l1]
      exact z
    have fin : ∀ {σ' : L2.St} {G' H' : Hp} {δ' : List Sl} {outs : List (List PyData)}, @EnvOk XW0 K c G' H' σ' δ' → OutsIn δ' outs → Fin K c G' H' outs := fun {σ' G' H' δ' outs} E ho =>
      ⟨E.g0, E.ex, E.fr, E.fs, E.tg, fun j cs hj => by
        obtain ⟨i, hi⟩ := ho j cs hj
        obtain ⟨p, xs, _, _, hh, r, q⟩ := E.sl i _ hi
        exact ⟨xs, by rw [← q.2]; exact hh, r⟩⟩
    refine D.rs c (L2.start N vs) c.G0 H _ _ (endsOf R) EV' (red as R hS) ⟨?_, ?_, ?_, ?_, ?_, hh⟩
    · rintro σ' G' H' δ' ⟨outs, hR, ho⟩ E' e
      exact k .none outs .non G' H' hR (fin E' ho) .non
    · rintro d δ' v σ' G' H' ⟨outs, hR, ho⟩ E' e r
      exact k d outs v G' H' hR (fin E' ho) r
    · exact fun σ' G' H' δ' a _ _ => False.elim a
    · exact fun σ' G' H' δ' a _ _ => False.elim a
    · exact fun ds δ' p xs σ' G' H' a _ _ _ _ => False.elim a
end
/-- a def called with its last m parameters left out, whose defaults are None -/
structure KnD (P : Program) (w : World) (K : PySem.W.Frag) (mg : Str → Option Value) (base : Heap) (k : Nat) (x : Str) (m : Nat) (S : DSp) : Prop where
  ex : ∃ (f : Addr) (fd : FuncData) (ps : List Str) (ds : List Value), FnOkG P w K mg base CX0 k f fd ps (spD K S) ∧ mg x = some (.ref f) ∧ PySem.W.keepIn K (.ref f) = true ∧ Vals (List.replicate m V.non) ds ∧ Binds K fd ps ds
/-- .. with n by place, then m left out, then ks by their names -/
structure KnKN (P : Program) (w : World) (K : PySem.W.Frag) (mg : Str → Option Value) (base : Heap) (k : Nat) (x : Str) (n m : Nat) (ks : List Str) (S : DSp) : Prop where
  ex : ∃ (f : Addr) (fd : FuncData) (ps : List Str), FnOkG P w K mg base CX0 k f fd ps (spD K S) ∧ mg x = some (.ref f) ∧ PySem.W.keepIn K (.ref f) = true ∧
    KBn K fd ps n ks (fun us ws => us ++ (List.replicate m Value.none ++ ws)) (fun vs zs => vs ++ (List.replicate m V.non ++ zs))
theorem vals_nones : ∀ {m : Nat} {us : List Value}, Vals (List.replicate m V.non) us → us = List.replicate m Value.none
  | 0, _, h => by
    cases h
    rfl
  | m + 1, us, h => by
    have h : Vals (V.non :: List.replicate m V.non) us := h
    cases h with
    | cons r t =>
      have e : _ = Value.none := r
      rw [e, vals_nones t]
      rfl
theorem nones_vals : ∀ m : Nat, Vals (List.replicate m V.non) (List.replicate m Value.none)
  | 0 => .nil
  | m + 1 => .cons rfl (nones_vals m)
theorem kbn_none {K : PySem.W.Frag} {x qual : Str} {params : Arguments} {body : List Stmt} {scope : Scope} {q : Nat} {f : Addr} {fd : FuncData} {ps : List Str} (F : FunD K x qual params body scope (List.replicate (q + 1) V.non) [] f fd) (n m : Nat) (ks : List Str)
    (h : ∀ (T : Addr) (kV doc pm : Value) (an : Option Addr) (cdv ct : Value) (us ws : List Value), us.length = n → ws.length = ks.length →
      ∃ k, bindArgs (PySem.W.fnOf x qual params body scope (.ref T) kV doc pm an cdv ct) ⟨us, ks.zip ws⟩ = seqItems? (.ref T) >>= k ∧ k (some (List.replicate (q + 1) Value.none).toArray) = pure (ps.zip (us ++ (List.replicate m Value.none ++ ws)))) :
    KBn K fd ps n ks (fun us ws => us ++ (List.replicate m Value.none ++ ws)) (fun vs zs => vs ++ (List.replicate m V.non ++ zs)) := by
  obtain ⟨oc, od, dV, kV, doc, pm, an, cdv, ct, osl, rfl, lk, hcd, hD, _⟩ := F.ex
  rcases hD with ⟨e, _⟩ | ⟨_, T, o, its, mm, rfl, lT, oT, rT⟩
  · exact absurd e (fun z => nomatch z)
  · have ei := vals_nones rT
    subst ei
    refine ⟨fun z us ws Y l1 l2 => ?_, fun r1 r2 => r1.append ((nones_vals m).append r2)⟩
    obtain ⟨k, e1, e2⟩ := h T kV doc pm an cdv ct us ws l1 l2
    refine BindsTo.of_looks fun M => ?_
    rw [e1]
    exact looks_items Y lT oT (.of_pure e2)
theorem kbn_pass0 {X : Cx} {σ : L2.St} {E : XK} : PassesAt CX0 X σ E := fun _ _ _ _ _ _ h => h.elim
section
variable [XW] {K : PySem.W.Frag}
/-- the reading of a call with these arguments -/
def callD (S : DSp) (R : PyData → List Sl → Prop) (cs : List CA) (δ1 : List Sl) : Prop := (muts δ1 cs).Nodup ∧ S (asOf δ1 cs 0) fun d outs => outs.length = (muts δ1 cs).length ∧ R d (setOuts δ1 (muts δ1 cs) outs)
theorem callD_ok {S : DSp} {c : Cf} {σ : L2.St} {G G1 H1 : Hp} {δ1 : List Sl} {cs : List CA} {vs : List V} {R : PyData → List Sl → Prop} {Q : VK} (E1 : EnvOk K c G1 H1 σ δ1) (e1 : Ex G G1) (r1 : CAs K G1 σ vs cs) (h : callD S R cs δ1)
    (k : ∀ d δ' v G' H', R d δ' → EnvOk K c G' H' σ δ' → Ex G G' → Rp K G' v d → Q v H') : spD K S vs H1 Q E0 := by
  obtain ⟨hn, hS⟩ := h
  refine ⟨calleeC σ (muts δ1 cs) G1 H1, asOf δ1 cs 0, _, rfl, rfl, callee_env E1 r1 hn, hS, fun d outs v G' H' hR F rv => ?_⟩
  exact k d _ v G' H' hR.2 (caller_back E1 hn hR.1 F) (e1.trans F.g0) rv
def nonesC (m : Nat) : List CA := List.replicate m (.d .none)
theorem nones_ca {G : Hp} {σ : L2.St} : ∀ m : Nat, CAs K G σ (List.replicate m V.non) (nonesC m)
  | 0 => .nil
  | m + 1 => .d .non (nones_ca m)
theorem rpAll_ca {G : Hp} {σ : L2.St} : ∀ {vs : List V} {ds : List PyData}, RpAll K G vs ds → CAs K G σ vs (ds.map CA.d)
  | _, _, .nil => .nil
  | _, _, .cons r t => .d r (rpAll_ca t)
def dCallD (S : DSp) (m : Nat) (ua : DCA) : DTE := fun δ R => ua δ fun cs δ1 => callD S R (cs ++ nonesC m) δ1
theorem re_callD {S : DSp} {m : Nat} {t : TA} {ua : DCA} (ha : RCA K t ua) : RE K (tCall (spD K S) (List.replicate m V.non) E0 t) (dCallD S m ua) := by
  intro c σ G H δ Q R E h k
  refine ha c σ G H δ _ _ E h fun cs δ1 vs G1 H1 h1 E1 e1 r1 => ?_
  exact callD_ok E1 e1 (r1.app (nones_ca m)) h1 k
def dCallKN (S : DSp) (n m l : Nat) (ua : DCA) (uk : DTA) : DTE := fun δ R => ua δ fun cs δ1 => uk δ1 fun ds δ2 => cs.length = n ∧ ds.length = l ∧ callD S R (cs ++ (nonesC m ++ ds.map CA.d)) δ2
theorem re_callKN {S : DSp} {n m l : Nat} {t tk : TA} {ua : DCA} {uk : DTA} (ha : RCA K t ua) (hv : RA K tk uk) :
    RE K (tCallNS n l (spD K S) (fun vs zs => vs ++ (List.replicate m V.non ++ zs)) (fun _ => E0) t tk) (dCallKN S n m l ua uk) := by
  intro c σ G H δ Q R E h k
  refine ha c σ G H δ _ _ E h fun cs δ1 vs G1 H1 h1 E1 e1 r1 => ?_
  refine hv c σ G1 H1 δ1 _ _ E1 h1 fun ds δ2 zs G2 H2 h2 E2 e2 r2 => ?_
  obtain ⟨len, lz, h2⟩ := h2
  refine ⟨by rw [r1.len, len], by rw [r2.len, lz], ?_⟩
  exact callD_ok E2 (e1.trans e2) ((r1.up e2).app ((nones_ca m).app (rpAll_ca r2))) h2 k
end
section
variable [XW] {X : Cx} {P : Program} {w : World} {K : PySem.W.Frag} {mg : Str → Option Value} {base : Heap} {x : Str} {n m : Nat} {S : DSp} {k j : Nat} {e : Expr} {es : List Expr} {tca : TA} {uca : DCA} {p pos pk pk2 : Pos} {v v2 : Expr} {tv tv2 : TE} {uv uv2 : DTE}
theorem de_callD (kn : KnD P w K mg base k x m S) (hr : RoomG j X.A) (hk : k ≤ j) (ha : DCa X (e :: es) tca uca) (hX : X.prog = P ∧ X.w = w ∧ X.K = K ∧ X.mg = mg ∧ X.base = base := by exact ⟨rfl, rfl, rfl, rfl, rfl⟩) (hg : Gl X x := by rfl) (hdb : (x == ("__debug__" : Str)) = false := by decide)
    (he : starEach (e :: es) X.env = (false, eval e X.env) :: starEach es X.env := by rfl) (hpl : (backTo pos (starEach es X.env)).any (·.1) = false := by rfl) : DE X (.Call (.Name x p) (e :: es) [] pos) (tCall (spD K S) (List.replicate m V.non) E0 tca) (dCallD S m uca) := by
  obtain ⟨rfl, rfl, rfl, rfl, rfl⟩ := hX
  obtain ⟨f, fd, ps, ds, F, hm, kp, hv, b⟩ := kn.ex
  exact ⟨pe_callG F (hr.mono hk) hg hm kp b hv pass0 ha.pa hdb he hpl, re_callD ha.ra⟩
theorem de_callK1 {y : Str} {nm : Option Str} (kn : KnKN P w K mg base k x n m [y] S) (hr : RoomG j X.A) (hk : k ≤ j) (ha : DCa X (e :: es) tca uca) (hv : DE X v tv uv) (hX : X.prog = P ∧ X.w = w ∧ X.K = K ∧ X.mg = mg ∧ X.base = base := by exact ⟨rfl, rfl, rfl, rfl, rfl⟩) (hg : Gl X x := by rfl)
    (hall : (backToKw pos (keywordEach [⟨nm, v, pk⟩] X.env)).all (·.1.isSome) = true := by rfl) (hks : (backToKw pos (keywordEach [⟨nm, v, pk⟩] X.env)).filterMap (·.1) = [y] := by rfl) (hdb : (x == ("__debug__" : Str)) = false := by decide)
    (he : starEach (e :: es) X.env = (false, eval e X.env) :: starEach es X.env := by rfl) (hpl : ((backTo pos (starEach (e :: es) X.env)).any (·.1) || (backToKw pos (keywordEach [⟨nm, v, pk⟩] X.env)).any (·.1.isNone)) = false := by rfl) :
    DE X (.Call (.Name x p) (e :: es) [⟨nm, v, pk⟩] pos) (tCallNS n 1 (spD K S) (fun vs zs => vs ++ (List.replicate m V.non ++ zs)) (fun _ => E0) tca (tCons tv tNil)) (dCallKN S n m 1 uca (dCons uv dNil)) := by
  obtain ⟨rfl, rfl, rfl, rfl, rfl⟩ := hX
  obtain ⟨f, fd, ps, F, hm, kp, b⟩ := kn.ex
  refine ⟨pe_callNS F (hr.mono hk) hg hm kp b (fun σ => kbn_pass0) ha.pa (pk_cons hv.pe pk_nil) hall hks hdb he hpl, re_callKN ha.ra (ra_cons hv.re ra_nil)⟩
theorem de_callK2 {y y2 : Str} {nm nm2 : Option Str} (kn : KnKN P w K mg base k x n m [y, y2] S) (hr : RoomG j X.A) (hk : k ≤ j) (ha : DCa X (e :: es) tca uca) (hv : DE X v tv uv) (hv2 : DE X v2 tv2 uv2) (hX : X.prog = P ∧ X.w = w ∧ X.K = K ∧ X.mg = mg ∧ X.base = base := by exact ⟨rfl, rfl, rfl, rfl, rfl⟩) (hg : Gl X x := by rfl)
    (hall : (backToKw pos (keywordEach [⟨nm, v, pk⟩, ⟨nm2, v2, pk2⟩] X.env)).all (·.1.isSome) = true := by rfl) (hks : (backToKw pos (keywordEach [⟨nm, v, pk⟩, ⟨nm2, v2, pk2⟩] X.env)).filterMap (·.1) = [y, y2] := by rfl) (hdb : (x == ("__debug__" : Str)) = false := by decide)
    (he : starEach (e :: es) X.env = (false, eval e X.env) :: starEach es X.env := by rfl) (hpl : ((backTo pos (starEach (e :: es) X.env)).any (·.1) || (backToKw pos (keywordEach [⟨nm, v, pk⟩, ⟨nm2, v2, pk2⟩] X.env)).any (·.1.isNone)) = false := by rfl) :
    DE X (.Call (.Name x p) (e :: es) [⟨nm, v, pk⟩, ⟨nm2, v2, pk2⟩] pos) (tCallNS n 2 (spD K S) (fun vs zs => vs ++ (List.replicate m V.non ++ zs)) (fun _ => E0) tca (tCons tv (tCons tv2 tNil))) (dCallKN S n m 2 uca (dCons uv (dCons uv2 dNil))) := by
  obtain ⟨rfl, rfl, rfl, rfl, rfl⟩ := hX
  obtain ⟨f, fd, ps, F, hm, kp, b⟩ := kn.ex
  exact ⟨pe_callNS F (hr.mono hk) hg hm kp b (fun σ => kbn_pass0) ha.pa (pk_cons hv.pe (pk_cons hv2.pe pk_nil)) hall hks hdb he hpl, re_callKN ha.ra (ra_cons hv.re (ra_cons hv2.re ra_nil))⟩
end
end TL

set_option Elab.async false
set_option linter.all false
set_option maxRecDepth 100000
set_option maxHeartbeats 4000000
/-! TBj: whether something stands in one's own list; a list comprehension that is one's own. -/
namespace TL
open PySem PySem.Spec PyProof.Rows L2
section
variable [XW] {K : PySem.W.Frag} {te : TE} {ue : DTE}
def dNotInV (i : Nat) (ue : DTE) : DTE := fun δ R => ue δ fun d δ1 => ∃ ds, slL δ1[i]? = some ds ∧ SeqAt.shaped d = true ∧ SeqAt.shaped (.list ds) = true ∧ R (.bool (!(ds.any fun x => PyData.eqv x d))) δ1
theorem re_notInV {i : Nat} (he : RE K te ue) : RE K (tOp (rNotInD K) te (tVar i)) (dNotInV i ue) := by
  intro c σ G H δ Q R E h k
  refine he c σ G H δ _ _ E h fun d δ1 v G1 H1 h1 E1 e1 r1 => ?_
  obtain ⟨ds, hs, s1, s2, hR⟩ := h1
  obtain ⟨p, xs, hσ, hp, rr⟩ := slL_ok E1 hs
  refine ⟨.ref p, hσ, d, ds, (r1.up E1.ex).dp _ _ (SeqAt.canLay_of_shaped s1), .lst (.inl (.inl hp)) ((rr.up E1.ex).dp _ _ ?_), s1, s2, k _ δ1 _ G1 H1 hR E1 e1 (.bl _)⟩
  have z := SeqAt.canLay_of_shaped s2
  simpa [PyData.canLay0] using z
end
section
variable [XW] {X : Cx} {e : Expr} {te : TE} {ue : DTE} {p pos : Pos} {ut : DTT} {tt : TT}
theorem dt_notInV (i : Nat) {x : Str} (hu : X.A.units + 65 < cLine) (he : DE X e te ue) (hN : X.N[i]? = some x := by rfl) (hv : Vis X.env.scope x := by first | exact Or.inl rfl | exact Or.inr (Or.inl rfl) | exact Or.inr (Or.inr rfl)) (hd : (x == ("__debug__" : Str)) = false := by decide)
    (hcd : (x == ("__classdict__" : Str)) = false := by decide) (hm : behindInMarks .NotIn (.Name x p) = false := by rfl) : DT X (.Compare e [.NotIn] [.Name x p] pos) (tTest (tOp (rNotInD X.K) te (tVar i))) (dTest (dNotInV i ue)) :=
  ⟨pt_cmpR (op_notInD hu) he.pe (pe_var hN hv hd hcd) hm, rt_test (re_notInV he.re)⟩
theorem ds_lcOwn (i : Nat) {y : Str} {py spos : Pos} {elt tg iter : Expr} {ifs : List Expr} {scope : Scope} (own : List (Str × Nat)) {w : TI} {uw : DTI} {g : TG} {ug : DTG} {js : List Nat} (hc : X.calm = true) (hN : X.N.Nodup) (hi : DI X tg iter w uw) (ok : BlkOk X.N X.env.scope scope own)
    (hg : ∀ (s : Shared) (H : Hp) (C : Addr) (cl : List (Str × Addr)) (fp : List Addr), DG (X.blk s H scope (compEnvC scope cl C X.env) fp) tg g ug js) (ht : ∀ (s : Shared) (H : Hp) (C : Addr) (cl : List (Str × Addr)) (fp : List Addr), DTs (X.blk s H scope (compEnvC scope cl C X.env) fp) ifs tt ut)
    (he : ∀ (s : Shared) (H : Hp) (C : Addr) (cl : List (Str × Addr)) (fp : List Addr), DE (X.blk s H scope (compEnvC scope cl C X.env) fp) elt te ue) (hj : ∀ j ∈ js, j ∈ own.map (·.2))
    (hsw : swapsWith (.ListComp elt [⟨tg, iter, ifs, 0⟩] scope pos) (some (.Name y py)) spos.line X.env = pure true) (hy : X.N[i]? = some y := by rfl) (hyl : X.env.scope.names.lookup y = some .local := by rfl) (hs : ∀ x, foldedSetIterable iter X.env x = pure x := by intro _; rfl) :
    DS X (.Assign [.Name y py] (.ListComp elt [⟨tg, iter, ifs, 0⟩] scope pos) spos) (tAsg (tLc w g tt te (own.map (·.2))) (gName i)) (dLcOwn i uw ug ut ue (own.map (·.2))) :=
  ⟨ps_setLc hc hN hy hyl hsw hi.pi ok (fun a b c d e => (hg a b c d e).pg) (fun a b c d e => (ht a b c d e).pt) (fun a b c d e => (he a b c d e).pe) hs,
   rs_lcOwn hi.ri (hg X.s_0 X.H_0 0 [] []).rg (ht X.s_0 X.H_0 0 [] []).rt (he X.s_0 X.H_0 0 [] []).re hj⟩
end
end TL

set_option Elab.async false
set_option linter.all false
set_option maxRecDepth 100000
set_option maxHeartbeats 4000000
/-! TBk: comparisons within comprehensions. -/
namespace TL
open PySem PySem.Spec PyProof.Rows L2
variable [XW] {X : Cx} {K : PySem.W.Frag} {a b : Expr} {ta tb : TE} {ua ub : DTE} {pos : Pos}
theorem dt_inI (hu : X.A.units + 65 < cLine) (ha : DE X a ta ua) (hb : DE X b tb ub) (hK : X.K = K := by rfl) (hm : behindInMarks .In b = false := by rfl) : DT X (.Compare a [.In] [b] pos) (tTest (tOp (rInD K) ta tb)) (dTest (dOp dIn ua ub)) := by
  subst hK
  exact dt_cmp (op_inD hu) ro_in hm ha hb
theorem de_inI (hu : X.A.units + 65 < cLine) (ha : DE X a ta ua) (hb : DE X b tb ub) (hK : X.K = K := by rfl) (hm : behindInMarks .In b = false := by rfl) : DE X (.Compare a [.In] [b] pos) (tOp (rInD K) ta tb) (dOp dIn ua ub) := by
  subst hK
  exact de_cmp (op_inD hu) ro_in hm ha hb
theorem dt_eqC (hu : X.A.units + 64 < cLine) (ha : DE X a ta ua) (hb : DE X b tb ub) (hK : X.K = K := by rfl) (hm : behindInMarks .Eq b = false := by exact nomark _) : DT X (.Compare a [.Eq] [b] pos) (tTest (tOp (rEqD K) ta tb)) (dTest (dOp dEq ua ub)) := by
  subst hK
  exact dt_cmp (op_eqD hu) ro_eq hm ha hb
theorem de_sum1I {e : Expr} {te : TE} {ue : DTE} {p : Pos} (hm : X.mg "sum" = none) (ha : DE X e te ue) (hK : X.K = K := by rfl) (hc : X.calm = true := by rfl) (hg : Gl X "sum" := by rfl) (hs : starEach [e] X.env = (false, eval e X.env) :: starEach [] X.env := by rfl) (hpl : (backTo pos (starEach [] X.env)).any (·.1) = false := by rfl) :
    DE X (.Call (.Name "sum" p) [e] [] pos) (tCB (rSum K) (tCons te tNil)) (dSum ue) := by
  subst hK
  exact de_sum1 hm ha hc hg (by decide +kernel) hs hpl
theorem de_ixLI (ha : DE X a ta ua) (hb : DE X b tb ub) (hK : X.K = K := by rfl) (hs : PlainIx b := by exact fun _ _ => rfl) : DE X (.Subscript a b pos) (tOp (rIxL K) ta tb) (dOp dIxL ua ub) := by
  subst hK
  exact de_ix ix_list ro_ixL ha hb hs
end TL

set_option Elab.async false
set_option linter.all false
set_option maxRecDepth 100000
set_option maxHeartbeats 4000000
/-! TBl: list(..), list(range(..)), sorted(..) of ints, xs.insert(..) of one's own list. -/
namespace TL
open PySem PySem.Spec PyProof.Rows L2
theorem rpAll_take {K : PySem.W.Frag} {G : Hp} : ∀ {vs : List V} {ds : List PyData} (n : Nat), RpAll K G vs ds → RpAll K G (vs.take n) (ds.take n)
  | _, _, 0, _ => .nil
  | _, _, _ + 1, .nil => .nil
  | _, _, n + 1, .cons r t => .cons r (rpAll_take n t)
theorem rpAll_drop {K : PySem.W.Frag} {G : Hp} : ∀ {vs : List V} {ds : List PyData} (n : Nat), RpAll K G vs ds → RpAll K G (vs.drop n) (ds.drop n)
  | _, _, 0, h => h
  | _, _, _ + 1, .nil => .nil
  | _, _, n + 1, .cons _ t => rpAll_drop n t
theorem rpAll_of_ints {K : PySem.W.Frag} {G : Hp} : ∀ {ns : List Int} {vs : List V}, RpAll K G vs (ns.map PyData.int) → vs = ns.map V.int
  | [], _, h => by
    cases h
    rfl
  | n :: r, _, h => by
    cases h with
    | cons a t => rw [a.int_of, rpAll_of_ints t]; rfl
section
variable [XW] {K : PySem.W.Frag} {ta tb : TE} {ua ub : DTE}
def rListOf (K : PySem.W.Frag) : List V → Hp → VK → Prop := fun xs H Q => ∃ p ys, xs = [.ref p] ∧ (SqL K H p ys ∨ SqT K H p ys) ∧ ∀ l, H l = none → Q (.ref l) (upd H l (.lst ys))
def dListOf (u : DTE) : DTE := fun δ R => u δ fun d δ1 => match d with
  | .list ds => R (.list ds) δ1
  | .tuple ds => R (.list ds) δ1
  | _ => False
theorem re_listOf (ha : RE K ta ua) : RE K (tCB (rListOf K) (tCons ta tNil)) (dListOf ua) := by
  intro c σ G H δ Q R E h k
  refine ha c σ G H δ _ _ E h fun d δ1 v G1 H1 h1 E1 e1 r1 => ?_
  cases d <;> first
    | exact False.elim h1
    | skip
  · obtain ⟨a, xs, rfl, q1, q2⟩ := r1.lst_of
    refine ⟨a, xs, rfl, .inl (.inl (.inl (E1.ex _ _ q1))), fun p hp => ?_⟩
    have A := Al.new (o := .lst xs) E1.ex hp
    exact k _ δ1 _ _ _ h1 (E1.al A) (e1.trans A.g) (.lst upd_same (q2.up A.g))
  · obtain ⟨a, xs, rfl, q1, q2⟩ := r1.tup_of
    refine ⟨a, xs, rfl, .inr (.inl (.inl (E1.ex _ _ q1))), fun p hp => ?_⟩
    have A := Al.new (o := .lst xs) E1.ex hp
    exact k _ δ1 _ _ _ h1 (E1.al A) (e1.trans A.g) (.lst upd_same (q2.up A.g))
def dListRg (u : DTE) : DTE := fun δ R => u δ fun d δ1 => match d with
  | .int n => (0 ≤ n ∧ n ≤ 16777216) ∧ R (.list (iotaD 0 n.toNat)) δ1
  | _ => False
theorem rgV_rp {G : Hp} (n : Int) : RpAll K G (rgV 0 n) (iotaD 0 n.toNat) := by
  unfold rgV iotaD
  rw [Int.sub_zero]
  generalize List.range n.toNat = l
  induction l with
  | nil => exact .nil
  | cons a r ih => exact .cons (.int _) ih
theorem re_listRg (ha : RE K ta ua) : RE K (tLstRg (tRg1 ta)) (dListRg ua) := by
  intro c σ G H δ Q R E h k
  refine ha c σ G H δ _ _ E h fun d δ1 v G1 H1 h1 E1 e1 r1 => ?_
  cases d <;> first
    | exact False.elim h1
    | skip
  rename_i n
  have e := r1.int_of
  subst e
  refine ⟨n, rfl, RgOk.of_le (by decide) h1.1.2 (by decide) h1.1.1, fun p hp => ?_⟩
  have A := Al.new (o := .lst (rgV 0 n)) E1.ex hp
  exact k _ δ1 _ _ _ h1.2 (E1.al A) (e1.trans A.g) (.lst upd_same (rgV_rp n))
def dSortI (u : DTE) : DTE := fun δ R => u δ fun d δ1 => match d with
  | .list ds => ∃ ns : List Int, ds = ns.map PyData.int ∧ ns.length < 64 ∧ ∀ ns' : List Int, ns'.Perm ns → ns'.Pairwise (· ≤ ·) → R (.list (ns'.map PyData.int)) δ1
  | _ => False
theorem re_sortI (ha : RE K ta ua) : RE K (tCB (rSorted K) (tCons ta tNil)) (dSortI ua) := by
  intro c σ G H δ Q R E h k
  refine ha c σ G H δ _ _ E h fun d δ1 v G1 H1 h1 E1 e1 r1 => ?_
  cases d <;> first
    | exact False.elim h1
    | skip
  obtain ⟨ns, rfl, few, h1⟩ := h1
  obtain ⟨a, xs, rfl, q1, q2⟩ := r1.lst_of
  have ex := rpAll_of_ints q2
  subst ex
  refine ⟨a, ns, rfl, .inl (.inl (E1.ex _ _ q1)), few, fun ns' p pm pw hp => ?_⟩
  have A := Al.new (o := .lst (ns'.map V.int)) E1.ex hp
  exact k _ δ1 _ _ _ (h1 ns' pm pw) (E1.al A) (e1.trans A.g) (.lst upd_same (ints_rp ns'))
def rIns : V → List V → Hp → VK → Prop := fun x vs H Q => ∃ (l : Addr) (xs : List V) (i : Int) (y : V), x = .ref l ∧ vs = [.int i, y] ∧ H l = some (.lst xs) ∧ xs.length < sizeLine ∧ 0 ≤ i ∧ i < 2 ^ 63 ∧
    Q .non (upd H l (.lst (xs.take i.toNat ++ [y] ++ xs.drop i.toNat)))
def dInsert (i : Nat) (ua ub : DTE) : DTS := fun E δ => (slL δ[i]?).isSome = true ∧ ua δ fun d δ1 => ub δ1 fun y δ2 => ∃ (t : Option Nat) (ds : List PyData) (k : Int), δ2[i]? = some (.own t ds) ∧ d = .int k ∧ ds.length < sizeLine ∧ 0 ≤ k ∧ k < 2 ^ 63 ∧ E.nx (δ2.set i (.own t (ds.take k.toNat ++ [y] ++ ds.drop k.toNat)))
theorem rs_insert {i : Nat} (ha : RE K ta ua) (hb : RE K tb ub) : RS K (tDrop (tBM K "list" rIns (tVar i) (tCons ta (tCons tb tNil)))) (dInsert i ua ub) := by
  intro c σ G H δ D E EV h k
  obtain ⟨h0, h⟩ := h
  obtain ⟨ds0, h0⟩ := Option.isSome_iff_exists.mp h0
  obtain ⟨p, xs0, hv, hp0, _⟩ := slL_ok EV h0
  refine ⟨.ref p, hv, .inl ⟨rfl, xs0, .inl (.inl hp0)⟩, ?_⟩
  refine ha c σ G H δ _ _ EV h fun d δ1 v1 G1 H1 h1 E1 e1 r1 => ?_
  refine hb c σ G1 H1 δ1 _ _ E1 h1 fun y δ2 v2 G2 H2 h2 E2 e2 r2 => ?_
  obtain ⟨t, ds, kk, hs, rfl, few, k0, k1, hN⟩ := h2
  have ev := r1.int_of
  subst ev
  obtain ⟨p', xs, e, hg, hh, rr, q⟩ := E2.sl i _ hs
  rw [hv] at e
  have ep := V.ref.inj (Option.some.inj (Option.some.inj e))
  subst ep
  refine ⟨p, xs, kk, v2, rfl, rfl, hh, by rw [rr.len]; exact few, k0, k1, ?_⟩
  exact k.nx σ G2 _ _ hN (E2.poke hs hv (((rpAll_take _ rr).app (.one r2)).app (rpAll_drop _ rr))) (e1.trans e2)
end
section
variable [XW] {X : Cx} {a b e : Expr} {ta tb te : TE} {ua ub ue : DTE} {p p2 pos pk : Pos}
theorem de_list1 (hm : X.mg "list" = none) (ha : DE X a ta ua) (hg : Gl X "list" := by rfl) (hv : bootBuiltins "list" = some (.type "list") := by decide +kernel) (hs : starEach [a] X.env = (false, eval a X.env) :: starEach [] X.env := by rfl) (hpl : (backTo pos (starEach [] X.env)).any (·.1) = false := by rfl) :
    DE X (.Call (.Name "list" p) [a] [] pos) (tCB (rListOf X.K) (tCons ta tNil)) (dListOf ua) := ⟨pe_callTy call_list_of hg hm hv (pa_cons ha.pe pa_nil hs) (by decide) (by decide) hs hpl, re_listOf ha.re⟩
theorem de_listRg (hm : X.mg "list" = none) (hr : X.mg "range" = none) (ha : DE X a ta ua) (hc : X.calm = true := by rfl) (hg : Gl X "list" := by rfl) (hgr : Gl X "range" := by rfl) (hs : starEach [a] X.env = (false, eval a X.env) :: starEach [] X.env := by rfl)
    (hs2 : starEach [.Call (.Name "range" pk) [a] [] p2] X.env = (false, eval (.Call (.Name "range" pk) [a] [] p2) X.env) :: starEach [] X.env := by rfl) :
    DE X (.Call (.Name "list" p) [.Call (.Name "range" pk) [a] [] p2] [] pos) (tLstRg (tRg1 ta)) (dListRg ua) := ⟨pe_listRg hc hg hm (prg_1 hgr hr ha.pe hs) hs2, re_listRg ha.re⟩
theorem de_sortI (hm : X.mg "sorted" = none) (ha : DE X a ta ua) (hg : Gl X "sorted" := by rfl) (hv : bootBuiltins "sorted" = some (.builtin "sorted") := by decide +kernel) (hs : starEach [a] X.env = (false, eval a X.env) :: starEach [] X.env := by rfl) (hpl : (backTo pos (starEach [] X.env)).any (·.1) = false := by rfl) :
    DE X (.Call (.Name "sorted" p) [a] [] pos) (tCB (rSorted X.K) (tCons ta tNil)) (dSortI ua) := ⟨pe_callB cr_sorted hg hm hv (pa_cons ha.pe pa_nil hs) (by decide) (by decide) hs hpl, re_sortI ha.re⟩
theorem ds_insert (i : Nat) {x : Str} {apos cpos : Pos} (ha : DE X a ta ua) (hb2 : DE X b tb ub) (hN : X.N[i]? = some x := by rfl) (hv : Vis X.env.scope x := by first | exact Or.inl rfl | exact Or.inr (Or.inl rfl) | exact Or.inr (Or.inr rfl)) (hd : (x == ("__debug__" : Str)) = false := by decide)
    (hcd : (x == ("__classdict__" : Str)) = false := by decide)
    (hb : attributeBase (.Name x p) "insert" X.env (eval (.Name x p) X.env) = eval (.Name x p) X.env := by rfl)
    (hfew : ((backTo cpos (starEach [a, b] X.env)).all (fun x => !x.1) && (backToKw cpos (keywordEach [] X.env)).all (fun x => x.1.isSome)
      && decide ([a, b].length + ([] : List Keyword).length + (if ([] : List Keyword).isEmpty then 0 else 1) < 30)) = true := by rfl)
    (hline : (apos.endLine == cpos.line) = true := by rfl) (hst : starEach [a, b] X.env = (false, eval a X.env) :: starEach [b] X.env := by rfl) (hst2 : starEach [b] X.env = (false, eval b X.env) :: starEach [] X.env := by rfl) (hpl : (backTo cpos (starEach [b] X.env)).any (·.1) = false := by rfl)
    (hs : swapsWith (.Call (.Attribute (.Name x p) "insert" apos) [a, b] [] cpos) none pos.line X.env = pure false := by rfl) :
    DS X (.Expr (.Call (.Attribute (.Name x p) "insert" apos) [a, b] [] cpos) pos) (tDrop (tBM X.K "list" rIns (tVar i) (tCons ta (tCons tb tNil)))) (dInsert i ua ub) :=
  ⟨ps_expr (pe_bm PySem.F.plainAttrs_list PySem.F.slot_list_insert PySem.F.type_list_insert mt_insert (pe_var hN hv hd hcd) (pa_cons ha.pe (pa_cons hb2.pe pa_nil hst2) hst) hb hfew hline hst hpl) hs, rs_insert ha.re hb2.re⟩
end
end TL

set_option Elab.async false
set_option linter.all false
set_option maxRecDepth 100000
set_option maxHeartbeats 4000000
/-! TBm: z[::-1] of texts. -/
namespace TL
open PySem PySem.Spec L2
def revS (z : Str) : Str := ⟨z.cps.toList.reverse.toArray⟩
theorem fm_map {α β : Type} (f : α → Option β) (g : α → β) : ∀ (l : List α), (∀ k ∈ l, f k = some (g k)) → l.filterMap f = l.map g
  | [], _ => rfl
  | a :: r, h => by
    rw [List.filterMap_cons, h a List.mem_cons_self, List.map_cons, fm_map f g r fun k hk => h k (List.mem_cons_of_mem _ hk)]
theorem rev_ix (z : Str) : (Builtin.Str.strSliceIndices none none (-1) z.length).filterMap (z.cps[·]?) = z.cps.toList.reverse := by
  have lz : z.cps.toList.length = z.length := by rw [Array.length_toList]; rfl
  have e : Builtin.Str.strSliceIndices none none (-1) z.length = (List.range z.length).map fun k => z.length - 1 - k := by
    unfold Builtin.Str.strSliceIndices
    show sliceRange ((z.length : Int) - 1) (-1) (-1) = _
    unfold sliceRange
    have hc : (if (-1 : Int) > 0 then (if (z.length : Int) - 1 < -1 then (-1 - ((z.length : Int) - 1) + -1 - 1) / -1 else 0) else (if (z.length : Int) - 1 > -1 then ((z.length : Int) - 1 - -1 - -1 - 1) / (- -1) else 0)) = (z.length : Int) := by
      rw [if_neg (by decide)]
      by_cases h : z.length = 0
      · rw [h]
        rfl
      · rw [if_pos (by omega)]
        show ((z.length : Int) - 1 - -1 - -1 - 1) / 1 = _
        rw [Int.ediv_one]
        omega
    rw [hc]
    show (List.range ((z.length : Int)).toNat).map (fun (k : Nat) => ((z.length : Int) - 1 + -1 * (k : Int)).toNat) = _
    rw [Int.toNat_natCast]
    refine List.map_congr_left fun k hk => ?_
    have := List.mem_range.mp hk
    omega
  rw [e]
  apply List.ext_getElem?
  intro i
  by_cases h : i < z.length
  · have key : ((List.range z.length).map fun k => z.length - 1 - k).filterMap (z.cps[·]?) = (List.range z.length).map fun k => z.cps.toList.getD (z.length - 1 - k) 0 := by
      rw [List.filterMap_map]
      refine fm_map _ _ _ fun k hk => ?_
      have := List.mem_range.mp hk
      have hl : z.length - 1 - k < z.cps.toList.length := by rw [lz]; omega
      show z.cps[z.length - 1 - k]? = some (z.cps.toList.getD (z.length - 1 - k) 0)
      rw [List.getD_eq_getElem?_getD, List.getElem?_eq_getElem hl, ← Array.getElem?_toList, List.getElem?_eq_getElem hl]
      rfl
    rw [key, List.getElem?_map, List.getElem?_range h, List.getElem?_reverse (by rw [lz]; exact h)]
    have hl : z.length - 1 - i < z.cps.toList.length := by rw [lz]; omega
    show some (z.cps.toList.getD (z.length - 1 - i) 0) = z.cps.toList[z.cps.toList.length - 1 - i]?
    rw [lz, List.getD_eq_getElem?_getD, List.getElem?_eq_getElem hl]
    rfl
  · rw [List.getElem?_eq_none, List.getElem?_eq_none]
    · rw [List.length_reverse, lz]
      omega
    · refine Nat.le_trans (List.length_filterMap_le _ _) ?_
      rw [List.length_map, List.length_range]
      omega
def tRevS (te tk : TE) : TE := fun σ H Q => te σ H fun x H1 => tk σ H1 fun k H2 => ∃ z, x = .str z ∧ k = .int (-1) ∧ z.length ≤ sizeLine ∧ Q (.str (revS z)) H2
section
variable [XW] {X : Cx} {e k : Expr} {te tk : TE} {ue uk : DTE} {pos p2 : Pos}
open PyProof.Rows in
theorem pe_revS (he : PE X e te) (hk : PE X k tk) : PE X (.Subscript e (.Slice none none (some k) p2) pos) (tRevS te tk) := by
  refine ⟨fun pins s σ H Q I h => ?_⟩
  refine PyProof.Rows.Subscript_ (thn (he.run pins s σ H _ I h) fun v s1 ⟨x, H1, I1, r1, q1⟩ => ?_)
  refine wpAny_Slice (wpAny_pure (wpAny_pure ?_))
  rw [evalPart_some]
  refine thn (hk.run pins s1 σ H1 _ I1 q1) fun vk s4 ⟨x4, H4, I4, r4, q4⟩ => ?_
  obtain ⟨z, rfl, rfl, hz, q⟩ := q4
  obtain ⟨t1, rfl⟩ := r1
  obtain ⟨t4, rfl⟩ := r4
  have I5 : Inv X pins σ H4 { s4 with heap := s4.heap.push { cls := .type "slice", data := .fields #[.none, .none, .int (-1) t4] } } := I4.kept (t' := s4.toks) fun b ob q => Heap.get?_push_of_some _ q
  refine tail_any (ops := [.ref s4.heap.objs.size, .str z t1]) (typeIs_str _ _ _) F.slot_str_getitem.lookup ?_ (by with_unfolding_all rfl)
  refine wpAny_getItem_str_slice (l := none) (u := none) (st := some (-1, t4)) ⟨_, Heap.get?_push_size _ rfl, rfl, rfl⟩ rfl ?_
  unfold sliceMade slicePicked
  have e1 := rev_ix z
  show Made.post (if ((-1 : Int) == 1 && (Builtin.Str.strSliceIndices none none (-1) z.length).length == z.length) = true then Made.val (.str z t1) else _) _ _
  rw [if_neg (by simp)]
  refine ⟨?_, .str _, H4, I5.tok _, ⟨_, rfl⟩, ?_⟩
  · show (((Builtin.Str.strSliceIndices none none (-1) z.length).filterMap (z.cps[·]?)).toArray).size ≤ sizeLine
    rw [e1, List.size_toArray, List.length_reverse, Array.length_toList]
    exact hz
  · show Q (.str ⟨((Builtin.Str.strSliceIndices none none (-1) z.length).filterMap (z.cps[·]?)).toArray⟩) H4
    rw [e1]
    exact q
def dRevS (ue uk : DTE) : DTE := fun δ R => ue δ fun d δ1 => uk δ1 fun d2 δ2 => match d with
  | .str z => d2 = .int (-1) ∧ z.length ≤ sizeLine ∧ R (.str (revS z)) δ2
  | _ => False
theorem re_revS {K : PySem.W.Frag} (he : RE K te ue) (hk : RE K tk uk) : RE K (tRevS te tk) (dRevS ue uk) := by
  intro c σ G H δ Q R E h kk
  refine he c σ G H δ _ _ E h fun d δ1 v G1 H1 h1 E1 e1 r => ?_
  refine hk c σ G1 H1 δ1 _ _ E1 h1 fun d1 δ2 v1 G2 H2 h2 E2 e2 r1 => ?_
  cases d <;> first
    | exact False.elim h2
    | skip
  obtain ⟨e, hz, hR⟩ := h2
  rw [e] at r1
  exact ⟨_, r.str_of, r1.int_of, hz, kk _ δ2 _ G2 H2 hR E2 (e1.trans e2) (.str _)⟩
theorem de_revS (he : DE X e te ue) (hk : DE X k tk uk) : DE X (.Subscript e (.Slice none none (some k) p2) pos) (tRevS te tk) (dRevS ue uk) := ⟨pe_revS he.pe hk.pe, re_revS he.re hk.re⟩
end
end TL

set_option Elab.async false
set_option linter.all false
set_option maxRecDepth 100000
set_option maxHeartbeats 4000000
/-! TBn: own defs called with n by place, then one by its name, the last m left out. -/
namespace TL
open PySem PySem.Spec PyProof.Rows L2
structure KnKE (P : Program) (w : World) (K : PySem.W.Frag) (mg : Str → Option Value) (base : Heap) (k : Nat) (x : Str) (n m : Nat) (ks : List Str) (S : DSp) : Prop where
  ex : ∃ (f : Addr) (fd : FuncData) (ps : List Str), FnOkG P w K mg base CX0 k f fd ps (spD K S) ∧ mg x = some (.ref f) ∧ PySem.W.keepIn K (.ref f) = true ∧
    KBn K fd ps n ks (fun us ws => us ++ (ws ++ List.replicate m Value.none)) (fun vs zs => vs ++ (zs ++ List.replicate m V.non))
theorem kbn_noneE {K : PySem.W.Frag} {x qual : Str} {params : Arguments} {body : List Stmt} {scope : Scope} {q : Nat} {f : Addr} {fd : FuncData} {ps : List Str} (F : FunD K x qual params body scope (List.replicate (q + 1) V.non) [] f fd) (n m : Nat) (ks : List Str)
    (h : ∀ (T : Addr) (kV doc pm : Value) (an : Option Addr) (cdv ct : Value) (us ws : List Value), us.length = n → ws.length = ks.length →
      ∃ k, bindArgs (PySem.W.fnOf x qual params body scope (.ref T) kV doc pm an cdv ct) ⟨us, ks.zip ws⟩ = seqItems? (.ref T) >>= k ∧ k (some (List.replicate (q + 1) Value.none).toArray) = pure (ps.zip (us ++ (ws ++ List.replicate m Value.none)))) :
    KBn K fd ps n ks (fun us ws => us ++ (ws ++ List.replicate m Value.none)) (fun vs zs => vs ++ (zs ++ List.replicate m V.non)) := by
  obtain ⟨oc, od, dV, kV, doc, pm, an, cdv, ct, osl, rfl, lk, hcd, hD, _⟩ := F.ex
  rcases hD with ⟨e, _⟩ | ⟨_, T, o, its, mm, rfl, lT, oT, rT⟩
  · exact absurd e (fun z => nomatch z)
  · have ei := vals_nones rT
    subst ei
    refine ⟨fun z us ws Y l1 l2 => ?_, fun r1 r2 => r1.append (r2.append (nones_vals m))⟩
    obtain ⟨k, e1, e2⟩ := h T kV doc pm an cdv ct us ws l1 l2
    refine BindsTo.of_looks fun M => ?_
    rw [e1]
    exact looks_items Y lT oT (.of_pure e2)
section
variable [XW] {K : PySem.W.Frag}
def dCallKE (S : DSp) (n m l : Nat) (ua : DCA) (uk : DTA) : DTE := fun δ R => ua δ fun cs δ1 => uk δ1 fun ds δ2 => cs.length = n ∧ ds.length = l ∧ callD S R (cs ++ (ds.map CA.d ++ nonesC m)) δ2
theorem re_callKE {S : DSp} {n m l : Nat} {t tk : TA} {ua : DCA} {uk : DTA} (ha : RCA K t ua) (hv : RA K tk uk) :
    RE K (tCallNS n l (spD K S) (fun vs zs => vs ++ (zs ++ List.replicate m V.non)) (fun _ => E0) t tk) (dCallKE S n m l ua uk) := by
  intro c σ G H δ Q R E h k
  refine ha c σ G H δ _ _ E h fun cs δ1 vs G1 H1 h1 E1 e1 r1 => ?_
  refine hv c σ G1 H1 δ1 _ _ E1 h1 fun ds δ2 zs G2 H2 h2 E2 e2 r2 => ?_
  obtain ⟨len, lz, h2⟩ := h2
  refine ⟨by rw [r1.len, len], by rw [r2.len, lz], ?_⟩
  exact callD_ok E2 (e1.trans e2) ((r1.up e2).app ((rpAll_ca r2).app (nones_ca m))) h2 k
end
section
variable [XW] {X : Cx} {P : Program} {w : World} {K : PySem.W.Frag} {mg : Str → Option Value} {base : Heap} {x : Str} {n m : Nat} {S : DSp} {k j : Nat} {e : Expr} {es : List Expr} {tca : TA} {uca : DCA} {p pos pk : Pos} {v : Expr} {tv : TE} {uv : DTE}
theorem de_callKE {y : Str} {nm : Option Str} (kn : KnKE P w K mg base k x n m [y] S) (hr : RoomG j X.A) (hk : k ≤ j) (ha : DCa X (e :: es) tca uca) (hv : DE X v tv uv) (hX : X.prog = P ∧ X.w = w ∧ X.K = K ∧ X.mg = mg ∧ X.base = base := by exact ⟨rfl, rfl, rfl, rfl, rfl⟩) (hg : Gl X x := by rfl)
    (hall : (backToKw pos (keywordEach [⟨nm, v, pk⟩] X.env)).all (·.1.isSome) = true := by rfl) (hks : (backToKw pos (keywordEach [⟨nm, v, pk⟩] X.env)).filterMap (·.1) = [y] := by rfl) (hdb : (x == ("__debug__" : Str)) = false := by decide)
    (he : starEach (e :: es) X.env = (false, eval e X.env) :: starEach es X.env := by rfl) (hpl : ((backTo pos (starEach (e :: es) X.env)).any (·.1) || (backToKw pos (keywordEach [⟨nm, v, pk⟩] X.env)).any (·.1.isNone)) = false := by rfl) :
    DE X (.Call (.Name x p) (e :: es) [⟨nm, v, pk⟩] pos) (tCallNS n 1 (spD K S) (fun vs zs => vs ++ (zs ++ List.replicate m V.non)) (fun _ => E0) tca (tCons tv tNil)) (dCallKE S n m 1 uca (dCons uv dNil)) := by
  obtain ⟨rfl, rfl, rfl, rfl, rfl⟩ := hX
  obtain ⟨f, fd, ps, F, hm, kp, b⟩ := kn.ex
  exact ⟨pe_callNS F (hr.mono hk) hg hm kp b (fun σ => kbn_pass0) ha.pa (pk_cons hv.pe pk_nil) hall hks hdb he hpl, re_callKE ha.ra (ra_cons hv.re ra_nil)⟩
end
end TL

set_option Elab.async false
set_option linter.all false
set_option maxRecDepth 100000
set_option maxHeartbeats 4000000
/-! TBo: x = a + b that is one's own; a def that hands back a new list: by a comprehension, by a call, and one that may refuse; a def called out of a list. -/
namespace TL
open PySem PySem.Spec PyProof.Rows L2
section
variable [XW] {K : PySem.W.Frag} {ta tb : TE} {ua ub : DTE} {w : TI} {uw : DTI} {g : TG} {ug : DTG} {tt : TT} {ut : DTT} {te : TE} {ue : DTE} {js vs : List Nat}
def dCatOwn (i : Nat) (ua ub : DTE) : DTS := fun E δ => ua δ fun d1 δ1 => ub δ1 fun d2 δ2 => match d1, d2 with
  | .list xs, .list ys => xs.length + ys.length ≤ sizeLine ∧ E.nx (δ2.set i (.own none (xs ++ ys)))
  | _, _ => False
theorem rs_catOwn {i : Nat} (ha : RE K ta ua) (hb : RE K tb ub) : RS K (tAsg (tOp rCat ta tb) (gName i)) (dCatOwn i ua ub) := by
  intro c σ G H δ D E EV h k
  refine ha c σ G H δ _ _ EV h fun d1 δ1 v1 G1 H1 h1 E1 e1 r1 => ?_
  refine hb c σ G1 H1 δ1 _ _ E1 h1 fun d2 δ2 v2 G2 H2 h2 E2 e2 r2 => ?_
  cases d1 <;> cases d2 <;> first
    | exact False.elim h2
    | skip
  obtain ⟨a, xs, rfl, q1, s1⟩ := (r1.up e2).lst_of
  obtain ⟨b, ys, rfl, q2, s2⟩ := r2.lst_of
  refine ⟨a, b, xs, ys, rfl, rfl, E2.ex _ _ q1, E2.ex _ _ q2, by rw [s1.len, s2.len]; exact h2.1, fun p hp => ?_⟩
  exact k.nx _ G2 _ _ h2.2 (E2.fresh hp (E2.new0 hp) (s1.app s2)) (e1.trans e2)
/-- a comprehension that is handed back new -/
def dLcRet (uw : DTI) (ug : DTG) (ut : DTT) (ue : DTE) (vs : List Nat) : DTS := fun E δ => uw δ fun ds δ1 => lcW vs ug ut ue E.rn ds [] δ1
theorem rs_lcRet (hw : RI K w uw) (hg : RG K g ug js) (ht : RT K tt ut) (he : RE K te ue) (hj : ∀ j ∈ js, j ∈ vs) : RS K (tRet (tLc w g tt te vs)) (dLcRet uw ug ut ue vs) := by
  intro c σ G H δ D' E EV h k
  refine hw c σ G H δ _ _ EV h fun ds δ1 J G1 H1 h1 E1 e1 Y => ?_
  intro D hD
  have hn := hid_new E1 hD
  refine lc_turns (Q := fun x H1 => D'.rt x H1) hg ht he hj (E1.hide (ob := .lst []) hD (E1.new0 hD)) hn Y h1 fun acc δ' xs G' H' hR E' e' r' => ?_
  exact k.rn acc δ' D xs σ G' H' hR E' hn (e1.trans e') r'
/-! ### a new list comes back -/
theorem back_new {c : Cf} {σ : L2.St} {G1 H1 G' H' : Hp} {δ1 : List Sl} {cs : List CA} {outs : List (List PyData)} {p : Addr} {xs : List V} (E1 : EnvOk K c G1 H1 σ δ1) (hn : (muts δ1 cs).Nodup) (hl : outs.length = (muts δ1 cs).length)
    (F : Fin K (calleeC σ (muts δ1 cs) G1 H1) G' H' outs) (hp : H1 p = none) (gp : G' p = none) (hh : H' p = some (.lst xs)) :
    EnvOk K { c with hid := (p, .lst xs) :: c.hid } G' H' σ (setOuts δ1 (muts δ1 cs) outs) ∧ ∀ zs, (p, zs) ∉ c.hid := by
  have EB := caller_back E1 hn hl F
  have old : ∀ (j : Nat) (t : Option Nat) (es : List PyData), (setOuts δ1 (muts δ1 cs) outs)[j]? = some (Sl.own t es) → σ[j]? ≠ some (some (V.ref p)) := fun j t es hs z => by
    have so := setOuts_get (M := muts δ1 cs) (δ := δ1) (outs := outs) (k := j) hn hl fun i hi => muts_own hi
    have hd : ∃ t' ds', δ1[j]? = some (Sl.own t' ds') := by
      by_cases hj : j ∈ muts δ1 cs
      · exact muts_own hj
      · rw [so.2.1 hj] at hs
        exact ⟨_, _, hs⟩
    obtain ⟨t', ds', hd⟩ := hd
    obtain ⟨q, ys, e, _, q1, _⟩ := E1.sl j _ hd
    rw [z] at e
    rw [← V.ref.inj (Option.some.inj (Option.some.inj e)), hp] at q1
    cases q1
  have n0 : ∀ zs, (p, zs) ∉ c.hid := fun zs z => by
    have q := (E1.hd p zs z).1
    rw [hp] at q
    cases q
  exact ⟨{
    xw := EB.xw, g0 := EB.g0, ex := EB.ex, fr := EB.fr, fs := EB.fs, tg := EB.tg, len := EB.len
    sl := fun i s h => by
      have z := EB.sl i s h
      cases s with
      | no => trivial
      | box b => trivial
      | dat d => exact z
      | scr d => exact z
      | own t d => exact z
    ap := EB.ap
    hd := fun q ys hm => by
      rcases List.mem_cons.mp hm with e | hm
      · cases e
        exact ⟨hh, gp, E1.new0 hp, fun j hj z => (E1.tg j hj).1 (by rw [← z]; exact hp), old⟩
      · exact EB.hd q ys hm
    bx := caller_box E1 hn hl F rfl rfl rfl fun a ha h o hm => by
      rcases List.mem_cons.mp hm with e | hm
      · cases e
        exact ha hp
      · exact h o hm }, n0⟩
/-- f(..) that is handed back new -/
def dRetCallN (S : DSn) (ua : DCA) : DTS := fun E δ => ua δ fun cs δ1 => (muts δ1 cs).Nodup ∧ S (asOf δ1 cs 0) fun ds outs => outs.length = (muts δ1 cs).length ∧ E.rn ds (setOuts δ1 (muts δ1 cs) outs)
theorem rs_retCallN {S : DSn} {t : TA} {ua : DCA} (ha : RCA K t ua) : RS K (tRet (tCall (spN K S) [] E0 t)) (dRetCallN S ua) := by
  intro c σ G H δ D E EV h k
  refine ha c σ G H δ _ _ EV h fun cs δ1 vs G1 H1 h1 E1 e1 r1 => ?_
  obtain ⟨hn, hS⟩ := h1
  show spN K S (vs ++ []) H1 _ E0
  rw [List.append_nil]
  refine ⟨calleeC σ (muts δ1 cs) G1 H1, asOf δ1 cs 0, _, rfl, rfl, callee_env E1 r1 hn, hS, fun ds outs p xs G' H' hR F hp gp hh rr => ?_⟩
  obtain ⟨EH, n0⟩ := back_new E1 hn hR.1 F hp gp hh
  exact k.rn ds _ p xs σ G' H' hR.2 EH n0 (e1.trans F.g0) rr
/-! ### .. of defs that may refuse -/
abbrev DSxn := List Sl → (List PyData → List (List PyData) → Prop) → (PyData → List (List PyData) → Prop) → Prop
def spXN (K : PySem.W.Frag) (S : DSxn) : Sp := fun vs H Q E => ∃ (c : Cf) (as : List Sl) (R : List PyData → List (List PyData) → Prop) (Xr : PyData → List (List PyData) → Prop), c.hid = [] ∧ c.H0 = H ∧ EnvC K c c.G0 H (vs.map some) as ∧ S as R Xr ∧
  (∀ ds outs p xs G' H', R ds outs → Fin K c G' H' outs → H p = none → G' p = none → H' p = some (.lst xs) → RpAll K G' xs ds → Q (.ref p) H') ∧ ∀ err outs cls d G' H', Xr err outs → Fin K c G' H' outs → ErrRp K G' cls d err → E cls d H'
/-- what is handed back is a datum, too -/
def asX (S : DSxn) : DSx := fun as R Xr => S as (fun ds outs => R (.list ds) outs) Xr
theorem spX_of {S : DSxn} {vs : List V} {H : Hp} {Q : VK} {E : XK} (h : spX K (asX S) vs H Q E) : spXN K S vs H Q E := by
  obtain ⟨c, as, R, Xr, hh, h0, EV, hS, k, kx⟩ := h
  refine ⟨c, as, _, Xr, hh, h0, EV, hS, fun ds outs p xs G' H' hR F hp gp hh' rr => ?_, kx⟩
  have ex2 : Ex (upd G' p (.lst xs)) H' := fun a o e => by
    by_cases ha : a = p
    · subst ha
      rw [upd_same] at e
      rw [← e]
      exact hh'
    · rw [upd_ne ha] at e
      exact F.ex _ _ e
  have up : Ex G' (upd G' p (.lst xs)) := Ex.new gp
  refine k (.list ds) outs (.ref p) (upd G' p (.lst xs)) H' hR ⟨F.g0.trans up, ex2, F.fr, fun a a1 a2 => ?_, fun j hj => ?_, fun j cs hj => ?_⟩ (.lst upd_same (rr.up up))
  · have ne : a ≠ p := fun z => a2 (by rw [z, h0]; exact hp)
    rw [upd_ne ne]
    exact F.fs a a1 a2
  · obtain ⟨t1, t2⟩ := F.tg j hj
    have ne : c.τ j ≠ p := fun z => (EV.tg j hj).1 (by rw [z]; exact hp)
    exact ⟨t1, by rw [upd_ne ne]; exact t2⟩
  · obtain ⟨ys, y1, y2⟩ := F.out j cs hj
    exact ⟨ys, y1, y2.up up⟩
end
section
variable {P : Program} {w : World} {K : PySem.W.Frag} {mg : Str → Option Value} {base : Heap}
theorem FnOkG.toX {k : Nat} {f : Addr} {fd : FuncData} {ps : List Str} {S : DSxn} (F : FnOkG P w K mg base (L2.CX P w) k f fd ps (spXN K S)) : FnOkG P w K mg base (L2.CX P w) k f fd ps (spX K (asX S)) := F.imp fun _ _ _ _ h => spX_of h
theorem fnXN {x qual : Str} {st : Stmt} {f : Addr} {fd : FuncData} {N ps : List Str} {k : Nat} {S : DSxn} (F : Fun K x qual st f fd) (sc : FnScope N ps (defScope st)) (len : ∀ as R Xr, S as R Xr → as.length = ps.length)
    (hbody : ∀ (cdv : Value) (A : Around) (outer : List Env) (z : Shared) (H : Hp) (E : XK), RoomG k (A.deeper (envOfC qual (defScope st) z.heap.objs.size f cdv)) → ∀ (xw : XW), Takes (cxOf (L2.CX P w) P w K mg base N qual (defScope st) f cdv A outer z H E) xw.w →
      ∃ t u, DSs (cxOf (L2.CX P w) P w K mg base N qual (defScope st) f cdv A outer z H E) (defBody st) t u ∧ ∀ as R Xr, S as R Xr → (xw.xr = fun err δ => ∃ outs, Xr err outs ∧ OutsIn δ outs) → u (endsNew R) (as ++ List.replicate (N.length - ps.length) .no)) :
    FnOkG P w K mg base (L2.CX P w) (k + 1) f fd ps (spXN K S) := by
  refine fun_okG F sc (fun vs H Q E h => ?_) (fun cdv A outer z H vs Q E hr h => ?_)
  · obtain ⟨c, as, R, Xr, _, _, EV, hS, _⟩ := h
    have := EV.len
    rw [List.length_map] at this
    rw [this]
    exact len as R Xr hS
  · obtain ⟨c, as, R, Xr, hh, h0, EV, hS, k, kx⟩ := h
    let xw : XW := ⟨fun cls d _ H => E cls d H, fun err δ => ∃ outs, Xr err outs ∧ OutsIn δ outs⟩
    obtain ⟨t, u, D, red⟩ := hbody cdv A outer z H E hr xw takes_cx
    refine ⟨t, D.ps, ?_⟩
    have l1 : vs.length = ps.length := by
      have := EV.len
      rw [List.length_map] at this
      rw [this]
      exact len as R Xr hS
    have core : ({ c with hid := [] } : Cf) = c := by
      obtain ⟨τ, n, G0, H0, hid⟩ := c
      dsimp only at hh
      subst hh
      rfl
    have EV' : EnvOk K c c.G0 H (L2.start N vs) (as ++ List.replicate (N.length - ps.length) .no) := by
      have y := EV.more (N.length - ps.length)
      have y' : EnvC K c c.G0 H (L2.start N vs) (as ++ List.replicate (N.length - ps.length) .no) := by
        unfold L2.start
        rw [l1]
        exact y
      refine ⟨y', fun cls d err G' H' σ' δ' hx EC er => ?_⟩
      obtain ⟨outs, hX, ho⟩ := hx
      rw [core] at EC
      exact kx err outs cls d G' H' hX (EC.fin ho) er
    refine D.rs c (L2.start N vs) c.G0 H _ _ (endsNew R) EV' (red as R Xr hS rfl) ⟨fun σ' G' H' δ' a _ _ => False.elim a, fun d δ' v σ' G' H' a _ _ _ => False.elim a, fun σ' G' H' δ' a _ _ => False.elim a, fun σ' G' H' δ' a _ _ => False.elim a, ?_, hh⟩
    rintro ds δ' p xs σ' G' H' ⟨outs, hR, ho⟩ E' hn e r
    obtain ⟨q1, q2, q3, q4, q5⟩ := E'.hd p _ List.mem_cons_self
    refine k ds outs p xs G' H' hR ⟨E'.g0, E'.ex, E'.fr, E'.fs, E'.tg, fun j cs hj => ?_⟩ (by rw [← h0]; exact q3) q2 q1 r
    obtain ⟨i, hi⟩ := ho j cs hj
    obtain ⟨p', ys, _, _, hh', r', q⟩ := E'.sl i _ hi
    exact ⟨ys, by rw [← q.2]; exact hh', r'⟩
/-- .. by its name -/
structure KnXN (P : Program) (w : World) (K : PySem.W.Frag) (mg : Str → Option Value) (base : Heap) (k : Nat) (x : Str) (S : DSxn) : Prop where
  ex : ∃ (f : Addr) (fd : FuncData) (ps : List Str), FnOkG P w K mg base (L2.CX P w) k f fd ps (spXN K S) ∧ mg x = some (.ref f) ∧ PySem.W.keepIn K (.ref f) = true ∧ Binds K fd ps []
theorem KnXN.toX {k : Nat} {x : Str} {S : DSxn} (kn : KnXN P w K mg base k x S) : KnX P w K mg base k x (asX S) := by
  obtain ⟨f, fd, ps, F, hm, kp, b⟩ := kn.ex
  exact ⟨f, fd, ps, F.toX, hm, kp, b⟩
/-- defs at these places, what is known of each -/
structure KnFX (P : Program) (w : World) (K : PySem.W.Frag) (mg : Str → Option Value) (base : Heap) (k : Nat) (fs : List Addr) (S : Addr → DSx) : Prop where
  ex : ∀ f, f ∈ fs → ∃ (fd : FuncData) (ps : List Str), FnOkG P w K mg base (L2.CX P w) k f fd ps (spX K (S f)) ∧ PySem.W.keepIn K (.ref f) = true ∧ Binds K fd ps []
end
section
variable [XW] {X : Cx} {a b e : Expr} {es : List Expr} {ta tb te : TE} {ua ub ue : DTE} {p p2 p3 pos : Pos} {k j : Nat} {tca : TA} {uca : DCA}
theorem ds_catOwn (i : Nat) {y : Str} (hN : X.N.Nodup) (ha : DE X a ta ua) (hb : DE X b tb ub) (hi : X.N[i]? = some y := by rfl) (hx : Loc X.env.scope y := by first | exact Or.inl rfl | exact Or.inr rfl)
    (hs : swapsWith (.BinOp a .Add b p3) (some (.Name y p2)) pos.line X.env = pure false := by rfl) (hf : X.fn y = true ∨ X.env.scope.names.lookup y = some .local := by first | exact .inl rfl | exact .inr rfl | assumption) :
    DS X (.Assign [.Name y p2] (.BinOp a .Add b p3) pos) (tAsg (tOp rCat ta tb) (gName i)) (dCatOwn i ua ub) := ⟨ps_set hN hi hx (pe_op op_cat ha.pe hb.pe) hs hf, rs_catOwn ha.re hb.re⟩
theorem ds_lcRet {spos : Pos} {elt tg iter : Expr} {ifs : List Expr} {scope : Scope} (own : List (Str × Nat)) {w : TI} {uw : DTI} {g : TG} {ug : DTG} {tt : TT} {ut : DTT} {js : List Nat} (hc : X.calm = true) (hN : X.N.Nodup) (hi : DI X tg iter w uw) (ok : BlkOk X.N X.env.scope scope own)
    (hg : ∀ (s : Shared) (H : Hp) (C : Addr) (cl : List (Str × Addr)) (fp : List Addr), DG (X.blk s H scope (compEnvC scope cl C X.env) fp) tg g ug js) (ht : ∀ (s : Shared) (H : Hp) (C : Addr) (cl : List (Str × Addr)) (fp : List Addr), DTs (X.blk s H scope (compEnvC scope cl C X.env) fp) ifs tt ut)
    (he : ∀ (s : Shared) (H : Hp) (C : Addr) (cl : List (Str × Addr)) (fp : List Addr), DE (X.blk s H scope (compEnvC scope cl C X.env) fp) elt te ue) (hj : ∀ j ∈ js, j ∈ own.map (·.2)) (hs : ∀ x, foldedSetIterable iter X.env x = pure x := by intro _; rfl) :
    DS X (.Return (some (.ListComp elt [⟨tg, iter, ifs, 0⟩] scope pos)) spos) (tRet (tLc w g tt te (own.map (·.2)))) (dLcRet uw ug ut ue (own.map (·.2))) :=
  ⟨ps_ret (pe_lc hc hN hi.pi ok (fun a b c d e => (hg a b c d e).pg) (fun a b c d e => (ht a b c d e).pt) (fun a b c d e => (he a b c d e).pe) hs),
   rs_lcRet hi.ri (hg X.s_0 X.H_0 0 [] []).rg (ht X.s_0 X.H_0 0 [] []).rt (he X.s_0 X.H_0 0 [] []).re hj⟩
theorem ds_retCallN {x : Str} {S : DSn} (kn : KnN X.prog X.w X.K X.mg X.base k x S) (hr : RoomG j X.A) (hk : k ≤ j) (ha : DCa X (e :: es) tca uca) (hg : Gl X x := by rfl) (hdb : (x == ("__debug__" : Str)) = false := by decide)
    (he : starEach (e :: es) X.env = (false, eval e X.env) :: starEach es X.env := by rfl) (hpl : (backTo p3 (starEach es X.env)).any (·.1) = false := by rfl) :
    DS X (.Return (some (.Call (.Name x p) (e :: es) [] p3)) pos) (tRet (tCall (spN X.K S) [] E0 tca)) (dRetCallN S uca) := by
  obtain ⟨f, fd, ps, F, hm, kp, bb⟩ := kn.ex
  exact ⟨ps_ret (pe_callG F (hr.mono hk) hg hm kp bb .nil pass0 ha.pa hdb he hpl), rs_retCallN ha.ra⟩
/-- name = f(..), a new list, of a def that may refuse -/
def dCallOwnX (i : Nat) (S : DSxn) (ua : DCA) : DTS := fun E δ => ua δ fun cs δ1 => (muts δ1 cs).Nodup ∧ S (asOf δ1 cs 0) (fun ds outs => outs.length = (muts δ1 cs).length ∧ E.nx ((setOuts δ1 (muts δ1 cs) outs).set i (.own none ds))) fun err outs => outs.length = (muts δ1 cs).length ∧ XW.xr err (setOuts δ1 (muts δ1 cs) outs)
theorem rs_callOwnX {K : PySem.W.Frag} {S : DSxn} {i : Nat} (ha : RCA K tca uca) : RS K (tAsg (tCallSD (spXN K S) [] (WE XW.w) tca) (gName i)) (dCallOwnX i S uca) := by
  intro c σ G H δ D E EV h k
  refine ha c σ G H δ _ _ EV h fun cs δ1 vs G1 H1 h1 E1 e1 r1 => ?_
  obtain ⟨hn, hS⟩ := h1
  show spXN K S (vs ++ []) H1 _ _
  rw [List.append_nil]
  refine ⟨calleeC σ (muts δ1 cs) G1 H1, asOf δ1 cs 0, _, _, rfl, rfl, callee_env E1 r1 hn, hS, fun ds outs p xs G' H' hR F hp gp hh rr => ?_, fun err outs cls d G' H' hX F er => ?_⟩
  · obtain ⟨EH, n0⟩ := back_new E1 hn hR.1 F hp gp hh
    exact k.nx _ G' H' _ hR.2 (EH.give n0 rr i) (e1.trans F.g0)
  · have EB := caller_back E1 hn hX.1 F
    exact EB.xw _ _ _ _ _ _ _ hX.2 EB.core er
theorem ds_callOwnX (i : Nat) {x y : Str} {S : DSxn} (tk : Takes X XW.w) (hN : X.N.Nodup) (kn : KnXN X.prog X.w X.K X.mg X.base k x S) (hr : RoomG j X.A) (hk : k ≤ j) (ha : DCa X (e :: es) tca uca) (hi : X.N[i]? = some y := by rfl) (hx : Loc X.env.scope y := by first | exact Or.inl rfl | exact Or.inr rfl)
    (hs : swapsWith (.Call (.Name x p) (e :: es) [] p3) (some (.Name y p2)) pos.line X.env = pure false := by rfl) (hf : X.fn y = true ∨ X.env.scope.names.lookup y = some .local := by first | exact .inl rfl | exact .inr rfl | assumption)
    (hg : Gl X x := by rfl) (hdb : (x == ("__debug__" : Str)) = false := by decide)
    (he : starEach (e :: es) X.env = (false, eval e X.env) :: starEach es X.env := by rfl) (hpl : (backTo p3 (starEach es X.env)).any (·.1) = false := by rfl) :
    DS X (.Assign [.Name y p2] (.Call (.Name x p) (e :: es) [] p3) pos) (tAsg (tCallSD (spXN X.K S) [] (WE XW.w) tca) (gName i)) (dCallOwnX i S uca) := by
  obtain ⟨f, fd, ps, F, hm, kp, bb⟩ := kn.ex
  exact ⟨ps_set hN hi hx (pe_callGS F (hr.mono hk) hg hm kp bb .nil (fun σ => passAt tk σ) ha.pa hdb he hpl) hs hf, rs_callOwnX ha.ra⟩
/-! ### fs[i](..) -/
def tCallFX (fs : List Addr) (sp : Addr → Sp) (E : L2.St → XK) (te : TE) (t : TA) : TE := fun σ H Q => te σ H fun v H1 => ∃ f, f ∈ fs ∧ v = .ref f ∧ t σ H1 fun vs H2 => sp f (vs ++ []) H2 Q (E σ)
def dCallFX (fs : List Addr) (S : Addr → DSx) (ue : DTE) (ua : DCA) : DTE := fun δ R => ue δ fun d δ1 => ∃ f, f ∈ fs ∧ d = fnvD f ∧ dCallX (S f) ua δ1 R
theorem re_callFX {K : PySem.W.Frag} {fs : List Addr} {S : Addr → DSx} (he : RE K te ue) (ha : RCA K tca uca) : RE K (tCallFX fs (fun f => spX K (S f)) (WE XW.w) te tca) (dCallFX fs S ue uca) := by
  intro c σ G H δ Q R E h k
  refine he c σ G H δ _ _ E h fun d δ1 v G1 H1 h1 E1 e1 r1 => ?_
  obtain ⟨f, hf, rfl, h1⟩ := h1
  refine ⟨f, hf, r1.fn_of, ?_⟩
  exact re_callX ha c σ G1 H1 δ1 Q R E1 h1 fun d δ' v G' H' q1 q2 q3 q4 => k d δ' v G' H' q1 q2 (e1.trans q3) q4
theorem eval_callSub {a b : Expr} {p2 pos : Pos} {args : List Expr} {kws : List Keyword} (env : Env) : eval (.Call (.Subscript a b p2) args kws pos) env = (do callWith pos (← eval (.Subscript a b p2) env) [] (backTo pos (starEach args env)) (backToKw pos (keywordEach kws env))) := rfl
theorem pe_callFX {CX : CXT} {fs : List Addr} {sp : Addr → Sp} {E : L2.St → XK} (hF : ∀ f, f ∈ fs → ∃ (fd : FuncData) (ps : List Str), FnOkG X.prog X.w X.K X.mg X.base CX k f fd ps (sp f) ∧ PySem.W.keepIn X.K (.ref f) = true ∧ Binds X.K fd ps []) (hr : RoomG k X.A) (hx : ∀ σ, PassesAt CX X σ (E σ))
    (he : PE X (.Subscript a b p2) te) (ha : PA X (e :: es) tca)
    (hst : starEach (e :: es) X.env = (false, eval e X.env) :: starEach es X.env) (hpl : (backTo pos (starEach es X.env)).any (·.1) = false) : PE X (.Call (.Subscript a b p2) (e :: es) [] pos) (tCallFX fs sp E te tca) := by
  constructor
  intro pins z σ H Q I h
  rw [eval_callSub]
  refine wpAny_bind (thn (he.run pins z σ H _ I h) ?_)
  rintro u z1 ⟨v, H1, I1, r1, f, hf, rfl, q1⟩
  cases r1
  obtain ⟨fd, ps, F, hk, hb⟩ := hF f hf
  exact PySem.W.callWith_K (h₀ := X.base) I.ok.mod.kin hk (thn (ha.run pos pins z1 σ _ _ I1 q1) fun us z2 ⟨vs, H2, I2, r, q⟩ => ⟨I2.kIn, run_fnGS F hr hb .nil (hx σ) I2 r q⟩) hst hpl
theorem de_callFXI {P : Program} {w : World} {K : PySem.W.Frag} {mg : Str → Option Value} {base : Heap} {fs : List Addr} {S : Addr → DSx} (tk : Takes X XW.w) (kn : KnFX P w K mg base k fs S) (hr : RoomG j X.A) (hk : k ≤ j) (he : DE X (.Subscript a b p2) te ue) (ha : DCa X (e :: es) tca uca)
    (hX : X.prog = P ∧ X.w = w ∧ X.K = K ∧ X.mg = mg ∧ X.base = base := by exact ⟨rfl, rfl, rfl, rfl, rfl⟩)
    (hst : starEach (e :: es) X.env = (false, eval e X.env) :: starEach es X.env := by rfl) (hpl : (backTo pos (starEach es X.env)).any (·.1) = false := by rfl) :
    DE X (.Call (.Subscript a b p2) (e :: es) [] pos) (tCallFX fs (fun f => spX K (S f)) (WE XW.w) te tca) (dCallFX fs S ue uca) := by
  obtain ⟨rfl, rfl, rfl, rfl, rfl⟩ := hX
  exact ⟨pe_callFX kn.ex (hr.mono hk) (fun σ => passAt tk σ) he.pe ha.pa hst hpl, re_callFX he.re ha.ra⟩
end
/-! ### one's own list is looked at, and stays one's own -/
section
variable [XW] {K : PySem.W.Frag} {ta : TE} {ua : DTE}
def dIsiV (i : Nat) (T : String) : DTE := fun δ R => (slL δ[i]?).isSome = true ∧ match kitB "list" T with
  | some b => R (.bool b) δ
  | none => False
theorem re_isiV {i : Nat} {T : String} : RE K (tCB (rIsi K) (tCons (tVar i) (tCons (tC (.ty T)) tNil))) (dIsiV i T) := by
  intro c σ G H δ Q R E h k
  obtain ⟨h0, h1⟩ := h
  obtain ⟨ds, hs⟩ := Option.isSome_iff_exists.mp h0
  obtain ⟨p, xs, hσ, hp, rr⟩ := slL_ok E hs
  cases hb : kitB "list" T with
  | none =>
    rw [hb] at h1
    exact h1.elim
  | some b =>
    rw [hb] at h1
    refine ⟨.ref p, hσ, ?_⟩
    exact ⟨.ref p, .ty T, _, _, b, rfl, .ty T, .base (.lst hp), kit_ty hb, k (.bool b) δ (.bl b) G H h1 E (Ex.refl _) (.bl b)⟩
def dNeV (i : Nat) (ua : DTE) : DTE := fun δ R => (slL δ[i]?).isSome = true ∧ ua δ fun d δ1 => ∃ ds, slL δ1[i]? = some ds ∧ SeqAt.shaped (.list ds) = true ∧ SeqAt.shaped d = true ∧ R (.bool (!PyData.eqv (.list ds) d)) δ1
theorem re_neV {i : Nat} (ha : RE K ta ua) : RE K (tOp (rNeD K) (tVar i) ta) (dNeV i ua) := by
  intro c σ G H δ Q R E h k
  obtain ⟨h0, h1⟩ := h
  obtain ⟨ds0, hs0⟩ := Option.isSome_iff_exists.mp h0
  obtain ⟨p, xs0, hσ, hp0, _⟩ := slL_ok E hs0
  refine ⟨.ref p, hσ, ?_⟩
  refine ha c σ G H δ _ _ E h1 fun d δ1 v G1 H1 h1 E1 e1 r1 => ?_
  obtain ⟨ds, hs, s1, s2, hR⟩ := h1
  obtain ⟨p', xs, hσ', hp, rr⟩ := slL_ok E1 hs
  rw [hσ] at hσ'
  have ep := V.ref.inj (Option.some.inj (Option.some.inj hσ'))
  subst ep
  refine ⟨.list ds, d, .lst (.inl (.inl hp)) ((rr.up E1.ex).dp _ _ ?_), (r1.up E1.ex).dp _ _ (SeqAt.canLay_of_shaped s2), s1, s2, k _ δ1 _ G1 H1 hR E1 e1 (.bl _)⟩
  have z := SeqAt.canLay_of_shaped s1
  simpa [PyData.canLay0] using z
end
section
variable [XW] {X : Cx} {b : Expr} {tb : TE} {ub : DTE} {p p2 p3 pos : Pos}
theorem de_isiV (i : Nat) {T : String} {Tn : Str} {y : Str} (hm : X.mg "isinstance" = none) (hT : X.mg Tn = none) (hv : bootBuiltins Tn = some (.type T)) (hN : X.N[i]? = some y := by rfl) (hy : Vis X.env.scope y := by first | exact Or.inl rfl | exact Or.inr (Or.inl rfl) | exact Or.inr (Or.inr rfl)) (hdy : (y == ("__debug__" : Str)) = false := by decide)
    (hcd : (y == ("__classdict__" : Str)) = false := by decide) (hg : Gl X "isinstance" := by rfl) (hgT : Gl X Tn := by rfl) (hb : bootBuiltins "isinstance" = some (.builtin "isinstance") := by decide +kernel)
    (hn : Tn ≠ "__name__" := by decide) (hd : (Tn == ("__debug__" : Str)) = false := by decide)
    (hs : starEach [.Name y p3, .Name Tn p2] X.env = (false, eval (.Name y p3) X.env) :: starEach [.Name Tn p2] X.env := by rfl) (hs2 : starEach [.Name Tn p2] X.env = (false, eval (.Name Tn p2) X.env) :: starEach [] X.env := by rfl) (hpl : (backTo pos (starEach [.Name Tn p2] X.env)).any (·.1) = false := by rfl) :
    DE X (.Call (.Name "isinstance" p) [.Name y p3, .Name Tn p2] [] pos) (tCB (rIsi X.K) (tCons (tVar i) (tCons (tC (.ty T)) tNil))) (dIsiV i T) :=
  ⟨pe_callB call_isi hg hm hb (pa_cons (pe_var hN hy hdy hcd) (pa_cons (pe_bltn (v := .ty T) hgT hT hv rfl hn hd) pa_nil hs2) hs) (by decide) (by decide) hs hpl, re_isiV⟩
theorem dt_neV (i : Nat) {x : Str} (hu : X.A.units + 65 < cLine) (hb : DE X b tb ub) (hN : X.N[i]? = some x := by rfl) (hv : Vis X.env.scope x := by first | exact Or.inl rfl | exact Or.inr (Or.inl rfl) | exact Or.inr (Or.inr rfl)) (hd : (x == ("__debug__" : Str)) = false := by decide)
    (hcd : (x == ("__classdict__" : Str)) = false := by decide) (hm : behindInMarks .NotEq b = false := by rfl) : DT X (.Compare (.Name x p) [.NotEq] [b] pos) (tTest (tOp (rNeD X.K) (tVar i) tb)) (dTest (dNeV i ub)) :=
  ⟨pt_cmpR (op_neD (by omega)) (pe_var hN hv hd hcd) hb.pe hm, rt_test (re_neV hb.re)⟩
end
end TL

set_option Elab.async false
set_option linter.all false
set_option maxRecDepth 100000
set_option maxHeartbeats 4000000
/-! TBp: enumerate of a text. -/
namespace TL
open PySem PySem.Spec L2
/-- the signs of x, each with its number -/
def ItnS (x : Str) : It :=
  ⟨fun i _ => i < x.cps.size, fun i H v H' => ∃ T c, v = .ref T ∧ H T = none ∧ H' = upd H T (.tup [.int (i : Nat), .str ⟨#[c]⟩]) ∧ x.cps[i]? = some c, fun i _ => i = x.cps.size⟩
theorem turn_enumS {P : Program} {w : World} {K : PySem.W.Frag} {elts : List Expr} {kk : Nat} {tpos : Pos} {e it : Addr} {x : Str} {t : Tok} (ne : e ≠ it) :
    Turn P w K (.Tuple elts kk tpos) (ItnS x) [e, it] e (fun i h => (∃ old, IsEnum h e it ((i : Nat) : Int) old) ∧ h.IsStrIter it (strIterType x) x t i) where
  mem := by simp
  obj := fun i h st b hb => by
    obtain ⟨⟨old, he⟩, ⟨o, e1, c1, d1⟩⟩ := st
    rcases List.mem_cons.mp hb with q | q
    · rw [q]; exact ⟨_, he, fun v q => nomatch q⟩
    · rw [List.mem_singleton.mp q]; exact ⟨o, e1, fun v q => by rw [d1] at q; cases q⟩
  keep := fun i h h' st k => by
    obtain ⟨⟨old, he⟩, ⟨o, e1, r1⟩⟩ := st
    exact ⟨⟨old, k e (by simp) _ he⟩, ⟨o, k it (by simp) o e1, r1⟩⟩
  item := by
    intro X hP hw hK hc i pins s σ H E I hf st hg
    subst hP hw hK
    obtain ⟨⟨old, he⟩, hi⟩ := st
    have quiet : X.A.in1.handled = none := I.ok.hd hc
    have D := Draws.text (prog := X.prog) (w := X.w) (A := X.A.in1) quiet it x t
    have hel : e < s.heap.objs.size := Heap.lt_size he
    have hil : it < s.heap.objs.size := by obtain ⟨_, q, _⟩ := hi; exact Heap.lt_size q
    refine wpAny_pyNext_enum_itemD D he hi hg ne (by simpa using ne) fun u h' tk hu ho hi' hT hsz hk => ?_
    obtain ⟨c, u1, hc1, rfl⟩ := hu
    refine ⟨_, rfl, wpAny_letOwnedTupleGo_enum (s := { s with heap := h', toks := tk + 1 }) ho fun h'' he' sb => ?_⟩
    have hT2 : h''.get? s.heap.objs.size = some { cls := .type "tuple", data := .seq #[.int i tk, .str ⟨#[c]⟩ u1] } := (sb.2 _ (Nat.ne_of_gt hel)).trans hT
    have new : ObjOk X.prog X.w (upd H s.heap.objs.size (.tup [.int (i : Nat), .str ⟨#[c]⟩])) h'' s.heap.objs.size (.tup [.int (i : Nat), .str ⟨#[c]⟩]) :=
      ⟨by show 2 ≤ sizeLine; decide, [.int i tk, .str ⟨#[c]⟩ u1], .cons ⟨_, rfl⟩ (.cons ⟨u1, rfl⟩ .nil), ⟨_, hT2, rfl, _, rfl⟩⟩
    have I1 : Inv X pins σ (upd H s.heap.objs.size (.tup [.int (i : Nat), .str ⟨#[c]⟩])) { s with heap := h'', toks := tk + 1 } :=
      I.turnedNew (t' := tk + 1) (ch := [e, it]) (fun b o hb q => (sb.2 b (fun q' => hb (by simp [q']))).trans (hk b o (fun q' => hb (by simp [q'])) (fun q' => hb (by simp [q'])) q)) hf (Nat.le_refl _) new
    refine ⟨.ref s.heap.objs.size, _, I1, rfl, ⟨_, c, rfl, I.hok.fresh (Nat.le_refl _), rfl, hc1⟩, ⟨⟨.str ⟨#[c]⟩ u1, ?_⟩, ?_⟩, fun b hb => ?_⟩
    · have e1 : ((i + 1 : Nat) : Int) = (i : Int) + 1 := by omega
      rw [e1]; exact he'
    · obtain ⟨o, e1, r⟩ := hi'; exact ⟨o, (sb.2 _ ne.symm).trans e1, r⟩
    · have hlt : b < s.heap.objs.size := by
        rcases List.mem_cons.mp hb with q | q
        · rw [q]; exact hel
        · rw [List.mem_singleton.mp q]; exact hil
      rw [upd_ne (Nat.ne_of_lt hlt)]
      exact (hf b hb).1
  done := by
    intro X hP hw hK hc i pins s σ H E I hf st hg
    subst hP hw hK
    obtain ⟨⟨old, he⟩, hi⟩ := st
    have quiet : X.A.in1.handled = none := I.ok.hd hc
    have D := Draws.text (prog := X.prog) (w := X.w) (A := X.A.in1) quiet it x t
    have hg : i = x.cps.size := hg
    subst hg
    exact wpAny_pyNext_enum_endD D he hi fun h' eb => ⟨rfl, I.turnedL (t' := s.toks) (ch := [e, it]) (fun b o hb q => eb b o (fun q' => hb (by simp [q'])) q) hf⟩
  self := fun A i s Q E st h => let ⟨⟨_, he⟩, _⟩ := st; wpAny_pyIter_enum he h
def iEnumS (ta : TA) : L2.TI := fun σ H R => ta σ H fun vs H1 => ∃ x, vs = [.str x] ∧ R (ItnS x) H1
theorem pi_enumS {X : Cx} {a : Expr} {ta : TA} {p pos tpos : Pos} {elts : List Expr} {kk : Nat} (hg : Gl X "enumerate") (hm : X.mg "enumerate" = none) (ha : PA X [a] ta) (hs : starEach [a] X.env = [(false, eval a X.env)] := by rfl) :
    PI X (.Tuple elts kk tpos) (.Call (.Name "enumerate" p) [a] [] pos) (iEnumS ta) := by
  constructor
  intro pins s σ H R I h
  refine PyProof.Rows.Call_ (ld_blt I hg hm PyProof.Rows.boot_enumerate (PyProof.Rows.callWith_type1 (thn (ha.run pos pins s σ H _ I h) ?_) hs rfl))
  rintro us s1 ⟨vs, H1, I1, r1, x, rfl, q⟩
  cases r1 with
  | cons r rr =>
    cases rr
    obtain ⟨t, rfl⟩ := r
    refine call_enumerate_str fun h' he hit hsz hk => wpAny_pyIter_enum he ?_
    have I2 : Inv X pins σ H1 { s1 with heap := h' } := I1.kept (t' := s1.toks) hk
    refine ⟨s1.heap.objs.size + 1, [s1.heap.objs.size + 1, s1.heap.objs.size], _, _, H1, rfl, I2, turn_enumS (x := x) (t := t) (Nat.succ_ne_self _), ⟨⟨.none, he⟩, hit⟩, fun b hb => ?_, q⟩
    have hle : s1.heap.objs.size ≤ b := by
      rcases List.mem_cons.mp hb with z | z
      · rw [z]; exact Nat.le_add_right _ _
      · rw [List.mem_singleton.mp z]; exact Nat.le_refl _
    exact I1.fpOk hle (I1.hok.fresh hle)
section
variable [XW]
/-- the signs of a text as data -/
def signsD (x : Str) : List PyData := x.cps.toList.map fun c => PyData.str ⟨#[c]⟩
def diEnumS (ua : DTE) : DTI := fun δ R => ua δ fun d δ1 => match d with
  | .str x => R (enumD (signsD x)) δ1
  | _ => False
theorem ri_enumS {K : PySem.W.Frag} {ta : TE} {ua : DTE} (ha : RE K ta ua) : RI K (iEnumS (tCons ta tNil)) (diEnumS ua) := by
  intro c σ G H δ Q R E h k
  refine ha c σ G H δ _ _ E h fun d δ1 v G1 H1 h1 E1 e1 r1 => ?_
  cases d <;> first
    | exact False.elim h1
    | skip
  rename_i x
  have lx : (signsD x).length = x.cps.size := by
    unfold signsD
    rw [List.length_map, Array.length_toList]
  refine ⟨x, by rw [r1.str_of], k _ δ1 _ G1 H1 h1 E1 e1 ⟨fun G2 H2 a1 a2 => by rw [enumD_len, lx]; rfl, fun G2 H2 i d a1 a2 hd => ?_⟩⟩
  obtain ⟨y, hy, rfl⟩ := enumD_get hd
  unfold signsD at hy
  rw [List.getElem?_map] at hy
  cases q : x.cps.toList[i]? with
  | none => rw [q] at hy; cases hy
  | some ch =>
    rw [q] at hy
    cases hy
    have lt := (List.getElem?_eq_some_iff.mp q).1
    rw [Array.length_toList] at lt
    rw [Array.getElem?_toList] at q
    refine ⟨lt, fun z H3 hz => ?_⟩
    obtain ⟨T, c, rfl, hT, rfl, hc⟩ := hz
    rw [q] at hc
    cases hc
    exact ⟨_, Al.new (o := .tup [.int (i : Nat), .str ⟨#[ch]⟩]) a2 hT, .tup upd_same (.cons (.int _) (.cons (.str _) .nil))⟩
theorem di_enumS {X : Cx} {a : Expr} {ta : TE} {ua : DTE} {p pos tpos : Pos} {elts : List Expr} {kk : Nat} (hm : X.mg "enumerate" = none) (ha : DE X a ta ua) (hg : Gl X "enumerate" := by rfl) (hs : starEach [a] X.env = [(false, eval a X.env)] := by rfl) :
    DI X (.Tuple elts kk tpos) (.Call (.Name "enumerate" p) [a] [] pos) (iEnumS (tCons ta tNil)) (diEnumS ua) := ⟨pi_enumS hg hm (pa_cons ha.pe pa_nil hs) hs, ri_enumS ha.re⟩
end
/-- xs.append(e) of one's own list, where the context is bound -/
theorem ds_appI [XW] {X : Cx} {K : PySem.W.Frag} (i : Nat) {x : Str} {e : Expr} {te : TE} {ue : DTE} {p pos apos cpos : Pos} (he : DE X e te ue) (hK : X.K = K := by rfl) (hN : X.N[i]? = some x := by rfl) (hv : Vis X.env.scope x := by first | exact Or.inl rfl | exact Or.inr (Or.inl rfl) | exact Or.inr (Or.inr rfl)) (hd : (x == ("__debug__" : Str)) = false := by decide)
    (hcd : (x == ("__classdict__" : Str)) = false := by decide)
    (hb : attributeBase (.Name x p) "append" X.env (eval (.Name x p) X.env) = eval (.Name x p) X.env := by rfl)
    (hfew : ((backTo cpos (starEach [e] X.env)).all (fun x => !x.1) && (backToKw cpos (keywordEach [] X.env)).all (fun x => x.1.isSome)
      && decide ([e].length + ([] : List Keyword).length + (if ([] : List Keyword).isEmpty then 0 else 1) < 30)) = true := by rfl)
    (hline : (apos.endLine == cpos.line) = true := by rfl) (hst : starEach [e] X.env = (false, eval e X.env) :: starEach [] X.env := by rfl) (hpl : (backTo cpos (starEach [] X.env)).any (·.1) = false := by rfl)
    (hs : swapsWith (.Call (.Attribute (.Name x p) "append" apos) [e] [] cpos) none pos.line X.env = pure false := by rfl) :
    DS X (.Expr (.Call (.Attribute (.Name x p) "append" apos) [e] [] cpos) pos) (tDrop (tBM K "list" rAppend (tVar i) (tCons te tNil))) (dApp i ue) := by
  subst hK
  exact ds_app i he (pe_bm PySem.F.plainAttrs_list PySem.F.slot_list_append PySem.F.type_list_append mt_append (pe_var hN hv hd hcd) (pa_cons he.pe pa_nil hst) hb hfew hline hst hpl) hs
theorem de_ixTI [XW] {X : Cx} {K : PySem.W.Frag} {a b : Expr} {ta tb : TE} {ua ub : DTE} {pos : Pos} (ha : DE X a ta ua) (hb : DE X b tb ub) (hK : X.K = K := by rfl) (hs : PlainIx b := by exact fun _ _ => rfl) : DE X (.Subscript a b pos) (tOp (rIxT K) ta tb) (dOp dIxT ua ub) := by
  subst hK
  exact de_ix ix_tup ro_ixT ha hb hs
end TL

set_option Elab.async false
set_option linter.all false
set_option maxRecDepth 100000
set_option maxHeartbeats 4000000
/-! TBq: xs.index(y) of data; str of a list; isinstance of an error and two classes. -/
namespace TL
open PySem PySem.Spec PyProof.Rows L2
section
variable [XW] {K : PySem.W.Frag} {ta tb : TE} {ua ub : DTE}
def dIndexD (ua ub : DTE) : DTE := fun δ R => ua δ fun d1 δ1 => match d1 with
  | .list ds => ub δ1 fun d δ2 => ∃ (j : Nat) (z : PyData), SeqAt.shaped (.list ds) = true ∧ SeqAt.shaped d = true ∧ ds[j]? = some z ∧ PyData.eqv z d = true ∧ (∀ (m : Nat) (z' : PyData), m < j → ds[m]? = some z' → PyData.eqv z' d = false) ∧ R (.int (j : Nat)) δ2
  | _ => False
theorem re_indexD (ha : RE K ta ua) (hb : RE K tb ub) : RE K (tBM K "list" (rIndexD K) ta (tCons tb tNil)) (dIndexD ua ub) := by
  intro c σ G H δ Q R E h k
  refine ha c σ G H δ _ _ E h fun d1 δ1 v1 G1 H1 h1 E1 e1 r1 => ?_
  cases d1 <;> first
    | exact False.elim h1
    | skip
  rename_i ds
  obtain ⟨a, xs, rfl, q1, q2⟩ := r1.lst_of
  refine ⟨.inl ⟨rfl, xs, .inl (.inl (E1.ex _ _ q1))⟩, ?_⟩
  refine hb c σ G1 H1 δ1 _ _ E1 h1 fun d δ2 v2 G2 H2 h2 E2 e2 r2 => ?_
  obtain ⟨j, z, s1, s2, hz, he, hno, hR⟩ := h2
  exact ⟨a, v2, d, ds, j, z, rfl, rfl, ((r1.up e2).up E2.ex).dp _ _ (SeqAt.canLay_of_shaped s1), (r2.up E2.ex).dp _ _ (SeqAt.canLay_of_shaped s2), s1, s2, hz, he, hno, k _ δ2 _ G2 H2 hR E2 (e1.trans e2) (.int _)⟩
/-- str(xs), xs a list or a tuple -/
def rStrL (K : PySem.W.Frag) : List V → Hp → VK → Prop := fun xs H Q => ∃ (a : Addr) (ds : List PyData), xs = [V.ref a] ∧ Dp K H (V.ref a) (.list ds) ∧ SeqAt.shaped (.list ds) = true ∧ (PyData.list ds).showable = true ∧ (PyData.list ds).depth ≤ 60 ∧ (PyData.list ds).shown.length ≤ sizeLine ∧ Q (.str (PyData.list ds).shown) H
theorem cr_strL {X : Cx} (hg : X.A.guards = some []) (hu : X.A.units + 65 < cLine) : CallR X (.type "str") (rStrL X.K) := by
  intro pins s σ H xs us Q I r h
  obtain ⟨a, ds, rfl, hd, sh, hs, dp, hz, q⟩ := h
  rw [Vals.ref1 r]
  obtain ⟨as, rd⟩ := Dp.reads I (.list ds) (V.ref a) (.ref a) hd rfl
  have lay := SeqAt.canLay_of_shaped sh
  exact str_of_reads rd hs (PyData.noDict_hsm (as := as) (PyData.hasDict_of_canLay _ lay)) hg (by omega) (fun _ _ e => e) (fun h' u tk hk => ⟨.str (PyData.list ds).shown, H, I.kept hk, ⟨_, rfl⟩, q⟩) hz
def dStrL (u : DTE) : DTE := fun δ R => u δ fun d δ1 => match d with
  | .list ds => SeqAt.shaped (.list ds) = true ∧ (PyData.list ds).showable = true ∧ (PyData.list ds).depth ≤ 60 ∧ (PyData.list ds).shown.length ≤ sizeLine ∧ R (.str (PyData.list ds).shown) δ1
  | _ => False
theorem re_strL (ha : RE K ta ua) : RE K (tCB (rStrL K) (tCons ta tNil)) (dStrL ua) := by
  intro c σ G H δ Q R E h k
  refine ha c σ G H δ _ _ E h fun d δ1 v G1 H1 h1 E1 e1 r1 => ?_
  cases d <;> first
    | exact False.elim h1
    | skip
  rename_i ds
  obtain ⟨s1, s2, s3, s4, hR⟩ := h1
  obtain ⟨a, xs, rfl, q1, q2⟩ := r1.lst_of
  exact ⟨a, ds, rfl, (r1.up E1.ex).dp _ _ (SeqAt.canLay_of_shaped s1), s1, s2, s3, s4, k _ δ1 _ G1 H1 hR E1 e1 (.str _)⟩
/-- isinstance(e, (C1, C2)) of an error -/
def rIsEt (K : PySem.W.Frag) : List V → Hp → VK → Prop := fun xs H Q => ∃ (a C : Addr) (d : Option Addr) (tp : Addr) (cs : List V) (ws : List Value) (b : Bool), xs = [.ref a, .ref tp] ∧ IsErr H a C d ∧ ErrC K C ∧ H tp = some (.tup cs) ∧ Paired ClsV cs ws ∧ PySem.W.kitAny K (.ref C) ws = some b ∧ Q (.bl b) H
theorem call_isEt {X : Cx} : CallR X (.builtin "isinstance") (rIsEt X.K) := by
  intro pins z σ H xs us Q I r h
  obtain ⟨a, C, d, tp, cs, ws, b, rfl, ie, T, hT, k, hb, q⟩ := h
  cases r with
  | @cons _ u1 _ us1 rx rr =>
  cases rr with
  | @cons _ u2 _ us2 rt rn =>
    cases rn
    obtain rfl : u1 = Value.ref a := rx
    obtain rfl : u2 = Value.ref tp := rt
    obtain ⟨ox, od, J⟩ := inst_of I.hok ie
    obtain ⟨cd, hc, _⟩ := TXE.dict_cls T.hd
    obtain ⟨_, its, rv, o, h1, h2, n, h3⟩ := (show ObjOk X.prog X.w H z.heap tp (.tup cs) from I.hok tp _ hT)
    have e3 := ClsV.all k rv
    subst e3
    obtain ⟨oc, oo, dt, sl⟩ := o
    obtain rfl : oc = _ := h2
    obtain rfl : dt = _ := h3
    exact PySem.W.kia_tup (PySem.W.kitx_exc (od := od) (by rw [hc]; rfl) T.ga T.gg T.ex T.kl T.kg T.kt T.mo) I.kIn J h1 hb (fun y => nomatch y) fun tk => ⟨.bl b, H, I.kept (t' := tk) fun _ _ y => y, rfl, q⟩
def dIsEt (K : PySem.W.Frag) (ws : List Value) (ue : DTE) : DTE := fun δ R => ue δ fun d δ1 => ∃ (C : Addr) (ns : List Str) (ds : List PyData) (b : Bool), d = errD C ns ds ∧ ErrC K C ∧ PySem.W.kitAny K (.ref C) ws = some b ∧ R (.bool b) δ1
theorem re_isEt {n1 n2 : String} (ha : RE K ta ua) : RE K (tCB (rIsEt K) (tCons ta (tCons (tTup (tCons (tC (.ty n1)) (tCons (tC (.ty n2)) tNil))) tNil))) (dIsEt K [.type n1, .type n2] ua) := by
  intro c σ G H δ Q R E h k
  refine ha c σ G H δ _ _ E h fun d δ1 v G1 H1 h1 E1 e1 r1 => ?_
  obtain ⟨C, ns, ds, b, rfl, T, hb, hR⟩ := h1
  refine ⟨by show 2 ≤ sizeLine; decide, fun p hp => ?_⟩
  have E2 := E1.al (Al.tmp (o := .tup [.ty n1, .ty n2]) E1.ex hp)
  obtain ⟨a, dd, rfl, ie⟩ := r1.is_err E2.ex
  exact ⟨a, C, dd, p, _, [.type n1, .type n2], b, rfl, ie, T, upd_same, .cons (.ty _) (.cons (.ty _) .nil), hb, k _ δ1 _ _ _ hR E2 e1 (.bl b)⟩
end
section
variable [XW] {X : Cx} {a b e : Expr} {ta tb te : TE} {ua ub ue : DTE} {p p2 p3 p4 pos apos : Pos}
theorem de_indexD (hu : X.A.units + 65 < cLine) (ha : DE X a ta ua) (hb : DE X b tb ub) (hbase : attributeBase a "index" X.env (eval a X.env) = eval a X.env := by rfl)
    (hfew : ((backTo pos (starEach [b] X.env)).all (fun x => !x.1) && (backToKw pos (keywordEach [] X.env)).all (fun x => x.1.isSome)
      && decide ([b].length + ([] : List Keyword).length + (if ([] : List Keyword).isEmpty then 0 else 1) < 30)) = true := by rfl)
    (hline : (apos.endLine == pos.line) = true := by rfl) (hs : starEach [b] X.env = (false, eval b X.env) :: starEach [] X.env := by rfl) (hpl : (backTo pos (starEach [] X.env)).any (·.1) = false := by rfl) :
    DE X (.Call (.Attribute a "index" apos) [b] [] pos) (tBM X.K "list" (rIndexD X.K) ta (tCons tb tNil)) (dIndexD ua ub) :=
  ⟨pe_bm PySem.F.plainAttrs_list PySem.F.slot_list_index PySem.F.type_list_index (mt_indexD hu) ha.pe (pa_cons hb.pe pa_nil hs) hbase hfew hline hs hpl, re_indexD ha.re hb.re⟩
theorem de_strL (hm : X.mg "str" = none) (hgd : X.A.guards = some []) (hu : X.A.units + 65 < cLine) (ha : DE X a ta ua) (hg : Gl X "str" := by rfl) (hv : bootBuiltins "str" = some (.type "str") := by decide +kernel) (hs : starEach [a] X.env = (false, eval a X.env) :: starEach [] X.env := by rfl) (hpl : (backTo pos (starEach [] X.env)).any (·.1) = false := by rfl) :
    DE X (.Call (.Name "str" p) [a] [] pos) (tCB (rStrL X.K) (tCons ta tNil)) (dStrL ua) := ⟨pe_callTy (cr_strL hgd hu) hg hm hv (pa_cons ha.pe pa_nil hs) (by decide) (by decide) hs hpl, re_strL ha.re⟩
theorem de_isEt {n1 n2 : String} {N1 N2 : Str} {k : Nat} (hm : X.mg "isinstance" = none) (h1 : X.mg N1 = none) (h2 : X.mg N2 = none) (hv1 : bootBuiltins N1 = some (.type n1)) (hv2 : bootBuiltins N2 = some (.type n2)) (he : DE X e te ue) (hg : Gl X "isinstance" := by rfl) (hg1 : Gl X N1 := by rfl) (hg2 : Gl X N2 := by rfl) (hb : bootBuiltins "isinstance" = some (.builtin "isinstance") := by decide +kernel)
    (hn1 : N1 ≠ "__name__" := by decide) (hd1 : (N1 == ("__debug__" : Str)) = false := by decide) (hn2 : N2 ≠ "__name__" := by decide) (hd2 : (N2 == ("__debug__" : Str)) = false := by decide)
    (hs : starEach [e, .Tuple [.Name N1 p2, .Name N2 p3] k p4] X.env = (false, eval e X.env) :: starEach [.Tuple [.Name N1 p2, .Name N2 p3] k p4] X.env := by rfl) (hs2 : starEach [.Tuple [.Name N1 p2, .Name N2 p3] k p4] X.env = (false, eval (.Tuple [.Name N1 p2, .Name N2 p3] k p4) X.env) :: starEach [] X.env := by rfl)
    (ht : starEach [.Name N1 p2, .Name N2 p3] X.env = (false, eval (.Name N1 p2) X.env) :: starEach [.Name N2 p3] X.env := by rfl) (ht2 : starEach [.Name N2 p3] X.env = (false, eval (.Name N2 p3) X.env) :: starEach [] X.env := by rfl) (hpl : (backTo pos (starEach [.Tuple [.Name N1 p2, .Name N2 p3] k p4] X.env)).any (·.1) = false := by rfl) :
    DE X (.Call (.Name "isinstance" p) [e, .Tuple [.Name N1 p2, .Name N2 p3] k p4] [] pos) (tCB (rIsEt X.K) (tCons te (tCons (tTup (tCons (tC (.ty n1)) (tCons (tC (.ty n2)) tNil))) tNil))) (dIsEt X.K [.type n1, .type n2] ue) :=
  ⟨pe_callB call_isEt hg hm hb (pa_cons he.pe (pa_cons (pe_tup (pa_cons (pe_bltn (v := .ty n1) hg1 h1 hv1 rfl hn1 hd1) (pa_cons (pe_bltn (v := .ty n2) hg2 h2 hv2 rfl hn2 hd2) pa_nil ht2) ht)) pa_nil hs2) hs) (by decide) (by decide) hs hpl, re_isEt he.re⟩
end
end TL

set_option Elab.async false
set_option linter.all false
set_option maxRecDepth 100000
set_option maxHeartbeats 600000
/-! TBr: one's own list lent to an expression or a test that changes nothing, and taken back; xs.clear(). -/
namespace TL
open PySem PySem.Spec PyProof.Rows L2
def plainB : PyData → Bool
  | .none => true
  | .bool _ => true
  | .int _ => true
  | .str _ => true
  | _ => false
def lendS : Sl → Bool
  | .box _ => false
  | .own _ ds => ds.all plainB
  | _ => true
/-- no boxes; one's other lists have plain things alone -/
def lendOk (i : Nat) (δ : List Sl) : Bool := (δ.set i .no).all lendS
theorem plain_rp {K : PySem.W.Frag} {G G' : Hp} {d : PyData} {v : V} (h : plainB d = true) (r : Rp K G v d) : Rp K G' v d := by
  cases d with
  | none =>
    rw [r.non_of]
    exact .non
  | bool b =>
    rw [r.bl_of]
    exact .bl b
  | int i =>
    rw [r.int_of]
    exact .int i
  | str x =>
    rw [r.str_of]
    exact .str x
  | list ds => cases h
  | tuple ds => cases h
  | dict ds => cases h
theorem plain_all {K : PySem.W.Frag} {G G' : Hp} : ∀ {ds : List PyData} {vs : List V}, ds.all plainB = true → RpAll K G vs ds → RpAll K G' vs ds
  | _, _, _, .nil => .nil
  | d :: ds, _, h, .cons a r => by
    rw [List.all_cons, Bool.and_eq_true] at h
    exact .cons (plain_rp h.1 a) (plain_all h.2 r)
section
variable [XW] {K : PySem.W.Frag} {c : Cf} {G H : Hp} {σ : L2.St} {δ : List Sl}
/-- what was lent, taken back -/
theorem EnvOk.thaw (E : EnvOk K c G H σ δ) {i : Nat} {ds : List PyData} (hs : δ[i]? = some (.own none ds)) (ok : lendOk i δ = true) {p : Addr} (hp : σ[i]? = some (some (.ref p))) {G1 : Hp} (e1 : Ex G G1) (r1 : Rp K G1 (.ref p) (.list ds)) (E1 : Ex G1 H) {G' H' : Hp} (e2 : Ex G1 G')
    (E' : EnvOk K c G' H' σ (δ.set i (.dat (.list ds)))) : ∃ G'', Ex G G'' ∧ EnvOk K c G'' H' σ δ := by
  obtain ⟨p', xs, e, hg, hh, r, h0, hne⟩ := E.sl i _ hs
  rw [hp] at e
  have ep : p = p' := V.ref.inj (Option.some.inj (Option.some.inj e))
  subst ep
  have il : i < δ.length := (List.getElem?_eq_some_iff.mp hs).1
  obtain ⟨a, ys, ea, q1, q2⟩ := r1.lst_of
  have ea := V.ref.inj ea
  subst ea
  have pH1 := E1 _ _ q1
  rw [hh] at pH1
  have exy : xs = ys := HO.lst.inj (Option.some.inj pH1)
  subst exy
  have pH : H' p = some (.lst xs) := E'.ex _ _ (e2 _ _ q1)
  obtain ⟨G'', hG⟩ : ∃ G'' : Hp, ∀ x, G'' x = if x = p then none else G' x := ⟨fun x => if x = p then none else G' x, fun _ => rfl⟩
  have down : ∀ x o, x ≠ p → G' x = some o → G'' x = some o := fun x o hx h => by
    rw [hG, if_neg hx]
    exact h
  have no : ∀ x, G' x = none → G'' x = none := fun x h => by
    rw [hG]
    split
    · rfl
    · exact h
  have eg : Ex G G'' := fun x o h => by
    refine down x o (fun z => ?_) (e2 _ _ (e1 _ _ h))
    rw [z, hg] at h
    cases h
  have oth : ∀ (k : Nat) (s : Sl), k ≠ i → δ[k]? = some s → lendS s = true := fun k s hk h => by
    unfold lendOk at ok
    refine List.all_eq_true.mp ok s (List.mem_of_getElem? (i := k) ?_)
    rw [List.getElem?_set_ne (fun z => hk z.symm)]
    exact h
  refine ⟨G'', eg, ?_⟩
  exact {
    g0 := E.g0.trans eg
    xw := E.xw
    ex := fun x o h => by
      rw [hG] at h
      split at h
      · cases h
      · exact E'.ex _ _ h
    fr := E'.fr
    fs := fun x h1 h2 => no x (E'.fs x h1 h2)
    tg := fun j hj => ⟨(E'.tg j hj).1, no _ (E'.tg j hj).2⟩
    len := E.len
    sl := fun k s h => by
      by_cases hk : k = i
      · subst hk
        rw [hs] at h
        cases h
        exact ⟨p, xs, hp, by rw [hG, if_pos rfl], pH, r.up eg, h0, hne⟩
      · have z := E.sl k s h
        have l := oth k s hk h
        cases s with
        | no => trivial
        | box b => trivial
        | dat d =>
          obtain ⟨x, e, r⟩ := z
          exact ⟨x, e, r.up eg⟩
        | scr d =>
          obtain ⟨a, xs, e, q, r⟩ := z
          exact ⟨a, xs, e, ex_l eg q, r.up eg⟩
        | own t es =>
          have z' := E'.sl k (.own t es) (by rw [List.getElem?_set_ne (fun z => hk z.symm)]; exact h)
          obtain ⟨p1, zs, e, g1, h1, rr, q⟩ := z'
          exact ⟨p1, zs, e, no _ g1, h1, plain_all l rr, q⟩
    ap := E.ap
    hd := fun q o hm => by
      obtain ⟨a1, a2, a3, a4, a5⟩ := E'.hd q o hm
      exact ⟨a1, no _ a2, a3, a4, (E.hd q o hm).2.2.2.2⟩
    bx := BoxOk.none fun k b h => by
      by_cases hk : k = i
      · subst hk
        rw [hs] at h
        cases h
      · have l := oth k _ hk h
        cases l }
def dLend (i : Nat) (u : DTE) : DTE := fun δ R => ∃ ds, δ[i]? = some (.own none ds) ∧ lendOk i δ = true ∧ u (δ.set i (.dat (.list ds))) fun d δ' => δ' = δ.set i (.dat (.list ds)) ∧ plainB d = true ∧ R d δ
def dLendT (i : Nat) (u : DTT) : DTT := fun δ R => ∃ ds, δ[i]? = some (.own none ds) ∧ lendOk i δ = true ∧ u (δ.set i (.dat (.list ds))) fun b δ' => δ' = δ.set i (.dat (.list ds)) ∧ R b δ
theorem re_lend {i : Nat} {t : TE} {u : DTE} (h : RE K t u) : RE K t (dLend i u) := by
  intro c σ G H δ Q R E hu k
  obtain ⟨ds, hs, ok, hu⟩ := hu
  obtain ⟨p, xs, hp, _⟩ := E.sl i _ hs
  obtain ⟨G1, e1, r1, E1⟩ := E.freeze hs hp
  refine h c σ G1 H _ _ _ E1 hu fun d δ' v G' H' hR E' e2 rv => ?_
  obtain ⟨rfl, pl, hR⟩ := hR
  obtain ⟨G'', eg, EE⟩ := E.thaw hs ok hp e1 r1 E1.ex e2 E'
  exact k d δ v G'' H' hR EE eg (plain_rp pl rv)
theorem rt_lend {i : Nat} {t : TT} {u : DTT} (h : RT K t u) : RT K t (dLendT i u) := by
  intro c σ G H δ Q R E hu k
  obtain ⟨ds, hs, ok, hu⟩ := hu
  obtain ⟨p, xs, hp, _⟩ := E.sl i _ hs
  obtain ⟨G1, e1, r1, E1⟩ := E.freeze hs hp
  refine h c σ G1 H _ _ _ E1 hu fun b δ' G' H' hR E' e2 => ?_
  obtain ⟨rfl, hR⟩ := hR
  obtain ⟨G'', eg, EE⟩ := E.thaw hs ok hp e1 r1 E1.ex e2 E'
  exact k b δ G'' H' hR EE eg
def dClear (i : Nat) : DTS := fun E δ => match δ[i]? with
  | some (.own t _) => E.nx (δ.set i (.own t []))
  | _ => False
theorem rs_clear {i : Nat} : RS K (tDrop (tBM0 K "list" rClear (tVar i))) (dClear i) := by
  intro c σ G H δ D E EV h k
  unfold dClear at h
  cases hs : δ[i]? with
  | none => rw [hs] at h; exact h.elim
  | some s =>
    rw [hs] at h
    cases s with
    | own t ds =>
      obtain ⟨p, xs, hv, hg, hh, rr, q⟩ := EV.sl i _ hs
      refine ⟨.ref p, hv, .inl ⟨rfl, xs, .inl (.inl hh)⟩, ?_⟩
      exact ⟨p, xs, rfl, rfl, hh, k.nx σ G _ _ h (EV.poke hs hv .nil) (Ex.refl _)⟩
    | _ => exact h.elim
end
section
variable [XW] {X : Cx} {a b e : Expr} {te : TE} {ue : DTE} {tt : TT} {ut : DTT} {p p2 pos : Pos}
theorem de_lend (i : Nat) (h : DE X e te ue) : DE X e te (dLend i ue) := ⟨h.pe, re_lend h.re⟩
theorem dt_lend (i : Nat) (h : DT X e tt ut) : DT X e tt (dLendT i ut) := ⟨h.pt, rt_lend h.rt⟩
theorem ds_clear (i : Nat) {x : Str} {apos cpos : Pos} (hN : X.N[i]? = some x := by rfl) (hv : Vis X.env.scope x := by first | exact Or.inl rfl | exact Or.inr (Or.inl rfl) | exact Or.inr (Or.inr rfl)) (hd : (x == ("__debug__" : Str)) = false := by decide)
    (hcd : (x == ("__classdict__" : Str)) = false := by decide)
    (hb : attributeBase (.Name x p) "clear" X.env (eval (.Name x p) X.env) = eval (.Name x p) X.env := by rfl) (hline : (apos.endLine == cpos.line) = true := by rfl)
    (hs : swapsWith (.Call (.Attribute (.Name x p) "clear" apos) [] [] cpos) none pos.line X.env = pure false := by rfl) :
    DS X (.Expr (.Call (.Attribute (.Name x p) "clear" apos) [] [] cpos) pos) (tDrop (tBM0 X.K "list" rClear (tVar i))) (dClear i) :=
  ⟨ps_expr (pe_bm0 PySem.F.plainAttrs_list PySem.F.slot_list_clear PySem.F.type_list_clear mt_clear (pe_var hN hv hd hcd) hb hline) hs, rs_clear⟩
end
end TL

set_option Elab.async false
set_option linter.all false
set_option maxRecDepth 100000
set_option maxHeartbeats 600000
/-! TBs: one's own list handed back as a new one; f(g(..)), g's new list handed on to f, that changes it. -/
namespace TL
open PySem PySem.Spec PyProof.Rows L2
section
variable [XW] {K : PySem.W.Frag} {c : Cf} {G H : Hp} {σ : L2.St} {δ : List Sl}
theorem EnvOk.hideOwn (E : EnvOk K c G H σ δ) {i : Nat} {ds : List PyData} (hs : δ[i]? = some (.own none ds)) {p : Addr} {xs : List V} (hp : σ[i]? = some (some (.ref p))) (hh : H p = some (.lst xs)) (hg : G p = none) (h0 : c.H0 p = none) (hne : ∀ j, j < c.n → p ≠ c.τ j) :
    EnvOk K { c with hid := (p, .lst xs) :: c.hid } G H σ (δ.set i .no) := by
  have back : ∀ (j : Nat) (t : Option Nat) (es : List PyData), (δ.set i .no)[j]? = some (.own t es) → i ≠ j ∧ δ[j]? = some (.own t es) := fun j t es h => set_own (fun _ _ z => by cases z) h
  exact {
    g0 := E.g0, xw := E.xw, ex := E.ex, fr := E.fr, fs := E.fs, tg := E.tg
    len := by rw [List.length_set]; exact E.len
    sl := fun k s h => by
      by_cases hk : i = k
      · subst hk
        rw [List.getElem?_set_self (List.getElem?_eq_some_iff.mp hs).1] at h
        cases h
        trivial
      · rw [List.getElem?_set_ne hk] at h
        have z := E.sl k s h
        cases s with
        | no => trivial
        | box b => trivial
        | dat d => exact z
        | scr d => exact z
        | own t d => exact z
    ap := fun a b t1 d1 t2 d2 hab h1 h2 => E.ap a b _ _ _ _ hab (back a _ _ h1).2 (back b _ _ h2).2
    hd := fun q o hm => by
      rcases List.mem_cons.mp hm with e | hm
      · cases e
        refine ⟨hh, hg, h0, hne, fun j t es h z => ?_⟩
        obtain ⟨hj, h⟩ := back j t es h
        exact E.ap i j _ _ _ _ hj hs h (by rw [hp, z])
      · obtain ⟨a1, a2, a3, a4, a5⟩ := E.hd q o hm
        exact ⟨a1, a2, a3, a4, fun j t es h => a5 j t es (back j t es h).2⟩
    bx := E.bx.step (Ex.refl _) (fun j b h => ⟨(set_box (fun _ z => by cases z) h).2, rfl⟩) fun a _ f => ⟨rfl, f.g, f.h0, f.tg, fun o hm => by
      rcases List.mem_cons.mp hm with e | hm
      · cases e
        exact f.ow i _ _ hs hp
      · exact f.hd o hm, fun j t es h => f.ow j t es (back j t es h).2⟩ }
def dRetOwn (i : Nat) : DTS := fun E δ => match δ[i]? with
  | some (.own none ds) => E.rn ds (δ.set i .no)
  | _ => False
theorem rs_retOwn {i : Nat} : RS K (tRet (tVar i)) (dRetOwn i) := by
  intro c σ G H δ D E EV h k
  unfold dRetOwn at h
  cases hs : δ[i]? with
  | none => rw [hs] at h; exact h.elim
  | some s =>
    rw [hs] at h
    cases s with
    | own t ds =>
      cases t with
      | some j => exact h.elim
      | none =>
        obtain ⟨p, xs, hv, hg, hh, rr, h0, hne⟩ := EV.sl i _ hs
        refine ⟨.ref p, hv, k.rn ds _ p xs σ G H h (EV.hideOwn hs hv hh hg h0 hne) (fun zs z => ?_) (Ex.refl _) rr⟩
        exact (EV.hd p zs z).2.2.2.2 i _ _ hs hv
    | _ => exact h.elim
theorem EnvC.less {x : Option V} {s : Sl} (hl : σ.length = δ.length) (E : EnvC K c G H (σ ++ [x]) (δ ++ [s])) : EnvC K c G H σ δ := by
  have g1 : ∀ (i : Nat) (r : Sl), δ[i]? = some r → (δ ++ [s])[i]? = some r ∧ (σ ++ [x])[i]? = σ[i]? := fun i r h => by
    have hi := (List.getElem?_eq_some_iff.mp h).1
    exact ⟨by rw [List.getElem?_append_left hi]; exact h, List.getElem?_append_left (by rw [hl]; exact hi)⟩
  exact {
    g0 := E.g0, ex := E.ex, fr := E.fr, fs := E.fs, tg := E.tg
    len := hl
    sl := fun i r h => by
      obtain ⟨a, b⟩ := g1 i r h
      have z := E.sl i r a
      rw [b] at z
      exact z
    ap := fun i j t1 d1 t2 d2 hij h1 h2 => by
      obtain ⟨a, b⟩ := g1 i _ h1
      obtain ⟨a', b'⟩ := g1 j _ h2
      have z := E.ap i j _ _ _ _ hij a a'
      rw [b, b'] at z
      exact z
    hd := fun p xs h => by
      obtain ⟨a1, a2, a3, a4, a5⟩ := E.hd p xs h
      refine ⟨a1, a2, a3, a4, fun i t ds hs => ?_⟩
      obtain ⟨a, b⟩ := g1 i _ hs
      have z := a5 i t ds a
      rw [b] at z
      exact z
    bx := by
      obtain ⟨F, hF⟩ := E.bx
      refine ⟨F, fun i b h => ?_⟩
      obtain ⟨a, e⟩ := g1 i _ h
      obtain ⟨q1, q2, q3⟩ := hF i b a
      rw [e] at q1
      refine ⟨q1, fun y hy => ?_, fun j b' hj h' => q3 j b' hj (g1 j _ h').1⟩
      have f := q2 y hy
      exact ⟨f.g, f.h0, f.tg, f.hd, fun j t ds hs => by
        obtain ⟨a', e'⟩ := g1 j _ hs
        have z := f.ow j t ds a'
        rw [e'] at z
        exact z⟩ }
def dCallNN (Sg : DSn) (S : DSp) (ua : DCA) : DTE := fun δ R => ua δ fun cs δ1 => (muts δ1 cs).Nodup ∧ Sg (asOf δ1 cs 0) fun ds outs => outs.length = (muts δ1 cs).length ∧ S [.own (some 0) ds] fun d outs2 => outs2.length = 1 ∧ R d (setOuts δ1 (muts δ1 cs) outs)
theorem re_callNN {Sg : DSn} {S : DSp} {t : TA} {ua : DCA} (ha : RCA K t ua) : RE K (tCall (spD K S) [] E0 (tCons (tCall (spN K Sg) [] E0 t) tNil)) (dCallNN Sg S ua) := by
  intro c σ G H δ Q R E h k
  refine ha c σ G H δ _ _ E h fun cs δ1 vs G1 H1 h1 E1 e1 r1 => ?_
  obtain ⟨hn, hS⟩ := h1
  show spN K Sg (vs ++ []) H1 _ E0
  rw [List.append_nil]
  refine ⟨calleeC σ (muts δ1 cs) G1 H1, asOf δ1 cs 0, _, rfl, rfl, callee_env E1 r1 hn, hS, fun ds outs p xs G' H' hR F hp gp hh rr => ?_⟩
  obtain ⟨hl, hS2⟩ := hR
  have EB := caller_back E1 hn hl F
  have old : ∀ (j : Nat) (t : Option Nat) (es : List PyData), (setOuts δ1 (muts δ1 cs) outs)[j]? = some (Sl.own t es) → σ[j]? ≠ some (some (V.ref p)) := fun j t es hs z => by
    have so := setOuts_get (M := muts δ1 cs) (δ := δ1) (outs := outs) (k := j) hn hl fun i hi => muts_own hi
    have hd : ∃ t' ds', δ1[j]? = some (Sl.own t' ds') := by
      by_cases hj : j ∈ muts δ1 cs
      · exact muts_own hj
      · rw [so.2.1 hj] at hs
        exact ⟨_, _, hs⟩
    obtain ⟨t', ds', hd⟩ := hd
    obtain ⟨q, ys, e, _, q1, _⟩ := E1.sl j _ hd
    rw [z] at e
    rw [← V.ref.inj (Option.some.inj (Option.some.inj e)), hp] at q1
    cases q1
  have n0 : ∀ zs, (p, zs) ∉ c.hid := fun zs z => by
    have q := (E1.hd p zs z).1
    rw [hp] at q
    cases q
  have EH : EnvOk K { c with hid := (p, .lst xs) :: c.hid } G' H' σ (setOuts δ1 (muts δ1 cs) outs) := {
    xw := EB.xw, g0 := EB.g0, ex := EB.ex, fr := EB.fr, fs := EB.fs, tg := EB.tg, len := EB.len
    sl := fun i s h => by
      have z := EB.sl i s h
      cases s with
      | no => trivial
      | box b => trivial
      | dat d => exact z
      | scr d => exact z
      | own t d => exact z
    ap := EB.ap
    hd := fun q ys hm => by
      rcases List.mem_cons.mp hm with e | hm
      · cases e
        exact ⟨hh, gp, E1.new0 hp, fun j hj z => (E1.tg j hj).1 (by rw [← z]; exact hp), old⟩
      · exact EB.hd q ys hm
    bx := caller_box E1 hn hl F rfl rfl rfl fun a ha h o hm => by
      rcases List.mem_cons.mp hm with e | hm
      · cases e
        exact ha hp
      · exact h o hm }
  generalize hδ : setOuts δ1 (muts δ1 cs) outs = δ2 at EB EH hS2
  have EM : EnvOk K { c with hid := (p, .lst xs) :: c.hid } G' H' (σ ++ List.replicate 1 none) (δ2 ++ List.replicate 1 .no) := ⟨EH.toEnvC.more 1, EH.xw⟩
  have EG := EM.give n0 rr δ2.length
  have len := EB.len
  have s1 : (δ2 ++ List.replicate 1 Sl.no).set δ2.length (.own none ds) = δ2 ++ [.own none ds] := by
    rw [List.set_append_right _ _ (Nat.le_refl _), Nat.sub_self]
    rfl
  have s2 : (σ ++ List.replicate 1 (none : Option V)).set δ2.length (some (.ref p)) = σ ++ [some (.ref p)] := by
    rw [← len, List.set_append_right _ _ (Nat.le_refl _), Nat.sub_self]
    rfl
  rw [s1, s2] at EG
  have gd : (δ2 ++ [Sl.own none ds])[δ2.length]? = some (.own none ds) := by rw [List.getElem?_append_right (Nat.le_refl _), Nat.sub_self]; rfl
  have gs : (σ ++ [some (V.ref p)])[δ2.length]? = some (some (.ref p)) := by rw [← len, List.getElem?_append_right (Nat.le_refl _), Nat.sub_self]; rfl
  have mu : muts (δ2 ++ [Sl.own none ds]) [.s δ2.length] = [δ2.length] := by
    show (match (δ2 ++ [Sl.own none ds])[δ2.length]? with
      | some (.own _ _) => δ2.length :: muts (δ2 ++ [Sl.own none ds]) []
      | _ => muts (δ2 ++ [Sl.own none ds]) []) = _
    rw [gd]
    rfl
  have as' : asOf (δ2 ++ [Sl.own none ds]) [.s δ2.length] 0 = [.own (some 0) ds] := by
    show (match (δ2 ++ [Sl.own none ds])[δ2.length]? with
      | some (.own _ ds) => Sl.own (some 0) ds :: asOf (δ2 ++ [Sl.own none ds]) [] 1
      | some (.scr ds) => .scr ds :: asOf (δ2 ++ [Sl.own none ds]) [] 0
      | _ => .no :: asOf (δ2 ++ [Sl.own none ds]) [] 0) = _
    rw [gd]
    rfl
  have nd : (muts (δ2 ++ [Sl.own none ds]) [.s δ2.length]).Nodup := by rw [mu]; exact List.nodup_cons.mpr ⟨List.not_mem_nil, List.nodup_nil⟩
  have rc : CAs K G' (σ ++ [some (V.ref p)]) [.ref p] [.s δ2.length] := .s gs .nil
  have ce := callee_env EG rc nd
  rw [as'] at ce
  show spD K S ([V.ref p] ++ []) H' Q E0
  refine ⟨calleeC (σ ++ [some (V.ref p)]) (muts (δ2 ++ [Sl.own none ds]) [.s δ2.length]) G' H', [.own (some 0) ds], _, rfl, rfl, ce, hS2, fun d outs2 v G2 H2 hR2 F2 rv => ?_⟩
  obtain ⟨hl2, hR2⟩ := hR2
  have back := caller_back EG nd (by rw [mu]; exact hl2) F2
  obtain ⟨o, rfl⟩ : ∃ o, outs2 = [o] := by
    cases outs2 with
    | nil => cases hl2
    | cons o r =>
      cases r with
      | nil => exact ⟨o, rfl⟩
      | cons _ _ => cases hl2
  rw [mu] at back
  have so : setOuts (δ2 ++ [Sl.own none ds]) [δ2.length] [o] = δ2 ++ [.own none o] := by
    show setOut (δ2 ++ [Sl.own none ds]) δ2.length o = _
    unfold setOut
    rw [gd]
    show (δ2 ++ [Sl.own none ds]).set δ2.length (.own none o) = _
    rw [List.set_append_right _ _ (Nat.le_refl _), Nat.sub_self]
    rfl
  rw [so] at back
  have fin : EnvOk K c G2 H2 σ δ2 := ⟨EnvC.less len back.toEnvC, EB.xw⟩
  exact k d δ2 v G2 H2 hR2 fin ((e1.trans F.g0).trans F2.g0) rv
end
section
variable [XW] {X : Cx} {e : Expr} {es : List Expr} {tca : TA} {uca : DCA} {p p2 p3 pos : Pos}
theorem ds_retOwn (i : Nat) {x : Str} (hN : X.N[i]? = some x := by rfl) (hv : Vis X.env.scope x := by first | exact Or.inl rfl | exact Or.inr (Or.inl rfl) | exact Or.inr (Or.inr rfl)) (hd : (x == ("__debug__" : Str)) = false := by decide)
    (hcd : (x == ("__classdict__" : Str)) = false := by decide) : DS X (.Return (some (.Name x p)) pos) (tRet (tVar i)) (dRetOwn i) := ⟨ps_ret (pe_var hN hv hd hcd), rs_retOwn⟩
theorem de_callNN {x y : Str} {Sg : DSn} {S : DSp} {k j kg : Nat} (kn : Kn X.prog X.w X.K X.mg X.base k x S) (kng : KnN X.prog X.w X.K X.mg X.base kg y Sg) (hr : RoomG j X.A) (hk : k ≤ j) (hkg : kg ≤ j) (ha : DCa X (e :: es) tca uca) (hg : Gl X x := by rfl) (hdb : (x == ("__debug__" : Str)) = false := by decide) (hg2 : Gl X y := by rfl) (hdb2 : (y == ("__debug__" : Str)) = false := by decide)
    (he : starEach (e :: es) X.env = (false, eval e X.env) :: starEach es X.env := by rfl) (hpl : (backTo pos (starEach es X.env)).any (·.1) = false := by rfl)
    (he2 : starEach [.Call (.Name y p2) (e :: es) [] pos] X.env = (false, eval (.Call (.Name y p2) (e :: es) [] pos) X.env) :: starEach [] X.env := by rfl) (hpl2 : (backTo p3 (starEach [] X.env)).any (·.1) = false := by rfl) :
    DE X (.Call (.Name x p) [.Call (.Name y p2) (e :: es) [] pos] [] p3) (tCall (spD X.K S) [] E0 (tCons (tCall (spN X.K Sg) [] E0 tca) tNil)) (dCallNN Sg S uca) := by
  obtain ⟨f, fd, ps, F, hm, kp, b⟩ := kn.ex
  obtain ⟨f2, fd2, ps2, F2, hm2, kp2, b2⟩ := kng.ex
  exact ⟨pe_callG F (hr.mono hk) hg hm kp b .nil pass0 (pa_cons (pe_callG F2 (hr.mono hkg) hg2 hm2 kp2 b2 .nil pass0 ha.pa hdb2 he hpl) pa_nil he2) hdb he2 hpl2, re_callNN ha.ra⟩
end
end TL

set_option Elab.async false
set_option linter.all false
set_option maxRecDepth 100000
set_option maxHeartbeats 600000
/-! TBt: xs.pop(0) of one's own list. -/
namespace TL
open PySem PySem.Spec PyProof.Rows L2
section
variable [XW] {K : PySem.W.Frag}
def dPop0 (i : Nat) : DTE := fun δ R => match δ[i]? with
  | some (.own t (d :: ds)) => R d (δ.set i (.own t ds))
  | _ => False
theorem seq0 (n : Nat) : seqIndex? 0 (n + 1) = some 0 := by
  unfold seqIndex?
  simp
theorem re_pop0 {i : Nat} : RE K (tBM K "list" rPopAt (tVar i) (tCons (tC (.int 0)) tNil)) (dPop0 i) := by
  intro c σ G H δ Q R E h k
  unfold dPop0 at h
  cases hs : δ[i]? with
  | none => rw [hs] at h; exact h.elim
  | some s =>
    rw [hs] at h
    cases s with
    | own t ds =>
      cases ds with
      | nil => exact h.elim
      | cons d ds =>
        obtain ⟨p, xs, e, hg, hh, r, q⟩ := E.sl i _ hs
        cases r with
        | @cons v vs _ _ rv rs =>
          refine ⟨.ref p, e, .inl ⟨rfl, _, .inl (.inl hh)⟩, ?_⟩
          exact ⟨p, v :: vs, 0, 0, v, rfl, rfl, hh, by decide, by decide, seq0 vs.length, rfl, k d _ v G _ h (E.poke hs e rs) (Ex.refl _) rv⟩
    | _ => exact h.elim
end
section
variable [XW] {X : Cx} {p p2 p3 apos pos : Pos}
theorem de_pop0 (i : Nat) {x : Str} {kk : Nat} (hN : X.N[i]? = some x := by rfl) (hv : Vis X.env.scope x := by first | exact Or.inl rfl | exact Or.inr (Or.inl rfl) | exact Or.inr (Or.inr rfl)) (hd : (x == ("__debug__" : Str)) = false := by decide)
    (hcd : (x == ("__classdict__" : Str)) = false := by decide)
    (hb : attributeBase (.Name x p) "pop" X.env (eval (.Name x p) X.env) = eval (.Name x p) X.env := by rfl)
    (hfew : ((backTo pos (starEach [.Constant (.int 0) kk p2] X.env)).all (fun x => !x.1) && (backToKw pos (keywordEach [] X.env)).all (fun x => x.1.isSome)
      && decide ([Expr.Constant (.int 0) kk p2].length + ([] : List Keyword).length + (if ([] : List Keyword).isEmpty then 0 else 1) < 30)) = true := by rfl)
    (hline : (apos.endLine == pos.line) = true := by rfl) (hst : starEach [.Constant (.int 0) kk p2] X.env = (false, eval (.Constant (.int 0) kk p2) X.env) :: starEach [] X.env := by rfl) (hpl : (backTo pos (starEach [] X.env)).any (·.1) = false := by rfl) :
    DE X (.Call (.Attribute (.Name x p) "pop" apos) [.Constant (.int 0) kk p2] [] pos) (tBM X.K "list" rPopAt (tVar i) (tCons (tC (.int 0)) tNil)) (dPop0 i) :=
  ⟨pe_bm PySem.F.plainAttrs_list PySem.F.slot_list_pop PySem.F.type_list_pop mt_popAt (pe_var hN hv hd hcd) (pa_cons pe_int pa_nil hst) hb hfew hline hst hpl, re_pop0⟩
end
end TL

set_option Elab.async false
set_option linter.all false
set_option maxRecDepth 100000
set_option maxHeartbeats 600000
/-! TBu: a call of a def that may refuse, within a comprehension of a def that lets nothing out. -/
namespace TL
open PySem PySem.Spec PyProof.Rows L2
theorem de_callXB {X : Cx} {P : Program} {w : World} {K : PySem.W.Frag} {mg : Str → Option Value} {base : Heap} {x : Str} {S : DSx} {k j : Nat} {e : Expr} {es : List Expr} {tca : TA} {uca : DCA} {p pos : Pos} (kn : KnX P w K mg base k x S) (hr : RoomG j X.A) (hk : k ≤ j) (ha : DCa X (e :: es) tca uca)
    (hX : X.prog = P ∧ X.w = w ∧ X.K = K ∧ X.mg = mg ∧ X.base = base := by exact ⟨rfl, rfl, rfl, rfl, rfl⟩) (hg : Gl X x := by rfl) (hdb : (x == ("__debug__" : Str)) = false := by decide)
    (he : starEach (e :: es) X.env = (false, eval e X.env) :: starEach es X.env := by rfl) (hpl : (backTo pos (starEach es X.env)).any (·.1) = false := by rfl) : DE X (.Call (.Name x p) (e :: es) [] pos) (tCallSD (spX K S) [] (WE XW0.w) tca) (dCallX S uca) := by
  obtain ⟨rfl, rfl, rfl, rfl, rfl⟩ := hX
  exact de_callX takes_no kn hr hk ha hg hdb he hpl
end TL

set_option Elab.async false
set_option linter.all false
set_option maxRecDepth 100000
set_option maxHeartbeats 600000
/-! TBv: trees of new lists: a tuple, a list, whose lists are nobody else's. -/
namespace TL
open PySem PySem.Spec PyProof.Rows L2
/-- what is told; a new list of told things; a new list, a new tuple of such -/
inductive TD where
  | t (d : PyData)
  | l (ds : List PyData)
  | ls (ts : List TD)
  | tp (ts : List TD)
mutual
def TD.d : TD → PyData
  | .t d => d
  | .l ds => .list ds
  | .ls ts => .list (TD.dAll ts)
  | .tp ts => .tuple (TD.dAll ts)
def TD.dAll : List TD → List PyData
  | [] => []
  | x :: r => x.d :: TD.dAll r
end
mutual
/-- v is t; the new lists and tuples at S stand in H alone, all else is told in G -/
inductive Tr (K : PySem.W.Frag) (G H : Hp) : V → TD → List Addr → Prop
  | told {v : V} {d : PyData} : Rp K G v d → Tr K G H v (.t d) []
  | l {p : Addr} {xs : List V} {ds : List PyData} : H p = some (.lst xs) → RpAll K G xs ds → Tr K G H (.ref p) (.l ds) [p]
  | ls {p : Addr} {xs : List V} {ts : List TD} {S : List Addr} : H p = some (.lst xs) → TrAll K G H xs ts S → Tr K G H (.ref p) (.ls ts) (p :: S)
  | tp {p : Addr} {xs : List V} {ts : List TD} {S : List Addr} : H p = some (.tup xs) → TrAll K G H xs ts S → Tr K G H (.ref p) (.tp ts) (p :: S)
inductive TrAll (K : PySem.W.Frag) (G H : Hp) : List V → List TD → List Addr → Prop
  | nil : TrAll K G H [] [] []
  | cons {v : V} {t : TD} {S : List Addr} {vs : List V} {ts : List TD} {T : List Addr} : Tr K G H v t S → TrAll K G H vs ts T → TrAll K G H (v :: vs) (t :: ts) (S ++ T)
end
section
variable {K : PySem.W.Frag} {G G' H H' : Hp}
mutual
theorem Tr.mono (e : Ex G G') : ∀ {v : V} {t : TD} {S : List Addr}, Tr K G H v t S → (∀ a ∈ S, H' a = H a) → Tr K G' H' v t S
  | _, _, _, .told r, _ => .told (r.up e)
  | _, _, _, .l h r, k => .l (by rw [k _ List.mem_cons_self]; exact h) (r.up e)
  | _, _, _, .ls h r, k => .ls (by rw [k _ List.mem_cons_self]; exact h) (TrAll.mono e r fun a ha => k a (List.mem_cons_of_mem _ ha))
  | _, _, _, .tp h r, k => .tp (by rw [k _ List.mem_cons_self]; exact h) (TrAll.mono e r fun a ha => k a (List.mem_cons_of_mem _ ha))
theorem TrAll.mono (e : Ex G G') : ∀ {vs : List V} {ts : List TD} {S : List Addr}, TrAll K G H vs ts S → (∀ a ∈ S, H' a = H a) → TrAll K G' H' vs ts S
  | _, _, _, .nil, _ => .nil
  | _, _, _, .cons h r, k => .cons (Tr.mono e h fun a ha => k a (List.mem_append_left _ ha)) (TrAll.mono e r fun a ha => k a (List.mem_append_right _ ha))
end
mutual
theorem Tr.live : ∀ {v : V} {t : TD} {S : List Addr}, Tr K G H v t S → ∀ a ∈ S, H a ≠ none
  | _, _, _, .told r, a, ha => (List.not_mem_nil ha).elim
  | _, _, _, .l h r, a, ha => by
    rw [List.mem_singleton.mp ha, h]
    exact fun z => nomatch z
  | _, _, _, .ls h r, a, ha => by
    rcases List.mem_cons.mp ha with e | ha
    · rw [e, h]
      exact fun z => nomatch z
    · exact TrAll.live r a ha
  | _, _, _, .tp h r, a, ha => by
    rcases List.mem_cons.mp ha with e | ha
    · rw [e, h]
      exact fun z => nomatch z
    · exact TrAll.live r a ha
theorem TrAll.live : ∀ {vs : List V} {ts : List TD} {S : List Addr}, TrAll K G H vs ts S → ∀ a ∈ S, H a ≠ none
  | _, _, _, .nil, a, ha => (List.not_mem_nil ha).elim
  | _, _, _, .cons h r, a, ha => (List.mem_append.mp ha).elim (Tr.live h a) (TrAll.live r a)
end
mutual
/-- a tree is told -/
theorem Tr.tell (e : Ex G G') : ∀ {v : V} {t : TD} {S : List Addr}, Tr K G H v t S → (∀ a ∈ S, G' a = H a) → Rp K G' v t.d
  | _, _, _, .told r, _ => r.up e
  | _, _, _, .l h r, k => .lst (by rw [k _ List.mem_cons_self]; exact h) (r.up e)
  | _, _, _, .ls h r, k => .lst (by rw [k _ List.mem_cons_self]; exact h) (TrAll.tell e r fun a ha => k a (List.mem_cons_of_mem _ ha))
  | _, _, _, .tp h r, k => .tup (by rw [k _ List.mem_cons_self]; exact h) (TrAll.tell e r fun a ha => k a (List.mem_cons_of_mem _ ha))
theorem TrAll.tell (e : Ex G G') : ∀ {vs : List V} {ts : List TD} {S : List Addr}, TrAll K G H vs ts S → (∀ a ∈ S, G' a = H a) → RpAll K G' vs (TD.dAll ts)
  | _, _, _, .nil, _ => .nil
  | _, _, _, .cons h r, k => .cons (Tr.tell e h fun a ha => k a (List.mem_append_left _ ha)) (TrAll.tell e r fun a ha => k a (List.mem_append_right _ ha))
end
theorem TrAll.len : ∀ {vs : List V} {ts : List TD} {S : List Addr}, TrAll K G H vs ts S → vs.length = ts.length
  | _, _, _, .nil => rfl
  | _, _, _, .cons _ r => by rw [List.length_cons, List.length_cons, TrAll.len r]
theorem TrAll.app : ∀ {vs ws : List V} {ts us : List TD} {S T : List Addr}, TrAll K G H vs ts S → TrAll K G H ws us T → TrAll K G H (vs ++ ws) (ts ++ us) (S ++ T)
  | _, _, _, _, _, _, .nil, s => s
  | _, _, _, _, _, _, .cons h r, s => by
    rw [List.append_assoc]
    exact .cons h (TrAll.app r s)
theorem TrAll.one {v : V} {t : TD} {S : List Addr} (h : Tr K G H v t S) : TrAll K G H [v] [t] S := by
  have z := TrAll.cons h (.nil (K := K) (G := G) (H := H))
  rwa [List.append_nil] at z
theorem TrAll.cut : ∀ {ts : List TD} {vs : List V} {S : List Addr} (n : Nat), TrAll K G H vs ts S → ∃ S1 S2, S = S1 ++ S2 ∧ TrAll K G H (vs.take n) (ts.take n) S1 ∧ TrAll K G H (vs.drop n) (ts.drop n) S2
  | ts, vs, S, 0, h => ⟨[], S, rfl, .nil, h⟩
  | [], _, _, n + 1, .nil => ⟨[], [], rfl, .nil, .nil⟩
  | t :: ts, _, _, n + 1, .cons h r => by
    obtain ⟨S1, S2, e, a, b⟩ := TrAll.cut n r
    refine ⟨_, S2, ?_, .cons h a, b⟩
    rw [e, List.append_assoc]
theorem TrAll.get : ∀ {ts : List TD} {vs : List V} {S : List Addr} {n : Nat} {v : V}, TrAll K G H vs ts S → vs[n]? = some v → ∃ t, ts[n]? = some t
  | [], _, _, _, _, .nil, h => by simp at h
  | t :: ts, _, _, 0, _, .cons h r, _ => ⟨t, rfl⟩
  | t :: ts, _, _, n + 1, v, .cons h r, e => by
    obtain ⟨u, hu⟩ := TrAll.get (n := n) r (by simpa using e)
    exact ⟨u, by simpa using hu⟩
end
/-- a tree that is one's own; o: what its root is, where that counts -/
def boxTr (o : Option V) (t : TD) : Box where
  at_ := fun K G H v S => (∀ x, o = some x → v = x) ∧ Tr K G H v t S ∧ S.Nodup
  up := fun h e k => ⟨h.1, h.2.1.mono e k, h.2.2⟩
  live := fun h => h.2.1.live
/-- S is hidden, by hs, newly -/
def HidBy (hs hid : List (Addr × HO)) (S : List Addr) : Prop := ∀ a ∈ S, (∃ o, (a, o) ∈ hs) ∧ ∀ o, (a, o) ∉ hid
abbrev TQ := TD → List Sl → Prop
abbrev DTF := List Sl → TQ → Prop
abbrev DTFA := List Sl → (List TD → List Sl → Prop) → Prop
section
variable [XW] {K : PySem.W.Frag}
/-- an expression whose value is a tree -/
def RF (K : PySem.W.Frag) (t : TE) (u : DTF) : Prop := ∀ (c : Cf) (σ : L2.St) (G H : Hp) (δ : List Sl) (Q : VK) (R : TQ), EnvOk K c G H σ δ → u δ R →
  (∀ d δ' v G' H' S hs, R d δ' → EnvOk K { c with hid := hs ++ c.hid } G' H' σ δ' → Ex G G' → Tr K G' H' v d S → S.Nodup → HidBy hs c.hid S → Q v H') → t σ H Q
def RFA (K : PySem.W.Frag) (t : TA) (u : DTFA) : Prop := ∀ (c : Cf) (σ : L2.St) (G H : Hp) (δ : List Sl) (Q : List V → Hp → Prop) (R : List TD → List Sl → Prop), EnvOk K c G H σ δ → u δ R →
  (∀ ds δ' vs G' H' S hs, R ds δ' → EnvOk K { c with hid := hs ++ c.hid } G' H' σ δ' → Ex G G' → TrAll K G' H' vs ds S → S.Nodup → HidBy hs c.hid S → Q vs H') → t σ H Q
structure DF (X : Cx) (e : Expr) (t : TE) (u : DTF) : Prop where
  pe : PE X e t
  rf : RF X.K t u
structure DFA (X : Cx) (es : List Expr) (t : TA) (u : DTFA) : Prop where
  pa : PA X es t
  rf : RFA X.K t u
def fTold (u : DTE) : DTF := fun δ R => u δ fun d δ1 => R (.t d) δ1
def fNil : DTFA := fun δ R => R [] δ
def fCons (u : DTF) (ur : DTFA) : DTFA := fun δ R => u δ fun d δ1 => ur δ1 fun ds δ2 => R (d :: ds) δ2
def fTup (u : DTFA) : DTF := fun δ R => u δ fun ds δ1 => ds.length ≤ sizeLine ∧ R (.tp ds) δ1
def fLst (u : DTFA) : DTF := fun δ R => u δ fun ds δ1 => ds.length ≤ sizeLine ∧ R (.ls ds) δ1
def fLc (w : DTI) (g : DTG) (t : DTT) (u : DTE) (vs : List Nat) : DTF := fun δ R => w δ fun ds δ1 => lcW vs g t u (fun acc δ' => R (.l acc) δ') ds [] δ1
/-- a name whose list is one's own, given away -/
def fGive (i : Nat) : DTF := fun δ R => match δ[i]? with
  | some (.own none ds) => R (.l ds) (δ.set i .no)
  | _ => False
variable {t ta : TE} {u : DTE} {uf : DTF} {tr : TA} {ur : DTFA}
theorem rf_told (h : RE K t u) : RF K t (fTold u) := by
  intro c σ G H δ Q R E hu k
  exact h c σ G H δ _ _ E hu fun d δ' v G' H' hR E' e r => k _ δ' v G' H' [] [] hR E' e (.told r) List.nodup_nil fun a ha => (List.not_mem_nil ha).elim
theorem rfa_nil : RFA K tNil fNil := fun c σ G H δ Q R E hu k => k [] δ [] G H [] [] hu E (Ex.refl _) .nil List.nodup_nil fun a ha => (List.not_mem_nil ha).elim
theorem rfa_cons (h : RF K t uf) (hr : RFA K tr ur) : RFA K (tCons t tr) (fCons uf ur) := by
  intro c σ G H δ Q R E hu k
  refine h c σ G H δ _ _ E hu fun d δ1 v G1 H1 S1 hs1 h1 E1 e1 T1 n1 b1 => ?_
  refine hr _ σ G1 H1 δ1 _ _ E1 h1 fun ds δ2 vs G2 H2 S2 hs2 h2 E2 e2 T2 n2 b2 => ?_
  have same : ∀ a ∈ S1, H2 a = H1 a := fun a ha => by
    obtain ⟨⟨o, ho⟩, _⟩ := b1 a ha
    rw [(E2.hd a o (List.mem_append_right _ (List.mem_append_left _ ho))).1, (E1.hd a o (List.mem_append_left _ ho)).1]
  have as : hs2 ++ (hs1 ++ c.hid) = (hs2 ++ hs1) ++ c.hid := (List.append_assoc _ _ _).symm
  have E3 : EnvOk K { c with hid := (hs2 ++ hs1) ++ c.hid } G2 H2 σ δ2 := by
    rw [← as]
    exact E2
  refine k (d :: ds) δ2 (v :: vs) G2 H2 (S1 ++ S2) (hs2 ++ hs1) h2 E3 (e1.trans e2) (.cons (T1.mono e2 same) T2) ?_ fun a ha => ?_
  · refine List.nodup_append.mpr ⟨n1, n2, fun x hx y hy e => ?_⟩
    subst e
    obtain ⟨⟨o, ho⟩, _⟩ := b1 x hx
    exact (b2 x hy).2 o (List.mem_append_left _ ho)
  · rcases List.mem_append.mp ha with ha | ha
    · obtain ⟨⟨o, ho⟩, no⟩ := b1 a ha
      exact ⟨⟨o, List.mem_append_right _ ho⟩, no⟩
    · obtain ⟨⟨o, ho⟩, no⟩ := b2 a ha
      exact ⟨⟨o, List.mem_append_left _ ho⟩, fun o h => no o (List.mem_append_right _ h)⟩
theorem rf_tup (hr : RFA K tr ur) : RF K (tTup tr) (fTup ur) := by
  intro c σ G H δ Q R E hu k
  refine hr c σ G H δ _ _ E hu fun ds δ1 vs G1 H1 S hs h1 E1 e1 T n b => ?_
  refine ⟨by rw [T.len]; exact h1.1, fun p hp => ?_⟩
  have E2 := E1.hide (ob := .tup vs) hp (E1.new0 hp)
  have np : p ∉ S := fun h => T.live p h hp
  refine k (.tp ds) δ1 (.ref p) G1 _ (p :: S) ((p, .tup vs) :: hs) h1.2 E2 e1 (.tp upd_same (T.mono (Ex.refl _) fun a ha => upd_ne fun z => np (by rw [← z]; exact ha))) (List.nodup_cons.mpr ⟨np, n⟩) fun a ha => ?_
  rcases List.mem_cons.mp ha with e | ha
  · subst e
    exact ⟨⟨_, List.mem_cons_self⟩, fun o h => hid_new E1 hp o (List.mem_append_right _ h)⟩
  · obtain ⟨⟨o, ho⟩, no⟩ := b a ha
    exact ⟨⟨o, List.mem_cons_of_mem _ ho⟩, no⟩
theorem rf_lst (hr : RFA K tr ur) : RF K (tLst tr) (fLst ur) := by
  intro c σ G H δ Q R E hu k
  refine hr c σ G H δ _ _ E hu fun ds δ1 vs G1 H1 S hs h1 E1 e1 T n b => ?_
  refine ⟨by rw [T.len]; exact h1.1, fun p hp => ?_⟩
  have E2 := E1.hide (ob := .lst vs) hp (E1.new0 hp)
  have np : p ∉ S := fun h => T.live p h hp
  refine k (.ls ds) δ1 (.ref p) G1 _ (p :: S) ((p, .lst vs) :: hs) h1.2 E2 e1 (.ls upd_same (T.mono (Ex.refl _) fun a ha => upd_ne fun z => np (by rw [← z]; exact ha))) (List.nodup_cons.mpr ⟨np, n⟩) fun a ha => ?_
  rcases List.mem_cons.mp ha with e | ha
  · subst e
    exact ⟨⟨_, List.mem_cons_self⟩, fun o h => hid_new E1 hp o (List.mem_append_right _ h)⟩
  · obtain ⟨⟨o, ho⟩, no⟩ := b a ha
    exact ⟨⟨o, List.mem_cons_of_mem _ ho⟩, no⟩
/-- a new list whose things are told, written anew -/
def fNew (u : DTA) : DTF := fun δ R => u δ fun ds δ1 => ds.length ≤ sizeLine ∧ R (.l ds) δ1
theorem rf_new {tr : TA} {ur : DTA} (hr : RA K tr ur) : RF K (tLst tr) (fNew ur) := by
  intro c σ G H δ Q R E hu k
  refine hr c σ G H δ _ _ E hu fun ds δ1 vs G1 H1 h1 E1 e1 T => ?_
  refine ⟨by rw [T.len]; exact h1.1, fun p hp => ?_⟩
  have E2 := E1.hide (ob := .lst vs) hp (E1.new0 hp)
  refine k (.l ds) δ1 (.ref p) G1 _ [p] [(p, .lst vs)] h1.2 E2 e1 (.l upd_same T) (List.nodup_cons.mpr ⟨List.not_mem_nil, List.nodup_nil⟩) fun a ha => ?_
  rw [List.mem_singleton.mp ha]
  exact ⟨⟨_, List.mem_singleton_self _⟩, hid_new E1 hp⟩
theorem rf_lc {w : TI} {uw : DTI} {g : TG} {ug : DTG} {js vs : List Nat} {tt : TT} {ut : DTT} {te : TE} {ue : DTE} (hw : RI K w uw) (hg : RG K g ug js) (ht : RT K tt ut) (he : RE K te ue) (hj : ∀ j ∈ js, j ∈ vs) : RF K (tLc w g tt te vs) (fLc uw ug ut ue vs) := by
  intro c σ G H δ Q R E hu k
  refine hw c σ G H δ _ _ E hu fun ds δ1 J G1 H1 h1 E1 e1 Y => ?_
  intro D hD
  have hn := hid_new E1 hD
  refine lc_turns (Q := Q) hg ht he hj (E1.hide (ob := .lst []) hD (E1.new0 hD)) hn Y h1 fun acc δ' xs G' H' hR E' e' r' => ?_
  refine k (.l acc) δ' (.ref D) G' H' [D] [(D, .lst xs)] hR E' (e1.trans e') (.l (E'.hd D _ List.mem_cons_self).1 r') (List.nodup_cons.mpr ⟨List.not_mem_nil, List.nodup_nil⟩) fun a ha => ?_
  rw [List.mem_singleton.mp ha]
  exact ⟨⟨_, List.mem_singleton_self _⟩, hn⟩
theorem rf_own {i : Nat} : RF K (tVar i) (fGive i) := by
  intro c σ G H δ Q R E hu k
  unfold fGive at hu
  cases hs : δ[i]? with
  | none => rw [hs] at hu; exact hu.elim
  | some s =>
    rw [hs] at hu
    cases s with
    | own t ds =>
      cases t with
      | some j => exact hu.elim
      | none =>
        obtain ⟨p, xs, hv, hg, hh, rr, h0, hne⟩ := E.sl i _ hs
        refine ⟨.ref p, hv, k (.l ds) _ (.ref p) G H [p] [(p, .lst xs)] hu (E.hideOwn hs hv hh hg h0 hne) (Ex.refl _) (.l hh rr) (List.nodup_cons.mpr ⟨List.not_mem_nil, List.nodup_nil⟩) fun a ha => ?_⟩
        rw [List.mem_singleton.mp ha]
        exact ⟨⟨_, List.mem_singleton_self _⟩, fun zs z => (E.hd p zs z).2.2.2.2 i _ _ hs hv⟩
    | _ => exact hu.elim
/-- list(..): a new list -/
def fListOf (u : DTE) : DTF := fun δ R => u δ fun d δ1 => match d with
  | .list ds => R (.l ds) δ1
  | .tuple ds => R (.l ds) δ1
  | _ => False
theorem rf_listOf {ua : DTE} (ha : RE K ta ua) : RF K (tCB (rListOf K) (tCons ta tNil)) (fListOf ua) := by
  intro c σ G H δ Q R E h k
  refine ha c σ G H δ _ _ E h fun d δ1 v G1 H1 h1 E1 e1 r1 => ?_
  have fin : ∀ (xs : List V) (ds : List PyData), RpAll K G1 xs ds → R (.l ds) δ1 → ∀ l, H1 l = none → Q (.ref l) (upd H1 l (.lst xs)) := fun xs ds rr hR p hp => by
    refine k (.l ds) δ1 (.ref p) G1 _ [p] [(p, .lst xs)] hR (E1.hide (ob := .lst xs) hp (E1.new0 hp)) e1 (.l upd_same rr) (List.nodup_cons.mpr ⟨List.not_mem_nil, List.nodup_nil⟩) fun a ha => ?_
    rw [List.mem_singleton.mp ha]
    exact ⟨⟨_, List.mem_singleton_self _⟩, hid_new E1 hp⟩
  cases d <;> first
    | exact False.elim h1
    | skip
  · obtain ⟨a, xs, rfl, q1, q2⟩ := r1.lst_of
    exact ⟨a, xs, rfl, .inl (.inl (.inl (E1.ex _ _ q1))), fin xs _ q2 h1⟩
  · obtain ⟨a, xs, rfl, q1, q2⟩ := r1.tup_of
    exact ⟨a, xs, rfl, .inr (.inl (.inl (E1.ex _ _ q1))), fin xs _ q2 h1⟩
/-- name = a tree -/
def dAsgTr (i : Nat) (u : DTF) : DTS := fun E δ => u δ fun d δ' => E.nx (δ'.set i (.box (boxTr none d)))
theorem rs_asgTr {i : Nat} (h : RF K t uf) : RS K (tAsg t (gName i)) (dAsgTr i uf) := by
  intro c σ G H δ D E EV hu k
  refine h c σ G H δ _ _ EV hu fun d δ' v G' H' S hs hR E' e T n b => ?_
  exact k.nx _ G' H' _ hR (E'.give_box b (b := boxTr none d) ⟨fun _ z => (nomatch z), T, n⟩ i) e
end
end TL

set_option Elab.async false
set_option linter.all false
set_option maxRecDepth 100000
set_option maxHeartbeats 800000
/-! TBw: a def that hands a tree back; a tree lent and taken back. -/
namespace TL
open PySem PySem.Spec PyProof.Rows L2
/-- a tree comes back, all of whose lists are new -/
abbrev DSt := List Sl → (TD → List (List PyData) → Prop) → Prop
def spT (K : PySem.W.Frag) (S : DSt) : Sp := fun vs H Q _ => ∃ (c : Cf) (as : List Sl) (R : TD → List (List PyData) → Prop), c.hid = [] ∧ c.H0 = H ∧ EnvC K c c.G0 H (vs.map some) as ∧ S as R ∧
  ∀ d outs v G' H' T, R d outs → Fin K c G' H' outs → Tr K G' H' v d T → T.Nodup → (∀ a ∈ T, H a = none ∧ G' a = none) → Q v H'
section
variable [XW] {K : PySem.W.Frag}
/-- rows of which the last hands a tree back -/
def RST (K : PySem.W.Frag) (t : TS) (u : DTF) : Prop := ∀ (c : Cf) (σ : L2.St) (G H : Hp) (δ : List Sl) (D : Ends) (R : TQ), EnvOk K c G H σ δ → c.hid = [] → u δ R →
  (∀ d δ' v σ' G' H' S hs, R d δ' → EnvOk K { c with hid := hs ++ c.hid } G' H' σ' δ' → Ex G G' → Tr K G' H' v d S → S.Nodup → HidBy hs c.hid S → D.rt v H') → t D σ H
structure DST (X : Cx) (st : List Stmt) (t : TS) (u : DTF) : Prop where
  ps : PSs X st t
  rs : RST X.K t u
def dSeqT (u : DTS) (r : DTF) : DTF := fun δ R => u { nx := fun δ' => r δ' R, rt := fun d δ' => R (.t d) δ' } δ
variable {t : TE} {u : DTF} {ts ts' : TS} {us : DTS}
theorem rst_ret (h : RF K t u) : RST K (tRet t) u := fun c σ G H δ D R E h0 hu k => h c σ G H δ _ R E hu fun d δ' v G' H' S hs hR E' e T n b => k d δ' v σ G' H' S hs hR E' e T n b
theorem rst_cons (h1 : RS K ts us) (h2 : RST K ts' u) : RST K (tSeq ts ts') (dSeqT us u) := by
  intro c σ G H δ D R E h0 hu k
  refine h1 c σ G H δ { D with nx := ts' D } _ E hu ⟨?_, ?_, ?_, ?_, ?_, h0⟩
  · exact fun σ' G' H' δ' a b e => h2 c σ' G' H' δ' D R b h0 a fun d δ2 v σ2 G2 H2 S hs hR E2 e2 T n bb => k d δ2 v σ2 G2 H2 S hs hR E2 (e.trans e2) T n bb
  · exact fun d δ' v σ' G' H' a b e r => k (.t d) δ' v σ' G' H' [] [] a b e (.told r) List.nodup_nil fun a ha => (List.not_mem_nil ha).elim
  · exact fun σ' G' H' δ' a _ _ => False.elim a
  · exact fun σ' G' H' δ' a _ _ => False.elim a
  · exact fun ds δ' p xs σ' G' H' a _ _ _ _ => False.elim a
end
section
variable [XW] {X : Cx} {e : Expr} {es : List Expr} {st : Stmt} {rest : List Stmt} {t : TE} {u : DTF} {ts ts' : TS} {us : DTS} {ta : TA} {ua : DTFA} {pos p : Pos} {kk : Nat}
theorem df_told {u : DTE} (h : DE X e t u) : DF X e t (fTold u) := ⟨h.pe, rf_told h.re⟩
theorem dfa_nil : DFA X [] tNil fNil := ⟨pa_nil, rfa_nil⟩
theorem dfa_cons (h : DF X e t u) (hr : DFA X es ta ua) (hs : starEach (e :: es) X.env = (false, eval e X.env) :: starEach es X.env := by rfl) : DFA X (e :: es) (tCons t ta) (fCons u ua) := ⟨pa_cons h.pe hr.pa hs, rfa_cons h.rf hr.rf⟩
theorem df_tup (h : DFA X es ta ua) : DF X (.Tuple es kk pos) (tTup ta) (fTup ua) := ⟨pe_tup h.pa, rf_tup h.rf⟩
theorem df_lst (h : DFA X es ta ua) : DF X (.List es pos) (tLst ta) (fLst ua) := ⟨pe_lst h.pa, rf_lst h.rf⟩
theorem df_own (i : Nat) {x : Str} (hN : X.N[i]? = some x := by rfl) (hv : Vis X.env.scope x := by first | exact Or.inl rfl | exact Or.inr (Or.inl rfl) | exact Or.inr (Or.inr rfl)) (hd : (x == ("__debug__" : Str)) = false := by decide)
    (hcd : (x == ("__classdict__" : Str)) = false := by decide) : DF X (.Name x p) (tVar i) (fGive i) := ⟨pe_var hN hv hd hcd, rf_own⟩
theorem dst_ret (h : DF X e t u) : DST X [.Return (some e) pos] (tRet t) u := ⟨pss_one (ps_ret h.pe), rst_ret h.rf⟩
theorem dst_cons (h1 : DS X st ts us) (h2 : DST X rest ts' u) : DST X (st :: rest) (tSeq ts ts') (dSeqT us u) := ⟨pss_cons h1.ps h2.ps, rst_cons h1.rs h2.rs⟩
theorem DST.nox {xw : XW} {X : Cx} {st : List Stmt} {t : TS} {u : DTF} (h : @DST xw X st t u) : PSs X st t := h.ps
end
section
variable {P : Program} {w : World} {K : PySem.W.Frag} {mg : Str → Option Value} {base : Heap}
theorem fnT {x qual : Str} {st : Stmt} {f : Addr} {fd : FuncData} {N ps : List Str} {k : Nat} {S : DSt} (F : Fun K x qual st f fd) (sc : FnScope N ps (defScope st)) (len : ∀ as R, S as R → as.length = ps.length)
    (hbody : ∀ (cdv : Value) (A : Around) (outer : List Env) (s : Shared) (H : Hp) (E : XK), RoomG k (A.deeper (PyProof.Rows.envOfC qual (defScope st) s.heap.objs.size f cdv)) →
      ∃ t u, DST (cxOf CX0 P w K mg base N qual (defScope st) f cdv A outer s H E).nox (defBody st) t u ∧ ∀ as R, S as R → u (as ++ List.replicate (N.length - ps.length) .no) fun d δ => ∃ outs, R d outs ∧ OutsIn δ outs) : FnOkG P w K mg base CX0 (k + 1) f fd ps (spT K S) := by
  refine fun_okG F sc (fun vs H Q E h => ?_) (fun cdv A outer s H vs Q E hr h => ?_)
  · obtain ⟨c, as, R, _, _, EV, hS, _⟩ := h
    have := EV.len
    rw [List.length_map] at this
    rw [this]
    exact len as R hS
  · obtain ⟨c, as, R, hh, h0, EV, hS, k⟩ := h
    obtain ⟨t, u, D, red⟩ := hbody cdv A outer s H E hr
    refine ⟨t, D.ps.nox, ?_⟩
    have l1 : vs.length = ps.length := by
      have := EV.len
      rw [List.length_map] at this
      rw [this]
      exact len as R hS
    have EV' : EnvOk K c c.G0 H (L2.start N vs) (as ++ List.replicate (N.length - ps.length) .no) := by
      have z := (EV.more (N.length - ps.length)).ok
      unfold L2.start
      rw [l1]
      exact z
    refine D.rs c (L2.start N vs) c.G0 H _ _ _ EV' hh (red as R hS) ?_
    rintro d δ' v σ' G' H' T hs ⟨outs, hR, ho⟩ E' e r n b
    refine k d outs v G' H' T hR ⟨E'.g0, E'.ex, E'.fr, E'.fs, E'.tg, fun j cs hj => ?_⟩ r n fun a ha => ?_
    · obtain ⟨i, hi⟩ := ho j cs hj
      obtain ⟨p', ys, _, _, hh', r', q⟩ := E'.sl i _ hi
      exact ⟨ys, by rw [← q.2]; exact hh', r'⟩
    · obtain ⟨⟨o, hm⟩, _⟩ := b a ha
      obtain ⟨_, q2, q3, _, _⟩ := E'.hd a o (List.mem_append_left _ hm)
      exact ⟨by rw [← h0]; exact q3, q2⟩
structure KnT (P : Program) (w : World) (K : PySem.W.Frag) (mg : Str → Option Value) (base : Heap) (k : Nat) (x : Str) (S : DSt) : Prop where
  ex : ∃ (f : Addr) (fd : FuncData) (ps : List Str), FnOkG P w K mg base CX0 k f fd ps (spT K S) ∧ mg x = some (.ref f) ∧ PySem.W.keepIn K (.ref f) = true ∧ Binds K fd ps []
/-- the same, told -/
def asD (S : DSt) : DSp := fun as R => S as fun t outs => R t.d outs
theorem spT_of {S : DSt} {vs : List V} {H : Hp} {Q : VK} {E : XK} (h : spD K (asD S) vs H Q E) : spT K S vs H Q E := by
  obtain ⟨c, as, R, hh, h0, EV, hS, k⟩ := h
  refine ⟨c, as, fun t outs => R t.d outs, hh, h0, EV, hS, fun d outs v G' H' T hR F r n fr => ?_⟩
  obtain ⟨G2, hG⟩ : ∃ G2 : Hp, ∀ a, G2 a = if a ∈ T then H' a else G' a := ⟨fun a => if a ∈ T then H' a else G' a, fun _ => rfl⟩
  have e1 : Ex G' G2 := fun a o h => by
    rw [hG, if_neg fun ha => by rw [(fr a ha).2] at h; cases h]
    exact h
  have out : ∀ a, H a ≠ none → G' a = none → G2 a = none := fun a h1 h2 => by
    rw [hG, if_neg fun ha => h1 (fr a ha).1]
    exact h2
  refine k d.d outs v G2 H' hR ⟨F.g0.trans e1, fun a o h => ?_, F.fr, fun a h1 h2 => out a (by rw [← h0]; exact h2) (F.fs a h1 h2), fun j hj => ⟨(F.tg j hj).1, out _ (EV.tg j hj).1 (F.tg j hj).2⟩, fun j cs hj => ?_⟩ (r.tell e1 fun a ha => by rw [hG, if_pos ha])
  · rw [hG] at h
    split at h
    · exact h
    · exact F.ex a o h
  · obtain ⟨xs, q1, q2⟩ := F.out j cs hj
    exact ⟨xs, q1, q2.up e1⟩
theorem KnT.toD {k : Nat} {x : Str} {S : DSt} (kn : KnT P w K mg base k x S) : Kn P w K mg base k x (asD S) := by
  obtain ⟨f, fd, ps, F, hm, kp, b⟩ := kn.ex
  exact ⟨f, fd, ps, F.imp fun _ _ _ _ h => spT_of h, hm, kp, b⟩
end
section
variable [XW] {K : PySem.W.Frag}
/-- a call whose value is a tree -/
def fCall (S : DSt) (ua : DCA) : DTF := fun δ R => ua δ fun cs δ1 => (muts δ1 cs).Nodup ∧ S (asOf δ1 cs 0) fun d outs => outs.length = (muts δ1 cs).length ∧ R d (setOuts δ1 (muts δ1 cs) outs)
theorem rf_callT {S : DSt} {t : TA} {ua : DCA} (ha : RCA K t ua) : RF K (tCall (spT K S) [] E0 t) (fCall S ua) := by
  intro c σ G H δ Q R E h k
  refine ha c σ G H δ _ _ E h fun cs δ1 vs G1 H1 h1 E1 e1 r1 => ?_
  obtain ⟨hn, hS⟩ := h1
  show spT K S (vs ++ []) H1 Q E0
  rw [List.append_nil]
  refine ⟨calleeC σ (muts δ1 cs) G1 H1, asOf δ1 cs 0, _, rfl, rfl, callee_env E1 r1 hn, hS, fun d outs v G' H' T hR F r n fr => ?_⟩
  have EB := caller_back E1 hn hR.1 F
  have inS : ∀ q o, (q, o) ∈ T.filterMap (fun a => (H' a).map fun o => (a, o)) → q ∈ T ∧ H' q = some o := fun q o h => by
    obtain ⟨a, ha, e⟩ := List.mem_filterMap.mp h
    cases hq : H' a with
    | none => rw [hq] at e; cases e
    | some o' =>
      rw [hq] at e
      cases e
      exact ⟨ha, hq⟩
  have old : ∀ q, H1 q = none → ∀ (j : Nat) (t : Option Nat) (es : List PyData), (setOuts δ1 (muts δ1 cs) outs)[j]? = some (Sl.own t es) → σ[j]? ≠ some (some (V.ref q)) := fun q hq j t es hs z => by
    have so := setOuts_get (M := muts δ1 cs) (δ := δ1) (outs := outs) (k := j) hn hR.1 fun i hi => muts_own hi
    have hd : ∃ t' ds', δ1[j]? = some (Sl.own t' ds') := by
      by_cases hj : j ∈ muts δ1 cs
      · exact muts_own hj
      · rw [so.2.1 hj] at hs
        exact ⟨_, _, hs⟩
    obtain ⟨t', ds', hd⟩ := hd
    obtain ⟨p, ys, e, _, q1, _⟩ := E1.sl j _ hd
    rw [z] at e
    rw [← V.ref.inj (Option.some.inj (Option.some.inj e)), hq] at q1
    cases q1
  have EH : EnvOk K { c with hid := T.filterMap (fun a => (H' a).map fun o => (a, o)) ++ c.hid } G' H' σ (setOuts δ1 (muts δ1 cs) outs) := {
    xw := EB.xw, g0 := EB.g0, ex := EB.ex, fr := EB.fr, fs := EB.fs, tg := EB.tg, len := EB.len
    sl := fun i s h => by
      have z := EB.sl i s h
      cases s with
      | no => trivial
      | box b => trivial
      | dat d => exact z
      | scr d => exact z
      | own t d => exact z
    ap := EB.ap
    hd := fun q o hm => by
      rcases List.mem_append.mp hm with hm | hm
      · obtain ⟨hq, e⟩ := inS q o hm
        obtain ⟨f1, f2⟩ := fr q hq
        exact ⟨e, f2, E1.new0 f1, fun j hj z => (E1.tg j hj).1 (by rw [← z]; exact f1), old q f1⟩
      · exact EB.hd q o hm
    bx := caller_box E1 hn hR.1 F rfl rfl rfl fun a ha h o hm => by
      rcases List.mem_append.mp hm with hm | hm
      · exact ha (fr a (inS a o hm).1).1
      · exact h o hm }
  refine k d _ v G' H' T _ hR.2 EH (e1.trans F.g0) r n fun a ha => ⟨?_, fun o hm => ?_⟩
  · cases hq : H' a with
    | none => exact absurd hq (r.live a ha)
    | some o => exact ⟨o, List.mem_filterMap.mpr ⟨a, ha, by rw [hq]; rfl⟩⟩
  · have q := (E1.hd a o hm).1
    rw [(fr a ha).1] at q
    cases q
end
end TL

set_option Elab.async false
set_option linter.all false
set_option maxRecDepth 100000
set_option maxHeartbeats 600000
/-! TBy: sorted({..}) of ints. -/
namespace TL
open PySem PySem.Spec PyProof.Rows L2
def rAddIx (w : World) : AddW := fun D y H N => ∃ k S n, y = .int k ∧ H D = some (SetO w D S n) ∧ n + 1 < scanBound ∧ N (upd H D (SetO w D (fun j => S j || decide (j = k)) (if S k = true then n else n + 1)))
theorem addR_int {P : Program} {w : World} : AddR P w (rAddIx w) := by
  intro X hp hw pins σ H s D y u N Q E I ry h k
  subst hp hw
  obtain ⟨z, S, n, rfl, hD, hl, hn⟩ := h
  obtain ⟨t, rfl⟩ := ry
  refine setR_add (setO_get I hD) hl fun h' sb new => ?_
  have there : ∃ v, h'.get? D = some v := by
    have ⟨o, _, _, _, ho, _⟩ := new
    exact ⟨o, ho⟩
  exact k _ _ _ (I.write (e := D) (t' := s.toks + 1) (by rw [hD]; trivial) (.inl rfl) (fun b v hb hv => (sb.2 b hb).trans hv) there (setO_new new)) hn
theorem fresh_int {P : Program} {w : World} : FreshR P w fun a => SetO w a (fun _ => false) 0 := fun H h a e => by
  have z := setR_new_at (ns := []) (w := w) e
  have f : (fun j : Int => decide (j ∈ ([] : List Int).take 0)) = fun _ => false := by
    funext j
    simp
  rw [f] at z
  exact setO_new z
/-- the turns of a set comprehension of ints -/
def scWI (vs : List Nat) (g : DTG) (t : DTT) (u : DTE) (R : List Int → List Sl → Prop) : List PyData → List Int → List Sl → Prop
  | [], acc, δ => R acc δ
  | d :: r, acc, δ => g d (wipeS δ vs) fun δ1 => t δ1 fun b δ2 => if b = true then u δ2 fun y δ3 => (match y with
    | .int z => acc.length < 60 ∧ scWI vs g t u R r (acc ++ [z]) (wipeS δ3 vs)
    | _ => False) else scWI vs g t u R r acc (wipeS δ2 vs)
/-- sorted({..}), of ints -/
def dSortScI (w : DTI) (g : DTG) (t : DTT) (u : DTE) (vs : List Nat) : DTE := fun δ R => w δ fun ds δ1 => scWI vs g t u (fun acc δ' => ∀ ms : List Int, ms.Pairwise (· < ·) → (∀ z, z ∈ ms ↔ z ∈ acc) → R (.list (ms.map PyData.int)) δ') ds [] δ1
section
variable [XW] {K : PySem.W.Frag} {wi : L2.TI} {uw : DTI} {g : TG} {ug : DTG} {js vs : List Nat} {tt : TT} {ut : DTT} {te : TE} {ue : DTE}
theorem re_sortScI {w : World} (hw : RI K wi uw) (hg : RG K g ug js) (ht : RT K tt ut) (he : RE K te ue) (hj : ∀ j ∈ js, j ∈ vs) : RE K (tCB (rSortedSet w) (tCons (tScG (rAddIx w) (fun a => SetO w a (fun _ => false) 0) wi g tt te vs) tNil)) (dSortScI uw ug ut ue vs) := by
  intro c σ G H δ Q R E h k
  refine hw c σ G H δ _ _ E h fun ds δ1 J G1 H1 h1 E1 e1 Y => ?_
  intro D hD
  have hn := hid_new E1 hD
  refine ⟨fun i m H => ∃ G δ acc S n, EnvOk K { c with hid := (D, SetO w D S n) :: c.hid } G H σ δ ∧ Ex G1 G ∧ (∀ z, S z = true ↔ z ∈ acc) ∧ n ≤ acc.length ∧ acc.length ≤ 60 ∧ i ≤ ds.length ∧ m = ds.length - i ∧
    scWI vs ug ut ue (fun acc δ' => ∀ ms : List Int, ms.Pairwise (· < ·) → (∀ z, z ∈ ms ↔ z ∈ acc) → R (.list (ms.map PyData.int)) δ') (ds.drop i) acc δ,
    ⟨ds.length, G1, δ1, [], _, 0, E1.hide (ob := SetO w D (fun _ => false) 0) hD (E1.new0 hD), Ex.refl _, fun z => ⟨fun q => (nomatch q), fun q => (nomatch q)⟩, Nat.le_refl _, Nat.zero_le _, Nat.zero_le _, rfl, h1⟩, ?_⟩
  rintro i m H2 ⟨G2, δ2, acc, S, n, E2, e2, hm, hll, h60, hi, rfl, h2⟩
  by_cases hlt : i < ds.length
  · have hd : ds[i]? = some ds[i] := List.getElem?_eq_getElem hlt
    rw [List.drop_eq_getElem_cons hlt] at h2
    obtain ⟨hgo, hy⟩ := Y.go G2 H2 i _ e2 E2.ex hd
    refine .inr ⟨hgo, fun H' => ∃ G δ acc S n, EnvOk K { c with hid := (D, SetO w D S n) :: c.hid } G H' σ δ ∧ Ex G1 G ∧ (∀ z, S z = true ↔ z ∈ acc) ∧ n ≤ acc.length ∧ acc.length ≤ 60 ∧
      scWI vs ug ut ue (fun acc δ' => ∀ ms : List Int, ms.Pairwise (· < ·) → (∀ z, z ∈ ms ↔ z ∈ acc) → R (.list (ms.map PyData.int)) δ') (ds.drop (i + 1)) acc δ,
      fun H' ⟨G', δ', acc', S', n', a1, a2, a3, a4, a5, a6⟩ => ⟨ds.length - (i + 1), by omega, G', δ', acc', S', n', a1, a2, a3, a4, a5, hlt, rfl, a6⟩, fun x H3 hx => ?_⟩
    obtain ⟨G3, A, rx⟩ := hy x H3 hx
    have E3 := (E2.al A).wipe vs
    refine hg _ (wipe σ vs) G3 H3 _ x _ _ _ E3 rx h2 fun σ4 δ4 h4 E4 l4 s4 => ?_
    rw [wipe_length] at l4
    have o4 : ∀ i, i ∉ vs → σ4[i]? = σ[i]? := fun i hi => by
      rw [s4 i fun z => hi (hj i z), wipe_get, if_neg fun z => hi z.1]
    refine ⟨wipe_eq l4 o4, ?_⟩
    have back : ∀ {cc : Cf} {G H : Hp} {δ : List Sl}, EnvOk K cc G H σ4 δ → EnvOk K cc G H σ (wipeS δ vs) := fun {cc G H δ} E => by
      have z := E.wipe vs
      rw [wipe_eq l4 o4] at z
      refine z.other (by rw [wipe_length]) fun i hi => ?_
      rw [wipe_get, if_neg fun z => hi z.1]
    refine ht _ σ4 G3 H3 δ4 _ _ E4 h4 fun b δ5 G5 H5 h5 E5 e5 => ?_
    have e15 : Ex G1 G5 := (e2.trans A.g).trans e5
    cases b with
    | false => exact ⟨G5, wipeS δ5 vs, acc, S, n, back E5, e15, hm, hll, h60, h5⟩
    | true =>
      refine he _ σ4 G5 H5 δ5 _ _ E5 h5 fun y δ6 v G6 H6 h6 E6 e6 r6 => ?_
      cases y <;> first
        | exact False.elim h6
        | skip
      rename_i z
      obtain ⟨q1, q2⟩ := E6.hd D _ List.mem_cons_self
      have h6 : acc.length < 60 ∧ scWI vs ug ut ue _ (ds.drop (i + 1)) (acc ++ [z]) (wipeS δ6 vs) := h6
      refine ⟨z, S, n, r6.int_of, q1, by unfold scanBound; omega, G6, wipeS δ6 vs, acc ++ [z], _, _, (back E6).grow hn, e15.trans e6, fun y => ?_, ?_, by rw [List.length_append, List.length_singleton]; omega, h6.2⟩
      · rw [List.mem_append, List.mem_singleton, Bool.or_eq_true, hm y, decide_eq_true_iff]
      · rw [List.length_append, List.length_singleton]
        split <;> omega
  · have ei : i = ds.length := by omega
    subst ei
    rw [List.drop_length] at h2
    obtain ⟨q1, q2⟩ := E2.hd D _ List.mem_cons_self
    refine .inl ⟨Y.stop G2 H2 e2 E2.ex, D, S, n, rfl, q1, by omega, fun ys p py sy hl hp => ?_⟩
    have A2 := Al.new (o := .lst (ys.map V.int)) E2.ex hp
    refine k _ δ2 _ _ _ (h2 ys py fun z => (sy z).trans (hm z)) (E2.unhide.al A2) ((e1.trans e2).trans A2.g) (.lst upd_same (ints_rp ys))
end
section
variable [XW] {X : Cx} {te : TE} {ue : DTE} {pos p p2 : Pos}
theorem de_sortScI {elt tg iter : Expr} {ifs : List Expr} {scope : Scope} (own : List (Str × Nat)) {w : L2.TI} {uw : DTI} {g : TG} {ug : DTG} {js : List Nat} {tt : TT} {ut : DTT} (hm : X.mg "sorted" = none) (hc : X.calm = true) (hN : X.N.Nodup) (hi : DI X tg iter w uw) (ok : BlkOk X.N X.env.scope scope own)
    (hg : ∀ (s : Shared) (H : Hp) (C : Addr) (cl : List (Str × Addr)) (fp : List Addr), DG (X.blk s H scope (compEnvC scope cl C X.env) fp) tg g ug js) (ht : ∀ (s : Shared) (H : Hp) (C : Addr) (cl : List (Str × Addr)) (fp : List Addr), DTs (X.blk s H scope (compEnvC scope cl C X.env) fp) ifs tt ut)
    (he : ∀ (s : Shared) (H : Hp) (C : Addr) (cl : List (Str × Addr)) (fp : List Addr), DE (X.blk s H scope (compEnvC scope cl C X.env) fp) elt te ue) (hj : ∀ j ∈ js, j ∈ own.map (·.2)) (hs : ∀ x, foldedSetIterable iter X.env x = pure x := by intro _; rfl)
    (hgl : Gl X "sorted" := by rfl) (hv : bootBuiltins "sorted" = some (.builtin "sorted") := by decide +kernel)
    (hs2 : starEach [.SetComp elt [⟨tg, iter, ifs, 0⟩] scope p2] X.env = (false, eval (.SetComp elt [⟨tg, iter, ifs, 0⟩] scope p2) X.env) :: starEach [] X.env := by rfl) (hpl2 : (backTo pos (starEach [] X.env)).any (·.1) = false := by rfl) :
    DE X (.Call (.Name "sorted" p) [.SetComp elt [⟨tg, iter, ifs, 0⟩] scope p2] [] pos) (tCB (rSortedSet X.w) (tCons (tScG (rAddIx X.w) (fun a => SetO X.w a (fun _ => false) 0) w g tt te (own.map (·.2))) tNil)) (dSortScI uw ug ut ue (own.map (·.2))) :=
  ⟨pe_callB (cr_sortedSet hc) hgl hm hv (pa_cons (pe_scG addR_int fresh_int hc hN hi.pi ok (fun a b c d e => (hg a b c d e).pg) (fun a b c d e => (ht a b c d e).pt) (fun a b c d e => (he a b c d e).pe) hs) pa_nil hs2) (by decide) (by decide) hs2 hpl2,
   re_sortScI hi.ri (hg X.s_0 X.H_0 0 [] []).rg (ht X.s_0 X.H_0 0 [] []).rt (he X.s_0 X.H_0 0 [] []).re hj⟩
end
end TL

set_option Elab.async false
set_option linter.all false
set_option maxRecDepth 100000
set_option maxHeartbeats 600000
/-! TBx: all of one's own is lent to what changes nothing; loops over a tree's parts; append, reverse of a part. -/
namespace TL
open PySem PySem.Spec PyProof.Rows L2
/-- a slot, and what it is lent as -/
inductive LdS : Sl → Sl → Prop
  | no {s : Sl} : LdS s .no
  | dat {d : PyData} : LdS (.dat d) (.dat d)
  | scr {ds : List PyData} : LdS (.scr ds) (.scr ds)
  | own {t : Option Nat} {ds : List PyData} : LdS (.own t ds) (.dat (.list ds))
  | tr {o : Option V} {t : TD} : LdS (.box (boxTr o t)) (.dat t.d)
inductive Lds : List Sl → List Sl → Prop
  | nil : Lds [] []
  | cons {s s' : Sl} {δ δ' : List Sl} : LdS s s' → Lds δ δ' → Lds (s :: δ) (s' :: δ')
theorem Lds.len : ∀ {δ δ' : List Sl}, Lds δ δ' → δ'.length = δ.length
  | _, _, .nil => rfl
  | _, _, .cons _ r => by rw [List.length_cons, List.length_cons, Lds.len r]
theorem Lds.get : ∀ {δ δ' : List Sl} {i : Nat} {s' : Sl}, Lds δ δ' → δ'[i]? = some s' → ∃ s, δ[i]? = some s ∧ LdS s s'
  | _, _, _, _, .nil, h => by simp at h
  | _, _, 0, _, .cons a _, h => by
    simp at h
    subst h
    exact ⟨_, rfl, a⟩
  | _, _, i + 1, s', .cons _ r, h => by
    obtain ⟨s, h1, h2⟩ := Lds.get (i := i) (s' := s') r (by simpa using h)
    exact ⟨s, by simpa using h1, h2⟩
section
variable [XW] {K : PySem.W.Frag} {c : Cf} {G H : Hp} {σ : L2.St} {δ δ1 : List Sl}
theorem EnvOk.lend (E : EnvOk K c G H σ δ) (l : Lds δ δ1) : EnvC K ⟨c.τ, 0, H, H, []⟩ H H σ δ1 := by
  have noown : ∀ {i : Nat} {t : Option Nat} {ds : List PyData}, δ1[i]? ≠ some (.own t ds) := fun {i t ds} h => by
    obtain ⟨s, _, h2⟩ := l.get h
    cases h2
  have nobox : ∀ {i : Nat} {b : Box}, δ1[i]? ≠ some (.box b) := fun {i b} h => by
    obtain ⟨s, _, h2⟩ := l.get h
    cases h2
  exact {
    g0 := Ex.refl _
    ex := Ex.refl _
    fr := fun a o h _ => h
    fs := fun a h1 h2 => absurd h1 h2
    tg := fun j hj => absurd hj (Nat.not_lt_zero _)
    len := by rw [E.len, l.len]
    sl := fun i s h => by
      obtain ⟨s0, h1, h2⟩ := l.get h
      cases h2 with
      | no => trivial
      | dat =>
        obtain ⟨x, e, r⟩ := E.sl i _ h1
        exact ⟨x, e, r.up E.ex⟩
      | scr =>
        obtain ⟨a, xs, e, q, r⟩ := E.sl i _ h1
        exact ⟨a, xs, e, ex_l E.ex q, r.up E.ex⟩
      | own =>
        obtain ⟨p, xs, e, g, hh, r, q⟩ := E.sl i _ h1
        exact ⟨_, e, .lst hh (r.up E.ex)⟩
      | tr =>
        obtain ⟨F, hF⟩ := E.bx
        obtain ⟨⟨x, hx, hb⟩, _⟩ := hF i _ h1
        exact ⟨x, hx, hb.2.1.tell E.ex fun _ _ => rfl⟩
    ap := fun i j t1 d1 t2 d2 hij h1 h2 => absurd h1 noown
    hd := fun p o h => nomatch h
    bx := BoxOk.none fun i b => nobox }
theorem EnvOk.bigger {H' : Hp} (E : EnvOk K c G H σ δ) (e : Ex H H') : EnvOk K c G H' σ δ := E.al ⟨Ex.refl _, e, E.ex.trans e, fun _ h _ => h⟩
theorem lend_ex {xw : XW} {c : Cf} {G' H' : Hp} {δ' : List Sl} (E' : @EnvOk xw K ⟨c.τ, 0, H, H, []⟩ G' H' σ δ') : Ex H H' := fun a o h => E'.fr a o h fun j hj => absurd hj (Nat.not_lt_zero _)
def dLd (u : DTE) : DTE := fun δ R => ∃ δ1, Lds δ δ1 ∧ u δ1 fun d _ => plainB d = true ∧ R d δ
def dLdT (u : DTT) : DTT := fun δ R => ∃ δ1, Lds δ δ1 ∧ u δ1 fun b _ => R b δ
/-- name = [..], of plain things, told of what is lent -/
def dLdLc (i : Nat) (u : DTF) : DTS := fun E δ => ∃ δ1, Lds δ δ1 ∧ u δ1 fun t _ => ∃ acc, t = .l acc ∧ acc.all plainB = true ∧ E.nx (δ.set i (.own none acc))
end
section
variable {xw : XW} {K : PySem.W.Frag} {t : TE} {u : DTE} {tt : TT} {ut : DTT} {uf : DTF}
theorem re_ld (h : @RE XW0 K t u) : @RE xw K t (dLd u) := by
  intro c σ G H δ Q R E hu k
  obtain ⟨δ1, l, hu⟩ := hu
  refine h ⟨c.τ, 0, H, H, []⟩ σ H H δ1 _ _ (E.lend l).ok hu fun d δ' v G' H' hR E' e rv => ?_
  exact k d δ v G H' hR.2 (E.bigger (lend_ex E')) (Ex.refl _) (plain_rp hR.1 rv)
theorem rt_ld (h : @RT XW0 K tt ut) : @RT xw K tt (dLdT ut) := by
  intro c σ G H δ Q R E hu k
  obtain ⟨δ1, l, hu⟩ := hu
  refine h ⟨c.τ, 0, H, H, []⟩ σ H H δ1 _ _ (E.lend l).ok hu fun b δ' G' H' hR E' e => ?_
  exact k b δ G H' hR (E.bigger (lend_ex E')) (Ex.refl _)
theorem rs_ldLc {i : Nat} (h : @RF XW0 K t uf) : @RS xw K (tAsg t (gName i)) (dLdLc i uf) := by
  intro c σ G H δ D E EV hu k
  obtain ⟨δ1, l, hu⟩ := hu
  refine h ⟨c.τ, 0, H, H, []⟩ σ H H δ1 _ _ (EV.lend l).ok hu fun d δ' v G' H' S hs hR E' e T n b => ?_
  obtain ⟨acc, rfl, pl, hR⟩ := hR
  cases T with
  | l hp rr =>
    rename_i p xs
    obtain ⟨⟨o, ho⟩, _⟩ := b p (List.mem_singleton_self _)
    obtain ⟨_, q2, q3, _, _⟩ := E'.hd p o (List.mem_append_left _ ho)
    have q3 : H p = none := q3
    have rr' : RpAll K G xs acc := plain_all pl rr
    have eh : Ex H H' := fun a o h => E'.fr a o h fun j hj => absurd hj (Nat.not_lt_zero _)
    have ef : Ex (upd H p (.lst xs)) H' := fun a o h => by
      by_cases ha : a = p
      · subst ha
        rw [upd_same] at h
        rw [hp]
        exact h
      · rw [upd_ne ha] at h
        exact eh a o h
    have E2 := EV.fresh (i := i) q3 (EV.new0 q3) rr'
    exact k.nx _ G H' _ hR (E2.bigger ef) (Ex.refl _)
end
section
variable {xw : XW} {X : Cx} {e : Expr} {te : TE} {ue : DTE} {tt : TT} {ut : DTT} {uf : DTF} {p2 pos : Pos}
theorem de_ld (h : @DE XW0 X e te ue) : @DE xw X e te (dLd ue) := ⟨@DE.pe XW0 _ _ _ _ h, re_ld (@DE.re XW0 _ _ _ _ h)⟩
theorem dt_ld (h : @DT XW0 X e tt ut) : @DT xw X e tt (dLdT ut) := ⟨@DT.pt XW0 _ _ _ _ h, rt_ld (@DT.rt XW0 _ _ _ _ h)⟩
theorem dw_ld (h : @DW XW0 X e tt ut) : @DW xw X e tt (dLdT ut) := ⟨@DW.pw XW0 _ _ _ _ h, rt_ld (@DW.rt XW0 _ _ _ _ h)⟩
end
/-! ### a tree opened -/
def hsOf (H : Hp) (S : List Addr) : List (Addr × HO) := S.filterMap fun a => (H a).map fun o => (a, o)
theorem in_hs {H : Hp} {S : List Addr} {q : Addr} {o : HO} : (q, o) ∈ hsOf H S ↔ q ∈ S ∧ H q = some o := by
  unfold hsOf
  rw [List.mem_filterMap]
  constructor
  · rintro ⟨a, ha, e⟩
    cases hq : H a with
    | none => rw [hq] at e; cases e
    | some o' =>
      rw [hq] at e
      cases e
      exact ⟨ha, hq⟩
  · rintro ⟨ha, hq⟩
    exact ⟨q, ha, by rw [hq]; rfl⟩
section
variable [XW] {K : PySem.W.Frag} {c : Cf} {G H : Hp} {σ : L2.St} {δ : List Sl}
theorem EnvOk.hideBox (E : EnvOk K c G H σ δ) {i : Nat} {b : Box} (hs : δ[i]? = some (.box b)) : ∃ (x : V) (S : List Addr), σ[i]? = some (some x) ∧ b.at_ K G H x S ∧
    EnvOk K { c with hid := hsOf H S ++ c.hid } G H σ (δ.set i .no) ∧ HidBy (hsOf H S) c.hid S := by
  obtain ⟨F, hF⟩ := E.bx
  obtain ⟨⟨x, hx, hb⟩, hfree, hdis⟩ := hF i b hs
  refine ⟨x, F i, hx, hb, ?_, fun a ha => ⟨?_, (hfree a ha).hd⟩⟩
  · exact {
      xw := E.xw, g0 := E.g0, ex := E.ex, fr := E.fr, fs := E.fs, tg := E.tg
      len := by rw [List.length_set]; exact E.len
      sl := fun k s h => by
        by_cases hk : i = k
        · subst hk
          rw [List.getElem?_set_self (List.getElem?_eq_some_iff.mp hs).1] at h
          cases h
          trivial
        · rw [List.getElem?_set_ne hk] at h
          have z := E.sl k s h
          cases s with
          | no => trivial
          | box b => trivial
          | dat d => exact z
          | scr d => exact z
          | own t d => exact z
      ap := fun a b t1 d1 t2 d2 hab h1 h2 => E.ap a b _ _ _ _ hab (set_own (fun _ _ z => by cases z) h1).2 (set_own (fun _ _ z => by cases z) h2).2
      hd := fun q o hm => by
        rcases List.mem_append.mp hm with hm | hm
        · obtain ⟨hq, e⟩ := in_hs.mp hm
          exact ⟨e, (hfree q hq).g, (hfree q hq).h0, (hfree q hq).tg, fun j t ds h => (hfree q hq).ow j t ds (set_own (fun _ _ z => by cases z) h).2⟩
        · obtain ⟨a1, a2, a3, a4, a5⟩ := E.hd q o hm
          exact ⟨a1, a2, a3, a4, fun j t ds h => a5 j t ds (set_own (fun _ _ z => by cases z) h).2⟩
      bx := by
        refine ⟨F, fun j bj hj => ?_⟩
        obtain ⟨hij, hj⟩ := set_box (fun _ z => by cases z) hj
        obtain ⟨a1, a2, a3⟩ := hF j bj hj
        refine ⟨a1, fun a ha => ?_, fun j' b' hne hj' => a3 j' b' hne (set_box (fun _ z => by cases z) hj').2⟩
        have f := a2 a ha
        refine ⟨f.g, f.h0, f.tg, fun o hm => ?_, fun k t ds h => f.ow k t ds (set_own (fun _ _ z => by cases z) h).2⟩
        rcases List.mem_append.mp hm with hm | hm
        · exact a3 i b hij hs a ha (in_hs.mp hm).1
        · exact f.hd o hm }
  · cases q : H a with
    | none => exact absurd q (b.live hb a ha)
    | some o => exact ⟨o, in_hs.mpr ⟨ha, q⟩⟩
/-- another box of what is in it -/
theorem EnvOk.rebox (E : EnvOk K c G H σ δ) {i : Nat} {b b' : Box} (hs : δ[i]? = some (.box b)) (hb : ∀ x S, b.at_ K G H x S → b'.at_ K G H x S) : EnvOk K c G H σ (δ.set i (.box b')) := by
  obtain ⟨x, S, h1, h2, E1, h3⟩ := E.hideBox hs
  have z := E1.give_box h3 (hb x S h2) i
  rw [List.set_set, set_same h1] at z
  exact z
end
def rootO (isT : Bool) (xs : List V) : HO := if isT = true then .tup xs else .lst xs
def mkTD (isT : Bool) (ts : List TD) : TD := if isT = true then .tp ts else .ls ts
theorem Tr.root {K : PySem.W.Frag} {G H : Hp} {v : V} {isT : Bool} {ts : List TD} {S : List Addr} (h : Tr K G H v (mkTD isT ts) S) : ∃ p xs S', v = .ref p ∧ H p = some (rootO isT xs) ∧ TrAll K G H xs ts S' ∧ S = p :: S' := by
  cases isT with
  | true =>
    cases h with
    | tp a b => exact ⟨_, _, _, rfl, a, b, rfl⟩
  | false =>
    cases h with
    | ls a b => exact ⟨_, _, _, rfl, a, b, rfl⟩
theorem Tr.mk {K : PySem.W.Frag} {G H : Hp} {p : Addr} {isT : Bool} {xs : List V} {ts : List TD} {S' : List Addr} (a : H p = some (rootO isT xs)) (b : TrAll K G H xs ts S') : Tr K G H (.ref p) (mkTD isT ts) (p :: S') := by
  cases isT with
  | true => exact .tp a b
  | false => exact .ls a b
theorem rootO_ne {isT : Bool} {xs : List V} {H : Hp} {p : Addr} (h : H p = some (rootO isT xs)) : H p ≠ none := by
  rw [h]
  exact fun z => nomatch z
/-- a tree's root, its values named -/
def boxOpen (o : Option V) (isT : Bool) (p : Addr) (xs : List V) (ts : List TD) : Box where
  at_ := fun K G H v S => (∀ x, o = some x → v = x) ∧ v = .ref p ∧ H p = some (rootO isT xs) ∧ ∃ S', TrAll K G H xs ts S' ∧ S = p :: S' ∧ S.Nodup
  up := fun h e k => by
    obtain ⟨h0, h1, h2, S', h3, rfl, h5⟩ := h
    exact ⟨h0, h1, by rw [k _ List.mem_cons_self]; exact h2, S', h3.mono e fun a ha => k a (List.mem_cons_of_mem _ ha), rfl, h5⟩
  live := fun h a ha => by
    obtain ⟨h0, h1, h2, S', h3, rfl, h5⟩ := h
    rcases List.mem_cons.mp ha with e | ha
    · rw [e]
      exact rootO_ne h2
    · exact h3.live a ha
/-- .. of which the k-th part is elsewhere -/
def boxHole (o : Option V) (isT : Bool) (p : Addr) (xs : List V) (k : Nat) (ts us : List TD) : Box where
  at_ := fun K G H v S => (∀ x, o = some x → v = x) ∧ v = .ref p ∧ H p = some (rootO isT xs) ∧ ∃ S1 S2, TrAll K G H (xs.take k) ts S1 ∧ TrAll K G H (xs.drop (k + 1)) us S2 ∧ S = p :: (S1 ++ S2) ∧ S.Nodup
  up := fun h e k => by
    obtain ⟨h0, h1, h2, S1, S2, h3, h4, rfl, h5⟩ := h
    exact ⟨h0, h1, by rw [k _ List.mem_cons_self]; exact h2, S1, S2, h3.mono e fun a ha => k a (List.mem_cons_of_mem _ (List.mem_append_left _ ha)), h4.mono e fun a ha => k a (List.mem_cons_of_mem _ (List.mem_append_right _ ha)), rfl, h5⟩
  live := fun h a ha => by
    obtain ⟨h0, h1, h2, S1, S2, h3, h4, rfl, h5⟩ := h
    rcases List.mem_cons.mp ha with e | ha
    · rw [e]
      exact rootO_ne h2
    · exact (List.mem_append.mp ha).elim (h3.live a) (h4.live a)
section
variable [XW] {K : PySem.W.Frag} {c : Cf} {G H : Hp} {σ : L2.St} {δ : List Sl}
theorem set_at {α : Type} {l : List α} {i : Nat} {x : α} (h : i < l.length) : (l.set i x)[i]? = some x := List.getElem?_set_self h
/-- a part is taken out -/
theorem EnvOk.part {o : Option V} {isT : Bool} {p : Addr} {xs : List V} {ts us : List TD} {t : TD} {ix ip : Nat} (hne : ix ≠ ip) (hix : ix < δ.length) (E : EnvOk K c G H σ (δ.set ix (.box (boxOpen o isT p xs (ts ++ t :: us))))) :
    ∃ v, xs[ts.length]? = some v ∧ EnvOk K c G H (σ.set ip (some v)) ((δ.set ix (.box (boxHole o isT p xs ts.length ts us))).set ip (.box (boxTr (some v) t))) := by
  obtain ⟨x, S, h1, h2, E1, h3⟩ := E.hideBox (set_at hix)
  rw [List.set_set] at E1
  obtain ⟨h0, rfl, hp, S', hT, rfl, nd⟩ := h2
  obtain ⟨S1, S2', rfl, a, b⟩ := hT.cut ts.length
  rw [List.take_left' rfl] at a
  rw [List.drop_left' rfl] at b
  generalize hd : xs.drop ts.length = ys at b
  cases b with
  | cons hv hr =>
    rename_i v Sk rest S2
    have hlt : ts.length < xs.length := by
      have z := congrArg List.length hd
      rw [List.length_drop, List.length_cons] at z
      omega
    have e1 := hd
    rw [List.drop_eq_getElem_cons hlt] at e1
    obtain ⟨ev, er⟩ := List.cons.inj e1
    have gv : xs[ts.length]? = some v := by
      rw [List.getElem?_eq_getElem hlt, ev]
    have nd' : (p :: (S1 ++ S2)).Nodup ∧ Sk.Nodup ∧ ∀ y ∈ Sk, y ∉ p :: (S1 ++ S2) := by
      rw [List.nodup_cons] at nd
      obtain ⟨n0, n1⟩ := nd
      obtain ⟨n1, n2, n3⟩ := List.nodup_append.mp n1
      obtain ⟨n4, n5, n6⟩ := List.nodup_append.mp n2
      refine ⟨List.nodup_cons.mpr ⟨fun z => n0 ?_, List.nodup_append.mpr ⟨n1, n5, fun a ha b hb => n3 a ha b (List.mem_append_right _ hb)⟩⟩, n4, fun y hy z => ?_⟩
      · rcases List.mem_append.mp z with z | z
        · exact List.mem_append_left _ z
        · exact List.mem_append_right _ (List.mem_append_right _ z)
      · rcases List.mem_cons.mp z with z | z
        · exact n0 (by rw [← z]; exact List.mem_append_right _ (List.mem_append_left _ hy))
        · rcases List.mem_append.mp z with z | z
          · exact n3 y z y (List.mem_append_left _ hy) rfl
          · exact n6 y hy y z rfl
    refine ⟨v, gv, ?_⟩
    have sub : ∀ y, y ∈ Sk ∨ y ∈ p :: (S1 ++ S2) → y ∈ p :: (S1 ++ (Sk ++ S2)) := fun y hy => by
      rcases hy with hy | hy
      · exact List.mem_cons_of_mem _ (List.mem_append_right _ (List.mem_append_left _ hy))
      · rcases List.mem_cons.mp hy with z | z
        · rw [z]
          exact List.mem_cons_self
        · rcases List.mem_append.mp z with z | z
          · exact List.mem_cons_of_mem _ (List.mem_append_left _ z)
          · exact List.mem_cons_of_mem _ (List.mem_append_right _ (List.mem_append_right _ z))
    have E2 := E1.hid_to (hs := hsOf H Sk ++ (hsOf H (p :: (S1 ++ S2)) ++ c.hid)) fun y hy => by
      rcases List.mem_append.mp hy with hy | hy
      · obtain ⟨q1, q2⟩ := in_hs.mp hy
        exact List.mem_append_left _ (in_hs.mpr ⟨sub _ (.inl q1), q2⟩)
      · rcases List.mem_append.mp hy with hy | hy
        · obtain ⟨q1, q2⟩ := in_hs.mp hy
          exact List.mem_append_left _ (in_hs.mpr ⟨sub _ (.inr q1), q2⟩)
        · exact List.mem_append_right _ hy
    have live : ∀ y, y ∈ p :: (S1 ++ (Sk ++ S2)) → ∃ o, H y = some o := fun y hy => by
      obtain ⟨⟨o, ho⟩, _⟩ := h3 y hy
      exact ⟨o, (in_hs.mp ho).2⟩
    have E3 := EnvOk.give_box (c := { c with hid := hsOf H (p :: (S1 ++ S2)) ++ c.hid }) (hs := hsOf H Sk) E2 (S := Sk) (b := boxTr (some v) t) (x := v) (fun y hy => ⟨by
        obtain ⟨o, ho⟩ := live y (sub y (.inl hy))
        exact ⟨o, in_hs.mpr ⟨hy, ho⟩⟩, fun o z => by
        rcases List.mem_append.mp z with z | z
        · exact nd'.2.2 y hy (in_hs.mp z).1
        · exact (h3 y (sub y (.inl hy))).2 o z⟩) ⟨fun x e => Option.some.inj e, hv, nd'.2.1⟩ ip
    have E4 := E3.give_box (S := p :: (S1 ++ S2)) (b := boxHole o isT p xs ts.length ts us) (x := .ref p) (fun y hy => ⟨by
        obtain ⟨o, ho⟩ := live y (sub y (.inr hy))
        exact ⟨o, in_hs.mpr ⟨hy, ho⟩⟩, (h3 y (sub y (.inr hy))).2⟩) ⟨h0, rfl, hp, S1, S2, a, by rw [er]; exact hr, rfl, nd'.1⟩ ix
    rw [set_same (by rw [List.getElem?_set_ne (Ne.symm hne)]; exact h1), List.set_comm _ _ (Ne.symm hne), List.set_set] at E4
    exact E4
/-- .. and put back -/
theorem EnvOk.unpart {o : Option V} {isT : Bool} {p : Addr} {xs : List V} {ts us : List TD} {t' : TD} {v : V} {ix ip : Nat} (hne : ix ≠ ip) (hv : xs[ts.length]? = some v) (E : EnvOk K c G H σ δ) (h1 : δ[ix]? = some (.box (boxHole o isT p xs ts.length ts us))) (h2 : δ[ip]? = some (.box (boxTr (some v) t'))) :
    EnvOk K c G H σ ((δ.set ip .no).set ix (.box (boxOpen o isT p xs (ts ++ t' :: us)))) := by
  obtain ⟨x, S, g1, g2, E1, g3⟩ := E.hideBox h1
  obtain ⟨h0, rfl, hp, S1, S2, a, b, rfl, nd⟩ := g2
  obtain ⟨x', Sk, k1, k2, E2, k3⟩ := E1.hideBox (i := ip) (b := boxTr (some v) t') (by rw [List.getElem?_set_ne hne]; exact h2)
  obtain ⟨kv, kT, kn⟩ := k2
  have ev := kv v rfl
  subst ev
  have hlt : ts.length < xs.length := (List.getElem?_eq_some_iff.mp hv).1
  have ex : xs = xs.take ts.length ++ (x' :: xs.drop (ts.length + 1)) := by
    have e := (List.getElem?_eq_some_iff.mp hv).2
    rw [← e, ← List.drop_eq_getElem_cons hlt, List.take_append_drop]
  have dis : ∀ y ∈ Sk, y ∉ p :: (S1 ++ S2) := fun y hy z => by
    obtain ⟨⟨o, ho⟩, _⟩ := g3 y z
    exact (k3 y hy).2 o (List.mem_append_left _ ho)
  have T : TrAll K G H xs (ts ++ t' :: us) (S1 ++ (Sk ++ S2)) := by
    rw [ex]
    exact a.app (.cons kT b)
  have E3 : EnvOk K { c with hid := (hsOf H Sk ++ hsOf H (p :: (S1 ++ S2))) ++ c.hid } G H σ ((δ.set ix .no).set ip .no) := by
    rw [List.append_assoc]
    exact E2
  have nd3 : (p :: (S1 ++ (Sk ++ S2))).Nodup := by
    obtain ⟨n0, n1⟩ := List.nodup_cons.mp nd
    obtain ⟨n1, n2, n3⟩ := List.nodup_append.mp n1
    refine List.nodup_cons.mpr ⟨fun z => ?_, List.nodup_append.mpr ⟨n1, List.nodup_append.mpr ⟨kn, n2, fun a ha b hb e => dis a ha (by rw [e]; exact List.mem_cons_of_mem _ (List.mem_append_right _ hb))⟩, fun a ha b hb e => ?_⟩⟩
    · rcases List.mem_append.mp z with z | z
      · exact n0 (List.mem_append_left _ z)
      · rcases List.mem_append.mp z with z | z
        · exact dis p z List.mem_cons_self
        · exact n0 (List.mem_append_right _ z)
    · rcases List.mem_append.mp hb with hb | hb
      · exact dis b hb (by rw [← e]; exact List.mem_cons_of_mem _ (List.mem_append_left _ ha))
      · exact n3 a ha b hb e
  have E4 := E3.give_box (S := p :: (S1 ++ (Sk ++ S2))) (b := boxOpen o isT p xs (ts ++ t' :: us)) (x := .ref p) (fun y hy => ?_) ⟨h0, rfl, hp, _, T, rfl, nd3⟩ ix
  · rw [set_same g1, List.set_comm _ _ hne, List.set_set] at E4
    rw [List.set_comm _ _ (Ne.symm hne)] at E4 ⊢
    first
      | exact E4
      | (rw [List.set_comm _ _ hne] at E4; exact E4)
  · have or : y ∈ Sk ∨ y ∈ p :: (S1 ++ S2) := by
      rcases List.mem_cons.mp hy with z | z
      · exact .inr (by rw [z]; exact List.mem_cons_self)
      · rcases List.mem_append.mp z with z | z
        · exact .inr (List.mem_cons_of_mem _ (List.mem_append_left _ z))
        · rcases List.mem_append.mp z with z | z
          · exact .inl z
          · exact .inr (List.mem_cons_of_mem _ (List.mem_append_right _ z))
    rcases or with z | z
    · obtain ⟨⟨o, ho⟩, no⟩ := k3 y z
      exact ⟨⟨o, List.mem_append_left _ ho⟩, fun o h => no o (List.mem_append_right _ h)⟩
    · obtain ⟨⟨o, ho⟩, no⟩ := g3 y z
      exact ⟨⟨o, List.mem_append_right _ ho⟩, no⟩
/-- the turns over a tree's parts -/
def kidW (u : DTS) (E : DEnds) (ix ip : Nat) (o : Option V) (isT : Bool) : List TD → List TD → List Sl → Prop
  | done, [], δ => E.nx (δ.set ix (.box (boxTr o (mkTD isT done))))
  | done, t :: r, δ => ∀ (v : V) (b : Box), u { E with nx := fun δ' => ∃ t', δ'[ix]? = some (.box b) ∧ δ'[ip]? = some (.box (boxTr (some v) t')) ∧ kidW u E ix ip o isT (done ++ [t']) r (δ'.set ip .no), ct := fun δ' => ∃ t', δ'[ix]? = some (.box b) ∧ δ'[ip]? = some (.box (boxTr (some v) t')) ∧ kidW u E ix ip o isT (done ++ [t']) r (δ'.set ip .no), bk := fun _ => False }
      ((δ.set ix (.box b)).set ip (.box (boxTr (some v) t)))
theorem rs_kids {t : TS} {u : DTS} (hb : RS K t u) {D : Ends} {E : DEnds} {ix ip : Nat} {o : Option V} {isT : Bool} {p : Addr} {xs : List V} {ts : List TD} (hne : ix ≠ ip) (EV : EnvOk K c G H σ (δ.set ix (.box (boxOpen o isT p xs ts)))) (hix : ix < δ.length) {J : It} {lo : Nat}
    (hlo : lo ≤ ts.length) (hJ : ∀ G' H', Ex G G' → Ex G' H' → H' p = some (rootO isT xs) → J.stop (xs.length - lo) H' ∧ ∀ i v, xs[lo + i]? = some v → J.go i H' ∧ ∀ x H'', J.yld i H' x H'' → H'' = H' ∧ x = v)
    (hk : kidW u E ix ip o isT (ts.take lo) (ts.drop lo) δ) (k : EndsOk K c G E D) :
    ∃ W : Nat → Nat → L2.St → Hp → Prop, (∃ m, W 0 m σ H) ∧ ∀ i m σ H, W i m σ H → (J.stop i H ∧ D.nx σ H) ∨ (J.go i H ∧ ∃ N : L2.St → Hp → Prop, (∀ σ' H', N σ' H' → ∃ m', m' < m ∧ W (i + 1) m' σ' H') ∧
      ∀ x H', J.yld i H x H' → gName ip x σ H' fun σ2 H2 => t { D with nx := N, ct := N, bk := D.nx } σ2 H2) := by
  refine ⟨fun i m σ H => ∃ G' δ' done todo, EnvOk K c G' H σ (δ'.set ix (.box (boxOpen o isT p xs (done ++ todo)))) ∧ ix < δ'.length ∧ Ex G G' ∧ done.length = lo + i ∧ m = todo.length ∧ kidW u E ix ip o isT done todo δ',
    ⟨(ts.drop lo).length, G, δ, ts.take lo, ts.drop lo, by rw [List.take_append_drop]; exact EV, hix, Ex.refl _, by rw [List.length_take]; omega, rfl, hk⟩, ?_⟩
  rintro i m σ1 H1 ⟨G1, δ1, done, todo, E1, hx1, e1, hd, rfl, h1⟩
  obtain ⟨x0, S0, g1, g2, _, _⟩ := E1.hideBox (set_at hx1)
  obtain ⟨g0, rfl, hp, S', hT, rfl, nd⟩ := g2
  have hl := hT.len
  rw [List.length_append] at hl
  obtain ⟨stop, go⟩ := hJ G1 H1 e1 E1.ex hp
  cases todo with
  | nil =>
    have ei : xs.length - lo = i := by
      simp only [List.length_nil] at hl
      omega
    rw [ei] at stop
    refine .inl ⟨stop, k.nx σ1 G1 H1 _ h1 ?_ e1⟩
    rw [List.append_nil] at E1
    have z := E1.rebox (b' := boxTr o (mkTD isT done)) (set_at hx1) fun x S h => by
      obtain ⟨a0, rfl, a2, S', a3, rfl, a5⟩ := h
      exact ⟨a0, Tr.mk a2 a3, a5⟩
    rw [List.set_set] at z
    exact z
  | cons t1 r =>
    obtain ⟨v, gv, E2⟩ := E1.part hne hx1
    have gv' : xs[lo + i]? = some v := by rw [← hd]; exact gv
    obtain ⟨hgo, hy⟩ := go i v gv'
    refine .inr ⟨hgo, fun σ' H' => ∃ G' δ' done todo, EnvOk K c G' H' σ' (δ'.set ix (.box (boxOpen o isT p xs (done ++ todo)))) ∧ ix < δ'.length ∧ Ex G G' ∧ done.length = lo + (i + 1) ∧ todo.length = r.length ∧ kidW u E ix ip o isT done todo δ',
      fun σ' H' ⟨G', δ', done', todo', a1, a2, a3, a4, a5, a6⟩ => ⟨todo'.length, by rw [a5, List.length_cons]; omega, G', δ', done', todo', a1, a2, a3, a4, rfl, a6⟩, fun x H' hx => ?_⟩
    obtain ⟨rfl, rfl⟩ := hy x H' hx
    have nx : ∀ σ' G' H' δ', (∃ t', δ'[ix]? = some (.box (boxHole o isT p xs done.length done r)) ∧ δ'[ip]? = some (.box (boxTr (some x) t')) ∧ kidW u E ix ip o isT (done ++ [t']) r (δ'.set ip .no)) → EnvOk K c G' H' σ' δ' → Ex G1 G' →
        ∃ G' δ' done todo, EnvOk K c G' H' σ' (δ'.set ix (.box (boxOpen o isT p xs (done ++ todo)))) ∧ ix < δ'.length ∧ Ex G G' ∧ done.length = lo + (i + 1) ∧ todo.length = r.length ∧ kidW u E ix ip o isT done todo δ' := fun σ' G' H' δ' ⟨t', q1, q2, q3⟩ Eq eq => by
      have z := Eq.unpart hne gv q1 q2
      refine ⟨G', δ'.set ip .no, done ++ [t'], r, ?_, ?_, e1.trans eq, by rw [List.length_append, List.length_singleton, hd]; omega, rfl, q3⟩
      · rw [List.append_assoc]
        exact z
      · rw [List.length_set]
        exact (List.getElem?_eq_some_iff.mp q1).1
    have h1 := h1 x (boxHole o isT p xs done.length done r)
    exact hb c _ G1 H' _ _ _ E2 h1 ⟨fun σ' G' H' δ' a b e => nx σ' G' H' δ' a b e, fun d δ' v σ' G' H' a b e r => k.rt d δ' v σ' G' H' a b (e1.trans e) r, fun σ' G' H' δ' a _ _ => False.elim a, fun σ' G' H' δ' a b e => nx σ' G' H' δ' a b e,
      fun ds δ' p xs σ' G' H' a b n e r => k.rn ds δ' p xs σ' G' H' a b n (e1.trans e) r, k.h0⟩
/-- for name in tree -/
def dForTr (ix ip : Nat) (u : DTS) : DTS := fun E δ => ∃ o ts, δ[ix]? = some (.box (boxTr o (.ls ts))) ∧ kidW u E ix ip o false [] ts δ
/-- for name in tree[lo:] -/
def dForTs (ix ip lo : Nat) (u : DTS) : DTS := fun E δ => ∃ o ts, δ[ix]? = some (.box (boxTr o (.tp ts))) ∧ 0 < lo ∧ lo ≤ ts.length ∧ kidW u E ix ip o true (ts.take lo) (ts.drop lo) δ
theorem rs_forTr {t : TS} {u : DTS} (ix ip : Nat) (hne : ix ≠ ip) (hb : RS K t u) : RS K (tFor (iList K (tVar ix)) (gName ip) t) (dForTr ix ip u) := by
  intro c σ G H δ D E EV h k
  obtain ⟨o, ts, hs, h⟩ := h
  have hix := (List.getElem?_eq_some_iff.mp hs).1
  obtain ⟨x, S, g1, g2, _, _⟩ := EV.hideBox hs
  obtain ⟨g0, gT, gn⟩ := g2
  obtain ⟨p, xs, S', rfl, hp, hT, rfl⟩ := Tr.root (isT := false) gT
  refine ⟨.ref p, g1, p, rfl, ⟨xs, .inl (.inl hp)⟩, ?_⟩
  have E1 : EnvOk K c G H σ (δ.set ix (.box (boxOpen o false p xs ts))) := by
    obtain ⟨x', S'', q1, q2, E1, q3⟩ := EV.hideBox hs
    rw [g1] at q1
    cases q1
    obtain ⟨_, qT, qn⟩ := q2
    obtain ⟨p', xs', S3, e, hp', hT', rfl⟩ := Tr.root (isT := false) qT
    cases e
    rw [hp] at hp'
    have ex : xs = xs' := HO.lst.inj (Option.some.inj hp')
    subst ex
    have z := E1.give_box q3 (b := boxOpen o false p xs ts) (x := .ref p) ⟨g0, rfl, hp, _, hT', rfl, qn⟩ ix
    rw [List.set_set, set_same g1] at z
    exact z
  refine rs_kids hb hne E1 hix (Nat.zero_le _) (fun G' H' e1 e2 hp' => ?_) h k
  have sq : SqL K H' p xs := .inl (.inl hp')
  refine ⟨⟨xs, sq, Nat.le_refl _⟩, fun i v hv => ?_⟩
  rw [Nat.zero_add] at hv
  exact ⟨⟨xs, v, sq, hv⟩, fun x H'' hy => ⟨hy.1, Option.some.inj ((hy.2 xs sq).symm.trans hv)⟩⟩
theorem rs_forTs {t : TS} {u : DTS} {l : Int} (ix ip lo : Nat) (hl : l = (lo : Int)) (hne : ix ≠ ip) (hb : RS K t u) : RS K (tFor (iTup K (tSl (rSlT K) (tVar ix) (tPart (tC (.int l))) tNoPart)) (gName ip) t) (dForTs ix ip lo u) := by
  intro c σ G H δ D E EV h k
  obtain ⟨o, ts, hs, h00, hlo, h⟩ := h
  have hix := (List.getElem?_eq_some_iff.mp hs).1
  obtain ⟨x, S, g1, g2, _, _⟩ := EV.hideBox hs
  obtain ⟨g0, gT, gn⟩ := g2
  obtain ⟨p, xs, S', rfl, hp, hT, rfl⟩ := Tr.root (isT := true) gT
  have ll := hT.len
  have six : HT.sIx xs.length 0 (some l) = lo := by
    subst hl
    unfold HT.sIx
    first
      | (simp; omega)
      | (simp only []; split <;> omega)
  have six2 : HT.sIx xs.length xs.length none = xs.length := by
    unfold HT.sIx
    simp
  refine ⟨.ref p, g1, l, rfl, p, xs, rfl, .inl (.inl hp), by rw [six]; omega, fun q hq => ?_⟩
  have cut : cutV xs (some l) none = xs.drop lo := by
    unfold cutV
    rw [six, six2]
    exact List.take_of_length_le (by rw [List.length_drop]; omega)
  rw [cut]
  have sq : ∀ {G' H' : Hp}, Ex (upd G q (.tup (xs.drop lo))) G' → Ex G' H' → SqT K H' q (xs.drop lo) := fun e1 e2 => .inl (.inl (e2 _ _ (e1 _ _ upd_same)))
  have A := Al.new (o := .tup (xs.drop lo)) EV.ex hq
  have EA := EV.al A
  have np : q ≠ p := fun z => by
    rw [z, hp] at hq
    cases hq
  refine ⟨q, rfl, ⟨_, sq (Ex.refl _) A.ex⟩, ?_⟩
  have E1 : EnvOk K c (upd G q (.tup (xs.drop lo))) (upd H q (.tup (xs.drop lo))) σ (δ.set ix (.box (boxOpen o true p xs ts))) := by
    obtain ⟨x', S'', q1, q2, E1, q3⟩ := EA.hideBox hs
    rw [g1] at q1
    cases q1
    obtain ⟨_, qT, qn⟩ := q2
    obtain ⟨p', xs', S3, e, hp', hT', rfl⟩ := Tr.root (isT := true) qT
    cases e
    have hp2 := hp'
    rw [upd_ne (Ne.symm np), hp] at hp2
    have ex : xs = xs' := HO.tup.inj (Option.some.inj hp2)
    subst ex
    have z := E1.give_box q3 (b := boxOpen o true p xs ts) (x := .ref p) ⟨g0, rfl, hp', _, hT', rfl, qn⟩ ix
    rw [List.set_set, set_same g1] at z
    exact z
  refine rs_kids hb hne E1 hix hlo (fun G' H' e1 e2 hp' => ?_) h (k.up A.g)
  have s := sq e1 e2
  refine ⟨⟨_, s, by rw [List.length_drop]; exact Nat.le_refl _⟩, fun i v hv => ?_⟩
  have hv' : (xs.drop lo)[i]? = some v := by rw [List.getElem?_drop]; exact hv
  exact ⟨⟨_, v, s, hv'⟩, fun x H'' hy => ⟨hy.1, Option.some.inj ((hy.2 _ s).symm.trans hv')⟩⟩
/-- part.append(c), part.reverse() -/
def dAppB (i : Nat) (u : DTE) : DTS := fun E δ => ∃ o ds, δ[i]? = some (.box (boxTr o (.l ds))) ∧ ds.length < sizeLine ∧ u δ fun d δ1 => δ1 = δ ∧ E.nx (δ.set i (.box (boxTr o (.l (ds ++ [d])))))
def dRevB (i : Nat) : DTS := fun E δ => ∃ o ds, δ[i]? = some (.box (boxTr o (.l ds))) ∧ E.nx (δ.set i (.box (boxTr o (.l ds.reverse))))
theorem EnvOk.pokeB {o : Option V} {ds es : List PyData} {i : Nat} (E : EnvOk K c G H σ δ) (hs : δ[i]? = some (.box (boxTr o (.l ds)))) : ∃ p xs, σ[i]? = some (some (.ref p)) ∧ H p = some (.lst xs) ∧ RpAll K G xs ds ∧ ∀ ys, RpAll K G ys es → EnvOk K c G (upd H p (.lst ys)) σ (δ.set i (.box (boxTr o (.l es)))) := by
  obtain ⟨x, S, h1, h2, h3, h4⟩ := E.open_box hs
  obtain ⟨h0, hT, nd⟩ := h2
  cases hT with
  | l hp rr =>
    rename_i p xs
    refine ⟨p, xs, h1, hp, rr, fun ys ry => ?_⟩
    have z := h4 (boxTr o (.l es)) (.ref p) [p] G (upd H p (.lst ys)) (Ex.refl _) (fun a q h => ?_) (fun a q ha h => ?_) (fun a _ _ h => h) (fun a ha => ?_) ⟨h0, .l upd_same ry, nd⟩
    · rw [set_same h1] at z
      exact z
    · rw [upd_ne fun z => ?_]
      · exact E.ex a q h
      · have f := (h3 p (List.mem_singleton_self _)).1.g
        rw [← z, h] at f
        cases f
    · rw [upd_ne fun z => ha (by rw [z]; exact List.mem_singleton_self _)]
      exact h
    · rw [List.mem_singleton.mp ha]
      exact ⟨(h3 p (List.mem_singleton_self _)).1.g, by rw [upd_same]; exact (fun z => nomatch z), .inl (List.mem_singleton_self _)⟩
theorem rs_appB {i : Nat} {te : TE} {ue : DTE} (ha : RE K te ue) : RS K (tDrop (tBM K "list" rAppend (tVar i) (tCons te tNil))) (dAppB i ue) := by
  intro c σ G H δ D E EV h k
  obtain ⟨o, ds, hs, hl, h⟩ := h
  obtain ⟨p0, xs0, hv0, hh0, _, _⟩ := EV.pokeB (es := ds) hs
  refine ⟨.ref p0, hv0, .inl ⟨rfl, xs0, .inl (.inl hh0)⟩, ?_⟩
  refine ha c σ G H δ _ _ EV h fun d δ1 v G1 H1 h1 E1 e1 r => ?_
  obtain ⟨rfl, hn⟩ := h1
  obtain ⟨p, xs, hv, hh, rr, q⟩ := E1.pokeB (es := ds ++ [d]) hs
  rw [hv0] at hv
  cases hv
  exact ⟨p0, xs, v, rfl, rfl, hh, by rw [rr.len]; exact hl, k.nx σ G1 _ _ hn (q _ (rr.app (.one r))) e1⟩
theorem rs_revB {i : Nat} : RS K (tDrop (tBM0 K "list" rReverse (tVar i))) (dRevB i) := by
  intro c σ G H δ D E EV h k
  obtain ⟨o, ds, hs, h⟩ := h
  obtain ⟨p, xs, hv, hh, rr, q⟩ := EV.pokeB (es := ds.reverse) hs
  exact ⟨.ref p, hv, .inl ⟨rfl, xs, .inl (.inl hh)⟩, p, xs, rfl, rfl, hh, k.nx σ G _ _ h (q _ rr.rev) (Ex.refl _)⟩
end
section
variable [XW] {X : Cx} {a b e : Expr} {te : TE} {ue : DTE} {t : TS} {u : DTS} {p p2 p3 p4 pos : Pos}
theorem ds_forTr (ix ip : Nat) {x y : Str} {body : List Stmt} (hp : PassesOwn (model X.prog X.w) X.A X.env X.xe) (hc : X.calm = true) (hN : X.N.Nodup) (hne : ix ≠ ip) (hb : DSs X body t u) (hx : X.N[ix]? = some x := by rfl) (hv : Vis X.env.scope x := by first | exact Or.inl rfl | exact Or.inr (Or.inl rfl) | exact Or.inr (Or.inr rfl)) (hd : (x == ("__debug__" : Str)) = false := by decide)
    (hcd : (x == ("__classdict__" : Str)) = false := by decide) (hg : PG X (.Name y p2) (gName ip)) (hs : ∀ z, foldedSetIterable (.Name x p) X.env z = pure z := by intro _; rfl) :
    DS X (.For (.Name y p2) (.Name x p) body [] pos) (tFor (iList X.K (tVar ix)) (gName ip) t) (dForTr ix ip u) := ⟨ps_for hp hc (pi_list (pe_var hx hv hd hcd)) hg hb.ps hs, rs_forTr ix ip hne hb.rs⟩
theorem ds_forTs (ix ip lo : Nat) {l : Int} (hl : l = (lo : Int)) {x y : Str} {el : Expr} {body : List Stmt} (hp : PassesOwn (model X.prog X.w) X.A X.env X.xe) (hc : X.calm = true) (hN : X.N.Nodup) (hne : ix ≠ ip) (hlo : PE X el (tC (.int l))) (hb : DSs X body t u) (hx : X.N[ix]? = some x := by rfl) (hv : Vis X.env.scope x := by first | exact Or.inl rfl | exact Or.inr (Or.inl rfl) | exact Or.inr (Or.inr rfl)) (hd : (x == ("__debug__" : Str)) = false := by decide)
    (hcd : (x == ("__classdict__" : Str)) = false := by decide) (hg : PG X (.Name y p2) (gName ip)) (hs : ∀ z, foldedSetIterable (.Subscript (.Name x p) (.Slice (some el) none none p3) p4) X.env z = pure z := by intro _; rfl) :
    DS X (.For (.Name y p2) (.Subscript (.Name x p) (.Slice (some el) none none p3) p4) body [] pos) (tFor (iTup X.K (tSl (rSlT X.K) (tVar ix) (tPart (tC (.int l))) tNoPart)) (gName ip) t) (dForTs ix ip lo u) := ⟨ps_for hp hc (pi_tup (pe_slice sl_tup (pe_var hx hv hd hcd) (po_some hlo) po_none)) hg hb.ps hs, rs_forTs ix ip lo hl hne hb.rs⟩
theorem ds_appB (i : Nat) {x : Str} {apos cpos : Pos} (he : DE X e te ue) (pb : PE X (.Call (.Attribute (.Name x p) "append" apos) [e] [] cpos) (tBM X.K "list" rAppend (tVar i) (tCons te tNil))) (hs : swapsWith (.Call (.Attribute (.Name x p) "append" apos) [e] [] cpos) none pos.line X.env = pure false := by rfl) :
    DS X (.Expr (.Call (.Attribute (.Name x p) "append" apos) [e] [] cpos) pos) (tDrop (tBM X.K "list" rAppend (tVar i) (tCons te tNil))) (dAppB i ue) := ⟨ps_expr pb hs, rs_appB he.re⟩
theorem ds_revB (i : Nat) {x : Str} {apos cpos : Pos} (hN : X.N[i]? = some x := by rfl) (hv : Vis X.env.scope x := by first | exact Or.inl rfl | exact Or.inr (Or.inl rfl) | exact Or.inr (Or.inr rfl)) (hd : (x == ("__debug__" : Str)) = false := by decide)
    (hcd : (x == ("__classdict__" : Str)) = false := by decide)
    (hb : attributeBase (.Name x p) "reverse" X.env (eval (.Name x p) X.env) = eval (.Name x p) X.env := by rfl) (hline : (apos.endLine == cpos.line) = true := by rfl)
    (hs : swapsWith (.Call (.Attribute (.Name x p) "reverse" apos) [] [] cpos) none pos.line X.env = pure false := by rfl) :
    DS X (.Expr (.Call (.Attribute (.Name x p) "reverse" apos) [] [] cpos) pos) (tDrop (tBM0 X.K "list" rReverse (tVar i))) (dRevB i) :=
  ⟨ps_expr (pe_bm0 PySem.F.plainAttrs_list PySem.F.slot_list_reverse PySem.F.type_list_reverse mt_reverse (pe_var hN hv hd hcd) hb hline) hs, rs_revB⟩
end
end TL

set_option Elab.async false
set_option linter.all false
set_option maxRecDepth 100000
set_option maxHeartbeats 600000
/-! TBz: trees by syntax. -/
namespace TL
open PySem PySem.Spec PyProof.Rows L2
section
variable {P : Program} {w : World} {K : PySem.W.Frag} {mg : Str → Option Value} {base : Heap}
/-- a new list is a tree -/
def asT (S : DSn) : DSt := fun as R => S as fun ds outs => R (.l ds) outs
theorem spN_of {S : DSn} {vs : List V} {H : Hp} {Q : VK} {E : XK} (h : spT K (asT S) vs H Q E) : spN K S vs H Q E := by
  obtain ⟨c, as, R, hh, h0, EV, hS, k⟩ := h
  exact ⟨c, as, fun ds outs => R (.l ds) outs, hh, h0, EV, hS, fun ds outs p xs G' H' hR F hp gp hh' rr => k (.l ds) outs (.ref p) G' H' [p] hR F (.l hh' rr) (List.nodup_cons.mpr ⟨List.not_mem_nil, List.nodup_nil⟩) fun a ha => by
    rw [List.mem_singleton.mp ha]
    exact ⟨hp, gp⟩⟩
theorem KnN.toT {k : Nat} {x : Str} {S : DSn} (kn : KnN P w K mg base k x S) : KnT P w K mg base k x (asT S) := by
  obtain ⟨f, fd, ps, F, hm, kp, b⟩ := kn.ex
  exact ⟨f, fd, ps, F.imp fun _ _ _ _ h => spN_of h, hm, kp, b⟩
theorem KnN.toD {k : Nat} {x : Str} {S : DSn} (kn : KnN P w K mg base k x S) : Kn P w K mg base k x (asD (asT S)) := kn.toT.toD
end
section
variable [XW] {K : PySem.W.Frag} {t : TE} {uf : DTF}
/-- name = a new list, one's own -/
def dAsgOwnF (i : Nat) (u : DTF) : DTS := fun E δ => u δ fun t δ' => ∃ ds, t = .l ds ∧ E.nx (δ'.set i (.own none ds))
theorem rs_asgOwnF {i : Nat} (h : RF K t uf) : RS K (tAsg t (gName i)) (dAsgOwnF i uf) := by
  intro c σ G H δ D E EV hu k
  refine h c σ G H δ _ _ EV hu fun d δ' v G' H' S hs hR E' e T n b => ?_
  obtain ⟨ds, rfl, hR⟩ := hR
  cases T with
  | l hp rr =>
    rename_i p xs
    obtain ⟨⟨o, ho⟩, no⟩ := b p (List.mem_singleton_self _)
    have q := (E'.hd p o (List.mem_append_left _ ho)).1
    rw [hp] at q
    cases q
    have E2 := E'.hid_to (hs := (p, .lst xs) :: c.hid) fun x hx => by
      rcases List.mem_cons.mp hx with z | z
      · rw [z]
        exact List.mem_append_left _ ho
      · exact List.mem_append_right _ z
    exact k.nx _ G' H' _ hR (EnvOk.give (c := c) E2 no rr i) e
end
section
variable [XW] {X : Cx} {a e : Expr} {es : List Expr} {te ta : TE} {ue ua : DTE} {uf : DTF} {tr : TA} {ur : DTA} {tca : TA} {uca : DCA} {tt : TT} {ut : DTT} {p p2 pos : Pos}
theorem df_lc {elt tg iter : Expr} {ifs : List Expr} {scope : Scope} (own : List (Str × Nat)) {w : TI} {uw : DTI} {g : TG} {ug : DTG} {js : List Nat} (hc : X.calm = true) (hN : X.N.Nodup) (hi : DI X tg iter w uw) (ok : BlkOk X.N X.env.scope scope own)
    (hg : ∀ (s : Shared) (H : Hp) (C : Addr) (cl : List (Str × Addr)) (fp : List Addr), DG (X.blk s H scope (compEnvC scope cl C X.env) fp) tg g ug js) (ht : ∀ (s : Shared) (H : Hp) (C : Addr) (cl : List (Str × Addr)) (fp : List Addr), DTs (X.blk s H scope (compEnvC scope cl C X.env) fp) ifs tt ut)
    (he : ∀ (s : Shared) (H : Hp) (C : Addr) (cl : List (Str × Addr)) (fp : List Addr), DE (X.blk s H scope (compEnvC scope cl C X.env) fp) elt te ue) (hj : ∀ j ∈ js, j ∈ own.map (·.2)) (hs : ∀ x, foldedSetIterable iter X.env x = pure x := by intro _; rfl) :
    DF X (.ListComp elt [⟨tg, iter, ifs, 0⟩] scope pos) (tLc w g tt te (own.map (·.2))) (fLc uw ug ut ue (own.map (·.2))) :=
  ⟨pe_lc hc hN hi.pi ok (fun a b c d e => (hg a b c d e).pg) (fun a b c d e => (ht a b c d e).pt) (fun a b c d e => (he a b c d e).pe) hs,
   rf_lc hi.ri (hg X.s_0 X.H_0 0 [] []).rg (ht X.s_0 X.H_0 0 [] []).rt (he X.s_0 X.H_0 0 [] []).re hj⟩
theorem df_new (he : DA X es tr ur) : DF X (.List es p) (tLst tr) (fNew ur) := ⟨pe_lst he.pa, rf_new he.ra⟩
theorem df_list1 (hm : X.mg "list" = none) (ha : DE X a ta ua) (hg : Gl X "list" := by rfl) (hv : bootBuiltins "list" = some (.type "list") := by decide +kernel) (hs : starEach [a] X.env = (false, eval a X.env) :: starEach [] X.env := by rfl) (hpl : (backTo pos (starEach [] X.env)).any (·.1) = false := by rfl) :
    DF X (.Call (.Name "list" p) [a] [] pos) (tCB (rListOf X.K) (tCons ta tNil)) (fListOf ua) := ⟨pe_callTy call_list_of hg hm hv (pa_cons ha.pe pa_nil hs) (by decide) (by decide) hs hpl, rf_listOf ha.re⟩
theorem df_callT {x : Str} {S : DSt} {k j : Nat} (kn : KnT X.prog X.w X.K X.mg X.base k x S) (hr : RoomG j X.A) (hk : k ≤ j) (ha : DCa X (e :: es) tca uca) (hg : Gl X x := by rfl) (hdb : (x == ("__debug__" : Str)) = false := by decide)
    (he : starEach (e :: es) X.env = (false, eval e X.env) :: starEach es X.env := by rfl) (hpl : (backTo pos (starEach es X.env)).any (·.1) = false := by rfl) : DF X (.Call (.Name x p) (e :: es) [] pos) (tCall (spT X.K S) [] E0 tca) (fCall S uca) := by
  obtain ⟨f, fd, ps, F, hm, kp, b⟩ := kn.ex
  exact ⟨pe_callG F (hr.mono hk) hg hm kp b .nil pass0 ha.pa hdb he hpl, rf_callT ha.ra⟩
theorem ds_asgTr (i : Nat) {x : Str} (hN : X.N.Nodup) (he : DF X e te uf) (hi : X.N[i]? = some x := by rfl) (hx : Loc X.env.scope x := by first | exact Or.inl rfl | exact Or.inr rfl) (hs : swapsWith e (some (.Name x p)) pos.line X.env = pure false := by rfl)
    (hf : X.fn x = true ∨ X.env.scope.names.lookup x = some .local := by first | exact .inl rfl | exact .inr rfl | assumption) : DS X (.Assign [.Name x p] e pos) (tAsg te (gName i)) (dAsgTr i uf) := ⟨ps_set hN hi hx he.pe hs hf, rs_asgTr he.rf⟩
theorem ds_asgOwnF (i : Nat) {x : Str} (hN : X.N.Nodup) (he : DF X e te uf) (hi : X.N[i]? = some x := by rfl) (hx : Loc X.env.scope x := by first | exact Or.inl rfl | exact Or.inr rfl) (hs : swapsWith e (some (.Name x p)) pos.line X.env = pure false := by rfl)
    (hf : X.fn x = true ∨ X.env.scope.names.lookup x = some .local := by first | exact .inl rfl | exact .inr rfl | assumption) : DS X (.Assign [.Name x p] e pos) (tAsg te (gName i)) (dAsgOwnF i uf) := ⟨ps_set hN hi hx he.pe hs hf, rs_asgOwnF he.rf⟩
end
section
variable {xw : XW} {X : Cx} {te : TE} {ue : DTE} {tt : TT} {ut : DTT} {pos : Pos}
theorem ds_ldLc (i : Nat) {y : Str} {py spos : Pos} {elt tg iter : Expr} {ifs : List Expr} {scope : Scope} (own : List (Str × Nat)) {w : TI} {uw : DTI} {g : TG} {ug : DTG} {js : List Nat} (hc : X.calm = true) (hN : X.N.Nodup) (hi : @DI XW0 X tg iter w uw) (ok : BlkOk X.N X.env.scope scope own)
    (hg : ∀ (s : Shared) (H : Hp) (C : Addr) (cl : List (Str × Addr)) (fp : List Addr), @DG XW0 (X.blk s H scope (compEnvC scope cl C X.env) fp) tg g ug js) (ht : ∀ (s : Shared) (H : Hp) (C : Addr) (cl : List (Str × Addr)) (fp : List Addr), @DTs XW0 (X.blk s H scope (compEnvC scope cl C X.env) fp) ifs tt ut)
    (he : ∀ (s : Shared) (H : Hp) (C : Addr) (cl : List (Str × Addr)) (fp : List Addr), @DE XW0 (X.blk s H scope (compEnvC scope cl C X.env) fp) elt te ue) (hj : ∀ j ∈ js, j ∈ own.map (·.2))
    (hsw : swapsWith (.ListComp elt [⟨tg, iter, ifs, 0⟩] scope pos) (some (.Name y py)) spos.line X.env = pure true) (hy : X.N[i]? = some y := by rfl) (hyl : X.env.scope.names.lookup y = some .local := by rfl) (hs : ∀ x, foldedSetIterable iter X.env x = pure x := by intro _; rfl) :
    @DS xw X (.Assign [.Name y py] (.ListComp elt [⟨tg, iter, ifs, 0⟩] scope pos) spos) (tAsg (tLc w g tt te (own.map (·.2))) (gName i)) (dLdLc i (fLc uw ug ut ue (own.map (·.2)))) := by
  have h1 := hg X.s_0 X.H_0 0 [] []
  have h1 := @DG.rg XW0 _ _ _ _ _ h1
  have h2 := ht X.s_0 X.H_0 0 [] []
  have h2 := @DTs.rt XW0 _ _ _ _ h2
  have h3 := he X.s_0 X.H_0 0 [] []
  have h3 := @DE.re XW0 _ _ _ _ h3
  have h0 := @DI.ri XW0 _ _ _ _ _ hi
  exact ⟨ps_setLc hc hN hy hyl hsw (@DI.pi XW0 _ _ _ _ _ hi) ok (fun a b c d e => @DG.pg XW0 _ _ _ _ _ (hg a b c d e)) (fun a b c d e => @DTs.pt XW0 _ _ _ _ (ht a b c d e)) (fun a b c d e => @DE.pe XW0 _ _ _ _ (he a b c d e)) hs,
    rs_ldLc (@rf_lc XW0 X.K _ _ _ _ _ _ _ _ _ _ h0 h1 h2 h3 hj)⟩
end
end TL

set_option Elab.async false
set_option linter.all false
set_option maxRecDepth 100000
set_option maxHeartbeats 4000000
/-! TCa: what is told without a change; how long a thing's text may be. -/
namespace TL
open PySem PySem.Spec L2
theorem szn {n : Nat} (h : n ≤ 1000000) : n ≤ sizeLine := nat_le_size (by omega)
def Ev (A : DTE) (δ : List Sl) (d : PyData) : Prop := ∀ Q : DQ, Q d δ → A δ Q
def EvA (A : DTA) (δ : List Sl) (ds : List PyData) : Prop := ∀ Q : List PyData → List Sl → Prop, Q ds δ → A δ Q
theorem ev_var {i : Nat} {δ : List Sl} {d : PyData} (h : δ[i]? = some (.dat d)) : Ev (dVar i) δ d := fun Q q => var_at h q
theorem ev_c {δ : List Sl} {d : PyData} : Ev (dC d) δ d := fun Q q => q
theorem eva_nil {δ : List Sl} : EvA dNil δ [] := fun Q q => q
theorem eva_cons {a : DTE} {b : DTA} {δ : List Sl} {d : PyData} {ds : List PyData} (ha : Ev a δ d) (hb : EvA b δ ds) : EvA (dCons a b) δ (d :: ds) := fun Q q => ha _ (hb _ q)
theorem ev_lst {a : DTA} {δ : List Sl} {ds : List PyData} (h : EvA a δ ds) (hl : ds.length ≤ 1000000) : Ev (dLst a) δ (.list ds) := fun Q q => h _ ⟨szn hl, q⟩
theorem ev_tup {a : DTA} {δ : List Sl} {ds : List PyData} (h : EvA a δ ds) (hl : ds.length ≤ 1000000) : Ev (dTup a) δ (.tuple ds) := fun Q q => h _ ⟨szn hl, q⟩
theorem ev_cat {a b : DTE} {δ : List Sl} {ds es : List PyData} (ha : Ev a δ (.list ds)) (hb : Ev b δ (.list es)) (hl : ds.length + es.length ≤ 1000000) : Ev (dOp dCat a b) δ (.list (ds ++ es)) := fun Q q => ha _ (hb _ ⟨szn hl, q⟩)
theorem ev_add {a b : DTE} {δ : List Sl} {i j : Int} (ha : Ev a δ (.int i)) (hb : Ev b δ (.int j)) : Ev (dOp (dI fun i j => i + j) a b) δ (.int (i + j)) := fun Q q => ha _ (hb _ q)
theorem ev_to {a b : DTE} {δ : List Sl} {ds : List PyData} {i : Int} (ha : Ev a δ (.list ds)) (hb : Ev b δ (.int i)) : Ev (dSl dSlL a dNoPart (dPart b)) δ (.list (cutP ds none (some i))) := fun Q q => ha _ (hb _ q)
theorem ev_from {a b : DTE} {δ : List Sl} {ds : List PyData} {i : Int} (ha : Ev a δ (.list ds)) (hb : Ev b δ (.int i)) : Ev (dSl dSlL a (dPart b) dNoPart) δ (.list (cutP ds (some i) none)) := fun Q q => ha _ (hb _ q)
theorem ev_tupOf {a : DTE} {δ : List Sl} {ds : List PyData} (ha : Ev a δ (.list ds)) : Ev (dTupOf a) δ (.tuple ds) := fun Q q => ha _ q
theorem ev_strL {a : DTE} {δ : List Sl} {ds : List PyData} (ha : Ev a δ (.list ds)) (h1 : SeqAt.shaped (.list ds) = true) (h2 : (PyData.list ds).showable = true) (h3 : (PyData.list ds).depth ≤ 60) (h4 : (PyData.list ds).shown.length ≤ 1000000) : Ev (dStrL a) δ (.str (PyData.list ds).shown) := fun Q q => ha _ ⟨h1, h2, h3, szn h4, q⟩
theorem ev_ixv {i : Nat} {ub : DTE} {δ : List Sl} {ds : List PyData} {k : Int} {x : PyData} (h : δ[i]? = some (.dat (.list ds))) (hb : Ev ub δ (.int k)) (e : atI ds k = some x) : Ev (dIxV i ub) δ x := fun Q q => ⟨by rw [h]; rfl, hb _ (by
  show (match slL δ[i]?, PyData.int k with
    | some ds, .int k => (match atI ds k with
      | some x => Q x δ
      | none => False)
    | _, _ => False)
  rw [h]
  show (match atI ds k with
    | some x => Q x δ
    | none => False)
  rw [e]
  exact q)⟩
theorem ev_call {S : DSp} {ua : DCA} {δ : List Sl} {d : PyData} (ds : List PyData) (hu : ∀ Q : List CA → List Sl → Prop, Q (ds.map CA.d) δ → ua δ Q) (mono : MonoS S) (k : ∀ R : PyData → List (List PyData) → Prop, R d [] → S (ds.map Sl.dat) R) : Ev (dCall S ua) δ d := fun Q q => call_pure2 ds hu mono (k _ ⟨rfl, q⟩)
theorem test_ev {a : DTE} {δ : List Sl} {b : Bool} {R : Bool → List Sl → Prop} (h : Ev a δ (.bool b)) (k : R b δ) : dTest a δ R := h _ k
theorem chain_t {ua ub uc : DTE} {δ : List Sl} {a b c : Int} {R : Bool → List Sl → Prop} (ha : Ev ua δ (.int a)) (hb : Ev ub δ (.int b)) (hc : Ev uc δ (.int c)) (k : R (decide (a ≤ b) && decide (b < c)) δ) : dTest (dChain (dB fun i j => decide (i ≤ j)) (dB fun i j => decide (i < j)) ua ub uc) δ R := ha _ (hb _ (by
  by_cases h : a ≤ b
  · rw [decide_eq_true h, Bool.true_and] at k
    show (if decide (a ≤ b) = true then uc δ _ else _)
    rw [decide_eq_true h, if_pos rfl]
    exact hc _ k
  · rw [decide_eq_false h, Bool.false_and] at k
    show (if decide (a ≤ b) = true then uc δ (fun d3 δ3 => dB (fun i j => decide (i < j)) (.int b) d3 fun d => match d with
      | .bool b => R b δ3
      | _ => False) else R false δ)
    rw [decide_eq_false h, if_neg (by decide)]
    exact k))
theorem dIsi_at {T : String} {i : Nat} {δ : List Sl} {d : PyData} {b : Bool} {R : DQ} (h : δ[i]? = some (.dat d)) (hk : kitB (tyD d) T = some b) (k : R (.bool b) δ) : dIsi T (dVar i) δ R := by
  refine var_at h ?_
  show (match kitB (tyD d) T with
    | some b => R (.bool b) δ
    | none => False)
  rw [hk]
  exact k
structure Rep (d : PyData) : Prop where
  o : okD d = true
  s : d.showable = true
  l : d.shown.length ≤ sizeLine
  d : d.depth ≤ 64
theorem ne_t {a b : DTE} {δ : List Sl} {d1 d2 : PyData} {R : Bool → List Sl → Prop} (ha : Ev a δ d1) (hb : Ev b δ d2) (s1 : SeqAt.shaped d1 = true) (s2 : SeqAt.shaped d2 = true) (k : R (!PyData.eqv d1 d2) δ) : dTest (dOp dNe a b) δ R := ha _ (hb _ ⟨s1, s2, k⟩)
theorem eq_t {a b : DTE} {δ : List Sl} {d1 d2 : PyData} {R : Bool → List Sl → Prop} (ha : Ev a δ d1) (hb : Ev b δ d2) (s1 : SeqAt.shaped d1 = true) (s2 : SeqAt.shaped d2 = true) (k : R (PyData.eqv d1 d2) δ) : dTest (dOp dEq a b) δ R := ha _ (hb _ ⟨s1, s2, k⟩)
theorem ev_andV {a b : DTE} {δ : List Sl} {d : PyData} (ha : Ev a δ (.bool true)) (hb : Ev b δ d) : Ev (dAndV a b) δ d := fun Q q => ha _ (hb _ q)
theorem ev_list1 {a : DTE} {δ : List Sl} {ds : List PyData} (ha : Ev a δ (.list ds)) : Ev (dListOf a) δ (.list ds) := fun Q q => ha _ q
theorem ev_sub {a b : DTE} {δ : List Sl} {i j : Int} (ha : Ev a δ (.int i)) (hb : Ev b δ (.int j)) : Ev (dOp (dI fun i j => i - j) a b) δ (.int (i - j)) := fun Q q => ha _ (hb _ q)
theorem ev_lenV {i : Nat} {δ : List Sl} {ds : List PyData} (h : δ[i]? = some (.dat (.list ds))) : Ev (dLenV i) δ (.int (ds.length : Int)) := fun Q q => by
  unfold dLenV
  rw [h]
  exact q
structure Sh (B D : Nat) (d : PyData) : Prop where
  o : okD d = true
  s : d.showable = true
  l : d.shown.length ≤ B
  dp : d.depth ≤ D
theorem Sh.up {B D B' D' : Nat} {d : PyData} (h : Sh B D d) (h1 : B ≤ B') (h2 : D ≤ D') : Sh B' D' d := ⟨h.o, h.s, Nat.le_trans h.l h1, Nat.le_trans h.dp h2⟩
theorem Sh.rep {B D : Nat} {d : PyData} (h : Sh B D d) (h1 : B ≤ 1000000) (h2 : D ≤ 64) : Rep d := ⟨h.o, h.s, szn (Nat.le_trans h.l h1), Nat.le_trans h.dp h2⟩
theorem shs_all {B D : Nat} : ∀ {ds : List PyData}, (∀ d ∈ ds, Sh B D d) → okDs ds = true ∧ PyData.showableAll ds = true ∧ ((PyData.shownAll ds).map (·.length)).sum ≤ B * ds.length ∧ (PyData.shownAll ds).length = ds.length ∧ PyData.depthAll ds ≤ D
  | [], _ => ⟨rfl, rfl, Nat.zero_le _, rfl, Nat.zero_le _⟩
  | d :: r, h => by
    have a := h d List.mem_cons_self
    obtain ⟨b1, b2, b3, b4, b5⟩ := shs_all (ds := r) fun d hd => h d (List.mem_cons_of_mem _ hd)
    refine ⟨?_, ?_, ?_, ?_, ?_⟩
    · show (okD d && okDs r) = true
      rw [a.o, b1]
      rfl
    · show (d.showable && PyData.showableAll r) = true
      rw [a.s, b2]
      rfl
    · show d.shown.length + ((PyData.shownAll r).map (·.length)).sum ≤ B * (r.length + 1)
      have := a.l
      rw [Nat.mul_succ]
      omega
    · show (PyData.shownAll r).length + 1 = r.length + 1
      rw [b4]
    · show max d.depth (PyData.depthAll r) ≤ D
      have := a.dp
      omega
theorem sh_of_list {B D n : Nat} {ds : List PyData} (h : ∀ d ∈ ds, Sh B D d) (hl : ds.length ≤ n) : Sh (B * n + 2 * n + 3) (D + 1) (.list ds) := by
  obtain ⟨b1, b2, b3, b4, b5⟩ := shs_all h
  have m := Nat.mul_le_mul_left B hl
  refine ⟨b1, b2, ?_, ?_⟩
  · have q := listText_len_le (PyData.shownAll ds)
    show (listText (PyData.shownAll ds)).length ≤ _
    omega
  · show PyData.depthAll ds + 1 ≤ _
    omega
theorem sh_of_tuple {B D n : Nat} {ds : List PyData} (h : ∀ d ∈ ds, Sh B D d) (hl : ds.length ≤ n) : Sh (B * n + 2 * n + 3) (D + 1) (.tuple ds) := by
  obtain ⟨b1, b2, b3, b4, b5⟩ := shs_all h
  have m := Nat.mul_le_mul_left B hl
  refine ⟨b1, b2, ?_, ?_⟩
  · have q := tupleText_len_le (PyData.shownAll ds)
    show (tupleText (PyData.shownAll ds)).length ≤ _
    omega
  · show PyData.depthAll ds + 1 ≤ _
    omega
theorem str_len (s : String) : (Str.ofString s).length = s.length := by
  rw [Str.ofString_eq_toList]
  show ((s.toList.map Char.toNat).toArray).size = _
  rw [List.size_toArray, List.length_map, String.length_toList]
theorem sh_nat {n : Nat} (h : n < 10 ^ 40) : Sh 64 1 (.int (n : Int)) := by
  refine ⟨rfl, ?_, ?_, Nat.zero_le _⟩
  · show decide ((n : Int).natAbs.log2 < 1920) = true
    refine decide_eq_true ?_
    rw [Int.natAbs_natCast]
    by_cases h0 : n = 0
    · subst h0
      decide
    · rw [Nat.log2_lt h0]
      exact Nat.lt_of_lt_of_le h (by decide +kernel)
  · show (Str.ofString (toString (n : Int))).length ≤ 64
    rw [str_len]
    have e : toString (n : Int) = Nat.repr n := rfl
    rw [e]
    have := (Nat.length_repr_le_iff (n := n) (by decide : 0 < 40)).mpr h
    omega
theorem ev_repr {a : DTE} {δ : List Sl} {d : PyData} (ha : Ev a δ d) (r : Rep d) : Ev (dReprX a) δ (.str d.shown) := fun Q q => ha _ ⟨r.o, r.s, r.l, r.d, q⟩
theorem ne_same {a b : DTE} {δ : List Sl} {x : Str} {R : Bool → List Sl → Prop} (ha : Ev a δ (.str x)) (hb : Ev b δ (.str x)) (k : R false δ) : dTest (dOp dNeT a b) δ R := ha _ (hb _ (by
  show R (!(x == x)) δ
  rw [beq_self_eq_true]
  exact k))
section
variable [XW] {X : Cx} {K : PySem.W.Frag} {a b : Expr} {ta tb : TE} {ua ub : DTE} {pos : Pos}
theorem dt_notInI (hu : X.A.units + 65 < cLine) (ha : DE X a ta ua) (hb : DE X b tb ub) (hK : X.K = K := by rfl) (hm : behindInMarks .NotIn b = false := by rfl) : DT X (.Compare a [.NotIn] [b] pos) (tTest (tOp (rNotInD K) ta tb)) (dTest (dOp dNotIn ua ub)) := by
  subst hK
  exact dt_cmp (op_notInD hu) ro_notIn hm ha hb
end
end TL

set_option Elab.async false
set_option linter.all false
set_option maxRecDepth 100000
set_option maxHeartbeats 4000000
/-! K40e: the small defs -/
namespace K40
open PySem PySem.Spec L2 TL
def top (i : Nat) : Stmt := PySem.Challenge.pw_triesgrow_k40_useful_rooms.main.body.getD i (.Pass ⟨0, 0, 0, 0⟩)
abbrev s_is_whole : Stmt := top 3
theorem sc_is_whole : FnScope ["thing"] ["thing"] (defScope s_is_whole) := ⟨rfl, rfl, rfl, by decide +kernel, rfl, by decide +kernel, by decide +kernel⟩
abbrev s_is_sign : Stmt := top 4
theorem sc_is_sign : FnScope ["thing"] ["thing"] (defScope s_is_sign) := ⟨rfl, rfl, rfl, by decide +kernel, rfl, by decide +kernel, by decide +kernel⟩
abbrev s_is_room : Stmt := top 5
theorem sc_is_room : FnScope ["thing", "many"] ["thing", "many"] (defScope s_is_room) := ⟨rfl, rfl, rfl, by decide +kernel, rfl, by decide +kernel, by decide +kernel⟩
abbrev s_law_hand : Stmt := top 19
theorem sc_law_hand : FnScope ["_law_script", "_law_k", "_law_cell", "_law_seed"] ["_law_script", "_law_k"] (defScope s_law_hand) := ⟨rfl, rfl, rfl, by decide +kernel, rfl, by decide +kernel, by decide +kernel⟩
abbrev s_law_draw : Stmt := top 20
theorem sc_law_draw : FnScope ["_law_hand_here", "_law_size", "_law_found"] ["_law_hand_here", "_law_size"] (defScope s_law_draw) := ⟨rfl, rfl, rfl, by decide +kernel, rfl, by decide +kernel, by decide +kernel⟩
theorem kb_ii : kitB "int" "int" = some true := by decide +kernel
theorem kb_ib : kitB "int" "bool" = some false := by decide +kernel
def small (c : Nat) : Bool := decide (97 ≤ c) && decide (c ≤ 122)
def S_is_sign : DSp := fun as R => ∃ c, as = [.dat (.str ⟨#[c]⟩)] ∧ R (.bool (small c)) []
/-- how many small letters stand ahead, at most n -/
def sa : Nat → List Nat → Nat
  | 0, _ => 0
  | _, [] => 0
  | n + 1, c :: r => if small c then sa n r + 1 else 0
def S_signs : DSp := fun as R => ∃ z : Str, as = [.dat (.str z)] ∧ z.length ≤ sizeLine ∧ R (.int (sa 400 z.cps.toList : Nat)) []
theorem sa_word : ∀ (n : Nat) (l : List Nat), (sa n l = l.length) ↔ (l.length ≤ n ∧ l.all small = true)
  | 0, [] => by simp [sa]
  | 0, c :: r => by simp [sa]
  | n + 1, [] => by simp [sa]
  | n + 1, c :: r => by
    have ih := sa_word n r
    show (if small c = true then sa n r + 1 else 0) = r.length + 1 ↔ r.length + 1 ≤ n + 1 ∧ (small c && r.all small) = true
    by_cases h : small c = true
    · rw [if_pos h, h, Bool.true_and]
      constructor
      · intro e
        obtain ⟨a, b⟩ := ih.mp (by omega)
        exact ⟨by omega, b⟩
      · rintro ⟨a, b⟩
        have := ih.mpr ⟨by omega, b⟩
        omega
    · rw [if_neg h]
      constructor
      · intro e
        omega
      · rintro ⟨_, b⟩
        rw [Bool.and_eq_true] at b
        exact absurd b.1 h
/-- things that are no dicts and no errors -/
def plainD : PyData → Bool
  | .dict _ => false
  | _ => true
def isInt : PyData → Bool
  | .int _ => true
  | _ => false
theorem kb_ni : kitB "NoneType" "int" = some false := by decide +kernel
theorem kb_bi : kitB "bool" "int" = some true := by decide +kernel
theorem kb_si : kitB "str" "int" = some false := by decide +kernel
theorem kb_li : kitB "list" "int" = some false := by decide +kernel
theorem kb_ti : kitB "tuple" "int" = some false := by decide +kernel
def S_whole : DSp := fun as R => ∃ t, as = [.dat t] ∧ plainD t = true ∧ R (.bool (isInt t)) []
theorem mono_whole : MonoS S_whole := fun as R R' h ⟨t, a, b, k⟩ => ⟨t, a, b, h _ _ k⟩
theorem mono_is_sign : MonoS S_is_sign := fun as R R' h ⟨p, a, k⟩ => ⟨p, a, h _ _ k⟩
theorem mono_signs : MonoS S_signs := fun as R R' h ⟨p, a, b, k⟩ => ⟨p, a, b, h _ _ k⟩
def S_room : DSp := fun as R => ∃ i n : Int, as = [.dat (.int i), .dat (.int n)] ∧ R (.bool (decide (0 ≤ i) && decide (i < n))) []
theorem mono_room : MonoS S_room := fun as R R' h ⟨i, n, a, k⟩ => ⟨i, n, a, h _ _ k⟩
/-- a word -/
def okW (x : Str) : Prop := x.length ≤ 400 ∧ ∀ c ∈ x.cps.toList, small c = true
def S_word : DSp := fun as R => ∃ x, as = [.dat (.str x)] ∧ okW x ∧ R .none []
theorem mono_word : MonoS S_word := fun as R R' h ⟨x, a, b, k⟩ => ⟨x, a, b, h _ _ k⟩
def S_lroom : DSp := fun as R => ∃ i n : Int, as = [.dat (.int i), .dat (.int n)] ∧ 0 ≤ i ∧ i < n ∧ R .none []
theorem mono_lroom : MonoS S_lroom := fun as R R' h ⟨i, n, a, b, c, k⟩ => ⟨i, n, a, b, c, h _ _ k⟩
def S_one : DSp := fun as R => ∃ (i j : Int) (x : Str), as = [.dat (.int i), .dat (.str x), .dat (.int j)] ∧ R (.int 1) []
theorem mono_one : MonoS S_one := fun as R R' h ⟨i, j, x, a, k⟩ => ⟨i, j, x, a, h _ _ k⟩
theorem sq_if {c : DTT} {a rest : DTS} {E : DEnds} {δ : List Sl} (h : c δ fun b δ1 => if b = true then a { E with nx := rest E } δ1 else rest E δ1) : dSeq (dIfS c a dNext) rest E δ := h
theorem sq_asg {u : DTE} {g : DTG} {rest : DTS} {E : DEnds} {δ : List Sl} (h : u δ fun d δ1 => g d δ1 (rest E)) : dSeq (dAsg u g) rest E δ := h
theorem sq_drop {u : DTE} {rest : DTS} {E : DEnds} {δ : List Sl} (h : u δ fun _ δ1 => rest E δ1) : dSeq (dDrop u) rest E δ := h
section
variable {P : Program} {w : World} {K : PySem.W.Frag} {mg : Str → Option Value} {base : Heap}
variable (m_len : mg "len" = none) (m_isinstance : mg "isinstance" = none) (m_str : mg "str" = none) (m_bool : mg "bool" = none) (m_range : mg "range" = none) (m_int : mg "int" = none) (m_max : mg "max" = none) (m_min : mg "min" = none) (m_sum : mg "sum" = none) (m_set : mg "set" = none) (m_tuple : mg "tuple" = none) (m_list : mg "list" = none) (m_enumerate : mg "enumerate" = none)
include m_len m_isinstance m_str m_bool m_range m_int m_max m_min m_sum m_set m_tuple m_list m_enumerate
theorem ok_is_whole {f : Addr} {fd : FuncData} (F : Fun K "is_whole" "is_whole" s_is_whole f fd)  : FnOkG P w K mg base CX0 1 f fd ["thing"] (spD K S_whole) := by
  refine fnD F sc_is_whole (fun as R h => by obtain ⟨_, rfl, _⟩ := h; rfl) fun cdv A outer s H E hr => ?_
  have nd := sc_is_whole.nd
  have hu := hr.units
  have hu1 := hr.units1
  refine ⟨_, _, (dss_one (ds_ret (de_and (de_isi (T := "int") m_isinstance m_int (by decide +kernel) (de_var 0)) (de_one (de_not (de_isi (T := "bool") m_isinstance m_bool (by decide +kernel) (de_var 0))))))), ?_⟩
  rintro as R ⟨t, rfl, hp, hR⟩
  show dAndV (dIsi "int" (dVar 0)) (dNotV (dIsi "bool" (dVar 0))) [.dat t] _
  cases t <;> first
    | (cases hp; done)
    | (simp only [dAndV, dNotV, dIsi, dVar, tyD, List.getElem?_cons_zero, kb_ni, kb_bi, kb_ii, kb_si, kb_li, kb_ti, kb_ib, kb_bb, Bool.false_eq_true, if_false, if_true, ↓reduceIte, Bool.not_true, Bool.not_false]; exact ⟨[], hR, outs0⟩)
theorem ok_is_sign {f : Addr} {fd : FuncData} (F : Fun K "is_sign" "is_sign" s_is_sign f fd)  : FnOkG P w K mg base CX0 1 f fd ["thing"] (spD K S_is_sign) := by
  refine fnD F sc_is_sign (fun as R h => by obtain ⟨_, rfl, _⟩ := h; rfl) fun cdv A outer s H E hr => ?_
  have nd := sc_is_sign.nd
  have hu := hr.units
  have hu1 := hr.units1
  refine ⟨_, _, (dss_one (ds_ret (de_and (de_isi (T := "str") m_isinstance m_str (by decide +kernel) (de_var 0)) (de_and (de_cmp (op_eqD hu) ro_eq (nomark _) (de_len (ps := default) m_len (de_var 0)) de_int) (de_one (de_chain op_le_str ro_S op_le_str ro_S de_str (de_var 0) de_str)))))), ?_⟩
  rintro as R ⟨c, rfl, hR⟩
  simp [dRet, dRetNew, dAndV, dIsi, dVar, dOp, dEq, dNe, dLen, dC, dChain, dS, dI, dIC, dB, dIxV, slL, dSlScr, dCat, dLst, dCons, dNil, dPart, dNoPart, dIxL, dIxS, dAsg, dgName, dSeq, dIfS, dSetI, dTest, dInt1, cS, cD, cNil, dNext, tyD, kb_ss, kb_bb, sh_int, sh_bool, ev_ii, ev_bb, endsOf, endsNew, dAnd, dOr, dNot, cps_a, cps_z, lt_one', le_one', cps_one, at0, at1, ix20, ix21]
  refine ⟨nat_le_size (by show 1 ≤ 16777216; decide), ?_⟩
  have e1 : ((Str.mk #[c]).length : Int) = 1 := rfl
  rw [if_pos e1]
  unfold small at hR
  by_cases h1 : 97 ≤ c
  · rw [if_pos h1]
    rw [decide_eq_true h1, Bool.true_and] at hR
    have e2 : (!decide (122 < c)) = decide (c ≤ 122) := by
      by_cases h2 : c ≤ 122
      · rw [decide_eq_true h2, decide_eq_false (by omega)]
        rfl
      · rw [decide_eq_false h2, decide_eq_true (by omega)]
        rfl
    rw [e2]
    exact ⟨[], hR, outs0⟩
  · rw [if_neg h1]
    rw [decide_eq_false h1, Bool.false_and] at hR
    exact ⟨[], hR, outs0⟩
theorem ok_is_room {f : Addr} {fd : FuncData} (F : Fun K "is_room" "is_room" s_is_room f fd) (k_is_whole : Kn P w K mg base 1 "is_whole" S_whole) : FnOkG P w K mg base CX0 2 f fd ["thing", "many"] (spD K S_room) := by
  refine fnD F sc_is_room (fun as R h => by obtain ⟨_, _, rfl, _⟩ := h; rfl) fun cdv A outer s H E hr => ?_
  have nd := sc_is_room.nd
  have hu := hr.units
  have hu1 := hr.units1
  refine ⟨_, _, (dss_one (ds_ret (de_and (de_call k_is_whole hr (by omega) (dca_d (de_var 0) dca_nil)) (de_one (de_chain op_le ro_B op_lt ro_B de_int (de_var 0) (de_var 1)))))), ?_⟩
  rintro as R ⟨i, n, rfl, hR⟩
  show dAndV (dCall S_whole (cD (dVar 0) cNil)) (dChain (dB _) (dB _) (dC (.int 0)) (dVar 0) (dVar 1)) [.dat (.int i), .dat (.int n)] _
  refine call_pure2 [.int i] (fun Q z => z) mono_whole ⟨_, rfl, rfl, rfl, ?_⟩
  simp only [isInt, dChain, dC, dVar, dB, List.getElem?_cons_zero, List.getElem?_cons_succ, if_true]
  by_cases a : (0 : Int) ≤ i
  · simp only [a, decide_true, if_true, Bool.true_and] at hR ⊢
    exact ⟨[], hR, outs0⟩
  · simp only [a, decide_false, Bool.false_eq_true, if_false, Bool.false_and] at hR ⊢
    exact ⟨[], hR, outs0⟩
theorem ok_law_hand {f : Addr} {fd : FuncData} (F : Fun K "_law_hand" "_law_hand" s_law_hand f fd)  : FnOkG P w K mg base CX0 1 f fd ["_law_script", "_law_k"] (spN K S_hand) := by
  refine fnN F sc_law_hand (fun as R h => by obtain ⟨_, _, rfl, _⟩ := h; rfl) fun cdv A outer s H E hr => ?_
  have nd := sc_law_hand.nd
  have hu := hr.units
  have hu1 := hr.units1
  refine ⟨_, _, (dss_cons (ds_set 2 nd (de_ix ix_list ro_ixL (de_op op_cat ro_cat (de_slScr 0 (do_some (de_var 1)) (do_some (de_op op_add ro_I (de_var 1) de_int))) (de_lst (da_cons de_int da_nil))) de_int))
    (dss_cons (ds_set 3 nd (de_op op_mod ro_IC (de_op op_mul ro_IC (de_op op_add ro_I (de_op op_add ro_I (de_op op_mod ro_IC (de_var 2) de_int) (de_op op_mul ro_IC de_int (de_var 1))) de_int) de_int) de_int))
    (dss_one (ds_retNew (da_cons (de_op op_mul ro_IC (de_int1 m_int (de_cmp op_ge ro_B (nomark _) (de_var 2) (de_op op_pow ro_IC de_int de_int))) (de_var 2)) (da_cons (de_var 3) da_nil)))))), ?_⟩
  rintro as R ⟨ns, k, rfl, hl, hk, hR⟩
  obtain ⟨z, hz⟩ := cell_at ns (some k) (some (k + 1))
  obtain ⟨ms, he, hm⟩ := cutP_map ns (some k) (some (k + 1))
  have hlen : (cutP (List.map PyData.int ns) (some k) (some (k + 1))).length ≤ 63 := by
    rw [he, List.length_map]
    omega
  simp [dRet, dRetNew, dAndV, dIsi, dVar, dOp, dEq, dNe, dLen, dC, dChain, dS, dI, dIC, dB, dIxV, slL, dSlScr, dCat, dLst, dCons, dNil, dPart, dNoPart, dIxL, dIxS, dAsg, dgName, dSeq, dIfS, dSetI, dTest, dInt1, cS, cD, cNil, dNext, tyD, kb_ss, kb_bb, sh_int, sh_bool, ev_ii, ev_bb, endsOf, endsNew, dAnd, dOr, dNot, cps_a, cps_z, lt_one', le_one', cps_one, at0, at1, ix20, ix21, hz]
  refine ⟨nat_le_size (by decide), nat_le_size (by omega), .inl ⟨by decide, by decide⟩, .inr ⟨by decide, by decide⟩, ⟨by decide, by decide, by decide⟩, ?_, nat_le_size (by decide), [], ?_, outs0⟩
  · left
    split <;> exact ⟨by decide, by decide⟩
  · refine hR _ _ ?_ (Int.emod_nonneg _ (by decide)) (Int.lt_of_lt_of_le (Int.emod_lt_of_pos _ (by decide)) (by decide))
    split
    · rw [Int.one_mul]
      omega
    · rw [Int.zero_mul]
      exact Int.le_refl _
theorem ok_law_draw {f : Addr} {fd : FuncData} (F : Fun K "_law_draw" "_law_draw" s_law_draw f fd)  : FnOkG P w K mg base CX0 1 f fd ["_law_hand_here", "_law_size"] (spD K S_draw) := by
  refine fnD F sc_law_draw (fun as R h => by obtain ⟨_, _, _, rfl, _⟩ := h; rfl) fun cdv A outer s H E hr => ?_
  have nd := sc_law_draw.nd
  have hu := hr.units
  have hu1 := hr.units1
  refine ⟨_, _, (dss_cons (ds_if (dt_cmp op_gt ro_B (nomark _) (de_ixV 0 de_int) de_int) (dss_cons (ds_set 2 nd (de_op op_mod ro_IC (de_ixV 0 de_int) (de_var 1)))
    (dss_cons (ds_setI 0 (de_op op_fdiv ro_IC (de_ixV 0 de_int) (de_var 1)) de_int)
    (dss_one (ds_ret (de_var 2))))) dss_nil)
    (dss_cons (ds_setI 0 (de_op op_mod ro_IC (de_op op_add ro_I (de_op op_mul ro_IC (de_ixV 0 de_int) de_int) de_int) de_int) de_int)
    (dss_one (ds_ret (de_op op_mod ro_IC (de_op op_fdiv ro_IC (de_op op_mod ro_IC (de_op op_mul ro_IC (de_ixV 0 de_int) (de_ixV 0 de_int)) de_int) de_int) (de_var 1)))))), ?_⟩
  rintro as R ⟨x, y, n, rfl, hv, hn, hR⟩
  simp [dRet, dRetNew, dAndV, dIsi, dVar, dOp, dEq, dNe, dLen, dC, dChain, dS, dI, dIC, dB, dIxV, slL, dSlScr, dCat, dLst, dCons, dNil, dPart, dNoPart, dIxL, dIxS, dAsg, dgName, dSeq, dIfS, dSetI, dTest, dInt1, cS, cD, cNil, dNext, tyD, kb_ss, kb_bb, sh_int, sh_bool, ev_ii, ev_bb, endsOf, endsNew, dAnd, dOr, dNot, cps_a, cps_z, lt_one', le_one', cps_one, at0, at1, ix20, ix21]
  obtain ⟨h1, h2, h3⟩ := hv
  split
  · refine ⟨hn.1, ⟨hn.1, hn.2⟩, _, hR _ _ _ ⟨Int.emod_nonneg _ (by omega), Int.emod_lt_of_pos _ hn.1⟩ ⟨Int.ediv_nonneg h1 (by omega), h2, h3⟩, outs1 0 rfl⟩
  · have a1 := Int.emod_nonneg (y * 48271 + 11) (by decide : (2147483647 : Int) ≠ 0)
    have a2 := Int.emod_lt_of_pos (y * 48271 + 11) (by decide : (0 : Int) < 2147483647)
    refine ⟨.inr ⟨by decide, by decide⟩, .inl ⟨by omega, by omega⟩, ⟨by decide, by decide⟩, hn.1, _, hR _ _ _ ⟨Int.emod_nonneg _ (by omega), Int.emod_lt_of_pos _ hn.1⟩ ⟨h1, a1, by omega⟩, outs1 0 rfl⟩
end
end K40

set_option Elab.async false
set_option linter.all false
set_option maxRecDepth 100000
set_option maxHeartbeats 4000000
/-! K40f: machines, and how they are looked at -/
namespace K40
open PySem PySem.Spec L2 TL
abbrev s_look_at : Stmt := top 9
theorem sc_look_at : FnScope ["thing", "many", "firsts", "lasts", "steps"] ["thing"] (defScope s_look_at) := ⟨rfl, rfl, rfl, by decide +kernel, rfl, by decide +kernel, by decide +kernel⟩
abbrev s_look_at_rooms : Stmt := top 10
theorem sc_look_at_rooms : FnScope ["rooms", "many", "part", "least", "at", "room"] ["rooms", "many", "part"] (defScope s_look_at_rooms) := ⟨rfl, rfl, rfl, by decide +kernel, rfl, by decide +kernel, by decide +kernel⟩
abbrev s_look_at_steps : Stmt := top 11
theorem sc_look_at_steps : FnScope ["steps", "many", "seen", "at", "step"] ["steps", "many"] (defScope s_look_at_steps) := ⟨rfl, rfl, rfl, by decide +kernel, rfl, by decide +kernel, by decide +kernel⟩
abbrev s_is_step : Stmt := top 12
theorem sc_is_step : FnScope ["thing", "many", "room", "sign", "other"] ["thing", "many"] (defScope s_is_step) := ⟨rfl, rfl, rfl, by decide +kernel, rfl, by decide +kernel, by decide +kernel⟩
/-- turns over a list, by their number -/
theorem for_nth {g : DTG} {u : DTS} {E : DEnds} (ds : List PyData) (I : Nat → List Sl → Prop) (he : ∀ δ, I ds.length δ → E.nx δ)
    (hs : ∀ (n : Nat) (h : n < ds.length) δ, I n δ → ∀ M : List Sl → Prop, (∀ δ', I (n + 1) δ' → M δ') → g ds[n] δ fun δ1 => u { E with nx := M, ct := M, bk := E.nx } δ1) (δ : List Sl) (h0 : I 0 δ) : forW g u E ds δ := by
  have key : ∀ (r : List PyData) (n : Nat) (δ : List Sl), ds.drop n = r → n ≤ ds.length → I n δ → forW g u E r δ := by
    intro r
    induction r with
    | nil =>
      intro n δ e hn h
      have : n = ds.length := by
        have := congrArg List.length e
        rw [List.length_drop, List.length_nil] at this
        omega
      rw [this] at h
      exact he δ h
    | cons d r ih =>
      intro n δ e hn h
      have hlt : n < ds.length := by
        have := congrArg List.length e
        rw [List.length_drop, List.length_cons] at this
        omega
      rw [List.drop_eq_getElem_cons hlt] at e
      injection e with e1 e2
      subst e1
      exact hs n hlt δ h _ fun δ' h' => ih (n + 1) δ' e2 hlt h'
  exact key _ 0 δ (List.drop_zero) (Nat.zero_le _) h0
abbrev Sp3 := Nat × Nat × Nat
def stepK (s : Sp3) : List Key := [.inl (s.1 : Int), .inr ⟨#[s.2.1]⟩, .inl (s.2.2 : Int)]
def stepD (s : Sp3) : PyData := .tuple [.int (s.1 : Int), .str ⟨#[s.2.1]⟩, .int (s.2.2 : Int)]
theorem stepD_K (s : Sp3) : stepD s = keysD (stepK s) := rfl
theorem stepK_inj {s t : Sp3} (h : stepK s = stepK t) : s = t := by
  obtain ⟨a, b, c⟩ := s
  obtain ⟨a', b', c'⟩ := t
  simp [stepK] at h
  obtain ⟨h1, h2, h3⟩ := h
  have h1 : a = a' := by omega
  have h3 : c = c' := by omega
  rw [h1, h2, h3]
def nums (l : List Nat) : List PyData := l.map fun (i : Nat) => PyData.int (i : Int)
/-- a machine -/
structure Mc where
  n : Nat
  fs : List Nat
  ls : List Nat
  ss : List Sp3
def Mc.d (m : Mc) : PyData := .tuple [.int (m.n : Int), .list (nums m.fs), .list (nums m.ls), .list (m.ss.map stepD)]
def okR (n : Nat) (l : List Nat) : Prop := l.Pairwise (· < ·) ∧ ∀ i ∈ l, i < n
def okP (n : Nat) (s : Sp3) : Prop := s.1 < n ∧ small s.2.1 = true ∧ s.2.2 < n
def okS (n : Nat) (ss : List Sp3) : Prop := ss.length ≤ 40 ∧ ss.Nodup ∧ ∀ s ∈ ss, okP n s
structure Mc.ok (m : Mc) : Prop where
  n : 1 ≤ m.n ∧ m.n ≤ 12
  fs : okR m.n m.fs
  ls : okR m.n m.ls
  ss : okS m.n m.ss
def S_step : DSp := fun as R => ∃ (s : Sp3) (n : Nat), as = [.dat (stepD s), .dat (.int (n : Int))] ∧ okP n s ∧ R (.bool true) []
theorem mono_step : MonoS S_step := fun as R R' h ⟨i, n, a, b, k⟩ => ⟨i, n, a, b, h _ _ k⟩
def S_rooms : DSp := fun as R => ∃ (l : List Nat) (n : Nat) (x : Str), as = [.dat (.list (nums l)), .dat (.int (n : Int)), .dat (.str x)] ∧ okR n l ∧ R .none []
theorem mono_rooms : MonoS S_rooms := fun as R R' h ⟨i, n, x, a, b, k⟩ => ⟨i, n, x, a, b, h _ _ k⟩
def S_steps : DSp := fun as R => ∃ (ss : List Sp3) (n : Nat), as = [.dat (.list (ss.map stepD)), .dat (.int (n : Int))] ∧ okS n ss ∧ R .none []
theorem mono_steps : MonoS S_steps := fun as R R' h ⟨i, n, a, b, k⟩ => ⟨i, n, a, b, h _ _ k⟩
def S_look : DSp := fun as R => ∃ m : Mc, as = [.dat m.d] ∧ m.ok ∧ R .none []
theorem mono_look : MonoS S_look := fun as R R' h ⟨i, a, b, k⟩ => ⟨i, a, b, h _ _ k⟩
theorem kb_tt : kitB "tuple" "tuple" = some true := by decide +kernel
theorem kb_ll : kitB "list" "list" = some true := by decide +kernel
theorem tru2 {a b : Int} (h1 : 0 ≤ a) (h2 : a < b) : (decide (0 ≤ a) && decide (a < b)) = true := by
  rw [decide_eq_true h1, decide_eq_true h2]
  rfl
section
variable {P : Program} {w : World} {K : PySem.W.Frag} {mg : Str → Option Value} {base : Heap}
variable (m_len : mg "len" = none) (m_isinstance : mg "isinstance" = none) (m_str : mg "str" = none) (m_bool : mg "bool" = none) (m_range : mg "range" = none) (m_int : mg "int" = none) (m_max : mg "max" = none) (m_min : mg "min" = none) (m_sum : mg "sum" = none) (m_set : mg "set" = none) (m_tuple : mg "tuple" = none) (m_list : mg "list" = none) (m_enumerate : mg "enumerate" = none)
include m_len m_isinstance m_str m_bool m_range m_int m_max m_min m_sum m_set m_tuple m_list m_enumerate
theorem ok_is_step {f : Addr} {fd : FuncData} (F : Fun K "is_step" "is_step" s_is_step f fd) (k_is_sign : Kn P w K mg base 1 "is_sign" S_is_sign) (k_is_room : Kn P w K mg base 2 "is_room" S_room) : FnOkG P w K mg base CX0 3 f fd ["thing", "many"] (spD K S_step) := by
  refine fnD F sc_is_step (fun as R h => by obtain ⟨_, _, rfl, _⟩ := h; rfl) fun cdv A outer s H E hr => ?_
  have nd := sc_is_step.nd
  have hu := hr.units
  have hu1 := hr.units1
  refine ⟨_, _, (dss_cons (ds_if (dt_w (dw_or (dt_not (dt_val (de_isi (T := "tuple") m_isinstance m_tuple (by decide +kernel) (de_var 0)))) (dw_or1 (dt_cmp (op_neD hu) ro_ne (nomark _) (de_len (ps := default) m_len (de_var 0)) de_int)))) (dss_one (ds_ret de_bl)) dss_nil)
    (dss_cons (ds_setTup (de_var 0) (dg_tup rfl (dgs_cons (dg_name 2 nd) (dgs_cons (dg_name 3 nd) (dgs_cons (dg_name 4 nd) dgs_nil)))))
    (dss_one (ds_ret (de_and (de_call k_is_room hr (by omega) (dca_d (de_var 2) (dca_d (de_var 1) dca_nil))) (de_and (de_call k_is_sign hr (by omega) (dca_d (de_var 3) dca_nil)) (de_one (de_call k_is_room hr (by omega) (dca_d (de_var 4) (dca_d (de_var 1) dca_nil)))))))))), ?_⟩
  rintro as R ⟨s, n, rfl, ⟨h1, h2, h3⟩, hR⟩
  refine sq_if ?_
  simp only [dOr, dNot, dTest, dIsi, dVar, tyD, stepD, List.cons_append, List.nil_append, List.getElem?_cons_zero, kb_tt, Bool.not_true, Bool.false_eq_true, if_false, dOp, dNe, dLen, dC]
  refine ⟨rfl, rfl, ?_⟩
  simp only [List.length_cons, List.length_nil, ev_ii]
  show dSeq (dAsg (dVar 0) (dgTup 3 (dgCons (dgName 2) (dgCons (dgName 3) (dgCons (dgName 4) dgNil))))) _ _ _
  refine sq_asg (var_at rfl ⟨rfl, ?_⟩)
  show dAndV (dCall S_room (cD (dVar 2) (cD (dVar 1) cNil))) (dAndV (dCall S_is_sign (cD (dVar 3) cNil)) (dCall S_room (cD (dVar 4) (cD (dVar 1) cNil)))) [.dat (stepD s), .dat (.int n), .dat (.int s.1), .dat (.str ⟨#[s.2.1]⟩), .dat (.int s.2.2)] _
  refine call_pure2 [.int s.1, .int n] (fun Q z => z) mono_room ⟨_, _, rfl, rfl, ?_⟩
  rw [tru2 (by omega) (by omega)]
  simp only [↓reduceIte]
  refine call_pure2 [.str ⟨#[s.2.1]⟩] (fun Q z => z) mono_is_sign ⟨_, rfl, rfl, ?_⟩
  rw [h2]
  simp only [↓reduceIte]
  refine call_pure2 [.int s.2.2, .int n] (fun Q z => z) mono_room ⟨_, _, rfl, rfl, ?_⟩
  rw [tru2 (by omega) (by omega)]
  exact ⟨[], hR, outs0⟩
theorem ok_look_at_rooms {f : Addr} {fd : FuncData} (F : Fun K "look_at_rooms" "look_at_rooms" s_look_at_rooms f fd) (k_is_room : Kn P w K mg base 2 "is_room" S_room) : FnOkG P w K mg base CX0 3 f fd ["rooms", "many", "part"] (spD K S_rooms) := by
  refine fnD F sc_look_at_rooms (fun as R h => by obtain ⟨_, _, _, rfl, _⟩ := h; rfl) fun cdv A outer s H E hr => ?_
  have nd := sc_look_at_rooms.nd
  have hu := hr.units
  have hu1 := hr.units1
  refine ⟨_, _, (dss_cons (ds_if (dt_not (dt_val (de_isi (T := "list") m_isinstance m_list (by decide +kernel) (de_var 0)))) (dss_one ds_never) dss_nil)
    (dss_cons (ds_set 3 nd de_int)
    (dss_one (ds_for PassesOwn.never rfl (di_enum m_enumerate (de_var 0)) (dg_tup rfl (dgs_cons (dg_name 4 nd) (dgs_cons (dg_name 5 nd) dgs_nil)))
    (dss_cons (ds_if (dt_w (dw_or (dt_not (dt_val (de_call k_is_room hr (by omega) (dca_d (de_var 5) (dca_d (de_var 1) dca_nil))))) (dw_or1 (dt_cmp op_lt ro_B (nomark _) (de_var 5) (de_var 3))))) (dss_one ds_never) dss_nil)
    (dss_one (ds_set 3 nd (de_op op_add ro_I (de_var 5) de_int)))))))), ?_⟩
  rintro as R ⟨l, n, x, rfl, ⟨h1, h2⟩, hR⟩
  refine sq_if ?_
  simp only [dNot, dTest, dIsi, dVar, tyD, List.cons_append, List.nil_append, List.getElem?_cons_zero, kb_ll, Bool.not_true, Bool.false_eq_true, if_false]
  refine sq_asg ?_
  show dFor (diEnum (dVar 0)) (dgTup 2 (dgCons (dgName 4) (dgCons (dgName 5) dgNil))) _ _ [.dat (.list (nums l)), .dat (.int n), .dat (.str x), .dat (.int 0), .no, .no]
  show forW _ _ _ (enumD (nums l)) _
  have len : (enumD (nums l)).length = l.length := by rw [enumD_len]; exact List.length_map _
  refine for_nth (enumD (nums l)) (fun k δ => ∃ (lo : Int) (a r : Sl), δ = [.dat (.list (nums l)), .dat (.int n), .dat (.str x), .dat (.int lo), a, r] ∧ ∀ h : k < l.length, lo ≤ (l[k] : Int)) ?_ ?_ _ ⟨0, .no, .no, rfl, fun h => by omega⟩
  · rintro δ ⟨lo, a, r, rfl, _⟩
    exact ⟨[], hR, outs0⟩
  · rintro k hk δ ⟨lo, a, r, rfl, hlo⟩ M hM
    have hkl : k < l.length := by rw [← len]; exact hk
    obtain ⟨y, hy, e⟩ := enumD_get (List.getElem?_eq_getElem hk)
    have ey : y = .int (l[k] : Int) := by
      unfold nums at hy
      rw [List.getElem?_map, List.getElem?_eq_getElem hkl] at hy
      exact (Option.some.inj hy).symm
    subst ey
    rw [e]
    refine ⟨rfl, ?_⟩
    show dSeq (dIfS (dOr (dNot (dTest (dCall S_room (cD (dVar 5) (cD (dVar 1) cNil))))) (dTest (dOp (dB fun i j => decide (i < j)) (dVar 5) (dVar 3)))) _ dNext) _ _ [.dat (.list (nums l)), .dat (.int n), .dat (.str x), .dat (.int lo), .dat (.int (k : Nat)), .dat (.int (l[k] : Int))]
    refine sq_if ?_
    simp only [dOr, dNot, dTest]
    refine call_pure2 [.int (l[k] : Int), .int n] (fun Q z => z) mono_room ⟨_, _, rfl, rfl, ?_⟩
    have hin := h2 l[k] (List.getElem_mem hkl)
    rw [tru2 (by omega) (by omega)]
    have hlo := hlo hkl
    simp only [Bool.not_true, Bool.false_eq_true, if_false, dOp, dVar, dB, List.getElem?_cons_succ, List.getElem?_cons_zero, decide_eq_false (show ¬ (l[k] : Int) < lo by omega)]
    refine hM _ ⟨(l[k] : Int) + 1, _, _, rfl, fun h => ?_⟩
    have := List.pairwise_iff_getElem.mp h1 k (k + 1) hkl h (Nat.lt_succ_self k)
    omega
theorem ok_look_at_steps {f : Addr} {fd : FuncData} (F : Fun K "look_at_steps" "look_at_steps" s_look_at_steps f fd) (g_STEPS_MOST : ∃ tk, mg "STEPS_MOST" = some (.int 200 tk)) (k_is_step : Kn P w K mg base 3 "is_step" S_step) : FnOkG P w K mg base CX0 4 f fd ["steps", "many"] (spD K S_steps) := by
  refine fnD F sc_look_at_steps (fun as R h => by obtain ⟨_, _, rfl, _⟩ := h; rfl) fun cdv A outer s H E hr => ?_
  have nd := sc_look_at_steps.nd
  have hu := hr.units
  have hu1 := hr.units1
  refine ⟨_, _, (dss_cons (ds_if (dt_w (dw_or (dt_not (dt_val (de_isi (T := "list") m_isinstance m_list (by decide +kernel) (de_var 0)))) (dw_or1 (dt_cmp op_gt ro_B (nomark _) (de_lenV 0 m_len) (de_gint rfl g_STEPS_MOST))))) (dss_one ds_never) dss_nil)
    (dss_cons (ds_newSet 2 nd m_set)
    (dss_one (ds_for PassesOwn.never rfl (di_enum m_enumerate (de_var 0)) (dg_tup rfl (dgs_cons (dg_name 3 nd) (dgs_cons (dg_name 4 nd) dgs_nil)))
    (dss_cons (ds_if (dt_w (dw_or (dt_not (dt_val (de_call k_is_step hr (by omega) (dca_d (de_var 4) (dca_d (de_var 1) dca_nil))))) (dw_or1 (dt_inSet 2 hu1 (de_var 4))))) (dss_one ds_never) dss_nil)
    (dss_one (ds_addSet 2 hu1 (de_var 4)))))))), ?_⟩
  rintro as R ⟨ss, n, rfl, ⟨h0, h1, h2⟩, hR⟩
  refine sq_if ?_
  simp only [dOr, dNot, dTest, dIsi, dVar, tyD, List.cons_append, List.nil_append, List.getElem?_cons_zero, kb_ll, Bool.not_true, Bool.false_eq_true, if_false, dOp, dLenV, slL, dC, dB]
  have ll : (ss.map stepD).length = ss.length := List.length_map _
  rw [ll]
  simp only [decide_eq_false (show ¬ ((ss.length : Nat) : Int) > 200 by omega), Bool.false_eq_true, if_false]
  show forW (dgTup 2 (dgCons (dgName 3) (dgCons (dgName 4) dgNil))) _ _ (enumD (ss.map stepD)) [.dat (.list (ss.map stepD)), .dat (.int n), .box (boxSet _ _ []), .no, .no]
  have len : (enumD (ss.map stepD)).length = ss.length := by rw [enumD_len]; exact ll
  refine for_nth (enumD (ss.map stepD)) (fun k δ => ∃ (ks : List (List Key)) (a r : Sl), δ = [.dat (.list (ss.map stepD)), .dat (.int n), .box (boxSet _ _ ks), a, r] ∧ ks.length = k ∧ ∀ y ∈ ks, ∃ (j : Nat) (hj : j < ss.length), j < k ∧ y = stepK ss[j]) ?_ ?_ _ ⟨[], .no, .no, rfl, rfl, fun y h => by cases h⟩
  · rintro δ ⟨ks, a, r, rfl, _⟩
    exact ⟨[], hR, outs0⟩
  · rintro k hk δ ⟨ks, a, r, rfl, hl, hks⟩ M hM
    have hkl : k < ss.length := by rw [← len]; exact hk
    obtain ⟨y, hy, e⟩ := enumD_get (List.getElem?_eq_getElem hk)
    have ey : y = stepD ss[k] := by
      rw [List.getElem?_map, List.getElem?_eq_getElem hkl] at hy
      exact (Option.some.inj hy).symm
    subst ey
    rw [e]
    refine ⟨rfl, ?_⟩
    show dSeq (dIfS (dOr (dNot (dTest (dCall S_step (cD (dVar 4) (cD (dVar 1) cNil))))) (dTest (dInSet _ _ 2 (dVar 4)))) _ dNext) (dAddSet _ _ 2 (dVar 4)) _ [.dat (.list (ss.map stepD)), .dat (.int n), .box (boxSet _ _ ks), .dat (.int (k : Nat)), .dat (stepD ss[k])]
    have new : stepK ss[k] ∉ ks := fun z => by
      obtain ⟨j, hj, hjk, e⟩ := hks _ z
      exact List.pairwise_iff_getElem.mp h1 j k hj hkl hjk (stepK_inj e).symm
    refine sq_if ?_
    simp only [dOr, dNot, dTest]
    refine call_pure2 [stepD ss[k], .int n] (fun Q z => z) mono_step ⟨_, _, rfl, h2 _ (List.getElem_mem hkl), rfl, ?_⟩
    simp only [Bool.not_true, Bool.false_eq_true, if_false]
    refine var_at rfl ⟨ks, stepK ss[k], rfl, rfl, fun b hb => ?_⟩
    have eb : b = false := by
      cases b with
      | false => rfl
      | true => exact absurd (hb.mp rfl) new
    subst eb
    simp only [Bool.false_eq_true, if_false]
    refine ⟨⟨ks, rfl⟩, var_at rfl ⟨ks, stepK ss[k], rfl, rfl, by omega, new, ?_⟩⟩
    refine hM _ ⟨stepK ss[k] :: ks, _, _, rfl, by rw [List.length_cons, hl], fun y hy => ?_⟩
    rcases List.mem_cons.mp hy with z | z
    · exact ⟨k, hkl, Nat.lt_succ_self k, z⟩
    · obtain ⟨j, hj, hjk, e⟩ := hks y z
      exact ⟨j, hj, Nat.lt_succ_of_lt hjk, e⟩
theorem ok_look_at {f : Addr} {fd : FuncData} (F : Fun K "look_at" "look_at" s_look_at f fd) (g_ROOMS_MOST : ∃ tk, mg "ROOMS_MOST" = some (.int 12 tk)) (k_is_whole : Kn P w K mg base 1 "is_whole" S_whole) (k_look_at_rooms : Kn P w K mg base 3 "look_at_rooms" S_rooms) (k_look_at_steps : Kn P w K mg base 4 "look_at_steps" S_steps) : FnOkG P w K mg base CX0 5 f fd ["thing"] (spD K S_look) := by
  refine fnD F sc_look_at (fun as R h => by obtain ⟨_, rfl, _⟩ := h; rfl) fun cdv A outer s H E hr => ?_
  have nd := sc_look_at.nd
  have hu := hr.units
  have hu1 := hr.units1
  refine ⟨_, _, (dss_cons (ds_if (dt_w (dw_or (dt_not (dt_val (de_isi (T := "tuple") m_isinstance m_tuple (by decide +kernel) (de_var 0)))) (dw_or1 (dt_cmp (op_neD hu) ro_ne (nomark _) (de_len (ps := default) m_len (de_var 0)) de_int)))) (dss_one ds_never) dss_nil)
    (dss_cons (ds_setTup (de_var 0) (dg_tup rfl (dgs_cons (dg_name 1 nd) (dgs_cons (dg_name 2 nd) (dgs_cons (dg_name 3 nd) (dgs_cons (dg_name 4 nd) dgs_nil))))))
    (dss_cons (ds_if (dt_w (dw_or (dt_not (dt_val (de_call k_is_whole hr (by omega) (dca_d (de_var 1) dca_nil)))) (dw_or1 (dt_not (dt_chain op_le ro_B op_le ro_B de_int (de_var 1) (de_gint rfl g_ROOMS_MOST)))))) (dss_one ds_never) dss_nil)
    (dss_cons (ds_expr (de_call k_look_at_rooms hr (by omega) (dca_d (de_var 2) (dca_d (de_var 1) (dca_d de_str dca_nil)))))
    (dss_cons (ds_expr (de_call k_look_at_rooms hr (by omega) (dca_d (de_var 3) (dca_d (de_var 1) (dca_d de_str dca_nil)))))
    (dss_one (ds_expr (de_call k_look_at_steps hr (by omega) (dca_d (de_var 4) (dca_d (de_var 1) dca_nil)))))))))), ?_⟩
  rintro as R ⟨m, rfl, ⟨h1, h2, h3, h4⟩, hR⟩
  refine sq_if ?_
  simp only [dOr, dNot, dTest, dIsi, dVar, tyD, Mc.d, List.cons_append, List.nil_append, List.getElem?_cons_zero, kb_tt, Bool.not_true, Bool.false_eq_true, if_false, dOp, dNe, dLen, dC]
  refine ⟨rfl, rfl, ?_⟩
  simp only [List.length_cons, List.length_nil, ev_ii]
  show dSeq (dAsg (dVar 0) (dgTup 4 (dgCons (dgName 1) (dgCons (dgName 2) (dgCons (dgName 3) (dgCons (dgName 4) dgNil)))))) _ _ _
  refine sq_asg (var_at rfl ⟨rfl, ?_⟩)
  show dSeq (dIfS (dOr (dNot (dTest (dCall S_whole (cD (dVar 1) cNil)))) (dNot (dTest (dChain (dB _) (dB _) (dC (.int 1)) (dVar 1) (dC (.int 12)))))) _ dNext) _ _ [.dat m.d, .dat (.int m.n), .dat (.list (nums m.fs)), .dat (.list (nums m.ls)), .dat (.list (m.ss.map stepD))]
  refine sq_if ?_
  simp only [dOr, dNot, dTest]
  refine call_pure2 [.int m.n] (fun Q z => z) mono_whole ⟨_, rfl, rfl, rfl, ?_⟩
  simp only [isInt, Bool.not_true, Bool.false_eq_true, if_false, dChain, dC, dVar, dB, List.getElem?_cons_succ, List.getElem?_cons_zero, decide_eq_true (show (1 : Int) ≤ (m.n : Int) by omega), decide_eq_true (show (m.n : Int) ≤ 12 by omega), if_true]
  refine sq_drop (call_pure2 [.list (nums m.fs), .int m.n, _] (fun Q z => z) mono_rooms ⟨_, _, _, rfl, h2, rfl, ?_⟩)
  refine sq_drop (call_pure2 [.list (nums m.ls), .int m.n, _] (fun Q z => z) mono_rooms ⟨_, _, _, rfl, h3, rfl, ?_⟩)
  refine call_pure2 [.list (m.ss.map stepD), .int m.n] (fun Q z => z) mono_steps ⟨_, _, rfl, h4, rfl, ?_⟩
  exact ⟨[], hR, outs0⟩
end
end K40

set_option Elab.async false
set_option linter.all false
set_option maxRecDepth 100000
set_option maxHeartbeats 4000000
/-! K40g: the steps by their signs -/
namespace K40
open PySem PySem.Spec L2 TL
/-- a comprehension that changes nothing, over data of things -/
theorem lc_of {α : Type} {vs : List Nat} {g : DTG} {t : DTT} {u : DTE} {R : List PyData → List Sl → Prop} (p : α → Bool) (F D : α → PyData) {δ0 : List Sl} (h00 : wipeS δ0 vs = δ0) : ∀ (xs : List α) (acc : List PyData), acc.length + xs.length ≤ 16777216 →
    (∀ x ∈ xs, ∀ (Y : PyData → List Sl → Prop) (N : List Sl → Prop), (p x = true → ∀ δ3, wipeS δ3 vs = δ0 → Y (F x) δ3) → (p x = false → ∀ δ2, wipeS δ2 vs = δ0 → N δ2) → g (D x) δ0 (fun δ1 => t δ1 fun b δ2 => if b = true then u δ2 Y else N δ2)) →
    R (acc ++ (xs.filter p).map F) δ0 → lcW vs g t u R (xs.map D) acc δ0
  | [], acc, hl, hs, k => by
    rw [List.filter_nil, List.map_nil, List.append_nil] at k
    exact k
  | x :: r, acc, hl, hs, k => by
    rw [List.length_cons] at hl
    show g (D x) (wipeS δ0 vs) fun δ1 => t δ1 fun b δ2 => if b = true then u δ2 fun y δ3 => acc.length < sizeLine ∧ lcW vs g t u R (r.map D) (acc ++ [y]) (wipeS δ3 vs) else lcW vs g t u R (r.map D) acc (wipeS δ2 vs)
    rw [h00]
    refine hs x List.mem_cons_self (fun y δ3 => acc.length < sizeLine ∧ lcW vs g t u R (r.map D) (acc ++ [y]) (wipeS δ3 vs)) _ (fun hp δ3 h3 => ⟨by rw [sizeLine_eq]; omega, ?_⟩) (fun hp δ2 h2 => ?_)
    · rw [h3]
      refine lc_of p F D h00 r (acc ++ [F x]) (by rw [List.length_append, List.length_singleton]; omega) (fun y hy => hs y (List.mem_cons_of_mem _ hy)) ?_
      rw [List.filter_cons, if_pos hp, List.map_cons] at k
      rw [List.append_assoc]
      exact k
    · rw [h2]
      refine lc_of p F D h00 r acc (by omega) (fun y hy => hs y (List.mem_cons_of_mem _ hy)) ?_
      rw [List.filter_cons, if_neg (by rw [hp]; decide)] at k
      exact k
def ky (c : Nat) : Key := .inr ⟨#[c]⟩
theorem ky_inj {a b : Nat} (h : ky a = ky b) : a = b := by
  injection h with h
  injection h with h
  simpa using h
theorem ky_iff {a b : Nat} : (ky a = ky b) ↔ a = b := ⟨ky_inj, fun h => by rw [h]⟩
abbrev E3 := List (Nat × List Sp3)
def img (es : E3) : List (Key × List PyData) := es.map fun p => (ky p.1, p.2.map stepD)
def at3 : E3 → Nat → Option (List Sp3)
  | [], _ => none
  | p :: r, c => if p.1 = c then some p.2 else at3 r c
def app3 (s : Sp3) : E3 → E3
  | [] => []
  | p :: r => if p.1 = s.2.1 then (p.1, p.2 ++ [s]) :: r else p :: app3 s r
def new3 : List Nat → E3 → E3
  | [], acc => acc
  | c :: r, acc => new3 r (if (acc.any fun p => decide (p.1 = c)) = true then acc else acc ++ [(c, [])])
def by3 : List Sp3 → E3 → E3
  | [], es => es
  | s :: r, es => by3 r (if (at3 es s.2.1).isSome = true then app3 s es else es)
theorem kvAt_img (c : Nat) : ∀ es : E3, kvAt (img es) (ky c) = (at3 es c).map fun l => l.map stepD
  | [] => rfl
  | p :: r => by
    have ih := kvAt_img c r
    unfold kvAt at ih ⊢
    show ((List.find? _ ((ky p.1, p.2.map stepD) :: img r)).map Prod.snd) = Option.map _ (if p.1 = c then some p.2 else at3 r c)
    rw [List.find?_cons]
    by_cases h : p.1 = c
    · subst h
      simp
    · have h' : ¬ ky p.1 = ky c := fun z => h (ky_inj z)
      rw [if_neg h, decide_eq_false h']
      exact ih
theorem kvApp_img (s : Sp3) : ∀ es : E3, kvApp (ky s.2.1) (stepD s) (img es) = img (app3 s es)
  | [] => rfl
  | p :: r => by
    show (if ky p.1 = ky s.2.1 then (ky p.1, p.2.map stepD ++ [stepD s]) :: img r else (ky p.1, p.2.map stepD) :: kvApp (ky s.2.1) (stepD s) (img r)) = img (if p.1 = s.2.1 then (p.1, p.2 ++ [s]) :: r else p :: app3 s r)
    rw [kvApp_img s r]
    by_cases h : p.1 = s.2.1
    · rw [if_pos h, if_pos (by rw [h])]
      unfold img
      rw [List.map_cons, List.map_append]
      rfl
    · rw [if_neg h, if_neg fun z => h (ky_inj z)]
      rfl
theorem any_img (c : Nat) : ∀ acc : E3, ((img acc).any fun p => decide (p.1 = ky c)) = acc.any fun p => decide (p.1 = c)
  | [] => rfl
  | p :: r => by
    show (decide (ky p.1 = ky c) || ((img r).any fun p => decide (p.1 = ky c))) = (decide (p.1 = c) || _)
    rw [any_img c r]
    congr 1
    exact decide_eq_decide.mpr ky_iff
theorem newL_img : ∀ (l : List Nat) (acc : E3), newL (l.map ky) (img acc) = img (new3 l acc)
  | [], acc => rfl
  | c :: r, acc => by
    show newL (r.map ky) (if ((img acc).any fun p => decide (p.1 = ky c)) = true then img acc else img acc ++ [(ky c, [])]) = img (new3 r _)
    rw [any_img]
    rw [← newL_img r]
    split
    · rfl
    · congr 1
      unfold img
      rw [List.map_append]
      rfl
theorem at3_app (s : Sp3) (c : Nat) : ∀ es : E3, at3 (app3 s es) c = if s.2.1 = c then (at3 es c).map (· ++ [s]) else at3 es c
  | [] => by
    show none = _
    split <;> rfl
  | p :: r => by
    show at3 (if p.1 = s.2.1 then (p.1, p.2 ++ [s]) :: r else p :: app3 s r) c = if s.2.1 = c then (if p.1 = c then some p.2 else at3 r c).map (· ++ [s]) else (if p.1 = c then some p.2 else at3 r c)
    by_cases h : p.1 = s.2.1
    · rw [if_pos h]
      show (if p.1 = c then some (p.2 ++ [s]) else at3 r c) = _
      by_cases hc : s.2.1 = c
      · rw [if_pos hc, if_pos (h.trans hc), if_pos (h.trans hc)]
        rfl
      · rw [if_neg hc]
        have : ¬ p.1 = c := fun z => hc (h.symm.trans z)
        rw [if_neg this, if_neg this]
    · rw [if_neg h]
      show (if p.1 = c then some p.2 else at3 (app3 s r) c) = _
      rw [at3_app s c r]
      by_cases hc : s.2.1 = c
      · have : ¬ p.1 = c := fun z => h (z.trans hc.symm)
        rw [if_neg this, if_neg this, if_pos hc]
      · rw [if_neg hc, if_neg hc]
theorem keys_app (s : Sp3) : ∀ es : E3, (app3 s es).map Prod.fst = es.map Prod.fst
  | [] => rfl
  | p :: r => by
    show (if p.1 = s.2.1 then (p.1, p.2 ++ [s]) :: r else p :: app3 s r).map Prod.fst = _
    split
    · rfl
    · rw [List.map_cons, List.map_cons, keys_app s r]
theorem at3_mem {c : Nat} : ∀ {es : E3}, (at3 es c).isSome = true ↔ c ∈ es.map Prod.fst
  | [] => by simp [at3]
  | p :: r => by
    have ih := at3_mem (c := c) (es := r)
    show (if p.1 = c then some p.2 else at3 r c).isSome = true ↔ _
    rw [List.map_cons, List.mem_cons]
    by_cases h : p.1 = c
    · rw [if_pos h]
      exact ⟨fun _ => .inl h.symm, fun _ => rfl⟩
    · rw [if_neg h, ih]
      exact ⟨.inr, fun z => z.elim (fun z => absurd z.symm h) id⟩
theorem any_mem {c : Nat} {es : E3} : (es.any fun p => decide (p.1 = c)) = true ↔ c ∈ es.map Prod.fst := by
  rw [List.any_eq_true, List.mem_map]
  constructor
  · rintro ⟨e, he, h⟩
    exact ⟨e, he, of_decide_eq_true h⟩
  · rintro ⟨e, he, h⟩
    exact ⟨e, he, decide_eq_true h⟩
/-- made new: each key once, all empty -/
theorem new3_ok : ∀ (l : List Nat) (acc : E3), (acc.map Prod.fst).Nodup → (∀ p ∈ acc, p.2 = []) → ((new3 l acc).map Prod.fst).Nodup ∧ (∀ p ∈ new3 l acc, p.2 = []) ∧ ∀ c, c ∈ (new3 l acc).map Prod.fst ↔ c ∈ l ∨ c ∈ acc.map Prod.fst
  | [], acc, h1, h2 => ⟨h1, h2, fun c => ⟨.inr, fun z => z.elim (fun z => by cases z) id⟩⟩
  | x :: r, acc, h1, h2 => by
    show ((new3 r (if (acc.any fun p => decide (p.1 = x)) = true then acc else acc ++ [(x, [])])).map Prod.fst).Nodup ∧ _
    by_cases h : (acc.any fun p => decide (p.1 = x)) = true
    · obtain ⟨a, b, d⟩ := new3_ok r acc h1 h2
      rw [show new3 (x :: r) acc = new3 r (if (acc.any fun p => decide (p.1 = x)) = true then acc else acc ++ [(x, [])]) from rfl, if_pos h]
      refine ⟨a, b, fun c => ?_⟩
      rw [d c, List.mem_cons]
      constructor
      · rintro (z | z)
        · exact .inl (.inr z)
        · exact .inr z
      · rintro ((z | z) | z)
        · rw [z]
          exact .inr (any_mem.mp h)
        · exact .inl z
        · exact .inr z
    · have nx : x ∉ acc.map Prod.fst := fun z => h (any_mem.mpr z)
      obtain ⟨a, b, d⟩ := new3_ok r (acc ++ [(x, [])]) (by
        rw [List.map_append]
        exact List.nodup_append.mpr ⟨h1, List.nodup_cons.mpr ⟨List.not_mem_nil, List.nodup_nil⟩, fun a ha b hb z => nx (by
          have hb : b = x := List.mem_singleton.mp hb
          rw [← hb, ← z]
          exact ha)⟩) (fun p hp => by
        rcases List.mem_append.mp hp with z | z
        · exact h2 p z
        · rw [List.mem_singleton.mp z])
      rw [show new3 (x :: r) acc = new3 r (if (acc.any fun p => decide (p.1 = x)) = true then acc else acc ++ [(x, [])]) from rfl, if_neg h]
      refine ⟨a, b, fun c => ?_⟩
      rw [d c, List.mem_cons, List.map_append, List.mem_append]
      constructor
      · rintro (z | z | z)
        · exact .inl (.inr z)
        · exact .inr z
        · exact .inl (.inl (List.mem_singleton.mp z))
      · rintro ((z | z) | z)
        · exact .inr (.inr (by rw [z]; exact List.mem_singleton.mpr rfl))
        · exact .inl z
        · exact .inr (.inl z)
theorem new3_at {l : List Nat} {c : Nat} (h : c ∈ l) : at3 (new3 l []) c = some [] := by
  obtain ⟨a, b, d⟩ := new3_ok l [] List.nodup_nil (fun p hp => by cases hp)
  have hc := (d c).mpr (.inl h)
  cases q : at3 (new3 l []) c with
  | none =>
    have := at3_mem.mpr hc
    rw [q] at this
    cases this
  | some v =>
    have key : ∀ es : E3, (∀ p ∈ es, p.2 = []) → at3 es c = some v → v = [] := fun es => by
      induction es with
      | nil => exact fun _ z => by cases z
      | cons p r ih =>
        intro hp z
        have z : (if p.1 = c then some p.2 else at3 r c) = some v := z
        by_cases h : p.1 = c
        · rw [if_pos h] at z
          rw [← Option.some.inj z]
          exact hp p List.mem_cons_self
        · rw [if_neg h] at z
          exact ih (fun p' h' => hp p' (List.mem_cons_of_mem _ h')) z
    rw [key _ b q]
theorem by3_keys : ∀ (ss : List Sp3) (es : E3), (by3 ss es).map Prod.fst = es.map Prod.fst
  | [], es => rfl
  | s :: r, es => by
    show (by3 r _).map Prod.fst = _
    rw [by3_keys r]
    split
    · exact keys_app s es
    · rfl
theorem by3_at : ∀ (ss : List Sp3) (es : E3) (c : Nat) (l : List Sp3), at3 es c = some l → at3 (by3 ss es) c = some (l ++ ss.filter fun s => decide (s.2.1 = c))
  | [], es, c, l, h => by
    rw [List.filter_nil, List.append_nil]
    exact h
  | s :: r, es, c, l, h => by
    show at3 (by3 r (if (at3 es s.2.1).isSome = true then app3 s es else es)) c = _
    by_cases hc : s.2.1 = c
    · have hs : (at3 es s.2.1).isSome = true := by
        rw [hc, h]
        rfl
      rw [if_pos hs, by3_at r (app3 s es) c (l ++ [s]) (by rw [at3_app, if_pos hc, h]; rfl), List.filter_cons, if_pos (decide_eq_true hc), List.append_assoc]
      rfl
    · have e : (s :: r).filter (fun s => decide (s.2.1 = c)) = r.filter fun s => decide (s.2.1 = c) := by
        rw [List.filter_cons, if_neg (by rw [decide_eq_false hc]; exact fun z => by cases z)]
      rw [e]
      refine by3_at r _ c l ?_
      split
      · rw [at3_app, if_neg hc, h]
      · exact h
theorem app3_len (s : Sp3) (k : Nat) : ∀ es : E3, (∀ p ∈ es, p.2.length ≤ k) → ∀ p ∈ app3 s es, p.2.length ≤ k + 1
  | [], h, p, hp => by cases hp
  | q :: r, h, p, hp => by
    have hp : p ∈ (if q.1 = s.2.1 then (q.1, q.2 ++ [s]) :: r else q :: app3 s r) := hp
    have h1 := h q List.mem_cons_self
    split at hp
    · rcases List.mem_cons.mp hp with z | z
      · rw [z]
        show (q.2 ++ [s]).length ≤ k + 1
        rw [List.length_append, List.length_singleton]
        omega
      · have := h p (List.mem_cons_of_mem _ z)
        omega
    · rcases List.mem_cons.mp hp with z | z
      · rw [z]
        omega
      · exact app3_len s k r (fun p' h' => h p' (List.mem_cons_of_mem _ h')) p z
theorem at3_len {c k : Nat} {l : List Sp3} : ∀ {es : E3}, (∀ p ∈ es, p.2.length ≤ k) → at3 es c = some l → l.length ≤ k
  | [], h, q => by cases q
  | p :: r, h, q => by
    have q : (if p.1 = c then some p.2 else at3 r c) = some l := q
    split at q
    · rw [← Option.some.inj q]
      exact h p List.mem_cons_self
    · exact at3_len (es := r) (fun p' h' => h p' (List.mem_cons_of_mem _ h')) q
def byS (x : Str) (ss : List Sp3) : E3 := by3 ss (new3 x.cps.toList [])
def S_by : DSp := fun as R => ∃ (ss : List Sp3) (x : Str), as = [.dat (.list (ss.map stepD)), .dat (.str x)] ∧ x.length ≤ 400 ∧ ss.length ≤ 40 ∧ R (.dict (kvL (img (byS x ss)))) []
/-- a step as a move -/
def mvD (s : Sp3) : PyData := .tuple [.int (s.1 : Int), .int (s.2.2 : Int), .int 1]
def mvs (es : E3) : List (Key × PyData) := es.map fun p => (ky p.1, .list (p.2.map mvD))
def S_moves (f : Addr) : DSp := fun as R => ∃ (ss : List Sp3) (x : Str), as = [.dat (.list (ss.map stepD)), .dat (.str x), .dat (fnvD f)] ∧ x.length ≤ 400 ∧ ss.length ≤ 40 ∧ R (.dict (kvD (mvs (byS x ss)))) []
theorem mono_moves (f : Addr) : MonoS (S_moves f) := fun as R R' h ⟨i, n, a, b, c, k⟩ => ⟨i, n, a, b, c, h _ _ k⟩
theorem byS_keys (x : Str) (ss : List Sp3) : ((byS x ss).map Prod.fst).Nodup := by
  unfold byS
  rw [by3_keys]
  exact (new3_ok x.cps.toList [] List.nodup_nil (fun p hp => by cases hp)).1
theorem by3_len : ∀ (ss : List Sp3) (es : E3) (k : Nat), (∀ p ∈ es, p.2.length ≤ k) → ∀ p ∈ by3 ss es, p.2.length ≤ k + ss.length
  | [], es, k, h, p, hp => h p hp
  | s :: r, es, k, h, p, hp => by
    have z := by3_len r (if (at3 es s.2.1).isSome = true then app3 s es else es) (k + 1) (fun p hp => by
      split at hp
      · exact app3_len s k es h p hp
      · have := h p hp
        omega) p hp
    rw [List.length_cons]
    omega
theorem byS_len (x : Str) (ss : List Sp3) : ∀ p ∈ byS x ss, p.2.length ≤ ss.length := fun p hp => by
  have z := by3_len ss (new3 x.cps.toList []) 0 (fun p hp => by
    rw [(new3_ok x.cps.toList [] List.nodup_nil (fun p hp => by cases hp)).2.1 p hp]
    exact Nat.le_refl _) p hp
  omega
theorem new3_few : ∀ (l : List Nat) (acc : E3), (new3 l acc).length ≤ acc.length + l.length
  | [], acc => Nat.le_refl _
  | c :: r, acc => by
    have z := new3_few r (if (acc.any fun p => decide (p.1 = c)) = true then acc else acc ++ [(c, [])])
    rw [List.length_cons]
    show (new3 r (if (acc.any fun p => decide (p.1 = c)) = true then acc else acc ++ [(c, [])])).length ≤ _
    split at z
    · rename_i h
      rw [if_pos h]
      omega
    · rename_i h
      rw [if_neg h]
      rw [List.length_append, List.length_singleton] at z
      omega
theorem byS_few (x : Str) (ss : List Sp3) : (byS x ss).length ≤ x.length := by
  have e := congrArg List.length (by3_keys ss (new3 x.cps.toList []))
  rw [List.length_map, List.length_map] at e
  have z := new3_few x.cps.toList []
  have lx : x.cps.toList.length = x.length := by rw [Array.length_toList]; rfl
  show (by3 ss (new3 x.cps.toList [])).length ≤ _
  rw [e, ← lx]
  simpa using z
theorem kvPut_new {α : Type} {kvs : List (Key × α)} {k : Key} {x : α} (h : k ∉ kvs.map Prod.fst) : kvPut kvs k x = kvs ++ [(k, x)] := by
  unfold kvPut
  rw [if_neg]
  intro z
  obtain ⟨e, he, q⟩ := List.any_eq_true.mp z
  exact h (List.mem_map.mpr ⟨e, he, of_decide_eq_true q⟩)
/-- what stands under a sign -/
theorem mvs_at {x : Str} {ss : List Sp3} {c : Nat} (h : c ∈ x.cps.toList) : kvAt (mvs (byS x ss)) (ky c) = some (.list ((ss.filter fun s => decide (s.2.1 = c)).map mvD)) := by
  have z := by3_at ss (new3 x.cps.toList []) c [] (new3_at h)
  rw [List.nil_append] at z
  have key : ∀ es : E3, kvAt (mvs es) (ky c) = (at3 es c).map fun l => .list (l.map mvD) := fun es => by
    induction es with
    | nil => rfl
    | cons p r ih =>
      unfold kvAt at ih ⊢
      show ((List.find? _ ((ky p.1, PyData.list (p.2.map mvD)) :: mvs r)).map Prod.snd) = Option.map _ (if p.1 = c then some p.2 else at3 r c)
      rw [List.find?_cons]
      by_cases h : p.1 = c
      · subst h
        simp
      · have h' : ¬ ky p.1 = ky c := fun z => h (ky_inj z)
        rw [if_neg h, decide_eq_false h']
        exact ih
  rw [key]
  show Option.map _ (at3 (by3 ss (new3 x.cps.toList [])) c) = _
  rw [z]
  rfl
theorem mono_by : MonoS S_by := fun as R R' h ⟨i, n, a, b, c, k⟩ => ⟨i, n, a, b, c, h _ _ k⟩
section
variable {P : Program} {w : World} {K : PySem.W.Frag} {mg : Str → Option Value} {base : Heap}
variable (m_len : mg "len" = none) (m_isinstance : mg "isinstance" = none) (m_str : mg "str" = none) (m_bool : mg "bool" = none) (m_range : mg "range" = none) (m_int : mg "int" = none) (m_max : mg "max" = none) (m_min : mg "min" = none) (m_sum : mg "sum" = none) (m_set : mg "set" = none) (m_tuple : mg "tuple" = none) (m_list : mg "list" = none) (m_enumerate : mg "enumerate" = none)
include m_len m_isinstance m_str m_bool m_range m_int m_max m_min m_sum m_set m_tuple m_list m_enumerate
end
end K40

set_option Elab.async false
set_option linter.all false
set_option maxRecDepth 100000
set_option maxHeartbeats 4000000
/-! K40h: a row of ways, and the next -/
namespace K40
open PySem PySem.Spec L2 TL
def inz (v : List Int) : List PyData := v.map PyData.int
theorem inz_len (v : List Int) : (inz v).length = v.length := List.length_map _
theorem nums_len (v : List Nat) : (nums v).length = v.length := List.length_map _
theorem ix_nat {n i : Nat} (h : i < n) : ixN n (i : Int) = some i := by
  unfold ixN
  rw [if_pos (by omega), if_pos (by omega)]
  rfl
theorem at_inz {v : List Int} {i : Nat} (h : i < v.length) : atI (inz v) (i : Int) = some (.int (v.getD i 0)) := by
  unfold atI
  rw [inz_len, ix_nat h]
  show (inz v)[i]? = _
  unfold inz
  rw [List.getElem?_map, List.getElem?_eq_getElem h, List.getD_eq_getElem?_getD, List.getElem?_eq_getElem h]
  rfl
/-- moved along steps, one after another -/
def mvd (v : List Int) : List Sp3 → List Int → List Int
  | [], acc => acc
  | s :: r, acc => mvd v r (acc.set s.2.2 (acc.getD s.2.2 0 + v.getD s.1 0))
def S_moved : DSp := fun as R => ∃ (v : List Int) (ms : List Sp3), as = [.dat (.list (inz v)), .dat (.list (ms.map mvD))] ∧ (∀ s ∈ ms, s.1 < v.length ∧ s.2.2 < v.length) ∧ ms.length ≤ 40 ∧ v.length ≤ 12 ∧ R (.list (inz (mvd v ms (List.replicate v.length 0)))) []
theorem mono_moved : MonoS S_moved := fun as R R' h ⟨v, ms, a, b, c, d, k⟩ => ⟨v, ms, a, b, c, d, h _ _ k⟩
def one (n : Nat) (l : List Nat) : List Int := (List.range n).map fun i => if i ∈ l then 1 else 0
def S_oneat : DSp := fun as R => ∃ (l : List Nat) (n : Nat), as = [.dat (.list (nums l)), .dat (.int (n : Int))] ∧ n ≤ 12 ∧ R (.list (inz (one n l))) []
theorem mono_oneat : MonoS S_oneat := fun as R R' h ⟨v, ms, a, b, k⟩ => ⟨v, ms, a, b, h _ _ k⟩
def shr (v : List Int) (l : List Nat) : Int := (l.map fun i => v.getD i 0).sum
def S_share : DSp := fun as R => ∃ (v : List Int) (l : List Nat), as = [.dat (.list (inz v)), .dat (.list (nums l))] ∧ (∀ i ∈ l, i < v.length) ∧ l.length ≤ 12 ∧ R (.int (shr v l)) []
theorem mono_share : MonoS S_share := fun as R R' h ⟨v, ms, a, b, c, k⟩ => ⟨v, ms, a, b, c, h _ _ k⟩
def rwi (v : List Int) : List Nat := (List.range v.length).filter fun i => decide (v.getD i 0 > 0)
def S_rwith : DSp := fun as R => ∃ (v : List Int), as = [.dat (.list (inz v))] ∧ v.length ≤ 12 ∧ R (.list (nums (rwi v))) []
theorem mono_rwith : MonoS S_rwith := fun as R R' h ⟨v, a, b, k⟩ => ⟨v, a, b, h _ _ k⟩
theorem mvd_len (v : List Int) : ∀ (ms : List Sp3) (acc : List Int), (mvd v ms acc).length = acc.length
  | [], acc => rfl
  | s :: r, acc => by
    show (mvd v r _).length = _
    rw [mvd_len v r, List.length_set]
theorem sh_nums (l : List Nat) : SeqAt.shaped (.list (nums l)) = true := by
  have a : PyData.canLayAll0 (nums l) = true ∧ PyData.depthAll (nums l) = 0 := by
    induction l with
    | nil => exact ⟨rfl, rfl⟩
    | cons c r ih =>
      constructor
      · show (PyData.canLay0 (.int (c : Int)) && PyData.canLayAll0 (nums r)) = true
        rw [ih.1]
        rfl
      · show max (PyData.depth (.int (c : Int))) (PyData.depthAll (nums r)) = 0
        rw [ih.2]
        rfl
  unfold SeqAt.shaped
  rw [Bool.and_eq_true]
  refine ⟨a.1, decide_eq_true ?_⟩
  show PyData.depthAll _ + 1 ≤ 64
  rw [a.2]
  decide
theorem any_nums (i : Nat) : ∀ l : List Nat, ((nums l).any fun z => PyData.eqv z (.int (i : Int))) = decide (i ∈ l)
  | [] => rfl
  | c :: r => by
    show (PyData.eqv (.int (c : Int)) (.int (i : Int)) || (nums r).any _) = _
    rw [any_nums i r, ev_ii, Bool.eq_iff_iff, Bool.or_eq_true, decide_eq_true_iff, decide_eq_true_iff, List.mem_cons, beq_iff_eq]
    constructor
    · rintro (h | h)
      · exact .inl (by omega)
      · exact .inr h
    · rintro (h | h)
      · exact .inl (by omega)
      · exact .inr h
theorem iota_nat (n : Nat) : iotaD 0 ((n : Int)).toNat = (List.range n).map fun (i : Nat) => PyData.int (i : Int) := by
  unfold iotaD
  rw [Int.toNat_natCast]
  refine List.map_congr_left fun i _ => ?_
  rw [Int.zero_add]
section
variable {P : Program} {w : World} {K : PySem.W.Frag} {mg : Str → Option Value} {base : Heap}
variable (m_len : mg "len" = none) (m_isinstance : mg "isinstance" = none) (m_str : mg "str" = none) (m_bool : mg "bool" = none) (m_range : mg "range" = none) (m_int : mg "int" = none) (m_max : mg "max" = none) (m_min : mg "min" = none) (m_sum : mg "sum" = none) (m_set : mg "set" = none) (m_tuple : mg "tuple" = none) (m_list : mg "list" = none) (m_enumerate : mg "enumerate" = none)
include m_len m_isinstance m_str m_bool m_range m_int m_max m_min m_sum m_set m_tuple m_list m_enumerate
end
end K40

set_option Elab.async false
set_option linter.all false
set_option maxRecDepth 100000
set_option maxHeartbeats 4000000
/-! K40i: rows of ways, sign by sign -/
namespace K40
open PySem PySem.Spec L2 TL
def nextV (m : Mc) (v : List Int) (c : Nat) : List Int := mvd v (m.ss.filter fun s => decide (s.2.1 = c)) (List.replicate v.length 0)
def rowsOf (m : Mc) : List Nat → List Int → List (List Int)
  | [], v => [v]
  | c :: r, v => v :: rowsOf m r (nextV m v c)
def endV (m : Mc) : List Nat → List Int → List Int
  | [], v => v
  | c :: r, v => endV m r (nextV m v c)
def rowD (rs : List (List Int)) : List PyData := rs.map fun v => PyData.list (inz v)
theorem nextV_len (m : Mc) (v : List Int) (c : Nat) : (nextV m v c).length = v.length := by
  unfold nextV
  rw [mvd_len, List.length_replicate]
theorem rows_tail (m : Mc) (l : List Nat) (v : List Int) : rowsOf m l v = v :: (rowsOf m l v).tail := by
  cases l <;> rfl
theorem rows_len (m : Mc) : ∀ (l : List Nat) (v : List Int), (rowsOf m l v).length = l.length + 1
  | [], v => rfl
  | c :: r, v => by
    show (rowsOf m r _).length + 1 = _
    rw [rows_len m r]
    rfl
theorem rows_each (m : Mc) : ∀ (l : List Nat) (v : List Int), ∀ r ∈ rowsOf m l v, r.length = v.length
  | [], v, r, h => by rw [List.mem_singleton.mp h]
  | c :: l, v, r, h => by
    rcases List.mem_cons.mp h with h | h
    · rw [h]
    · rw [rows_each m l _ r h, nextV_len]
theorem rows_last (m : Mc) : ∀ (l : List Nat) (v : List Int), (rowsOf m l v).getLast? = some (endV m l v)
  | [], v => rfl
  | c :: r, v => by
    have ih := rows_last m r (nextV m v c)
    show (v :: rowsOf m r (nextV m v c)).getLast? = some (endV m r (nextV m v c))
    rw [rows_tail m r] at ih ⊢
    rw [List.getLast?_cons_cons]
    exact ih
theorem endV_len (m : Mc) : ∀ (l : List Nat) (v : List Int), (endV m l v).length = v.length
  | [], v => rfl
  | c :: r, v => by
    show (endV m r _).length = _
    rw [endV_len m r, nextV_len]
theorem one_len (n : Nat) (l : List Nat) : (one n l).length = n := by
  unfold one
  rw [List.length_map, List.length_range]
theorem at_last {l : List PyData} {d : PyData} (h : l.getLast? = some d) : atI l (-1) = some d := by
  have hl : 0 < l.length := by
    cases l with
    | nil => cases h
    | cons => exact Nat.succ_pos _
  rw [List.getLast?_eq_getElem?] at h
  have e : ixN l.length (-1) = some (l.length - 1) := by
    unfold ixN
    rw [if_neg (by decide), if_pos (by omega)]
    congr 1
    omega
  unfold atI
  rw [e]
  exact h
theorem at_rows (m : Mc) (l : List Nat) (v : List Int) : atI (rowD (rowsOf m l v)) (-1) = some (.list (inz (endV m l v))) := by
  apply at_last
  unfold rowD
  rw [List.getLast?_map, rows_last]
  rfl
theorem Mc.ok.mv {m : Mc} (h : m.ok) (c : Nat) : (∀ s ∈ m.ss.filter (fun s => decide (s.2.1 = c)), s.1 < m.n ∧ s.2.2 < m.n) ∧ (m.ss.filter fun s => decide (s.2.1 = c)).length ≤ 40 := by
  refine ⟨fun s hs => ?_, ?_⟩
  · have z := h.ss.2.2 s ((List.mem_filter.mp hs).1)
    exact ⟨z.1, z.2.2⟩
  · have a := List.length_filter_le (fun s : Sp3 => decide (s.2.1 = c)) m.ss
    have b := h.ss.1
    omega
def S_vecs (fw : Addr) : DSp := fun as R => ∃ (m : Mc) (x : Str) (l : List Nat), as = [.dat m.d, .dat (.str x), .dat (.list (nums l)), .dat (fnvD fw)] ∧ m.ok ∧ okW x ∧ R (.list (rowD (rowsOf m x.cps.toList (one m.n l)))) []
theorem mono_vecs (fw : Addr) : MonoS (S_vecs fw) := fun as R R' h ⟨v, ms, l, a, b, c, k⟩ => ⟨v, ms, l, a, b, c, h _ _ k⟩
def S_counts : DSp := fun as R => ∃ (m : Mc) (x : Str), as = [.dat m.d, .dat (.str x)] ∧ m.ok ∧ okW x ∧ R (.list (inz (endV m x.cps.toList (one m.n m.fs)))) []
theorem mono_counts : MonoS S_counts := fun as R R' h ⟨v, ms, a, b, c, k⟩ => ⟨v, ms, a, b, c, h _ _ k⟩
def S_begs : DSp := fun as R => ∃ (m : Mc) (x : Str), as = [.dat m.d, .dat (.str x)] ∧ m.ok ∧ okW x ∧ R (.list (inz ((rowsOf m x.cps.toList (one m.n m.fs)).map List.sum))) []
theorem mono_begs : MonoS S_begs := fun as R R' h ⟨v, ms, a, b, c, k⟩ => ⟨v, ms, a, b, c, h _ _ k⟩
def S_reach : DSp := fun as R => ∃ (m : Mc) (x : Str), as = [.dat m.d, .dat (.str x)] ∧ m.ok ∧ okW x ∧ R (.list (nums (rwi (endV m x.cps.toList (one m.n m.fs))))) []
theorem mono_reach : MonoS S_reach := fun as R R' h ⟨v, ms, a, b, c, k⟩ => ⟨v, ms, a, b, c, h _ _ k⟩
def optD : Option Nat → PyData
  | none => .none
  | some i => .int (i : Int)
def optL (o : Option Nat) (l : List Nat) : List Nat := match o with
  | none => l
  | some i => [i]
def S_ways : DSp := fun as R => ∃ (m : Mc) (x : Str) (f g : Option Nat), as = [.dat m.d, .dat (.str x), .dat (optD f), .dat (optD g)] ∧ m.ok ∧ okW x ∧ (∀ i ∈ f, i < m.n) ∧ (∀ i ∈ g, i < m.n) ∧ R (.int (shr (endV m x.cps.toList (one m.n (optL f m.fs))) (optL g m.ls))) []
theorem mono_ways : MonoS S_ways := fun as R R' h ⟨m, x, f, g, a, b, c, d, e, k⟩ => ⟨m, x, f, g, a, b, c, d, e, h _ _ k⟩
theorem okR_len {n : Nat} {l : List Nat} (h : okR n l) : l.length ≤ n := by
  have key : ∀ (l : List Nat) (lo : Nat), l.Pairwise (· < ·) → (∀ i ∈ l, lo ≤ i ∧ i < n) → l.length + lo ≤ n ∨ l = [] := by
    intro l
    induction l with
    | nil => exact fun _ _ _ => .inr rfl
    | cons a r ih =>
      intro lo hp hb
      obtain ⟨h1, h2⟩ := List.pairwise_cons.mp hp
      have ha := hb a List.mem_cons_self
      left
      rcases ih (a + 1) h2 (fun i hi => ⟨h1 i hi, (hb i (List.mem_cons_of_mem _ hi)).2⟩) with z | z
      · rw [List.length_cons]
        omega
      · rw [z]
        show 0 + 1 + lo ≤ n
        omega
  rcases key l 0 h.1 fun i hi => ⟨Nat.zero_le _, h.2 i hi⟩ with z | z
  · omega
  · rw [z]
    exact Nat.zero_le _
section
variable {P : Program} {w : World} {K : PySem.W.Frag} {mg : Str → Option Value} {base : Heap}
variable (m_len : mg "len" = none) (m_isinstance : mg "isinstance" = none) (m_str : mg "str" = none) (m_bool : mg "bool" = none) (m_range : mg "range" = none) (m_int : mg "int" = none) (m_max : mg "max" = none) (m_min : mg "min" = none) (m_sum : mg "sum" = none) (m_set : mg "set" = none) (m_tuple : mg "tuple" = none) (m_list : mg "list" = none) (m_enumerate : mg "enumerate" = none)
include m_len m_isinstance m_str m_bool m_range m_int m_max m_min m_sum m_set m_tuple m_list m_enumerate
end
end K40

set_option Elab.async false
set_option linter.all false
set_option maxRecDepth 100000
set_option maxHeartbeats 8000000
/-! K40j: what the law draws -/
namespace K40
open PySem PySem.Spec L2 TL
abbrev s_law_rooms : Stmt := top 21
theorem sc_law_rooms : FnScope ["_law_hand_here", "_law_size", "_law_some", "_law_room"] ["_law_hand_here", "_law_size"] (defScope s_law_rooms) := ⟨rfl, rfl, rfl, by decide +kernel, rfl, by decide +kernel, by decide +kernel⟩
abbrev s_law_letters : Stmt := top 22
theorem sc_law_letters : FnScope ["_law_hand_here"] ["_law_hand_here"] (defScope s_law_letters) := ⟨rfl, rfl, rfl, by decide +kernel, rfl, by decide +kernel, by decide +kernel⟩
abbrev s_law_machine : Stmt := top 23
theorem sc_law_machine : FnScope ["_law_hand_here", "_law_upto", "_law_extra", "_law_letters_here", "_law_rooms_here", "_law_firsts", "_law_lasts", "_law_steps", "_law_k", "_law_step"] ["_law_hand_here", "_law_upto", "_law_extra", "_law_letters_here"] (defScope s_law_machine) := ⟨rfl, rfl, rfl, by decide +kernel, rfl, by decide +kernel, by decide +kernel⟩
theorem mono_draw : MonoS S_draw := fun as R R' h ⟨x, y, n, a, b, c, k⟩ => ⟨x, y, n, a, b, c, fun r x' y' d e => h _ _ (k r x' y' d e)⟩
/-- turns that are counted -/
theorem for_len {g : DTG} {u : DTS} {E : DEnds} (I : Nat → List Sl → Prop) (N : Nat) (he : ∀ δ, I N δ → E.nx δ) : ∀ (ds : List PyData) (n : Nat) (δ : List Sl), n + ds.length = N → I n δ →
    (∀ d ∈ ds, ∀ n δ, n < N → I n δ → ∀ M : List Sl → Prop, (∀ δ', I (n + 1) δ' → M δ') → g d δ fun δ1 => u { E with nx := M, ct := M, bk := E.nx } δ1) → forW g u E ds δ
  | [], n, δ, hn, hi, _ => he δ (by rw [List.length_nil, Nat.add_zero] at hn; rw [← hn]; exact hi)
  | d :: r, n, δ, hn, hi, hs => by
    rw [List.length_cons] at hn
    exact hs d List.mem_cons_self n δ (by omega) hi _ fun δ' h' => for_len I N he r (n + 1) δ' (by omega) h' fun d' hd' => hs d' (List.mem_cons_of_mem _ hd')
def S_lrooms : DSp := fun as R => ∃ (x y : Int) (n : Nat), as = [.own (some 0) [.int x, .int y], .dat (.int (n : Int))] ∧ okH x y ∧ (1 ≤ n ∧ n ≤ 12) ∧ ∀ (l : List Nat) (x' y' : Int), okR n l → okH x' y' → R (.list (nums l)) [[.int x', .int y']]
theorem mono_lrooms : MonoS S_lrooms := fun as R R' h ⟨x, y, n, a, b, c, k⟩ => ⟨x, y, n, a, b, c, fun l x' y' d e => h _ _ (k l x' y' d e)⟩
theorem rooms_turns {R : List PyData → List Sl → Prop} {t : Option Nat} {b s2 : Sl} {n : Nat} (hn : n ≤ 12) : ∀ (m k : Nat) (a : List Nat) (x y : Int) (s : Sl), k + m = n → okH x y → a.Pairwise (· < ·) → (∀ i ∈ a, i < k) →
    (∀ (a' : List Nat) (x' y' : Int) (s' : Sl), okR n a' → okH x' y' → R (nums a') [.own t [.int x', .int y'], b, s2, s']) →
    lcW [3] (dgName 3) (dTest (dOp dEq (dCall S_draw (cS 0 (cD (dC (.int 3)) cNil))) (dC (.int 0)))) (dVar 3) R ((List.range' k m).map fun (i : Nat) => PyData.int (i : Int)) (nums a) [.own t [.int x, .int y], b, s2, s]
  | 0, k, a, x, y, s, hk, hv, hp, hb, h => h a x y s ⟨hp, fun i hi => by have := hb i hi; omega⟩ hv
  | m + 1, k, a, x, y, s, hk, hv, hp, hb, h => by
    rw [List.range'_succ, List.map_cons]
    simp only [lcW, dgName, wipeS, List.set_cons_succ, List.set_cons_zero, ↓reduceIte, dTest, dOp, dC]
    refine call_draw (i := 0) (t := t) (n := 3) rfl hv ⟨by decide, by decide⟩ (fun Q q => q) fun r x' y' hr hv' => ?_
    refine ⟨rfl, rfl, ?_⟩
    simp only [ev_ii, List.set_cons_zero]
    have la : a.length ≤ 12 := Nat.le_trans (okR_len (n := n) ⟨hp, fun i hi => by have := hb i hi; omega⟩) hn
    by_cases h0 : r = 0
    · rw [if_pos (by rw [h0]; rfl)]
      refine var_at (i := 3) (d := .int (k : Int)) rfl ⟨by rw [nums_len, sizeLine_eq]; omega, ?_⟩
      have e2 : nums a ++ [PyData.int (k : Int)] = nums (a ++ [k]) := by
        unfold nums
        rw [List.map_append]
        rfl
      rw [e2]
      refine rooms_turns hn m (k + 1) (a ++ [k]) x' y' _ (by omega) hv' ?_ (fun i hi => ?_) h
      · rw [List.pairwise_append]
        refine ⟨hp, List.pairwise_singleton _ _, fun i hi j hj => ?_⟩
        rw [List.mem_singleton.mp hj]
        exact hb i hi
      · rcases List.mem_append.mp hi with z | z
        · have := hb i z
          omega
        · rw [List.mem_singleton.mp z]
          omega
    · rw [if_neg (by rw [beq_iff_eq]; exact h0)]
      exact rooms_turns hn m (k + 1) a x' y' _ (by omega) hv' hp (fun i hi => by have := hb i hi; omega) h
/-- letters to draw from -/
def okL (z : Str) : Prop := (1 ≤ z.length ∧ z.length ≤ 3) ∧ ∀ c ∈ z.cps.toList, small c = true
def S_lletters : DSp := fun as R => ∃ x y : Int, as = [.own (some 0) [.int x, .int y]] ∧ okH x y ∧ ∀ (z : Str) (x' y' : Int), okL z → okH x' y' → R (.str z) [[.int x', .int y']]
theorem mono_lletters : MonoS S_lletters := fun as R R' h ⟨x, y, a, b, k⟩ => ⟨x, y, a, b, fun l x' y' d e => h _ _ (k l x' y' d e)⟩
theorem okL_all : ∀ z ∈ ([Str.ofString "ab", Str.ofString "ab", Str.ofString "abc", Str.ofString "qz", Str.ofString "mpx", Str.ofString "a"] : List Str), okL z := by
  unfold okL
  decide +kernel
theorem letters_at {r : Int} (h : 0 ≤ r ∧ r < 6) : ∃ z : Str, okL z ∧ atI ([.str (Str.ofString "ab"), .str (Str.ofString "ab"), .str (Str.ofString "abc"), .str (Str.ofString "qz"), .str (Str.ofString "mpx"), .str (Str.ofString "a")] : List PyData) r = some (.str z) := by
  have e : r = 0 ∨ r = 1 ∨ r = 2 ∨ r = 3 ∨ r = 4 ∨ r = 5 := by omega
  rcases e with rfl | rfl | rfl | rfl | rfl | rfl
  · exact ⟨_, okL_all (Str.ofString "ab") (by simp), rfl⟩
  · exact ⟨_, okL_all (Str.ofString "ab") (by simp), rfl⟩
  · exact ⟨_, okL_all (Str.ofString "abc") (by simp), rfl⟩
  · exact ⟨_, okL_all (Str.ofString "qz") (by simp), rfl⟩
  · exact ⟨_, okL_all (Str.ofString "mpx") (by simp), rfl⟩
  · exact ⟨_, okL_all (Str.ofString "a") (by simp), rfl⟩
theorem small_lt {c : Nat} (h : small c = true) : c < 1114112 := by
  unfold small at h
  rw [Bool.and_eq_true] at h
  have := of_decide_eq_true h.2
  omega
theorem okL_at {z : Str} (h : okL z) {r : Int} (hr : 0 ≤ r ∧ r < (z.length : Int)) : ∃ c, small c = true ∧ atI z.cps.toList r = some c := by
  have lz : z.cps.toList.length = z.length := by rw [Array.length_toList]; rfl
  have hl : r.toNat < z.cps.toList.length := by rw [lz]; omega
  refine ⟨z.cps.toList[r.toNat], h.2 _ (List.getElem_mem hl), ?_⟩
  have z := atI_nat (List.getElem?_eq_getElem hl)
  rw [show ((r.toNat : Nat) : Int) = r by omega] at z
  exact z
def S_lword : DSp := fun as R => ∃ (x y : Int) (z : Str), as = [.own (some 0) [.int x, .int y], .dat (.str z), .dat (.int 5)] ∧ okH x y ∧ okL z ∧ ∀ (u : Str) (x' y' : Int), (u.length ≤ 5 ∧ ∀ c ∈ u.cps.toList, small c = true) → okH x' y' → R (.str u) [[.int x', .int y']]
theorem mono_lword : MonoS S_lword := fun as R R' h ⟨x, y, z, a, b, c, k⟩ => ⟨x, y, z, a, b, c, fun l x' y' d e => h _ _ (k l x' y' d e)⟩
theorem word_turns {R : List PyData → List Sl → Prop} {t : Option Nat} {b : Sl} {z : Str} (hz : okL z) : ∀ (ds : List PyData) (cs : List Nat) (x y : Int) (s : Sl), cs.length + ds.length ≤ 100 → okH x y → (∀ c ∈ cs, small c = true) →
    (∀ (cs' : List Nat) (x' y' : Int) (s' : Sl), cs'.length = cs.length + ds.length → (∀ c ∈ cs', small c = true) → okH x' y' → R (cs'.map fun c => PyData.str ⟨#[c]⟩) [.own t [.int x', .int y'], .dat (.str z), b, s']) →
    lcW [3] (dgName 3) dYes (dOp dIxS (dVar 1) (dCall S_draw (cS 0 (cD (dLen (dVar 1)) cNil)))) R ds (cs.map fun c => PyData.str ⟨#[c]⟩) [.own t [.int x, .int y], .dat (.str z), b, s]
  | [], cs, x, y, s, _, hv, hc, h => h cs x y s rfl hc hv
  | d :: ds, cs, x, y, s, hl, hv, hc, h => by
    rw [List.length_cons] at hl
    simp only [lcW, dgName, dYes, wipeS, List.set_cons_succ, List.set_cons_zero, ↓reduceIte]
    unfold dOp
    refine var_at (i := 1) (d := .str z) rfl ?_
    have hz1 := hz.1
    refine call_draw (i := 0) (t := t) (n := (z.length : Int)) rfl hv ⟨by omega, by omega⟩ (fun Q q => ⟨nat_le_size (by omega), q⟩) fun r x' y' hr hv' => ?_
    obtain ⟨c, hc', e⟩ := okL_at hz hr
    simp only [dIxS, e]
    refine ⟨nat_le_size (by omega), by rw [List.length_map]; exact Nat.lt_of_lt_of_le (by omega : cs.length < 100) (by decide), ?_⟩
    have e2 : (cs.map fun c => PyData.str ⟨#[c]⟩) ++ [PyData.str ⟨#[c]⟩] = (cs ++ [c]).map fun c => PyData.str ⟨#[c]⟩ := by rw [List.map_append]; rfl
    rw [e2]
    simp only [List.set_cons_succ, List.set_cons_zero]
    refine word_turns hz ds (cs ++ [c]) x' y' _ (by rw [List.length_append, List.length_singleton]; omega) hv' (fun z hz => ?_) fun cs' x2 y2 s2 hl2 hc2 hv2 => ?_
    · rcases List.mem_append.mp hz with q | q
      · exact hc z q
      · rw [List.mem_singleton.mp q]
        exact hc'
    · exact h cs' x2 y2 s2 (by rw [hl2, List.length_append, List.length_singleton, List.length_cons]; omega) hc2 hv2
theorem sum_ones : ∀ cs : List Nat, ((cs.map fun c => (⟨#[c]⟩ : Str)).map (·.length)).sum = cs.length
  | [] => rfl
  | c :: r => by
    rw [List.map_cons, List.map_cons, List.sum_cons, sum_ones r, List.length_cons]
    show 1 + r.length = r.length + 1
    omega
def S_lmach : DSp := fun as R => ∃ (x y e : Int) (z : Str), as = [.own (some 0) [.int x, .int y], .dat (.int 12), .dat (.int e), .dat (.str z)] ∧ okH x y ∧ okL z ∧ (0 ≤ e ∧ e ≤ 24) ∧ ∀ (m : Mc) (x' y' : Int), m.ok → okH x' y' → R m.d [[.int x', .int y']]
theorem mono_lmach : MonoS S_lmach := fun as R R' h ⟨x, y, e0, z, a, b, c, ce, k⟩ => ⟨x, y, e0, z, a, b, c, ce, fun l x' y' d e => h _ _ (k l x' y' d e)⟩
theorem eqv_step (a b : Sp3) : PyData.eqv (stepD a) (stepD b) = decide (a = b) := by
  obtain ⟨a1, a2, a3⟩ := a
  obtain ⟨b1, b2, b3⟩ := b
  rw [Bool.eq_iff_iff, decide_eq_true_iff]
  simp [stepD, PyData.eqv, PyData.eqvAll]
  omega
theorem any_steps (s : Sp3) : ∀ ss : List Sp3, ((ss.map stepD).any fun z => PyData.eqv z (stepD s)) = decide (s ∈ ss)
  | [] => rfl
  | c :: r => by
    show (PyData.eqv (stepD c) (stepD s) || (r.map stepD).any _) = _
    rw [any_steps s r, eqv_step, Bool.eq_iff_iff, Bool.or_eq_true, decide_eq_true_iff, decide_eq_true_iff, decide_eq_true_iff, List.mem_cons]
    exact ⟨fun h => h.imp Eq.symm id, fun h => h.imp Eq.symm id⟩
theorem lay_step {s : Sp3} (h : small s.2.1 = true) : PyData.canLay0 (stepD s) = true ∧ PyData.depth (stepD s) = 1 := by
  have a : PyData.strOk ⟨#[s.2.1]⟩ = true := strOk_of (okC_one (small_lt h))
  constructor
  · show (true && (PyData.strOk ⟨#[s.2.1]⟩ && (true && true))) = true
    rw [a]
    rfl
  · rfl
theorem sh_step {s : Sp3} (h : small s.2.1 = true) : SeqAt.shaped (stepD s) = true := by
  obtain ⟨a, b⟩ := lay_step h
  unfold SeqAt.shaped
  rw [Bool.and_eq_true]
  refine ⟨a, decide_eq_true ?_⟩
  rw [b]
  decide
theorem sh_steps {ss : List Sp3} (h : ∀ s ∈ ss, small s.2.1 = true) : SeqAt.shaped (.list (ss.map stepD)) = true := by
  have a : PyData.canLayAll0 (ss.map stepD) = true ∧ PyData.depthAll (ss.map stepD) ≤ 1 := by
    induction ss with
    | nil => exact ⟨rfl, Nat.zero_le _⟩
    | cons c r ih =>
      obtain ⟨i1, i2⟩ := ih fun s hs => h s (List.mem_cons_of_mem _ hs)
      obtain ⟨j1, j2⟩ := lay_step (h c List.mem_cons_self)
      constructor
      · show (PyData.canLay0 (stepD c) && PyData.canLayAll0 (r.map stepD)) = true
        rw [i1, j1]
        rfl
      · show max (PyData.depth (stepD c)) (PyData.depthAll (r.map stepD)) ≤ 1
        rw [j2]
        omega
  unfold SeqAt.shaped
  rw [Bool.and_eq_true]
  refine ⟨a.1, decide_eq_true ?_⟩
  show PyData.depthAll _ + 1 ≤ 64
  have := a.2
  omega
theorem call_lrooms {i : Nat} {x y : Int} {t : Option Nat} {δ : List Sl} {R : DQ} {u : DTE} {n : Nat} (hs : δ[i]? = some (.own t [.int x, .int y])) (hv : okH x y) (hn : 1 ≤ n ∧ n ≤ 12) (hu : ∀ Q : DQ, Q (.int (n : Int)) δ → u δ Q)
    (k : ∀ (l : List Nat) (x' y' : Int), okR n l → okH x' y' → R (.list (nums l)) (δ.set i (.own t [.int x', .int y']))) : dCall S_lrooms (cS i (cD u cNil)) δ R :=
  call_own1 hs [.int (n : Int)] (fun Q q => hu _ q) ⟨x, y, n, rfl, hv, hn, fun z x' y' a b => ⟨_, rfl, k z x' y' a b⟩⟩ (mono_lrooms _)
section
variable {P : Program} {w : World} {K : PySem.W.Frag} {mg : Str → Option Value} {base : Heap}
variable (m_len : mg "len" = none) (m_isinstance : mg "isinstance" = none) (m_str : mg "str" = none) (m_bool : mg "bool" = none) (m_range : mg "range" = none) (m_int : mg "int" = none) (m_max : mg "max" = none) (m_min : mg "min" = none) (m_sum : mg "sum" = none) (m_set : mg "set" = none) (m_tuple : mg "tuple" = none) (m_list : mg "list" = none) (m_enumerate : mg "enumerate" = none)
include m_len m_isinstance m_str m_bool m_range m_int m_max m_min m_sum m_set m_tuple m_list m_enumerate
theorem ok_law_rooms {f : Addr} {fd : FuncData} (F : Fun K "_law_rooms" "_law_rooms" s_law_rooms f fd) (k_law_draw : Kn P w K mg base 1 "_law_draw" S_draw) : FnOkG P w K mg base CX0 2 f fd ["_law_hand_here", "_law_size"] (spD K S_lrooms) := by
  refine fnD F sc_law_rooms (fun as R h => by obtain ⟨_, _, _, rfl, _⟩ := h; rfl) fun cdv A outer s H E hr => ?_
  have nd := sc_law_rooms.nd
  have hu := hr.units
  have hu1 := hr.units1
  refine ⟨_, _, (dss_cons (ds_if (dt_cmp (op_eqD hu) ro_eq (nomark _) (de_call k_law_draw hr (by omega) (dca_s 0 (dca_d de_int dca_nil))) de_int) (dss_one (ds_ret (de_lst da_nil))) dss_nil)
    (dss_cons (ds_setLc 2 [("_law_room", 3)] rfl nd (di_r1 m_range (de_var 1)) (blkOk_by (N := ["_law_hand_here", "_law_size", "_law_some", "_law_room"]) (sc := defScope s_law_rooms) (by decide +kernel)) (fun _ _ _ _ _ => (dg_name 3 nd)) (fun _ _ _ _ _ => (dts_one (dt_eqC hu (de_callI k_law_draw hr (by omega) (dca_s 0 (dca_d de_int dca_nil))) de_int))) (fun _ _ _ _ _ => (de_var 3)) (by decide) (sw_true rfl rfl rfl (by decide +kernel)))
    (dss_one (ds_ret (de_orT (de_var 2) (de_one (de_lst (da_cons (de_call k_law_draw hr (by omega) (dca_s 0 (dca_d (de_var 1) dca_nil))) da_nil)))))))), ?_⟩
  rintro as R ⟨x, y, n, rfl, hv, hn, hR⟩
  refine sq_if ?_
  simp only [dTest, dOp, dC]
  refine call_draw (i := 0) (t := some 0) (n := 14) rfl hv ⟨by decide, by decide⟩ (fun Q q => q) fun r x1 y1 hr hv1 => ?_
  refine ⟨rfl, rfl, ?_⟩
  simp only [ev_ii]
  by_cases h0 : r = 0
  · rw [if_pos (by rw [h0]; rfl)]
    exact ⟨nat_le_size (by decide), _, hR [] x1 y1 ⟨List.Pairwise.nil, fun i hi => by cases hi⟩ hv1, outs1 0 rfl⟩
  · rw [if_neg (by rw [beq_iff_eq]; exact h0)]
    refine sq_asg ?_
    unfold dLc diR1
    show dVar 1 [.own (some 0) [.int x1, .int y1], .dat (.int n), .no, .no] _
    refine var_at (i := 1) (d := .int n) rfl ⟨⟨by omega, by omega⟩, ?_⟩
    rw [iota_nat, List.range_eq_range']
    refine rooms_turns hn.2 n 0 [] x1 y1 .no (by omega) hv1 List.Pairwise.nil (fun i hi => by cases hi) fun l x2 y2 s hl hv2 => ?_
    show dOrT (dVar 2) (dLst (dCons (dCall S_draw (cS 0 (cD (dVar 1) cNil))) dNil)) [.own (some 0) [.int x2, .int y2], .dat (.int n), .dat (.list (nums l)), s] _
    unfold dOrT
    refine var_at (i := 2) (d := .list (nums l)) rfl ?_
    cases l with
    | cons a b => exact ⟨_, hR (a :: b) x2 y2 hl hv2, outs1 0 rfl⟩
    | nil =>
      show dCall S_draw (cS 0 (cD (dVar 1) cNil)) [.own (some 0) [.int x2, .int y2], .dat (.int n), .dat (.list (nums [])), s] _
      refine call_draw (i := 0) (t := some 0) (n := n) rfl hv2 ⟨by omega, by omega⟩ (fun Q q => q) fun r2 x3 y3 hr2 hv3 => ?_
      refine ⟨nat_le_size (by show 1 ≤ 16777216; decide), ?_⟩
      have e : (r2 : Int) = ((r2.toNat : Nat) : Int) := by omega
      have z := hR [r2.toNat] x3 y3 ⟨List.pairwise_singleton _ _, fun i hi => by rw [List.mem_singleton.mp hi]; omega⟩ hv3
      refine ⟨_, ?_, outs1 0 rfl⟩
      rw [e]
      exact z
theorem ok_law_letters {f : Addr} {fd : FuncData} (F : Fun K "_law_letters" "_law_letters" s_law_letters f fd) (k_law_draw : Kn P w K mg base 1 "_law_draw" S_draw) : FnOkG P w K mg base CX0 2 f fd ["_law_hand_here"] (spD K S_lletters) := by
  refine fnD F sc_law_letters (fun as R h => by obtain ⟨_, _, rfl, _⟩ := h; rfl) fun cdv A outer s H E hr => ?_
  have nd := sc_law_letters.nd
  have hu := hr.units
  have hu1 := hr.units1
  refine ⟨_, _, (dss_one (ds_ret (de_ix ix_list ro_ixL (de_lst (da_cons de_str (da_cons de_str (da_cons de_str (da_cons de_str (da_cons de_str (da_cons de_str da_nil))))))) (de_call k_law_draw hr (by omega) (dca_s 0 (dca_d de_int dca_nil)))))), ?_⟩
  rintro as R ⟨x, y, rfl, hv, hR⟩
  show dOp dIxL (dLst _) (dCall S_draw (cS 0 (cD (dC (.int 6)) cNil))) [.own (some 0) [.int x, .int y]] _
  unfold dOp
  refine ⟨nat_le_size (by show 6 ≤ 16777216; decide), ?_⟩
  refine call_draw (i := 0) (t := some 0) (n := 6) rfl hv ⟨by decide, by decide⟩ (fun Q q => q) fun r x1 y1 hr hv1 => ?_
  obtain ⟨z, hz, e⟩ := letters_at hr
  show (match atI ([.str (Str.ofString "ab"), .str (Str.ofString "ab"), .str (Str.ofString "abc"), .str (Str.ofString "qz"), .str (Str.ofString "mpx"), .str (Str.ofString "a")] : List PyData) r with
    | some d => _
    | none => False)
  rw [e]
  exact ⟨_, hR z x1 y1 hz hv1, outs1 0 rfl⟩
end
end K40

set_option Elab.async false
set_option linter.all false
set_option maxRecDepth 100000
set_option maxHeartbeats 8000000
/-! K40k: the machine that the law draws, and how the law moves -/
namespace K40
open PySem PySem.Spec L2 TL
theorem sq_own {i : Nat} {u : DTA} {rest : DTS} {E : DEnds} {δ : List Sl} (h : u δ fun ds δ1 => ds.length ≤ sizeLine ∧ rest E (δ1.set i (.own none ds))) : dSeq (dAsgOwn i u) rest E δ := h
def nextL (m : Mc) (v : List Int) (c : Nat) : List Int := (List.range m.n).map fun room => ((m.ss.filter fun s => decide (s.2.1 = c) && decide (s.2.2 = room)).map fun s => v.getD s.1 0).sum
theorem mvd_at (v : List Int) (j : Nat) : ∀ (ms : List Sp3) (acc : List Int), j < acc.length → (mvd v ms acc).getD j 0 = acc.getD j 0 + ((ms.filter fun s => decide (s.2.2 = j)).map fun s => v.getD s.1 0).sum
  | [], acc, h => by
    show acc.getD j 0 = acc.getD j 0 + 0
    omega
  | s :: r, acc, h => by
    have ih := mvd_at v j r (acc.set s.2.2 (acc.getD s.2.2 0 + v.getD s.1 0)) (by rw [List.length_set]; exact h)
    show (mvd v r _).getD j 0 = _
    rw [ih, List.filter_cons]
    by_cases hs : s.2.2 = j
    · rw [if_pos (decide_eq_true hs), List.map_cons, List.sum_cons, hs]
      have e : (acc.set j (acc.getD j 0 + v.getD s.1 0)).getD j 0 = acc.getD j 0 + v.getD s.1 0 := by
        rw [List.getD_eq_getElem?_getD, List.getElem?_set_self h]
        rfl
      rw [e]
      omega
    · rw [if_neg (by rw [decide_eq_false hs]; exact fun z => by cases z)]
      have e : (acc.set s.2.2 (acc.getD s.2.2 0 + v.getD s.1 0)).getD j 0 = acc.getD j 0 := by
        rw [List.getD_eq_getElem?_getD, List.getElem?_set_ne hs, ← List.getD_eq_getElem?_getD]
      rw [e]
theorem next_eq {m : Mc} {v : List Int} (hv : v.length = m.n) (c : Nat) : nextV m v c = nextL m v c := by
  apply List.ext_getElem?
  intro j
  have l1 := nextV_len m v c
  by_cases h : j < m.n
  · have h1 : j < (nextV m v c).length := by rw [l1, hv]; exact h
    have z := mvd_at v j (m.ss.filter fun s => decide (s.2.1 = c)) (List.replicate v.length 0) (by rw [List.length_replicate, hv]; exact h)
    have z : (nextV m v c).getD j 0 = _ := z
    rw [List.getD_eq_getElem?_getD, List.getElem?_eq_getElem h1] at z
    rw [List.getElem?_eq_getElem h1]
    unfold nextL
    rw [List.getElem?_map, List.getElem?_range h]
    show some _ = some _
    congr 1
    have z : (nextV m v c)[j] = _ := z
    rw [z]
    have e0 : (List.replicate v.length (0 : Int)).getD j 0 = 0 := by
      rw [List.getD_eq_getElem?_getD, List.getElem?_replicate]
      split <;> rfl
    rw [e0, Int.zero_add, List.filter_filter]
    congr 3
    funext s
    exact Bool.and_comm _ _
  · rw [List.getElem?_eq_none (by rw [l1, hv]; omega)]
    unfold nextL
    rw [List.getElem?_eq_none (by rw [List.length_map, List.length_range]; omega)]
theorem one_eq (a b : Nat) : PyData.eqv (.str ⟨#[a]⟩) (.str ⟨#[b]⟩) = decide (a = b) := by
  rw [ev_ss, Bool.eq_iff_iff, beq_iff_eq, decide_eq_true_iff]
  constructor
  · intro h
    injection h with h
    simpa using h
  · intro h
    rw [h]
theorem sh_one {c : Nat} (h : small c = true) : SeqAt.shaped (.str ⟨#[c]⟩) = true := sh_str (strOk_of (okC_one (small_lt h)))
def S_lmoved : DSp := fun as R => ∃ (m : Mc) (v : List Int) (c : Nat), as = [.dat m.d, .dat (.list (inz v)), .dat (.str ⟨#[c]⟩)] ∧ m.ok ∧ v.length = m.n ∧ small c = true ∧ R (.list (inz (nextV m v c))) []
theorem mono_lmoved : MonoS S_lmoved := fun as R R' h ⟨x, y, z, a, b, c, d, k⟩ => ⟨x, y, z, a, b, c, d, h _ _ k⟩
section
variable {P : Program} {w : World} {K : PySem.W.Frag} {mg : Str → Option Value} {base : Heap}
variable (m_len : mg "len" = none) (m_isinstance : mg "isinstance" = none) (m_str : mg "str" = none) (m_bool : mg "bool" = none) (m_range : mg "range" = none) (m_int : mg "int" = none) (m_max : mg "max" = none) (m_min : mg "min" = none) (m_sum : mg "sum" = none) (m_set : mg "set" = none) (m_tuple : mg "tuple" = none) (m_list : mg "list" = none) (m_enumerate : mg "enumerate" = none)
include m_len m_isinstance m_str m_bool m_range m_int m_max m_min m_sum m_set m_tuple m_list m_enumerate
theorem ok_law_machine {f : Addr} {fd : FuncData} (F : Fun K "_law_machine" "_law_machine" s_law_machine f fd) (k_law_draw : Kn P w K mg base 1 "_law_draw" S_draw) (k_law_rooms : Kn P w K mg base 2 "_law_rooms" S_lrooms) : FnOkG P w K mg base CX0 3 f fd ["_law_hand_here", "_law_upto", "_law_extra", "_law_letters_here"] (spD K S_lmach) := by
  refine fnD F sc_law_machine (fun as R h => by obtain ⟨_, _, _, _, rfl, _⟩ := h; rfl) fun cdv A outer s H E hr => ?_
  have nd := sc_law_machine.nd
  have hu := hr.units
  have hu1 := hr.units1
  refine ⟨_, _, (dss_cons (ds_set 4 nd (de_op op_add ro_I de_int (de_call k_law_draw hr (by omega) (dca_s 0 (dca_d (de_var 1) dca_nil)))))
    (dss_cons (ds_set 5 nd (de_call k_law_rooms hr (by omega) (dca_s 0 (dca_d (de_var 4) dca_nil))))
    (dss_cons (ds_set 6 nd (de_call k_law_rooms hr (by omega) (dca_s 0 (dca_d (de_var 4) dca_nil))))
    (dss_cons (ds_own 7 nd da_nil)
    (dss_cons (ds_for PassesOwn.never rfl (di_r1 m_range (de_call k_law_draw hr (by omega) (dca_s 0 (dca_d (de_op op_add ro_I (de_var 4) (de_var 2)) dca_nil)))) (dg_name 8 nd)
    (dss_cons (ds_set 9 nd (de_tup (da_cons (de_call k_law_draw hr (by omega) (dca_s 0 (dca_d (de_var 4) dca_nil))) (da_cons (de_ix ix_str ro_ixS (de_var 3) (de_call k_law_draw hr (by omega) (dca_s 0 (dca_d (de_len (ps := default) m_len (de_var 3)) dca_nil)))) (da_cons (de_call k_law_draw hr (by omega) (dca_s 0 (dca_d (de_var 4) dca_nil))) da_nil)))))
    (dss_one (ds_if (dt_notInV 7 hu1 (de_var 9)) (dss_one (ds_app 7 (de_var 9) (pe_bm PySem.F.plainAttrs_list PySem.F.slot_list_append PySem.F.type_list_append mt_append (pv 7) (pa_cons (DE.pe (de_var 9)) pa_nil)))) dss_nil))))
    (dss_one (ds_ret (de_tup (da_cons (de_var 4) (da_cons (de_var 5) (da_cons (de_var 6) (da_cons (de_var 7) da_nil)))))))))))), ?_⟩
  rintro as R ⟨x, y, e0, z, rfl, hv, hz, he0, hR⟩
  refine sq_asg ?_
  simp only [dOp, dC]
  refine call_draw (i := 0) (t := some 0) (n := 12) rfl hv ⟨by decide, by decide⟩ (fun Q q => q) fun r x1 y1 hr hv1 => ?_
  obtain ⟨n, hn⟩ : ∃ n : Nat, 1 + r = (n : Int) := ⟨(1 + r).toNat, by omega⟩
  simp only [dI, hn]
  have n1 : 1 ≤ n ∧ n ≤ 12 := by omega
  refine sq_asg (call_lrooms (i := 0) (t := some 0) (n := n) rfl hv1 n1 (fun Q q => q) fun fs x2 y2 hfs hv2 => ?_)
  refine sq_asg (call_lrooms (i := 0) (t := some 0) (n := n) rfl hv2 n1 (fun Q q => q) fun ls x3 y3 hls hv3 => ?_)
  refine sq_own ⟨nat_le_size (by decide), ?_⟩
  show dSeq (dFor (diR1 (dCall S_draw (cS 0 (cD (dOp (dI fun i j => i + j) (dVar 4) (dVar 2)) cNil)))) (dgName 8) (dSeq (dAsg (dTup (dCons (dCall S_draw (cS 0 (cD (dVar 4) cNil))) (dCons (dOp dIxS (dVar 3) (dCall S_draw (cS 0 (cD (dLen (dVar 3)) cNil)))) (dCons (dCall S_draw (cS 0 (cD (dVar 4) cNil))) dNil)))) (dgName 9)) (dIfS (dTest (dNotInV 7 (dVar 9))) (dApp 7 (dVar 9)) dNext))) (dRet (dTup (dCons (dVar 4) (dCons (dVar 5) (dCons (dVar 6) (dCons (dVar 7) dNil)))))) _ [.own (some 0) [.int x3, .int y3], .dat (.int 12), .dat (.int e0), .dat (.str z), .dat (.int n), .dat (.list (nums fs)), .dat (.list (nums ls)), .own none (([] : List Sp3).map stepD), .no, .no]
  unfold dSeq dFor diR1
  refine call_draw (i := 0) (t := some 0) (n := (n : Int) + e0) rfl hv3 ⟨by omega, by omega⟩ (fun Q q => q) fun r2 x4 y4 hr2 hv4 => ?_
  refine ⟨⟨by omega, by omega⟩, ?_⟩
  have il : (iotaD 0 r2.toNat).length = r2.toNat := by
    unfold iotaD
    rw [List.length_map, List.length_range]
  refine for_len (fun k δ => ∃ (x y : Int) (ss : List Sp3) (s8 s9 : Sl), δ = [.own (some 0) [.int x, .int y], .dat (.int 12), .dat (.int e0), .dat (.str z), .dat (.int n), .dat (.list (nums fs)), .dat (.list (nums ls)), .own none (ss.map stepD), s8, s9] ∧ okH x y ∧ ss.length ≤ k ∧ ss.Nodup ∧ ∀ s ∈ ss, okP n s) r2.toNat ?_ (iotaD 0 r2.toNat) 0 _ (by rw [il]; omega) ⟨x4, y4, [], .no, .no, rfl, hv4, Nat.le_refl _, List.nodup_nil, fun s hs => by cases hs⟩ ?_
  · rintro δ ⟨x, y, ss, s8, s9, rfl, hv, hl, hd, hs⟩
    have hl' : ss.length ≤ 40 := by omega
    refine ⟨nat_le_size (by show 4 ≤ 16777216; decide), _, hR ⟨n, fs, ls, ss⟩ x y ⟨n1, hfs, hls, hl', hd, hs⟩ hv, outs1 0 rfl⟩
  · rintro d - k δ hk ⟨x, y, ss, s8, s9, rfl, hv, hl, hd, hs⟩ M hM
    show dSeq (dAsg (dTup (dCons (dCall S_draw (cS 0 (cD (dVar 4) cNil))) (dCons (dOp dIxS (dVar 3) (dCall S_draw (cS 0 (cD (dLen (dVar 3)) cNil)))) (dCons (dCall S_draw (cS 0 (cD (dVar 4) cNil))) dNil)))) (dgName 9)) (dIfS (dTest (dNotInV 7 (dVar 9))) (dApp 7 (dVar 9)) dNext) _ [.own (some 0) [.int x, .int y], .dat (.int 12), .dat (.int e0), .dat (.str z), .dat (.int n), .dat (.list (nums fs)), .dat (.list (nums ls)), .own none (ss.map stepD), .dat d, s9]
    refine sq_asg ?_
    unfold dTup dCons
    refine call_draw (i := 0) (t := some 0) (n := n) rfl hv ⟨by omega, by omega⟩ (fun Q q => q) fun a x1 y1 ha hv1 => ?_
    unfold dOp
    refine var_at (i := 3) (d := .str z) rfl ?_
    have hz1 := hz.1
    refine call_draw (i := 0) (t := some 0) (n := (z.length : Int)) rfl hv1 ⟨by omega, by omega⟩ (fun Q q => ⟨nat_le_size (by omega), q⟩) fun b x2 y2 hb hv2 => ?_
    obtain ⟨c, hc, e⟩ := okL_at hz hb
    simp only [dIxS, e]
    refine ⟨nat_le_size (by omega), ?_⟩
    refine call_draw (i := 0) (t := some 0) (n := n) rfl hv2 ⟨by omega, by omega⟩ (fun Q q => q) fun g x3 y3 hg hv3 => ?_
    refine ⟨nat_le_size (by show 3 ≤ 16777216; decide), ?_⟩
    obtain ⟨a', ea⟩ : ∃ a' : Nat, a = (a' : Int) := ⟨a.toNat, by omega⟩
    obtain ⟨g', eg⟩ : ∃ g' : Nat, g = (g' : Int) := ⟨g.toNat, by omega⟩
    subst ea eg
    have hP : okP n (a', c, g') := ⟨by show a' < n; omega, hc, by show g' < n; omega⟩
    show dIfS (dTest (dNotInV 7 (dVar 9))) (dApp 7 (dVar 9)) dNext _ [.own (some 0) [.int x3, .int y3], .dat (.int 12), .dat (.int e0), .dat (.str z), .dat (.int n), .dat (.list (nums fs)), .dat (.list (nums ls)), .own none (ss.map stepD), .dat d, .dat (stepD (a', c, g'))]
    generalize (a', c, g') = s at hP ⊢
    unfold dIfS dTest dNotInV
    refine var_at (i := 9) (d := stepD s) rfl ⟨ss.map stepD, rfl, sh_step hP.2.1, sh_steps fun t ht => (hs t ht).2.1, ?_⟩
    rw [any_steps]
    by_cases hin : s ∈ ss
    · rw [decide_eq_true hin]
      exact hM _ ⟨x3, y3, ss, _, _, rfl, hv3, by omega, hd, hs⟩
    · rw [decide_eq_false hin]
      refine ⟨rfl, var_at (i := 9) (d := stepD s) rfl ⟨by rw [List.length_map, sizeLine_eq]; omega, ?_⟩⟩
      have e2 : ss.map stepD ++ [stepD s] = (ss ++ [s]).map stepD := by rw [List.map_append]; rfl
      show M [.own (some 0) [.int x3, .int y3], .dat (.int 12), .dat (.int e0), .dat (.str z), .dat (.int n), .dat (.list (nums fs)), .dat (.list (nums ls)), .own none (ss.map stepD ++ [stepD s]), .dat d, .dat (stepD s)]
      rw [e2]
      refine hM _ ⟨x3, y3, ss ++ [s], _, _, rfl, hv3, by rw [List.length_append, List.length_singleton]; omega, ?_, fun t ht => ?_⟩
      · exact List.nodup_append.mpr ⟨hd, List.nodup_cons.mpr ⟨List.not_mem_nil, List.nodup_nil⟩, fun p hp q hq e => hin (by
          have hq : q = s := List.mem_singleton.mp hq
          rw [← hq, ← e]
          exact hp)⟩
      · rcases List.mem_append.mp ht with q | q
        · exact hs t q
        · rw [List.mem_singleton.mp q]
          exact hP
end
end K40

set_option Elab.async false
set_option linter.all false
set_option maxRecDepth 100000
set_option maxHeartbeats 4000000
/-! K40l: how many ways lead from room to room. -/
namespace K40
open PySem PySem.Spec L2 TL
/-! ### sums over the rooms -/
def Sg (n : Nat) (f : Nat → Int) : Int := ((List.range n).map f).sum
theorem sum_app : ∀ (a b : List Int), (a ++ b).sum = a.sum + b.sum
  | [], b => by rw [List.nil_append, List.sum_nil, Int.zero_add]
  | x :: r, b => by rw [List.cons_append, List.sum_cons, List.sum_cons, sum_app r b, Int.add_assoc]
theorem Sg_zero (f : Nat → Int) : Sg 0 f = 0 := rfl
theorem Sg_succ (n : Nat) (f : Nat → Int) : Sg (n + 1) f = Sg n f + f n := by
  unfold Sg
  rw [List.range_succ, List.map_append, sum_app]
  show _ + (f n + 0) = _
  rw [Int.add_zero]
theorem Sg_congr {n : Nat} {f g : Nat → Int} (h : ∀ i, i < n → f i = g i) : Sg n f = Sg n g := by
  unfold Sg
  rw [List.map_congr_left fun i hi => h i (List.mem_range.mp hi)]
theorem Sg_add (n : Nat) (f g : Nat → Int) : Sg n (fun i => f i + g i) = Sg n f + Sg n g := by
  induction n with
  | zero => rfl
  | succ n ih => rw [Sg_succ, Sg_succ, Sg_succ, ih]; omega
theorem Sg_mul (n : Nat) (f : Nat → Int) (c : Int) : Sg n (fun i => c * f i) = c * Sg n f := by
  induction n with
  | zero => rw [Sg_zero, Sg_zero, Int.mul_zero]
  | succ n ih => rw [Sg_succ, Sg_succ, ih, Int.mul_add]
theorem Sg_null (n : Nat) : Sg n (fun _ => 0) = 0 := by
  induction n with
  | zero => rfl
  | succ n ih => rw [Sg_succ, ih]; rfl
theorem Sg_swap (n k : Nat) (f : Nat → Nat → Int) : Sg n (fun i => Sg k fun j => f i j) = Sg k fun j => Sg n fun i => f i j := by
  induction n with
  | zero =>
    show (0 : Int) = Sg k fun j => 0
    rw [Sg_null]
  | succ n ih =>
    rw [Sg_succ, ih, ← Sg_add]
    refine Sg_congr fun j _ => ?_
    rw [Sg_succ]
theorem Sg_one {n a : Nat} (h : a < n) (f : Nat → Int) : Sg n (fun i => if i = a then f i else 0) = f a := by
  induction n with
  | zero => omega
  | succ n ih =>
    rw [Sg_succ]
    by_cases e : a = n
    · subst e
      rw [if_pos rfl]
      have z : Sg a (fun i => if i = a then f i else 0) = 0 := by
        rw [Sg_congr (g := fun _ => 0) fun i hi => if_neg (by omega), Sg_null]
      rw [z, Int.zero_add]
    · rw [ih (by omega), if_neg (by omega), Int.add_zero]
/-- the sum of a list with many of one kind, told by the rooms -/
theorem sum_perm {a b : List Int} (h : a.Perm b) : a.sum = b.sum := by
  induction h with
  | nil => rfl
  | cons x _ ih => rw [List.sum_cons, List.sum_cons, ih]
  | swap x y l => rw [List.sum_cons, List.sum_cons, List.sum_cons, List.sum_cons]; omega
  | trans _ _ i1 i2 => exact i1.trans i2
theorem Sg_perm {n : Nat} {p : List Nat} (hp : p.Perm (List.range n)) (f : Nat → Int) : (p.map f).sum = Sg n f := sum_perm (hp.map f)
/-! ### ways from room to room -/
def hasS (m : Mc) (a c b : Nat) : Int := if (a, c, b) ∈ m.ss then 1 else 0
def cnt (m : Mc) : List Nat → Nat → Nat → Int
  | [], a, b => if a = b then 1 else 0
  | c :: l, a, b => Sg m.n fun k => hasS m a c k * cnt m l k b
theorem steps_sum {n : Nat} {ss : List Sp3} (nd : ss.Nodup) (hs : ∀ s ∈ ss, s.1 < n) (v : Nat → Int) (c j : Nat) : ((ss.filter fun s => decide (s.2.1 = c) && decide (s.2.2 = j)).map fun s => v s.1).sum = Sg n fun a => v a * (if (a, c, j) ∈ ss then 1 else 0) := by
  induction ss with
  | nil =>
    show (0 : Int) = _
    rw [Sg_congr (g := fun _ => 0) fun i _ => by simp, Sg_null]
  | cons s r ih =>
    obtain ⟨n1, n2⟩ := List.nodup_cons.mp nd
    have ih := ih n2 fun t ht => hs t (List.mem_cons_of_mem _ ht)
    have h1 := hs s List.mem_cons_self
    rw [List.filter_cons]
    by_cases h : s.2.1 = c ∧ s.2.2 = j
    · rw [if_pos (by rw [decide_eq_true h.1, decide_eq_true h.2]; rfl), List.map_cons, List.sum_cons, ih]
      have es : s = (s.1, c, j) := by
        obtain ⟨a, b, d⟩ := s
        obtain ⟨rfl, rfl⟩ := h
        rfl
      have e : (Sg n fun a => v a * (if (a, c, j) ∈ s :: r then 1 else 0)) = Sg n fun a => (if a = s.1 then v a else 0) + v a * (if (a, c, j) ∈ r then 1 else 0) := by
        refine Sg_congr fun a _ => ?_
        by_cases ha : a = s.1
        · subst ha
          rw [if_pos (by rw [← es]; exact List.mem_cons_self), if_pos rfl, if_neg (by rw [← es]; exact n1)]
          omega
        · rw [if_neg ha]
          by_cases hm : (a, c, j) ∈ r
          · rw [if_pos hm, if_pos (List.mem_cons_of_mem _ hm)]
            omega
          · rw [if_neg hm, if_neg]
            · omega
            · intro z
              rcases List.mem_cons.mp z with z | z
              · exact ha (by rw [← z])
              · exact hm z
      rw [e, Sg_add, Sg_one h1]
    · rw [if_neg (by rw [Bool.and_eq_true]; exact fun z => h ⟨of_decide_eq_true z.1, of_decide_eq_true z.2⟩), ih]
      refine Sg_congr fun a _ => ?_
      by_cases hm : (a, c, j) ∈ r
      · rw [if_pos hm, if_pos (List.mem_cons_of_mem _ hm)]
      · rw [if_neg hm, if_neg]
        intro z
        rcases List.mem_cons.mp z with z | z
        · exact h (by rw [← z]; exact ⟨rfl, rfl⟩)
        · exact hm z
theorem range_at {n j : Nat} (h : j < n) (f : Nat → Int) : ((List.range n).map f).getD j 0 = f j := by
  rw [List.getD_eq_getElem?_getD, List.getElem?_map, List.getElem?_range h]
  rfl
theorem next_at {m : Mc} (hm : m.ok) {v : List Int} (hv : v.length = m.n) (c : Nat) {j : Nat} (hj : j < m.n) : (nextV m v c).getD j 0 = Sg m.n fun a => v.getD a 0 * hasS m a c j := by
  rw [next_eq hv]
  unfold nextL
  rw [range_at hj, steps_sum hm.ss.2.1 (fun s hs => (hm.ss.2.2 s hs).1) (fun a => v.getD a 0)]
  rfl
theorem end_at {m : Mc} (hm : m.ok) : ∀ (l : List Nat) (v : List Int), v.length = m.n → ∀ b, b < m.n → (endV m l v).getD b 0 = Sg m.n fun a => v.getD a 0 * cnt m l a b
  | [], v, hv, b, hb => by
    show v.getD b 0 = _
    rw [Sg_congr (g := fun a => if a = b then v.getD a 0 else 0) fun a _ => ?_, Sg_one hb]
    show v.getD a 0 * (if a = b then 1 else 0) = _
    split
    · omega
    · omega
  | c :: l, v, hv, b, hb => by
    show (endV m l (nextV m v c)).getD b 0 = _
    rw [end_at hm l (nextV m v c) (by rw [nextV_len, hv]) b hb]
    rw [Sg_congr fun k hk => by rw [next_at hm hv c hk]]
    show (Sg m.n fun k => (Sg m.n fun a => v.getD a 0 * hasS m a c k) * cnt m l k b) = Sg m.n fun a => v.getD a 0 * Sg m.n fun k => hasS m a c k * cnt m l k b
    rw [Sg_congr (g := fun k => Sg m.n fun a => v.getD a 0 * (hasS m a c k * cnt m l k b)) fun k _ => ?_, Sg_swap]
    · refine Sg_congr fun a _ => ?_
      rw [Sg_mul]
    · rw [Int.mul_comm, ← Sg_mul]
      refine Sg_congr fun a _ => ?_
      rw [Int.mul_comm, Int.mul_assoc]
theorem cnt_app (m : Mc) : ∀ (l1 l2 : List Nat) (a b : Nat), a < m.n → cnt m (l1 ++ l2) a b = Sg m.n fun k => cnt m l1 a k * cnt m l2 k b
  | [], l2, a, b, ha => by
    show cnt m l2 a b = Sg m.n fun k => (if a = k then 1 else 0) * cnt m l2 k b
    rw [Sg_congr (g := fun k => if k = a then cnt m l2 k b else 0) fun k _ => ?_, Sg_one ha]
    by_cases h : a = k
    · rw [if_pos h, if_pos h.symm, Int.one_mul]
    · rw [if_neg h, if_neg fun z => h z.symm, Int.zero_mul]
  | c :: l1, l2, a, b, ha => by
    show (Sg m.n fun k => hasS m a c k * cnt m (l1 ++ l2) k b) = Sg m.n fun k => (Sg m.n fun j => hasS m a c j * cnt m l1 j k) * cnt m l2 k b
    rw [Sg_congr (g := fun j => Sg m.n fun k => hasS m a c j * cnt m l1 j k * cnt m l2 k b) fun j hj => ?_, Sg_swap]
    · refine Sg_congr fun k _ => ?_
      rw [Int.mul_comm (Sg m.n fun j => hasS m a c j * cnt m l1 j k), ← Sg_mul]
      refine Sg_congr fun j _ => ?_
      rw [Int.mul_comm]
    · rw [cnt_app m l1 l2 j b hj, ← Sg_mul]
      refine Sg_congr fun k _ => ?_
      rw [Int.mul_assoc]
end K40

set_option Elab.async false
set_option linter.all false
set_option maxRecDepth 100000
set_option maxHeartbeats 4000000
/-! K40m: ways from rooms to rooms; words parted, machines turned round, rooms called otherwise. -/
namespace K40
open PySem PySem.Spec L2 TL
theorem lsum_mul (l : List Nat) (f : Nat → Int) (c : Int) : (l.map fun x => c * f x).sum = c * (l.map f).sum := by
  induction l with
  | nil => show (0 : Int) = c * 0; rw [Int.mul_zero]
  | cons a r ih => rw [List.map_cons, List.map_cons, List.sum_cons, List.sum_cons, ih, Int.mul_add]
theorem lsum_add (l : List Nat) (f g : Nat → Int) : (l.map fun x => f x + g x).sum = (l.map f).sum + (l.map g).sum := by
  induction l with
  | nil => rfl
  | cons a r ih => rw [List.map_cons, List.map_cons, List.map_cons, List.sum_cons, List.sum_cons, List.sum_cons, ih]; omega
theorem lsum_congr {l : List Nat} {f g : Nat → Int} (h : ∀ x ∈ l, f x = g x) : (l.map f).sum = (l.map g).sum := by rw [List.map_congr_left h]
theorem lsum_null (l : List Nat) : (l.map fun _ => (0 : Int)).sum = 0 := by
  induction l with
  | nil => rfl
  | cons a r ih => rw [List.map_cons, List.sum_cons, ih]; rfl
theorem lsum_Sg (l : List Nat) (n : Nat) (g : Nat → Nat → Int) : (l.map fun x => Sg n fun k => g x k).sum = Sg n fun k => (l.map fun x => g x k).sum := by
  induction l with
  | nil =>
    show (0 : Int) = Sg n fun _ => 0
    rw [Sg_null]
  | cons a r ih =>
    rw [List.map_cons, List.sum_cons, ih, ← Sg_add]
    rfl
theorem lsum_swap (l r : List Nat) (g : Nat → Nat → Int) : (l.map fun x => (r.map fun y => g x y).sum).sum = (r.map fun y => (l.map fun x => g x y).sum).sum := by
  induction l with
  | nil =>
    show (0 : Int) = (r.map fun _ => (0 : Int)).sum
    rw [lsum_null]
  | cons a l ih =>
    rw [List.map_cons, List.sum_cons, ih, ← lsum_add]
    rfl
theorem Sg_mem {n : Nat} (f : Nat → Int) : ∀ {fs : List Nat}, fs.Nodup → (∀ a ∈ fs, a < n) → Sg n (fun a => (if a ∈ fs then 1 else 0) * f a) = (fs.map f).sum
  | [], _, _ => by
    rw [Sg_congr (g := fun _ => 0) fun a _ => by rw [if_neg List.not_mem_nil, Int.zero_mul], Sg_null]
    rfl
  | x :: r, nd, h => by
    obtain ⟨n1, n2⟩ := List.nodup_cons.mp nd
    rw [List.map_cons, List.sum_cons, ← Sg_mem f n2 fun a ha => h a (List.mem_cons_of_mem _ ha), ← Sg_one (h x List.mem_cons_self) f, ← Sg_add]
    refine Sg_congr fun a _ => ?_
    by_cases ha : a = x
    · subst ha
      rw [if_pos List.mem_cons_self, if_pos rfl, if_neg n1]
      omega
    · rw [if_neg ha]
      by_cases hm : a ∈ r
      · rw [if_pos (List.mem_cons_of_mem _ hm), if_pos hm]
        omega
      · rw [if_neg hm, if_neg]
        · omega
        · intro z
          rcases List.mem_cons.mp z with z | z
          · exact ha z
          · exact hm z
/-- all ways from one of fs to one of ls -/
def wy (m : Mc) (l : List Nat) (fs ls : List Nat) : Int := (ls.map fun b => (fs.map fun a => cnt m l a b).sum).sum
theorem one_at {n a : Nat} (h : a < n) (fs : List Nat) : (one n fs).getD a 0 = if a ∈ fs then 1 else 0 := range_at h _
theorem end_one {m : Mc} (hm : m.ok) (l : List Nat) {fs : List Nat} (nd : fs.Nodup) (lt : ∀ a ∈ fs, a < m.n) {b : Nat} (hb : b < m.n) : (endV m l (one m.n fs)).getD b 0 = (fs.map fun a => cnt m l a b).sum := by
  rw [end_at hm l _ (one_len _ _) b hb, ← Sg_mem (fun a => cnt m l a b) nd lt]
  exact Sg_congr fun a ha => by rw [one_at ha]
theorem shr_wy {m : Mc} (hm : m.ok) (l : List Nat) {fs ls : List Nat} (nd : fs.Nodup) (lt : ∀ a ∈ fs, a < m.n) (ll : ∀ b ∈ ls, b < m.n) : shr (endV m l (one m.n fs)) ls = wy m l fs ls := by
  unfold shr wy
  exact lsum_congr fun b hb => end_one hm l nd lt (ll b hb)
/-- a word parted -/
theorem wy_parted {m : Mc} (l1 l2 : List Nat) {fs ls : List Nat} (lt : ∀ a ∈ fs, a < m.n) : wy m (l1 ++ l2) fs ls = Sg m.n fun r => wy m l1 fs [r] * wy m l2 [r] ls := by
  have e : wy m (l1 ++ l2) fs ls = (ls.map fun b => Sg m.n fun k => (fs.map fun a => cnt m l1 a k).sum * cnt m l2 k b).sum := by
    unfold wy
    refine lsum_congr fun b _ => ?_
    rw [lsum_congr fun a ha => cnt_app m l1 l2 a b (lt a ha), lsum_Sg]
    refine Sg_congr fun k _ => ?_
    rw [Int.mul_comm, ← lsum_mul]
    exact lsum_congr fun a _ => Int.mul_comm _ _
  rw [e, lsum_Sg]
  refine Sg_congr fun k _ => ?_
  rw [lsum_mul]
  unfold wy
  rw [List.map_cons, List.map_nil, List.sum_cons, List.sum_nil, Int.add_zero]
  congr 1
  refine lsum_congr fun b _ => ?_
  rw [List.map_cons, List.map_nil, List.sum_cons, List.sum_nil, Int.add_zero]
/-! ### turned round -/
def swp (s : Sp3) : Sp3 := (s.2.2, s.2.1, s.1)
theorem swp_swp (s : Sp3) : swp (swp s) = s := rfl
def trn (m : Mc) : Mc := ⟨m.n, m.ls, m.fs, m.ss.map swp⟩
theorem trn_trn (m : Mc) : trn (trn m) = m := by
  unfold trn
  rw [List.map_map]
  have e : m.ss.map (swp ∘ swp) = m.ss := by
    rw [show (swp ∘ swp) = id from funext swp_swp, List.map_id]
  rw [e]
theorem map_nodup {f : Sp3 → Sp3} : ∀ {l : List Sp3}, l.Nodup → (∀ s ∈ l, ∀ t ∈ l, f s = f t → s = t) → (l.map f).Nodup
  | [], _, _ => List.nodup_nil
  | a :: r, nd, h => by
    obtain ⟨n1, n2⟩ := List.nodup_cons.mp nd
    refine List.nodup_cons.mpr ⟨fun z => ?_, map_nodup n2 fun s hs t ht => h s (List.mem_cons_of_mem _ hs) t (List.mem_cons_of_mem _ ht)⟩
    obtain ⟨t, ht, e⟩ := List.mem_map.mp z
    rw [h t (List.mem_cons_of_mem _ ht) a List.mem_cons_self e] at ht
    exact n1 ht
theorem trn_ok {m : Mc} (hm : m.ok) : (trn m).ok where
  n := hm.n
  fs := hm.ls
  ls := hm.fs
  ss := by
    obtain ⟨h1, h2, h3⟩ := hm.ss
    refine ⟨by show (m.ss.map swp).length ≤ 40; rw [List.length_map]; exact h1, map_nodup h2 fun s _ t _ e => by rw [← swp_swp s, e, swp_swp], fun s hs => ?_⟩
    obtain ⟨t, ht, rfl⟩ := List.mem_map.mp hs
    obtain ⟨a, b, c⟩ := h3 t ht
    exact ⟨c, b, a⟩
theorem has_trn (m : Mc) (a c b : Nat) : hasS (trn m) a c b = hasS m b c a := by
  unfold hasS
  have e : (a, c, b) ∈ (trn m).ss ↔ (b, c, a) ∈ m.ss := by
    constructor
    · intro h
      obtain ⟨t, ht, e⟩ := List.mem_map.mp h
      have e2 : t = (b, c, a) := by rw [← swp_swp t, e]; rfl
      rw [← e2]
      exact ht
    · intro h
      exact List.mem_map.mpr ⟨_, h, rfl⟩
  by_cases h : (b, c, a) ∈ m.ss
  · rw [if_pos h, if_pos (e.mpr h)]
  · rw [if_neg h, if_neg fun z => h (e.mp z)]
theorem cnt_one (m : Mc) (c a : Nat) {b : Nat} (hb : b < m.n) : cnt m [c] a b = hasS m a c b := by
  show (Sg m.n fun k => hasS m a c k * if k = b then 1 else 0) = _
  rw [Sg_congr (g := fun k => if k = b then hasS m a c k else 0) fun k _ => ?_, Sg_one hb]
  split <;> omega
theorem cnt_trn (m : Mc) : ∀ (l : List Nat) (a b : Nat), a < m.n → b < m.n → cnt (trn m) l.reverse b a = cnt m l a b
  | [], a, b, ha, hb => by
    show (if b = a then (1 : Int) else 0) = if a = b then 1 else 0
    by_cases h : a = b
    · rw [if_pos h, if_pos h.symm]
    · rw [if_neg h, if_neg fun z => h z.symm]
  | c :: l, a, b, ha, hb => by
    rw [List.reverse_cons, cnt_app (trn m) _ _ _ _ hb]
    show (Sg m.n fun k => cnt (trn m) l.reverse b k * cnt (trn m) [c] k a) = Sg m.n fun k => hasS m a c k * cnt m l k b
    refine Sg_congr fun k hk => ?_
    rw [cnt_trn m l k b hk hb, cnt_one (trn m) c k ha, has_trn, Int.mul_comm]
theorem wy_trn (m : Mc) (l : List Nat) {fs ls : List Nat} (lf : ∀ a ∈ fs, a < m.n) (ll : ∀ b ∈ ls, b < m.n) : wy (trn m) l.reverse ls fs = wy m l fs ls := by
  unfold wy
  rw [lsum_swap]
  refine lsum_congr fun b hb => lsum_congr fun a ha => ?_
  exact cnt_trn m l a b (lf a ha) (ll b hb)
/-! ### called otherwise -/
/-- the rooms' new names -/
structure Nam (n : Nat) (p : List Nat) : Prop where
  pm : p.Perm (List.range n)
theorem Nam.len {n : Nat} {p : List Nat} (h : Nam n p) : p.length = n := by rw [h.pm.length_eq, List.length_range]
def nm (p : List Nat) (i : Nat) : Nat := p.getD i 0
theorem nm_map (p : List Nat) : (List.range p.length).map (nm p) = p := by
  apply List.ext_getElem?
  intro i
  rw [List.getElem?_map]
  by_cases h : i < p.length
  · rw [List.getElem?_range h, List.getElem?_eq_getElem h]
    show some (p.getD i 0) = _
    rw [List.getD_eq_getElem?_getD, List.getElem?_eq_getElem h]
    rfl
  · rw [List.getElem?_eq_none (by rw [List.length_range]; omega), List.getElem?_eq_none (by omega)]
    rfl
theorem Nam.lt {n : Nat} {p : List Nat} (h : Nam n p) {i : Nat} (hi : i < n) : nm p i < n := by
  have hl : i < p.length := by rw [h.len]; exact hi
  have e : nm p i = p[i] := by
    unfold nm
    rw [List.getD_eq_getElem?_getD, List.getElem?_eq_getElem hl]
    rfl
  rw [e]
  exact List.mem_range.mp (h.pm.mem_iff.mp (List.getElem_mem hl))
theorem Nam.inj {n : Nat} {p : List Nat} (h : Nam n p) {i j : Nat} (hi : i < n) (hj : j < n) (e : nm p i = nm p j) : i = j := by
  have nd : p.Nodup := h.pm.nodup_iff.mpr List.nodup_range
  have li : i < p.length := by rw [h.len]; exact hi
  have lj : j < p.length := by rw [h.len]; exact hj
  have e1 : nm p i = p[i] := by
    unfold nm
    rw [List.getD_eq_getElem?_getD, List.getElem?_eq_getElem li]
    rfl
  have e2 : nm p j = p[j] := by
    unfold nm
    rw [List.getD_eq_getElem?_getD, List.getElem?_eq_getElem lj]
    rfl
  rw [e1, e2] at e
  rcases Nat.lt_trichotomy i j with z | z | z
  · exact absurd e (List.pairwise_iff_getElem.mp nd i j li lj z)
  · exact z
  · exact absurd e.symm (List.pairwise_iff_getElem.mp nd j i lj li z)
theorem Nam.sg {n : Nat} {p : List Nat} (h : Nam n p) (f : Nat → Int) : Sg n f = Sg n fun i => f (nm p i) := by
  rw [← Sg_perm h.pm f]
  have e := nm_map p
  rw [h.len] at e
  rw [← e, List.map_map]
  rw [e]
  rfl
def cls (p : List Nat) (s : Sp3) : Sp3 := (nm p s.1, s.2.1, nm p s.2.2)
def cal (m : Mc) (p fs ls : List Nat) : Mc := ⟨m.n, fs, ls, m.ss.map (cls p)⟩
theorem has_cal {m : Mc} (hm : m.ok) {p : List Nat} (hp : Nam m.n p) (fs ls : List Nat) {a b : Nat} (c : Nat) (ha : a < m.n) (hb : b < m.n) : hasS (cal m p fs ls) (nm p a) c (nm p b) = hasS m a c b := by
  unfold hasS
  have e : (nm p a, c, nm p b) ∈ (cal m p fs ls).ss ↔ (a, c, b) ∈ m.ss := by
    constructor
    · intro h
      obtain ⟨t, ht, e⟩ := List.mem_map.mp h
      obtain ⟨x, y, z⟩ := t
      have ht3 := hm.ss.2.2 _ ht
      have e1 : nm p x = nm p a := congrArg Prod.fst e
      have e2 : y = c := congrArg (fun s : Sp3 => s.2.1) e
      have e3 : nm p z = nm p b := congrArg (fun s : Sp3 => s.2.2) e
      have x1 : x = a := hp.inj ht3.1 ha e1
      have z1 : z = b := hp.inj ht3.2.2 hb e3
      rw [x1, e2, z1] at ht
      exact ht
    · intro h
      exact List.mem_map.mpr ⟨_, h, rfl⟩
  by_cases h : (a, c, b) ∈ m.ss
  · rw [if_pos h, if_pos (e.mpr h)]
  · rw [if_neg h, if_neg fun z => h (e.mp z)]
theorem cnt_cal {m : Mc} (hm : m.ok) {p : List Nat} (hp : Nam m.n p) (fs ls : List Nat) : ∀ (l : List Nat) (a b : Nat), a < m.n → b < m.n → cnt (cal m p fs ls) l (nm p a) (nm p b) = cnt m l a b
  | [], a, b, ha, hb => by
    show (if nm p a = nm p b then (1 : Int) else 0) = if a = b then 1 else 0
    by_cases h : a = b
    · rw [if_pos h, if_pos (by rw [h])]
    · rw [if_neg h, if_neg fun z => h (hp.inj ha hb z)]
  | c :: l, a, b, ha, hb => by
    show (Sg m.n fun k => hasS (cal m p fs ls) (nm p a) c k * cnt (cal m p fs ls) l k (nm p b)) = Sg m.n fun k => hasS m a c k * cnt m l k b
    rw [hp.sg]
    refine Sg_congr fun k hk => ?_
    rw [has_cal hm hp fs ls c ha hk, cnt_cal hm hp fs ls l k b hk hb]
theorem wy_cal {m : Mc} (hm : m.ok) {p : List Nat} (hp : Nam m.n p) (l : List Nat) {f0 l0 fs ls gs hs : List Nat} (lf : ∀ a ∈ fs, a < m.n) (ll : ∀ b ∈ ls, b < m.n) (pg : gs.Perm (fs.map (nm p))) (ph : hs.Perm (ls.map (nm p))) : wy (cal m p f0 l0) l gs hs = wy m l fs ls := by
  unfold wy
  rw [sum_perm (ph.map _), List.map_map]
  refine lsum_congr fun b hb => ?_
  show (gs.map fun a => cnt (cal m p f0 l0) l a (nm p b)).sum = _
  rw [sum_perm (pg.map _), List.map_map]
  exact lsum_congr fun a ha => cnt_cal hm hp f0 l0 l a b (lf a ha) (ll b hb)
end K40

set_option Elab.async false
set_option linter.all false
set_option maxRecDepth 100000
set_option maxHeartbeats 4000000
/-! K40n: machines turned round, called otherwise, their beginnings -/
namespace K40
open PySem PySem.Spec L2 TL
abbrev s_turned : Stmt := top 13
theorem sc_turned : FnScope ["machine", "many", "firsts", "lasts", "steps", "room", "sign", "other"] ["machine"] (defScope s_turned) := ⟨rfl, rfl, rfl, by decide +kernel, rfl, by decide +kernel, by decide +kernel⟩
theorem sh_inz (l : List Int) : SeqAt.shaped (.list (inz l)) = true := by
  have a : PyData.canLayAll0 (inz l) = true ∧ PyData.depthAll (inz l) = 0 := by
    induction l with
    | nil => exact ⟨rfl, rfl⟩
    | cons c r ih =>
      constructor
      · show (PyData.canLay0 (.int c) && PyData.canLayAll0 (inz r)) = true
        rw [ih.1]
        rfl
      · show max (PyData.depth (.int c)) (PyData.depthAll (inz r)) = 0
        rw [ih.2]
        rfl
  unfold SeqAt.shaped
  rw [Bool.and_eq_true]
  refine ⟨a.1, decide_eq_true ?_⟩
  show PyData.depthAll _ + 1 ≤ 64
  rw [a.2]
  decide
theorem eqv_inz (l : List Int) : PyData.eqv (.list (inz l)) (.list (inz l)) = true := by
  have z := eqv_ints l
  simpa [PyData.eqv, inz] using z
theorem nums_inz (l : List Nat) : nums l = inz (l.map fun (i : Nat) => (i : Int)) := by
  unfold nums inz
  rw [List.map_map]
  rfl
theorem eqv_nums (l : List Nat) : PyData.eqv (.list (nums l)) (.list (nums l)) = true := by
  rw [nums_inz]
  exact eqv_inz _
theorem range_getD (v : List Int) : ((List.range v.length).map fun i => v.getD i 0) = v := by
  apply List.ext_getElem?
  intro i
  rw [List.getElem?_map]
  by_cases h : i < v.length
  · rw [List.getElem?_range h, List.getElem?_eq_getElem h]
    show some (v.getD i 0) = _
    rw [List.getD_eq_getElem?_getD, List.getElem?_eq_getElem h]
    rfl
  · rw [List.getElem?_eq_none (by rw [List.length_range]; omega), List.getElem?_eq_none (by omega)]
    rfl
theorem callD_pure {S : DSp} {R : DQ} {δ : List Sl} (ds : List PyData) (mono : MonoS S) (k : S (ds.map Sl.dat) fun d outs => outs = [] ∧ R d δ) : callD S R (ds.map CA.d) δ := by
  unfold callD
  rw [muts_d, asOf_d]
  refine ⟨List.nodup_nil, mono _ _ _ (fun d o h => ?_) k⟩
  obtain ⟨rfl, h⟩ := h
  exact ⟨rfl, h⟩
theorem lc_from {vs : List Nat} {g : DTG} {t : DTT} {u : DTE} {R : List PyData → List Sl → Prop} {ds acc : List PyData} {δ δ0 : List Sl} (h : wipeS δ vs = δ0) (h00 : wipeS δ0 vs = δ0) (ne : ds ≠ []) (k : lcW vs g t u R ds acc δ0) : lcW vs g t u R ds acc δ := by
  cases ds with
  | nil => exact absurd rfl ne
  | cons d r =>
    have k : g d (wipeS δ0 vs) fun δ1 => t δ1 fun b δ2 => if b = true then u δ2 fun y δ3 => acc.length < sizeLine ∧ lcW vs g t u R r (acc ++ [y]) (wipeS δ3 vs) else lcW vs g t u R r acc (wipeS δ2 vs) := k
    show g d (wipeS δ vs) fun δ1 => t δ1 fun b δ2 => if b = true then u δ2 fun y δ3 => acc.length < sizeLine ∧ lcW vs g t u R r (acc ++ [y]) (wipeS δ3 vs) else lcW vs g t u R r acc (wipeS δ2 vs)
    rw [h00] at k
    rw [h]
    exact k
theorem shr_one (v : List Int) (i : Nat) : shr v [i] = v.getD i 0 := by
  unfold shr
  simp
abbrev dneg : R1D := fun d R => match d with
  | .int i => R (.int (-i))
  | _ => False
theorem okR_nodup {n : Nat} {l : List Nat} (h : okR n l) : l.Nodup := h.1.imp fun hab e => by rw [e] at hab; exact Nat.lt_irrefl _ hab
def S_turned : DSp := fun as R => ∃ m : Mc, as = [.dat m.d] ∧ m.ok ∧ R (trn m).d []
theorem mono_turned : MonoS S_turned := fun as R R' h ⟨m, a, b, k⟩ => ⟨m, a, b, h _ _ k⟩
section
variable {P : Program} {w : World} {K : PySem.W.Frag} {mg : Str → Option Value} {base : Heap}
variable (m_len : mg "len" = none) (m_isinstance : mg "isinstance" = none) (m_str : mg "str" = none) (m_bool : mg "bool" = none) (m_range : mg "range" = none) (m_int : mg "int" = none) (m_max : mg "max" = none) (m_min : mg "min" = none) (m_sum : mg "sum" = none) (m_set : mg "set" = none) (m_tuple : mg "tuple" = none) (m_list : mg "list" = none) (m_enumerate : mg "enumerate" = none) (m_sorted : mg "sorted" = none) (m_all : mg "all" = none)
include m_len m_isinstance m_str m_bool m_range m_int m_max m_min m_sum m_set m_tuple m_list m_enumerate m_sorted m_all
theorem ok_turned {f : Addr} {fd : FuncData} (F : Fun K "turned" "turned" s_turned f fd) (k_look_at : Kn P w K mg base 5 "look_at" S_look) : FnOkG P w K mg base CX0 6 f fd ["machine"] (spD K S_turned) := by
  refine fnD F sc_turned (fun as R h => by obtain ⟨_, rfl, _⟩ := h; rfl) fun cdv A outer s H E hr => ?_
  have nd := sc_turned.nd
  have hu := hr.units
  have hu1 := hr.units1
  refine ⟨_, _, (dss_cons (ds_expr (de_call k_look_at hr (by omega) (dca_d (de_var 0) dca_nil)))
    (dss_cons (ds_setTup (de_var 0) (dg_tup rfl (dgs_cons (dg_name 1 nd) (dgs_cons (dg_name 2 nd) (dgs_cons (dg_name 3 nd) (dgs_cons (dg_name 4 nd) dgs_nil))))))
    (dss_one (ds_ret (de_tup (da_cons (de_var 1) (da_cons (de_list1 m_list (de_var 3)) (da_cons (de_list1 m_list (de_var 2)) (da_cons (de_lc [("room", 5), ("sign", 6), ("other", 7)] rfl nd (di_list (de_var 4)) (blkOk_by (N := ["machine", "many", "firsts", "lasts", "steps", "room", "sign", "other"]) (sc := defScope s_turned) (by decide +kernel)) (fun _ _ _ _ _ => (dg_tupI (n := 3) rfl (dgs_cons (dg_name 5 nd) (dgs_cons (dg_name 6 nd) (dgs_cons (dg_name 7 nd) dgs_nil))))) (fun _ _ _ _ _ => dts_nil) (fun _ _ _ _ _ => (de_tup (da_cons (de_var 7) (da_cons (de_var 6) (da_cons (de_var 5) da_nil))))) (by decide)) da_nil))))))))), ?_⟩
  rintro as R ⟨m, rfl, hm, hR⟩
  refine sq_drop (call_pure2 [m.d] (fun Q z => z) mono_look ⟨m, rfl, hm, rfl, ?_⟩)
  refine sq_asg (var_at (i := 0) (d := m.d) rfl ⟨rfl, ?_⟩)
  show dTup (dCons (dVar 1) (dCons (dListOf (dVar 3)) (dCons (dListOf (dVar 2)) (dCons (dLc (diL (dVar 4)) (dgTup 3 (dgCons (dgName 5) (dgCons (dgName 6) (dgCons (dgName 7) dgNil)))) dYes (dTup (dCons (dVar 7) (dCons (dVar 6) (dCons (dVar 5) dNil)))) [5, 6, 7]) dNil)))) [.dat m.d, .dat (.int m.n), .dat (.list (nums m.fs)), .dat (.list (nums m.ls)), .dat (.list (m.ss.map stepD)), .no, .no, .no] _
  show lcW [5, 6, 7] _ _ _ _ (m.ss.map stepD) [] [.dat m.d, .dat (.int m.n), .dat (.list (nums m.fs)), .dat (.list (nums m.ls)), .dat (.list (m.ss.map stepD)), .no, .no, .no]
  refine lc_of (fun _ => true) (fun s => stepD (swp s)) stepD rfl m.ss [] (by have := hm.ss.1; show 0 + _ ≤ _; omega) (fun s hs Y N hY hN => ⟨rfl, nat_le_size (by show 3 ≤ 16777216; decide), hY rfl _ rfl⟩) ?_
  rw [List.nil_append, List.filter_eq_self.mpr fun _ _ => rfl]
  have e : m.ss.map (fun s => stepD (swp s)) = (trn m).ss.map stepD := by
    show _ = (m.ss.map swp).map stepD
    rw [List.map_map]
    rfl
  rw [e]
  exact ⟨nat_le_size (by show 4 ≤ 16777216; decide), [], hR, outs0⟩
end
end K40

set_option Elab.async false
set_option linter.all false
set_option pp.maxSteps 1500
set_option maxRecDepth 100000
set_option maxHeartbeats 4000000
/-! K40o: rooms come to -/
namespace K40
open PySem PySem.Spec L2 TL
/-- come to from rooms by steps -/
inductive Rch (ss : List Sp3) (l : List Nat) : Nat → Prop
  | base {i : Nat} : i ∈ l → Rch ss l i
  | step {s : Sp3} : s ∈ ss → Rch ss l s.1 → Rch ss l s.2.2
def Clo (ss : List Sp3) (t : List Nat) : Prop := ∀ s ∈ ss, s.1 ∈ t → s.2.2 ∈ t
theorem rch_in {ss : List Sp3} {l t : List Nat} (h1 : ∀ i ∈ l, i ∈ t) (h2 : Clo ss t) : ∀ {i : Nat}, Rch ss l i → i ∈ t
  | _, .base h => h1 _ h
  | _, .step hs r => h2 _ hs (rch_in h1 h2 r)
theorem rch_lt {n : Nat} {ss : List Sp3} {l : List Nat} (h1 : ∀ i ∈ l, i < n) (h2 : ∀ s ∈ ss, okP n s) : ∀ {i : Nat}, Rch ss l i → i < n
  | _, .base h => h1 _ h
  | _, .step hs _ => (h2 _ hs).2.2
theorem nodup_le : ∀ (n : Nat) (l : List Nat), l.Nodup → (∀ i ∈ l, i < n) → l.length ≤ n
  | 0, l, _, h => by
    cases l with
    | nil => exact Nat.le_refl _
    | cons x r => exact absurd (h x List.mem_cons_self) (Nat.not_lt_zero _)
  | n + 1, l, nd, h => by
    by_cases hn : n ∈ l
    · have h1 := List.length_erase_of_mem hn
      have h2 := nodup_le n (l.erase n) (nd.erase n) fun i hi => by
        have q := (List.Nodup.mem_erase_iff nd).mp hi
        have := h i q.2
        have := q.1
        omega
      have : 0 < l.length := List.length_pos_of_mem hn
      omega
    · have := nodup_le n l nd fun i hi => by
        have := h i hi
        have : i ≠ n := fun e => hn (by rw [← e]; exact hi)
        omega
      omega
theorem okR_nd {n : Nat} {l : List Nat} (h : okR n l) : l.Nodup := h.1.imp fun h => Nat.ne_of_lt h
/-- of use: come to from a first, and on to a last -/
def Use (m : Mc) (i : Nat) : Prop := Rch m.ss m.fs i ∧ Rch (trn m).ss m.ls i
open Classical in
noncomputable def useR (m : Mc) : List Nat := (List.range m.n).filter fun i => decide (Use m i)
theorem mem_use {m : Mc} (hm : m.ok) {i : Nat} : i ∈ useR m ↔ Use m i := by
  classical
  unfold useR
  rw [List.mem_filter, List.mem_range, decide_eq_true_iff]
  exact ⟨fun h => h.2, fun h => ⟨rch_lt hm.fs.2 hm.ss.2.2 h.1, h⟩⟩
theorem use_lt {m : Mc} {i : Nat} (h : i ∈ useR m) : i < m.n := by
  unfold useR at h
  exact List.mem_range.mp (List.mem_filter.mp h).1
theorem use_few (m : Mc) : (useR m).length ≤ m.n := by
  unfold useR
  have := List.length_filter_le (fun i => @decide (Use m i) (Classical.propDecidable _)) (List.range m.n)
  rw [List.length_range] at this
  exact this
/-- trimmed -/
noncomputable def trM (m : Mc) : Mc := ⟨m.n, m.fs.filter fun i => decide (i ∈ useR m), m.ls.filter fun i => decide (i ∈ useR m), m.ss.filter fun s => decide (s.1 ∈ useR m) && decide (s.2.2 ∈ useR m)⟩
theorem okR_filter {n : Nat} {l : List Nat} (h : okR n l) (p : Nat → Bool) : okR n (l.filter p) := ⟨h.1.filter _, fun i hi => h.2 i (List.mem_filter.mp hi).1⟩
theorem trM_ok {m : Mc} (hm : m.ok) : (trM m).ok where
  n := hm.n
  fs := okR_filter hm.fs _
  ls := okR_filter hm.ls _
  ss := ⟨Nat.le_trans (List.length_filter_le _ _) hm.ss.1, hm.ss.2.1.filter _, fun s hs => hm.ss.2.2 s (List.mem_filter.mp hs).1⟩
theorem mem_trS {m : Mc} {s : Sp3} : s ∈ (trM m).ss ↔ s ∈ m.ss ∧ s.1 ∈ useR m ∧ s.2.2 ∈ useR m := by
  unfold trM
  rw [List.mem_filter, Bool.and_eq_true, decide_eq_true_iff, decide_eq_true_iff]
theorem mem_swp {m : Mc} {s : Sp3} : s ∈ (trn m).ss ↔ swp s ∈ m.ss := by
  unfold trn
  rw [List.mem_map]
  constructor
  · rintro ⟨t, ht, rfl⟩
    exact ht
  · intro h
    exact ⟨swp s, h, rfl⟩
theorem fwd_tr {m : Mc} (hm : m.ok) : ∀ {i : Nat}, Rch m.ss m.fs i → Rch (trn m).ss m.ls i → Rch (trM m).ss (trM m).fs i
  | i, .base h, b => .base (List.mem_filter.mpr ⟨h, decide_eq_true ((mem_use hm).mpr ⟨.base h, b⟩)⟩)
  | _, .step (s := s) hs r, b => by
    have b1 : Rch (trn m).ss m.ls s.1 := Rch.step (s := swp s) (mem_swp.mpr hs) b
    refine Rch.step (mem_trS.mpr ⟨hs, (mem_use hm).mpr ⟨r, b1⟩, (mem_use hm).mpr ⟨.step hs r, b⟩⟩) (fwd_tr hm r b1)
theorem bwd_tr {m : Mc} (hm : m.ok) : ∀ {i : Nat}, Rch (trn m).ss m.ls i → Rch m.ss m.fs i → Rch (trn (trM m)).ss (trM m).ls i
  | i, .base h, b => .base (List.mem_filter.mpr ⟨h, decide_eq_true ((mem_use hm).mpr ⟨b, .base h⟩)⟩)
  | _, .step (s := s) hs r, b => by
    have hs' := mem_swp.mp hs
    have b1 : Rch m.ss m.fs s.1 := Rch.step (s := swp s) hs' b
    refine Rch.step (s := s) (mem_swp.mpr (mem_trS.mpr ⟨hs', (mem_use hm).mpr ⟨b, .step hs r⟩, (mem_use hm).mpr ⟨b1, r⟩⟩)) (bwd_tr hm r b1)
theorem rch_mono {ss ss' : List Sp3} {l l' : List Nat} (h1 : ∀ s ∈ ss, s ∈ ss') (h2 : ∀ i ∈ l, i ∈ l') : ∀ {i : Nat}, Rch ss l i → Rch ss' l' i
  | _, .base h => .base (h2 _ h)
  | _, .step hs r => .step (h1 _ hs) (rch_mono h1 h2 r)
theorem use_tr {m : Mc} (hm : m.ok) (i : Nat) : Use (trM m) i ↔ Use m i := by
  constructor
  · rintro ⟨a, b⟩
    refine ⟨rch_mono (fun s hs => (mem_trS.mp hs).1) (fun i hi => (List.mem_filter.mp hi).1) a, rch_mono (fun s hs => ?_) (fun i hi => (List.mem_filter.mp hi).1) b⟩
    exact mem_swp.mpr (mem_trS.mp (mem_swp.mp hs)).1
  · rintro ⟨a, b⟩
    exact ⟨fwd_tr hm a b, bwd_tr hm b a⟩
theorem useR_tr {m : Mc} (hm : m.ok) : useR (trM m) = useR m := by
  unfold useR
  refine List.filter_congr fun i _ => ?_
  exact decide_eq_decide.mpr (use_tr hm i)
theorem trM_tr {m : Mc} (hm : m.ok) : trM (trM m) = trM m := by
  have e := useR_tr hm
  show Mc.mk _ _ _ _ = Mc.mk _ _ _ _
  rw [e]
  congr 1
  · show (m.fs.filter _).filter _ = m.fs.filter _
    rw [List.filter_filter]
    exact List.filter_congr fun i _ => by rw [Bool.and_self]
  · show (m.ls.filter _).filter _ = m.ls.filter _
    rw [List.filter_filter]
    exact List.filter_congr fun i _ => by rw [Bool.and_self]
  · show (m.ss.filter _).filter _ = m.ss.filter _
    rw [List.filter_filter]
    exact List.filter_congr fun i _ => by rw [Bool.and_self]
end K40

set_option Elab.async false
set_option linter.all false
set_option pp.maxSteps 1500
set_option maxRecDepth 100000
set_option maxHeartbeats 4000000
/-! K40p: the program goes from room to room -/
namespace K40
open PySem PySem.Spec L2 TL
abbrev s_led_to : Stmt := top 17
theorem sc_led_to : FnScope ["rooms", "steps", "told", "more", "room", "_", "other"] ["rooms", "steps"] (defScope s_led_to) := ⟨rfl, rfl, rfl, by decide +kernel, rfl, by decide +kernel, by decide +kernel⟩
abbrev s_useful : Stmt := top 15
theorem sc_useful : FnScope ["machine", "many", "lasts", "firsts", "steps_back", "ahead", "behind", "room"] ["machine"] (defScope s_useful) := ⟨rfl, rfl, rfl, by decide +kernel, rfl, by decide +kernel, by decide +kernel⟩
abbrev s_trimmed : Stmt := top 16
theorem sc_trimmed : FnScope ["machine", "rooms", "many", "firsts", "lasts", "steps", "room", "sign", "other"] ["machine"] (defScope s_trimmed) := ⟨rfl, rfl, rfl, by decide +kernel, rfl, by decide +kernel, by decide +kernel⟩
theorem sc_of {α : Type} {vs : List Nat} {g : DTG} {t : DTT} {u : DTE} {R : List Int → List Sl → Prop} (p : α → Bool) (F : α → Int) (D : α → PyData) {δ0 : List Sl} (h00 : wipeS δ0 vs = δ0) : ∀ (xs : List α) (acc : List Int), acc.length + xs.length ≤ 60 →
    (∀ x ∈ xs, ∀ (Y : PyData → List Sl → Prop) (N : List Sl → Prop), (p x = true → ∀ δ3, wipeS δ3 vs = δ0 → Y (.int (F x)) δ3) → (p x = false → ∀ δ2, wipeS δ2 vs = δ0 → N δ2) → g (D x) δ0 (fun δ1 => t δ1 fun b δ2 => if b = true then u δ2 Y else N δ2)) →
    R (acc ++ (xs.filter p).map F) δ0 → scWI vs g t u R (xs.map D) acc δ0
  | [], acc, hl, hs, k => by
    rw [List.filter_nil, List.map_nil, List.append_nil] at k
    exact k
  | x :: r, acc, hl, hs, k => by
    rw [List.length_cons] at hl
    show g (D x) (wipeS δ0 vs) fun δ1 => t δ1 fun b δ2 => if b = true then u δ2 fun y δ3 => (match y with
      | .int z => acc.length < 60 ∧ scWI vs g t u R (r.map D) (acc ++ [z]) (wipeS δ3 vs)
      | _ => False) else scWI vs g t u R (r.map D) acc (wipeS δ2 vs)
    rw [h00]
    refine hs x List.mem_cons_self (fun y δ3 => (match y with
      | .int z => acc.length < 60 ∧ scWI vs g t u R (r.map D) (acc ++ [z]) (wipeS δ3 vs)
      | _ => False)) _ (fun hp δ3 h3 => ⟨by omega, ?_⟩) (fun hp δ2 h2 => ?_)
    · rw [h3]
      refine sc_of p F D h00 r (acc ++ [F x]) (by rw [List.length_append, List.length_singleton]; omega) (fun y hy => hs y (List.mem_cons_of_mem _ hy)) ?_
      rw [List.filter_cons, if_pos hp, List.map_cons] at k
      rw [List.append_assoc]
      exact k
    · rw [h2]
      refine sc_of p F D h00 r acc (by omega) (fun y hy => hs y (List.mem_cons_of_mem _ hy)) ?_
      rw [List.filter_cons, if_neg (by rw [hp]; decide)] at k
      exact k
def S_led : DSp := fun as R => ∃ (n : Nat) (l : List Nat) (ss : List Sp3), as = [.dat (.list (nums l)), .dat (.list (ss.map stepD))] ∧ n ≤ 12 ∧ okR n l ∧ okS n ss ∧ ∀ t : List Nat, (∀ i, i ∈ t ↔ Rch ss l i) → R (.list (nums t)) []
theorem mono_led : MonoS S_led := fun as R R' h ⟨n, l, ss, a, b, c, d, k⟩ => ⟨n, l, ss, a, b, c, d, fun t ht => h _ _ (k t ht)⟩
def S_useful : DSn := fun as R => ∃ m : Mc, as = [.dat m.d] ∧ m.ok ∧ R (nums (useR m)) []
def S_useD : DSp := fun as R => ∃ m : Mc, as = [.dat m.d] ∧ m.ok ∧ R (.list (nums (useR m))) []
theorem mono_useD : MonoS S_useD := fun as R R' h ⟨m, a, b, k⟩ => ⟨m, a, b, h _ _ k⟩
/-- the machine's new tree -/
def Mc.td (m : Mc) : TD := .tp [.t (.int (m.n : Int)), .l (nums m.fs), .l (nums m.ls), .l (m.ss.map stepD)]
theorem Mc.td_d (m : Mc) : m.td.d = m.d := by
  simp only [Mc.td, TD.d, TD.dAll, Mc.d]
def S_trim : DSt := fun as R => ∃ m : Mc, as = [.dat m.d] ∧ m.ok ∧ R (trM m).td []
def S_trimD : DSp := fun as R => ∃ m : Mc, as = [.dat m.d] ∧ m.ok ∧ R (trM m).d []
theorem mono_trimD : MonoS S_trimD := fun as R R' h ⟨m, a, b, k⟩ => ⟨m, a, b, h _ _ k⟩
theorem nums_app (a b : List Nat) : nums (a ++ b) = nums a ++ nums b := List.map_append
theorem inD {i : Nat} {l : List Nat} {a b : DTE} {δ : List Sl} {R : Bool → List Sl → Prop} (ha : Ev a δ (.int (i : Int))) (hb : Ev b δ (.list (nums l))) (k : R (decide (i ∈ l)) δ) : dTest (dOp dIn a b) δ R := ha _ (hb _ ⟨rfl, sh_nums l, by
  rw [any_nums]
  exact k⟩)
theorem notInD {i : Nat} {l : List Nat} {a b : DTE} {δ : List Sl} {R : Bool → List Sl → Prop} (ha : Ev a δ (.int (i : Int))) (hb : Ev b δ (.list (nums l))) (k : R (!decide (i ∈ l)) δ) : dTest (dOp dNotIn a b) δ R := ha _ (hb _ ⟨rfl, sh_nums l, by
  rw [any_nums]
  exact k⟩)
theorem nat_list (ms : List Int) (f : List Nat) (h : ∀ z, z ∈ ms → ∃ k ∈ f, z = ((k : Nat) : Int)) : ∃ mm : List Nat, ms = mm.map fun (i : Nat) => (i : Int) := by
  refine ⟨ms.map Int.toNat, ?_⟩
  rw [List.map_map]
  have e : ∀ z ∈ ms, ((fun (i : Nat) => (i : Int)) ∘ Int.toNat) z = z := fun z hz => by
    obtain ⟨k, _, rfl⟩ := h z hz
    rfl
  rw [List.map_congr_left e, List.map_id']
section
variable {P : Program} {w : World} {K : PySem.W.Frag} {mg : Str → Option Value} {base : Heap}
variable (m_len : mg "len" = none) (m_isinstance : mg "isinstance" = none) (m_str : mg "str" = none) (m_bool : mg "bool" = none) (m_range : mg "range" = none) (m_int : mg "int" = none) (m_max : mg "max" = none) (m_min : mg "min" = none) (m_sum : mg "sum" = none) (m_set : mg "set" = none) (m_tuple : mg "tuple" = none) (m_list : mg "list" = none) (m_enumerate : mg "enumerate" = none) (m_sorted : mg "sorted" = none) (m_repr : mg "repr" = none)
include m_len m_isinstance m_str m_bool m_range m_int m_max m_min m_sum m_set m_tuple m_list m_enumerate m_sorted m_repr
theorem ok_led_to {f : Addr} {fd : FuncData} (F : Fun K "led_to" "led_to" s_led_to f fd)  : FnOkG P w K mg base CX0 1 f fd ["rooms", "steps"] (spD K S_led) := by
  refine fnD F sc_led_to (fun as R h => by obtain ⟨_, _, _, rfl, _⟩ := h; rfl) fun cdv A outer s H E hr => ?_
  have nd := sc_led_to.nd
  have hu := hr.units
  have hu1 := hr.units1
  refine ⟨_, _, (dss_cons (ds_set 2 nd (de_var 0))
    (dss_cons (ds_set 3 nd (de_var 0))
    (dss_cons (ds_while PassesOwn.never (dt_tru (de_var 3)) (dss_cons (ds_set 3 nd (de_sortScI [("room", 4), ("_", 5), ("other", 6)] m_sorted rfl nd (di_list (de_var 1)) (blkOk_by (N := ["rooms", "steps", "told", "more", "room", "_", "other"]) (sc := defScope s_led_to) (by decide +kernel)) (fun _ _ _ _ _ => (dg_tupI (n := 3) rfl (dgs_cons (dg_name 4 nd) (dgs_cons (dg_name 5 nd) (dgs_cons (dg_name 6 nd) dgs_nil))))) (fun _ _ _ _ _ => (dts_one (dt_w (dw_and (dt_inI hu1 (de_var 4) (de_var 2)) (dw_and1 (dt_notInI hu1 (de_var 6) (de_var 2))))))) (fun _ _ _ _ _ => (de_var 6)) (by decide)))
    (dss_one (ds_set 2 nd (de_op op_cat ro_cat (de_var 2) (de_var 3))))))
    (dss_one (ds_ret (de_var 2)))))), ?_⟩
  rintro as R ⟨n, l, ss, rfl, hn, hl, hs, hR⟩
  refine sq_asg (var_at (i := 0) (d := .list (nums l)) rfl ?_)
  refine sq_asg (var_at (i := 0) (d := .list (nums l)) rfl ?_)
  simp only [dgName, List.set_cons_succ, List.set_cons_zero, List.cons_append, List.nil_append]
  have hs1 := hs.1
  have ll : l.length ≤ n := nodup_le n l (okR_nd hl) hl.2
  have fin : ∀ (f : Nat) (t : List Nat) (s4 s5 s6 : Sl) (u : DTS), (∀ i ∈ t, Rch ss l i) → (∀ i ∈ l, i ∈ t) → Clo ss t → whW (dTru (dVar 3)) u { endsOf R with nx := dRet (dVar 2) (endsOf R) } (f + 1) [.dat (.list (nums l)), .dat (.list (ss.map stepD)), .dat (.list (nums t)), .dat (.list (nums [])), s4, s5, s6] := fun f t s4 s5 s6 u h1 h2 h3 => by
    unfold whW
    refine var_at (i := 3) (d := .list []) rfl ?_
    show (if (!([] : List PyData).isEmpty) = true then _ else _)
    simp only [List.isEmpty_nil, Bool.not_true, Bool.false_eq_true, if_false]
    refine var_at (i := 2) (d := .list (nums t)) rfl ⟨[], hR t fun i => ⟨h1 i, fun r => rch_in h2 h3 r⟩, outs0⟩
  -- one turn
  have turn : ∀ (f : Nat) (t mo : List Nat) (s4 s5 s6 : Sl), mo ≠ [] → t.length + 40 ≤ 1000000 → (∀ mm : List Nat, mm.Pairwise (· < ·) → (∀ i, i ∈ mm ↔ ∃ s ∈ ss, s.1 ∈ t ∧ s.2.2 ∉ t ∧ i = s.2.2) → ∀ s4 s5 s6 : Sl,
      whW (dTru (dVar 3)) (dSeq (dAsg (dSortScI (diL (dVar 1)) (dgTup 3 (dgCons (dgName 4) (dgCons (dgName 5) (dgCons (dgName 6) dgNil)))) (dAnd (dTest (dOp dIn (dVar 4) (dVar 2))) (dTest (dOp dNotIn (dVar 6) (dVar 2)))) (dVar 6) [4, 5, 6]) (dgName 3)) (dAsg (dOp dCat (dVar 2) (dVar 3)) (dgName 2)))
        { endsOf R with nx := dRet (dVar 2) (endsOf R) } f [.dat (.list (nums l)), .dat (.list (ss.map stepD)), .dat (.list (nums (t ++ mm))), .dat (.list (nums mm)), s4, s5, s6]) →
      whW (dTru (dVar 3)) (dSeq (dAsg (dSortScI (diL (dVar 1)) (dgTup 3 (dgCons (dgName 4) (dgCons (dgName 5) (dgCons (dgName 6) dgNil)))) (dAnd (dTest (dOp dIn (dVar 4) (dVar 2))) (dTest (dOp dNotIn (dVar 6) (dVar 2)))) (dVar 6) [4, 5, 6]) (dgName 3)) (dAsg (dOp dCat (dVar 2) (dVar 3)) (dgName 2)))
        { endsOf R with nx := dRet (dVar 2) (endsOf R) } (f + 1) [.dat (.list (nums l)), .dat (.list (ss.map stepD)), .dat (.list (nums t)), .dat (.list (nums mo)), s4, s5, s6] := by
    intro f t mo s4 s5 s6 hmo htl k
    rw [whW]
    refine var_at (i := 3) (d := .list (nums mo)) rfl ?_
    have em : (nums mo).isEmpty = false := by
      cases mo with
      | nil => exact absurd rfl hmo
      | cons x r => rfl
    show (if (!(nums mo).isEmpty) = true then _ else _)
    rw [em]
    simp only [Bool.not_false, if_true]
    refine sq_asg ?_
    unfold dSortScI diL
    refine var_at (i := 1) (d := .list (ss.map stepD)) rfl ?_
    have h0 : ∀ (ms : List Int) (s4 s5 s6 : Sl), ms.Pairwise (· < ·) → (∀ z, z ∈ ms ↔ z ∈ [] ++ (ss.filter fun s => decide (s.1 ∈ t) && !decide (s.2.2 ∈ t)).map fun s => (s.2.2 : Int)) →
        dAsg (dOp dCat (dVar 2) (dVar 3)) (dgName 2) { endsOf R with nx := whW (dTru (dVar 3)) (dSeq (dAsg (dSortScI (diL (dVar 1)) (dgTup 3 (dgCons (dgName 4) (dgCons (dgName 5) (dgCons (dgName 6) dgNil)))) (dAnd (dTest (dOp dIn (dVar 4) (dVar 2))) (dTest (dOp dNotIn (dVar 6) (dVar 2)))) (dVar 6) [4, 5, 6]) (dgName 3)) (dAsg (dOp dCat (dVar 2) (dVar 3)) (dgName 2))) { endsOf R with nx := dRet (dVar 2) (endsOf R) } f }
          [.dat (.list (nums l)), .dat (.list (ss.map stepD)), .dat (.list (nums t)), .dat (.list (ms.map PyData.int)), s4, s5, s6] := fun ms s4 s5 s6 hp hm => by
      obtain ⟨mm, rfl⟩ := nat_list ms (ss.map fun s => s.2.2) fun z hz => by
        have q := (hm z).mp hz
        rw [List.nil_append] at q
        obtain ⟨s, hs', e⟩ := List.mem_map.mp q
        exact ⟨s.2.2, List.mem_map.mpr ⟨s, (List.mem_filter.mp hs').1, rfl⟩, e.symm⟩
      have en : (mm.map fun (i : Nat) => (i : Int)).map PyData.int = nums mm := by
        unfold nums
        rw [List.map_map]
        rfl
      rw [en]
      have hm' : ∀ i : Nat, i ∈ mm ↔ ∃ s ∈ ss, s.1 ∈ t ∧ s.2.2 ∉ t ∧ i = s.2.2 := fun i => by
        have q := hm (i : Int)
        rw [List.nil_append, List.mem_map, List.mem_map] at q
        constructor
        · intro hi
          obtain ⟨s, hs', e⟩ := q.mp ⟨i, hi, rfl⟩
          obtain ⟨q1, q2⟩ := List.mem_filter.mp hs'
          rw [Bool.and_eq_true, Bool.not_eq_true', decide_eq_true_iff, decide_eq_false_iff_not] at q2
          exact ⟨s, q1, q2.1, q2.2, by omega⟩
        · rintro ⟨s, q1, q2, q3, rfl⟩
          obtain ⟨j, hj, e⟩ := q.mpr ⟨s, List.mem_filter.mpr ⟨q1, by rw [decide_eq_true q2, decide_eq_false q3]; rfl⟩, rfl⟩
          have : j = s.2.2 := by omega
          rw [← this]
          exact hj
      have hpn : mm.Pairwise (· < ·) := (List.pairwise_map.mp hp).imp fun h => by omega
      have ml : mm.length ≤ n := nodup_le n mm (hpn.imp fun h => Nat.ne_of_lt h) fun i hi => by
        obtain ⟨s, q1, _, _, rfl⟩ := (hm' i).mp hi
        exact (hs.2.2 s q1).2.2
      refine ev_cat (ev_var (i := 2) rfl) (ev_var (i := 3) rfl) ?_ _ ?_
      · rw [nums_len, nums_len]
        omega
      · rw [← nums_app]
        exact k mm hpn hm' s4 s5 s6
    cases ss with
    | nil => exact fun ms hp hm => h0 ms s4 s5 s6 hp hm
    | cons s0 sr =>
      have st : ∀ (ds : List PyData) (acc : List Int) (E : List Int → List Sl → Prop), scWI [4, 5, 6] (dgTup 3 (dgCons (dgName 4) (dgCons (dgName 5) (dgCons (dgName 6) dgNil)))) (dAnd (dTest (dOp dIn (dVar 4) (dVar 2))) (dTest (dOp dNotIn (dVar 6) (dVar 2)))) (dVar 6) E ((s0 :: sr).map stepD) acc [.dat (.list (nums l)), .dat (.list ((s0 :: sr).map stepD)), .dat (.list (nums t)), .dat (.list (nums mo)), .no, .no, .no] →
          scWI [4, 5, 6] (dgTup 3 (dgCons (dgName 4) (dgCons (dgName 5) (dgCons (dgName 6) dgNil)))) (dAnd (dTest (dOp dIn (dVar 4) (dVar 2))) (dTest (dOp dNotIn (dVar 6) (dVar 2)))) (dVar 6) E ((s0 :: sr).map stepD) acc [.dat (.list (nums l)), .dat (.list ((s0 :: sr).map stepD)), .dat (.list (nums t)), .dat (.list (nums mo)), s4, s5, s6] := fun ds acc E h => h
      refine st [] _ _ ?_
      refine sc_of (fun s => decide (s.1 ∈ t) && !decide (s.2.2 ∈ t)) (fun s => (s.2.2 : Int)) stepD (δ0 := [.dat (.list (nums l)), .dat (.list ((s0 :: sr).map stepD)), .dat (.list (nums t)), .dat (.list (nums mo)), .no, .no, .no]) rfl (s0 :: sr) [] (by show 0 + _ ≤ _; omega) (fun s hs' Y N hY hN => ?_) ?_
      · refine ⟨rfl, ?_⟩
        show dAnd (dTest (dOp dIn (dVar 4) (dVar 2))) (dTest (dOp dNotIn (dVar 6) (dVar 2))) [.dat (.list (nums l)), .dat (.list ((s0 :: sr).map stepD)), .dat (.list (nums t)), .dat (.list (nums mo)), .dat (.int s.1), .dat (.str ⟨#[s.2.1]⟩), .dat (.int s.2.2)] _
        unfold dAnd
        refine inD (i := s.1) (l := t) (ev_var (i := 4) rfl) (ev_var (i := 2) rfl) ?_
        by_cases c1 : s.1 ∈ t
        · rw [decide_eq_true c1] at hY hN ⊢
          simp only [if_true]
          refine notInD (i := s.2.2) (l := t) (ev_var (i := 6) rfl) (ev_var (i := 2) rfl) ?_
          by_cases c2 : s.2.2 ∈ t
          · rw [decide_eq_true c2] at hY hN ⊢
            simp only [Bool.not_true, Bool.false_eq_true, if_false]
            exact hN rfl _ rfl
          · rw [decide_eq_false c2] at hY hN ⊢
            simp only [Bool.not_false, if_true]
            refine var_at (i := 6) (d := .int (s.2.2 : Int)) rfl ?_
            exact hY rfl _ rfl
        · rw [decide_eq_false c1] at hY hN ⊢
          simp only [Bool.false_eq_true, if_false]
          exact hN rfl _ rfl
      · exact fun ms hp hm => h0 ms _ _ _ hp hm
  have key : ∀ (k : Nat) (t mo : List Nat) (s4 s5 s6 : Sl), t.Nodup → (∀ i ∈ t, Rch ss l i) → (∀ i ∈ l, i ∈ t) → n - t.length ≤ k → (mo = [] → Clo ss t) →
      whW (dTru (dVar 3)) (dSeq (dAsg (dSortScI (diL (dVar 1)) (dgTup 3 (dgCons (dgName 4) (dgCons (dgName 5) (dgCons (dgName 6) dgNil)))) (dAnd (dTest (dOp dIn (dVar 4) (dVar 2))) (dTest (dOp dNotIn (dVar 6) (dVar 2)))) (dVar 6) [4, 5, 6]) (dgName 3)) (dAsg (dOp dCat (dVar 2) (dVar 3)) (dgName 2)))
        { endsOf R with nx := dRet (dVar 2) (endsOf R) } (k + 2) [.dat (.list (nums l)), .dat (.list (ss.map stepD)), .dat (.list (nums t)), .dat (.list (nums mo)), s4, s5, s6] := by
    intro k
    induction k with
    | zero =>
      intro t mo s4 s5 s6 nd h1 h2 hk h3
      have tl := nodup_le n t nd fun i hi => rch_lt hl.2 hs.2.2 (h1 i hi)
      have clo : Clo ss t := fun s hs' hi => by
        refine Classical.byContradiction fun hno => ?_
        have := nodup_le n (s.2.2 :: t) (List.nodup_cons.mpr ⟨hno, nd⟩) fun i hi => by
          rcases List.mem_cons.mp hi with z | z
          · rw [z]
            exact (hs.2.2 s hs').2.2
          · exact rch_lt hl.2 hs.2.2 (h1 i z)
        rw [List.length_cons] at this
        omega
      by_cases hmo : mo = []
      · subst hmo
        exact fin 1 t s4 s5 s6 _ h1 h2 clo
      · refine turn 1 t mo s4 s5 s6 hmo (by omega) fun mm hp hm s4 s5 s6 => ?_
        have : mm = [] := by
          cases mm with
          | nil => rfl
          | cons x r =>
            obtain ⟨s, q1, q2, q3, _⟩ := (hm x).mp List.mem_cons_self
            exact absurd (clo s q1 q2) q3
        subst this
        rw [List.append_nil]
        exact fin 0 t s4 s5 s6 _ h1 h2 clo
    | succ k ih =>
      intro t mo s4 s5 s6 nd h1 h2 hk h3
      have tl := nodup_le n t nd fun i hi => rch_lt hl.2 hs.2.2 (h1 i hi)
      by_cases hmo : mo = []
      · subst hmo
        exact fin (k + 2) t s4 s5 s6 _ h1 h2 (h3 rfl)
      · refine turn (k + 2) t mo s4 s5 s6 hmo (by omega) fun mm hp hm s4 s5 s6 => ?_
        by_cases c : mm = []
        · have clo : Clo ss t := fun s hs' hi => by
            refine Classical.byContradiction fun hno => ?_
            have q := (hm s.2.2).mpr ⟨s, hs', hi, hno, rfl⟩
            rw [c] at q
            cases q
          subst c
          rw [List.append_nil]
          exact fin (k + 1) t s4 s5 s6 _ h1 h2 clo
        · have lm : 0 < mm.length := List.length_pos_iff.mpr c
          refine ih (t ++ mm) mm s4 s5 s6 (List.nodup_append.mpr ⟨nd, hp.imp fun h => Nat.ne_of_lt h, fun a ha b hb e => ?_⟩) (fun i hi => ?_) (fun i hi => List.mem_append_left _ (h2 i hi)) (by rw [List.length_append]; omega) (fun e => absurd e c)
          · obtain ⟨s, _, _, q3, e2⟩ := (hm b).mp hb
            exact q3 (by rw [← e2, ← e]; exact ha)
          · rcases List.mem_append.mp hi with z | z
            · exact h1 i z
            · obtain ⟨s, q1, q2, _, rfl⟩ := (hm i).mp z
              exact .step q1 (h1 _ q2)
  refine ⟨n + 2, ?_⟩
  by_cases c : l = []
  · refine key n l l .no .no .no (okR_nd hl) (fun i hi => .base hi) (fun i hi => hi) (by omega) fun e s hs' hi => ?_
    rw [c] at hi
    cases hi
  · exact key n l l .no .no .no (okR_nd hl) (fun i hi => .base hi) (fun i hi => hi) (by omega) fun e => absurd e c
theorem ok_useful {f : Addr} {fd : FuncData} (F : Fun K "useful" "useful" s_useful f fd) (k_turned : Kn P w K mg base 6 "turned" S_turned) (k_led_to : Kn P w K mg base 1 "led_to" S_led) : FnOkG P w K mg base CX0 7 f fd ["machine"] (spN K S_useful) := by
  refine fnN F sc_useful (fun as R h => by obtain ⟨_, rfl, _⟩ := h; rfl) fun cdv A outer s H E hr => ?_
  have nd := sc_useful.nd
  have hu := hr.units
  have hu1 := hr.units1
  refine ⟨_, _, (dss_cons (ds_setTup (de_call k_turned hr (by omega) (dca_d (de_var 0) dca_nil)) (dg_tup rfl (dgs_cons (dg_name 1 nd) (dgs_cons (dg_name 2 nd) (dgs_cons (dg_name 3 nd) (dgs_cons (dg_name 4 nd) dgs_nil))))))
    (dss_cons (ds_set 5 nd (de_call k_led_to hr (by omega) (dca_d (de_var 3) (dca_d (de_ix ix_tup ro_ixT (de_var 0) de_int) dca_nil))))
    (dss_cons (ds_set 6 nd (de_call k_led_to hr (by omega) (dca_d (de_var 2) (dca_d (de_var 4) dca_nil))))
    (dss_one (ds_lcRet [("room", 7)] rfl nd (di_r1 m_range (de_var 1)) (blkOk_by (N := ["machine", "many", "lasts", "firsts", "steps_back", "ahead", "behind", "room"]) (sc := defScope s_useful) (by decide +kernel)) (fun _ _ _ _ _ => (dg_name 7 nd)) (fun _ _ _ _ _ => (dts_one (dt_w (dw_and (dt_inI hu1 (de_var 7) (de_var 5)) (dw_and1 (dt_inI hu1 (de_var 7) (de_var 6))))))) (fun _ _ _ _ _ => (de_var 7)) (by decide)))))), ?_⟩
  rintro as R ⟨m, rfl, hm, hR⟩
  have hn := hm.n
  have ht := trn_ok hm
  refine sq_asg (call_pure2 [m.d] (fun Q z => z) mono_turned ⟨m, rfl, hm, rfl, ⟨rfl, ?_⟩⟩)
  show dSeq (dAsg (dCall S_led (cD (dVar 3) (cD (dOp dIxT (dVar 0) (dC (.int 3))) cNil))) (dgName 5)) _ _ [.dat m.d, .dat (.int m.n), .dat (.list (nums m.ls)), .dat (.list (nums m.fs)), .dat (.list ((trn m).ss.map stepD)), .no, .no, .no]
  refine sq_asg (call_pure2 [.list (nums m.fs), .list (m.ss.map stepD)] (fun Q z => z) mono_led ⟨m.n, m.fs, m.ss, rfl, hn.2, hm.fs, hm.ss, fun t1 h1 => ⟨rfl, ?_⟩⟩)
  refine sq_asg (call_pure2 [.list (nums m.ls), .list ((trn m).ss.map stepD)] (fun Q z => z) mono_led ⟨m.n, m.ls, (trn m).ss, rfl, hn.2, hm.ls, ht.ss, fun t2 h2 => ⟨rfl, ?_⟩⟩)
  show dLcRet (diR1 (dVar 1)) (dgName 7) (dAnd (dTest (dOp dIn (dVar 7) (dVar 5))) (dTest (dOp dIn (dVar 7) (dVar 6)))) (dVar 7) [7] _ [.dat m.d, .dat (.int m.n), .dat (.list (nums m.ls)), .dat (.list (nums m.fs)), .dat (.list ((trn m).ss.map stepD)), .dat (.list (nums t1)), .dat (.list (nums t2)), .no]
  unfold dLcRet diR1
  refine var_at (i := 1) (d := .int m.n) rfl ⟨⟨by omega, by omega⟩, ?_⟩
  rw [iota_nat]
  refine lc_of (fun i => decide (i ∈ t1) && decide (i ∈ t2)) (fun (i : Nat) => .int i) _ rfl (List.range m.n) [] (by rw [List.length_range]; show 0 + m.n ≤ _; omega) (fun i hi Y N hY hN => ?_) ?_
  · show dAnd (dTest (dOp dIn (dVar 7) (dVar 5))) (dTest (dOp dIn (dVar 7) (dVar 6))) [.dat m.d, .dat (.int m.n), .dat (.list (nums m.ls)), .dat (.list (nums m.fs)), .dat (.list ((trn m).ss.map stepD)), .dat (.list (nums t1)), .dat (.list (nums t2)), .dat (.int i)] _
    unfold dAnd
    refine inD (i := i) (l := t1) (ev_var (i := 7) rfl) (ev_var (i := 5) rfl) ?_
    by_cases c1 : i ∈ t1
    · rw [decide_eq_true c1] at hY hN ⊢
      simp only [if_true]
      refine inD (i := i) (l := t2) (ev_var (i := 7) rfl) (ev_var (i := 6) rfl) ?_
      by_cases c2 : i ∈ t2
      · rw [decide_eq_true c2] at hY hN ⊢
        simp only [if_true]
        exact var_at (i := 7) (d := .int (i : Int)) rfl (hY rfl _ rfl)
      · rw [decide_eq_false c2] at hY hN ⊢
        simp only [Bool.false_eq_true, if_false]
        exact hN rfl _ rfl
    · rw [decide_eq_false c1] at hY hN ⊢
      simp only [Bool.false_eq_true, if_false]
      exact hN rfl _ rfl
  · rw [List.nil_append]
    have e : ((List.range m.n).filter fun i => decide (i ∈ t1) && decide (i ∈ t2)) = useR m := by
      unfold useR
      refine List.filter_congr fun i _ => ?_
      rw [Bool.eq_iff_iff, Bool.and_eq_true, decide_eq_true_iff, decide_eq_true_iff, @decide_eq_true_iff _ (Classical.propDecidable _), h1, h2]
      exact Iff.rfl
    rw [e]
    exact ⟨[], hR, outs0⟩
theorem ok_trimmed {f : Addr} {fd : FuncData} (F : Fun K "trimmed" "trimmed" s_trimmed f fd) (k_useful : KnN P w K mg base 7 "useful" S_useful) : FnOkG P w K mg base CX0 8 f fd ["machine"] (spT K S_trim) := by
  refine fnT F sc_trimmed (fun as R h => by obtain ⟨_, rfl, _⟩ := h; rfl) fun cdv A outer s H E hr => ?_
  have nd := sc_trimmed.nd
  have hu := hr.units
  have hu1 := hr.units1
  refine ⟨_, _, (dst_cons (ds_set 1 nd (de_call (KnN.toD k_useful) hr (by omega) (dca_d (de_var 0) dca_nil)))
    (dst_cons (ds_setTup (de_var 0) (dg_tup rfl (dgs_cons (dg_name 2 nd) (dgs_cons (dg_name 3 nd) (dgs_cons (dg_name 4 nd) (dgs_cons (dg_name 5 nd) dgs_nil))))))
    (dst_ret (df_tup (dfa_cons (df_told (de_var 2)) (dfa_cons (df_lc [("room", 6)] rfl nd (di_list (de_var 3)) (blkOk_by (N := ["machine", "rooms", "many", "firsts", "lasts", "steps", "room", "sign", "other"]) (sc := defScope s_trimmed) (by decide +kernel)) (fun _ _ _ _ _ => (dg_name 6 nd)) (fun _ _ _ _ _ => (dts_one (dt_inI hu1 (de_var 6) (de_var 1)))) (fun _ _ _ _ _ => (de_var 6)) (by decide)) (dfa_cons (df_lc [("room", 6)] rfl nd (di_list (de_var 4)) (blkOk_by (N := ["machine", "rooms", "many", "firsts", "lasts", "steps", "room", "sign", "other"]) (sc := defScope s_trimmed) (by decide +kernel)) (fun _ _ _ _ _ => (dg_name 6 nd)) (fun _ _ _ _ _ => (dts_one (dt_inI hu1 (de_var 6) (de_var 1)))) (fun _ _ _ _ _ => (de_var 6)) (by decide)) (dfa_cons (df_lc [("room", 6), ("sign", 7), ("other", 8)] rfl nd (di_list (de_var 5)) (blkOk_by (N := ["machine", "rooms", "many", "firsts", "lasts", "steps", "room", "sign", "other"]) (sc := defScope s_trimmed) (by decide +kernel)) (fun _ _ _ _ _ => (dg_tupI (n := 3) rfl (dgs_cons (dg_name 6 nd) (dgs_cons (dg_name 7 nd) (dgs_cons (dg_name 8 nd) dgs_nil))))) (fun _ _ _ _ _ => (dts_one (dt_w (dw_and (dt_inI hu1 (de_var 6) (de_var 1)) (dw_and1 (dt_inI hu1 (de_var 8) (de_var 1))))))) (fun _ _ _ _ _ => (de_tup (da_cons (de_var 6) (da_cons (de_var 7) (da_cons (de_var 8) da_nil))))) (by decide)) dfa_nil)))))))), ?_⟩
  rintro as R ⟨m, rfl, hm, hR⟩
  have hs1 := hm.ss.1
  have hf1 := nodup_le m.n m.fs (okR_nd hm.fs) hm.fs.2
  have hl1 := nodup_le m.n m.ls (okR_nd hm.ls) hm.ls.2
  have hn := hm.n
  unfold dSeqT
  show dAsg (dCall (asD (asT S_useful)) (cD (dVar 0) cNil)) (dgName 1) _ [.dat m.d, .no, .no, .no, .no, .no, .no, .no, .no]
  unfold dAsg
  refine call_pure2 [m.d] (fun Q z => z) mono_useD ⟨m, rfl, hm, rfl, ?_⟩
  show dAsg (dVar 0) (dgTup 4 (dgCons (dgName 2) (dgCons (dgName 3) (dgCons (dgName 4) (dgCons (dgName 5) dgNil))))) _ [.dat m.d, .dat (.list (nums (useR m))), .no, .no, .no, .no, .no, .no, .no]
  unfold dAsg
  refine var_at (i := 0) (d := m.d) rfl ⟨rfl, ?_⟩
  dsimp only [dgCons, dgName, dgNil, List.set_cons_succ, List.set_cons_zero]
  show fTup (fCons (fTold (dVar 2)) (fCons (fLc (diL (dVar 3)) (dgName 6) (dTest (dOp dIn (dVar 6) (dVar 1))) (dVar 6) [6]) (fCons (fLc (diL (dVar 4)) (dgName 6) (dTest (dOp dIn (dVar 6) (dVar 1))) (dVar 6) [6]) (fCons (fLc (diL (dVar 5)) (dgTup 3 (dgCons (dgName 6) (dgCons (dgName 7) (dgCons (dgName 8) dgNil)))) (dAnd (dTest (dOp dIn (dVar 6) (dVar 1))) (dTest (dOp dIn (dVar 8) (dVar 1)))) (dTup (dCons (dVar 6) (dCons (dVar 7) (dCons (dVar 8) dNil)))) [6, 7, 8]) fNil)))) [.dat m.d, .dat (.list (nums (useR m))), .dat (.int m.n), .dat (.list (nums m.fs)), .dat (.list (nums m.ls)), .dat (.list (m.ss.map stepD)), .no, .no, .no] _
  unfold fTup fCons fTold
  refine var_at (i := 2) (d := .int m.n) rfl ?_
  have rooms : ∀ (i : Nat) (l : List Nat) (Q : TQ), l.length ≤ 100 → [Sl.dat m.d, .dat (.list (nums (useR m))), .dat (.int m.n), .dat (.list (nums m.fs)), .dat (.list (nums m.ls)), .dat (.list (m.ss.map stepD)), .no, .no, .no][i]? = some (.dat (.list (nums l))) →
      Q (.l (nums (l.filter fun i => decide (i ∈ useR m)))) [Sl.dat m.d, .dat (.list (nums (useR m))), .dat (.int m.n), .dat (.list (nums m.fs)), .dat (.list (nums m.ls)), .dat (.list (m.ss.map stepD)), .no, .no, .no] →
      fLc (diL (dVar i)) (dgName 6) (dTest (dOp dIn (dVar 6) (dVar 1))) (dVar 6) [6] [.dat m.d, .dat (.list (nums (useR m))), .dat (.int m.n), .dat (.list (nums m.fs)), .dat (.list (nums m.ls)), .dat (.list (m.ss.map stepD)), .no, .no, .no] Q := fun i l Q hl hi hQ => by
    unfold fLc diL
    refine var_at hi ?_
    refine lc_of (fun i => decide (i ∈ useR m)) (fun (i : Nat) => .int i) (fun (i : Nat) => PyData.int (i : Int)) rfl l [] (by show 0 + _ ≤ _; omega) (fun i hi Y N hY hN => ?_) ?_
    · show dTest (dOp dIn (dVar 6) (dVar 1)) [.dat m.d, .dat (.list (nums (useR m))), .dat (.int m.n), .dat (.list (nums m.fs)), .dat (.list (nums m.ls)), .dat (.list (m.ss.map stepD)), .dat (.int i), .no, .no] _
      refine inD (i := i) (l := useR m) (ev_var (i := 6) rfl) (ev_var (i := 1) rfl) ?_
      by_cases c : i ∈ useR m
      · rw [decide_eq_true c] at hY hN ⊢
        simp only [if_true]
        exact var_at (i := 6) (d := .int (i : Int)) rfl (hY rfl _ rfl)
      · rw [decide_eq_false c] at hY hN ⊢
        simp only [Bool.false_eq_true, if_false]
        exact hN rfl _ rfl
    · exact hQ
  refine rooms 3 m.fs _ (by omega) rfl ?_
  refine rooms 4 m.ls _ (by omega) rfl ?_
  unfold fLc diL
  refine var_at (i := 5) (d := .list (m.ss.map stepD)) rfl ?_
  refine lc_of (fun s => decide (s.1 ∈ useR m) && decide (s.2.2 ∈ useR m)) stepD stepD rfl m.ss [] (by show 0 + _ ≤ _; omega) (fun s hs Y N hY hN => ?_) ?_
  · refine ⟨rfl, ?_⟩
    show dAnd (dTest (dOp dIn (dVar 6) (dVar 1))) (dTest (dOp dIn (dVar 8) (dVar 1))) [.dat m.d, .dat (.list (nums (useR m))), .dat (.int m.n), .dat (.list (nums m.fs)), .dat (.list (nums m.ls)), .dat (.list (m.ss.map stepD)), .dat (.int s.1), .dat (.str ⟨#[s.2.1]⟩), .dat (.int s.2.2)] _
    unfold dAnd
    refine inD (i := s.1) (l := useR m) (ev_var (i := 6) rfl) (ev_var (i := 1) rfl) ?_
    by_cases c1 : s.1 ∈ useR m
    · rw [decide_eq_true c1] at hY hN ⊢
      simp only [if_true]
      refine inD (i := s.2.2) (l := useR m) (ev_var (i := 8) rfl) (ev_var (i := 1) rfl) ?_
      by_cases c2 : s.2.2 ∈ useR m
      · rw [decide_eq_true c2] at hY hN ⊢
        simp only [if_true]
        exact ⟨nat_le_size (by show 3 ≤ 16777216; decide), hY rfl _ rfl⟩
      · rw [decide_eq_false c2] at hY hN ⊢
        simp only [Bool.false_eq_true, if_false]
        exact hN rfl _ rfl
    · rw [decide_eq_false c1] at hY hN ⊢
      simp only [Bool.false_eq_true, if_false]
      exact hN rfl _ rfl
  · exact ⟨nat_le_size (by show 4 ≤ 16777216; decide), [], hR, outs0⟩
end
end K40

set_option Elab.async false
set_option linter.all false
set_option pp.maxSteps 1500
set_option maxRecDepth 100000
set_option maxHeartbeats 4000000
/-! K40q: the law goes from room to room -/
namespace K40
open PySem PySem.Spec L2 TL
abbrev s_law_come_to : Stmt := top 25
theorem sc_law_come_to : FnScope ["_law_machine_here", "_law_rooms_here", "_law_found", "_law_at", "_law_here", "_law_sign", "_law_to"] ["_law_machine_here", "_law_rooms_here"] (defScope s_law_come_to) := ⟨rfl, rfl, rfl, by decide +kernel, rfl, by decide +kernel, by decide +kernel⟩
abbrev s_law_useful : Stmt := top 26
theorem sc_law_useful : FnScope ["_law_machine_here", "_law_back", "_law_ahead", "_law_behind", "_law_room", "_law_sign", "_law_to"] ["_law_machine_here"] (defScope s_law_useful) := ⟨rfl, rfl, rfl, by decide +kernel, rfl, by decide +kernel, by decide +kernel⟩
abbrev s_law_trimmed : Stmt := top 27
theorem sc_law_trimmed : FnScope ["_law_machine_here", "_law_rooms_here", "_law_steps", "_law_step", "_law_r"] ["_law_machine_here"] (defScope s_law_trimmed) := ⟨rfl, rfl, rfl, by decide +kernel, rfl, by decide +kernel, by decide +kernel⟩
theorem ev_nat (a b : Nat) : PyData.eqv (.int (a : Int)) (.int (b : Int)) = decide (a = b) := by
  rw [ev_ii, Bool.eq_iff_iff, beq_iff_eq, decide_eq_true_iff]
  omega
theorem sq_gen {u rest : DTS} {E : DEnds} {δ : List Sl} (h : ∀ M : List Sl → Prop, (∀ δ', rest E δ' → M δ') → u { E with nx := M } δ) : dSeq u rest E δ := h _ fun _ q => q
theorem own_at {i : Nat} {δ : List Sl} {R : DQ} {ds : List PyData} (h : δ[i]? = some (.own none ds)) (k : R (.list ds) (δ.set i (.dat (.list ds)))) : dVar i δ R := by
  unfold dVar
  rw [h]
  exact k
theorem eqv_all_inz : ∀ a b : List Int, PyData.eqvAll (inz a) (inz b) = decide (a = b)
  | [], [] => by simp [inz, PyData.eqvAll]
  | [], b :: bs => by simp [inz, PyData.eqvAll]
  | a :: as, [] => by simp [inz, PyData.eqvAll]
  | a :: as, b :: bs => by
    have ih := eqv_all_inz as bs
    show PyData.eqvAll (.int a :: inz as) (.int b :: inz bs) = _
    unfold PyData.eqvAll
    rw [ih, ev_ii, Bool.eq_iff_iff, Bool.and_eq_true, beq_iff_eq, decide_eq_true_iff, decide_eq_true_iff, List.cons.injEq]
theorem eqv_lists (a b : List Int) : PyData.eqv (.list (inz a)) (.list (inz b)) = decide (a = b) := by
  show PyData.eqv (.list (inz a)) (.list (inz b)) = _
  rw [← eqv_all_inz a b]
  simp [PyData.eqv]
theorem ints_inj : ∀ {a b : List Nat}, a.map (fun (i : Nat) => (i : Int)) = b.map (fun (i : Nat) => (i : Int)) → a = b
  | [], [], _ => rfl
  | [], b :: bs, h => by cases h
  | a :: as, [], h => by cases h
  | a :: as, b :: bs, h => by
    rw [List.map_cons, List.map_cons, List.cons.injEq] at h
    have e : a = b := by omega
    rw [e, ints_inj h.2]
theorem eqv_numss (a b : List Nat) : PyData.eqv (.list (nums a)) (.list (nums b)) = decide (a = b) := by
  rw [nums_inz, nums_inz, eqv_lists, Bool.eq_iff_iff, decide_eq_true_iff, decide_eq_true_iff]
  exact ⟨ints_inj, fun h => by rw [h]⟩
theorem ev_ixs {i : Nat} {ub : DTE} {δ : List Sl} {ds : List PyData} {k : Int} {x : PyData} (h : slL δ[i]? = some ds) (hb : Ev ub δ (.int k)) (e : atI ds k = some x) : Ev (dIxV i ub) δ x := fun Q q => ⟨by rw [h]; rfl, hb _ (by
  show (match slL δ[i]?, PyData.int k with
    | some ds, .int k => (match atI ds k with
      | some x => Q x δ
      | none => False)
    | _, _ => False)
  rw [h]
  show (match atI ds k with
    | some x => Q x δ
    | none => False)
  rw [e]
  exact q)⟩
theorem at_nums {l : List Nat} {i : Nat} (h : i < l.length) : atI (nums l) (i : Int) = some (.int (l[i] : Int)) := by
  unfold atI
  rw [nums_len, ix_nat h]
  show (nums l)[i]? = _
  unfold nums
  rw [List.getElem?_map, List.getElem?_eq_getElem h]
  rfl
def lcT : DTT := dTest (dOp (dB fun i j => decide (i < j)) (dVar 3) (dLenV 2))
def lcB : DTS := dIfS (dAnd (dTest (dOp dEq (dVar 4) (dIxV 2 (dVar 3)))) (dTest (dNotInV 2 (dVar 6)))) (dApp 2 (dVar 6)) dNext
def lcA : DTS := dAsg (dOp (dI fun i j => i + j) (dVar 3) (dC (.int 1))) (dgName 3)
def lcU : DTS := dSeq (dFor (diL (dOp dIxT (dVar 0) (dC (.int 3)))) (dgTup 3 (dgCons (dgName 4) (dgCons (dgName 5) (dgCons (dgName 6) dgNil)))) lcB) lcA
def lcS (m : Mc) (l f : List Nat) (k : Nat) (a b c : Sl) : List Sl := [.dat m.d, .dat (.list (nums l)), .own none (nums f), .dat (.int (k : Int)), a, b, c]
def S_lcome : DSp := fun as R => ∃ (m : Mc) (l : List Nat), as = [.dat m.d, .dat (.list (nums l))] ∧ m.ok ∧ okR m.n l ∧ ∀ t : List Nat, (∀ i, i ∈ t ↔ Rch m.ss l i) → R (.list (nums t)) []
theorem mono_lcome : MonoS S_lcome := fun as R R' h ⟨m, l, a, b, c, k⟩ => ⟨m, l, a, b, c, fun t ht => h _ _ (k t ht)⟩
def S_ltrim : DSp := fun as R => ∃ m : Mc, as = [.dat m.d] ∧ m.ok ∧ R (trM m).d []
theorem mono_ltrim : MonoS S_ltrim := fun as R R' h ⟨m, a, b, k⟩ => ⟨m, a, b, h _ _ k⟩
theorem come_body {m : Mc} {l f : List Nat} {k : Nat} (hm : m.ok) (hk : k < f.length) (E : DEnds) (nd : f.Nodup) (h1 : ∀ i ∈ f, Rch m.ss l i) (hlen : m.n ≤ 12) (hl : ∀ i ∈ l, i < m.n) (a b c : Sl)
    (hE : ∀ (g : List Nat) (a b c : Sl), g.Nodup → (∀ i ∈ g, Rch m.ss l i) → (∃ ext, g = f ++ ext) → (∀ s ∈ m.ss, s.1 = f[k] → s.2.2 ∈ g) → E.nx (lcS m l g k a b c)) :
    dFor (diL (dOp dIxT (dVar 0) (dC (.int 3)))) (dgTup 3 (dgCons (dgName 4) (dgCons (dgName 5) (dgCons (dgName 6) dgNil)))) lcB E (lcS m l f k a b c) := by
  show forW (dgTup 3 (dgCons (dgName 4) (dgCons (dgName 5) (dgCons (dgName 6) dgNil)))) lcB E (m.ss.map stepD) (lcS m l f k a b c)
  have ll : (m.ss.map stepD).length = m.ss.length := List.length_map _
  refine for_nth (m.ss.map stepD) (fun p δ => ∃ (g : List Nat) (a b c : Sl), δ = lcS m l g k a b c ∧ g.Nodup ∧ (∀ i ∈ g, Rch m.ss l i) ∧ (∃ ext, g = f ++ ext) ∧ ∀ (q : Nat) (h : q < m.ss.length), q < p → m.ss[q].1 = f[k] → m.ss[q].2.2 ∈ g) ?_ ?_ _ ⟨f, a, b, c, rfl, nd, h1, ⟨[], (List.append_nil _).symm⟩, fun q h hq => absurd hq (Nat.not_lt_zero _)⟩
  · rintro δ ⟨g, a, b, c, rfl, g1, g2, g3, g4⟩
    refine hE g a b c g1 g2 g3 fun s hs e => ?_
    obtain ⟨q, hq, rfl⟩ := List.getElem_of_mem hs
    exact g4 q hq (by rw [ll]; exact hq) e
  · rintro p hp δ ⟨g, a, b, c, rfl, g1, g2, ⟨ext, rfl⟩, g4⟩ M hM
    have hpl : p < m.ss.length := by rw [← ll]; exact hp
    rw [List.getElem_map]
    have hs := List.getElem_mem hpl
    have g4' : ∀ (q : Nat) (h : q < m.ss.length), q < p + 1 → q ≠ p → m.ss[q].1 = f[k] → m.ss[q].2.2 ∈ f ++ ext := fun q h h1 h2 e => g4 q h (by omega) e
    generalize hS : m.ss[p] = s at hs
    refine ⟨rfl, ?_⟩
    show lcB { E with nx := M, ct := M, bk := E.nx } [.dat m.d, .dat (.list (nums l)), .own none (nums (f ++ ext)), .dat (.int (k : Int)), .dat (.int s.1), .dat (.str ⟨#[s.2.1]⟩), .dat (.int s.2.2)]
    have hk2 : k < (f ++ ext).length := by rw [List.length_append]; omega
    have fk : (f ++ ext)[k] = f[k] := List.getElem_append_left hk
    have done : s.1 ≠ f[k] ∨ s.2.2 ∈ f ++ ext → M [.dat m.d, .dat (.list (nums l)), .own none (nums (f ++ ext)), .dat (.int (k : Int)), .dat (.int s.1), .dat (.str ⟨#[s.2.1]⟩), .dat (.int s.2.2)] := fun h => by
      refine hM _ ⟨f ++ ext, _, _, _, rfl, g1, g2, ⟨ext, rfl⟩, fun q hq hq2 e => ?_⟩
      by_cases c : q = p
      · subst c
        rw [hS] at e ⊢
        exact h.resolve_left fun z => z e
      · exact g4' q hq hq2 c e
    unfold lcB dIfS dAnd
    refine eq_t (ev_var (i := 4) rfl) (ev_ixs (i := 2) (ds := nums (f ++ ext)) rfl (ev_var (i := 3) rfl) (at_nums hk2)) (sh_int _) (sh_int _) ?_
    rw [ev_nat, fk]
    by_cases c1 : s.1 = f[k]
    · rw [decide_eq_true c1]
      simp only [if_true]
      unfold dTest dNotInV
      refine var_at (i := 6) (d := .int (s.2.2 : Int)) rfl ⟨nums (f ++ ext), rfl, sh_int _, sh_nums _, ?_⟩
      rw [any_nums]
      by_cases c2 : s.2.2 ∈ f ++ ext
      · rw [decide_eq_true c2]
        simp only [Bool.not_true, Bool.false_eq_true, if_false]
        exact done (.inr c2)
      · rw [decide_eq_false c2]
        simp only [Bool.not_false, if_true]
        have rs : Rch m.ss l s.2.2 := .step hs (by rw [c1]; exact h1 _ (List.getElem_mem hk))
        have nd' : (f ++ ext ++ [s.2.2]).Nodup := List.nodup_append.mpr ⟨g1, List.nodup_cons.mpr ⟨List.not_mem_nil, List.nodup_nil⟩, fun a ha b hb e => c2 (by rw [List.mem_singleton.mp hb] at e; rw [← e]; exact ha)⟩
        have lf : (f ++ ext).length ≤ m.n := nodup_le _ _ g1 fun i hi => rch_lt hl hm.ss.2.2 (g2 i hi)
        refine ⟨rfl, var_at (i := 6) (d := .int (s.2.2 : Int)) rfl ?_⟩
        refine ⟨by show (nums (f ++ ext)).length < sizeLine; rw [nums_len, sizeLine_eq]; omega, ?_⟩
        refine hM _ ⟨f ++ ext ++ [s.2.2], .dat (.int s.1), .dat (.str ⟨#[s.2.1]⟩), .dat (.int s.2.2), ?_, nd', fun i hi => ?_, ⟨ext ++ [s.2.2], List.append_assoc _ _ _⟩, fun q hq hq2 e => ?_⟩
        · show [Sl.dat m.d, .dat (.list (nums l)), .own none (nums (f ++ ext) ++ [.int s.2.2]), .dat (.int (k : Int)), .dat (.int s.1), .dat (.str ⟨#[s.2.1]⟩), .dat (.int s.2.2)] = [.dat m.d, .dat (.list (nums l)), .own none (nums (f ++ ext ++ [s.2.2])), .dat (.int (k : Int)), .dat (.int s.1), .dat (.str ⟨#[s.2.1]⟩), .dat (.int s.2.2)]
          rw [nums_app (f ++ ext) [s.2.2]]
          rfl
        · rcases List.mem_append.mp hi with z | z
          · exact g2 i z
          · rw [List.mem_singleton.mp z]
            exact rs
        · by_cases c : q = p
          · subst c
            rw [hS]
            exact List.mem_append_right _ (List.mem_singleton_self _)
          · exact List.mem_append_left _ (g4' q hq hq2 c e)
    · rw [decide_eq_false c1]
      simp only [Bool.false_eq_true, if_false]
      exact done (.inl c1)
theorem come_loop {m : Mc} {l : List Nat} {R : PyData → List (List PyData) → Prop} (hm : m.ok) (hl : okR m.n l) (hR : ∀ t : List Nat, (∀ i, i ∈ t ↔ Rch m.ss l i) → R (.list (nums t)) []) : ∀ (k : Nat) (f : List Nat) (p : Nat) (a b c : Sl), f.Nodup → (∀ i ∈ f, Rch m.ss l i) → (∀ i ∈ l, i ∈ f) → p ≤ f.length →
    (∀ (j : Nat) (h : j < f.length), j < p → ∀ s ∈ m.ss, s.1 = f[j] → s.2.2 ∈ f) → m.n - p ≤ k → whW lcT lcU { endsOf R with nx := dRet (dVar 2) (endsOf R) } (k + 1) (lcS m l f p a b c) := by
  intro k
  have fin : ∀ (f : List Nat) (p : Nat) (a b c : Sl), (∀ i ∈ f, Rch m.ss l i) → (∀ i ∈ l, i ∈ f) → p = f.length → (∀ (j : Nat) (h : j < f.length), j < p → ∀ s ∈ m.ss, s.1 = f[j] → s.2.2 ∈ f) → dRet (dVar 2) (endsOf R) (lcS m l f p a b c) := fun f p a b c h1 h2 e h3 => by
    refine own_at (i := 2) (ds := nums f) rfl ⟨[], hR f fun i => ⟨h1 i, fun r => rch_in h2 (fun s hs hi => ?_) r⟩, outs0⟩
    obtain ⟨j, hj, e2⟩ := List.getElem_of_mem hi
    exact h3 j hj (by omega) s hs e2.symm
  induction k with
  | zero =>
    intro f p a b c nd h1 h2 hp h3 hk
    have lf := nodup_le _ _ nd fun i hi => rch_lt hl.2 hm.ss.2.2 (h1 i hi)
    have e : p = f.length := by omega
    unfold whW
    show lcT _ _
    unfold lcT
    refine test_ev (b := decide ((p : Int) < ((nums f).length : Int))) (fun Q q => ?_) ?_
    · exact var_at (i := 3) (d := .int (p : Int)) rfl q
    · rw [nums_len, decide_eq_false (by omega)]
      simp only [Bool.false_eq_true, if_false]
      exact fin f p a b c h1 h2 e h3
  | succ k ih =>
    intro f p a b c nd h1 h2 hp h3 hk
    have lf := nodup_le _ _ nd fun i hi => rch_lt hl.2 hm.ss.2.2 (h1 i hi)
    rw [whW]
    unfold lcT
    refine test_ev (b := decide ((p : Int) < ((nums f).length : Int))) (fun Q q => ?_) ?_
    · exact var_at (i := 3) (d := .int (p : Int)) rfl q
    · rw [nums_len]
      by_cases e : p < f.length
      · rw [decide_eq_true (by omega)]
        simp only [if_true]
        show lcU _ _
        unfold lcU
        refine come_body hm e _ nd h1 hm.n.2 hl.2 a b c fun g a b c g1 g2 ⟨ext, eg⟩ g4 => ?_
        subst eg
        dsimp only
        show dAsg (dOp (dI fun i j => i + j) (dVar 3) (dC (.int 1))) (dgName 3) _ (lcS m l (f ++ ext) p a b c)
        unfold dAsg
        refine ev_add (ev_var (i := 3) (d := .int (p : Int)) rfl) ev_c _ ?_
        refine ih (f ++ ext) (p + 1) a b c g1 g2 (fun i hi => List.mem_append_left _ (h2 i hi)) (by rw [List.length_append]; omega) (fun j hj hjp s hs e2 => ?_) (by omega)
        by_cases cj : j = p
        · subst cj
          exact g4 s hs (by rw [e2, List.getElem_append_left e])
        · have hjf : j < f.length := by omega
          exact List.mem_append_left _ (h3 j hjf (by omega) s hs (by rw [e2, List.getElem_append_left hjf]))
      · rw [decide_eq_false (by omega)]
        simp only [Bool.false_eq_true, if_false]
        exact fin f p a b c h1 h2 (by omega) h3
section
variable {P : Program} {w : World} {K : PySem.W.Frag} {mg : Str → Option Value} {base : Heap}
variable (m_len : mg "len" = none) (m_isinstance : mg "isinstance" = none) (m_str : mg "str" = none) (m_bool : mg "bool" = none) (m_range : mg "range" = none) (m_int : mg "int" = none) (m_max : mg "max" = none) (m_min : mg "min" = none) (m_sum : mg "sum" = none) (m_set : mg "set" = none) (m_tuple : mg "tuple" = none) (m_list : mg "list" = none) (m_enumerate : mg "enumerate" = none) (m_sorted : mg "sorted" = none) (m_repr : mg "repr" = none)
include m_len m_isinstance m_str m_bool m_range m_int m_max m_min m_sum m_set m_tuple m_list m_enumerate m_sorted m_repr
theorem ok_law_come_to {f : Addr} {fd : FuncData} (F : Fun K "_law_come_to" "_law_come_to" s_law_come_to f fd)  : FnOkG P w K mg base CX0 1 f fd ["_law_machine_here", "_law_rooms_here"] (spD K S_lcome) := by
  refine fnD F sc_law_come_to (fun as R h => by obtain ⟨_, _, rfl, _⟩ := h; rfl) fun cdv A outer s H E hr => ?_
  have nd := sc_law_come_to.nd
  have hu := hr.units
  have hu1 := hr.units1
  refine ⟨_, _, (dss_cons (ds_asgOwnF 2 nd (df_list1 m_list (de_var 1)))
    (dss_cons (ds_set 3 nd de_int)
    (dss_cons (ds_while PassesOwn.never (dt_cmp op_lt ro_B (nomark _) (de_var 3) (de_lenV 2 m_len)) (dss_cons (ds_for PassesOwn.never rfl (di_list (de_ix ix_tup ro_ixT (de_var 0) de_int)) (dg_tup rfl (dgs_cons (dg_name 4 nd) (dgs_cons (dg_name 5 nd) (dgs_cons (dg_name 6 nd) dgs_nil))))
    (dss_one (ds_if (dt_w (dw_and (dt_cmp (op_eqD hu) ro_eq (nomark _) (de_var 4) (de_ixV 2 (de_var 3))) (dw_and1 (dt_notInV 2 hu1 (de_var 6))))) (dss_one (ds_app 2 (de_var 6) (pe_bm PySem.F.plainAttrs_list PySem.F.slot_list_append PySem.F.type_list_append mt_append (pv 2) (pa_cons (DE.pe (de_var 6)) pa_nil)))) dss_nil)))
    (dss_one (ds_set 3 nd (de_op op_add ro_I (de_var 3) de_int)))))
    (dss_one (ds_ret (de_var 2)))))), ?_⟩
  rintro as R ⟨m, l, rfl, hm, hl, hR⟩
  show dAsgOwnF 2 (fListOf (dVar 1)) _ [.dat m.d, .dat (.list (nums l)), .no, .no, .no, .no, .no]
  unfold dAsgOwnF fListOf
  refine var_at (i := 1) (d := .list (nums l)) rfl ⟨_, rfl, ?_⟩
  show dSeq (dAsg (dC (.int 0)) (dgName 3)) _ _ _
  refine sq_asg ?_
  show dWhile lcT lcU _ (lcS m l l 0 .no .no .no)
  have ll := nodup_le _ _ (okR_nd hl) hl.2
  exact ⟨m.n + 1, come_loop hm hl hR m.n l 0 .no .no .no (okR_nd hl) (fun i hi => .base hi) (fun i hi => hi) (Nat.zero_le _) (fun j h hj => absurd hj (Nat.not_lt_zero _)) (by omega)⟩
theorem ok_law_useful {f : Addr} {fd : FuncData} (F : Fun K "_law_useful" "_law_useful" s_law_useful f fd) (k_law_come_to : Kn P w K mg base 1 "_law_come_to" S_lcome) : FnOkG P w K mg base CX0 2 f fd ["_law_machine_here"] (spD K S_useD) := by
  refine fnD F sc_law_useful (fun as R h => by obtain ⟨_, rfl, _⟩ := h; rfl) fun cdv A outer s H E hr => ?_
  have nd := sc_law_useful.nd
  have hu := hr.units
  have hu1 := hr.units1
  refine ⟨_, _, (dss_cons (ds_set 1 nd (de_tup (da_cons (de_ix ix_tup ro_ixT (de_var 0) de_int) (da_cons (de_ix ix_tup ro_ixT (de_var 0) de_int) (da_cons (de_ix ix_tup ro_ixT (de_var 0) de_int) (da_cons (de_lc [("_law_room", 4), ("_law_sign", 5), ("_law_to", 6)] rfl nd (di_list (de_ix ix_tup ro_ixT (de_var 0) de_int)) (blkOk_by (N := ["_law_machine_here", "_law_back", "_law_ahead", "_law_behind", "_law_room", "_law_sign", "_law_to"]) (sc := defScope s_law_useful) (by decide +kernel)) (fun _ _ _ _ _ => (dg_tupI (n := 3) rfl (dgs_cons (dg_name 4 nd) (dgs_cons (dg_name 5 nd) (dgs_cons (dg_name 6 nd) dgs_nil))))) (fun _ _ _ _ _ => dts_nil) (fun _ _ _ _ _ => (de_tup (da_cons (de_var 6) (da_cons (de_var 5) (da_cons (de_var 4) da_nil))))) (by decide)) da_nil))))))
    (dss_cons (ds_set 2 nd (de_call k_law_come_to hr (by omega) (dca_d (de_var 0) (dca_d (de_ix ix_tup ro_ixT (de_var 0) de_int) dca_nil))))
    (dss_cons (ds_set 3 nd (de_call k_law_come_to hr (by omega) (dca_d (de_var 1) (dca_d (de_ix ix_tup ro_ixT (de_var 0) de_int) dca_nil))))
    (dss_one (ds_ret (de_lc [("_law_room", 4)] rfl nd (di_r1 m_range (de_ix ix_tup ro_ixT (de_var 0) de_int)) (blkOk_by (N := ["_law_machine_here", "_law_back", "_law_ahead", "_law_behind", "_law_room", "_law_sign", "_law_to"]) (sc := defScope s_law_useful) (by decide +kernel)) (fun _ _ _ _ _ => (dg_name 4 nd)) (fun _ _ _ _ _ => (dts_one (dt_w (dw_and (dt_inI hu1 (de_var 4) (de_var 2)) (dw_and1 (dt_inI hu1 (de_var 4) (de_var 3))))))) (fun _ _ _ _ _ => (de_var 4)) (by decide))))))), ?_⟩
  rintro as R ⟨m, rfl, hm, hR⟩
  have hn := hm.n
  have ht := trn_ok hm
  have hs1 := hm.ss.1
  show dSeq (dAsg (dTup (dCons (dOp dIxT (dVar 0) (dC (.int 0))) (dCons (dOp dIxT (dVar 0) (dC (.int 2))) (dCons (dOp dIxT (dVar 0) (dC (.int 1))) (dCons (dLc (diL (dOp dIxT (dVar 0) (dC (.int 3)))) (dgTup 3 (dgCons (dgName 4) (dgCons (dgName 5) (dgCons (dgName 6) dgNil)))) dYes (dTup (dCons (dVar 6) (dCons (dVar 5) (dCons (dVar 4) dNil)))) [4, 5, 6]) dNil))))) (dgName 1)) _ _ [.dat m.d, .no, .no, .no, .no, .no, .no]
  refine sq_asg ?_
  show lcW [4, 5, 6] _ _ _ _ (m.ss.map stepD) [] [.dat m.d, .no, .no, .no, .no, .no, .no]
  refine lc_of (fun _ => true) (fun s => stepD (swp s)) stepD rfl m.ss [] (by show 0 + _ ≤ _; omega) (fun s hs Y N hY hN => ⟨rfl, nat_le_size (by show 3 ≤ 16777216; decide), hY rfl _ rfl⟩) ?_
  rw [List.nil_append, List.filter_eq_self.mpr fun _ _ => rfl]
  have e : m.ss.map (fun s => stepD (swp s)) = (trn m).ss.map stepD := by
    show _ = (m.ss.map swp).map stepD
    rw [List.map_map]
    rfl
  rw [e]
  refine ⟨nat_le_size (by show 4 ≤ 16777216; decide), ?_⟩
  show dSeq (dAsg (dCall S_lcome (cD (dVar 0) (cD (dOp dIxT (dVar 0) (dC (.int 1))) cNil))) (dgName 2)) _ _ [.dat m.d, .dat (trn m).d, .no, .no, .no, .no, .no]
  refine sq_asg (call_pure2 [m.d, .list (nums m.fs)] (fun Q z => z) mono_lcome ⟨m, m.fs, rfl, hm, hm.fs, fun t1 h1 => ⟨rfl, ?_⟩⟩)
  refine sq_asg (call_pure2 [(trn m).d, .list (nums m.ls)] (fun Q z => z) mono_lcome ⟨trn m, m.ls, rfl, ht, hm.ls, fun t2 h2 => ⟨rfl, ?_⟩⟩)
  show dRet (dLc (diR1 (dOp dIxT (dVar 0) (dC (.int 0)))) (dgName 4) (dAnd (dTest (dOp dIn (dVar 4) (dVar 2))) (dTest (dOp dIn (dVar 4) (dVar 3)))) (dVar 4) [4]) _ [.dat m.d, .dat (trn m).d, .dat (.list (nums t1)), .dat (.list (nums t2)), .no, .no, .no]
  unfold dRet dLc diR1
  show (-(2 ^ 62) ≤ (m.n : Int) ∧ (m.n : Int) < 2 ^ 62) ∧ lcW [4] (dgName 4) _ _ _ (iotaD 0 ((m.n : Int)).toNat) [] [.dat m.d, .dat (trn m).d, .dat (.list (nums t1)), .dat (.list (nums t2)), .no, .no, .no]
  refine ⟨⟨by omega, by omega⟩, ?_⟩
  rw [iota_nat]
  refine lc_of (fun i => decide (i ∈ t1) && decide (i ∈ t2)) (fun (i : Nat) => .int i) _ rfl (List.range m.n) [] (by rw [List.length_range]; show 0 + m.n ≤ _; omega) (fun i hi Y N hY hN => ?_) ?_
  · show dAnd (dTest (dOp dIn (dVar 4) (dVar 2))) (dTest (dOp dIn (dVar 4) (dVar 3))) [.dat m.d, .dat (trn m).d, .dat (.list (nums t1)), .dat (.list (nums t2)), .dat (.int i), .no, .no] _
    unfold dAnd
    refine inD (i := i) (l := t1) (ev_var (i := 4) rfl) (ev_var (i := 2) rfl) ?_
    by_cases c1 : i ∈ t1
    · rw [decide_eq_true c1] at hY hN ⊢
      simp only [if_true]
      refine inD (i := i) (l := t2) (ev_var (i := 4) rfl) (ev_var (i := 3) rfl) ?_
      by_cases c2 : i ∈ t2
      · rw [decide_eq_true c2] at hY hN ⊢
        simp only [if_true]
        exact var_at (i := 4) (d := .int (i : Int)) rfl (hY rfl _ rfl)
      · rw [decide_eq_false c2] at hY hN ⊢
        simp only [Bool.false_eq_true, if_false]
        exact hN rfl _ rfl
    · rw [decide_eq_false c1] at hY hN ⊢
      simp only [Bool.false_eq_true, if_false]
      exact hN rfl _ rfl
  · rw [List.nil_append]
    have e : ((List.range m.n).filter fun i => decide (i ∈ t1) && decide (i ∈ t2)) = useR m := by
      unfold useR
      refine List.filter_congr fun i _ => ?_
      rw [Bool.eq_iff_iff, Bool.and_eq_true, decide_eq_true_iff, decide_eq_true_iff, @decide_eq_true_iff _ (Classical.propDecidable _), h1, h2]
      exact Iff.rfl
    rw [e]
    exact ⟨[], hR, outs0⟩
theorem ok_law_trimmed {f : Addr} {fd : FuncData} (F : Fun K "_law_trimmed" "_law_trimmed" s_law_trimmed f fd) (k_law_useful : Kn P w K mg base 2 "_law_useful" S_useD) : FnOkG P w K mg base CX0 3 f fd ["_law_machine_here"] (spD K S_ltrim) := by
  refine fnD F sc_law_trimmed (fun as R h => by obtain ⟨_, rfl, _⟩ := h; rfl) fun cdv A outer s H E hr => ?_
  have nd := sc_law_trimmed.nd
  have hu := hr.units
  have hu1 := hr.units1
  refine ⟨_, _, (dss_cons (ds_set 1 nd (de_call k_law_useful hr (by omega) (dca_d (de_var 0) dca_nil)))
    (dss_cons (ds_setLc 2 [("_law_step", 3)] rfl nd (di_list (de_ix ix_tup ro_ixT (de_var 0) de_int)) (blkOk_by (N := ["_law_machine_here", "_law_rooms_here", "_law_steps", "_law_step", "_law_r"]) (sc := defScope s_law_trimmed) (by decide +kernel)) (fun _ _ _ _ _ => (dg_name 3 nd)) (fun _ _ _ _ _ => (dts_one (dt_w (dw_and (dt_inI hu1 (de_ixTI (de_var 3) de_int) (de_var 1)) (dw_and1 (dt_inI hu1 (de_ixTI (de_var 3) de_int) (de_var 1))))))) (fun _ _ _ _ _ => (de_var 3)) (by decide) (sw_true rfl rfl rfl (by decide +kernel)))
    (dss_one (ds_ret (de_tup (da_cons (de_ix ix_tup ro_ixT (de_var 0) de_int) (da_cons (de_lc [("_law_r", 4)] rfl nd (di_list (de_ix ix_tup ro_ixT (de_var 0) de_int)) (blkOk_by (N := ["_law_machine_here", "_law_rooms_here", "_law_steps", "_law_step", "_law_r"]) (sc := defScope s_law_trimmed) (by decide +kernel)) (fun _ _ _ _ _ => (dg_name 4 nd)) (fun _ _ _ _ _ => (dts_one (dt_inI hu1 (de_var 4) (de_var 1)))) (fun _ _ _ _ _ => (de_var 4)) (by decide)) (da_cons (de_lc [("_law_r", 4)] rfl nd (di_list (de_ix ix_tup ro_ixT (de_var 0) de_int)) (blkOk_by (N := ["_law_machine_here", "_law_rooms_here", "_law_steps", "_law_step", "_law_r"]) (sc := defScope s_law_trimmed) (by decide +kernel)) (fun _ _ _ _ _ => (dg_name 4 nd)) (fun _ _ _ _ _ => (dts_one (dt_inI hu1 (de_var 4) (de_var 1)))) (fun _ _ _ _ _ => (de_var 4)) (by decide)) (da_cons (de_var 2) da_nil))))))))), ?_⟩
  rintro as R ⟨m, rfl, hm, hR⟩
  have hn := hm.n
  have hs1 := hm.ss.1
  have hf1 := nodup_le m.n m.fs (okR_nd hm.fs) hm.fs.2
  have hl1 := nodup_le m.n m.ls (okR_nd hm.ls) hm.ls.2
  refine sq_asg (call_pure2 [m.d] (fun Q z => z) mono_useD ⟨m, rfl, hm, rfl, ?_⟩)
  show dSeq (dAsg (dLc (diL (dOp dIxT (dVar 0) (dC (.int 3)))) (dgName 3) (dAnd (dTest (dOp dIn (dOp dIxT (dVar 3) (dC (.int 0))) (dVar 1))) (dTest (dOp dIn (dOp dIxT (dVar 3) (dC (.int 2))) (dVar 1)))) (dVar 3) [3]) (dgName 2)) _ _ [.dat m.d, .dat (.list (nums (useR m))), .no, .no, .no]
  refine sq_asg ?_
  show lcW [3] _ _ _ _ (m.ss.map stepD) [] [.dat m.d, .dat (.list (nums (useR m))), .no, .no, .no]
  refine lc_of (fun s => decide (s.1 ∈ useR m) && decide (s.2.2 ∈ useR m)) stepD stepD rfl m.ss [] (by show 0 + _ ≤ _; omega) (fun s hs Y N hY hN => ?_) ?_
  · show dAnd (dTest (dOp dIn (dOp dIxT (dVar 3) (dC (.int 0))) (dVar 1))) (dTest (dOp dIn (dOp dIxT (dVar 3) (dC (.int 2))) (dVar 1))) [.dat m.d, .dat (.list (nums (useR m))), .no, .dat (stepD s), .no] _
    unfold dAnd
    refine inD (i := s.1) (l := useR m) (fun Q q => q) (ev_var (i := 1) rfl) ?_
    by_cases c1 : s.1 ∈ useR m
    · rw [decide_eq_true c1] at hY hN ⊢
      simp only [if_true]
      refine inD (i := s.2.2) (l := useR m) (fun Q q => q) (ev_var (i := 1) rfl) ?_
      by_cases c2 : s.2.2 ∈ useR m
      · rw [decide_eq_true c2] at hY hN ⊢
        simp only [if_true]
        exact var_at (i := 3) (d := stepD s) rfl (hY rfl _ rfl)
      · rw [decide_eq_false c2] at hY hN ⊢
        simp only [Bool.false_eq_true, if_false]
        exact hN rfl _ rfl
    · rw [decide_eq_false c1] at hY hN ⊢
      simp only [Bool.false_eq_true, if_false]
      exact hN rfl _ rfl
  rw [List.nil_append]
  have rooms : ∀ (i : Int) (l : List Nat) (Q : DQ), l.length ≤ 100 → atI [PyData.int (m.n : Int), .list (nums m.fs), .list (nums m.ls), .list (m.ss.map stepD)] i = some (.list (nums l)) →
      Q (.list (nums (l.filter fun i => decide (i ∈ useR m)))) [.dat m.d, .dat (.list (nums (useR m))), .dat (.list ((m.ss.filter fun s => decide (s.1 ∈ useR m) && decide (s.2.2 ∈ useR m)).map stepD)), .no, .no] →
      dLc (diL (dOp dIxT (dVar 0) (dC (.int i)))) (dgName 4) (dTest (dOp dIn (dVar 4) (dVar 1))) (dVar 4) [4] [.dat m.d, .dat (.list (nums (useR m))), .dat (.list ((m.ss.filter fun s => decide (s.1 ∈ useR m) && decide (s.2.2 ∈ useR m)).map stepD)), .no, .no] Q := fun i l Q hl hi hQ => by
    unfold dLc diL dOp
    refine var_at (i := 0) (d := m.d) rfl ?_
    show (match atI [PyData.int (m.n : Int), .list (nums m.fs), .list (nums m.ls), .list (m.ss.map stepD)] i with
      | some d => _
      | none => False)
    rw [hi]
    refine lc_of (fun i => decide (i ∈ useR m)) (fun (i : Nat) => .int i) (fun (i : Nat) => PyData.int (i : Int)) rfl l [] (by show 0 + _ ≤ _; omega) (fun i hi Y N hY hN => ?_) ?_
    · show dTest (dOp dIn (dVar 4) (dVar 1)) [.dat m.d, .dat (.list (nums (useR m))), .dat (.list ((m.ss.filter fun s => decide (s.1 ∈ useR m) && decide (s.2.2 ∈ useR m)).map stepD)), .no, .dat (.int i)] _
      refine inD (i := i) (l := useR m) (ev_var (i := 4) rfl) (ev_var (i := 1) rfl) ?_
      by_cases c : i ∈ useR m
      · rw [decide_eq_true c] at hY hN ⊢
        simp only [if_true]
        exact var_at (i := 4) (d := .int (i : Int)) rfl (hY rfl _ rfl)
      · rw [decide_eq_false c] at hY hN ⊢
        simp only [Bool.false_eq_true, if_false]
        exact hN rfl _ rfl
    · exact hQ
  show dRet (dTup (dCons (dOp dIxT (dVar 0) (dC (.int 0))) (dCons (dLc (diL (dOp dIxT (dVar 0) (dC (.int 1)))) (dgName 4) (dTest (dOp dIn (dVar 4) (dVar 1))) (dVar 4) [4]) (dCons (dLc (diL (dOp dIxT (dVar 0) (dC (.int 2)))) (dgName 4) (dTest (dOp dIn (dVar 4) (dVar 1))) (dVar 4) [4]) (dCons (dVar 2) dNil))))) _ [.dat m.d, .dat (.list (nums (useR m))), .dat (.list ((m.ss.filter fun s => decide (s.1 ∈ useR m) && decide (s.2.2 ∈ useR m)).map stepD)), .no, .no]
  have first : Ev (dOp dIxT (dVar 0) (dC (.int 0))) [.dat m.d, .dat (.list (nums (useR m))), .dat (.list ((m.ss.filter fun s => decide (s.1 ∈ useR m) && decide (s.2.2 ∈ useR m)).map stepD)), .no, .no] (.int m.n) := fun Q q => q
  unfold dRet dTup dCons
  refine first _ ?_
  refine rooms 1 m.fs _ (by omega) rfl ?_
  refine rooms 2 m.ls _ (by omega) rfl ?_
  exact ⟨nat_le_size (by show 4 ≤ 16777216; decide), [], hR, outs0⟩
end
end K40

set_option Elab.async false
set_option linter.all false
set_option pp.maxSteps 1500
set_option maxRecDepth 100000
set_option maxHeartbeats 8000000
/-! K40r: the law -/
namespace K40
open PySem PySem.Spec L2 TL
abbrev s_law : Stmt := top 28
theorem sc_law : FnScope ["_law_script", "_law_k", "_law_hand_here", "_law_machine_here", "_law_was", "_law_turn", "_law_rooms_here", "_law_found", "_law_part", "_law_many", "_law_one"] ["_law_script"] (defScope s_law) := ⟨rfl, rfl, rfl, by decide +kernel, rfl, by decide +kernel, by decide +kernel⟩
structure El (d : PyData) : Prop where
  o : okD d = true
  s : d.showable = true
  l : d.shown.length ≤ 64
  dp : d.depth ≤ 1
  p : plainD d = true
def elB (d : PyData) : Bool := okD d && d.showable && decide (d.shown.length ≤ 64) && decide (d.depth ≤ 1) && plainD d
theorem el_of {d : PyData} (h : elB d = true) : El d := by
  unfold elB at h
  rw [Bool.and_eq_true, Bool.and_eq_true, Bool.and_eq_true, Bool.and_eq_true, decide_eq_true_iff, decide_eq_true_iff] at h
  exact ⟨h.1.1.1.1, h.1.1.1.2, h.1.1.2, h.1.2, h.2⟩
theorem el_small : ∀ k ∈ List.range 13, elB (.int (k : Nat)) = true := by decide +kernel
theorem el_nat {k : Nat} (h : k < 13) : El (.int (k : Int)) := el_of (el_small k (List.mem_range.mpr h))
theorem nums_el {w : List Nat} (h : ∀ i ∈ w, i < 13) : ∀ d ∈ nums w, El d := fun d hd => by
  obtain ⟨i, hi, rfl⟩ := List.mem_map.mp hd
  exact el_nat (h i hi)
theorem El.sh {d : PyData} (h : El d) : Sh 64 1 d := ⟨h.o, h.s, h.l, h.dp⟩
theorem sh_letter {c : Nat} (h : small c = true) : Sh 64 1 (.str ⟨#[c]⟩) := by
  refine ⟨rfl, rfl, ?_, Nat.zero_le _⟩
  have q := PySem.StrLaws.reprText_len ⟨#[c]⟩ fun x hx => by
    have e : x = c := List.mem_singleton.mp hx
    rw [e]
    have := small_lt h
    have e : (16 : Nat) ^ 8 = 4294967296 := by decide
    omega
  show (reprText ⟨#[c]⟩).length ≤ 64
  have e : (Str.mk #[c]).length = 1 := rfl
  rw [e] at q
  omega
theorem sh_rooms {l : List Nat} (h : ∀ i ∈ l, i < 13) (hl : l.length ≤ 12) : Sh 1000 2 (.list (nums l)) :=
  (sh_of_list (n := 12) (fun d hd => (nums_el h d hd).sh) (by rw [nums_len]; exact hl)).up (by decide) (by decide)
theorem mach_rep {m : Mc} (hm : m.ok) : Rep m.d := by
  have hn := hm.n
  have lt : ∀ {i : Nat}, i < m.n → i < 13 := fun h => by omega
  have a1 : Sh 20000 4 (.int (m.n : Int)) := (el_nat (by omega)).sh.up (by decide) (by decide)
  have a2 : Sh 20000 4 (.list (nums m.fs)) := (sh_rooms (fun i hi => lt (hm.fs.2 i hi)) (Nat.le_trans (nodup_le m.n m.fs (okR_nd hm.fs) hm.fs.2) hn.2)).up (by decide) (by decide)
  have a3 : Sh 20000 4 (.list (nums m.ls)) := (sh_rooms (fun i hi => lt (hm.ls.2 i hi)) (Nat.le_trans (nodup_le m.n m.ls (okR_nd hm.ls) hm.ls.2) hn.2)).up (by decide) (by decide)
  have a4 : Sh 20000 4 (.list (m.ss.map stepD)) := (sh_of_list (B := 300) (D := 2) (n := 40) (fun d hd => by
    obtain ⟨s, hs, rfl⟩ := List.mem_map.mp hd
    have hp := hm.ss.2.2 s hs
    refine (sh_of_tuple (B := 64) (D := 1) (n := 3) (fun d hd => ?_) (by exact Nat.le_refl 3)).up (by decide) (by decide)
    simp only [List.mem_cons, List.not_mem_nil, or_false] at hd
    rcases hd with rfl | rfl | rfl
    · exact (el_nat (lt hp.1)).sh
    · exact sh_letter hp.2.1
    · exact (el_nat (lt hp.2.2)).sh) (by rw [List.length_map]; exact hm.ss.1)).up (by decide) (by decide)
  refine (sh_of_tuple (B := 20000) (D := 4) (n := 4) (fun d hd => ?_) (by exact Nat.le_refl 4)).rep (by decide) (by decide)
  simp only [List.mem_cons, List.not_mem_nil, or_false] at hd
  rcases hd with rfl | rfl | rfl | rfl
  · exact a1
  · exact a2
  · exact a3
  · exact a4
theorem sq_x {u rest : DTS} {E : DEnds} {δ : List Sl} (h : u { E with nx := rest E } δ) : dSeq u rest E δ := h
theorem ldTr (m : Mc) (o : Option V) : LdS (.box (boxTr o m.td)) (.dat m.d) := by
  rw [← Mc.td_d]
  exact .tr
theorem eqvAll_refl : ∀ ns : List Int, PyData.eqvAll (inz ns) (inz ns) = true := fun ns => by
  rw [eqv_all_inz]
  exact decide_eq_true rfl
theorem len_lc {δ0 : List Sl} {E : List PyData → List Sl → Prop} (h0 : wipeS δ0 [8] = δ0) (h8 : δ0[8]? = some .no) (a b c : List PyData) (k : E (inz [(a.length : Int), (b.length : Int), (c.length : Int)]) δ0) : lcW [8] (dgName 8) dYes (dLen (dVar 8)) E [.list a, .list b, .list c] [] δ0 := by
  have hl : 8 < δ0.length := (List.getElem?_eq_some_iff.mp h8).1
  refine lc_of (fun _ => true) (fun (ds : List PyData) => PyData.int (ds.length : Int)) PyData.list h0 [a, b, c] [] (by show 3 ≤ 16777216; decide) (fun ds _ Y N hY hN => ?_) ?_
  · show dLen (dVar 8) (δ0.set 8 (.dat (.list ds))) Y
    unfold dLen
    refine var_at (i := 8) (δ := δ0.set 8 (.dat (.list ds))) (d := .list ds) (List.getElem?_set_self hl) (hY rfl _ ?_)
    show (δ0.set 8 _).set 8 .no = δ0
    rw [List.set_set]
    exact h0
  · rw [List.nil_append, List.filter_eq_self.mpr fun _ _ => rfl]
    exact k
theorem dIsi_ev {T : String} {i : Nat} {δ : List Sl} {d : PyData} {b : Bool} (h : δ[i]? = some (.dat d)) (hk : kitB (tyD d) T = some b) : Ev (dIsi T (dVar i)) δ (.bool b) := fun Q q => dIsi_at h hk q
section
variable {P : Program} {w : World} {K : PySem.W.Frag} {mg : Str → Option Value} {base : Heap}
variable (m_len : mg "len" = none) (m_isinstance : mg "isinstance" = none) (m_str : mg "str" = none) (m_bool : mg "bool" = none) (m_range : mg "range" = none) (m_int : mg "int" = none) (m_max : mg "max" = none) (m_min : mg "min" = none) (m_sum : mg "sum" = none) (m_set : mg "set" = none) (m_tuple : mg "tuple" = none) (m_list : mg "list" = none) (m_enumerate : mg "enumerate" = none) (m_sorted : mg "sorted" = none) (m_repr : mg "repr" = none)
include m_len m_isinstance m_str m_bool m_range m_int m_max m_min m_sum m_set m_tuple m_list m_enumerate m_sorted m_repr
theorem ok_law {f : Addr} {fd : FuncData} (F : Fun K "law" "law" s_law f fd) (k_law_hand : KnN P w K mg base 1 "_law_hand" S_hand) (k_law_draw : Kn P w K mg base 1 "_law_draw" S_draw) (k_law_letters : Kn P w K mg base 2 "_law_letters" S_lletters) (k_law_machine : Kn P w K mg base 3 "_law_machine" S_lmach) (k_useful : KnN P w K mg base 7 "useful" S_useful) (k_trimmed : KnT P w K mg base 8 "trimmed" S_trim) (k_law_useful : Kn P w K mg base 2 "_law_useful" S_useD) (k_law_trimmed : Kn P w K mg base 3 "_law_trimmed" S_ltrim) : FnOkG P w K mg base CX0 9 f fd ["_law_script"] (spD K S_law) := by
  refine fnD F sc_law (fun as R h => by obtain ⟨_, _, rfl, _⟩ := h; rfl) fun cdv A outer s H E hr => ?_
  have nd := sc_law.nd
  have hu := hr.units
  have hu1 := hr.units1
  refine ⟨_, _, (dss_cons (ds_for PassesOwn.never rfl (di_r1 m_range (de_max2 m_max de_int (de_min2 m_min (de_lenV 0 m_len) de_int))) (dg_name 1 nd)
    (dss_cons (ds_callOwn 2 nd k_law_hand hr (by omega) (dca_s 0 (dca_d (de_var 1) dca_nil)))
    (dss_cons (ds_set 3 nd (de_call k_law_machine hr (by omega) (dca_s 2 (dca_d de_int (dca_d (de_ix ix_list ro_ixL (de_lst (da_cons de_int (da_cons de_int (da_cons de_int da_nil)))) (de_call k_law_draw hr (by omega) (dca_s 2 (dca_d de_int dca_nil)))) (dca_d (de_call k_law_letters hr (by omega) (dca_s 2 dca_nil)) dca_nil))))))
    (dss_cons (ds_set 4 nd (de_reprX m_repr hr.gd hu1 (de_var 3)))
    (dss_one (ds_for PassesOwn.never rfl (di_r1 m_range de_int) (dg_name 5 nd)
    (dss_cons (ds_callOwn 6 nd k_useful hr (by omega) (dca_d (de_var 3) dca_nil))
    (dss_cons (ds_asgTr 7 nd (df_callT k_trimmed hr (by omega) (dca_d (de_var 3) dca_nil)))
    (dss_cons (ds_if (dt_ld (dt_w (dw_or (dt_not (dt_val (de_isi (T := "list") m_isinstance m_list (by decide +kernel) (de_var 6)))) (dw_or (dt_cmp (op_neD hu) ro_ne (nomark _) (de_var 6) (de_call k_law_useful hr (by omega) (dca_d (de_var 3) dca_nil))) (dw_or1 (dt_not (dt_val (de_isi (T := "tuple") m_isinstance m_tuple (by decide +kernel) (de_var 7))))))))) (dss_one (ds_ret de_bl)) dss_nil)
    (dss_cons (ds_if (dt_ld (dt_w (dw_or (dt_cmp op_ne ro_neT (nomark _) (de_reprX m_repr hr.gd hu1 (de_var 7)) (de_reprX m_repr hr.gd hu1 (de_call k_law_trimmed hr (by omega) (dca_d (de_var 3) dca_nil)))) (dw_or1 (dt_cmp op_ne ro_neT (nomark _) (de_reprX m_repr hr.gd hu1 (de_call (KnT.toD k_trimmed) hr (by omega) (dca_d (de_var 7) dca_nil))) (de_reprX m_repr hr.gd hu1 (de_var 7))))))) (dss_one (ds_ret de_bl)) dss_nil)
    (dss_cons (ds_if (dt_ld (dt_w (dw_or (dt_cmp (op_neD hu) ro_ne (nomark _) (de_call (KnN.toD k_useful) hr (by omega) (dca_d (de_var 7) dca_nil)) (de_var 6)) (dw_or1 (dt_cmp op_ne ro_neT (nomark _) (de_reprX m_repr hr.gd hu1 (de_var 3)) (de_var 4)))))) (dss_one (ds_ret de_bl)) dss_nil)
    (dss_cons (ds_app 6 de_int (pe_bm PySem.F.plainAttrs_list PySem.F.slot_list_append PySem.F.type_list_append mt_append (pv 6) (pa_cons (DE.pe de_int) pa_nil)))
    (dss_cons (ds_ldLc 9 [("_law_part", 8)] rfl nd (di_tup (de_sl sl_tup rsl_tup (de_var 7) (do_some de_int) do_none)) (blkOk_by (N := ["_law_script", "_law_k", "_law_hand_here", "_law_machine_here", "_law_was", "_law_turn", "_law_rooms_here", "_law_found", "_law_part", "_law_many", "_law_one"]) (sc := defScope s_law) (by decide +kernel)) (fun _ _ _ _ _ => (dg_name 8 nd)) (fun _ _ _ _ _ => dts_nil) (fun _ _ _ _ _ => (de_lenI (ps := default) m_len (de_var 8))) (by decide) (sw_true rfl rfl rfl (by decide +kernel)))
    (dss_cons (ds_forTs 7 8 1 rfl PassesOwn.never rfl nd (by decide) (DE.pe de_int) (dss_one (ds_appB 8 de_non (pe_bm PySem.F.plainAttrs_list PySem.F.slot_list_append PySem.F.type_list_append mt_append (pv 8) (pa_cons (DE.pe de_non) pa_nil)))) (hg := (dg_name 8 nd).pg))
    (dss_one (ds_if (dt_ld (dt_cmp (op_neD hu) ro_ne (nomark _) (de_lc [("_law_part", 8)] rfl nd (di_tup (de_sl sl_tup rsl_tup (de_var 7) (do_some de_int) do_none)) (blkOk_by (N := ["_law_script", "_law_k", "_law_hand_here", "_law_machine_here", "_law_was", "_law_turn", "_law_rooms_here", "_law_found", "_law_part", "_law_many", "_law_one"]) (sc := defScope s_law) (by decide +kernel)) (fun _ _ _ _ _ => (dg_name 8 nd)) (fun _ _ _ _ _ => dts_nil) (fun _ _ _ _ _ => (de_lenI (ps := default) m_len (de_var 8))) (by decide)) (de_lc [("_law_one", 10)] rfl nd (di_list (de_var 9)) (blkOk_by (N := ["_law_script", "_law_k", "_law_hand_here", "_law_machine_here", "_law_was", "_law_turn", "_law_rooms_here", "_law_found", "_law_part", "_law_many", "_law_one"]) (sc := defScope s_law) (by decide +kernel)) (fun _ _ _ _ _ => (dg_name 10 nd)) (fun _ _ _ _ _ => dts_nil) (fun _ _ _ _ _ => (de_op op_add ro_I de_int (de_var 10))) (by decide)))) (dss_one (ds_ret de_bl)) dss_nil))))))))))))))))
    (dss_one (ds_ret de_bl))), ?_⟩
  rintro as R ⟨ns, hl, rfl, hR⟩
  dsimp only [dSeq, dFor, diR1, dII, dC]
  show (-(2 ^ 62 : Int) ≤ (if (if (20 : Int) < ((ns.map PyData.int).length : Int) then 20 else ((ns.map PyData.int).length : Int)) > 1 then (if (20 : Int) < ((ns.map PyData.int).length : Int) then 20 else ((ns.map PyData.int).length : Int)) else 1) ∧ (if (if (20 : Int) < ((ns.map PyData.int).length : Int) then 20 else ((ns.map PyData.int).length : Int)) > 1 then (if (20 : Int) < ((ns.map PyData.int).length : Int) then 20 else ((ns.map PyData.int).length : Int)) else 1) < 2 ^ 62) ∧ _
  have hn : (if (if (20 : Int) < ((ns.map PyData.int).length : Int) then 20 else ((ns.map PyData.int).length : Int)) > 1 then (if (20 : Int) < ((ns.map PyData.int).length : Int) then 20 else ((ns.map PyData.int).length : Int)) else 1) ≤ 20 ∧ 1 ≤ (if (if (20 : Int) < ((ns.map PyData.int).length : Int) then 20 else ((ns.map PyData.int).length : Int)) > 1 then (if (20 : Int) < ((ns.map PyData.int).length : Int) then 20 else ((ns.map PyData.int).length : Int)) else 1) := by
    split <;> split <;> omega
  generalize (if (if (20 : Int) < ((ns.map PyData.int).length : Int) then 20 else ((ns.map PyData.int).length : Int)) > 1 then (if (20 : Int) < ((ns.map PyData.int).length : Int) then 20 else ((ns.map PyData.int).length : Int)) else 1) = n at hn ⊢
  refine ⟨⟨by omega, by omega⟩, ?_⟩
  refine for_inv (fun δ => ∃ s1 s2 s3 s4 s5 s6 s7 s8 s9 s10, δ = [.scr (ns.map PyData.int), s1, s2, s3, s4, s5, s6, s7, s8, s9, s10]) ?_ _ _ ⟨_, _, _, _, _, _, _, _, _, _, rfl⟩ ?_
  · rintro δ ⟨s1, s2, s3, s4, s5, s6, s7, s8, s9, s10, rfl⟩
    exact ⟨[], hR, outs0⟩
  rintro d hd δ ⟨s1, s2, s3, s4, s5, s6, s7, s8, s9, s10, rfl⟩ N hN
  obtain ⟨k, hk, rfl⟩ := List.mem_map.mp hd
  have hk := List.mem_range.mp hk
  dsimp only [dgName]
  refine call_hand (i := 2) (j := 0) (q := 1) (ns := ns) (k := (0 : Int) + (k : Int)) rfl rfl hl ⟨by omega, by omega⟩ ?_
  intro x y hv
  dsimp only
  refine sq_asg ?_
  generalize (0 : Int) + (k : Int) = kk
  generalize hA : dSeq _ _ = RA
  show dCall S_lmach (cS 2 (cD (dC (.int 12)) (cD (dOp dIxL (dLst (dCons (dC (.int 3)) (dCons (dC (.int 9)) (dCons (dC (.int 24)) dNil)))) (dCall S_draw (cS 2 (cD (dC (.int 3)) cNil)))) (cD (dCall S_lletters (cS 2 cNil)) cNil)))) [.scr (ns.map PyData.int), .dat (.int kk), .own none [.int x, .int y], s3, s4, s5, s6, s7, s8, s9, s10] _
  refine call_own_late (i := 2) (t := none) (fun ds cs δ2 => ∃ (e x3 y3 : Int) (z : Str), ds = [.int 12, .int e, .str z] ∧ cs = [.int x3, .int y3] ∧ (0 ≤ e ∧ e ≤ 24) ∧ okL z ∧ okH x3 y3 ∧ δ2 = [.scr (ns.map PyData.int), .dat (.int kk), .own none [.int x3, .int y3], s3, s4, s5, s6, s7, s8, s9, s10]) rfl (fun Q hQ => ?_) mono_lmach ?_
  · unfold cD
    show dOp _ _ _ _ _
    unfold dOp
    refine ev_lst (ds := [.int 3, .int 9, .int 24]) (eva_cons ev_c (eva_cons ev_c (eva_cons ev_c eva_nil))) (by show 3 ≤ 1000000; decide) _ ?_
    show dCall S_draw (cS 2 (cD (dC (.int 3)) cNil)) [.scr (ns.map PyData.int), .dat (.int kk), .own none [.int x, .int y], s3, s4, s5, s6, s7, s8, s9, s10] _
    refine call_draw (i := 2) (t := none) (n := 3) rfl hv ⟨by decide, by decide⟩ (fun Q q => q) fun r x1 y1 hr hv1 => ?_
    have e3 : ∃ e : Int, atI ([.int 3, .int 9, .int 24] : List PyData) r = some (.int e) ∧ 0 ≤ e ∧ e ≤ 24 := by
      have h3 : r = 0 ∨ r = 1 ∨ r = 2 := by omega
      rcases h3 with rfl | rfl | rfl
      · exact ⟨3, rfl, by decide, by decide⟩
      · exact ⟨9, rfl, by decide, by decide⟩
      · exact ⟨24, rfl, by decide, by decide⟩
    obtain ⟨e, he, he1, he2⟩ := e3
    unfold dIxL
    simp only [he]
    refine call_own1 (i := 2) (t := none) (cs := [.int x1, .int y1]) rfl [] (fun Q q => q) ⟨x1, y1, rfl, hv1, fun z x2 y2 hz hv2 => ⟨_, rfl, ?_⟩⟩ (mono_lletters _)
    exact hQ [.int 12, .int e, .str z] [.int x2, .int y2] _ ⟨e, x2, y2, z, rfl, rfl, ⟨he1, he2⟩, hz, hv2, rfl⟩
  rintro ds cs δ2 ⟨e, x2, y2, z, rfl, rfl, he, hz, hv2, rfl⟩
  refine ⟨rfl, x2, y2, e, z, rfl, hv2, hz, he, fun m x3 y3 hm hv3 => ⟨_, rfl, ?_⟩⟩
  rw [← hA]
  clear hA RA
  have hs1 := hm.ss.1
  have hn12 := hm.n.2
  have ht := trM_ok hm
  have mr := mach_rep hm
  have tr := mach_rep ht
  have ul : (useR m).length ≤ 12 := Nat.le_trans (use_few m) hn12
  have f1 : (trM m).fs.length ≤ 12 := Nat.le_trans (nodup_le _ _ (okR_nd ht.fs) ht.fs.2) hn12
  have f2 : (trM m).ls.length ≤ 12 := Nat.le_trans (nodup_le _ _ (okR_nd ht.ls) ht.ls.2) hn12
  have f3 : (trM m).ss.length ≤ 40 := ht.ss.1
  show dSeq (dAsg (dReprX (dVar 3)) (dgName 4)) _ _ [.scr (ns.map PyData.int), .dat (.int kk), .own none [.int x3, .int y3], .dat m.d, s4, s5, s6, s7, s8, s9, s10]
  refine sq_asg ?_
  refine ev_repr (ev_var (i := 3) rfl) mr _ ?_
  show dFor (diR1 (dC (.int 2))) (dgName 5) _ _ [.scr (ns.map PyData.int), .dat (.int kk), .own none [.int x3, .int y3], .dat m.d, .dat (.str m.d.shown), s5, s6, s7, s8, s9, s10]
  unfold dFor diR1
  refine ⟨⟨by decide, by decide⟩, ?_⟩
  refine for_inv (fun δ => ∃ s5 s6 s7 s8 s9 s10, δ = [.scr (ns.map PyData.int), .dat (.int kk), .own none [.int x3, .int y3], .dat m.d, .dat (.str m.d.shown), s5, s6, s7, s8, s9, s10]) ?_ _ _ ⟨_, _, _, _, _, _, rfl⟩ ?_
  · rintro δ ⟨s5, s6, s7, s8, s9, s10, rfl⟩
    exact hN _ ⟨_, _, _, _, _, _, _, _, _, _, rfl⟩
  rintro d hd δ ⟨s5, s6, s7, s8, s9, s10, rfl⟩ N2 hN2
  dsimp only [dgName, List.set_cons_succ, List.set_cons_zero]
  refine sq_x ?_
  show dCallOwn 6 S_useful (cD (dVar 3) cNil) _ [.scr (ns.map PyData.int), .dat (.int kk), .own none [.int x3, .int y3], .dat m.d, .dat (.str m.d.shown), .dat d, s6, s7, s8, s9, s10]
  unfold dCallOwn cD cNil
  refine var_at (i := 3) (d := m.d) rfl ?_
  refine ⟨List.nodup_nil, m, rfl, hm, rfl, ?_⟩
  show dSeq (dAsgTr 7 (fCall S_trim (cD (dVar 3) cNil))) _ _ [.scr (ns.map PyData.int), .dat (.int kk), .own none [.int x3, .int y3], .dat m.d, .dat (.str m.d.shown), .dat d, .own none (nums (useR m)), s7, s8, s9, s10]
  refine sq_x ?_
  unfold dAsgTr fCall cD cNil
  refine var_at (i := 3) (d := m.d) rfl ?_
  refine ⟨List.nodup_nil, m, rfl, hm, rfl, ?_⟩
  show dSeq (dIfS (dLdT _) _ dNext) _ _ [.scr (ns.map PyData.int), .dat (.int kk), .own none [.int x3, .int y3], .dat m.d, .dat (.str m.d.shown), .dat d, .own none (nums (useR m)), .box (boxTr none (trM m).td), s8, s9, s10]
  refine sq_if ?_
  show ∃ δ1, Lds _ δ1 ∧ _
  refine ⟨[.no, .no, .no, .dat m.d, .dat (.str m.d.shown), .no, .dat (.list (nums (useR m))), .dat (trM m).d, .no, .no, .no], .cons .no (.cons .no (.cons .no (.cons .dat (.cons .dat (.cons .no (.cons .own (.cons (ldTr _ _) (.cons .no (.cons .no (.cons .no .nil)))))))))), ?_⟩
  unfold dOr dNot
  refine test_ev (dIsi_ev (i := 6) rfl kb_ll) ?_
  simp only [Bool.not_true, Bool.false_eq_true, if_false]
  refine ne_t (ev_var (i := 6) rfl) (ev_call [m.d] (fun Q z => z) mono_useD fun R h => ⟨m, rfl, hm, h⟩) (sh_nums _) (sh_nums _) ?_
  rw [eqv_nums]
  simp only [Bool.not_true, Bool.false_eq_true, if_false]
  refine test_ev (dIsi_ev (i := 7) (d := (trM m).d) rfl kb_tt) ?_
  simp only [Bool.not_true, Bool.false_eq_true, if_false]
  refine sq_if ?_
  show ∃ δ1, Lds _ δ1 ∧ _
  refine ⟨[.no, .no, .no, .dat m.d, .dat (.str m.d.shown), .no, .dat (.list (nums (useR m))), .dat (trM m).d, .no, .no, .no], .cons .no (.cons .no (.cons .no (.cons .dat (.cons .dat (.cons .no (.cons .own (.cons (ldTr _ _) (.cons .no (.cons .no (.cons .no .nil)))))))))), ?_⟩
  dsimp only
  refine ne_same (ev_repr (ev_var (i := 7) rfl) tr) (ev_repr (ev_call [m.d] (fun Q z => z) mono_ltrim fun R h => ⟨m, rfl, hm, h⟩) tr) ?_
  simp only [Bool.false_eq_true, if_false]
  refine ne_same (ev_repr (d := (trM m).d) (ev_call [(trM m).d] (fun Q z => z) mono_trimD fun R h => ⟨trM m, rfl, ht, by rw [trM_tr hm]; exact h⟩) tr) (ev_repr (ev_var (i := 7) rfl) tr) ?_
  simp only [Bool.false_eq_true, if_false]
  refine sq_if ?_
  show ∃ δ1, Lds _ δ1 ∧ _
  refine ⟨[.no, .no, .no, .dat m.d, .dat (.str m.d.shown), .no, .dat (.list (nums (useR m))), .dat (trM m).d, .no, .no, .no], .cons .no (.cons .no (.cons .no (.cons .dat (.cons .dat (.cons .no (.cons .own (.cons (ldTr _ _) (.cons .no (.cons .no (.cons .no .nil)))))))))), ?_⟩
  dsimp only
  refine ne_t (ev_call (d := .list (nums (useR m))) [(trM m).d] (fun Q z => z) mono_useD fun R h => ⟨trM m, rfl, ht, by rw [useR_tr hm]; exact h⟩) (ev_var (i := 6) rfl) (sh_nums _) (sh_nums _) ?_
  rw [eqv_nums]
  simp only [Bool.not_true, Bool.false_eq_true, if_false]
  refine ne_same (ev_repr (ev_var (i := 3) rfl) mr) (ev_var (i := 4) rfl) ?_
  simp only [Bool.false_eq_true, if_false]
  refine sq_x ?_
  unfold dApp
  refine ⟨rfl, ?_⟩
  refine ⟨by rw [nums_len, sizeLine_eq]; omega, ?_⟩
  show dSeq (dLdLc 9 (fLc (diT (dSl dSlT (dVar 7) (dPart (dC (.int 1))) dNoPart)) (dgName 8) dYes (dLen (dVar 8)) [8])) _ _ [.scr (ns.map PyData.int), .dat (.int kk), .own none [.int x3, .int y3], .dat m.d, .dat (.str m.d.shown), .dat d, .own none (nums (useR m) ++ [.int 99]), .box (boxTr none (trM m).td), s8, s9, s10]
  refine sq_x ?_
  show ∃ δ1, Lds _ δ1 ∧ _
  refine ⟨[.no, .no, .no, .dat m.d, .dat (.str m.d.shown), .no, .no, .dat (trM m).d, .no, .no, .no], .cons .no (.cons .no (.cons .no (.cons .dat (.cons .dat (.cons .no (.cons .no (.cons (ldTr _ _) (.cons .no (.cons .no (.cons .no .nil)))))))))), ?_⟩
  unfold fLc diT dSl
  refine var_at (i := 7) (d := (trM m).d) rfl ⟨by show ¬ (HT.sIx 4 0 (some 1) = 0 ∧ HT.sIx 4 4 none = 4); decide, ?_⟩
  show lcW [8] (dgName 8) dYes (dLen (dVar 8)) _ [.list (nums (trM m).fs), .list (nums (trM m).ls), .list ((trM m).ss.map stepD)] [] [.no, .no, .no, .dat m.d, .dat (.str m.d.shown), .no, .no, .dat (trM m).d, .no, .no, .no]
  refine len_lc rfl rfl _ _ _ ⟨_, rfl, rfl, ?_⟩
  rw [nums_len, nums_len, List.length_map]
  show dSeq (dForTs 7 8 1 (dAppB 8 (dC .none))) _ _ [.scr (ns.map PyData.int), .dat (.int kk), .own none [.int x3, .int y3], .dat m.d, .dat (.str m.d.shown), .dat d, .own none (nums (useR m) ++ [.int 99]), .box (boxTr none (trM m).td), s8, .own none (inz [((trM m).fs.length : Int), ((trM m).ls.length : Int), ((trM m).ss.length : Int)]), s10]
  refine sq_x ?_
  unfold dForTs dAppB dC
  refine ⟨none, [.t (.int ((trM m).n : Int)), .l (nums (trM m).fs), .l (nums (trM m).ls), .l ((trM m).ss.map stepD)], rfl, by decide, by show 1 ≤ 4; decide, ?_⟩
  show kidW _ _ 7 8 none true [.t (.int ((trM m).n : Int))] [.l (nums (trM m).fs), .l (nums (trM m).ls), .l ((trM m).ss.map stepD)] _
  intro v1 b1
  refine ⟨some v1, nums (trM m).fs, rfl, by rw [nums_len, sizeLine_eq]; omega, rfl, .l (nums (trM m).fs ++ [.none]), rfl, rfl, ?_⟩
  intro v2 b2
  refine ⟨some v2, nums (trM m).ls, rfl, by rw [nums_len, sizeLine_eq]; omega, rfl, .l (nums (trM m).ls ++ [.none]), rfl, rfl, ?_⟩
  intro v3 b3
  refine ⟨some v3, (trM m).ss.map stepD, rfl, by rw [List.length_map, sizeLine_eq]; omega, rfl, .l ((trM m).ss.map stepD ++ [.none]), rfl, rfl, ?_⟩
  have ed : (TD.tp [.t (.int ((trM m).n : Int)), .l (nums (trM m).fs ++ [.none]), .l (nums (trM m).ls ++ [.none]), .l ((trM m).ss.map stepD ++ [.none])]).d = .tuple [.int ((trM m).n : Int), .list (nums (trM m).fs ++ [.none]), .list (nums (trM m).ls ++ [.none]), .list ((trM m).ss.map stepD ++ [.none])] := by
    simp only [TD.d, TD.dAll]
  have ld2 : LdS (.box (boxTr none (TD.tp [.t (.int ((trM m).n : Int)), .l (nums (trM m).fs ++ [.none]), .l (nums (trM m).ls ++ [.none]), .l ((trM m).ss.map stepD ++ [.none])]))) (.dat (.tuple [.int ((trM m).n : Int), .list (nums (trM m).fs ++ [.none]), .list (nums (trM m).ls ++ [.none]), .list ((trM m).ss.map stepD ++ [.none])])) := by
    rw [← ed]
    exact .tr
  show dIfS (dLdT _) _ dNext _ [.scr (ns.map PyData.int), .dat (.int kk), .own none [.int x3, .int y3], .dat m.d, .dat (.str m.d.shown), .dat d, .own none (nums (useR m) ++ [.int 99]), .box (boxTr none (TD.tp [.t (.int ((trM m).n : Int)), .l (nums (trM m).fs ++ [.none]), .l (nums (trM m).ls ++ [.none]), .l ((trM m).ss.map stepD ++ [.none])])), .no, .own none (inz [((trM m).fs.length : Int), ((trM m).ls.length : Int), ((trM m).ss.length : Int)]), s10]
  unfold dIfS
  show ∃ δ1, Lds _ δ1 ∧ _
  refine ⟨[.no, .no, .no, .dat m.d, .dat (.str m.d.shown), .no, .no, .dat (.tuple [.int ((trM m).n : Int), .list (nums (trM m).fs ++ [.none]), .list (nums (trM m).ls ++ [.none]), .list ((trM m).ss.map stepD ++ [.none])]), .no, .dat (.list (inz [((trM m).fs.length : Int), ((trM m).ls.length : Int), ((trM m).ss.length : Int)])), .no], .cons .no (.cons .no (.cons .no (.cons .dat (.cons .dat (.cons .no (.cons .no (.cons ld2 (.cons .no (.cons .own (.cons .no .nil)))))))))), ?_⟩
  refine ne_t (d1 := .list (inz [((trM m).fs.length : Int) + 1, ((trM m).ls.length : Int) + 1, ((trM m).ss.length : Int) + 1])) (d2 := .list (inz [1 + ((trM m).fs.length : Int), 1 + ((trM m).ls.length : Int), 1 + ((trM m).ss.length : Int)])) (fun Q q => ?_) (fun Q q => ?_) (sh_inz _) (sh_inz _) ?_
  · unfold dLc
    dsimp only
    refine var_at (i := 7) (d := .tuple [.int ((trM m).n : Int), .list (nums (trM m).fs ++ [.none]), .list (nums (trM m).ls ++ [.none]), .list ((trM m).ss.map stepD ++ [.none])]) rfl ⟨by show ¬ (HT.sIx 4 0 (some 1) = 0 ∧ HT.sIx 4 4 none = 4); decide, ?_⟩
    show lcW [8] (dgName 8) dYes (dLen (dVar 8)) _ [.list (nums (trM m).fs ++ [.none]), .list (nums (trM m).ls ++ [.none]), .list ((trM m).ss.map stepD ++ [.none])] [] [.no, .no, .no, .dat m.d, .dat (.str m.d.shown), .no, .no, .dat (.tuple [.int ((trM m).n : Int), .list (nums (trM m).fs ++ [.none]), .list (nums (trM m).ls ++ [.none]), .list ((trM m).ss.map stepD ++ [.none])]), .no, .dat (.list (inz [((trM m).fs.length : Int), ((trM m).ls.length : Int), ((trM m).ss.length : Int)])), .no]
    refine len_lc rfl rfl _ _ _ ?_
    rw [List.length_append, List.length_append, List.length_append, nums_len, nums_len, List.length_map]
    exact q
  · unfold dLc diL
    refine var_at (i := 9) (d := .list (inz [((trM m).fs.length : Int), ((trM m).ls.length : Int), ((trM m).ss.length : Int)])) rfl ?_
    refine lc_of (fun _ => true) (fun (i : Int) => .int (1 + i)) PyData.int rfl [((trM m).fs.length : Int), ((trM m).ls.length : Int), ((trM m).ss.length : Int)] [] (by show 3 ≤ 16777216; decide) (fun i hi Y N hY hN => ?_) ?_
    · exact hY rfl _ rfl
    · exact q
  have e9 : ∀ i : Int, i + 1 = 1 + i := fun i => by omega
  rw [e9, e9, e9, eqv_inz]
  simp only [Bool.not_true, Bool.false_eq_true, if_false]
  exact hN2 _ ⟨_, _, _, _, _, _, rfl⟩
end
end K40

set_option Elab.async false
set_option linter.all false
set_option maxRecDepth 100000
set_option maxHeartbeats 4000000
namespace K40
open PySem PySem.Spec L2 TL
theorem all_mk {l : PySem.W.OpenLaw} {w : World} {K : PySem.W.Frag} {h : Heap} {mg : Str → Option Value} {fa f1 f2 f3 f4 f5 f6 f7 f8 f9 f10 f11 f12 f13 f14 f15 f16 f17 f18 f19 f20 : Addr} (X : K.In h) (G : h.Ns mainGlobals mg) (hfa : mg "law" = some (.ref fa))
    {od1 an1 od2 an2 od3 an3 od4 an4 od5 an5 od6 an6 od7 an7 od8 an8 od9 an9 od10 an10 od11 an11 od12 an12 od13 an13 od14 an14 od15 an15 od16 an16 od17 an17 od18 an18 od19 an19 od20 an20 : Option Addr} {sl1 sl2 sl3 sl4 sl5 sl6 sl7 sl8 sl9 sl10 sl11 sl12 sl13 sl14 sl15 sl16 sl17 sl18 sl19 sl20 : Array (Option Value)} {oc1 kV1 dc1 pm1 cd1 ct1 oc2 kV2 dc2 pm2 cd2 ct2 oc3 kV3 dc3 pm3 cd3 ct3 oc4 kV4 dc4 pm4 cd4 ct4 oc5 kV5 dc5 pm5 cd5 ct5 oc6 kV6 dc6 pm6 cd6 ct6 oc7 kV7 dc7 pm7 cd7 ct7 oc8 kV8 dc8 pm8 cd8 ct8 oc9 kV9 dc9 pm9 cd9 ct9 oc10 kV10 dc10 pm10 cd10 ct10 oc11 kV11 dc11 pm11 cd11 ct11 oc12 kV12 dc12 pm12 cd12 ct12 oc13 kV13 dc13 pm13 cd13 ct13 oc14 kV14 dc14 pm14 cd14 ct14 oc15 kV15 dc15 pm15 cd15 ct15 oc16 kV16 dc16 pm16 cd16 ct16 oc17 kV17 dc17 pm17 cd17 ct17 oc18 kV18 dc18 pm18 cd18 ct18 oc19 kV19 dc19 pm19 cd19 ct19 oc20 kV20 dc20 pm20 cd20 ct20 : Value}
    (a1 : PySem.W.nsIn K mainGlobals "is_whole" = some (some (.ref f1))) (l1 : K.lookup f1 = some ⟨oc1, od1, .func (PySem.W.fnOf "is_whole" "is_whole" (defArgs s_is_whole) (defBody s_is_whole) (defScope s_is_whole) .none kV1 dc1 pm1 an1 cd1 ct1), sl1⟩) (c1 : PySem.W.codeIn K cd1 "is_whole" = true) (k1 : PySem.W.keepIn K (.ref f1) = true)
    (a2 : PySem.W.nsIn K mainGlobals "is_sign" = some (some (.ref f2))) (l2 : K.lookup f2 = some ⟨oc2, od2, .func (PySem.W.fnOf "is_sign" "is_sign" (defArgs s_is_sign) (defBody s_is_sign) (defScope s_is_sign) .none kV2 dc2 pm2 an2 cd2 ct2), sl2⟩) (c2 : PySem.W.codeIn K cd2 "is_sign" = true) (k2 : PySem.W.keepIn K (.ref f2) = true)
    (a3 : PySem.W.nsIn K mainGlobals "is_room" = some (some (.ref f3))) (l3 : K.lookup f3 = some ⟨oc3, od3, .func (PySem.W.fnOf "is_room" "is_room" (defArgs s_is_room) (defBody s_is_room) (defScope s_is_room) .none kV3 dc3 pm3 an3 cd3 ct3), sl3⟩) (c3 : PySem.W.codeIn K cd3 "is_room" = true) (k3 : PySem.W.keepIn K (.ref f3) = true)
    (a4 : PySem.W.nsIn K mainGlobals "look_at" = some (some (.ref f4))) (l4 : K.lookup f4 = some ⟨oc4, od4, .func (PySem.W.fnOf "look_at" "look_at" (defArgs s_look_at) (defBody s_look_at) (defScope s_look_at) .none kV4 dc4 pm4 an4 cd4 ct4), sl4⟩) (c4 : PySem.W.codeIn K cd4 "look_at" = true) (k4 : PySem.W.keepIn K (.ref f4) = true)
    (a5 : PySem.W.nsIn K mainGlobals "look_at_rooms" = some (some (.ref f5))) (l5 : K.lookup f5 = some ⟨oc5, od5, .func (PySem.W.fnOf "look_at_rooms" "look_at_rooms" (defArgs s_look_at_rooms) (defBody s_look_at_rooms) (defScope s_look_at_rooms) .none kV5 dc5 pm5 an5 cd5 ct5), sl5⟩) (c5 : PySem.W.codeIn K cd5 "look_at_rooms" = true) (k5 : PySem.W.keepIn K (.ref f5) = true)
    (a6 : PySem.W.nsIn K mainGlobals "look_at_steps" = some (some (.ref f6))) (l6 : K.lookup f6 = some ⟨oc6, od6, .func (PySem.W.fnOf "look_at_steps" "look_at_steps" (defArgs s_look_at_steps) (defBody s_look_at_steps) (defScope s_look_at_steps) .none kV6 dc6 pm6 an6 cd6 ct6), sl6⟩) (c6 : PySem.W.codeIn K cd6 "look_at_steps" = true) (k6 : PySem.W.keepIn K (.ref f6) = true)
    (a7 : PySem.W.nsIn K mainGlobals "is_step" = some (some (.ref f7))) (l7 : K.lookup f7 = some ⟨oc7, od7, .func (PySem.W.fnOf "is_step" "is_step" (defArgs s_is_step) (defBody s_is_step) (defScope s_is_step) .none kV7 dc7 pm7 an7 cd7 ct7), sl7⟩) (c7 : PySem.W.codeIn K cd7 "is_step" = true) (k7 : PySem.W.keepIn K (.ref f7) = true)
    (a8 : PySem.W.nsIn K mainGlobals "turned" = some (some (.ref f8))) (l8 : K.lookup f8 = some ⟨oc8, od8, .func (PySem.W.fnOf "turned" "turned" (defArgs s_turned) (defBody s_turned) (defScope s_turned) .none kV8 dc8 pm8 an8 cd8 ct8), sl8⟩) (c8 : PySem.W.codeIn K cd8 "turned" = true) (k8 : PySem.W.keepIn K (.ref f8) = true)
    (a9 : PySem.W.nsIn K mainGlobals "useful" = some (some (.ref f9))) (l9 : K.lookup f9 = some ⟨oc9, od9, .func (PySem.W.fnOf "useful" "useful" (defArgs s_useful) (defBody s_useful) (defScope s_useful) .none kV9 dc9 pm9 an9 cd9 ct9), sl9⟩) (c9 : PySem.W.codeIn K cd9 "useful" = true) (k9 : PySem.W.keepIn K (.ref f9) = true)
    (a10 : PySem.W.nsIn K mainGlobals "trimmed" = some (some (.ref f10))) (l10 : K.lookup f10 = some ⟨oc10, od10, .func (PySem.W.fnOf "trimmed" "trimmed" (defArgs s_trimmed) (defBody s_trimmed) (defScope s_trimmed) .none kV10 dc10 pm10 an10 cd10 ct10), sl10⟩) (c10 : PySem.W.codeIn K cd10 "trimmed" = true) (k10 : PySem.W.keepIn K (.ref f10) = true)
    (a11 : PySem.W.nsIn K mainGlobals "led_to" = some (some (.ref f11))) (l11 : K.lookup f11 = some ⟨oc11, od11, .func (PySem.W.fnOf "led_to" "led_to" (defArgs s_led_to) (defBody s_led_to) (defScope s_led_to) .none kV11 dc11 pm11 an11 cd11 ct11), sl11⟩) (c11 : PySem.W.codeIn K cd11 "led_to" = true) (k11 : PySem.W.keepIn K (.ref f11) = true)
    (a12 : PySem.W.nsIn K mainGlobals "_law_hand" = some (some (.ref f12))) (l12 : K.lookup f12 = some ⟨oc12, od12, .func (PySem.W.fnOf "_law_hand" "_law_hand" (defArgs s_law_hand) (defBody s_law_hand) (defScope s_law_hand) .none kV12 dc12 pm12 an12 cd12 ct12), sl12⟩) (c12 : PySem.W.codeIn K cd12 "_law_hand" = true) (k12 : PySem.W.keepIn K (.ref f12) = true)
    (a13 : PySem.W.nsIn K mainGlobals "_law_draw" = some (some (.ref f13))) (l13 : K.lookup f13 = some ⟨oc13, od13, .func (PySem.W.fnOf "_law_draw" "_law_draw" (defArgs s_law_draw) (defBody s_law_draw) (defScope s_law_draw) .none kV13 dc13 pm13 an13 cd13 ct13), sl13⟩) (c13 : PySem.W.codeIn K cd13 "_law_draw" = true) (k13 : PySem.W.keepIn K (.ref f13) = true)
    (a14 : PySem.W.nsIn K mainGlobals "_law_rooms" = some (some (.ref f14))) (l14 : K.lookup f14 = some ⟨oc14, od14, .func (PySem.W.fnOf "_law_rooms" "_law_rooms" (defArgs s_law_rooms) (defBody s_law_rooms) (defScope s_law_rooms) .none kV14 dc14 pm14 an14 cd14 ct14), sl14⟩) (c14 : PySem.W.codeIn K cd14 "_law_rooms" = true) (k14 : PySem.W.keepIn K (.ref f14) = true)
    (a15 : PySem.W.nsIn K mainGlobals "_law_letters" = some (some (.ref f15))) (l15 : K.lookup f15 = some ⟨oc15, od15, .func (PySem.W.fnOf "_law_letters" "_law_letters" (defArgs s_law_letters) (defBody s_law_letters) (defScope s_law_letters) .none kV15 dc15 pm15 an15 cd15 ct15), sl15⟩) (c15 : PySem.W.codeIn K cd15 "_law_letters" = true) (k15 : PySem.W.keepIn K (.ref f15) = true)
    (a16 : PySem.W.nsIn K mainGlobals "_law_machine" = some (some (.ref f16))) (l16 : K.lookup f16 = some ⟨oc16, od16, .func (PySem.W.fnOf "_law_machine" "_law_machine" (defArgs s_law_machine) (defBody s_law_machine) (defScope s_law_machine) .none kV16 dc16 pm16 an16 cd16 ct16), sl16⟩) (c16 : PySem.W.codeIn K cd16 "_law_machine" = true) (k16 : PySem.W.keepIn K (.ref f16) = true)
    (a17 : PySem.W.nsIn K mainGlobals "_law_come_to" = some (some (.ref f17))) (l17 : K.lookup f17 = some ⟨oc17, od17, .func (PySem.W.fnOf "_law_come_to" "_law_come_to" (defArgs s_law_come_to) (defBody s_law_come_to) (defScope s_law_come_to) .none kV17 dc17 pm17 an17 cd17 ct17), sl17⟩) (c17 : PySem.W.codeIn K cd17 "_law_come_to" = true) (k17 : PySem.W.keepIn K (.ref f17) = true)
    (a18 : PySem.W.nsIn K mainGlobals "_law_useful" = some (some (.ref f18))) (l18 : K.lookup f18 = some ⟨oc18, od18, .func (PySem.W.fnOf "_law_useful" "_law_useful" (defArgs s_law_useful) (defBody s_law_useful) (defScope s_law_useful) .none kV18 dc18 pm18 an18 cd18 ct18), sl18⟩) (c18 : PySem.W.codeIn K cd18 "_law_useful" = true) (k18 : PySem.W.keepIn K (.ref f18) = true)
    (a19 : PySem.W.nsIn K mainGlobals "_law_trimmed" = some (some (.ref f19))) (l19 : K.lookup f19 = some ⟨oc19, od19, .func (PySem.W.fnOf "_law_trimmed" "_law_trimmed" (defArgs s_law_trimmed) (defBody s_law_trimmed) (defScope s_law_trimmed) .none kV19 dc19 pm19 an19 cd19 ct19), sl19⟩) (c19 : PySem.W.codeIn K cd19 "_law_trimmed" = true) (k19 : PySem.W.keepIn K (.ref f19) = true)
    (a20 : PySem.W.nsIn K mainGlobals "law" = some (some (.ref f20))) (l20 : K.lookup f20 = some ⟨oc20, od20, .func (PySem.W.fnOf "law" "law" (defArgs s_law) (defBody s_law) (defScope s_law) .none kV20 dc20 pm20 an20 cd20 ct20), sl20⟩) (c20 : PySem.W.codeIn K cd20 "law" = true) (k20 : PySem.W.keepIn K (.ref f20) = true)
    (gi_ROOMS_MOST : ∃ tk, PySem.W.nsIn K mainGlobals "ROOMS_MOST" = some (some (.int 12 tk)))
    (gi_STEPS_MOST : ∃ tk, PySem.W.nsIn K mainGlobals "STEPS_MOST" = some (some (.int 200 tk)))
    (z_len : PySem.W.nsIn K mainGlobals "len" = some none) (z_isinstance : PySem.W.nsIn K mainGlobals "isinstance" = some none) (z_str : PySem.W.nsIn K mainGlobals "str" = some none) (z_bool : PySem.W.nsIn K mainGlobals "bool" = some none) (z_range : PySem.W.nsIn K mainGlobals "range" = some none) (z_int : PySem.W.nsIn K mainGlobals "int" = some none) (z_max : PySem.W.nsIn K mainGlobals "max" = some none) (z_min : PySem.W.nsIn K mainGlobals "min" = some none) (z_sum : PySem.W.nsIn K mainGlobals "sum" = some none) (z_set : PySem.W.nsIn K mainGlobals "set" = some none) (z_tuple : PySem.W.nsIn K mainGlobals "tuple" = some none) (z_list : PySem.W.nsIn K mainGlobals "list" = some none) (z_enumerate : PySem.W.nsIn K mainGlobals "enumerate" = some none) (z_sorted : PySem.W.nsIn K mainGlobals "sorted" = some none) (z_repr : PySem.W.nsIn K mainGlobals "repr" = some none) (z_all : PySem.W.nsIn K mainGlobals "all" = some none) (z_IndexError : PySem.W.nsIn K mainGlobals "IndexError" = some none) :
    ∃ fd : FuncData, (∀ (s : Shared) (v : Value), BindsTo s fd ⟨[v], []⟩ [("_law_script", v)]) ∧ ∀ base : Heap, K.In base → base.Ns mainGlobals mg → FnOkG l.prog w K mg base CX0 9 fa fd ["_law_script"] (spLaw K) := by
  have e := hfa.symm.trans (PySem.W.mg_of X G a20)
  cases e
  have m_len := PySem.W.mg_none_of X G z_len
  have m_isinstance := PySem.W.mg_none_of X G z_isinstance
  have m_str := PySem.W.mg_none_of X G z_str
  have m_bool := PySem.W.mg_none_of X G z_bool
  have m_range := PySem.W.mg_none_of X G z_range
  have m_int := PySem.W.mg_none_of X G z_int
  have m_max := PySem.W.mg_none_of X G z_max
  have m_min := PySem.W.mg_none_of X G z_min
  have m_sum := PySem.W.mg_none_of X G z_sum
  have m_set := PySem.W.mg_none_of X G z_set
  have m_tuple := PySem.W.mg_none_of X G z_tuple
  have m_list := PySem.W.mg_none_of X G z_list
  have m_enumerate := PySem.W.mg_none_of X G z_enumerate
  have m_sorted := PySem.W.mg_none_of X G z_sorted
  have m_repr := PySem.W.mg_none_of X G z_repr
  have m_all := PySem.W.mg_none_of X G z_all
  have m_IndexError := PySem.W.mg_none_of X G z_IndexError
  have g_ROOMS_MOST : ∃ tk, mg "ROOMS_MOST" = some (.int 12 tk) := ⟨_, PySem.W.mg_of X G gi_ROOMS_MOST.choose_spec⟩
  have g_STEPS_MOST : ∃ tk, mg "STEPS_MOST" = some (.int 200 tk) := ⟨_, PySem.W.mg_of X G gi_STEPS_MOST.choose_spec⟩
  have F1 := fun_mk (st := s_is_whole) l1 c1 k1
  have b1 := F1.binds (ps := ["thing"]) fun _ _ _ _ _ _ us hl => match us, hl with | [_], _ => rfl
  have F2 := fun_mk (st := s_is_sign) l2 c2 k2
  have b2 := F2.binds (ps := ["thing"]) fun _ _ _ _ _ _ us hl => match us, hl with | [_], _ => rfl
  have F3 := fun_mk (st := s_is_room) l3 c3 k3
  have b3 := F3.binds (ps := ["thing", "many"]) fun _ _ _ _ _ _ us hl => match us, hl with | [_, _], _ => rfl
  have F4 := fun_mk (st := s_look_at) l4 c4 k4
  have b4 := F4.binds (ps := ["thing"]) fun _ _ _ _ _ _ us hl => match us, hl with | [_], _ => rfl
  have F5 := fun_mk (st := s_look_at_rooms) l5 c5 k5
  have b5 := F5.binds (ps := ["rooms", "many", "part"]) fun _ _ _ _ _ _ us hl => match us, hl with | [_, _, _], _ => rfl
  have F6 := fun_mk (st := s_look_at_steps) l6 c6 k6
  have b6 := F6.binds (ps := ["steps", "many"]) fun _ _ _ _ _ _ us hl => match us, hl with | [_, _], _ => rfl
  have F7 := fun_mk (st := s_is_step) l7 c7 k7
  have b7 := F7.binds (ps := ["thing", "many"]) fun _ _ _ _ _ _ us hl => match us, hl with | [_, _], _ => rfl
  have F8 := fun_mk (st := s_turned) l8 c8 k8
  have b8 := F8.binds (ps := ["machine"]) fun _ _ _ _ _ _ us hl => match us, hl with | [_], _ => rfl
  have F9 := fun_mk (st := s_useful) l9 c9 k9
  have b9 := F9.binds (ps := ["machine"]) fun _ _ _ _ _ _ us hl => match us, hl with | [_], _ => rfl
  have F10 := fun_mk (st := s_trimmed) l10 c10 k10
  have b10 := F10.binds (ps := ["machine"]) fun _ _ _ _ _ _ us hl => match us, hl with | [_], _ => rfl
  have F11 := fun_mk (st := s_led_to) l11 c11 k11
  have b11 := F11.binds (ps := ["rooms", "steps"]) fun _ _ _ _ _ _ us hl => match us, hl with | [_, _], _ => rfl
  have F12 := fun_mk (st := s_law_hand) l12 c12 k12
  have b12 := F12.binds (ps := ["_law_script", "_law_k"]) fun _ _ _ _ _ _ us hl => match us, hl with | [_, _], _ => rfl
  have F13 := fun_mk (st := s_law_draw) l13 c13 k13
  have b13 := F13.binds (ps := ["_law_hand_here", "_law_size"]) fun _ _ _ _ _ _ us hl => match us, hl with | [_, _], _ => rfl
  have F14 := fun_mk (st := s_law_rooms) l14 c14 k14
  have b14 := F14.binds (ps := ["_law_hand_here", "_law_size"]) fun _ _ _ _ _ _ us hl => match us, hl with | [_, _], _ => rfl
  have F15 := fun_mk (st := s_law_letters) l15 c15 k15
  have b15 := F15.binds (ps := ["_law_hand_here"]) fun _ _ _ _ _ _ us hl => match us, hl with | [_], _ => rfl
  have F16 := fun_mk (st := s_law_machine) l16 c16 k16
  have b16 := F16.binds (ps := ["_law_hand_here", "_law_upto", "_law_extra", "_law_letters_here"]) fun _ _ _ _ _ _ us hl => match us, hl with | [_, _, _, _], _ => rfl
  have F17 := fun_mk (st := s_law_come_to) l17 c17 k17
  have b17 := F17.binds (ps := ["_law_machine_here", "_law_rooms_here"]) fun _ _ _ _ _ _ us hl => match us, hl with | [_, _], _ => rfl
  have F18 := fun_mk (st := s_law_useful) l18 c18 k18
  have b18 := F18.binds (ps := ["_law_machine_here"]) fun _ _ _ _ _ _ us hl => match us, hl with | [_], _ => rfl
  have F19 := fun_mk (st := s_law_trimmed) l19 c19 k19
  have b19 := F19.binds (ps := ["_law_machine_here"]) fun _ _ _ _ _ _ us hl => match us, hl with | [_], _ => rfl
  have F20 := fun_mk (st := s_law) l20 c20 k20
  refine ⟨PySem.W.fnOf "law" "law" (defArgs s_law) (defBody s_law) (defScope s_law) .none kV20 dc20 pm20 an20 cd20 ct20, fun s v => .of_eq rfl, fun base _ _ => law_by ?_⟩
  have K1 : Kn l.prog w K mg base 1 "is_whole" S_whole := ⟨_, _, _, ok_is_whole m_len m_isinstance m_str m_bool m_range m_int m_max m_min m_sum m_set m_tuple m_list m_enumerate F1 , PySem.W.mg_of X G a1, k1, b1⟩
  have K2 : Kn l.prog w K mg base 1 "is_sign" S_is_sign := ⟨_, _, _, ok_is_sign m_len m_isinstance m_str m_bool m_range m_int m_max m_min m_sum m_set m_tuple m_list m_enumerate F2 , PySem.W.mg_of X G a2, k2, b2⟩
  have K3 : Kn l.prog w K mg base 2 "is_room" S_room := ⟨_, _, _, ok_is_room m_len m_isinstance m_str m_bool m_range m_int m_max m_min m_sum m_set m_tuple m_list m_enumerate F3 K1, PySem.W.mg_of X G a3, k3, b3⟩
  have K7 : Kn l.prog w K mg base 3 "is_step" S_step := ⟨_, _, _, ok_is_step m_len m_isinstance m_str m_bool m_range m_int m_max m_min m_sum m_set m_tuple m_list m_enumerate F7 K2 K3, PySem.W.mg_of X G a7, k7, b7⟩
  have K5 : Kn l.prog w K mg base 3 "look_at_rooms" S_rooms := ⟨_, _, _, ok_look_at_rooms m_len m_isinstance m_str m_bool m_range m_int m_max m_min m_sum m_set m_tuple m_list m_enumerate F5 K3, PySem.W.mg_of X G a5, k5, b5⟩
  have K6 : Kn l.prog w K mg base 4 "look_at_steps" S_steps := ⟨_, _, _, ok_look_at_steps m_len m_isinstance m_str m_bool m_range m_int m_max m_min m_sum m_set m_tuple m_list m_enumerate F6 g_STEPS_MOST K7, PySem.W.mg_of X G a6, k6, b6⟩
  have K4 : Kn l.prog w K mg base 5 "look_at" S_look := ⟨_, _, _, ok_look_at m_len m_isinstance m_str m_bool m_range m_int m_max m_min m_sum m_set m_tuple m_list m_enumerate F4 g_ROOMS_MOST K1 K5 K6, PySem.W.mg_of X G a4, k4, b4⟩
  have K8 : Kn l.prog w K mg base 6 "turned" S_turned := ⟨_, _, _, ok_turned m_len m_isinstance m_str m_bool m_range m_int m_max m_min m_sum m_set m_tuple m_list m_enumerate m_sorted m_all F8 K4, PySem.W.mg_of X G a8, k8, b8⟩
  have K11 : Kn l.prog w K mg base 1 "led_to" S_led := ⟨_, _, _, ok_led_to m_len m_isinstance m_str m_bool m_range m_int m_max m_min m_sum m_set m_tuple m_list m_enumerate m_sorted m_repr F11 , PySem.W.mg_of X G a11, k11, b11⟩
  have K9 : KnN l.prog w K mg base 7 "useful" S_useful := ⟨_, _, _, ok_useful m_len m_isinstance m_str m_bool m_range m_int m_max m_min m_sum m_set m_tuple m_list m_enumerate m_sorted m_repr F9 K8 K11, PySem.W.mg_of X G a9, k9, b9⟩
  have K10 : KnT l.prog w K mg base 8 "trimmed" S_trim := ⟨_, _, _, ok_trimmed m_len m_isinstance m_str m_bool m_range m_int m_max m_min m_sum m_set m_tuple m_list m_enumerate m_sorted m_repr F10 K9, PySem.W.mg_of X G a10, k10, b10⟩
  have K12 : KnN l.prog w K mg base 1 "_law_hand" S_hand := ⟨_, _, _, ok_law_hand m_len m_isinstance m_str m_bool m_range m_int m_max m_min m_sum m_set m_tuple m_list m_enumerate F12 , PySem.W.mg_of X G a12, k12, b12⟩
  have K13 : Kn l.prog w K mg base 1 "_law_draw" S_draw := ⟨_, _, _, ok_law_draw m_len m_isinstance m_str m_bool m_range m_int m_max m_min m_sum m_set m_tuple m_list m_enumerate F13 , PySem.W.mg_of X G a13, k13, b13⟩
  have K14 : Kn l.prog w K mg base 2 "_law_rooms" S_lrooms := ⟨_, _, _, ok_law_rooms m_len m_isinstance m_str m_bool m_range m_int m_max m_min m_sum m_set m_tuple m_list m_enumerate F14 K13, PySem.W.mg_of X G a14, k14, b14⟩
  have K15 : Kn l.prog w K mg base 2 "_law_letters" S_lletters := ⟨_, _, _, ok_law_letters m_len m_isinstance m_str m_bool m_range m_int m_max m_min m_sum m_set m_tuple m_list m_enumerate F15 K13, PySem.W.mg_of X G a15, k15, b15⟩
  have K16 : Kn l.prog w K mg base 3 "_law_machine" S_lmach := ⟨_, _, _, ok_law_machine m_len m_isinstance m_str m_bool m_range m_int m_max m_min m_sum m_set m_tuple m_list m_enumerate F16 K13 K14, PySem.W.mg_of X G a16, k16, b16⟩
  have K17 : Kn l.prog w K mg base 1 "_law_come_to" S_lcome := ⟨_, _, _, ok_law_come_to m_len m_isinstance m_str m_bool m_range m_int m_max m_min m_sum m_set m_tuple m_list m_enumerate m_sorted m_repr F17 , PySem.W.mg_of X G a17, k17, b17⟩
  have K18 : Kn l.prog w K mg base 2 "_law_useful" S_useD := ⟨_, _, _, ok_law_useful m_len m_isinstance m_str m_bool m_range m_int m_max m_min m_sum m_set m_tuple m_list m_enumerate m_sorted m_repr F18 K17, PySem.W.mg_of X G a18, k18, b18⟩
  have K19 : Kn l.prog w K mg base 3 "_law_trimmed" S_ltrim := ⟨_, _, _, ok_law_trimmed m_len m_isinstance m_str m_bool m_range m_int m_max m_min m_sum m_set m_tuple m_list m_enumerate m_sorted m_repr F19 K18, PySem.W.mg_of X G a19, k19, b19⟩
  exact ok_law (P := l.prog) (w := w) (base := base) m_len m_isinstance m_str m_bool m_range m_int m_max m_min m_sum m_set m_tuple m_list m_enumerate m_sorted m_repr F20 K12 K13 K15 K16 K9 K10 K18 K19
theorem walk {l : PySem.W.OpenLaw} {q : Program} {loose : List Str} {XP : (Str → Option Value) → Heap → Prop} {YP : World → Heap → Prop} {d : DefRec} {K : Params → PySem.W.Frag} (hn : l.most = some 63) (hdf : d.params.defaults = [])
    (hY : ∀ (w : World) (h : Heap), YP w h → (K w.params).In h)
    (F : ∀ (w : World) (mg : Str → Option Value) (fa : Addr) (h : Heap), (K w.params).In h → h.Ns mainGlobals mg → mg d.name = some (.ref fa) →
      ∃ fd : FuncData, (∀ (s : Shared) (u : Value), BindsTo s fd ⟨[u], []⟩ [("_law_script", u)]) ∧ ∀ base : Heap, (K w.params).In base → base.Ns mainGlobals mg → FnOkG l.prog w (K w.params) mg base CX0 9 fa fd ["_law_script"] (spLaw (K w.params))) :
    PySem.W.WalkO q loose XP YP l.row.toRowW d [] (fun f vs => PySem.call f vs) :=
  TL.walk_ofG (n := 63) (k := 9) (x := "_law_script") (sp := fun w => spLaw (K w.params)) hn (by decide) hdf ⟨rfl, by decide, by decide⟩ hY F (fun _ _ a ns hl _ hS => ⟨a, ns, rfl, hS, hl, fun _ => rfl⟩)
end K40
open PySem PySem.W PyProof.Rows
set_option maxRecDepth 100000 in
set_option maxHeartbeats 0 in
theorem PySem.Challenge.cw_triesgrow_k40_useful_rooms_holds : PySem.Challenge.rw_triesgrow_k40_useful_rooms.Holds := by
  w_on; o_law; k_head; (case hw => w_witness2)
  k_fill
  refine K40.walk (l := PySem.Challenge.rw_triesgrow_k40_useful_rooms) rfl rfl (fun w h Y => PySem.W.kIn_of Y) ?F
  case F =>
    intro w mg fa h KX G hmg
    refine' K40.all_mk KX G hmg ?a1 ?l1 ?c1 ?k1 ?a2 ?l2 ?c2 ?k2 ?a3 ?l3 ?c3 ?k3 ?a4 ?l4 ?c4 ?k4 ?a5 ?l5 ?c5 ?k5 ?a6 ?l6 ?c6 ?k6 ?a7 ?l7 ?c7 ?k7 ?a8 ?l8 ?c8 ?k8 ?a9 ?l9 ?c9 ?k9 ?a10 ?l10 ?c10 ?k10 ?a11 ?l11 ?c11 ?k11 ?a12 ?l12 ?c12 ?k12 ?a13 ?l13 ?c13 ?k13 ?a14 ?l14 ?c14 ?k14 ?a15 ?l15 ?c15 ?k15 ?a16 ?l16 ?c16 ?k16 ?a17 ?l17 ?c17 ?k17 ?a18 ?l18 ?c18 ?k18 ?a19 ?l19 ?c19 ?k19 ?a20 ?l20 ?c20 ?k20 ?gi_ROOMS_MOST ?gi_STEPS_MOST ?z_len ?z_isinstance ?z_str ?z_bool ?z_range ?z_int ?z_max ?z_min ?z_sum ?z_set ?z_tuple ?z_list ?z_enumerate ?z_sorted ?z_repr ?z_all ?z_IndexError
    (case a1 => k_is)
    (case l1 => k_is)
    (case c1 => k_is)
    (case k1 => k_is)
    (case a2 => k_is)
    (case l2 => k_is)
    (case c2 => k_is)
    (case k2 => k_is)
    (case a3 => k_is)
    (case l3 => k_is)
    (case c3 => k_is)
    (case k3 => k_is)
    (case a4 => k_is)
    (case l4 => k_is)
    (case c4 => k_is)
    (case k4 => k_is)
    (case a5 => k_is)
    (case l5 => k_is)
    (case c5 => k_is)
    (case k5 => k_is)
    (case a6 => k_is)
    (case l6 => k_is)
    (case c6 => k_is)
    (case k6 => k_is)
    (case a7 => k_is)
    (case l7 => k_is)
    (case c7 => k_is)
    (case k7 => k_is)
    (case a8 => k_is)
    (case l8 => k_is)
    (case c8 => k_is)
    (case k8 => k_is)
    (case a9 => k_is)
    (case l9 => k_is)
    (case c9 => k_is)
    (case k9 => k_is)
    (case a10 => k_is)
    (case l10 => k_is)
    (case c10 => k_is)
    (case k10 => k_is)
    (case a11 => k_is)
    (case l11 => k_is)
    (case c11 => k_is)
    (case k11 => k_is)
    (case a12 => k_is)
    (case l12 => k_is)
    (case c12 => k_is)
    (case k12 => k_is)
    (case a13 => k_is)
    (case l13 => k_is)
    (case c13 => k_is)
    (case k13 => k_is)
    (case a14 => k_is)
    (case l14 => k_is)
    (case c14 => k_is)
    (case k14 => k_is)
    (case a15 => k_is)
    (case l15 => k_is)
    (case c15 => k_is)
    (case k15 => k_is)
    (case a16 => k_is)
    (case l16 => k_is)
    (case c16 => k_is)
    (case k16 => k_is)
    (case a17 => k_is)
    (case l17 => k_is)
    (case c17 => k_is)
    (case k17 => k_is)
    (case a18 => k_is)
    (case l18 => k_is)
    (case c18 => k_is)
    (case k18 => k_is)
    (case a19 => k_is)
    (case l19 => k_is)
    (case c19 => k_is)
    (case k19 => k_is)
    (case a20 => k_is)
    (case l20 => k_is)
    (case c20 => k_is)
    (case k20 => k_is)
    (case gi_ROOMS_MOST => exact ⟨_, by k_is⟩)
    (case gi_STEPS_MOST => exact ⟨_, by k_is⟩)
    (case z_len => k_is)
    (case z_isinstance => k_is)
    (case z_str => k_is)
    (case z_bool => k_is)
    (case z_range => k_is)
    (case z_int => k_is)
    (case z_max => k_is)
    (case z_min => k_is)
    (case z_sum => k_is)
    (case z_set => k_is)
    (case z_tuple => k_is)
    (case z_list => k_is)
    (case z_enumerate => k_is)
    (case z_sorted => k_is)
    (case z_repr => k_is)
    (case z_all => k_is)
    (case z_IndexError => k_is)
