import PyProof.Rows.All
import Wide.All
import OpenK.AllK
import Wide.FinOn
import HandS.Base
import HandS.Call
import HandS.List
import HandS.Comp
import HandS.Ends
import HandS.Dict
import HandS.Iter
import HandS.Text
import HandS.Words
import HandS.WordsList
import HandS.AnyAll
import HandS.Exc
import HandS.ExcOwn
import HandS.ExcIs
import HandS.ExcValue
import HandS.WordsExc
import HandS.Wide
import HandS.Gcd
import HandS.FStr
import HandS.IsInst
import HandS.StrMore
import HandS.TupLe
import HandS.TupAny
import HandS.NoneIn
import HandS.Replace
import HandS.EndTab
import HandS.GenBody
import HandS.SetKeys
import HandS.WideBits
import HandS.More
import KE.SortKeyHeap
import HandS.SortKw
import HandS.SetFor
import HandS.Conv
import KE.OsArith
import KE.BitLaws
import KE.IntBitsLaws
import KE.SortData
import PySem.Challenge.RW_faultwood_k11_whole_least_sets
set_option Elab.async false
set_option linter.all false
set_option maxRecDepth 100000
set_option maxHeartbeats 2000000
/-! A layer of our own over the hand layer: what a def does, told by plain data. -/
namespace Dl
open PySem L2

/-! ### heaps that grow -/
/-- what stood stands; tables of code objects may have grown -/
def Ext (H H' : Hp) : Prop := ∀ a o, H a = some o → H' a = some o ∨ ∃ ps ps' : Array Value, o = .tbl ps ∧ H' a = some (.tbl ps') ∧ (TriplesOk ps.toList → TriplesOk ps'.toList)
theorem Ext.refl (H : Hp) : Ext H H := fun _ _ h => .inl h
theorem Ext.trans {H H1 H2 : Hp} (a : Ext H H1) (b : Ext H1 H2) : Ext H H2 := fun x o h => by
  rcases a x o h with h1 | ⟨ps, ps', e, h1, t⟩
  · exact b x o h1
  · rcases b x _ h1 with h2 | ⟨qs, qs', e', h2, t'⟩
    · exact .inr ⟨ps, ps', e, h2, t⟩
    · cases e'
      exact .inr ⟨ps, qs', e, h2, fun z => t' (t z)⟩
theorem Ext.no {H H' : Hp} (e : Ext H H') {a : Addr} (h : H' a = none) : H a = none := by
  cases q : H a with
  | none => rfl
  | some o =>
    rcases e a o q with h1 | ⟨_, _, _, h1, _⟩
    · rw [h1] at h; cases h
    · rw [h1] at h; cases h
theorem Ext.lst {H H' : Hp} (e : Ext H H') {a : Addr} {xs : List V} (h : H a = some (.lst xs)) : H' a = some (.lst xs) := by
  rcases e a _ h with h1 | ⟨_, _, q, _, _⟩
  · exact h1
  · cases q
theorem Ext.new {H : Hp} {p : Addr} {o : HO} (h : H p = none) : Ext H (upd H p o) := fun a u e => .inl (by
  rw [upd_ne (ne_of_none e h)]
  exact e)
/-- an object that H does not know may change -/
theorem Ext.mut {H H' : Hp} {p : Addr} {o : HO} (e : Ext H H') (h : H p = none) : Ext H (upd H' p o) := fun a u ha => by
  rw [upd_ne (ne_of_none ha h)]
  exact e a u ha
theorem ext_rd {H H' : Hp} {a : Addr} {u : HO} (e : Ext H H') (nt : ∀ ps, u ≠ .tbl ps) (h : Rd H a u) : Rd H' a u := by
  rcases h with h | ⟨o, h⟩
  · rcases e a _ h with h1 | ⟨_, _, q, _, _⟩
    · exact .inl h1
    · exact absurd q (nt _)
  · rcases e a _ h with h1 | ⟨_, _, q, _, _⟩
    · exact .inr ⟨o, h1⟩
    · cases q
theorem ext_l {K : PySem.W.Frag} {H H' : Hp} {a : Addr} {xs : List V} (e : Ext H H') (h : SqL K H a xs) : SqL K H' a xs := by
  rcases h with h | h
  · exact .inl (ext_rd e (fun _ q => nomatch q) h)
  · exact .inr h
theorem ext_t {K : PySem.W.Frag} {H H' : Hp} {a : Addr} {xs : List V} (e : Ext H H') (h : SqT K H a xs) : SqT K H' a xs := by
  rcases h with h | h
  · exact .inl (ext_rd e (fun _ q => nomatch q) h)
  · exact .inr h
/-! ### tables of code objects -/
/-- the tables that a text's generator expressions write to -/
class Tabs where
  ts : Addr → Prop
  cls : Str → Option Addr
def TabsIn [Tabs] (H : Hp) : Prop := ∀ P, Tabs.ts P → GxR.TabG H P
theorem TabsIn.mono [Tabs] {H H' : Hp} (t : TabsIn H) (e : Ext H H') : TabsIn H' := fun P hP => by
  obtain ⟨ps, h1, h2⟩ := t P hP
  rcases e P _ h1 with h | ⟨qs, qs', q, h, k⟩
  · exact ⟨ps, h, h2⟩
  · cases q
    exact ⟨qs', h, k h2⟩
/-! ### data -/
def keyD : Key → PyData
  | .inl i => .int i
  | .inr x => .str x
/-- an exception of the class at D -/
def ExG (cls : Value) (d : Option Addr) (a : Addr) : HO := .ext fun h => ∃ (oe : Obj) (vs : Array Value), h.get? a = some oe ∧ Zc cls d oe ∧ oe.data = .fields vs
abbrev ExI (D a : Addr) : HO := ExG (.ref D) none a
/-- all but tables stands on -/
def ntb : HO → Bool
  | .tbl _ => false
  | _ => true
def Up (H H' : Hp) : Prop := ∀ a o, H a = some o → ntb o = true → H' a = some o
theorem Ext.up {H H' : Hp} (e : Ext H H') : Up H H' := fun a o h nt => by
  rcases e a o h with h1 | ⟨_, _, q, _, _⟩
  · exact h1
  · rw [q] at nt; cases nt
theorem up_sub {Hs H : Hp} (s : ∀ a o, Hs a = some o → H a = some o) : Up Hs H := fun a o h _ => s a o h
theorem Up.rd {H H' : Hp} {a : Addr} {u : HO} (e : Up H H') (nt : ntb u = true) (h : Rd H a u) : Rd H' a u := by
  rcases h with h | ⟨o, h⟩
  · exact .inl (e a _ h nt)
  · exact .inr ⟨o, e a _ h rfl⟩
theorem Up.l {K : PySem.W.Frag} {H H' : Hp} {a : Addr} {xs : List V} (e : Up H H') (h : SqL K H a xs) : SqL K H' a xs := by
  rcases h with h | h
  · exact .inl (e.rd rfl h)
  · exact .inr h
theorem Up.t {K : PySem.W.Frag} {H H' : Hp} {a : Addr} {xs : List V} (e : Up H H') (h : SqT K H a xs) : SqT K H' a xs := by
  rcases h with h | h
  · exact .inl (e.rd rfl h)
  · exact .inr h
variable [Tabs]
mutual
/-- what a value is as data; exceptions and instances of own classes are written as dicts with keys that no dict of ours has -/
inductive Dq (K : PySem.W.Frag) (H : Hp) : V → PyData → Prop
  | non : Dq K H .non .none
  | bl (b : Bool) : Dq K H (.bl b) (.bool b)
  | int (i : Int) : Dq K H (.int i) (.int i)
  | str (x : Str) : Dq K H (.str x) (.str x)
  | lst {a : Addr} {xs : List V} {ds : List PyData} : SqL K H a xs → DqAll K H xs ds → Dq K H (.ref a) (.list ds)
  | tup {a : Addr} {xs : List V} {ds : List PyData} : SqT K H a xs → DqAll K H xs ds → Dq K H (.ref a) (.tuple ds)
  | dic {a : Addr} {kvs : List (Key × V)} {es : List (PyData × PyData)} : Rd H a (.dK kvs) → DqKV K H kvs es → Dq K H (.ref a) (.dict es)
  | exc {a D : Addr} {nm : Str} : Tabs.cls nm = some D → H a = some (ExG (.ref D) none a) → Dq K H (.ref a) (.dict [(.none, .str nm)])
  | exf {a D d : Addr} {nm : Str} {kvs : List (Str × V)} {f : PyData × PyData} {fs : List (PyData × PyData)} : Tabs.cls nm = some D → H a = some (ExG (.ref D) (some d) a) → H d = some (.xd kvs) → DqSV K H kvs (f :: fs) → Dq K H (.ref a) (.dict ((.none, .str nm) :: f :: fs))
  | obj {a C dx : Addr} {nm : Str} {kvs : List (Str × V)} {fs : List (PyData × PyData)} : Tabs.cls nm = some C → H a = some (.ins C dx kvs) → H dx = some (.own a) → DqSV K H kvs fs → Dq K H (.ref a) (.dict ((.bool true, .str nm) :: fs))
inductive DqAll (K : PySem.W.Frag) (H : Hp) : List V → List PyData → Prop
  | nil : DqAll K H [] []
  | cons {v : V} {vs : List V} {d : PyData} {ds : List PyData} : Dq K H v d → DqAll K H vs ds → DqAll K H (v :: vs) (d :: ds)
inductive DqKV (K : PySem.W.Frag) (H : Hp) : List (Key × V) → List (PyData × PyData) → Prop
  | nil : DqKV K H [] []
  | cons {k : Key} {v : V} {vs : List (Key × V)} {d : PyData} {ds : List (PyData × PyData)} : Dq K H v d → DqKV K H vs ds → DqKV K H ((k, v) :: vs) ((keyD k, d) :: ds)
inductive DqSV (K : PySem.W.Frag) (H : Hp) : List (Str × V) → List (PyData × PyData) → Prop
  | nil : DqSV K H [] []
  | cons {k : Str} {v : V} {vs : List (Str × V)} {d : PyData} {ds : List (PyData × PyData)} : Dq K H v d → DqSV K H vs ds → DqSV K H ((k, v) :: vs) ((.str k, d) :: ds)
end
section
variable {K : PySem.W.Frag} {H H' : Hp}
mutual
theorem Dq.map (u : Up H H') : ∀ {v : V} {d : PyData}, Dq K H v d → Dq K H' v d
  | _, _, .non => .non
  | _, _, .bl b => .bl b
  | _, _, .int i => .int i
  | _, _, .str x => .str x
  | _, _, .lst s a => .lst (u.l s) (DqAll.map u a)
  | _, _, .tup s a => .tup (u.t s) (DqAll.map u a)
  | _, _, .dic s a => .dic (u.rd rfl s) (DqKV.map u a)
  | _, _, .exc c e => .exc c (u _ _ e rfl)
  | _, _, .exf c e e2 a => .exf c (u _ _ e rfl) (u _ _ e2 rfl) (DqSV.map u a)
  | _, _, .obj c e e2 a => .obj c (u _ _ e rfl) (u _ _ e2 rfl) (DqSV.map u a)
theorem DqAll.map (u : Up H H') : ∀ {vs : List V} {ds : List PyData}, DqAll K H vs ds → DqAll K H' vs ds
  | _, _, .nil => .nil
  | _, _, .cons h a => .cons (Dq.map u h) (DqAll.map u a)
theorem DqKV.map (u : Up H H') : ∀ {vs : List (Key × V)} {ds : List (PyData × PyData)}, DqKV K H vs ds → DqKV K H' vs ds
  | _, _, .nil => .nil
  | _, _, .cons h a => .cons (Dq.map u h) (DqKV.map u a)
theorem DqSV.map (u : Up H H') : ∀ {vs : List (Str × V)} {ds : List (PyData × PyData)}, DqSV K H vs ds → DqSV K H' vs ds
  | _, _, .nil => .nil
  | _, _, .cons h a => .cons (Dq.map u h) (DqSV.map u a)
end
theorem Dq.mono (e : Ext H H') {v : V} {d : PyData} (h : Dq K H v d) : Dq K H' v d := h.map e.up
theorem DqAll.mono (e : Ext H H') {vs : List V} {ds : List PyData} (h : DqAll K H vs ds) : DqAll K H' vs ds := h.map e.up
/-- data without dicts, as the hand layer's own relation -/
theorem Dq.plain {v : V} {d : PyData} (h : Dq K H v d) : d.canLay0 = true → Dp K H v d :=
  Dq.rec (motive_1 := fun v d _ => d.canLay0 = true → Dp K H v d) (motive_2 := fun vs ds _ => PyData.canLayAll0 ds = true → DpAll K H vs ds) (motive_3 := fun _ _ _ => True) (motive_4 := fun _ _ _ => True)
    (fun _ => .non) (fun b _ => .bl b) (fun i _ => .int i) (fun x _ => .str x) (fun s _ ih q => .lst s (ih q)) (fun s _ ih q => .tup s (ih q)) (fun s _ ih q => nomatch q) (fun _ _ q => nomatch q) (fun _ _ _ _ _ q => nomatch q) (fun _ _ _ _ _ q => nomatch q) (fun _ => .nil)
    (fun {v vs d ds} _ _ a b q => by
      have q' : (d.canLay0 && PyData.canLayAll0 ds) = true := q
      rw [Bool.and_eq_true] at q'
      exact .cons (a q'.1) (b q'.2)) trivial (fun _ _ _ _ => trivial) trivial (fun _ _ _ _ => trivial) h
end
theorem DqAll.length {K : PySem.W.Frag} {H : Hp} : ∀ {vs : List V} {ds : List PyData}, DqAll K H vs ds → vs.length = ds.length
  | _, _, .nil => rfl
  | _, _, .cons _ a => by rw [List.length_cons, List.length_cons, DqAll.length a]
theorem DqAll.get {K : PySem.W.Frag} {H : Hp} : ∀ {vs : List V} {ds : List PyData} {i : Nat} {d : PyData}, DqAll K H vs ds → ds[i]? = some d → ∃ v, vs[i]? = some v ∧ Dq K H v d
  | _, _, _, _, .nil, h => by simp at h
  | _, _, 0, _, .cons h _, e => by
    cases e
    exact ⟨_, rfl, h⟩
  | _, _, i + 1, _, .cons _ a, e => DqAll.get (i := i) a e
theorem DqAll.getV {K : PySem.W.Frag} {H : Hp} : ∀ {vs : List V} {ds : List PyData} {i : Nat} {v : V}, DqAll K H vs ds → vs[i]? = some v → ∃ d, ds[i]? = some d ∧ Dq K H v d
  | _, _, _, _, .nil, h => by simp at h
  | _, _, 0, _, .cons h _, e => by
    cases e
    exact ⟨_, rfl, h⟩
  | _, _, i + 1, _, .cons _ a, e => DqAll.getV (i := i) a e
theorem DqAll.app {K : PySem.W.Frag} {H : Hp} : ∀ {vs ws : List V} {ds es : List PyData}, DqAll K H vs ds → DqAll K H ws es → DqAll K H (vs ++ ws) (ds ++ es)
  | _, _, _, _, .nil, b => b
  | _, _, _, _, .cons h a, b => .cons h (DqAll.app a b)
theorem DqAll.drop {K : PySem.W.Frag} {H : Hp} : ∀ {vs : List V} {ds : List PyData} (n : Nat), DqAll K H vs ds → DqAll K H (vs.drop n) (ds.drop n)
  | _, _, 0, h => h
  | _, _, _ + 1, .nil => .nil
  | _, _, n + 1, .cons _ a => DqAll.drop n a
theorem DqAll.take {K : PySem.W.Frag} {H : Hp} : ∀ {vs : List V} {ds : List PyData} (n : Nat), DqAll K H vs ds → DqAll K H (vs.take n) (ds.take n)
  | _, _, 0, _ => .nil
  | _, _, _ + 1, .nil => .nil
  | _, _, n + 1, .cons h a => .cons h (DqAll.take n a)
theorem DqAll.set {K : PySem.W.Frag} {H : Hp} {v : V} {d : PyData} (h : Dq K H v d) : ∀ {vs : List V} {ds : List PyData} (n : Nat), DqAll K H vs ds → DqAll K H (vs.set n v) (ds.set n d)
  | _, _, _, .nil => .nil
  | _, _, 0, .cons _ a => .cons h a
  | _, _, n + 1, .cons g a => .cons g (DqAll.set h n a)
theorem DqAll.ints {K : PySem.W.Frag} {H : Hp} : ∀ ns : List Int, DqAll K H (ns.map V.int) (ns.map PyData.int)
  | [] => .nil
  | n :: r => .cons (.int n) (DqAll.ints r)
theorem DqAll.ints_inv {K : PySem.W.Frag} {H : Hp} : ∀ {ns : List Int} {vs : List V}, DqAll K H vs (ns.map PyData.int) → vs = ns.map V.int
  | [], _, .nil => rfl
  | n :: r, _, .cons h a => by
    have e := DqAll.ints_inv (ns := r) a
    cases h
    rw [e]; rfl
theorem DqAll.strs_inv {K : PySem.W.Frag} {H : Hp} : ∀ {ns : List Str} {vs : List V}, DqAll K H vs (ns.map PyData.str) → vs = ns.map V.str
  | [], _, .nil => rfl
  | n :: r, _, .cons h a => by
    have e := DqAll.strs_inv (ns := r) a
    cases h
    rw [e]; rfl
theorem DqAll.strs {K : PySem.W.Frag} {H : Hp} : ∀ ns : List Str, DqAll K H (ns.map V.str) (ns.map PyData.str)
  | [] => .nil
  | n :: r => .cons (.str n) (DqAll.strs r)

/-- from (H, Hs) to (H', Hs'): Hs what the shared data lies in, a part of H -/
structure Gr (H Hs H' Hs' : Hp) : Prop where
  ext : Ext H H'
  exs : Ext Hs Hs'
  sub : ∀ a o, Hs' a = some o → H' a = some o
  new : ∀ a, Hs' a ≠ none → Hs a ≠ none ∨ H a = none
theorem Gr.refl {H Hs : Hp} (s : ∀ a o, Hs a = some o → H a = some o) : Gr H Hs H Hs := ⟨Ext.refl _, Ext.refl _, s, fun _ h => .inl h⟩
theorem Gr.trans {H Hs H1 Hs1 H2 Hs2 : Hp} (a : Gr H Hs H1 Hs1) (b : Gr H1 Hs1 H2 Hs2) : Gr H Hs H2 Hs2 :=
  ⟨a.ext.trans b.ext, a.exs.trans b.exs, b.sub, fun x h => by
    rcases b.new x h with q | q
    · exact a.new x q
    · exact .inr (a.ext.no q)⟩
/-- a new object of the shared part -/
theorem Gr.share {H Hs H1 Hs1 : Hp} {p : Addr} {o : HO} (g : Gr H Hs H1 Hs1) (h : H1 p = none) : Gr H Hs (upd H1 p o) (upd Hs1 p o) := by
  have hs : Hs1 p = none := by
    cases q : Hs1 p with
    | none => rfl
    | some u => rw [g.sub p u q] at h; cases h
  refine g.trans ⟨Ext.new h, Ext.new hs, fun a u e => ?_, fun a e => ?_⟩
  · by_cases ha : a = p
    · subst ha; rw [upd_same] at e ⊢; exact e
    · rw [upd_ne ha] at e ⊢; exact g.sub a u e
  · by_cases ha : a = p
    · subst ha; exact .inr h
    · rw [upd_ne ha] at e; exact .inl e
/-- a new object of one's own -/
theorem Gr.keep {H Hs H1 Hs1 : Hp} {p : Addr} {o : HO} (g : Gr H Hs H1 Hs1) (h : H1 p = none) : Gr H Hs (upd H1 p o) Hs1 := by
  refine g.trans ⟨Ext.new h, Ext.refl _, fun a u e => ?_, fun a e => .inl e⟩
  have := g.sub a u e
  rw [upd_ne (ne_of_none this h)]
  exact this
theorem Gr.hsn {H Hs H1 Hs1 : Hp} (g : Gr H Hs H1 Hs1) {p : Addr} (h : H1 p = none) : Hs1 p = none := by
  cases q : Hs1 p with
  | none => rfl
  | some u => rw [g.sub p u q] at h; cases h

/-! ### slots by data -/
inductive Sl where
  | un | sh (d : PyData) | ow (ds : List PyData) | vv (v : V) | ol (l : Addr) (ds : List PyData) | od (es : List (PyData × PyData)) | ex (D : Addr)
/-- an object of one's own -/
def Sl.isOwn : Sl → Bool
  | .ow _ => true
  | .ol _ _ => true
  | .od _ => true
  | _ => false
def SlOk (K : PySem.W.Frag) (H0 H Hs : Hp) : Sl → Option V → Prop
  | .un, _ => True
  | .sh d, o => ∃ v, o = some v ∧ Dq K Hs v d
  | .ow ds, o => ∃ l xs, o = some (.ref l) ∧ H l = some (.lst xs) ∧ DqAll K Hs xs ds ∧ Hs l = none ∧ H0 l = none
  | .vv v, o => o = some v
  | .ol l ds, o => ∃ xs, o = some (.ref l) ∧ H l = some (.lst xs) ∧ DqAll K Hs xs ds ∧ Hs l = none ∧ H0 l = none
  | .ex D, o => ∃ a, o = some (.ref a) ∧ Hs a = some (ExI D a)
  | .od es, o => ∃ l kvs, o = some (.ref l) ∧ H l = some (.dK kvs) ∧ DqKV K Hs kvs es ∧ Hs l = none ∧ H0 l = none
abbrev Gm := List Sl
/-- where a def stands: H0, Hs0 its entry -/
structure En [Tabs] (K : PySem.W.Frag) (H0 Hs0 : Hp) (pn : Hp) (H Hs : Hp) (σ : St) (Γ : Gm) : Prop where
  gr : Gr H0 Hs0 H Hs
  pin : Ext pn Hs
  len : σ.length = Γ.length
  at_ : ∀ (i : Nat) (s : Sl) (o : Option V), Γ[i]? = some s → σ[i]? = some o → SlOk K H0 H Hs s o
  sep : ∀ (i j : Nat) (s t : Sl) (l : Addr), Γ[i]? = some s → Γ[j]? = some t → s.isOwn = true → t.isOwn = true → σ[i]? = some (some (.ref l)) → σ[j]? = some (some (.ref l)) → i = j
  tab : TabsIn Hs
section
variable [Tabs]
variable {K : PySem.W.Frag} {H0 Hs0 H Hs H' Hs' : Hp} {pn : Hp} {σ : St} {Γ : Gm}
theorem DqKV.mono (e : Ext H H') : ∀ {kvs : List (Key × V)} {es : List (PyData × PyData)}, DqKV K H kvs es → DqKV K H' kvs es
  | _, _, .nil => .nil
  | _, _, .cons h a => .cons (h.mono e) (DqKV.mono e a)
theorem own_at {s : Sl} {o : Option V} (h : SlOk K H0 H Hs s o) (w : s.isOwn = true) : ∃ l u, o = some (.ref l) ∧ H l = some u ∧ (∀ ps, u ≠ .tbl ps) ∧ Hs l = none ∧ H0 l = none := by
  cases s with
  | ow ds =>
    obtain ⟨l, xs, e, h1, _, h3, h4⟩ := h
    exact ⟨l, _, e, h1, fun _ z => (nomatch z), h3, h4⟩
  | ol l ds =>
    obtain ⟨xs, e, h1, _, h3, h4⟩ := h
    exact ⟨l, _, e, h1, fun _ z => (nomatch z), h3, h4⟩
  | od es =>
    obtain ⟨l, xs, e, h1, _, h3, h4⟩ := h
    exact ⟨l, _, e, h1, fun _ z => (nomatch z), h3, h4⟩
  | un => cases w
  | sh d => cases w
  | vv v => cases w
  | ex D => cases w
/-- what a slot says goes over to another heap where its own object stands -/
theorem SlOk.move {s : Sl} {o : Option V} (h : SlOk K H0 H Hs s o) (x : Ext Hs Hs') (k : ∀ l u, s.isOwn = true → o = some (.ref l) → H l = some u → (∀ ps, u ≠ .tbl ps) → Hs l = none → H' l = some u ∧ Hs' l = none) : SlOk K H0 H' Hs' s o := by
  cases s with
  | un => trivial
  | sh d =>
    obtain ⟨v, e, p⟩ := h
    exact ⟨v, e, p.mono x⟩
  | vv v => exact h
  | ex D =>
    obtain ⟨a, e, h1⟩ := h
    refine ⟨a, e, ?_⟩
    rcases x a _ h1 with z | ⟨_, _, z, _, _⟩
    · exact z
    · cases z
  | ow ds =>
    obtain ⟨l, xs, e, h1, h2, h3, h4⟩ := h
    obtain ⟨k1, k2⟩ := k l _ rfl e h1 (fun _ z => nomatch z) h3
    exact ⟨l, xs, e, k1, h2.mono x, k2, h4⟩
  | ol l ds =>
    obtain ⟨xs, e, h1, h2, h3, h4⟩ := h
    obtain ⟨k1, k2⟩ := k l _ rfl e h1 (fun _ z => nomatch z) h3
    exact ⟨xs, e, k1, h2.mono x, k2, h4⟩
  | od es =>
    obtain ⟨l, xs, e, h1, h2, h3, h4⟩ := h
    obtain ⟨k1, k2⟩ := k l _ rfl e h1 (fun _ z => nomatch z) h3
    exact ⟨l, xs, e, k1, h2.mono x, k2, h4⟩
theorem ext_own {l : Addr} {u : HO} (x : Ext H H') (h : H l = some u) (nt : ∀ ps, u ≠ .tbl ps) : H' l = some u := by
  rcases x l _ h with z | ⟨_, _, z, _, _⟩
  · exact z
  · exact absurd z (nt _)
theorem SlOk.gr {s : Sl} {o : Option V} (h : SlOk K H0 H Hs s o) (g : Gr H Hs H' Hs') : SlOk K H0 H' Hs' s o := h.move g.exs fun l u _ _ h1 nt h3 => by
  refine ⟨ext_own g.ext h1 nt, ?_⟩
  cases q : Hs' l with
  | none => rfl
  | some u =>
    rcases g.new l (by rw [q]; simp) with z | z
    · exact absurd h3 z
    · rw [h1] at z; cases z
theorem En.grow (E : En K H0 Hs0 pn H Hs σ Γ) (g : Gr H Hs H' Hs') : En K H0 Hs0 pn H' Hs' σ Γ :=
  ⟨E.gr.trans g, E.pin.trans g.exs, E.len, fun i s o h1 h2 => (E.at_ i s o h1 h2).gr g, E.sep, E.tab.mono g.exs⟩
theorem En.sub (E : En K H0 Hs0 pn H Hs σ Γ) : ∀ a o, Hs a = some o → H a = some o := E.gr.sub
theorem En.get (E : En K H0 Hs0 pn H Hs σ Γ) {i : Nat} {s : Sl} (h : Γ[i]? = some s) : ∃ o, σ[i]? = some o ∧ SlOk K H0 H Hs s o := by
  have hi : i < σ.length := by
    rw [E.len]
    exact (List.getElem?_eq_some_iff.mp h).1
  exact ⟨_, List.getElem?_eq_getElem hi, E.at_ i _ _ h (List.getElem?_eq_getElem hi)⟩
theorem En.sh (E : En K H0 Hs0 pn H Hs σ Γ) {i : Nat} {d : PyData} (h : Γ[i]? = some (.sh d)) : ∃ v, σ[i]? = some (some v) ∧ Dq K Hs v d := by
  obtain ⟨o, e, v, rfl, p⟩ := E.get h
  exact ⟨v, e, p⟩
theorem En.vv (E : En K H0 Hs0 pn H Hs σ Γ) {i : Nat} {v : V} (h : Γ[i]? = some (.vv v)) : σ[i]? = some (some v) := by
  obtain ⟨o, e, rfl⟩ := E.get h
  exact e
theorem En.ow (E : En K H0 Hs0 pn H Hs σ Γ) {i : Nat} {ds : List PyData} (h : Γ[i]? = some (.ow ds)) : ∃ l xs, σ[i]? = some (some (.ref l)) ∧ H l = some (.lst xs) ∧ DqAll K Hs xs ds ∧ Hs l = none ∧ H0 l = none := by
  obtain ⟨o, e, l, xs, rfl, p⟩ := E.get h
  exact ⟨l, xs, e, p⟩
theorem En.ol (E : En K H0 Hs0 pn H Hs σ Γ) {i : Nat} {l : Addr} {ds : List PyData} (h : Γ[i]? = some (.ol l ds)) : ∃ xs, σ[i]? = some (some (.ref l)) ∧ H l = some (.lst xs) ∧ DqAll K Hs xs ds ∧ Hs l = none ∧ H0 l = none := by
  obtain ⟨o, e, xs, rfl, p⟩ := E.get h
  exact ⟨xs, e, p⟩
theorem En.od (E : En K H0 Hs0 pn H Hs σ Γ) {i : Nat} {es : List (PyData × PyData)} (h : Γ[i]? = some (.od es)) : ∃ l kvs, σ[i]? = some (some (.ref l)) ∧ H l = some (.dK kvs) ∧ DqKV K Hs kvs es ∧ Hs l = none ∧ H0 l = none := by
  obtain ⟨o, e, l, xs, rfl, p⟩ := E.get h
  exact ⟨l, xs, e, p⟩
theorem En.own (E : En K H0 Hs0 pn H Hs σ Γ) {i : Nat} {s : Sl} (h : Γ[i]? = some s) (w : s.isOwn = true) : ∃ l u, σ[i]? = some (some (.ref l)) ∧ H l = some u ∧ (∀ ps, u ≠ .tbl ps) ∧ Hs l = none ∧ H0 l = none := by
  obtain ⟨o, e, p⟩ := E.get h
  obtain ⟨l, u, rfl, q⟩ := own_at p w
  exact ⟨l, u, e, q⟩
theorem En.lt (E : En K H0 Hs0 pn H Hs σ Γ) {i : Nat} (h : i < Γ.length) : i < σ.length := by rw [E.len]; exact h
theorem set_self {α : Type} {L : List α} {i : Nat} {x y : α} (h : (L.set i x)[i]? = some y) : y = x := by
  obtain ⟨b, e⟩ := List.getElem?_eq_some_iff.mp h
  rw [List.getElem_set_self] at e
  exact e.symm
/-- a slot is stored: shared data, nothing known, a value -/
theorem En.set (E : En K H0 Hs0 pn H Hs σ Γ) (i : Nat) {s : Sl} {o : Option V} (h : SlOk K H0 H Hs s o) (hs : s.isOwn = false) : En K H0 Hs0 pn H Hs (σ.set i o) (Γ.set i s) := by
  refine ⟨E.gr, E.pin, by rw [List.length_set, List.length_set]; exact E.len, fun j t q h1 h2 => ?_, fun j k t u l h1 h2 w1 w2 h3 h4 => ?_, E.tab⟩
  · by_cases hj : i = j
    · subst hj
      cases set_self h1
      cases set_self h2
      exact h
    · rw [List.getElem?_set_ne hj] at h1 h2
      exact E.at_ j t q h1 h2
  · have nj : ∀ j t, (Γ.set i s)[j]? = some t → t.isOwn = true → i ≠ j := fun j t e w z => by
      subst z
      cases set_self e
      rw [hs] at w
      cases w
    have n1 := nj j t h1 w1
    have n2 := nj k u h2 w2
    rw [List.getElem?_set_ne n1] at h1 h3
    rw [List.getElem?_set_ne n2] at h2 h4
    exact E.sep j k t u l h1 h2 w1 w2 h3 h4
theorem En.setSh (E : En K H0 Hs0 pn H Hs σ Γ) (i : Nat) {v : V} {d : PyData} (h : Dq K Hs v d) : En K H0 Hs0 pn H Hs (σ.set i (some v)) (Γ.set i (.sh d)) := E.set i (s := .sh d) (o := some v) ⟨v, rfl, h⟩ rfl
theorem En.setUn (E : En K H0 Hs0 pn H Hs σ Γ) (i : Nat) {o : Option V} : En K H0 Hs0 pn H Hs (σ.set i o) (Γ.set i .un) := E.set i (s := .un) (o := o) trivial rfl
/-- a new object of one's own is stored -/
theorem En.setOwn (E : En K H0 Hs0 pn H Hs σ Γ) (i : Nat) {l : Addr} {s : Sl} (h : SlOk K H0 H Hs s (some (.ref l)))
    (ne : ∀ j t, Γ[j]? = some t → t.isOwn = true → j ≠ i → σ[j]? ≠ some (some (.ref l))) : En K H0 Hs0 pn H Hs (σ.set i (some (.ref l))) (Γ.set i s) := by
  refine ⟨E.gr, E.pin, by rw [List.length_set, List.length_set]; exact E.len, fun j t q h1 h2 => ?_, fun j k t u l' h1 h2 w1 w2 h3 h4 => ?_, E.tab⟩
  · by_cases hj : i = j
    · subst hj
      cases set_self h1
      cases set_self h2
      exact h
    · rw [List.getElem?_set_ne hj] at h1 h2
      exact E.at_ j t q h1 h2
  · have is_l : ∀ {m : Nat}, i = m → (σ.set i (some (.ref l)))[m]? = some (some (.ref l')) → l' = l := fun {m} e h => by
      subst e
      cases set_self h
      rfl
    by_cases hj : i = j
    · by_cases hk : i = k
      · exact hj.symm.trans hk
      · have e := is_l hj h3
        subst e
        rw [List.getElem?_set_ne hk] at h2 h4
        exact absurd h4 (ne k u h2 w2 (Ne.symm hk))
    · by_cases hk : i = k
      · have e := is_l hk h4
        subst e
        rw [List.getElem?_set_ne hj] at h1 h3
        exact absurd h3 (ne j t h1 w1 (Ne.symm hj))
      · rw [List.getElem?_set_ne hj] at h1 h3
        rw [List.getElem?_set_ne hk] at h2 h4
        exact E.sep j k t u l' h1 h2 w1 w2 h3 h4
/-- .. an object that the heap did not know just before -/
theorem En.setNew {H1 Hs1 : Hp} (E : En K H0 Hs0 pn H1 Hs1 σ Γ) (g : Gr H1 Hs1 H Hs) (i : Nat) {l : Addr} {s : Sl} (n : H1 l = none) (h : SlOk K H0 H Hs s (some (.ref l))) : En K H0 Hs0 pn H Hs (σ.set i (some (.ref l))) (Γ.set i s) :=
  (E.grow g).setOwn i h fun j t hj w _ hσ => by
    obtain ⟨l', u, e1, h1, _⟩ := E.own hj w
    rw [hσ] at e1
    cases e1
    rw [n] at h1
    cases h1
/-- the object of one's own at slot i turns into another -/
theorem En.mutOwn (E : En K H0 Hs0 pn H Hs σ Γ) {i : Nat} {l : Addr} {s s' : Sl} {o : HO} (hi : Γ[i]? = some s) (w : s.isOwn = true) (hl : σ[i]? = some (some (.ref l))) (h : SlOk K H0 (upd H l o) Hs s' (some (.ref l))) : En K H0 Hs0 pn (upd H l o) Hs σ (Γ.set i s') := by
  obtain ⟨l', u, e1, h1, nt, h3, h4⟩ := E.own hi w
  rw [hl] at e1
  cases e1
  refine ⟨⟨E.gr.ext.mut h4, E.gr.exs, fun a u e => ?_, E.gr.new⟩, E.pin, by rw [List.length_set]; exact E.len, fun j t q k1 k2 => ?_, fun j k t t' l' k1 k2 w1 w2 k3 k4 => ?_, E.tab⟩
  · rw [upd_ne (ne_of_none e h3)]
    exact E.sub a u e
  · by_cases hj : i = j
    · subst hj
      cases set_self k1
      rw [hl] at k2
      cases k2
      exact h
    · rw [List.getElem?_set_ne hj] at k1
      refine (E.at_ j t q k1 k2).move (Ext.refl _) fun m u' w' e2 g1 nt' g3 => ⟨?_, g3⟩
      have : m ≠ l := fun z => by
        subst z
        subst e2
        exact hj (E.sep i j _ _ _ hi k1 w w' hl k2)
      rw [upd_ne this]
      exact g1
  · have fix : ∀ {m : Nat} {t : Sl}, (Γ.set i s')[m]? = some t → t.isOwn = true → ∃ t', Γ[m]? = some t' ∧ t'.isOwn = true := fun {m t} e wt => by
      by_cases hm : i = m
      · subst hm
        exact ⟨_, hi, w⟩
      · rw [List.getElem?_set_ne hm] at e
        exact ⟨_, e, wt⟩
    obtain ⟨_, q1, z1⟩ := fix k1 w1
    obtain ⟨_, q2, z2⟩ := fix k2 w2
    exact E.sep j k _ _ _ q1 q2 z1 z2 k3 k4
/-- the list of one's own at slot i turns into another -/
theorem En.mut (E : En K H0 Hs0 pn H Hs σ Γ) {i : Nat} {l : Addr} {xs : List V} {ds es : List PyData} (hi : Γ[i]? = some (.ow ds)) (hl : σ[i]? = some (some (.ref l))) (hd : DqAll K Hs xs es) : En K H0 Hs0 pn (upd H l (.lst xs)) Hs σ (Γ.set i (.ow es)) := by
  obtain ⟨l', ys, e1, h1, h2, h3, h4⟩ := E.ow hi
  rw [hl] at e1
  cases e1
  exact E.mutOwn hi rfl hl ⟨l, xs, rfl, upd_same, hd, h3, h4⟩
theorem En.mutL (E : En K H0 Hs0 pn H Hs σ Γ) {i : Nat} {l : Addr} {xs : List V} {ds es : List PyData} (hi : Γ[i]? = some (.ol l ds)) (hd : DqAll K Hs xs es) : En K H0 Hs0 pn (upd H l (.lst xs)) Hs σ (Γ.set i (.ol l es)) := by
  obtain ⟨ys, e1, h1, h2, h3, h4⟩ := E.ol hi
  exact E.mutOwn hi rfl e1 ⟨xs, rfl, upd_same, hd, h3, h4⟩
theorem En.mutD (E : En K H0 Hs0 pn H Hs σ Γ) {i : Nat} {l : Addr} {kvs : List (Key × V)} {es es' : List (PyData × PyData)} (hi : Γ[i]? = some (.od es)) (hl : σ[i]? = some (some (.ref l))) (hd : DqKV K Hs kvs es') : En K H0 Hs0 pn (upd H l (.dK kvs)) Hs σ (Γ.set i (.od es')) := by
  obtain ⟨l', ys, e1, h1, h2, h3, h4⟩ := E.od hi
  rw [hl] at e1
  cases e1
  exact E.mutOwn hi rfl hl ⟨l, kvs, rfl, upd_same, hd, h3, h4⟩
/-- an object of one's own is given free: shared from now on -/
theorem En.freeOwn (E : En K H0 Hs0 pn H Hs σ Γ) {i : Nat} {l : Addr} {u : HO} {s s' : Sl} (hi : Γ[i]? = some s) (w : s.isOwn = true) (hl : σ[i]? = some (some (.ref l))) (h1 : H l = some u) (ws : s'.isOwn = false) (h : SlOk K H0 H (upd Hs l u) s' (some (.ref l))) :
    Gr H0 Hs0 H (upd Hs l u) ∧ Ext Hs (upd Hs l u) ∧ En K H0 Hs0 pn H (upd Hs l u) σ (Γ.set i s') := by
  obtain ⟨l', u', e1, h1', nt, h3, h4⟩ := E.own hi w
  rw [hl] at e1
  cases e1
  have g : Gr H0 Hs0 H (upd Hs l u) := by
    refine ⟨E.gr.ext, E.gr.exs.trans (Ext.new h3), fun a u e => ?_, fun a e => ?_⟩
    · by_cases ha : a = l
      · subst ha; rw [upd_same] at e; rw [h1]; exact e
      · rw [upd_ne ha] at e; exact E.sub a u e
    · by_cases ha : a = l
      · subst ha; exact .inr h4
      · rw [upd_ne ha] at e; exact E.gr.new a e
  refine ⟨g, Ext.new h3, g, E.pin.trans (Ext.new h3), by rw [List.length_set]; exact E.len, fun j t q k1 k2 => ?_, fun j k t t' l' k1 k2 w1 w2 k3 k4 => ?_, E.tab.mono (Ext.new h3)⟩
  · by_cases hj : i = j
    · subst hj
      cases set_self k1
      rw [hl] at k2
      cases k2
      exact h
    · rw [List.getElem?_set_ne hj] at k1
      refine (E.at_ j t q k1 k2).move (Ext.new h3) fun m u' w' e2 g1 nt' g3 => ⟨g1, ?_⟩
      have : m ≠ l := fun z => by
        subst z
        subst e2
        exact hj (E.sep i j _ _ _ hi k1 w w' hl k2)
      rw [upd_ne this]
      exact g3
  · have fix : ∀ {m : Nat} {t : Sl}, (Γ.set i s')[m]? = some t → t.isOwn = true → Γ[m]? = some t := fun {m t} e wt => by
      by_cases hm : i = m
      · subst hm
        cases set_self e
        rw [ws] at wt
        cases wt
      · rw [List.getElem?_set_ne hm] at e
        exact e
    exact E.sep j k _ _ _ (fix k1 w1) (fix k2 w2) w1 w2 k3 k4
theorem En.free (E : En K H0 Hs0 pn H Hs σ Γ) {i : Nat} {ds : List PyData} (hi : Γ[i]? = some (.ow ds)) : ∃ Hs', Gr H0 Hs0 H Hs' ∧ Ext Hs Hs' ∧ En K H0 Hs0 pn H Hs' σ (Γ.set i (.sh (.list ds))) := by
  obtain ⟨l, xs, hl, h1, h2, h3, h4⟩ := E.ow hi
  exact ⟨_, E.freeOwn hi rfl hl h1 rfl ⟨.ref l, rfl, .lst (SqL.of upd_same) (h2.mono (Ext.new h3))⟩⟩
theorem En.freeD (E : En K H0 Hs0 pn H Hs σ Γ) {i : Nat} {es : List (PyData × PyData)} (hi : Γ[i]? = some (.od es)) : ∃ Hs', Gr H0 Hs0 H Hs' ∧ Ext Hs Hs' ∧ En K H0 Hs0 pn H Hs' σ (Γ.set i (.sh (.dict es))) := by
  obtain ⟨l, xs, hl, h1, h2, h3, h4⟩ := E.od hi
  exact ⟨_, E.freeOwn hi rfl hl h1 rfl ⟨.ref l, rfl, .dic (.inl upd_same) (h2.mono (Ext.new h3))⟩⟩
/-! ### an own list lent to a call that may change it -/
def del (H : Hp) (l : Addr) : Hp := fun a => if a = l then none else H a
theorem del_same {l : Addr} : del H l l = none := if_pos rfl
theorem del_ne {l a : Addr} (h : a ≠ l) : del H l a = H a := if_neg h
theorem En.call (E : En K H0 Hs0 pn H Hs σ Γ) {i : Nat} {l : Addr} {ds es : List PyData} {ys : List V} (hi : Γ[i]? = some (.ol l ds)) (g : Gr (del H l) Hs H' Hs') (hl : H' l = some (.lst ys)) (hn : Hs' l = none) (hd : DqAll K Hs' ys es) : En K H0 Hs0 pn H' Hs' σ (Γ.set i (.ol l es)) := by
  obtain ⟨xs, e1, h1, h2, h3, h4⟩ := E.ol hi
  have x0 : Ext H0 (del H l) := fun a o h => by
    have ha : a ≠ l := ne_of_none h h4
    rw [del_ne ha]
    exact E.gr.ext a o h
  refine ⟨⟨x0.trans g.ext, E.gr.exs.trans g.exs, g.sub, fun a h => ?_⟩, E.pin.trans g.exs, by rw [List.length_set]; exact E.len, fun j t q k1 k2 => ?_, fun j k t t' l' k1 k2 w1 w2 k3 k4 => ?_, E.tab.mono g.exs⟩
  · have ha : a ≠ l := fun z => by subst z; exact h hn
    rcases g.new a h with z | z
    · exact E.gr.new a z
    · rw [del_ne ha] at z
      exact .inr (E.gr.ext.no z)
  · by_cases hj : i = j
    · subst hj
      cases set_self k1
      rw [e1] at k2
      cases k2
      exact ⟨ys, rfl, hl, hd, hn, h4⟩
    · rw [List.getElem?_set_ne hj] at k1
      refine (E.at_ j t q k1 k2).move g.exs fun m u' w' e2 g1 nt' g3 => ?_
      have hm : m ≠ l := fun z => by
        subst z
        subst e2
        exact hj (E.sep i j _ _ _ hi k1 rfl w' e1 k2)
      refine ⟨ext_own g.ext (by rw [del_ne hm]; exact g1) nt', ?_⟩
      cases q' : Hs' m with
      | none => rfl
      | some u2 =>
        rcases g.new m (by rw [q']; simp) with z | z
        · exact absurd g3 z
        · rw [del_ne hm, g1] at z; cases z
  · have fix : ∀ {m : Nat} {t : Sl}, (Γ.set i (.ol l es))[m]? = some t → t.isOwn = true → ∃ t', Γ[m]? = some t' ∧ t'.isOwn = true := fun {m t} e wt => by
      by_cases hm : i = m
      · subst hm
        exact ⟨_, hi, rfl⟩
      · rw [List.getElem?_set_ne hm] at e
        exact ⟨_, e, wt⟩
    obtain ⟨_, q1, z1⟩ := fix k1 w1
    obtain ⟨_, q2, z2⟩ := fix k2 w2
    exact E.sep j k _ _ _ q1 q2 z1 z2 k3 k4
end
end Dl
set_option Elab.async false
set_option linter.all false
set_option maxRecDepth 100000
set_option maxHeartbeats 2000000
namespace Dl
open PySem L2
variable [Tabs]
/-- a def's entry: the heap, the part of it in which its arguments lie -/
structure Bs where
  H0 : Hp
  Hs0 : Hp
  low : Hp
abbrev Enb (K : PySem.W.Frag) (B : Bs) (H Hs : Hp) (σ : St) (Γ : Gm) : Prop := En K B.H0 B.Hs0 B.low H Hs σ Γ
def DE (K : PySem.W.Frag) (B : Bs) (t : TE) (Γ : Gm) (d : PyData) : Prop := ∀ H Hs σ, Enb K B H Hs σ Γ → ∀ Q : VK, (∀ v H' Hs', Gr H Hs H' Hs' → Dq K Hs' v d → Q v H') → t σ H Q
def DT (K : PySem.W.Frag) (B : Bs) (t : TT) (Γ : Gm) (b : Bool) : Prop := ∀ H Hs σ, Enb K B H Hs σ Γ → ∀ Q : Bool → Hp → Prop, (∀ H' Hs', Gr H Hs H' Hs' → Q b H') → t σ H Q
def DA (K : PySem.W.Frag) (B : Bs) (t : TA) (Γ : Gm) (ds : List PyData) : Prop := ∀ H Hs σ, Enb K B H Hs σ Γ → ∀ Q : List V → Hp → Prop, (∀ vs H' Hs', Gr H Hs H' Hs' → DqAll K Hs' vs ds → Q vs H') → t σ H Q
/-- a new list -/
def DL (K : PySem.W.Frag) (B : Bs) (t : TE) (Γ : Gm) (ds : List PyData) : Prop := ∀ H Hs σ, Enb K B H Hs σ Γ → ∀ Q : VK, (∀ p xs H' Hs', Gr H Hs H' Hs' → H p = none → H' p = some (.lst xs) → Hs' p = none → DqAll K Hs' xs ds → Q (.ref p) H') → t σ H Q
/-- a list or a tuple to be read, shared or one's own -/
def DV (K : PySem.W.Frag) (B : Bs) (t : TE) (Γ : Gm) (ds : List PyData) : Prop := ∀ H Hs σ, Enb K B H Hs σ Γ → ∀ Q : VK, (∀ a xs H' Hs', Gr H Hs H' Hs' → (SqL K H' a xs ∨ SqT K H' a xs) → DqAll K Hs' xs ds → Q (.ref a) H') → t σ H Q
section
variable {K : PySem.W.Frag} {B : Bs} {H Hs H' Hs' : Hp} {σ : St} {Γ : Gm} {t ta tb te : TE} {d : PyData} {ds : List PyData}
theorem sub_l {a : Addr} {xs : List V} (s : ∀ a o, Hs a = some o → H a = some o) (h : SqL K Hs a xs) : SqL K H a xs := by
  rcases h with (h | ⟨o, h⟩) | h
  · exact .inl (.inl (s _ _ h))
  · exact .inl (.inr ⟨o, s _ _ h⟩)
  · exact .inr h
theorem sub_t {a : Addr} {xs : List V} (s : ∀ a o, Hs a = some o → H a = some o) (h : SqT K Hs a xs) : SqT K H a xs := by
  rcases h with (h | ⟨o, h⟩) | h
  · exact .inl (.inl (s _ _ h))
  · exact .inl (.inr ⟨o, s _ _ h⟩)
  · exact .inr h
theorem sub_rd {a : Addr} {u : HO} (s : ∀ a o, Hs a = some o → H a = some o) (h : Rd Hs a u) : Rd H a u := by
  rcases h with h | ⟨o, h⟩
  · exact .inl (s _ _ h)
  · exact .inr ⟨o, s _ _ h⟩
theorem dp_sub (s : ∀ a o, Hs a = some o → H a = some o) {v : V} {d : PyData} (h : Dq K Hs v d) : Dq K H v d := h.map (up_sub s)
theorem dpAll_sub (s : ∀ a o, Hs a = some o → H a = some o) {vs : List V} {ds : List PyData} (h : DqAll K Hs vs ds) : DqAll K H vs ds := h.map (up_sub s)
/-! ### expressions -/
theorem de_var {i : Nat} (h : Γ[i]? = some (.sh d)) : DE K B (tVar i) Γ d := fun H Hs σ E Q q => by
  obtain ⟨v, e, p⟩ := E.sh h
  exact ⟨v, e, q v H Hs (Gr.refl E.sub) p⟩
theorem de_int {i : Int} : DE K B (tC (.int i)) Γ (.int i) := fun H Hs σ E Q q => q _ H Hs (Gr.refl E.sub) (.int i)
theorem de_str {x : Str} : DE K B (tC (.str x)) Γ (.str x) := fun H Hs σ E Q q => q _ H Hs (Gr.refl E.sub) (.str x)
theorem de_bl {b : Bool} : DE K B (tC (.bl b)) Γ (.bool b) := fun H Hs σ E Q q => q _ H Hs (Gr.refl E.sub) (.bl b)
theorem de_non : DE K B (tC .non) Γ .none := fun H Hs σ E Q q => q _ H Hs (Gr.refl E.sub) .non
theorem de_of_dl (h : DL K B t Γ ds) : DE K B t Γ (.list ds) := fun H Hs σ E Q q => h H Hs σ E _ fun p xs H' Hs' g n e s a => by
  have x : Ext Hs' (upd Hs' p (.lst xs)) := Ext.new s
  refine q (.ref p) H' (upd Hs' p (.lst xs)) ⟨g.ext, g.exs.trans x, fun b u z => ?_, fun b z => ?_⟩ (.lst (SqL.of upd_same) (a.mono x))
  · by_cases hb : b = p
    · subst hb; rw [upd_same] at z; rw [e]; exact z
    · rw [upd_ne hb] at z; exact g.sub b u z
  · by_cases hb : b = p
    · subst hb; exact .inr n
    · rw [upd_ne hb] at z; exact g.new b z
theorem dv_l (h : DE K B t Γ (.list ds)) : DV K B t Γ ds := fun H Hs σ E Q q => h H Hs σ E _ fun v H' Hs' g p => by
  cases p with
  | lst h a => exact q _ _ H' Hs' g (.inl (sub_l g.sub h)) a
theorem dv_t (h : DE K B t Γ (.tuple ds)) : DV K B t Γ ds := fun H Hs σ E Q q => h H Hs σ E _ fun v H' Hs' g p => by
  cases p with
  | tup h a => exact q _ _ H' Hs' g (.inr (sub_t g.sub h)) a
theorem dv_o {i : Nat} (h : Γ[i]? = some (.ow ds)) : DV K B (tVar i) Γ ds := fun H Hs σ E Q q => by
  obtain ⟨l, xs, e, h1, h2, _, _⟩ := E.ow h
  exact ⟨.ref l, e, q l xs H Hs (Gr.refl E.sub) (.inl (SqL.of h1)) h2⟩
/-- what a two-place operation on values is worth on data -/
def OpD (K : PySem.W.Frag) (r : R2) (a b d : PyData) : Prop := ∀ H Hs x y, (∀ a o, Hs a = some o → H a = some o) → Dq K Hs x a → Dq K Hs y b → ∀ Q : VK, (∀ v H' Hs', Gr H Hs H' Hs' → Dq K Hs' v d → Q v H') → r x y H Q
theorem de_op {r : R2} {a b : PyData} (ha : DE K B ta Γ a) (hb : DE K B tb Γ b) (hr : OpD K r a b d) : DE K B (tOp r ta tb) Γ d := fun H Hs σ E Q q =>
  ha H Hs σ E _ fun v H1 Hs1 g1 p1 => hb H1 Hs1 σ (E.grow g1) _ fun u H2 Hs2 g2 p2 => hr H2 Hs2 v u g2.sub (p1.mono g2.exs) p2 Q fun w H3 Hs3 g3 p3 => q w H3 Hs3 ((g1.trans g2).trans g3) p3
def UnD (K : PySem.W.Frag) (r : V → Hp → VK → Prop) (a d : PyData) : Prop := ∀ H Hs x, (∀ a o, Hs a = some o → H a = some o) → Dq K Hs x a → ∀ Q : VK, (∀ v H' Hs', Gr H Hs H' Hs' → Dq K Hs' v d → Q v H') → r x H Q
theorem de_un {r : V → Hp → VK → Prop} {a : PyData} (ha : DE K B ta Γ a) (hr : UnD K r a d) : DE K B (tUn r ta) Γ d := fun H Hs σ E Q q =>
  ha H Hs σ E _ fun v H1 Hs1 g1 p1 => hr H1 Hs1 v g1.sub p1 Q fun w H2 Hs2 g2 p2 => q w H2 Hs2 (g1.trans g2) p2
/-- a call of a built-in, on its arguments -/
def CbD (K : PySem.W.Frag) (r : List V → Hp → VK → Prop) (as : List PyData) (d : PyData) : Prop := ∀ H Hs xs, (∀ a o, Hs a = some o → H a = some o) → DqAll K Hs xs as → ∀ Q : VK, (∀ v H' Hs', Gr H Hs H' Hs' → Dq K Hs' v d → Q v H') → r xs H Q
theorem de_cb {r : List V → Hp → VK → Prop} {ta : TA} {as : List PyData} (ha : DA K B ta Γ as) (hr : CbD K r as d) : DE K B (tCB r ta) Γ d := fun H Hs σ E Q q =>
  ha H Hs σ E _ fun v H1 Hs1 g1 p1 => hr H1 Hs1 v g1.sub p1 Q fun w H2 Hs2 g2 p2 => q w H2 Hs2 (g1.trans g2) p2
/-- .. that makes a new list -/
def CbL (K : PySem.W.Frag) (r : List V → Hp → VK → Prop) (as ds : List PyData) : Prop := ∀ H Hs xs, (∀ a o, Hs a = some o → H a = some o) → DqAll K Hs xs as → ∀ Q : VK, (∀ p zs, H p = none → DqAll K Hs zs ds → Q (.ref p) (upd H p (.lst zs))) → r xs H Q
theorem dl_new {H1 Hs1 : Hp} {Q : VK} {p : Addr} {zs : List V} (g : Gr H Hs H1 Hs1) (q : ∀ p xs H' Hs', Gr H Hs H' Hs' → H p = none → H' p = some (.lst xs) → Hs' p = none → DqAll K Hs' xs ds → Q (.ref p) H')
    (n : H1 p = none) (a : DqAll K Hs1 zs ds) : Q (.ref p) (upd H1 p (.lst zs)) := q p zs _ Hs1 (g.keep n) (g.ext.no n) upd_same (g.hsn n) a
theorem dl_cb {r : List V → Hp → VK → Prop} {ta : TA} {as : List PyData} (ha : DA K B ta Γ as) (hr : CbL K r as ds) : DL K B (tCB r ta) Γ ds := fun H Hs σ E Q q =>
  ha H Hs σ E _ fun v H1 Hs1 g1 p1 => hr H1 Hs1 v g1.sub p1 Q fun p zs n a => dl_new g1 q n a
theorem da_nil : DA K B tNil Γ [] := fun H Hs σ E Q q => q [] H Hs (Gr.refl E.sub) .nil
theorem da_cons {ta : TA} (h : DE K B te Γ d) (hr : DA K B ta Γ ds) : DA K B (tCons te ta) Γ (d :: ds) := fun H Hs σ E Q q =>
  h H Hs σ E _ fun v H1 Hs1 g1 p1 => hr H1 Hs1 σ (E.grow g1) _ fun vs H2 Hs2 g2 p2 => q (v :: vs) H2 Hs2 (g1.trans g2) (.cons (p1.mono g2.exs) p2)
theorem de_tup {ta : TA} (h : DA K B ta Γ ds) (hl : ds.length ≤ sizeLine) : DE K B (tTup ta) Γ (.tuple ds) := fun H Hs σ E Q q =>
  h H Hs σ E _ fun vs H1 Hs1 g1 p1 => ⟨by rw [p1.length]; exact hl, fun p n => q (.ref p) _ (upd Hs1 p (.tup vs)) (g1.share n) (.tup (SqT.of upd_same) (p1.mono (Ext.new (g1.hsn n))))⟩
theorem dl_lst {ta : TA} (h : DA K B ta Γ ds) (hl : ds.length ≤ sizeLine) : DL K B (tLst ta) Γ ds := fun H Hs σ E Q q =>
  h H Hs σ E _ fun vs H1 Hs1 g1 p1 => ⟨by rw [p1.length]; exact hl, fun p n => dl_new g1 q n p1⟩
/-! ### tests -/
variable {tt tu : TT} {b c : Bool}
theorem dt_B (h : DE K B t Γ (.bool b)) : DT K B (tB t) Γ b := fun H Hs σ E Q q => h H Hs σ E _ fun v H' Hs' g p => by
  cases p
  exact ⟨b, rfl, q H' Hs' g⟩
theorem dt_not (h : DT K B tt Γ b) : DT K B (tNot tt) Γ (!b) := fun H Hs σ E Q q => h H Hs σ E _ fun H' Hs' g => q H' Hs' g
theorem dt_and (h1 : DT K B tt Γ b) (h2 : b = true → DT K B tu Γ c) : DT K B (tAnd tt tu) Γ (b && c) := fun H Hs σ E Q q => h1 H Hs σ E _ fun H1 Hs1 g1 => by
  cases b with
  | true =>
    show tu σ H1 Q
    exact h2 rfl H1 Hs1 σ (E.grow g1) Q fun H2 Hs2 g2 => q H2 Hs2 (g1.trans g2)
  | false =>
    show Q false H1
    exact q H1 Hs1 g1
theorem dt_or (h1 : DT K B tt Γ b) (h2 : b = false → DT K B tu Γ c) : DT K B (tOr tt tu) Γ (b || c) := fun H Hs σ E Q q => h1 H Hs σ E _ fun H1 Hs1 g1 => by
  cases b with
  | true =>
    show Q true H1
    exact q H1 Hs1 g1
  | false =>
    show tu σ H1 Q
    exact h2 rfl H1 Hs1 σ (E.grow g1) Q fun H2 Hs2 g2 => q H2 Hs2 (g1.trans g2)
theorem de_andV {x y : Bool} (h1 : DE K B ta Γ (.bool x)) (h2 : x = true → DE K B tb Γ (.bool y)) : DE K B (tAndV ta tb) Γ (.bool (x && y)) := fun H Hs σ E Q q => h1 H Hs σ E _ fun v H1 Hs1 g1 p1 => by
  cases p1
  refine ⟨x, rfl, ?_⟩
  cases x with
  | true =>
    show tb σ H1 Q
    exact h2 rfl H1 Hs1 σ (E.grow g1) Q fun u H2 Hs2 g2 p2 => q u H2 Hs2 (g1.trans g2) p2
  | false =>
    show Q (.bl false) H1
    exact q _ H1 Hs1 g1 (.bl _)
theorem de_orV {x y : Bool} (h1 : DE K B ta Γ (.bool x)) (h2 : x = false → DE K B tb Γ (.bool y)) : DE K B (tOrV ta tb) Γ (.bool (x || y)) := fun H Hs σ E Q q => h1 H Hs σ E _ fun v H1 Hs1 g1 p1 => by
  cases p1
  refine ⟨x, rfl, ?_⟩
  cases x with
  | true =>
    show Q (.bl true) H1
    exact q _ H1 Hs1 g1 (.bl _)
  | false =>
    show tb σ H1 Q
    exact h2 rfl H1 Hs1 σ (E.grow g1) Q fun u H2 Hs2 g2 p2 => q u H2 Hs2 (g1.trans g2) p2
theorem de_notV {x : Bool} (h1 : DE K B ta Γ (.bool x)) : DE K B (tNotV ta) Γ (.bool (!x)) := fun H Hs σ E Q q => h1 H Hs σ E _ fun v H1 Hs1 g1 p1 => by
  cases p1
  exact ⟨x, rfl, q _ H1 Hs1 g1 (.bl _)⟩
theorem de_if (h : DT K B tt Γ b) (h1 : b = true → DE K B ta Γ d) (h2 : b = false → DE K B tb Γ d) : DE K B (tIf tt ta tb) Γ d := fun H Hs σ E Q q => h H Hs σ E _ fun H1 Hs1 g1 => by
  cases b with
  | true =>
    show ta σ H1 Q
    exact h1 rfl H1 Hs1 σ (E.grow g1) Q fun u H2 Hs2 g2 p2 => q u H2 Hs2 (g1.trans g2) p2
  | false =>
    show tb σ H1 Q
    exact h2 rfl H1 Hs1 σ (E.grow g1) Q fun u H2 Hs2 g2 p2 => q u H2 Hs2 (g1.trans g2) p2
/-! ### calls of own defs -/
/-- a def by a relation of data: arguments, value -/
def spR (K : PySem.W.Frag) (R : List PyData → PyData → Prop) : Sp := fun vs H Q _ => ∃ ds d Hs, (∀ a o, Hs a = some o → H a = some o) ∧ TabsIn Hs ∧ DqAll K Hs vs ds ∧ R ds d ∧ ∀ v H' Hs', Gr H Hs H' Hs' → Dq K Hs' v d → Q v H'
theorem de_call {R : List PyData → PyData → Prop} {E0 : XK} {ta : TA} {as : List PyData} (ha : DA K B ta Γ as) (hr : R as d) : DE K B (tCall (spR K R) [] E0 ta) Γ d := fun H Hs σ E Q q =>
  ha H Hs σ E _ fun vs H1 Hs1 g1 p1 => ⟨as, d, Hs1, g1.sub, E.tab.mono g1.exs, by rw [List.append_nil]; exact p1, hr, fun v H2 Hs2 g2 p2 => q v H2 Hs2 (g1.trans g2) p2⟩
/-- a def that gives a fresh list -/
def spRO (K : PySem.W.Frag) (R : List PyData → PyData → Prop) : Sp := fun vs H Q _ => ∃ ds es Hs, (∀ a o, Hs a = some o → H a = some o) ∧ TabsIn Hs ∧ DqAll K Hs vs ds ∧ R ds (.list es) ∧ ∀ p xs H' Hs', Gr H Hs H' Hs' → H p = none → H' p = some (.lst xs) → Hs' p = none → DqAll K Hs' xs es → Q (.ref p) H'
theorem dl_call {R : List PyData → PyData → Prop} {E0 : XK} {ta : TA} {as : List PyData} (ha : DA K B ta Γ as) (hr : R as (.list ds)) : DL K B (tCall (spRO K R) [] E0 ta) Γ ds := fun H Hs σ E Q q =>
  ha H Hs σ E _ fun vs H1 Hs1 g1 p1 => ⟨as, ds, Hs1, g1.sub, E.tab.mono g1.exs, by rw [List.append_nil]; exact p1, hr, fun p xs H2 Hs2 g2 n e s a => q p xs H2 Hs2 (g1.trans g2) (g1.ext.no n) e s a⟩
/-! ### statements -/
inductive Out where
  | nx (Γ : Gm) | rt (d : PyData) | bk (Γ : Gm) | ct (Γ : Gm) | ro (ds : List PyData) | rm (l : Addr) (es : List PyData) (d : PyData)
def Fits (K : PySem.W.Frag) (B : Bs) (D : Ends) : Out → Prop
  | .nx Γ => ∀ H Hs σ, Enb K B H Hs σ Γ → D.nx σ H
  | .bk Γ => ∀ H Hs σ, Enb K B H Hs σ Γ → D.bk σ H
  | .ct Γ => ∀ H Hs σ, Enb K B H Hs σ Γ → D.ct σ H
  | .rt d => ∀ v H Hs, Gr B.H0 B.Hs0 H Hs → Dq K Hs v d → D.rt v H
  | .ro ds => ∀ p xs H Hs, Gr B.H0 B.Hs0 H Hs → B.H0 p = none → H p = some (.lst xs) → Hs p = none → DqAll K Hs xs ds → D.rt (.ref p) H
  | .rm l es d => ∀ v ys H Hs, Gr B.H0 B.Hs0 H Hs → H l = some (.lst ys) → Hs l = none → DqAll K Hs ys es → Dq K Hs v d → D.rt v H
def DS (K : PySem.W.Frag) (B : Bs) (t : TS) (Γ : Gm) (P : Out → Prop) : Prop := ∀ (D : Ends) H Hs σ, Enb K B H Hs σ Γ → (∀ o, P o → Fits K B D o) → t D σ H
/-- what follows a statement -/
def thenS (K : PySem.W.Frag) (B : Bs) (u : TS) (P : Out → Prop) : Out → Prop
  | .nx Γ => DS K B u Γ P
  | o => P o
variable {P : Out → Prop} {u ts : TS}
theorem ds_seq (h : DS K B ts Γ (thenS K B u P)) : DS K B (tSeq ts u) Γ P := fun D H Hs σ E q => h { D with nx := u D } H Hs σ E fun o ho => by
  cases o with
  | nx Γ' => exact fun H' Hs' σ' E' => ho D H' Hs' σ' E' q
  | rt d => exact q _ ho
  | bk Γ' => exact q _ ho
  | ct Γ' => exact q _ ho
  | ro ds => exact q _ ho
  | rm l es d => exact q _ ho
theorem ds_next (h : P (.nx Γ)) : DS K B tNext Γ P := fun D H Hs σ E q => q _ h H Hs σ E
theorem ds_brk (h : P (.bk Γ)) : DS K B tBreak Γ P := fun D H Hs σ E q => q _ h H Hs σ E
theorem ds_cont (h : P (.ct Γ)) : DS K B tCont Γ P := fun D H Hs σ E q => q _ h H Hs σ E
theorem ds_asg {i : Nat} (h : DE K B te Γ d) (k : P (.nx (Γ.set i (.sh d)))) : DS K B (tAsg te (gName i)) Γ P := fun D H Hs σ E q => h H Hs σ E _ fun v H1 Hs1 g1 p1 =>
  q _ k H1 Hs1 _ ((E.grow g1).setSh i p1)
theorem ds_asgO {i : Nat} (h : DL K B te Γ ds) (k : P (.nx (Γ.set i (.ow ds)))) : DS K B (tAsg te (gName i)) Γ P := fun D H Hs σ E q => h H Hs σ E _ fun p xs H1 Hs1 g1 n e s a =>
  q _ k H1 Hs1 _ (E.setNew g1 i n ⟨p, xs, rfl, e, a, s, E.gr.ext.no n⟩)
/-- .. whose place is kept in mind -/
theorem ds_asgL {i : Nat} (h : DL K B te Γ ds) (k : ∀ l, P (.nx (Γ.set i (.ol l ds)))) : DS K B (tAsg te (gName i)) Γ P := fun D H Hs σ E q => h H Hs σ E _ fun p xs H1 Hs1 g1 n e s a =>
  q _ (k p) H1 Hs1 _ (E.setNew g1 i n ⟨xs, rfl, e, a, s, E.gr.ext.no n⟩)
theorem ds_ret (h : DE K B te Γ d) (k : P (.rt d)) : DS K B (tRet te) Γ P := fun D H Hs σ E q => h H Hs σ E _ fun v H1 Hs1 g1 p1 => q _ k v H1 Hs1 (E.gr.trans g1) p1
theorem ds_retO (h : DL K B te Γ ds) (k : P (.ro ds)) : DS K B (tRet te) Γ P := fun D H Hs σ E q => h H Hs σ E _ fun p xs H1 Hs1 g1 n e s a => q _ k p xs H1 Hs1 (E.gr.trans g1) (E.gr.ext.no n) e s a
theorem ds_retN (k : P (.rt .none)) : DS K B tRetN Γ P := fun D H Hs σ E q => q _ k _ H Hs E.gr .non
/-- a list of one's own is free from here on -/
theorem ds_free {i : Nat} (hi : Γ[i]? = some (.ow ds)) (h : DS K B ts (Γ.set i (.sh (.list ds))) P) : DS K B ts Γ P := fun D H Hs σ E q => by
  obtain ⟨Hs', g, x, E'⟩ := E.free hi
  exact h D H Hs' σ E' q
theorem ds_drop (h : DE K B te Γ d) (k : P (.nx Γ)) : DS K B (tDrop te) Γ P := fun D H Hs σ E q => h H Hs σ E _ fun v H1 Hs1 g1 _ => q _ k H1 Hs1 σ (E.grow g1)
theorem ds_if {tw : TS} (h : DT K B tt Γ b) (h1 : b = true → DS K B u Γ P) (h2 : b = false → DS K B tw Γ P) : DS K B (tIfS tt u tw) Γ P := fun D H Hs σ E q => h H Hs σ E _ fun H1 Hs1 g1 => by
  cases b with
  | true =>
    show u D σ H1
    exact h1 rfl D H1 Hs1 σ (E.grow g1) q
  | false =>
    show tw D σ H1
    exact h2 rfl D H1 Hs1 σ (E.grow g1) q
theorem ds_imp {P' : Out → Prop} (h : DS K B ts Γ P') (k : ∀ o, P' o → P o) : DS K B ts Γ P := fun D H Hs σ E q => h D H Hs σ E fun o ho => q o (k o ho)
/-- two names at once -/
theorem ds_par {i j : Nat} {ta : TA} {a b : PyData} (h : DA K B ta Γ [a, b]) (k : P (.nx ((Γ.set i (.sh a)).set j (.sh b)))) : DS K B (tPar i j ta) Γ P := fun D H Hs σ E q => h H Hs σ E _ fun vs H1 Hs1 g1 p1 => by
  cases p1 with
  | cons p1 p2 =>
    cases p2 with
    | cons p2 p3 =>
      cases p3
      exact ⟨_, _, rfl, q _ k H1 Hs1 _ (((E.grow g1).setSh i p1).setSh j p2)⟩
/-- out.append(e), out one's own -/
theorem ds_app {i : Nat} (hi : Γ[i]? = some (.ow ds)) (h : DE K B te Γ d) (hz : ds.length < sizeLine) (k : P (.nx (Γ.set i (.ow (ds ++ [d]))))) : DS K B (tDrop (tBM K "list" rAppend (tVar i) (tCons te tNil))) Γ P := fun D H Hs σ E q => by
  obtain ⟨l, xs, e, h1, h2, h3, h4⟩ := E.ow hi
  refine ⟨.ref l, e, .inl ⟨rfl, xs, SqL.of h1⟩, h H Hs σ E _ fun v H1 Hs1 g1 p1 => ?_⟩
  have E1 := E.grow g1
  refine ⟨l, xs, v, rfl, rfl, g1.ext.lst h1, by rw [h2.length]; exact hz, q _ k _ Hs1 σ (E1.mut hi e ((h2.mono g1.exs).app (.cons p1 .nil)))⟩
/-- a, b = e: a tuple told apart -/
theorem ds_tup2 {i j n : Nat} {a b : PyData} (h : DE K B te Γ (.tuple [a, b])) (hn : n = 2) (k : P (.nx ((Γ.set i (.sh a)).set j (.sh b)))) : DS K B (tAsg te (gTup K n (gCons (gName i) (gCons (gName j) gNil)))) Γ P := fun D H Hs σ E q => h H Hs σ E _ fun v H1 Hs1 g1 p1 => by
  subst hn
  cases p1 with
  | tup hq ha =>
    cases ha with
    | cons a1 ha =>
      cases ha with
      | cons a2 ha =>
        cases ha
        exact ⟨_, _, rfl, sub_t g1.sub hq, rfl, _, _, rfl, _, _, rfl, rfl, q _ k H1 Hs1 _ (((E.grow g1).setSh i a1).setSh j a2)⟩
theorem ds_tup3 {i j l n : Nat} {a b c : PyData} (h : DE K B te Γ (.tuple [a, b, c])) (hn : n = 3) (k : P (.nx (((Γ.set i (.sh a)).set j (.sh b)).set l (.sh c)))) : DS K B (tAsg te (gTup K n (gCons (gName i) (gCons (gName j) (gCons (gName l) gNil))))) Γ P := fun D H Hs σ E q => h H Hs σ E _ fun v H1 Hs1 g1 p1 => by
  subst hn
  cases p1 with
  | tup hq ha =>
    cases ha with
    | cons a1 ha =>
      cases ha with
      | cons a2 ha =>
        cases ha with
        | cons a3 ha =>
          cases ha
          exact ⟨_, _, rfl, sub_t g1.sub hq, rfl, _, _, rfl, _, _, rfl, _, _, rfl, rfl, q _ k H1 Hs1 _ ((((E.grow g1).setSh i a1).setSh j a2).setSh l a3)⟩
/-! ### loops -/
def Bs.at (B : Bs) (L : Hp) : Bs := { B with low := L }
theorem low_in {L : Hp} (E : Enb K B H Hs σ Γ) (x : Ext L Hs) : Enb K (B.at L) H Hs σ Γ := ⟨E.gr, x, E.len, E.at_, E.sep, E.tab⟩
theorem low_out {L : Hp} (E : Enb K (B.at L) H Hs σ Γ) (x : Ext B.low L) : Enb K B H Hs σ Γ := ⟨E.gr, x.trans E.pin, E.len, E.at_, E.sep, E.tab⟩
/-- what a turn leaves -/
def turnS (I : Nat → Gm → Prop) (k : Nat) (P : Out → Prop) : Out → Prop
  | .nx Γ => I (k + 1) Γ
  | .ct Γ => I (k + 1) Γ
  | .bk Γ => P (.nx Γ)
  | .rt v => P (.rt v)
  | .ro v => P (.ro v)
  | .rm l es v => P (.rm l es v)
theorem turn_fits {I : Nat → Gm → Prop} {k : Nat} {L : Hp} {D : Ends} {o : Out} (ho : turnS I k P o) (q : ∀ o, P o → Fits K B D o) (x : Ext B.low L) {W : St → Hp → Prop}
    (hw : ∀ Γ' H' Hs' σ', I (k + 1) Γ' → Enb K (B.at L) H' Hs' σ' Γ' → W σ' H') : Fits K (B.at L) { D with nx := W, ct := W, bk := D.nx } o := by
  cases o with
  | nx Γ' => exact fun H' Hs' σ' E' => hw Γ' H' Hs' σ' ho E'
  | ct Γ' => exact fun H' Hs' σ' E' => hw Γ' H' Hs' σ' ho E'
  | bk Γ' => exact fun H' Hs' σ' E' => q _ ho H' Hs' σ' (low_out E' x)
  | rt d => exact q _ ho
  | ro ds => exact q _ ho
  | rm l es d => exact q _ ho
/-- an iterator that gives data -/
def ItD (K : PySem.W.Frag) (J : It) (L : Hp) (ds : List PyData) : Prop := ∀ H2 Hs2, (∀ a o, Hs2 a = some o → H2 a = some o) → Ext L Hs2 →
  J.stop ds.length H2 ∧ ∀ i d, ds[i]? = some d → J.go i H2 ∧ ∀ x H3, J.yld i H2 x H3 → ∃ Hs3, Gr H2 Hs2 H3 Hs3 ∧ Dq K Hs3 x d
/-- what is walked -/
def DI (K : PySem.W.Frag) (B : Bs) (wi : TI) (Γ : Gm) (ds : List PyData) : Prop := ∀ H Hs σ, Enb K B H Hs σ Γ → ∀ R : It → Hp → Prop, (∀ J H' Hs', Gr H Hs H' Hs' → ItD K J Hs' ds → R J H') → wi σ H R
theorem itd_list {a : Addr} {xs : List V} {L : Hp} (hq : SqL K L a xs) (ha : DqAll K L xs ds) : ItD K (Itl K a) L ds := fun H2 Hs2 s x => by
  have q2 := sub_l s (ext_l x hq)
  refine ⟨⟨xs, q2, by rw [ha.length]; exact Nat.le_refl _⟩, fun i d hd => ?_⟩
  obtain ⟨v, hv, pv⟩ := ha.get hd
  refine ⟨⟨xs, v, q2, hv⟩, fun y H3 ⟨e, f⟩ => ?_⟩
  subst e
  cases (f xs q2).symm.trans hv
  exact ⟨Hs2, Gr.refl s, pv.mono x⟩
theorem itd_tup {a : Addr} {xs : List V} {L : Hp} (hq : SqT K L a xs) (ha : DqAll K L xs ds) : ItD K (Itt K a) L ds := fun H2 Hs2 s x => by
  have q2 := sub_t s (ext_t x hq)
  refine ⟨⟨xs, q2, by rw [ha.length]; exact Nat.le_refl _⟩, fun i d hd => ?_⟩
  obtain ⟨v, hv, pv⟩ := ha.get hd
  refine ⟨⟨xs, v, q2, hv⟩, fun y H3 ⟨e, f⟩ => ?_⟩
  subst e
  cases (f xs q2).symm.trans hv
  exact ⟨Hs2, Gr.refl s, pv.mono x⟩
theorem di_list {te : TE} (h : DE K B te Γ (.list ds)) : DI K B (iList K te) Γ ds := fun H Hs σ E R q => h H Hs σ E _ fun v H1 Hs1 g1 p1 => by
  cases p1 with
  | lst hq ha => exact ⟨_, rfl, ⟨_, sub_l g1.sub hq⟩, q _ H1 Hs1 g1 (itd_list hq ha)⟩
theorem di_tup {te : TE} (h : DE K B te Γ (.tuple ds)) : DI K B (iTup K te) Γ ds := fun H Hs σ E R q => h H Hs σ E _ fun v H1 Hs1 g1 p1 => by
  cases p1 with
  | tup hq ha => exact ⟨_, rfl, ⟨_, sub_t g1.sub hq⟩, q _ H1 Hs1 g1 (itd_tup hq ha)⟩
def rangeD (lo : Int) (n : Nat) : List PyData := (List.range n).map fun i => .int (lo + (i : Nat))
theorem rangeD_get {lo : Int} {n i : Nat} {d : PyData} (h : (rangeD lo n)[i]? = some d) : i < n ∧ d = .int (lo + (i : Nat)) := by
  unfold rangeD at h
  rw [List.getElem?_map] at h
  cases e : (List.range n)[i]? with
  | none => rw [e] at h; cases h
  | some j =>
    rw [e] at h
    obtain ⟨h1, h2⟩ := List.getElem?_eq_some_iff.mp e
    rw [List.getElem_range] at h2
    rw [List.length_range] at h1
    subst h2
    exact ⟨h1, (Option.some.inj h).symm⟩
theorem rangeD_len {lo : Int} {n : Nat} : (rangeD lo n).length = n := by unfold rangeD; rw [List.length_map, List.length_range]
theorem itd_rng {lo : Int} {n : Nat} {L : Hp} : ItD K (Itr lo n) L (rangeD lo n) := fun H2 Hs2 s x => by
  refine ⟨by rw [rangeD_len]; exact Nat.le_refl _, fun i d hd => ?_⟩
  obtain ⟨h1, rfl⟩ := rangeD_get hd
  refine ⟨h1, fun y H3 ⟨e, f⟩ => ?_⟩
  subst e; subst f
  exact ⟨Hs2, Gr.refl s, .int _⟩
theorem di_rng1 {ta : TA} {n : Int} (h : DA K B ta Γ [.int n]) (hn : -(2 ^ 62) ≤ n ∧ n < 2 ^ 62) : DI K B (iRng1 ta) Γ (rangeD 0 n.toNat) := fun H Hs σ E R q => h H Hs σ E _ fun vs H1 Hs1 g1 p1 => by
  cases p1 with
  | cons p1 p2 =>
    cases p2; cases p1
    exact ⟨n, rfl, hn.1, hn.2, q _ H1 Hs1 g1 itd_rng⟩
theorem di_rng2 {ta : TA} {m n : Int} (h : DA K B ta Γ [.int m, .int n]) (hm : -(2 ^ 62) ≤ m ∧ m < 2 ^ 62) (hn : -(2 ^ 62) ≤ n ∧ n < 2 ^ 62) : DI K B (iRng2 ta) Γ (rangeD m (n - m).toNat) := fun H Hs σ E R q => h H Hs σ E _ fun vs H1 Hs1 g1 p1 => by
  cases p1 with
  | cons p1 p2 =>
    cases p2 with
    | cons p2 p3 =>
      cases p3; cases p1; cases p2
      exact ⟨m, n, rfl, ⟨hm.1, hm.2, hn.1, hn.2⟩, q _ H1 Hs1 g1 itd_rng⟩
/-- a text's signs -/
def signsD (x : Str) : List PyData := x.cps.toList.map fun c => .str ⟨#[c]⟩
theorem itd_str {x : Str} {L : Hp} : ItD K (Its x) L (signsD x) := fun H2 Hs2 s _ => by
  refine ⟨by unfold signsD; rw [List.length_map, Array.length_toList]; exact Nat.le_refl _, fun i d hd => ?_⟩
  unfold signsD at hd
  rw [List.getElem?_map, Array.getElem?_toList] at hd
  cases e : x.cps[i]? with
  | none => rw [e] at hd; cases hd
  | some c =>
    rw [e] at hd
    refine ⟨(Array.getElem?_eq_some_iff.mp e).1, fun y H3 ⟨e3, c', hc, f⟩ => ?_⟩
    subst e3; subst f
    cases hc.symm.trans e
    cases hd
    exact ⟨Hs2, Gr.refl s, .str _⟩
theorem di_str {te : TE} {x : Str} (h : DE K B te Γ (.str x)) : DI K B (iStr te) Γ (signsD x) := fun H Hs σ E R q => h H Hs σ E _ fun v H1 Hs1 g1 p1 => by
  cases p1
  exact ⟨x, rfl, q _ H1 Hs1 g1 itd_str⟩
def enumD (k : Nat) : List PyData → List PyData
  | [] => []
  | d :: r => .tuple [.int k, d] :: enumD (k + 1) r
theorem enumD_len : ∀ (k : Nat) (ds : List PyData), (enumD k ds).length = ds.length
  | _, [] => rfl
  | k, d :: r => by show (enumD (k + 1) r).length + 1 = _; rw [enumD_len]; rfl
theorem enumD_get : ∀ {k : Nat} {ds : List PyData} {i : Nat} {e : PyData}, (enumD k ds)[i]? = some e → ∃ d, ds[i]? = some d ∧ e = .tuple [.int ((k + i : Nat) : Int), d]
  | _, [], _, _, h => by simp [enumD] at h
  | k, d :: r, 0, e, h => ⟨d, rfl, (Option.some.inj h).symm⟩
  | k, d :: r, i + 1, e, h => by
    obtain ⟨d', h1, h2⟩ := enumD_get (k := k + 1) (ds := r) (i := i) h
    exact ⟨d', h1, by rw [h2, show k + 1 + i = k + (i + 1) by omega]⟩
theorem itd_enum {a : Addr} {xs : List V} {L : Hp} (hq : SqL K L a xs) (ha : DqAll K L xs ds) : ItD K (Ite K a) L (enumD 0 ds) := fun H2 Hs2 s x => by
  have q2 := sub_l s (ext_l x hq)
  refine ⟨⟨xs, q2, by rw [enumD_len, ha.length]; exact Nat.le_refl _⟩, fun i e he => ?_⟩
  obtain ⟨d, hd, rfl⟩ := enumD_get he
  obtain ⟨v, hv, pv⟩ := ha.get hd
  refine ⟨⟨xs, v, q2, hv⟩, fun y H3 ⟨T, z, e1, nT, e2, f⟩ => ?_⟩
  subst e1; subst e2
  cases (f xs q2).symm.trans hv
  rw [Nat.zero_add]
  have nS : Hs2 T = none := by
    cases q : Hs2 T with
    | none => rfl
    | some u => rw [s T u q] at nT; cases nT
  exact ⟨_, (Gr.refl s).share nT, .tup (SqT.of upd_same) (.cons (.int _) (.cons ((pv.mono x).mono (Ext.new nS)) .nil))⟩
theorem di_enum {ta : TA} (h : DA K B ta Γ [.list ds]) : DI K B (iEnum K ta) Γ (enumD 0 ds) := fun H Hs σ E R q => h H Hs σ E _ fun vs H1 Hs1 g1 p1 => by
  cases p1 with
  | cons p1 p2 =>
    cases p2
    cases p1 with
    | lst hq ha => exact ⟨_, _, rfl, sub_l g1.sub hq, q _ H1 Hs1 g1 (itd_enum hq ha)⟩
/-! ### targets -/
theorem wipe_set {σ : St} {k : Nat} {o : Option V} : ∀ {vs : List Nat}, k ∈ vs → wipe (σ.set k o) vs = wipe σ vs
  | v :: vs, h => by
    show (wipe (σ.set k o) vs).set v none = (wipe σ vs).set v none
    by_cases hk : k ∈ vs
    · rw [wipe_set hk]
    · have e : k = v := by
        rcases List.mem_cons.mp h with e | e
        · exact e
        · exact absurd e hk
      subst e
      have c : ∀ ws : List Nat, k ∉ ws → wipe (σ.set k o) ws = (wipe σ ws).set k o := fun ws => by
        induction ws with
        | nil => intro _; rfl
        | cons w ws ih =>
          intro hn
          have h1 : k ≠ w := fun z => hn (by rw [z]; exact List.mem_cons_self)
          have h2 : k ∉ ws := fun z => hn (List.mem_cons_of_mem _ z)
          show (wipe (σ.set k o) ws).set w none = ((wipe σ ws).set w none).set k o
          rw [ih h2, List.set_comm _ _ h1]
      rw [c vs hk, List.set_set]
/-- a target, bound to a datum -/
def DG (K : PySem.W.Frag) (g : TG) (js : List Nat) (d : PyData) (Γ Γ' : Gm) : Prop := ∀ (B : Bs) H Hs σ v, Enb K B H Hs σ Γ → Dq K Hs v d → ∀ Q : St → Hp → Prop, (∀ σ', Enb K B H Hs σ' Γ' → (∀ vs, (∀ j ∈ js, j ∈ vs) → wipe σ' vs = wipe σ vs) → Q σ' H) → g v σ H Q
def DGs (K : PySem.W.Frag) (g : TGs) (js : List Nat) (ds : List PyData) (Γ Γ' : Gm) : Prop := ∀ (B : Bs) H Hs σ vs, Enb K B H Hs σ Γ → DqAll K Hs vs ds → ∀ Q : St → Hp → Prop, (∀ σ', Enb K B H Hs σ' Γ' → (∀ ws, (∀ j ∈ js, j ∈ ws) → wipe σ' ws = wipe σ ws) → Q σ' H) → g vs σ H Q
theorem dg_name {i : Nat} : DG K (gName i) [i] d Γ (Γ.set i (.sh d)) := fun B H Hs σ v E p Q q => q _ (E.setSh i p) fun vs h => wipe_set (h i List.mem_cons_self)
theorem dgs_nil : DGs K gNil [] [] Γ Γ := fun B H Hs σ vs E p Q q => by
  cases p
  exact ⟨rfl, q σ E fun _ _ => rfl⟩
theorem dgs_cons {g : TG} {gs : TGs} {js ks : List Nat} {Γ1 Γ2 : Gm} (h : DG K g js d Γ Γ1) (hs : DGs K gs ks ds Γ1 Γ2) : DGs K (gCons g gs) (js ++ ks) (d :: ds) Γ Γ2 := fun B H Hs σ vs E p Q q => by
  cases p with
  | cons p1 p2 =>
    exact ⟨_, _, rfl, h B H Hs σ _ E p1 _ fun σ1 E1 w1 => hs B H Hs σ1 _ E1 p2 _ fun σ2 E2 w2 => q σ2 E2 fun ws hw => (w2 ws fun j hj => hw j (List.mem_append_right _ hj)).trans (w1 ws fun j hj => hw j (List.mem_append_left _ hj))⟩
theorem dg_tup {gs : TGs} {js : List Nat} {n : Nat} {Γ1 : Gm} (h : DGs K gs js ds Γ Γ1) (hn : ds.length = n) : DG K (gTup K n gs) js (.tuple ds) Γ Γ1 := fun B H Hs σ v E p Q q => by
  cases p with
  | tup hq ha => exact ⟨_, _, rfl, sub_t E.sub hq, by rw [ha.length]; exact hn, h B H Hs σ _ E ha Q q⟩
theorem ds_asgG {g : TG} {js : List Nat} {Γ1 : Gm} (h : DE K B te Γ d) (hg : DG K g js d Γ Γ1) (k : P (.nx Γ1)) : DS K B (tAsg te g) Γ P := fun D H Hs σ E q => h H Hs σ E _ fun v H1 Hs1 g1 p1 =>
  hg B H1 Hs1 σ v (E.grow g1) p1 _ fun σ' E' _ => q _ k H1 Hs1 σ' E'
/-- a for -/
theorem ds_for {wi : TI} {g : TG} {tb : TS} (h : DI K B wi Γ ds) (I : Nat → Gm → Prop) (h0 : I 0 Γ)
    (hs : ∀ B' k d Γ', ds[k]? = some d → I k Γ' → ∃ js Γ2, DG K g js d Γ' Γ2 ∧ DS K B' tb Γ2 (turnS I k P)) (hd : ∀ Γ', I ds.length Γ' → P (.nx Γ')) : DS K B (tFor wi g tb) Γ P := fun D H Hs σ E q => h H Hs σ E _ fun J H1 Hs1 g1 hJ => by
  have E1 := E.grow g1
  refine ⟨fun i m σ' H' => m = ds.length - i ∧ i ≤ ds.length ∧ ∃ Γ' Hs', I i Γ' ∧ Enb K (B.at Hs1) H' Hs' σ' Γ', ⟨ds.length, rfl, Nat.zero_le _, Γ, Hs1, h0, low_in E1 (Ext.refl _)⟩, ?_⟩
  rintro i m σ' H' ⟨rfl, hi, Γ', Hs', hI, E'⟩
  obtain ⟨j1, j2⟩ := hJ H' Hs' E'.sub E'.pin
  by_cases hlt : i < ds.length
  · have hd' : ds[i]? = some ds[i] := List.getElem?_eq_getElem hlt
    obtain ⟨j3, j4⟩ := j2 i _ hd'
    refine .inr ⟨j3, fun σ2 H2 => ∃ Γ2 Hs2, I (i + 1) Γ2 ∧ Enb K (B.at Hs1) H2 Hs2 σ2 Γ2, fun σ2 H2 ⟨Γ2, Hs2, hI2, E2⟩ => ⟨ds.length - (i + 1), by omega, rfl, by omega, Γ2, Hs2, hI2, E2⟩, fun x H2 hy => ?_⟩
    obtain ⟨Hs2, g2, p2⟩ := j4 x H2 hy
    obtain ⟨js, Γ2, hg, hb⟩ := hs (B.at Hs1) i _ Γ' hd' hI
    refine hg (B.at Hs1) H2 Hs2 σ' x (E'.grow g2) p2 _ fun σ3 E3 _ => hb _ H2 Hs2 σ3 E3 fun o ho => turn_fits ho q E1.pin fun Γ4 H4 Hs4 σ4 hI4 E4 => ⟨Γ4, Hs4, hI4, E4⟩
  · have e : i = ds.length := by omega
    subst e
    exact .inl ⟨j1, q _ (hd Γ' hI) H' Hs' σ' (low_out E' E1.pin)⟩
/-! ### comprehensions -/
def wipeG (Γ : Gm) : List Nat → Gm
  | [] => Γ
  | v :: vs => (wipeG Γ vs).set v .un
theorem En.wiped (E : Enb K B H Hs σ Γ) : ∀ vs : List Nat, Enb K B H Hs (wipe σ vs) (wipeG Γ vs)
  | [] => E
  | v :: vs => (En.wiped E vs).setUn v
theorem dl_lc {wi : TI} {g : TG} {vs js : List Nat} (h : DI K B wi Γ ds) (p : PyData → Bool) (e : PyData → PyData) (hz : ds.length ≤ 1000000) (hv : ∀ j ∈ js, j ∈ vs)
    (hs : ∀ B' d, d ∈ ds → ∃ Γ2, DG K g js d (wipeG Γ vs) Γ2 ∧ DT K B' tt Γ2 (p d) ∧ (p d = true → DE K B' te Γ2 (e d))) : DL K B (tLc wi g tt te vs) Γ ((ds.filter p).map e) := fun H Hs σ E Q q => h H Hs σ E _ fun J H1 Hs1 g1 hJ Dl hD => by
  have E1 := E.grow g1
  have hsD : Hs1 Dl = none := g1.hsn hD
  -- what holds behind i turns
  refine ⟨fun i m H' => m = ds.length - i ∧ i ≤ ds.length ∧ ∃ Hs' acc, H' Dl = some (.lst acc) ∧ Hs' Dl = none ∧ DqAll K Hs' acc (((ds.take i).filter p).map e) ∧ Gr H1 Hs1 H' Hs', ⟨ds.length, rfl, Nat.zero_le _, Hs1, [], upd_same, hsD, .nil, (Gr.refl g1.sub).keep hD⟩, ?_⟩
  rintro i m H' ⟨rfl, hi, Hs', acc, hA, hN, pA, gA⟩
  have E' := E1.grow gA
  obtain ⟨j1, j2⟩ := hJ H' Hs' gA.sub gA.exs
  by_cases hlt : i < ds.length
  · have hd' : ds[i]? = some ds[i] := List.getElem?_eq_getElem hlt
    obtain ⟨j3, j4⟩ := j2 i _ hd'
    have et : ds.take (i + 1) = ds.take i ++ [ds[i]] := by rw [List.take_add_one, hd']; rfl
    have lz : (((ds.take i).filter p).map e).length < sizeLine := by
      rw [List.length_map]
      refine Nat.lt_of_le_of_lt (List.length_filter_le _ _) ?_
      rw [List.length_take]
      exact Nat.lt_of_le_of_lt (Nat.min_le_right _ _) (Nat.lt_of_le_of_lt hz (by decide))
    refine .inr ⟨j3, fun H2 => ∃ Hs2 acc2, H2 Dl = some (.lst acc2) ∧ Hs2 Dl = none ∧ DqAll K Hs2 acc2 (((ds.take (i + 1)).filter p).map e) ∧ Gr H1 Hs1 H2 Hs2, fun H2 z => ⟨ds.length - (i + 1), by omega, rfl, by omega, z⟩, fun x H2 hy => ?_⟩
    obtain ⟨Hs2, g2, p2⟩ := j4 x H2 hy
    obtain ⟨Γ2, hg, ht, he⟩ := hs B ds[i] (List.getElem_mem hlt)
    have notin : ∀ {H3 Hs3 : Hp}, Gr H' Hs' H3 Hs3 → Hs3 Dl = none := fun {H3 Hs3} g3 => by
      cases z : Hs3 Dl with
      | none => rfl
      | some u =>
        rcases g3.new Dl (by rw [z]; simp) with w | w
        · exact absurd hN w
        · rw [hA] at w; cases w
    refine hg B H2 Hs2 _ x (En.wiped (E'.grow g2) vs) p2 _ fun σ3 E3 w3 => ⟨?_, ht H2 Hs2 σ3 E3 _ fun H3 Hs3 g3 => ?_⟩
    · have w := w3 vs hv
      rw [w]
      have ww : ∀ us : List Nat, (∀ u ∈ us, u ∈ vs) → wipe (wipe σ us) vs = wipe σ vs := fun us => by
        induction us with
        | nil => intro _; rfl
        | cons u us ih =>
          intro hu
          show wipe ((wipe σ us).set u none) vs = _
          rw [wipe_set (hu u List.mem_cons_self)]
          exact ih fun w hw => hu w (List.mem_cons_of_mem _ hw)
      exact ww vs fun _ h => h
    · have g23 := g2.trans g3
      cases hp : p ds[i] with
      | true =>
        show te σ3 H3 _
        refine he hp H3 Hs3 σ3 (E3.grow g3) _ fun y H4 Hs4 g4 p4 => ?_
        have g24 := g23.trans g4
        refine ⟨acc, g24.ext.lst hA, by rw [pA.length]; exact lz, Hs4, acc ++ [y], upd_same, notin g24, ?_, ?_⟩
        · rw [et, List.filter_append, List.map_append, List.filter_cons, if_pos hp]
          exact (pA.mono g24.exs).app (.cons p4 .nil)
        · have gt := gA.trans g24
          exact ⟨gt.ext.mut hD, gt.exs, fun a u z => by rw [upd_ne (ne_of_none z (notin g24))]; exact gt.sub a u z, gt.new⟩
      | false =>
        refine ⟨Hs3, acc, g23.ext.lst hA, notin g23, ?_, gA.trans g23⟩
        rw [et, List.filter_append, List.map_append, List.filter_cons, if_neg (by rw [hp]; simp)]
        show DqAll K Hs3 acc (_ ++ [])
        rw [List.append_nil]
        exact pA.mono g23.exs
  · have e2 : i = ds.length := by omega
    subst e2
    rw [List.take_length] at pA
    exact .inl ⟨j1, q Dl acc H' Hs' (g1.trans gA) (g1.ext.no hD) hA hN pA⟩
/-- a while, by a word and a number that falls -/
theorem ds_while {tc : TT} {tb : TS} (I : Nat → Gm → Prop) (m0 : Nat) (h0 : I m0 Γ)
    (hs : ∀ m Γ', I m Γ' → ∃ b, DT K B tc Γ' b ∧ (b = true → DS K B tb Γ' fun o => match o with | .nx Γ2 => ∃ m', m' < m ∧ I m' Γ2 | .ct Γ2 => ∃ m', m' < m ∧ I m' Γ2 | .bk Γ2 => P (.nx Γ2) | .rt v => P (.rt v) | .ro v => P (.ro v) | .rm l es v => P (.rm l es v)) ∧ (b = false → P (.nx Γ'))) : DS K B (tWhile tc tb) Γ P := fun D H Hs σ E q =>
  ⟨fun m σ' H' => ∃ Γ' Hs', I m Γ' ∧ Enb K B H' Hs' σ' Γ', ⟨m0, Γ, Hs, h0, E⟩, fun m σ' H' ⟨Γ', Hs', hI, E'⟩ => by
    obtain ⟨b, hb, h1, h2⟩ := hs m Γ' hI
    refine hb H' Hs' σ' E' _ fun H2 Hs2 g2 => ?_
    have E2 := E'.grow g2
    cases b with
    | true =>
      refine ⟨fun σ3 H3 => ∃ m', m' < m ∧ ∃ Γ3 Hs3, I m' Γ3 ∧ Enb K B H3 Hs3 σ3 Γ3, fun _ _ n => n, ?_⟩
      refine h1 rfl _ H2 Hs2 σ' E2 fun o ho => ?_
      cases o with
      | nx Γ3 =>
        obtain ⟨m', l, hI'⟩ := ho
        exact fun H3 Hs3 σ3 E3 => ⟨m', l, Γ3, Hs3, hI', E3⟩
      | ct Γ3 =>
        obtain ⟨m', l, hI'⟩ := ho
        exact fun H3 Hs3 σ3 E3 => ⟨m', l, Γ3, Hs3, hI', E3⟩
      | bk Γ3 => exact q _ ho
      | rt d => exact q _ ho
      | ro ds => exact q _ ho
      | rm l es d => exact q _ ho
    | false => exact q _ (h2 rfl) H2 Hs2 σ' E2⟩
end
end Dl
set_option Elab.async false
set_option linter.all false
set_option maxRecDepth 100000
set_option maxHeartbeats 2000000
namespace Dl
open PySem L2 PyProof.Rows
variable [Tabs]
/-! ### a piece of the text, whatever its reading -/
def uE (X : Cx) (e : Expr) : TE := fun σ H Q => ∃ t, PE X e t ∧ t σ H Q
def uT (X : Cx) (e : Expr) : TT := fun σ H Q => ∃ t, PT X e t ∧ t σ H Q
def uW (X : Cx) (e : Expr) : TT := fun σ H Q => ∃ t, PW X e t ∧ t σ H Q
def uA (X : Cx) (es : List Expr) : TA := fun σ H Q => ∃ t, PA X es t ∧ t σ H Q
def uS (X : Cx) (s : Stmt) : TS := fun D σ H => ∃ t, PS X s t ∧ t D σ H
def uB (X : Cx) (s : List Stmt) : TS := fun D σ H => ∃ t, PSs X s t ∧ t D σ H
def uI (X : Cx) (tg e : Expr) : TI := fun σ H R => ∃ t, PI X tg e t ∧ t σ H R
theorem pe_u {X : Cx} {e : Expr} : PE X e (uE X e) := ⟨fun pins s σ H Q I ⟨_, p, h⟩ => p.run pins s σ H Q I h⟩
theorem pt_u {X : Cx} {e : Expr} : PT X e (uT X e) := ⟨fun pins s σ H Q I ⟨_, p, h⟩ => p.run pins s σ H Q I h⟩
theorem pw_u {X : Cx} {e : Expr} : PW X e (uW X e) := ⟨fun w pins s σ H Q I ⟨_, p, h⟩ => p.run w pins s σ H Q I h⟩
theorem pa_u {X : Cx} {es : List Expr} : PA X es (uA X es) := ⟨fun pos pins s σ H Q I ⟨_, p, h⟩ => p.run pos pins s σ H Q I h⟩
theorem ps_u {X : Cx} {s : Stmt} : PS X s (uS X s) := ⟨fun pins s σ H D I ⟨_, p, h⟩ => p.run pins s σ H D I h⟩
theorem pb_u {X : Cx} {s : List Stmt} : PSs X s (uB X s) := ⟨fun pins s σ H D I ⟨_, p, h⟩ => p.run pins s σ H D I h⟩
theorem pi_u {X : Cx} {tg e : Expr} : PI X tg e (uI X tg e) := ⟨fun pins s σ H R I ⟨_, p, h⟩ => p.run pins s σ H R I h⟩
/-! ### the judgements on the text -/
def Xp (X : Cx) (B : Bs) (Γ : Gm) (e : Expr) (d : PyData) : Prop := DE X.K B (uE X e) Γ d
def Xl (X : Cx) (B : Bs) (Γ : Gm) (e : Expr) (ds : List PyData) : Prop := DL X.K B (uE X e) Γ ds
def Xt (X : Cx) (B : Bs) (Γ : Gm) (e : Expr) (b : Bool) : Prop := DT X.K B (uT X e) Γ b
def Xw (X : Cx) (B : Bs) (Γ : Gm) (e : Expr) (b : Bool) : Prop := DT X.K B (uW X e) Γ b
def Xa (X : Cx) (B : Bs) (Γ : Gm) (es : List Expr) (ds : List PyData) : Prop := DA X.K B (uA X es) Γ ds
def Xs (X : Cx) (B : Bs) (Γ : Gm) (s : Stmt) (P : Out → Prop) : Prop := DS X.K B (uS X s) Γ P
def Xb (X : Cx) (B : Bs) (Γ : Gm) (s : List Stmt) (P : Out → Prop) : Prop := DS X.K B (uB X s) Γ P
def Xi (X : Cx) (B : Bs) (Γ : Gm) (tg e : Expr) (ds : List PyData) : Prop := DI X.K B (uI X tg e) Γ ds
section
variable {X : Cx} {B : Bs} {Γ : Gm} {e a b c : Expr} {es : List Expr} {s st : Stmt} {ss rest : List Stmt} {d d1 d2 : PyData} {ds : List PyData} {P : Out → Prop} {pos : Pos} {x : Str} {i : Nat} {p q r : Bool}
theorem xp_of {t : TE} (h : PE X e t) (k : DE X.K B t Γ d) : Xp X B Γ e d := fun H Hs σ E Q q => ⟨t, h, k H Hs σ E Q q⟩
theorem xl_of {t : TE} (h : PE X e t) (k : DL X.K B t Γ ds) : Xl X B Γ e ds := fun H Hs σ E Q q => ⟨t, h, k H Hs σ E Q q⟩
theorem xt_of {t : TT} (h : PT X e t) (k : DT X.K B t Γ p) : Xt X B Γ e p := fun H Hs σ E Q q => ⟨t, h, k H Hs σ E Q q⟩
theorem xw_of {t : TT} (h : PW X e t) (k : DT X.K B t Γ p) : Xw X B Γ e p := fun H Hs σ E Q q => ⟨t, h, k H Hs σ E Q q⟩
theorem xa_of {t : TA} (h : PA X es t) (k : DA X.K B t Γ ds) : Xa X B Γ es ds := fun H Hs σ E Q q => ⟨t, h, k H Hs σ E Q q⟩
theorem xs_of {t : TS} (h : PS X s t) (k : DS X.K B t Γ P) : Xs X B Γ s P := fun D H Hs σ E q => ⟨t, h, k D H Hs σ E q⟩
theorem xb_of {t : TS} (h : PSs X ss t) (k : DS X.K B t Γ P) : Xb X B Γ ss P := fun D H Hs σ E q => ⟨t, h, k D H Hs σ E q⟩
theorem xi_of {t : TI} {tg : Expr} (h : PI X tg e t) (k : DI X.K B t Γ ds) : Xi X B Γ tg e ds := fun H Hs σ E R q => ⟨t, h, k H Hs σ E R q⟩
/-! ### names -/
/-- x may be read, at slot i -/
structure Rk (X : Cx) (i : Nat) (x : Str) : Prop where
  ix : X.N[i]? = some x
  vis : Vis X.env.scope x
  d1 : (x == ("__debug__" : Str)) = false
  d2 : (x == ("__classdict__" : Str)) = false
/-- x may be stored, at slot i -/
structure Lk (X : Cx) (i : Nat) (x : Str) : Prop where
  nd : X.N.Nodup
  ix : X.N[i]? = some x
  loc : Loc X.env.scope x
  fn : X.fn x = true ∨ X.env.scope.names.lookup x = some .local
/-- a built-in's name -/
structure Bi (X : Cx) (x : Str) : Prop where
  gl : Gl X x
  no : X.mg x = none
/-- a module's own def: a relation of data -/
structure Ce (X : Cx) (x : Str) (R : List PyData → PyData → Prop) : Prop where
  ex : ∃ (k : Nat) (f : Addr) (fd : FuncData) (ps : List Str), X.mg x = some (.ref f) ∧ FnOk X.prog X.w X.K X.mg X.base CX0 k f fd ps (spR X.K R) ∧ PySem.W.keepIn X.K (.ref f) = true ∧ Binds X.K fd ps [] ∧ Room k X.A
  db : (x == ("__debug__" : Str)) = false
/-- a module's constant -/
structure Cn (X : Cx) (x : Str) (d : PyData) : Prop where
  ex : ∃ u v, X.mg x = some u ∧ RelV v u ∧ ∀ H, Dq X.K H v d
  db : (x == ("__debug__" : Str)) = false
theorem xp_var (h : Rk X i x) (k : Γ[i]? = some (.sh d)) : Xp X B Γ (.Name x pos) d := xp_of (pe_var h.ix h.vis h.d1 h.d2) (de_var k)
theorem xp_cn (h : Gl X x) (k : Cn X x d) : Xp X B Γ (.Name x pos) d := by
  obtain ⟨u, v, hm, r, p⟩ := k.ex
  exact xp_of (pe_glob h hm r k.db) fun H Hs σ E Q q => q v H Hs (Gr.refl E.sub) (p Hs)
theorem xp_int {j : Int} {k} : Xp X B Γ (.Constant (.int j) k pos) (.int j) := xp_of pe_int de_int
theorem xp_str {z : Str} {k} : Xp X B Γ (.Constant (.str z) k pos) (.str z) := xp_of pe_str de_str
theorem xp_bl {z : Bool} {k} : Xp X B Γ (.Constant (.bool z) k pos) (.bool z) := xp_of pe_bl de_bl
theorem xp_non {k} : Xp X B Γ (.Constant .none k pos) .none := xp_of pe_non de_non
theorem xp_l (h : Xl X B Γ e ds) : Xp X B Γ e (.list ds) := de_of_dl h
/-! ### operators -/
theorem xp_bin {op : Operator} {rr : R2} (ho : OpR X (binaryOp op) rr) (hr : OpD X.K rr d1 d2 d) (ha : Xp X B Γ a d1) (hb : Xp X B Γ b d2) : Xp X B Γ (.BinOp a op b pos) d := xp_of (pe_op ho pe_u pe_u) (de_op ha hb hr)
theorem xp_cmp {op : CmpOp} {rr : R2} (ho : OpR X (compareOp op) rr) (hr : OpD X.K rr d1 d2 d) (ha : Xp X B Γ a d1) (hb : Xp X B Γ b d2) (hm : behindInMarks op b = false) : Xp X B Γ (.Compare a [op] [b] pos) d := xp_of (pe_cmpR ho pe_u pe_u hm) (de_op ha hb hr)
theorem xt_cmp {op : CmpOp} {rr : R2} (ho : OpR X (compareOp op) rr) (hr : OpD X.K rr d1 d2 (.bool p)) (ha : Xp X B Γ a d1) (hb : Xp X B Γ b d2) (hm : behindInMarks op b = false) : Xt X B Γ (.Compare a [op] [b] pos) p := xt_of (pt_cmpR ho pe_u pe_u hm) (dt_B (de_op ha hb hr))
theorem opd_I {C : Int → Int → Prop} {g : Int → Int → V} {m n : Int} {K : PySem.W.Frag} (hc : C m n) (hg : ∀ H, Dq K H (g m n) d) : OpD K (rI C g) (.int m) (.int n) d := fun H Hs x y s hx hy Q q => by
  cases hx; cases hy
  exact ⟨m, n, rfl, rfl, hc, q _ H Hs (Gr.refl s) (hg Hs)⟩
theorem opd_I0 {g : Int → Int → V} {m n : Int} {K : PySem.W.Frag} (hg : ∀ H, Dq K H (g m n) d) : OpD K (rI0 g) (.int m) (.int n) d := fun H Hs x y s hx hy Q q => by
  cases hx; cases hy
  exact ⟨m, n, rfl, rfl, q _ H Hs (Gr.refl s) (hg Hs)⟩
variable {m n : Int} {y z : Str}
theorem xp_add (ha : Xp X B Γ a (.int m)) (hb : Xp X B Γ b (.int n)) : Xp X B Γ (.BinOp a .Add b pos) (.int (m + n)) := xp_bin op_add (opd_I0 fun _ => .int _) ha hb
theorem xp_sub (ha : Xp X B Γ a (.int m)) (hb : Xp X B Γ b (.int n)) : Xp X B Γ (.BinOp a .Sub b pos) (.int (m - n)) := xp_bin op_sub (opd_I0 fun _ => .int _) ha hb
theorem xp_mul (ha : Xp X B Γ a (.int m)) (hb : Xp X B Γ b (.int n)) (hc : CMulW m n) : Xp X B Γ (.BinOp a .Mult b pos) (.int (m * n)) := xp_bin op_mulW (opd_I hc fun _ => .int _) ha hb
/-- // by what is not nought -/
def CDivG (_ j : Int) : Prop := j ≠ 0 ∧ j.natAbs.log2 < 9000
theorem op_fdivG : OpR X (binaryOp .FloorDiv) (rI CDivG fun i j => .int (i.fdiv j)) := opI fun i j _ _ _ _ _ hc q => floordiv_int hc.1 q (.inl (PyProof.noPylong_of_log2 hc.2))
theorem xp_fdiv (ha : Xp X B Γ a (.int m)) (hb : Xp X B Γ b (.int n)) (hc : CDivG m n) : Xp X B Γ (.BinOp a .FloorDiv b pos) (.int (m.fdiv n)) := xp_bin op_fdivG (opd_I hc fun _ => .int _) ha hb
theorem xp_mod (ha : Xp X B Γ a (.int m)) (hb : Xp X B Γ b (.int n)) (hc : 0 < n) : Xp X B Γ (.BinOp a .Mod b pos) (.int (m % n)) := xp_bin op_mod (opd_I hc fun _ => .int _) ha hb
theorem xp_pow (ha : Xp X B Γ a (.int m)) (hb : Xp X B Γ b (.int n)) (hc : CPow m n) : Xp X B Γ (.BinOp a .Pow b pos) (.int (m ^ n.toNat)) := xp_bin op_pow (opd_I hc fun _ => .int _) ha hb
theorem xp_adds (ha : Xp X B Γ a (.str y)) (hb : Xp X B Γ b (.str z)) (hc : y.length + z.length ≤ sizeLine) : Xp X B Γ (.BinOp a .Add b pos) (.str (y ++ z)) :=
  xp_bin op_add_str (fun H Hs u v s hx hy Q q => by
    cases hx; cases hy
    exact ⟨y, z, rfl, rfl, hc, q _ H Hs (Gr.refl s) (.str _)⟩) ha hb
theorem xp_neg (ha : Xp X B Γ a (.int m)) : Xp X B Γ (.UnaryOp .USub a pos) (.int (-m)) := xp_of (pe_un un_neg pe_u) (de_un ha fun H Hs u s hx Q q => by
  cases hx
  exact ⟨m, rfl, q _ H Hs (Gr.refl s) (.int _)⟩)
theorem xp_not (ha : Xp X B Γ a (.bool p)) : Xp X B Γ (.UnaryOp .Not a pos) (.bool (!p)) := xp_of (pe_not pe_u) (de_notV ha)
/-! comparisons -/
theorem xp_lt (ha : Xp X B Γ a (.int m)) (hb : Xp X B Γ b (.int n)) : Xp X B Γ (.Compare a [.Lt] [b] pos) (.bool (decide (m < n))) := xp_cmp op_lt (opd_I0 fun _ => .bl _) ha hb (nomark _)
theorem xp_le (ha : Xp X B Γ a (.int m)) (hb : Xp X B Γ b (.int n)) : Xp X B Γ (.Compare a [.LtE] [b] pos) (.bool (decide (m ≤ n))) := xp_cmp op_le (opd_I0 fun _ => .bl _) ha hb (nomark _)
theorem xp_gt (ha : Xp X B Γ a (.int m)) (hb : Xp X B Γ b (.int n)) : Xp X B Γ (.Compare a [.Gt] [b] pos) (.bool (decide (n < m))) := xp_cmp op_gt (opd_I0 fun _ => .bl _) ha hb (nomark _)
theorem xp_ge (ha : Xp X B Γ a (.int m)) (hb : Xp X B Γ b (.int n)) : Xp X B Γ (.Compare a [.GtE] [b] pos) (.bool (decide (n ≤ m))) := xp_cmp op_ge (opd_I0 fun _ => .bl _) ha hb (nomark _)
theorem opd_sc {K : PySem.W.Frag} {rr : R2} {f : V → V → Bool} (hr : ∀ x y H (Q : VK), scal x y = true → Q (.bl (f x y)) H → rr x y H Q) {u v : V} (hs : scal u v = true) (h1 : ∀ H x, Dq K H x d1 → x = u) (h2 : ∀ H x, Dq K H x d2 → x = v) : OpD K rr d1 d2 (.bool (f u v)) :=
  fun H Hs x y s hx hy Q q => by
    cases h1 Hs x hx; cases h2 Hs y hy
    exact hr _ _ H Q hs (q _ H Hs (Gr.refl s) (.bl _))
theorem dq_int {K : PySem.W.Frag} : ∀ H x, Dq K H x (.int m) → x = .int m := fun _ _ h => by cases h; rfl
theorem dq_str {K : PySem.W.Frag} : ∀ H x, Dq K H x (.str y) → x = .str y := fun _ _ h => by cases h; rfl
theorem dq_bl {K : PySem.W.Frag} : ∀ H x, Dq K H x (.bool p) → x = .bl p := fun _ _ h => by cases h; rfl
theorem dq_non {K : PySem.W.Frag} : ∀ H x, Dq K H x .none → x = .non := fun _ _ h => by cases h; rfl
theorem dec_int {i j : Int} : decide (V.int i = V.int j) = decide (i = j) := by by_cases h : i = j <;> simp [h]
theorem dec_str {i j : Str} : decide (V.str i = V.str j) = decide (i = j) := by by_cases h : i = j <;> simp [h]
theorem dec_bl {i j : Bool} : decide (V.bl i = V.bl j) = decide (i = j) := by by_cases h : i = j <;> simp [h]
theorem xp_eqi (ha : Xp X B Γ a (.int m)) (hb : Xp X B Γ b (.int n)) : Xp X B Γ (.Compare a [.Eq] [b] pos) (.bool (decide (m = n))) := by
  rw [← dec_int]
  exact xp_cmp op_eq (opd_sc (f := fun x y => decide (x = y)) (fun _ _ _ _ h q => ⟨h, q⟩) rfl dq_int dq_int) ha hb (nomark _)
theorem xp_nei (ha : Xp X B Γ a (.int m)) (hb : Xp X B Γ b (.int n)) : Xp X B Γ (.Compare a [.NotEq] [b] pos) (.bool (!decide (m = n))) := by
  rw [← dec_int]
  exact xp_cmp op_ne (opd_sc (f := fun x y => !decide (x = y)) (fun _ _ _ _ h q => ⟨h, q⟩) rfl dq_int dq_int) ha hb (nomark _)
theorem xp_eqs (ha : Xp X B Γ a (.str y)) (hb : Xp X B Γ b (.str z)) : Xp X B Γ (.Compare a [.Eq] [b] pos) (.bool (decide (y = z))) := by
  rw [← dec_str]
  exact xp_cmp op_eq (opd_sc (f := fun x y => decide (x = y)) (fun _ _ _ _ h q => ⟨h, q⟩) rfl dq_str dq_str) ha hb (nomark _)
theorem xp_nes (ha : Xp X B Γ a (.str y)) (hb : Xp X B Γ b (.str z)) : Xp X B Γ (.Compare a [.NotEq] [b] pos) (.bool (!decide (y = z))) := by
  rw [← dec_str]
  exact xp_cmp op_ne (opd_sc (f := fun x y => !decide (x = y)) (fun _ _ _ _ h q => ⟨h, q⟩) rfl dq_str dq_str) ha hb (nomark _)
theorem xp_eqb (ha : Xp X B Γ a (.bool p)) (hb : Xp X B Γ b (.bool q)) : Xp X B Γ (.Compare a [.Eq] [b] pos) (.bool (decide (p = q))) := by
  rw [← dec_bl]
  exact xp_cmp op_eq (opd_sc (f := fun x y => decide (x = y)) (fun _ _ _ _ h q => ⟨h, q⟩) rfl dq_bl dq_bl) ha hb (nomark _)
theorem xp_neb (ha : Xp X B Γ a (.bool p)) (hb : Xp X B Γ b (.bool q)) : Xp X B Γ (.Compare a [.NotEq] [b] pos) (.bool (!decide (p = q))) := by
  rw [← dec_bl]
  exact xp_cmp op_ne (opd_sc (f := fun x y => !decide (x = y)) (fun _ _ _ _ h q => ⟨h, q⟩) rfl dq_bl dq_bl) ha hb (nomark _)
/-- what may be compared as data -/
theorem shaped_plain (h : SeqAt.shaped d = true) : d.canLay0 = true := (Bool.and_eq_true_iff.mp h).1
theorem xp_eqd (hu : X.A.units + 64 < cLine) (ha : Xp X B Γ a d1) (hb : Xp X B Γ b d2) (h1 : SeqAt.shaped d1 = true) (h2 : SeqAt.shaped d2 = true) : Xp X B Γ (.Compare a [.Eq] [b] pos) (.bool (PyData.eqv d1 d2)) :=
  xp_cmp (op_eqD hu) (fun H Hs u v s hx hy Q q => ⟨d1, d2, (dp_sub s hx).plain (shaped_plain h1), (dp_sub s hy).plain (shaped_plain h2), h1, h2, q _ H Hs (Gr.refl s) (.bl _)⟩) ha hb (nomark _)
theorem xp_ned (hu : X.A.units + 64 < cLine) (ha : Xp X B Γ a d1) (hb : Xp X B Γ b d2) (h1 : SeqAt.shaped d1 = true) (h2 : SeqAt.shaped d2 = true) : Xp X B Γ (.Compare a [.NotEq] [b] pos) (.bool (!PyData.eqv d1 d2)) :=
  xp_cmp (op_neD hu) (fun H Hs u v s hx hy Q q => ⟨d1, d2, (dp_sub s hx).plain (shaped_plain h1), (dp_sub s hy).plain (shaped_plain h2), h1, h2, q _ H Hs (Gr.refl s) (.bl _)⟩) ha hb (nomark _)
def isNone : PyData → Bool
  | .none => true
  | _ => false
theorem isNone_v {K : PySem.W.Frag} {H : Hp} {v : V} (h : Dq K H v d) : decide (v = .non) = isNone d := by cases h <;> rfl
theorem xp_isN {k p2} (ha : Xp X B Γ a d) : Xp X B Γ (.Compare a [.Is] [.Constant .none k p2] pos) (.bool (isNone d)) :=
  xp_cmp (d2 := .none) op_isN (fun H Hs u v s hx hy Q q => by
    cases hy
    refine ⟨rfl, ?_⟩
    rw [isNone_v hx]
    exact q _ H Hs (Gr.refl s) (.bl _)) ha xp_non (nomark _)
theorem xp_notN {k p2} (ha : Xp X B Γ a d) : Xp X B Γ (.Compare a [.IsNot] [.Constant .none k p2] pos) (.bool (!isNone d)) :=
  xp_cmp (d2 := .none) op_notN (fun H Hs u v s hx hy Q q => by
    cases hy
    refine ⟨rfl, ?_⟩
    rw [isNone_v hx]
    exact q _ H Hs (Gr.refl s) (.bl _)) ha xp_non (nomark _)
theorem xp_isB (ha : Xp X B Γ a (.bool p)) (hb : Xp X B Γ b (.bool q)) : Xp X B Γ (.Compare a [.Is] [b] pos) (.bool (decide (p = q))) :=
  xp_cmp op_is_bl (fun H Hs u v s hx hy Q q => by
    cases hx; cases hy
    exact ⟨_, _, rfl, rfl, q _ H Hs (Gr.refl s) (.bl _)⟩) ha hb (nomark _)
theorem xp_notB (ha : Xp X B Γ a (.bool p)) (hb : Xp X B Γ b (.bool q)) : Xp X B Γ (.Compare a [.IsNot] [b] pos) (.bool (!decide (p = q))) :=
  xp_cmp op_isnot_bl (fun H Hs u v s hx hy Q q => by
    cases hx; cases hy
    exact ⟨_, _, rfl, rfl, q _ H Hs (Gr.refl s) (.bl _)⟩) ha hb (nomark _)
/-- x in (..), x flat, among flat things -/
def flatD : PyData → Bool
  | .none => true
  | .bool _ => true
  | .int _ => true
  | .str _ => true
  | _ => false
def vOf : PyData → V
  | .bool b => .bl b
  | .int i => .int i
  | .str s => .str s
  | _ => .non
theorem vOf_eq {K : PySem.W.Frag} {H : Hp} {v : V} (h : Dq K H v d) (f : flatD d = true) : v = vOf d := by
  cases h <;> first | rfl | cases f
theorem vOf_all {K : PySem.W.Frag} {H : Hp} : ∀ {vs : List V} {ds : List PyData}, DqAll K H vs ds → ds.all flatD = true → vs = ds.map vOf
  | _, _, .nil, _ => rfl
  | _, _, @DqAll.cons _ _ _ v vs d ds h a, f => by
    rw [List.all_cons, Bool.and_eq_true] at f
    rw [vOf_eq h f.1, vOf_all a f.2]; rfl
theorem flatV_of : ∀ {d : PyData}, flatD d = true → flatV (vOf d) = true
  | .none, _ => rfl
  | .bool _, _ => rfl
  | .int _, _ => rfl
  | .str _, _ => rfl
  | .list _, h => nomatch h
  | .tuple _, h => nomatch h
  | .dict _, h => nomatch h
theorem flatV_all {ds : List PyData} (h : ds.all flatD = true) : (ds.map vOf).all flatV = true := by
  rw [List.all_eq_true] at h ⊢
  intro v hv
  obtain ⟨d, hd, rfl⟩ := List.mem_map.mp hv
  exact flatV_of (h d hd)
def inD (d : PyData) (ds : List PyData) : Bool := inV (vOf d) (ds.map vOf)
theorem opd_in {K : PySem.W.Frag} {neg : Bool} (f : flatD d1 = true) (g : ds.all flatD = true) (hd : d2 = .list ds ∨ d2 = .tuple ds) : OpD K (rIn K neg) d1 d2 (.bool (if neg then !inD d1 ds else inD d1 ds)) := fun H Hs u v s hx hy Q q => by
  rcases hd with rfl | rfl
  · cases hy with
    | lst hq ha =>
      cases vOf_eq hx f
      cases vOf_all ha g
      exact ⟨_, _, rfl, .inl (sub_l s hq), flatV_of f, flatV_all g, q _ H Hs (Gr.refl s) (.bl _)⟩
  · cases hy with
    | tup hq ha =>
      cases vOf_eq hx f
      cases vOf_all ha g
      exact ⟨_, _, rfl, .inr (sub_t s hq), flatV_of f, flatV_all g, q _ H Hs (Gr.refl s) (.bl _)⟩
theorem xp_inL (hm : behindInMarks .In b = false) (ha : Xp X B Γ a d) (hb : Xp X B Γ b (.list ds)) (f : flatD d = true) (g : ds.all flatD = true) : Xp X B Γ (.Compare a [.In] [b] pos) (.bool (inD d ds)) := xp_cmp op_in_seq (opd_in (neg := false) f g (.inl rfl)) ha hb hm
theorem xp_inT (hm : behindInMarks .In b = false) (ha : Xp X B Γ a d) (hb : Xp X B Γ b (.tuple ds)) (f : flatD d = true) (g : ds.all flatD = true) : Xp X B Γ (.Compare a [.In] [b] pos) (.bool (inD d ds)) := xp_cmp op_in_seq (opd_in (neg := false) f g (.inr rfl)) ha hb hm
theorem xp_ninL (hm : behindInMarks .NotIn b = false) (ha : Xp X B Γ a d) (hb : Xp X B Γ b (.list ds)) (f : flatD d = true) (g : ds.all flatD = true) : Xp X B Γ (.Compare a [.NotIn] [b] pos) (.bool (!inD d ds)) := xp_cmp op_notIn_seq (opd_in (neg := true) f g (.inl rfl)) ha hb hm
theorem xp_ninT (hm : behindInMarks .NotIn b = false) (ha : Xp X B Γ a d) (hb : Xp X B Γ b (.tuple ds)) (f : flatD d = true) (g : ds.all flatD = true) : Xp X B Γ (.Compare a [.NotIn] [b] pos) (.bool (!inD d ds)) := xp_cmp op_notIn_seq (opd_in (neg := true) f g (.inr rfl)) ha hb hm
theorem xp_inS {k : Nat} (hm : behindInMarks .In b = false) (ha : Xp X B Γ a (.str ⟨#[k]⟩)) (hb : Xp X B Γ b (.str z)) : Xp X B Γ (.Compare a [.In] [b] pos) (.bool (decide (k ∈ z.cps.toList))) := xp_cmp op_in_sign (fun H Hs u v s hx hy Q q => by
  cases hx; cases hy
  exact ⟨k, z, rfl, rfl, q _ H Hs (Gr.refl s) (.bl _)⟩) ha hb hm
theorem xp_ninS {k : Nat} (hm : behindInMarks .NotIn b = false) (ha : Xp X B Γ a (.str ⟨#[k]⟩)) (hb : Xp X B Γ b (.str z)) : Xp X B Γ (.Compare a [.NotIn] [b] pos) (.bool (!decide (k ∈ z.cps.toList))) := xp_cmp op_notIn_sign (fun H Hs u v s hx hy Q q => by
  cases hx; cases hy
  exact ⟨k, z, rfl, rfl, q _ H Hs (Gr.refl s) (.bl _)⟩) ha hb hm
/-! ### and, or, if -/
theorem xp_one {op} (h : Xp X B Γ a d) : Xp X B Γ (.BoolOp op [a] pos) d := xp_of (pe_one pe_u) h
theorem xp_and (h1 : Xp X B Γ a (.bool p)) (h2 : p = true → Xp X B Γ (.BoolOp .And (b :: es) pos) (.bool q)) : Xp X B Γ (.BoolOp .And (a :: b :: es) pos) (.bool (p && q)) := xp_of (pe_and pe_u pe_u) (de_andV h1 h2)
theorem xp_or (h1 : Xp X B Γ a (.bool p)) (h2 : p = false → Xp X B Γ (.BoolOp .Or (b :: es) pos) (.bool q)) : Xp X B Γ (.BoolOp .Or (a :: b :: es) pos) (.bool (p || q)) := xp_of (pe_or pe_u pe_u) (de_orV h1 h2)
theorem xt_val (he : ∀ whole, isTrue e X.env whole = (do let v ← whole; standAt e.pos; holding [v] (truthy v))) (h : Xp X B Γ e (.bool p)) : Xt X B Γ e p := xt_of (pt_val pe_u he) (dt_B h)
theorem xt_not (h : Xt X B Γ a p) : Xt X B Γ (.UnaryOp .Not a pos) (!p) := xt_of (pt_not pt_u) (dt_not h)
theorem xw_and1 (h : Xt X B Γ a p) : Xw X B Γ (.BoolOp .And [a] pos) p := xw_of (pw_and1 pt_u) h
theorem xw_or1 (h : Xt X B Γ a p) : Xw X B Γ (.BoolOp .Or [a] pos) p := xw_of (pw_or1 pt_u) h
theorem xw_and (h1 : Xt X B Γ a p) (h2 : p = true → Xw X B Γ (.BoolOp .And (b :: es) pos) q) : Xw X B Γ (.BoolOp .And (a :: b :: es) pos) (p && q) := xw_of (pw_and pt_u pw_u) (dt_and h1 h2)
theorem xw_or (h1 : Xt X B Γ a p) (h2 : p = false → Xw X B Γ (.BoolOp .Or (b :: es) pos) q) : Xw X B Γ (.BoolOp .Or (a :: b :: es) pos) (p || q) := xw_of (pw_or pt_u pw_u) (dt_or h1 h2)
theorem xt_w {op} (h : Xw X B Γ (.BoolOp op es pos) p) : Xt X B Γ (.BoolOp op es pos) p := xt_of pw_u.pt h
/-- the truth of data -/
def truD : PyData → Bool
  | .none => false
  | .bool b => b
  | .int i => i != 0
  | .str y => (y.length : Int) != 0
  | .list xs => !xs.isEmpty
  | .tuple xs => !xs.isEmpty
  | .dict kvs => !kvs.isEmpty
def truOk : PyData → Prop
  | .str y => y.length ≤ sizeLine
  | .dict _ => False
  | _ => True
theorem isEmpty_dq {K : PySem.W.Frag} {H : Hp} {vs : List V} (h : DqAll K H vs ds) : vs.isEmpty = ds.isEmpty := by cases h <;> rfl
theorem xt_tru (he : ∀ whole, isTrue e X.env whole = (do let v ← whole; standAt e.pos; holding [v] (truthy v))) (h : Xp X B Γ e d) (ok : truOk d) : Xt X B Γ e (truD d) := xt_of (pt_truth pe_u he) fun H Hs σ E Q q => h H Hs σ E _ fun v H1 Hs1 g1 p1 => by
  refine ⟨truD d, ?_, q H1 Hs1 g1⟩
  cases p1 with
  | non => exact rfl
  | bl b => exact rfl
  | int i => exact rfl
  | str y => exact ⟨ok, rfl⟩
  | lst hq ha => exact .inl ⟨_, sub_l g1.sub hq, by rw [isEmpty_dq ha]; rfl⟩
  | tup hq ha => exact .inr (.inl ⟨_, sub_t g1.sub hq, by rw [isEmpty_dq ha]; rfl⟩)
  | dic _ _ => exact False.elim ok
  | exc _ _ => exact False.elim ok
  | exf _ _ _ _ => exact False.elim ok
  | obj _ _ _ _ => exact False.elim ok
theorem xp_if (h : Xt X B Γ c p) (h1 : p = true → Xp X B Γ a d) (h2 : p = false → Xp X B Γ b d) : Xp X B Γ (.IfExp c a b pos) d := xp_of (pe_ifExp pt_u pe_u pe_u) (de_if h h1 h2)
/-! ### arguments, displays -/
theorem xa_nil : Xa X B Γ [] [] := xa_of pa_nil da_nil
theorem xa_cons (hs : starEach (e :: es) X.env = (false, eval e X.env) :: starEach es X.env) (h : Xp X B Γ e d) (hr : Xa X B Γ es ds) : Xa X B Γ (e :: es) (d :: ds) := xa_of (pa_cons pe_u pa_u hs) (da_cons h hr)
theorem xp_tup {x1} (h : Xa X B Γ es ds) (hl : ds.length ≤ sizeLine) : Xp X B Γ (.Tuple es x1 pos) (.tuple ds) := xp_of (pe_tup pa_u) (de_tup h hl)
theorem xl_lst (h : Xa X B Γ es ds) (hl : ds.length ≤ sizeLine) : Xl X B Γ (.List es pos) ds := xl_of (pe_lst pa_u) (dl_lst h hl)
/-! ### subscripts -/
theorem opd_ixL {K : PySem.W.Frag} {i : Int} (h : atI ds i = some d) : OpD K (rIxL K) (.list ds) (.int i) d := fun H Hs x y s hx hy Q q => by
  cases hy
  cases hx with
  | lst hq ha =>
    unfold atI at h
    cases e : ixN ds.length i with
    | none => rw [e] at h; cases h
    | some j =>
      rw [e] at h
      obtain ⟨v, hv, pv⟩ := ha.get h
      exact ⟨_, _, i, v, rfl, rfl, sub_l s hq, by unfold atI; rw [ha.length, e]; exact hv, q v H Hs (Gr.refl s) pv⟩
theorem opd_ixT {K : PySem.W.Frag} {i : Int} (h : atI ds i = some d) : OpD K (rIxT K) (.tuple ds) (.int i) d := fun H Hs x y s hx hy Q q => by
  cases hy
  cases hx with
  | tup hq ha =>
    unfold atI at h
    cases e : ixN ds.length i with
    | none => rw [e] at h; cases h
    | some j =>
      rw [e] at h
      obtain ⟨v, hv, pv⟩ := ha.get h
      exact ⟨_, _, i, v, rfl, rfl, sub_t s hq, by unfold atI; rw [ha.length, e]; exact hv, q v H Hs (Gr.refl s) pv⟩
theorem xp_ixL {i : Int} (hs : PlainIx b) (ha : Xp X B Γ a (.list ds)) (hb : Xp X B Γ b (.int i)) (h : atI ds i = some d) : Xp X B Γ (.Subscript a b pos) d := xp_of (pe_ix ix_list pe_u pe_u hs) (de_op ha hb (opd_ixL h))
theorem xp_ixT {i : Int} (hs : PlainIx b) (ha : Xp X B Γ a (.tuple ds)) (hb : Xp X B Γ b (.int i)) (h : atI ds i = some d) : Xp X B Γ (.Subscript a b pos) d := xp_of (pe_ix ix_tup pe_u pe_u hs) (de_op ha hb (opd_ixT h))
theorem xp_ixS {i : Int} {k : Nat} (hs : PlainIx b) (ha : Xp X B Γ a (.str y)) (hb : Xp X B Γ b (.int i)) (hz : y.length ≤ sizeLine) (h : atI y.cps.toList i = some k) : Xp X B Γ (.Subscript a b pos) (.str ⟨#[k]⟩) :=
  xp_of (pe_ix ix_str pe_u pe_u hs) (de_op ha hb fun H Hs u v s hx hy Q q => by
    cases hx; cases hy
    exact ⟨y, i, k, rfl, rfl, hz, h, q _ H Hs (Gr.refl s) (.str _)⟩)
/-- the part of a slice -/
def DO (K : PySem.W.Frag) (B : Bs) (t : TO) (Γ : Gm) (o : Option Int) : Prop := ∀ H Hs σ, Enb K B H Hs σ Γ → ∀ Q : Option Int → Hp → Prop, (∀ H' Hs', Gr H Hs H' Hs' → Q o H') → t σ H Q
def uO (X : Cx) (e : Option Expr) : TO := fun σ H Q => ∃ t, PO X e t ∧ t σ H Q
theorem po_u {X : Cx} {e : Option Expr} : PO X e (uO X e) := ⟨fun pins s σ H Q I ⟨_, p, h⟩ => p.run pins s σ H Q I h⟩
def Xo (X : Cx) (B : Bs) (Γ : Gm) (e : Option Expr) (o : Option Int) : Prop := DO X.K B (uO X e) Γ o
theorem xo_none : Xo X B Γ none none := fun H Hs σ E Q q => ⟨_, po_none, q H Hs (Gr.refl E.sub)⟩
theorem xo_some {i : Int} (h : Xp X B Γ e (.int i)) : Xo X B Γ (some e) (some i) := fun H Hs σ E Q q => ⟨_, po_some pe_u, h H Hs σ E _ fun v H1 Hs1 g1 p1 => by
  cases p1
  exact ⟨i, rfl, q H1 Hs1 g1⟩⟩
def cutD (xs : List PyData) (lo hi : Option Int) : List PyData := (xs.drop (HT.sIx xs.length 0 lo)).take (HT.sIx xs.length xs.length hi - HT.sIx xs.length 0 lo)
theorem xl_sl {lo hi : Option Expr} {l h : Option Int} {p2 : Pos} (he : Xp X B Γ e (.list ds)) (hl : Xo X B Γ lo l) (hh : Xo X B Γ hi h) : Xl X B Γ (.Subscript e (.Slice lo hi none p2) pos) (cutD ds l h) :=
  xl_of (pe_slice sl_list pe_u po_u po_u) fun H Hs σ E Q q => he H Hs σ E _ fun v H1 Hs1 g1 p1 => hl H1 Hs1 σ (E.grow g1) _ fun H2 Hs2 g2 => hh H2 Hs2 σ ((E.grow g1).grow g2) _ fun H3 Hs3 g3 => by
    have gg := (g1.trans g2).trans g3
    cases p1 with
    | lst hq ha =>
      refine ⟨_, _, rfl, sub_l gg.sub (ext_l g3.exs (ext_l g2.exs hq)), fun p n => dl_new gg q n ?_⟩
      have a3 := (ha.mono g2.exs).mono g3.exs
      unfold cutV cutD
      rw [ha.length]
      exact (a3.drop _).take _
theorem xp_slS {lo hi : Option Expr} {l h : Option Int} {p2 : Pos} (he : Xp X B Γ e (.str y)) (hz : y.length ≤ sizeLine) (hl : Xo X B Γ lo l) (hh : Xo X B Γ hi h) : Xp X B Γ (.Subscript e (.Slice lo hi none p2) pos) (.str (cutS y l h)) :=
  xp_of (pe_slice sl_str pe_u po_u po_u) fun H Hs σ E Q q => he H Hs σ E _ fun v H1 Hs1 g1 p1 => hl H1 Hs1 σ (E.grow g1) _ fun H2 Hs2 g2 => hh H2 Hs2 σ ((E.grow g1).grow g2) _ fun H3 Hs3 g3 => by
    cases p1
    exact ⟨y, rfl, hz, q _ H3 Hs3 ((g1.trans g2).trans g3) (.str _)⟩
end
end Dl
set_option Elab.async false
set_option linter.all false
set_option maxRecDepth 100000
set_option maxHeartbeats 2000000
namespace Dl
open PySem L2 PyProof.Rows
variable [Tabs]
section
variable {X : Cx} {B : Bs} {Γ : Gm} {e a b c : Expr} {es : List Expr} {s st : Stmt} {ss rest : List Stmt} {d d1 d2 : PyData} {ds : List PyData} {P : Out → Prop} {pos : Pos} {x : Str} {i : Nat} {p q r : Bool} {m n : Int} {y z : Str}
/-! ### list + list, tuple + tuple -/
def rCatG (K : PySem.W.Frag) : R2 := fun x y H Q => ∃ l b xs zs, x = .ref l ∧ y = .ref b ∧ SqL K H l xs ∧ SqL K H b zs ∧ xs.length + zs.length ≤ sizeLine ∧ ∀ p, H p = none → Q (.ref p) (upd H p (.lst (xs ++ zs)))
theorem op_catG : OpR X (binaryOp .Add) (rCatG X.K) := by
  intro pins s σ H x y v u Q I rx ry h
  obtain ⟨l, b, xs, zs, rfl, rfl, hH, hB, hz, q⟩ := h
  cases rx
  cases ry
  obtain ⟨its, r, ⟨⟨cls, dd, data, sl⟩, n, ho, hc, hdd, hd⟩, z1⟩ := I.list hH
  obtain ⟨its2, r2, ⟨⟨cls2, dd2, data2, sl2⟩, n2, ho2, hc2, hdd2, hd2⟩, z2⟩ := I.list hB
  simp only at hc hd hc2 hd2 hdd hdd2
  subst hc hd hc2 hd2 hdd hdd2
  have e : its.toArray ++ its2.toArray = (its ++ its2).toArray := by simp
  refine concat_meets ⟨_, ho, rfl⟩ ⟨_, ho2, rfl⟩ noFill_list_add seq_list_add PySem.F.slot_list_add PySem.F.entry_list_add (PySem.F.args_list_add_2 _ _) (list_addW l b its.toArray its2.toArray n n2 none none sl sl2 (by rw [List.size_toArray, List.size_toArray, ← r.length, ← r2.length]; exact hz)) ⟨ho, ho2, ?_⟩
  rw [e]
  exact ⟨.ref _, _, I.lnew (t' := s.toks) (r.append r2) (by rw [List.length_append]; omega), rfl, q _ I.fresh⟩
theorem xl_cat {es1 es2 : List PyData} (ha : Xp X B Γ a (.list es1)) (hb : Xp X B Γ b (.list es2)) (hz : es1.length + es2.length ≤ sizeLine) : Xl X B Γ (.BinOp a .Add b pos) (es1 ++ es2) :=
  xl_of (pe_op op_catG pe_u pe_u) fun H Hs σ E Q q => ha H Hs σ E _ fun v H1 Hs1 g1 p1 => hb H1 Hs1 σ (E.grow g1) _ fun u H2 Hs2 g2 p2 => by
    cases p1.mono g2.exs with
    | lst h1 a1 =>
      cases p2 with
      | lst h2 a2 => exact ⟨_, _, _, _, rfl, rfl, sub_l g2.sub h1, sub_l g2.sub h2, by rw [a1.length, a2.length]; exact hz, fun p n => dl_new (g1.trans g2) q n (a1.app a2)⟩
theorem xp_catT {es1 es2 : List PyData} (ha : Xp X B Γ a (.tuple es1)) (hb : Xp X B Γ b (.tuple es2)) (hz : es1.length + es2.length ≤ sizeLine) : Xp X B Γ (.BinOp a .Add b pos) (.tuple (es1 ++ es2)) :=
  xp_of (pe_op op_catA pe_u pe_u) (de_op ha hb fun H Hs u v s hx hy Q q => by
    cases hx with
    | @tup a1 xs _ h1 a1' =>
      cases hy with
      | @tup a2 ys _ h2 a2' =>
        refine ⟨_, _, _, _, rfl, rfl, sub_t s h1, sub_t s h2, by rw [a1'.length, a2'.length]; exact hz, fun e1 => ?_, fun e1 e2 => ?_, fun e1 e2 p n => ?_⟩
        · subst e1
          cases a1'
          exact q _ H Hs (Gr.refl s) (.tup h2 a2')
        · subst e2
          cases a2'
          rw [List.append_nil] at q
          exact q _ H Hs (Gr.refl s) (.tup h1 a1')
        · exact q _ _ _ ((Gr.refl s).share n) (.tup (SqT.of upd_same) ((a1'.app a2').mono (Ext.new ((Gr.refl s).hsn n)))))
/-! ### calls of built-ins -/
theorem boot_len' : bootBuiltins ("len" : Str) = some (.builtin "len") := PySem.boot_len
theorem xp_cb {id : String} {rr : List V → Hp → VK → Prop} {p' : Pos} (hc : CallR X (.builtin id) rr) (hb : Bi X x) (hv : bootBuiltins x = some (.builtin id)) (hn : x ≠ "__name__") (hd : (x == ("__debug__" : Str)) = false) (he : starEach (e :: es) X.env = (false, eval e X.env) :: starEach es X.env) (hpl : (backTo pos (starEach es X.env)).any (·.1) = false)
    (ha : Xa X B Γ (e :: es) ds) (hr : CbD X.K rr ds d) : Xp X B Γ (.Call (.Name x p') (e :: es) [] pos) d := xp_of (pe_callB hc hb.gl hb.no hv pa_u hn hd he hpl) (de_cb ha hr)
theorem xl_cb {id : String} {rr : List V → Hp → VK → Prop} {p' : Pos} {es' : List PyData} (hc : CallR X (.builtin id) rr) (hb : Bi X x) (hv : bootBuiltins x = some (.builtin id)) (hn : x ≠ "__name__") (hd : (x == ("__debug__" : Str)) = false) (he : starEach (e :: es) X.env = (false, eval e X.env) :: starEach es X.env) (hpl : (backTo pos (starEach es X.env)).any (·.1) = false)
    (ha : Xa X B Γ (e :: es) es') (hr : CbL X.K rr es' ds) : Xl X B Γ (.Call (.Name x p') (e :: es) [] pos) ds := xl_of (pe_callB hc hb.gl hb.no hv pa_u hn hd he hpl) (dl_cb ha hr)
theorem xp_ct {id : String} {rr : List V → Hp → VK → Prop} {p' : Pos} (hc : CallR X (.type id) rr) (hb : Bi X x) (hv : bootBuiltins x = some (.type id)) (hn : x ≠ "__name__") (hd : (x == ("__debug__" : Str)) = false) (he : starEach (e :: es) X.env = (false, eval e X.env) :: starEach es X.env) (hpl : (backTo pos (starEach es X.env)).any (·.1) = false)
    (ha : Xa X B Γ (e :: es) ds) (hr : CbD X.K rr ds d) : Xp X B Γ (.Call (.Name x p') (e :: es) [] pos) d := xp_of (pe_callTy hc hb.gl hb.no hv pa_u hn hd he hpl) (de_cb ha hr)
theorem xl_ct {id : String} {rr : List V → Hp → VK → Prop} {p' : Pos} {es' : List PyData} (hc : CallR X (.type id) rr) (hb : Bi X x) (hv : bootBuiltins x = some (.type id)) (hn : x ≠ "__name__") (hd : (x == ("__debug__" : Str)) = false) (he : starEach (e :: es) X.env = (false, eval e X.env) :: starEach es X.env) (hpl : (backTo pos (starEach es X.env)).any (·.1) = false)
    (ha : Xa X B Γ (e :: es) es') (hr : CbL X.K rr es' ds) : Xl X B Γ (.Call (.Name x p') (e :: es) [] pos) ds := xl_of (pe_callTy hc hb.gl hb.no hv pa_u hn hd he hpl) (dl_cb ha hr)
theorem cb1 {K : PySem.W.Frag} {rr : List V → Hp → VK → Prop} (h : ∀ H Hs x, (∀ a o, Hs a = some o → H a = some o) → Dq K Hs x d1 → ∀ Q : VK, (∀ v H' Hs', Gr H Hs H' Hs' → Dq K Hs' v d → Q v H') → rr [x] H Q) : CbD K rr [d1] d := fun H Hs xs s a Q q => by
  cases a with
  | cons a1 a2 => cases a2; exact h H Hs _ s a1 Q q
theorem cb2 {K : PySem.W.Frag} {rr : List V → Hp → VK → Prop} (h : ∀ H Hs x y, (∀ a o, Hs a = some o → H a = some o) → Dq K Hs x d1 → Dq K Hs y d2 → ∀ Q : VK, (∀ v H' Hs', Gr H Hs H' Hs' → Dq K Hs' v d → Q v H') → rr [x, y] H Q) : CbD K rr [d1, d2] d := fun H Hs xs s a Q q => by
  cases a with
  | cons a1 a2 =>
    cases a2 with
    | cons a2 a3 => cases a3; exact h H Hs _ _ s a1 a2 Q q
/-- what the call rules ask of the written arguments -/
abbrev St1 (X : Cx) (e : Expr) (es : List Expr) : Prop := starEach (e :: es) X.env = (false, eval e X.env) :: starEach es X.env
abbrev Pl1 (X : Cx) (pos : Pos) (es : List Expr) : Prop := (backTo pos (starEach es X.env)).any (·.1) = false
variable {p' : Pos}
theorem xp_lenL (hb : Bi X "len") (he : St1 X e []) (hp : Pl1 X pos []) (h : Xp X B Γ e (.list ds)) : Xp X B Γ (.Call (.Name "len" p') [e] [] pos) (.int ds.length) :=
  xp_cb call_len_seq hb PySem.boot_len (by decide) (by decide) he hp (xa_cons he h xa_nil) (cb1 fun H Hs x s hx Q q => by
    cases hx with
    | lst hq ha => exact ⟨_, _, rfl, .inl (sub_l s hq), by rw [ha.length]; exact q _ H Hs (Gr.refl s) (.int _)⟩)
theorem xp_lenT (hb : Bi X "len") (he : St1 X e []) (hp : Pl1 X pos []) (h : Xp X B Γ e (.tuple ds)) : Xp X B Γ (.Call (.Name "len" p') [e] [] pos) (.int ds.length) :=
  xp_cb call_len_seq hb PySem.boot_len (by decide) (by decide) he hp (xa_cons he h xa_nil) (cb1 fun H Hs x s hx Q q => by
    cases hx with
    | tup hq ha => exact ⟨_, _, rfl, .inr (sub_t s hq), by rw [ha.length]; exact q _ H Hs (Gr.refl s) (.int _)⟩)
theorem xp_lenS (hb : Bi X "len") (he : St1 X e []) (hp : Pl1 X pos []) (h : Xp X B Γ e (.str y)) (hz : y.length ≤ sizeLine) : Xp X B Γ (.Call (.Name "len" p') [e] [] pos) (.int y.length) :=
  xp_cb call_len_str hb PySem.boot_len (by decide) (by decide) he hp (xa_cons he h xa_nil) (cb1 fun H Hs x s hx Q q => by
    cases hx
    exact ⟨y, rfl, hz, q _ H Hs (Gr.refl s) (.int _)⟩)
/-- len of one's own list -/
theorem xp_lenO (hb : Bi X "len") {p2 : Pos} (he : St1 X (.Name x p2) []) (hp : Pl1 X pos []) (h : Rk X i x) (k : Γ[i]? = some (.ow ds)) : Xp X B Γ (.Call (.Name "len" p') [.Name x p2] [] pos) (.int ds.length) :=
  xp_of (pe_callB call_len_seq hb.gl hb.no PySem.boot_len (pa_cons (pe_var h.ix h.vis h.d1 h.d2) pa_nil he) (by decide) (by decide) he hp) fun H Hs σ E Q q => by
    obtain ⟨l, xs, e1, h1, h2, _, _⟩ := E.ow k
    exact ⟨.ref l, e1, l, xs, rfl, .inl (SqL.of h1), by rw [h2.length]; exact q _ H Hs (Gr.refl E.sub) (.int _)⟩
theorem xp_abs (hb : Bi X "abs") (he : St1 X e []) (hp : Pl1 X pos []) (h : Xp X B Γ e (.int m)) : Xp X B Γ (.Call (.Name "abs" p') [e] [] pos) (.int (if m < 0 then -m else m)) :=
  xp_cb call_abs hb (by decide +kernel) (by decide) (by decide) he hp (xa_cons he h xa_nil) (cb1 fun H Hs x s hx Q q => by
    cases hx
    exact ⟨m, rfl, q _ H Hs (Gr.refl s) (.int _)⟩)
theorem xp_min (hc : X.calm = true) (hb : Bi X "min") (he : St1 X e [a]) (he2 : St1 X a []) (hp : Pl1 X pos [a]) (h : Xp X B Γ e (.int m)) (h2 : Xp X B Γ a (.int n)) : Xp X B Γ (.Call (.Name "min" p') [e, a] [] pos) (.int (if n < m then n else m)) :=
  xp_cb (call_min2 hc) hb (by decide +kernel) (by decide) (by decide) he hp (xa_cons he h (xa_cons he2 h2 xa_nil)) (cb2 fun H Hs x y s hx hy Q q => by
    cases hx; cases hy
    exact ⟨m, n, rfl, q _ H Hs (Gr.refl s) (.int _)⟩)
theorem xp_max (hc : X.calm = true) (hb : Bi X "max") (he : St1 X e [a]) (he2 : St1 X a []) (hp : Pl1 X pos [a]) (h : Xp X B Γ e (.int m)) (h2 : Xp X B Γ a (.int n)) : Xp X B Γ (.Call (.Name "max" p') [e, a] [] pos) (.int (if n > m then n else m)) :=
  xp_cb (call_max2 hc) hb (by decide +kernel) (by decide) (by decide) he hp (xa_cons he h (xa_cons he2 h2 xa_nil)) (cb2 fun H Hs x y s hx hy Q q => by
    cases hx; cases hy
    exact ⟨m, n, rfl, q _ H Hs (Gr.refl s) (.int _)⟩)
theorem xp_strI (hb : Bi X "str") (he : St1 X e []) (hp : Pl1 X pos []) (h : Xp X B Γ e (.int m)) (hz : m.natAbs.log2 < 1920) : Xp X B Γ (.Call (.Name "str" p') [e] [] pos) (.str (toString m)) :=
  xp_ct call_str_int hb (by decide +kernel) (by decide) (by decide) he hp (xa_cons he h xa_nil) (cb1 fun H Hs x s hx Q q => by
    cases hx
    exact ⟨m, rfl, hz, q _ H Hs (Gr.refl s) (.str _)⟩)
theorem xp_intS (hb : Bi X "int") (he : St1 X e []) (hp : Pl1 X pos []) (h : Xp X B Γ e (.str y)) (hn : PySem.intText? y = some m) (hz : y.length ≤ 640) : Xp X B Γ (.Call (.Name "int" p') [e] [] pos) (.int m) :=
  xp_ct call_int_str hb (by decide +kernel) (by decide) (by decide) he hp (xa_cons he h xa_nil) (cb1 fun H Hs x s hx Q q => by
    cases hx
    exact ⟨y, m, rfl, hn, hz, q _ H Hs (Gr.refl s) (.int _)⟩)
theorem xp_intB (hb : Bi X "int") (he : St1 X e []) (hp : Pl1 X pos []) (h : Xp X B Γ e (.bool p)) : Xp X B Γ (.Call (.Name "int" p') [e] [] pos) (.int (if p then 1 else 0)) :=
  xp_ct call_int1 hb (by decide +kernel) (by decide) (by decide) he hp (xa_cons he h xa_nil) (cb1 fun H Hs x s hx Q q => by
    cases hx
    exact .inr ⟨p, rfl, q _ H Hs (Gr.refl s) (.int _)⟩)
/-- sorted of ints: the one list in order -/
theorem perm_sorted {l l' : List Int} (h : l.Perm l') (h1 : l.Pairwise (· ≤ ·)) (h2 : l'.Pairwise (· ≤ ·)) : l = l' := h.eq_of_pairwise (fun a b _ _ h1 h2 => Int.le_antisymm h1 h2) h1 h2
theorem xl_sortI {ns ms : List Int} (hb : Bi X "sorted") (he : St1 X e []) (hp : Pl1 X pos []) (h : Xp X B Γ e (.list (ns.map .int))) (hz : ns.length < 64) (hm : ms.Perm ns) (hs : ms.Pairwise (· ≤ ·)) : Xl X B Γ (.Call (.Name "sorted" p') [e] [] pos) (ms.map .int) :=
  xl_cb cr_sorted hb (by decide +kernel) (by decide) (by decide) he hp (xa_cons he h xa_nil) fun H Hs xs s a Q q => by
    cases a with
    | cons a1 a2 =>
      cases a2
      cases a1 with
      | lst hq ha =>
        have e1 := ha.ints_inv
        subst e1
        refine ⟨_, ns, rfl, sub_l s hq, hz, fun ns' p hp' hs' n => ?_⟩
        cases perm_sorted (hp'.trans hm.symm) hs' hs
        exact q p _ n (.ints _)
theorem xp_gcd (hg : Gl X x) (hm : X.mg x = some (.builtin "math.gcd")) (hd : (x == ("__debug__" : Str)) = false) (he : St1 X e [a]) (he2 : St1 X a []) (hp : Pl1 X pos [a]) (h : Xp X B Γ e (.int m)) (h2 : Xp X B Γ a (.int n)) : Xp X B Γ (.Call (.Name x p') [e, a] [] pos) (.int ((Nat.gcd m.natAbs n.natAbs : Nat) : Int)) :=
  xp_of (pe_callBfun cr_gcd hg hm pa_u hd he hp) (de_cb (xa_cons he h (xa_cons he2 h2 xa_nil)) (cb2 fun H Hs x y s hx hy Q q => by
    cases hx; cases hy
    exact ⟨m, n, rfl, q _ H Hs (Gr.refl s) (.int _)⟩))
/-! isinstance -/
def tyD : PyData → String
  | .none => "NoneType"
  | .bool _ => "bool"
  | .int _ => "int"
  | .str _ => "str"
  | .list _ => "list"
  | .tuple _ => "tuple"
  | .dict _ => "dict"
/-- no exception, no instance of an own class -/
def plainD : PyData → Bool
  | .dict ((.none, _) :: _) => false
  | .dict ((.bool _, _) :: _) => false
  | _ => true
theorem tyX_of {K : PySem.W.Frag} {H Hs : Hp} {v : V} (s : ∀ a o, Hs a = some o → H a = some o) (h : Dq K Hs v d) (pl : plainD d = true) : TyX K H v (.type (tyD d)) := by
  cases h with
  | non => exact .base .non
  | bl b => exact .base (.bl b)
  | int i => exact .base (.int i)
  | str x => exact .base (.str x)
  | lst hq ha =>
    rcases sub_l s hq with (h | ⟨o, h⟩) | ⟨o, _, _, hk, hc, _⟩
    · exact .base (.lst h)
    · exact .base (.frz h)
    · exact .kList hk hc
  | tup hq ha =>
    rcases sub_t s hq with (h | ⟨o, h⟩) | ⟨o, _, _, hk, hc, _⟩
    · exact .base (.tup h)
    · exact .fTuple h
    · exact .kTuple hk hc
  | dic hq ha =>
    rcases sub_rd s hq with h | ⟨o, h⟩
    · exact .base (.dK h)
    · exact .fDict h
  | exc _ _ => cases pl
  | exf _ _ _ _ => cases pl
  | obj _ _ _ _ => cases pl
/-- a built-in class, as a value -/
theorem pe_ty {T : String} (hb : Bi X x) (hv : bootBuiltins x = some (.type T)) (hn : x ≠ "__name__") (hd : (x == ("__debug__" : Str)) = false) : PE X (.Name x pos) (tC (.ty T)) := pe_bltn hb.gl hb.no hv rfl hn hd
theorem xp_isi {T : String} {p2 : Pos} (hb : Bi X "isinstance") (ht : Bi X x) (hv : bootBuiltins x = some (.type T)) (hn : x ≠ "__name__") (hd : (x == ("__debug__" : Str)) = false) (he : St1 X e [.Name x p2]) (he2 : St1 X (.Name x p2) []) (hp : Pl1 X pos [.Name x p2])
    (h : Xp X B Γ e d) (pl : plainD d = true) (hr : kitB (tyD d) T = some p) : Xp X B Γ (.Call (.Name "isinstance" p') [e, .Name x p2] [] pos) (.bool p) :=
  xp_of (pe_callB call_isi hb.gl hb.no (by decide +kernel) (pa_cons pe_u (pa_cons (pe_ty ht hv hn hd) pa_nil he2) he) (by decide) (by decide) he hp) fun H Hs σ E Q q => h H Hs σ E _ fun v H1 Hs1 g1 p1 =>
    ⟨v, .ty T, _, _, p, rfl, .ty T, tyX_of g1.sub p1 pl, kit_ty hr, q _ H1 Hs1 g1 (.bl _)⟩
/-! ### methods of texts -/
def MtD (K : PySem.W.Frag) (rr : V → List V → Hp → VK → Prop) (y : Str) (as : List PyData) (d : PyData) : Prop := ∀ H Hs xs, (∀ a o, Hs a = some o → H a = some o) → DqAll K Hs xs as → ∀ Q : VK, (∀ v H' Hs', Gr H Hs H' Hs' → Dq K Hs' v d → Q v H') → rr (.str y) xs H Q
/-- what the rule of a method asks of its place in the text -/
abbrev Mb (X : Cx) (o : Expr) (name : Str) : Prop := attributeBase o name X.env (eval o X.env) = eval o X.env
abbrev Mf (X : Cx) (cpos : Pos) (e : Expr) (es : List Expr) : Prop := ((backTo cpos (starEach (e :: es) X.env)).all (fun x => !x.1) && (backToKw cpos (keywordEach [] X.env)).all (fun x => x.1.isSome)
      && decide ((e :: es).length + ([] : List Keyword).length + (if ([] : List Keyword).isEmpty then 0 else 1) < 30)) = true
variable {o : Expr} {ap : Pos} {name : Str} {id : String} {rr : V → List V → Hp → VK → Prop}
theorem xp_m0 (slot : Slot "str" name id) (hty : typeOf (.builtin id) = pure (.type "method_descriptor")) (hm : MtR X id rr) (hb : Mb X o name) (hl : (ap.endLine == pos.line) = true) (ho : Xp X B Γ o (.str y)) (hr : MtD X.K rr y [] d) : Xp X B Γ (.Call (.Attribute o name ap) [] [] pos) d :=
  xp_of (pe_bm0 PySem.F.plainAttrs_str slot hty hm pe_u hb hl) fun H Hs σ E Q q => ho H Hs σ E _ fun v H1 Hs1 g1 p1 => by
    cases p1
    exact ⟨rfl, hr H1 Hs1 [] g1.sub .nil Q fun w H2 Hs2 g2 p2 => q w H2 Hs2 (g1.trans g2) p2⟩
theorem xp_m {as : List PyData} (slot : Slot "str" name id) (hty : typeOf (.builtin id) = pure (.type "method_descriptor")) (hm : MtR X id rr) (hb : Mb X o name) (hf : Mf X pos e es) (hl : (ap.endLine == pos.line) = true) (he : St1 X e es) (hp : Pl1 X pos es) (ho : Xp X B Γ o (.str y)) (ha : Xa X B Γ (e :: es) as) (hr : MtD X.K rr y as d) : Xp X B Γ (.Call (.Attribute o name ap) (e :: es) [] pos) d :=
  xp_of (pe_bm PySem.F.plainAttrs_str slot hty hm pe_u pa_u hb hf hl he hp) fun H Hs σ E Q q => ho H Hs σ E _ fun v H1 Hs1 g1 p1 => by
    cases p1
    exact ⟨rfl, ha H1 Hs1 σ (E.grow g1) _ fun vs H2 Hs2 g2 p2 => hr H2 Hs2 vs g2.sub p2 Q fun w H3 Hs3 g3 p3 => q w H3 Hs3 ((g1.trans g2).trans g3) p3⟩
theorem xl_m {as : List PyData} (slot : Slot "str" name id) (hty : typeOf (.builtin id) = pure (.type "method_descriptor")) (hm : MtR X id rr) (hb : Mb X o name) (hf : Mf X pos e es) (hl : (ap.endLine == pos.line) = true) (he : St1 X e es) (hp : Pl1 X pos es) (ho : Xp X B Γ o (.str y)) (ha : Xa X B Γ (e :: es) as)
    (hr : ∀ H Hs xs, (∀ a o, Hs a = some o → H a = some o) → DqAll X.K Hs xs as → ∀ Q : VK, (∀ p zs, H p = none → DqAll X.K Hs zs ds → Q (.ref p) (upd H p (.lst zs))) → rr (.str y) xs H Q) : Xl X B Γ (.Call (.Attribute o name ap) (e :: es) [] pos) ds :=
  xl_of (pe_bm PySem.F.plainAttrs_str slot hty hm pe_u pa_u hb hf hl he hp) fun H Hs σ E Q q => ho H Hs σ E _ fun v H1 Hs1 g1 p1 => by
    cases p1
    exact ⟨rfl, ha H1 Hs1 σ (E.grow g1) _ fun vs H2 Hs2 g2 p2 => hr H2 Hs2 vs g2.sub p2 Q fun p zs n a => dl_new (g1.trans g2) q n a⟩
theorem xp_partition (hb : Mb X o "partition") (hf : Mf X pos e []) (hl : (ap.endLine == pos.line) = true) (he : St1 X e []) (hp : Pl1 X pos []) (ho : Xp X B Γ o (.str y)) (ha : Xp X B Γ e (.str z)) (h1 : (z.length == 0) = false) (h2 : y.length ≤ sizeLine) :
    Xp X B Γ (.Call (.Attribute o "partition" ap) [e] [] pos) (.tuple [.str (Txt.partition y z).1, .str (Txt.partition y z).2.1, .str (Txt.partition y z).2.2]) :=
  xp_m PySem.F.slot_str_partition PySem.F.type_str_partition mt_partition hb hf hl he hp ho (xa_cons he ha xa_nil) fun H Hs xs s a Q q => by
    cases a with
    | cons a1 a2 =>
      cases a2; cases a1
      exact ⟨y, z, rfl, rfl, h1, h2, fun p n => q _ _ _ ((Gr.refl s).share n) (.tup (SqT.of upd_same) (.cons (.str _) (.cons (.str _) (.cons (.str _) .nil))))⟩
theorem xl_split (hb : Mb X o "split") (hf : Mf X pos e []) (hl : (ap.endLine == pos.line) = true) (he : St1 X e []) (hp : Pl1 X pos []) (ho : Xp X B Γ o (.str y)) (ha : Xp X B Γ e (.str z)) (h1 : (z.length == 0) = false) (h2 : y.length + 2 ≤ sizeLine) :
    Xl X B Γ (.Call (.Attribute o "split" ap) [e] [] pos) ((Txt.split y z).map .str) :=
  xl_m PySem.F.slot_str_split PySem.F.type_str_split mt_split hb hf hl he hp ho (xa_cons he ha xa_nil) fun H Hs xs s a Q q => by
    cases a with
    | cons a1 a2 =>
      cases a2; cases a1
      exact ⟨y, z, rfl, rfl, h1, h2, fun p n => q p _ n (.strs _)⟩
theorem xp_join {ys : List Str} (hb : Mb X o "join") (hf : Mf X pos e []) (hl : (ap.endLine == pos.line) = true) (he : St1 X e []) (hp : Pl1 X pos []) (ho : Xp X B Γ o (.str y)) (ha : Xp X B Γ e (.list (ys.map .str))) (hz : (ys.map (·.length)).sum + ys.length * y.length ≤ 16777216) :
    Xp X B Γ (.Call (.Attribute o "join" ap) [e] [] pos) (.str (Txt.join y ys)) :=
  xp_m PySem.F.slot_str_join PySem.F.type_str_join mt_join hb hf hl he hp ho (xa_cons he ha xa_nil) fun H Hs xs s a Q q => by
    cases a with
    | cons a1 a2 =>
      cases a2
      cases a1 with
      | lst hq ha =>
        have e1 := ha.strs_inv
        subst e1
        exact ⟨y, _, ys, rfl, rfl, .inl (sub_l s hq), hz, q _ H Hs (Gr.refl s) (.str _)⟩
theorem xp_isdigit (hb : Mb X o "isdigit") (hl : (ap.endLine == pos.line) = true) (ho : Xp X B Γ o (.str y)) : Xp X B Γ (.Call (.Attribute o "isdigit" ap) [] [] pos) (.bool (Txt.isdigit y)) :=
  xp_m0 PySem.F.slot_str_isdigit PySem.F.type_str_isdigit mt_isdigit hb hl ho fun H Hs xs s a Q q => by
    cases a
    exact ⟨y, rfl, rfl, trivial, q _ H Hs (Gr.refl s) (.bl _)⟩
theorem xp_isascii (hb : Mb X o "isascii") (hl : (ap.endLine == pos.line) = true) (ho : Xp X B Γ o (.str y)) : Xp X B Γ (.Call (.Attribute o "isascii" ap) [] [] pos) (.bool (Txt.isascii y)) :=
  xp_m0 PySem.F.slot_str_isascii PySem.F.type_str_isascii mt_isascii hb hl ho fun H Hs xs s a Q q => by
    cases a
    exact ⟨y, rfl, rfl, trivial, q _ H Hs (Gr.refl s) (.bl _)⟩
theorem xp_upper (hb : Mb X o "upper") (hl : (ap.endLine == pos.line) = true) (ho : Xp X B Γ o (.str y)) (hz : y.length ≤ 5592405) : Xp X B Γ (.Call (.Attribute o "upper" ap) [] [] pos) (.str (Txt.upper y)) :=
  xp_m0 PySem.F.slot_str_upper PySem.F.type_str_upper mt_upper hb hl ho fun H Hs xs s a Q q => by
    cases a
    exact ⟨y, rfl, rfl, hz, q _ H Hs (Gr.refl s) (.str _)⟩
/-! ### own defs -/
theorem xp_call {R : List PyData → PyData → Prop} (hg : Gl X x) (c : Ce X x R) (he : St1 X e es) (hp : Pl1 X pos es) (ha : Xa X B Γ (e :: es) ds) (hr : R ds d) : Xp X B Γ (.Call (.Name x p') (e :: es) [] pos) d := by
  obtain ⟨k, f, fd, ps, hm, F, kp, bi, hr'⟩ := c.ex
  exact xp_of (pe_call F hr' hg hm kp bi .nil (E := E0) pass0 pa_u c.db he hp) (de_call ha hr)
theorem xp_call0 {R : List PyData → PyData → Prop} (hg : Gl X x) (c : Ce X x R) (hr : R [] d) : Xp X B Γ (.Call (.Name x p') [] [] pos) d := by
  obtain ⟨k, f, fd, ps, hm, F, kp, bi, hr'⟩ := c.ex
  exact xp_of (pe_call0 F hr' hg hm kp bi .nil (E := E0) pass0 c.db) (de_call da_nil hr)
/-! ### statements -/
theorem xb_nil (h : P (.nx Γ)) : Xb X B Γ [] P := xb_of pss_nil (ds_next h)
theorem xb_cons (h : Xs X B Γ st fun o => match o with | .nx Γ' => Xb X B Γ' ss P | o => P o) : Xb X B Γ (st :: ss) P := xb_of (pss_cons ps_u pb_u) (ds_seq (ds_imp h fun o ho => by cases o <;> exact ho))
theorem xs_set {p2 : Pos} (k : Lk X i x) (hs : swapsWith e (some (.Name x p2)) pos.line X.env = pure false) (h : Xp X B Γ e d) (hP : P (.nx (Γ.set i (.sh d)))) : Xs X B Γ (.Assign [.Name x p2] e pos) P := xs_of (ps_set k.nd k.ix k.loc pe_u hs k.fn) (ds_asg h hP)
theorem xs_setO {p2 : Pos} (k : Lk X i x) (hs : swapsWith e (some (.Name x p2)) pos.line X.env = pure false) (h : Xl X B Γ e ds) (hP : P (.nx (Γ.set i (.ow ds)))) : Xs X B Γ (.Assign [.Name x p2] e pos) P := xs_of (ps_set k.nd k.ix k.loc pe_u hs k.fn) (ds_asgO h hP)
theorem xs_ret (h : Xp X B Γ e d) (hP : P (.rt d)) : Xs X B Γ (.Return (some e) pos) P := xs_of (ps_ret pe_u) (ds_ret h hP)
theorem xs_retN (hP : P (.rt .none)) : Xs X B Γ (.Return none pos) P := xs_of ps_retN (ds_retN hP)
theorem xs_if {ss2 : List Stmt} (h : Xt X B Γ c p) (h1 : p = true → Xb X B Γ ss P) (h2 : p = false → Xb X B Γ ss2 P) : Xs X B Γ (.If c ss ss2 pos) P := xs_of (ps_if pt_u pb_u pb_u) (ds_if h h1 h2)
theorem xs_pass (hP : P (.nx Γ)) : Xs X B Γ (.Pass pos) P := xs_of ps_pass (ds_next hP)
theorem xs_brk (hP : P (.bk Γ)) : Xs X B Γ (.Break pos) P := xs_of ps_break (ds_brk hP)
theorem xs_cont (hP : P (.ct Γ)) : Xs X B Γ (.Continue pos) P := xs_of ps_continue (ds_cont hP)
theorem xs_free {st : Stmt} (hi : Γ[i]? = some (.ow ds)) (h : Xs X B (Γ.set i (.sh (.list ds))) st P) : Xs X B Γ st P := ds_free hi h
theorem xb_free (hi : Γ[i]? = some (.ow ds)) (h : Xb X B (Γ.set i (.sh (.list ds))) ss P) : Xb X B Γ ss P := ds_free hi h
theorem xs_app {p2 : Pos} (k : Rk X i x) (hs : swapsWith (.Call (.Attribute (.Name x p2) "append" ap) [e] [] p') none pos.line X.env = pure false) (hb : Mb X (.Name x p2) "append") (hf : Mf X p' e []) (hl : (ap.endLine == p'.line) = true) (he : St1 X e []) (hp : Pl1 X p' [])
    (hi : Γ[i]? = some (.ow ds)) (h : Xp X B Γ e d) (hz : ds.length < sizeLine) (hP : P (.nx (Γ.set i (.ow (ds ++ [d]))))) : Xs X B Γ (.Expr (.Call (.Attribute (.Name x p2) "append" ap) [e] [] p') pos) P :=
  xs_of (ps_expr (pe_bm PySem.F.plainAttrs_list PySem.F.slot_list_append PySem.F.type_list_append mt_append (pe_var k.ix k.vis k.d1 k.d2) (pa_cons pe_u pa_nil he) hb hf hl he hp) hs) (ds_app hi h hz hP)
/-- targets -/
def uG (X : Cx) (tg : Expr) : TG := fun v σ H Q => ∃ t, PG X tg t ∧ t v σ H Q
theorem pg_u {tg : Expr} : PG X tg (uG X tg) := ⟨fun pins s σ H v u Q I r ⟨_, p, h⟩ => p.run pins s σ H v u Q I r h⟩
def Xg (X : Cx) (tg : Expr) (js : List Nat) (d : PyData) (Γ Γ' : Gm) : Prop := DG X.K (uG X tg) js d Γ Γ'
theorem xg_of {tg : Expr} {t : TG} {js : List Nat} {Γ' : Gm} (h : PG X tg t) (k : DG X.K t js d Γ Γ') : Xg X tg js d Γ Γ' := fun B H Hs σ v E p Q q => ⟨t, h, k B H Hs σ v E p Q q⟩
theorem xg_name {p2 : Pos} (k : Lk X i x) : Xg X (.Name x p2) [i] d Γ (Γ.set i (.sh d)) := xg_of (pg_name k.nd k.ix k.loc k.fn) dg_name
def uGs (X : Cx) (tg : List Expr) : TGs := fun v σ H Q => ∃ t, PGs X tg t ∧ t v σ H Q
theorem pgs_u {tg : List Expr} : PGs X tg (uGs X tg) := ⟨fun pins s σ H v u Q I r ⟨_, p, h⟩ => p.run pins s σ H v u Q I r h⟩
def Xgs (X : Cx) (tg : List Expr) (js : List Nat) (ds : List PyData) (Γ Γ' : Gm) : Prop := DGs X.K (uGs X tg) js ds Γ Γ'
theorem xgs_nil : Xgs X [] [] [] Γ Γ := fun B H Hs σ v E p Q q => ⟨_, pgs_nil, dgs_nil B H Hs σ v E p Q q⟩
end
end Dl
set_option Elab.async false
set_option linter.all false
set_option maxRecDepth 100000
set_option maxHeartbeats 2000000
namespace Dl
open PySem L2 PyProof.Rows
variable [Tabs]
section
variable {X : Cx} {B : Bs} {Γ : Gm} {e a b c : Expr} {es : List Expr} {s st : Stmt} {ss rest : List Stmt} {d d1 d2 : PyData} {ds : List PyData} {P : Out → Prop} {pos p' : Pos} {x : Str} {i : Nat} {p q r : Bool} {m n : Int} {y z : Str}
/-! ### targets -/
theorem xgs_cons {tg : Expr} {tgs : List Expr} {js ks : List Nat} {Γ1 Γ2 : Gm} (hs : (assignEach (tg :: tgs) X.env).map (·.2) = assign tg X.env :: (assignEach tgs X.env).map (·.2)) (h : Xg X tg js d Γ Γ1) (hr : Xgs X tgs ks ds Γ1 Γ2) : Xgs X (tg :: tgs) (js ++ ks) (d :: ds) Γ Γ2 :=
  fun B H Hs σ v E p Q q => ⟨_, pgs_cons pg_u pgs_u hs, dgs_cons h hr B H Hs σ v E p Q q⟩
theorem xg_tup {tgs : List Expr} {kk n : Nat} {js : List Nat} {Γ1 : Gm} (hc : X.calm = true) (hn : (assignEach tgs X.env).length = n) (hst : (assignEach tgs X.env).findIdx? (·.1) = none) (hl : ds.length = n) (h : Xgs X tgs js ds Γ Γ1) : Xg X (.Tuple tgs kk pos) js (.tuple ds) Γ Γ1 :=
  xg_of (pg_tup hc pgs_u hn hst) (dg_tup h hl)
theorem xg_unl {tgs : List Expr} {kk n : Nat} {js : List Nat} {Γ1 : Gm} (hc : X.calm = true) (hn : (assignEach tgs X.env).length = n) (hst : (assignEach tgs X.env).findIdx? (·.1) = none) (hl : ds.length = n) (h : Xgs X tgs js ds Γ Γ1) : Xg X (.Tuple tgs kk pos) js (.list ds) Γ Γ1 :=
  xg_of (pg_unl hc pgs_u hn hst) fun B H Hs σ v E p Q q => by
    cases p with
    | lst hq ha => exact ⟨_, _, rfl, sub_l E.sub hq, by rw [ha.length]; exact hl, h B H Hs σ _ E ha Q q⟩
theorem xs_asg {tg : Expr} {js : List Nat} {Γ1 : Gm} (hs : swapsWithSole [tg] e pos.line X.env = pure false) (hw : swappedStores [tg] e X.env = pure none) (h1 : (assignEach [tg] X.env).map (·.2) = [assign tg X.env]) (h : Xp X B Γ e d) (hg : Xg X tg js d Γ Γ1) (hP : P (.nx Γ1)) : Xs X B Γ (.Assign [tg] e pos) P :=
  xs_of (ps_asg pe_u pg_u hs hw h1) (ds_asgG h hg hP)
theorem xs_par {i j : Nat} {x y : Str} {a b : Expr} {px py pt : Pos} {kt k2 pt2} (hc : X.calm = true) (ki : Lk X i x) (kj : Lk X j y) (hij : i ≠ j) (hx : X.env.scope.names.lookup x = some .local) (hy : X.env.scope.names.lookup y = some .local)
    (hw : swappedStores [.Tuple [.Name x px, .Name y py] kt pt] (.Tuple [a, b] k2 pt2) X.env = pure (some [x, y])) (hs : swapsWithSole [.Tuple [.Name x px, .Name y py] kt pt] (.Tuple [a, b] k2 pt2) pos.line X.env = pure false)
    (ha : Xa X B Γ [a, b] [d1, d2]) (hP : P (.nx ((Γ.set i (.sh d1)).set j (.sh d2)))) : Xs X B Γ (.Assign [.Tuple [.Name x px, .Name y py] kt pt] (.Tuple [a, b] k2 pt2) pos) P :=
  xs_of (ps_par hc ki.nd ki.ix kj.ix hij hx hy pa_u hw hs) (ds_par ha hP)
theorem ds_aug {K : PySem.W.Frag} {i : Nat} {te : TE} {f : Int → Int → Int} (hi : Γ[i]? = some (.sh (.int m))) (h : DE K B te Γ (.int n)) (hP : P (.nx (Γ.set i (.sh (.int (f m n)))))) : DS K B (tAug i te (ipI f)) Γ P := fun D H Hs σ E q => by
  obtain ⟨v, e, p⟩ := E.sh hi
  cases p
  refine ⟨_, e, h H Hs σ E _ fun u H1 Hs1 g1 p1 => ?_⟩
  cases p1
  exact ⟨m, n, rfl, rfl, q _ hP H1 Hs1 _ ((E.grow g1).setSh i (.int _))⟩
theorem xs_augA {p2 : Pos} (k : Lk X i x) (hi : Γ[i]? = some (.sh (.int m))) (h : Xp X B Γ e (.int n)) (hP : P (.nx (Γ.set i (.sh (.int (m + n)))))) : Xs X B Γ (.AugAssign (.Name x p2) .Add e pos) P := xs_of (ps_aug k.nd k.ix k.loc pe_u ip_add k.fn) (ds_aug hi h hP)
theorem xs_augS {p2 : Pos} (k : Lk X i x) (hi : Γ[i]? = some (.sh (.int m))) (h : Xp X B Γ e (.int n)) (hP : P (.nx (Γ.set i (.sh (.int (m - n)))))) : Xs X B Γ (.AugAssign (.Name x p2) .Sub e pos) P := xs_of (ps_aug k.nd k.ix k.loc pe_u ip_sub k.fn) (ds_aug hi h hP)
/-! ### what is walked -/
theorem xi_list {tg : Expr} (h : Xp X B Γ e (.list ds)) : Xi X B Γ tg e ds := xi_of (pi_list pe_u) (di_list h)
theorem xi_tup {tg : Expr} (h : Xp X B Γ e (.tuple ds)) : Xi X B Γ tg e ds := xi_of (pi_tup pe_u) (di_tup h)
theorem xi_str {tg : Expr} (h : Xp X B Γ e (.str y)) : Xi X B Γ tg e (signsD y) := xi_of (pi_str pe_u) (di_str h)
theorem xi_rng1 {tg : Expr} (hb : Bi X "range") (he : St1 X e []) (h : Xp X B Γ e (.int n)) (hn : -(2 ^ 62) ≤ n ∧ n < 2 ^ 62) : Xi X B Γ tg (.Call (.Name "range" p') [e] [] pos) (rangeD 0 n.toNat) := xi_of (pi_range1 hb.gl hb.no pa_u he) (di_rng1 (xa_cons he h xa_nil) hn)
theorem xi_rng2 {tg : Expr} (hb : Bi X "range") (he : starEach [e, a] X.env = [(false, eval e X.env), (false, eval a X.env)]) (he1 : St1 X e [a]) (he2 : St1 X a []) (h : Xp X B Γ e (.int m)) (h2 : Xp X B Γ a (.int n)) (hm : -(2 ^ 62) ≤ m ∧ m < 2 ^ 62) (hn : -(2 ^ 62) ≤ n ∧ n < 2 ^ 62) : Xi X B Γ tg (.Call (.Name "range" p') [e, a] [] pos) (rangeD m (n - m).toNat) :=
  xi_of (pi_range2 hb.gl hb.no pa_u he he2) (di_rng2 (xa_cons he1 h (xa_cons he2 h2 xa_nil)) hm hn)
theorem xi_enum {tgs : List Expr} {kk : Nat} {p3 : Pos} (hb : Bi X "enumerate") (he : starEach [e] X.env = [(false, eval e X.env)]) (he1 : St1 X e []) (h : Xp X B Γ e (.list ds)) : Xi X B Γ (.Tuple tgs kk p3) (.Call (.Name "enumerate" p') [e] [] pos) (enumD 0 ds) := xi_of (pi_enum hb.gl hb.no pa_u he) (di_enum (xa_cons he1 h xa_nil))
/-! ### loops -/
theorem xs_for {tg iter : Expr} {body : List Stmt} (hp : PassesOwn (model X.prog X.w) X.A X.env X.xe) (hc : X.calm = true) (hs : ∀ x, foldedSetIterable iter X.env x = pure x) (h : Xi X B Γ tg iter ds) (I : Nat → Gm → Prop) (h0 : I 0 Γ)
    (hb : ∀ B' k d Γ', ds[k]? = some d → I k Γ' → ∃ js Γ2, Xg X tg js d Γ' Γ2 ∧ Xb X B' Γ2 body (turnS I k P)) (hd : ∀ Γ', I ds.length Γ' → P (.nx Γ')) : Xs X B Γ (.For tg iter body [] pos) P :=
  xs_of (ps_for hp hc pi_u pg_u pb_u hs) (ds_for h I h0 hb hd)
/-- what a while's turn leaves -/
def whS (I : Nat → Gm → Prop) (m : Nat) (P : Out → Prop) : Out → Prop
  | .nx Γ => ∃ m', m' < m ∧ I m' Γ
  | .ct Γ => ∃ m', m' < m ∧ I m' Γ
  | .bk Γ => P (.nx Γ)
  | .rt v => P (.rt v)
  | .ro v => P (.ro v)
  | .rm l es v => P (.rm l es v)
theorem xs_while {body : List Stmt} (hp : PassesOwn (model X.prog X.w) X.A X.env X.xe) (I : Nat → Gm → Prop) (m0 : Nat) (h0 : I m0 Γ)
    (hs : ∀ m Γ', I m Γ' → ∃ b, Xt X B Γ' c b ∧ (b = true → Xb X B Γ' body (whS I m P)) ∧ (b = false → P (.nx Γ'))) : Xs X B Γ (.While c body [] pos) P :=
  xs_of (ps_while hp pt_u pb_u) (ds_while I m0 h0 fun m Γ' hI => by
    obtain ⟨b, h1, h2, h3⟩ := hs m Γ' hI
    exact ⟨b, h1, fun hb => ds_imp (h2 hb) fun o ho => by cases o <;> exact ho, h3⟩)
/-! ### comprehensions -/
def uQ (X : Cx) (ifs : List Expr) : TT := fun σ H Q => ∃ t, PTs X ifs t ∧ t σ H Q
theorem pq_u {ifs : List Expr} : PTs X ifs (uQ X ifs) := ⟨fun pins s σ H Q I ⟨_, p, h⟩ => p.run pins s σ H Q I h⟩
def Xq (X : Cx) (B : Bs) (Γ : Gm) (ifs : List Expr) (b : Bool) : Prop := DT X.K B (uQ X ifs) Γ b
theorem xq_nil : Xq X B Γ [] true := fun H Hs σ E Q q => ⟨_, pts_nil, q H Hs (Gr.refl E.sub)⟩
theorem xq_one (h : Xt X B Γ c p) : Xq X B Γ [c] p := fun H Hs σ E Q q => ⟨_, pts_one pt_u, h H Hs σ E Q q⟩
/-- all blocks that such a comprehension may run in -/
def Blk (X : Cx) (scope : Scope) (X' : Cx) : Prop := ∃ s H C cl fp, X' = X.blk s H scope (compEnvC scope cl C X.env) fp
/-- the readings of a comprehension's block, and what they are worth -/
theorem lc_pieces {elt tg : Expr} {ifs : List Expr} {scope : Scope} {vs js : List Nat} (pr : PyData → Bool) (ev : PyData → PyData) (G2 : PyData → Gm)
    (hb : ∀ X', Blk X scope X' → ∀ B' d, d ∈ ds → Xg X' tg js d (wipeG Γ vs) (G2 d) ∧ Xq X' B' (G2 d) ifs (pr d) ∧ (pr d = true → Xp X' B' (G2 d) elt (ev d))) :
    ∃ (g : TG) (tt : TT) (te : TE), (∀ s H C cl fp, PG (X.blk s H scope (compEnvC scope cl C X.env) fp) tg g) ∧ (∀ s H C cl fp, PTs (X.blk s H scope (compEnvC scope cl C X.env) fp) ifs tt) ∧ (∀ s H C cl fp, PE (X.blk s H scope (compEnvC scope cl C X.env) fp) elt te) ∧
      ∀ wi, DI X.K B wi Γ ds → ds.length ≤ 1000000 → (∀ j ∈ js, j ∈ vs) → DL X.K B (tLc wi g tt te vs) Γ ((ds.filter pr).map ev) := by
  have bk : ∀ s H C cl fp, Blk X scope (X.blk s H scope (compEnvC scope cl C X.env) fp) := fun s H C cl fp => ⟨s, H, C, cl, fp, rfl⟩
  have hK : ∀ X', Blk X scope X' → X'.K = X.K := fun X' ⟨s, H, C, cl, fp, e⟩ => by rw [e]; all_goals rfl
  refine ⟨fun v σ H Q => ∀ X', Blk X scope X' → uG X' tg v σ H Q, fun σ H Q => ∀ X', Blk X scope X' → uQ X' ifs σ H Q, fun σ H Q => ∀ X', Blk X scope X' → uE X' elt σ H Q, fun s H C cl fp => ⟨fun pins s' σ H' v u Q I r h => pg_u.run pins s' σ H' v u Q I r (h _ (bk s H C cl fp))⟩,
    fun s H C cl fp => ⟨fun pins s' σ H' Q I h => pq_u.run pins s' σ H' Q I (h _ (bk s H C cl fp))⟩, fun s H C cl fp => ⟨fun pins s' σ H' Q I h => pe_u.run pins s' σ H' Q I (h _ (bk s H C cl fp))⟩, fun wi hi hz hv => dl_lc (js := js) hi pr ev hz hv fun B' d hd => ⟨G2 d, ?_, ?_, fun hp => ?_⟩⟩
  · intro B1 H Hs σ v E p Q q X' hX
    have := (hb X' hX B' d hd).1
    unfold Xg at this
    rw [hK X' hX] at this
    exact this B1 H Hs σ v E p Q q
  · intro H Hs σ E Q q X' hX
    have := (hb X' hX B' d hd).2.1
    unfold Xq at this
    rw [hK X' hX] at this
    exact this H Hs σ E Q q
  · intro H Hs σ E Q q X' hX
    have := (hb X' hX B' d hd).2.2 hp
    unfold Xp at this
    rw [hK X' hX] at this
    exact this H Hs σ E Q q
theorem xl_lc {elt tg iter : Expr} {ifs : List Expr} {scope : Scope} {own : List (Str × Nat)} {js : List Nat} (pr : PyData → Bool) (ev : PyData → PyData) (G2 : PyData → Gm) (hc : X.calm = true) (hN : X.N.Nodup) (ok : BlkOk X.N X.env.scope scope own) (hs : ∀ x, foldedSetIterable iter X.env x = pure x)
    (hi : Xi X B Γ tg iter ds) (hz : ds.length ≤ 1000000) (hv : ∀ j ∈ js, j ∈ own.map (·.2))
    (hb : ∀ X', Blk X scope X' → ∀ B' d, d ∈ ds → Xg X' tg js d (wipeG Γ (own.map (·.2))) (G2 d) ∧ Xq X' B' (G2 d) ifs (pr d) ∧ (pr d = true → Xp X' B' (G2 d) elt (ev d))) : Xl X B Γ (.ListComp elt [⟨tg, iter, ifs, 0⟩] scope pos) ((ds.filter pr).map ev) := by
  obtain ⟨g, tt, te, h1, h2, h3, h4⟩ := lc_pieces (B := B) pr ev G2 hb
  exact xl_of (pe_lc (own := own) (g := g) (tt := tt) (te := te) hc hN pi_u ok h1 h2 h3 hs) (h4 _ hi hz hv)
/-- y = [..] on one line; y one's own list, or shared -/
theorem xs_setLc {elt tg iter : Expr} {ifs : List Expr} {scope : Scope} {own : List (Str × Nat)} {js : List Nat} {py spos : Pos} (sl : Bool) (pr : PyData → Bool) (ev : PyData → PyData) (G2 : PyData → Gm) (k : Lk X i x) (hyl : X.env.scope.names.lookup x = some .local) (hc : X.calm = true) (ok : BlkOk X.N X.env.scope scope own)
    (hsw : swapsWith (.ListComp elt [⟨tg, iter, ifs, 0⟩] scope pos) (some (.Name x py)) spos.line X.env = pure true) (hs : ∀ x, foldedSetIterable iter X.env x = pure x)
    (hi : Xi X B Γ tg iter ds) (hz : ds.length ≤ 1000000) (hv : ∀ j ∈ js, j ∈ own.map (·.2))
    (hb : ∀ X', Blk X scope X' → ∀ B' d, d ∈ ds → Xg X' tg js d (wipeG Γ (own.map (·.2))) (G2 d) ∧ Xq X' B' (G2 d) ifs (pr d) ∧ (pr d = true → Xp X' B' (G2 d) elt (ev d)))
    (hP : P (.nx (Γ.set i (if sl then .ow ((ds.filter pr).map ev) else .sh (.list ((ds.filter pr).map ev)))))) : Xs X B Γ (.Assign [.Name x py] (.ListComp elt [⟨tg, iter, ifs, 0⟩] scope pos) spos) P := by
  obtain ⟨g, tt, te, h1, h2, h3, h4⟩ := lc_pieces (B := B) pr ev G2 hb
  refine xs_of (ps_setLc (i := i) (own := own) (g := g) (tt := tt) (te := te) hc k.nd k.ix hyl hsw pi_u ok h1 h2 h3 hs) ?_
  cases sl with
  | true => exact ds_asgO (h4 _ hi hz hv) hP
  | false => exact ds_asg (de_of_dl (h4 _ hi hz hv)) hP
/-! ### f-strings -/
theorem dj_nil {K : PySem.W.Frag} {acc : Str} : ∀ H Hs σ, Enb K B H Hs σ Γ → ∀ Q : Str → Hp → Prop, (∀ H' Hs', Gr H Hs H' Hs' → Q acc H') → tJs [] acc σ H Q := fun H Hs σ E Q q => q H Hs (Gr.refl E.sub)
theorem dj_cons {K : PySem.W.Frag} {t : TE} {ts : List TE} {acc out : Str} (h : DE K B t Γ (.str y)) (hz : (acc ++ y).length ≤ sizeLine) (hr : ∀ H Hs σ, Enb K B H Hs σ Γ → ∀ Q : Str → Hp → Prop, (∀ H' Hs', Gr H Hs H' Hs' → Q out H') → tJs ts (acc ++ y) σ H Q) :
    ∀ H Hs σ, Enb K B H Hs σ Γ → ∀ Q : Str → Hp → Prop, (∀ H' Hs', Gr H Hs H' Hs' → Q out H') → tJs (t :: ts) acc σ H Q := fun H Hs σ E Q q => h H Hs σ E _ fun v H1 Hs1 g1 p1 => by
  cases p1
  exact ⟨y, rfl, hz, hr H1 Hs1 σ (E.grow g1) Q fun H2 Hs2 g2 => q H2 Hs2 (g1.trans g2)⟩
/-- a part: {e} of a text, of an int; a written text -/
theorem xp_fmtS (h : Xp X B Γ e (.str y)) (hz : y.length ≤ sizeLine) : Xp X B Γ (.FormattedValue e (-1) none pos) (.str y) := xp_of (pe_fmt pe_u) fun H Hs σ E Q q => h H Hs σ E _ fun v H1 Hs1 g1 p1 => by
  cases p1
  exact .inl ⟨y, rfl, hz, q _ H1 Hs1 g1 (.str _)⟩
theorem xp_fmtI (h : Xp X B Γ e (.int m)) (hz : m.natAbs.log2 < 1920) : Xp X B Γ (.FormattedValue e (-1) none pos) (.str (toString m)) := xp_of (pe_fmt pe_u) fun H Hs σ E Q q => h H Hs σ E _ fun v H1 Hs1 g1 p1 => by
  cases p1
  exact .inr ⟨m, rfl, hz, q _ H1 Hs1 g1 (.str _)⟩
def uJ (X : Cx) (es : List Expr) : List TE := es.map (uE X)
theorem pj_u : ∀ es : List Expr, PJ X es (uJ X es)
  | [] => .nil
  | e :: es => .cons pe_u (pj_u es)
def Xj (X : Cx) (B : Bs) (Γ : Gm) (es : List Expr) (acc out : Str) : Prop := ∀ H Hs σ, Enb X.K B H Hs σ Γ → ∀ Q : Str → Hp → Prop, (∀ H' Hs', Gr H Hs H' Hs' → Q out H') → tJs (uJ X es) acc σ H Q
theorem xj_nil {acc : Str} : Xj X B Γ [] acc acc := dj_nil
theorem xj_cons {acc out : Str} (h : Xp X B Γ e (.str y)) (hz : (acc ++ y).length ≤ sizeLine) (hr : Xj X B Γ es (acc ++ y) out) : Xj X B Γ (e :: es) acc out := dj_cons h hz hr
theorem xp_joined {e1 e2 : Expr} {out : Str} (h : Xj X B Γ (e1 :: e2 :: es) Str.empty out) : Xp X B Γ (.JoinedStr (e1 :: e2 :: es) pos) (.str out) := xp_of (pe_joined (pj_u _)) fun H Hs σ E Q q => h H Hs σ E _ fun H1 Hs1 g1 => q _ H1 Hs1 g1 (.str _)
end
/-! ### a def by its body -/
section
variable {P : Program} {w : World} {K : PySem.W.Frag} {mg : Str → Option Value} {base : Heap}
abbrev Xc (P : Program) (w : World) (K : PySem.W.Frag) (mg : Str → Option Value) (base : Heap) (N : List Str) (qual : Str) (st : Stmt) (f : Addr) (cdv : Value) (A : Around) (outer : List Env) (s : Shared) (H : Hp) (E : XK) : Cx := (cxOf CX0 P w K mg base N qual (defScope st) f cdv A outer s H E).nox
def startG (N : List Str) (ds : List PyData) : Gm := ds.map .sh ++ List.replicate (N.length - ds.length) .un
def RetP (d : PyData) : Out → Prop := fun o => o = .rt d ∨ (d = .none ∧ ∃ Γ, o = .nx Γ)
theorem en_start {N : List Str} {vs : List V} {ds : List PyData} {H Hs : Hp} (s : ∀ a o, Hs a = some o → H a = some o) (tb : TabsIn Hs) (a : DqAll K Hs vs ds) : Enb K ⟨H, Hs, Hs⟩ H Hs (L2.start N vs) (startG N ds) := by
  refine ⟨Gr.refl s, Ext.refl _, ?_, fun i t o h1 h2 => ?_, fun i j ds' es l h1 h2 => ?_, tb⟩
  · unfold L2.start startG
    rw [List.length_append, List.length_append, List.length_map, List.length_map, List.length_replicate, List.length_replicate, a.length]
  · unfold startG at h1
    unfold L2.start at h2
    by_cases hi : i < ds.length
    · rw [List.getElem?_append_left (by rw [List.length_map]; exact hi), List.getElem?_map, List.getElem?_eq_getElem hi] at h1
      rw [List.getElem?_append_left (by rw [List.length_map, a.length]; exact hi), List.getElem?_map] at h2
      obtain ⟨v, hv, pv⟩ := a.get (List.getElem?_eq_getElem hi)
      rw [hv] at h2
      cases h1
      cases h2
      exact ⟨v, rfl, pv⟩
    · rw [List.getElem?_append_right (by rw [List.length_map]; omega), List.getElem?_replicate] at h1
      split at h1
      · cases h1; trivial
      · cases h1
  · unfold startG at h1
    by_cases hi : i < ds.length
    · rw [List.getElem?_append_left (by rw [List.length_map]; exact hi), List.getElem?_map, List.getElem?_eq_getElem hi] at h1
      cases h1
      exact fun w => nomatch w
    · rw [List.getElem?_append_right (by rw [List.length_map]; omega), List.getElem?_replicate] at h1
      split at h1
      · cases h1
        exact fun w => nomatch w
      · cases h1
/-- THE RULE: a def keeps a relation of data -/
theorem fn_ok {x qual : Str} {st : Stmt} {f : Addr} {fd : FuncData} {N ps : List Str} {k : Nat} {R : List PyData → PyData → Prop} (F : Fun K x qual st f fd) (S : FnScope N ps (defScope st)) (len : ∀ ds d, R ds d → ds.length = ps.length)
    (body : ∀ (cdv : Value) (A : Around) (outer : List Env) (s : Shared) (H : Hp) (E : XK) (B : Bs) (ds : List PyData) (d : PyData), Room k (Xc P w K mg base N qual st f cdv A outer s H E).A → R ds d → Xb (Xc P w K mg base N qual st f cdv A outer s H E) B (startG N ds) (defBody st) (RetP d)) : FnOk P w K mg base CX0 (k + 1) f fd ps (spR K R) := by
  refine F.ok S (fun vs H Q E h => ?_) (fun cdv A outer s H vs Q E hr h => ?_)
  · obtain ⟨ds, d, Hs, _, _, a, hR, _⟩ := h
    rw [a.length]
    exact len ds d hR
  · obtain ⟨ds, d, Hs, hsub, htb, a, hR, q⟩ := h
    refine ⟨_, pb_u, body cdv A outer s H E ⟨H, Hs, Hs⟩ ds d hr hR _ H Hs (L2.start N vs) (en_start hsub htb a) fun o ho => ?_⟩
    rcases ho with rfl | ⟨rfl, Γ, rfl⟩
    · exact fun v H' Hs' g p => q v H' Hs' g p
    · exact fun H' Hs' σ' E' => q .non H' Hs' E'.gr .non
/-- a def that gives a fresh list -/
def RetO (ds : List PyData) : Out → Prop := fun o => o = .ro ds
theorem fn_okO {x qual : Str} {st : Stmt} {f : Addr} {fd : FuncData} {N ps : List Str} {k : Nat} {R : List PyData → PyData → Prop} (F : Fun K x qual st f fd) (S : FnScope N ps (defScope st)) (len : ∀ ds d, R ds d → ds.length = ps.length)
    (body : ∀ (cdv : Value) (A : Around) (outer : List Env) (s : Shared) (H : Hp) (E : XK) (B : Bs) (ds es : List PyData), Room k (Xc P w K mg base N qual st f cdv A outer s H E).A → R ds (.list es) → Xb (Xc P w K mg base N qual st f cdv A outer s H E) B (startG N ds) (defBody st) (RetO es)) : FnOk P w K mg base CX0 (k + 1) f fd ps (spRO K R) := by
  refine F.ok S (fun vs H Q E h => ?_) (fun cdv A outer s H vs Q E hr h => ?_)
  · obtain ⟨ds, es, Hs, _, _, a, hR, _⟩ := h
    rw [a.length]
    exact len ds _ hR
  · obtain ⟨ds, es, Hs, hsub, htb, a, hR, q⟩ := h
    refine ⟨_, pb_u, body cdv A outer s H E ⟨H, Hs, Hs⟩ ds es hr hR _ H Hs (L2.start N vs) (en_start hsub htb a) fun o ho => ?_⟩
    cases ho
    exact fun p xs H' Hs' g n e s a => q p xs H' Hs' g n e s a
/-! ### what a def's scope says, told at once -/
/-- N: the def's names, G: the names of the module that it asks -/
def scF (N G : List Str) (st : Stmt) : Bool := (N.all fun x => ((defScope st).names.lookup x == some .local || (defScope st).names.lookup x == some .cell) && !(x == ("__debug__" : Str)) && !(x == ("__classdict__" : Str))) && decide N.Nodup && (G.all fun x => (defScope st).names.lookup x == some .globalImplicit)
section
variable {N G : List Str} {st : Stmt} {qual : Str} {f : Addr} {cdv : Value} {A : Around} {outer : List Env} {s : Shared} {H : Hp} {E : XK} {i : Nat} {x : Str}
theorem scF_loc (h : scF N G st = true) (hi : N[i]? = some x) : Loc (defScope st) x ∧ (x == ("__debug__" : Str)) = false ∧ (x == ("__classdict__" : Str)) = false := by
  unfold scF at h
  simp only [Bool.and_eq_true, List.all_eq_true, Bool.or_eq_true, Bool.not_eq_true', beq_iff_eq] at h
  obtain ⟨⟨a, b⟩, c⟩ := h.1.1 x (List.mem_of_getElem? hi)
  exact ⟨a, by simpa using b, by simpa using c⟩
theorem rk_of (h : scF N G st = true) (hi : N[i]? = some x) : Rk (Xc P w K mg base N qual st f cdv A outer s H E) i x := by
  obtain ⟨a, b, c⟩ := scF_loc h hi
  refine ⟨hi, ?_, b, c⟩
  rcases a with a | a
  · exact .inl a
  · exact .inr (.inl a)
theorem lk_of (h : scF N G st = true) (hi : N[i]? = some x) : Lk (Xc P w K mg base N qual st f cdv A outer s H E) i x := by
  obtain ⟨a, b, c⟩ := scF_loc h hi
  unfold scF at h
  simp only [Bool.and_eq_true, decide_eq_true_eq] at h
  exact ⟨h.1.2, hi, a, .inl rfl⟩
theorem gl_of (h : scF N G st = true) (hx : x ∈ G) : Gl (Xc P w K mg base N qual st f cdv A outer s H E) x := by
  unfold scF at h
  simp only [Bool.and_eq_true, List.all_eq_true, beq_iff_eq] at h
  exact h.2 x hx
theorem bi_of (h : scF N G st = true) (hx : x ∈ G) (hm : mg x = none) : Bi (Xc P w K mg base N qual st f cdv A outer s H E) x := ⟨gl_of h hx, hm⟩
end
/-- the same where some names of N are no names of the def's own scope (a comprehension's) -/
def scF2 (N Nf G : List Str) (st : Stmt) : Bool := (Nf.all fun x => ((defScope st).names.lookup x == some .local || (defScope st).names.lookup x == some .cell) && !(x == ("__debug__" : Str)) && !(x == ("__classdict__" : Str))) && decide N.Nodup && (G.all fun x => (defScope st).names.lookup x == some .globalImplicit)
section
variable {N Nf G : List Str} {st : Stmt} {qual : Str} {f : Addr} {cdv : Value} {A : Around} {outer : List Env} {s : Shared} {H : Hp} {E : XK} {i : Nat} {x : Str}
theorem scF2_loc (h : scF2 N Nf G st = true) (hi : x ∈ Nf) : Loc (defScope st) x ∧ (x == ("__debug__" : Str)) = false ∧ (x == ("__classdict__" : Str)) = false := by
  unfold scF2 at h
  simp only [Bool.and_eq_true, List.all_eq_true, Bool.or_eq_true, Bool.not_eq_true', beq_iff_eq] at h
  obtain ⟨⟨a, b⟩, c⟩ := h.1.1 x hi
  exact ⟨a, by simpa using b, by simpa using c⟩
theorem rk_of2 (h : scF2 N Nf G st = true) (hi : N[i]? = some x) (hx : x ∈ Nf) : Rk (Xc P w K mg base N qual st f cdv A outer s H E) i x := by
  obtain ⟨a, b, c⟩ := scF2_loc h hx
  refine ⟨hi, ?_, b, c⟩
  rcases a with a | a
  · exact .inl a
  · exact .inr (.inl a)
theorem lk_of2 (h : scF2 N Nf G st = true) (hi : N[i]? = some x) (hx : x ∈ Nf) : Lk (Xc P w K mg base N qual st f cdv A outer s H E) i x := by
  obtain ⟨a, b, c⟩ := scF2_loc h hx
  unfold scF2 at h
  simp only [Bool.and_eq_true, decide_eq_true_eq] at h
  exact ⟨h.1.2, hi, a, .inl rfl⟩
theorem gl_of2 (h : scF2 N Nf G st = true) (hx : x ∈ G) : Gl (Xc P w K mg base N qual st f cdv A outer s H E) x := by
  unfold scF2 at h
  simp only [Bool.and_eq_true, List.all_eq_true, beq_iff_eq] at h
  exact h.2 x hx
end
/-- a module's constant, by the module's names -/
structure CnM (K : PySem.W.Frag) (mg : Str → Option Value) (x : Str) (d : PyData) : Prop where
  ex : ∃ u v, mg x = some u ∧ RelV v u ∧ ∀ H, Dq K H v d
  db : (x == ("__debug__" : Str)) = false
theorem CnM.at {X : Cx} {x : Str} {d : PyData} (h : CnM X.K X.mg x d) : Cn X x d := ⟨h.ex, h.db⟩
/-- a def of the module by its promise -/
structure Dn (P : Program) (w : World) (K : PySem.W.Frag) (mg : Str → Option Value) (base : Heap) (k : Nat) (x : Str) (R : List PyData → PyData → Prop) : Prop where
  ex : ∃ (f : Addr) (fd : FuncData) (ps : List Str), mg x = some (.ref f) ∧ FnOk P w K mg base CX0 k f fd ps (spR K R) ∧ PySem.W.keepIn K (.ref f) = true ∧ Binds K fd ps []
theorem ce_of {N : List Str} {st : Stmt} {qual : Str} {f : Addr} {cdv : Value} {A : Around} {outer : List Env} {s : Shared} {H : Hp} {E : XK} {x : Str} {R : List PyData → PyData → Prop} {k j : Nat} (D : Dn P w K mg base k x R) (hr : Room j (Xc P w K mg base N qual st f cdv A outer s H E).A) (hk : k ≤ j) (hd : (x == ("__debug__" : Str)) = false) :
    Ce (Xc P w K mg base N qual st f cdv A outer s H E) x R := by
  obtain ⟨g, fd, ps, h1, h2, h3, h4⟩ := D.ex
  exact ⟨⟨k, g, fd, ps, h1, h2, h3, h4, hr.mono hk⟩, hd⟩
theorem dn_of {x qual : Str} {st : Stmt} {f : Addr} {fd : FuncData} {ps : List Str} {k : Nat} {R : List PyData → PyData → Prop} (F : Fun K x qual st f fd) (hm : mg x = some (.ref f)) (hb : Binds K fd ps []) (h : FnOk P w K mg base CX0 k f fd ps (spR K R)) : Dn P w K mg base k x R := ⟨f, fd, ps, hm, h, F.kp, hb⟩
structure DnO (P : Program) (w : World) (K : PySem.W.Frag) (mg : Str → Option Value) (base : Heap) (k : Nat) (x : Str) (R : List PyData → PyData → Prop) : Prop where
  ex : ∃ (f : Addr) (fd : FuncData) (ps : List Str), mg x = some (.ref f) ∧ FnOk P w K mg base CX0 k f fd ps (spRO K R) ∧ PySem.W.keepIn K (.ref f) = true ∧ Binds K fd ps []
structure CeO (X : Cx) (x : Str) (R : List PyData → PyData → Prop) : Prop where
  ex : ∃ (k : Nat) (f : Addr) (fd : FuncData) (ps : List Str), X.mg x = some (.ref f) ∧ FnOk X.prog X.w X.K X.mg X.base CX0 k f fd ps (spRO X.K R) ∧ PySem.W.keepIn X.K (.ref f) = true ∧ Binds X.K fd ps [] ∧ Room k X.A
  db : (x == ("__debug__" : Str)) = false
theorem ce_ofO {N : List Str} {st : Stmt} {qual : Str} {f : Addr} {cdv : Value} {A : Around} {outer : List Env} {s : Shared} {H : Hp} {E : XK} {x : Str} {R : List PyData → PyData → Prop} {k j : Nat} (D : DnO P w K mg base k x R) (hr : Room j (Xc P w K mg base N qual st f cdv A outer s H E).A) (hk : k ≤ j) (hd : (x == ("__debug__" : Str)) = false) :
    CeO (Xc P w K mg base N qual st f cdv A outer s H E) x R := by
  obtain ⟨g, fd, ps, h1, h2, h3, h4⟩ := D.ex
  exact ⟨⟨k, g, fd, ps, h1, h2, h3, h4, hr.mono hk⟩, hd⟩
theorem dn_ofO {x qual : Str} {st : Stmt} {f : Addr} {fd : FuncData} {ps : List Str} {k : Nat} {R : List PyData → PyData → Prop} (F : Fun K x qual st f fd) (hm : mg x = some (.ref f)) (hb : Binds K fd ps []) (h : FnOk P w K mg base CX0 k f fd ps (spRO K R)) : DnO P w K mg base k x R := ⟨f, fd, ps, hm, h, F.kp, hb⟩
theorem xl_call {X : Cx} {B : Bs} {Γ : Gm} {e : Expr} {es : List Expr} {ds ds' : List PyData} {p' pos : Pos} {x : Str} {R : List PyData → PyData → Prop} (hg : Gl X x) (c : CeO X x R) (he : St1 X e es) (hp : Pl1 X pos es) (ha : Xa X B Γ (e :: es) ds') (hr : R ds' (.list ds)) : Xl X B Γ (.Call (.Name x p') (e :: es) [] pos) ds := by
  obtain ⟨k, f, fd, ps, hm, F, kp, bi, hr'⟩ := c.ex
  exact xl_of (pe_call F hr' hg hm kp bi .nil (E := E0) pass0 pa_u c.db he hp) (dl_call ha hr)
theorem xs_retO {X : Cx} {B : Bs} {Γ : Gm} {P : Out → Prop} {e : Expr} {ds : List PyData} {pos : Pos} (h : Xl X B Γ e ds) (hP : P (.ro ds)) : Xs X B Γ (.Return (some e) pos) P := xs_of (ps_ret pe_u) (ds_retO h hP)
end
end Dl
set_option Elab.async false
set_option linter.all false
set_option maxRecDepth 100000
set_option maxHeartbeats 2000000
namespace Dl
open PySem L2 PyProof.Rows
inductive TyN where
  | int | str | bool | tuple | list | dict
def TyN.name : TyN → String
  | .int => "int"
  | .str => "str"
  | .bool => "bool"
  | .tuple => "tuple"
  | .list => "list"
  | .dict => "dict"
def isiD : PyData → TyN → Bool
  | .bool _, .bool => true
  | .bool _, .int => true
  | .int _, .int => true
  | .str _, .str => true
  | .tuple _, .tuple => true
  | .list _, .list => true
  | .dict _, .dict => true
  | _, _ => false
theorem isi_ok (d : PyData) (T : TyN) : kitB (tyD d) T.name = some (isiD d T) := by
  cases d <;> cases T <;> (simp only [tyD, TyN.name, isiD]; decide +kernel)
/-- what computing shows -/
structure Tt (p : Prop) : Prop where
  h : p
/-- the slots told anew -/
structure Sg (a b : Gm) : Prop where
  h : a = b
/-- what is left to the prover -/
structure Side (p : Prop) : Prop where
  h : p
inductive AddD : PyData → PyData → PyData → Prop where
  | int {m : Int} {n : Int} : AddD (.int m) (.int n) (.int (m + n))
  | str {y : Str} {z : Str} (hz : Side (y.length + z.length ≤ sizeLine)) : AddD (.str y) (.str z) (.str (y ++ z))
  | lst {es1 : List PyData} {es2 : List PyData} (hz : Side (es1.length + es2.length ≤ sizeLine)) : AddD (.list es1) (.list es2) (.list (es1 ++ es2))
  | tup {es1 : List PyData} {es2 : List PyData} (hz : Side (es1.length + es2.length ≤ sizeLine)) : AddD (.tuple es1) (.tuple es2) (.tuple (es1 ++ es2))
inductive MulD : PyData → PyData → PyData → Prop where
  | int {m : Int} {n : Int} (hz : Side (CMulW m n)) : MulD (.int m) (.int n) (.int (m * n))
  | str {y : Str} {n : Int} (hz : Side (MulOk y n)) : MulD (.str y) (.int n) (.str (Txt.mul y n))
inductive FdivD : Int → Int → Int → Prop where
  | lit {m n : Int} (h : 0 < n ∧ n < 1073741824) : FdivD m n (m / n)
  | gen {m n : Int} (h : Side (CDivG m n)) : FdivD m n (m.fdiv n)
inductive EqD : PyData → PyData → Bool → Prop where
  | int {m : Int} {n : Int} : EqD (.int m) (.int n) (decide (m = n))
  | str {y : Str} {z : Str} : EqD (.str y) (.str z) (decide (y = z))
  | bl {p : Bool} {q : Bool} : EqD (.bool p) (.bool q) (decide (p = q))
  | dat {d1 : PyData} {d2 : PyData} (h1 : Side (SeqAt.shaped d1 = true)) (h2 : Side (SeqAt.shaped d2 = true)) : EqD d1 d2 (PyData.eqv d1 d2)
inductive InD : PyData → PyData → Bool → Prop where
  | lst {d : PyData} {ds : List PyData} (f : Tt (flatD d = true)) (g : Tt (ds.all flatD = true)) : InD d (.list ds) (inD d ds)
  | tup {d : PyData} {ds : List PyData} (f : Tt (flatD d = true)) (g : Tt (ds.all flatD = true)) : InD d (.tuple ds) (inD d ds)
  | sgn {z : Str} {k : Nat} : InD (.str ⟨#[k]⟩) (.str z) (decide (k ∈ z.cps.toList))
inductive IxD : PyData → PyData → PyData → Prop where
  | lst {d : PyData} {ds : List PyData} {i : Int} (h : Side (atI ds i = some d)) : IxD (.list ds) (.int i) d
  | tup {d : PyData} {ds : List PyData} {i : Int} (h : Side (atI ds i = some d)) : IxD (.tuple ds) (.int i) d
  | str {y : Str} {i : Int} {k : Nat} (hz : Side (y.length ≤ sizeLine)) (h : Side (atI y.cps.toList i = some k)) : IxD (.str y) (.int i) (.str ⟨#[k]⟩)
inductive SlD : PyData → Option Int → Option Int → PyData → Prop where
  | lst {ds : List PyData} {l h : Option Int} : SlD (.list ds) l h (.list (cutD ds l h))
  | str {y : Str} {l h : Option Int} (hz : Side (y.length ≤ sizeLine)) : SlD (.str y) l h (.str (cutS y l h))
inductive LenD : PyData → Int → Prop where
  | lst {ds : List PyData} : LenD (.list ds) ds.length
  | tup {ds : List PyData} : LenD (.tuple ds) ds.length
  | str {y : Str} (hz : Side (y.length ≤ sizeLine)) : LenD (.str y) y.length
inductive IntD : PyData → Int → Prop where
  | str {m : Int} {y : Str} (hn : Side (PySem.intText? y = some m)) (hz : Side (y.length ≤ 640)) : IntD (.str y) m
  | bl {p : Bool} : IntD (.bool p) (if p then 1 else 0)
inductive SortD : PyData → List PyData → Prop where
  | ofI {ds : List PyData} {ns ms : List Int} (hm : Side (ds = ns.map .int ∧ ns.length < 64 ∧ ms.Perm ns ∧ ms.Pairwise (· ≤ ·))) : SortD (.list ds) (ms.map .int)
inductive TruD : PyData → Bool → Prop where
  | bl {p : Bool} : TruD (.bool p) p
  | int {m : Int} : TruD (.int m) (m != 0)
  | non : TruD .none false
  | str {y : Str} (hz : Side (y.length ≤ sizeLine)) : TruD (.str y) ((y.length : Int) != 0)
  | lst {ds : List PyData} : TruD (.list ds) (!ds.isEmpty)
  | tup {ds : List PyData} : TruD (.tuple ds) (!ds.isEmpty)
inductive UnpD : PyData → List PyData → Prop where
  | tup {ds : List PyData} : UnpD (.tuple ds) ds
  | lst {ds : List PyData} : UnpD (.list ds) ds
inductive ItrD : PyData → List PyData → Prop where
  | lst {ds : List PyData} : ItrD (.list ds) ds
  | tup {ds : List PyData} : ItrD (.tuple ds) ds
  | str {y : Str} : ItrD (.str y) (signsD y)
inductive FmtD : PyData → Str → Prop where
  | str {y : Str} (hz : Side (y.length ≤ sizeLine)) : FmtD (.str y) y
  | int {m : Int} (hz : Side (m.natAbs.log2 < 1920)) : FmtD (.int m) (toString m)
section
variable [Tabs]
variable {X : Cx} {B : Bs} {Γ : Gm} {e a b c o : Expr} {es : List Expr} {s st : Stmt} {ss rest : List Stmt} {d d1 d2 d3 : PyData} {ds es1 es2 : List PyData} {P : Out → Prop} {pos p' ap : Pos} {x : Str} {i : Nat} {p q r : Bool} {m n : Int} {y z : Str}
/-! ### rules by relations of data: no choice but by the text -/
theorem op_mulS : OpR X (binaryOp .Mult) (fun x y H Q => ∃ a k, x = .str a ∧ y = .int k ∧ MulOk a k ∧ Q (.str (Txt.mul a k)) H) := by
  intro pins s σ H x y v u Q I rx ry h
  obtain ⟨a, k, rfl, rfl, hk, q⟩ := h
  obtain ⟨t, rfl⟩ := rx
  obtain ⟨t', rfl⟩ := ry
  exact SB.mul hk fun t2 k2 => ⟨.str _, H, I.tok _, ⟨_, rfl⟩, q⟩
theorem xp_mulS (ha : Xp X B Γ a (.str y)) (hb : Xp X B Γ b (.int n)) (hk : MulOk y n) : Xp X B Γ (.BinOp a .Mult b pos) (.str (Txt.mul y n)) := xp_bin op_mulS (fun H Hs u v s hx hy Q q => by
  cases hx; cases hy
  exact ⟨y, n, rfl, rfl, hk, q _ H Hs (Gr.refl s) (.str _)⟩) ha hb
theorem xe_add (ha : Xp X B Γ a d1) (hb : Xp X B Γ b d2) (h : AddD d1 d2 d) : Xp X B Γ (.BinOp a .Add b pos) d := by
  cases h with
  | int => exact xp_add ha hb
  | str hz => exact xp_adds ha hb hz.h
  | lst hz => exact xp_l (xl_cat ha hb hz.h)
  | tup hz => exact xp_catT ha hb hz.h
theorem xe_sub (ha : Xp X B Γ a (.int m)) (hb : Xp X B Γ b (.int n)) : Xp X B Γ (.BinOp a .Sub b pos) (.int (m - n)) := xp_sub ha hb
theorem xe_mul (ha : Xp X B Γ a d1) (hb : Xp X B Γ b d2) (h : MulD d1 d2 d) : Xp X B Γ (.BinOp a .Mult b pos) d := by
  cases h with
  | int hz => exact xp_mul ha hb hz.h
  | str hz => exact xp_mulS ha hb hz.h
theorem xe_fdiv {k : Int} (ha : Xp X B Γ a (.int m)) (hb : Xp X B Γ b (.int n)) (hc : FdivD m n k) : Xp X B Γ (.BinOp a .FloorDiv b pos) (.int k) := by
  cases hc with
  | lit h => exact xp_bin op_fdiv (opd_I h fun _ => .int _) ha hb
  | gen h => exact xp_fdiv ha hb h.h
theorem xe_mod (ha : Xp X B Γ a (.int m)) (hb : Xp X B Γ b (.int n)) (hc : Side (0 < n)) : Xp X B Γ (.BinOp a .Mod b pos) (.int (m % n)) := xp_mod ha hb hc.h
theorem xe_pow (ha : Xp X B Γ a (.int m)) (hb : Xp X B Γ b (.int n)) (hc : Side (CPow m n)) : Xp X B Γ (.BinOp a .Pow b pos) (.int (m ^ n.toNat)) := xp_pow ha hb hc.h




/-- one comparison, as a value and as a test -/
def CmpOk (X : Cx) (op : CmpOp) (d1 d2 : PyData) (p : Bool) : Prop := ∃ rr : R2, OpR X (compareOp op) rr ∧ OpD X.K rr d1 d2 (.bool p)
theorem xe_cmp {op : CmpOp} (hm : Tt (behindInMarks op b = false)) (ha : Xp X B Γ a d1) (hb : Xp X B Γ b d2) (k : CmpOk X op d1 d2 p) : Xp X B Γ (.Compare a [op] [b] pos) (.bool p) := by
  obtain ⟨rr, ho, hr⟩ := k
  exact xp_cmp ho hr ha hb hm.h
theorem xte_cmp {op : CmpOp} (hm : Tt (behindInMarks op b = false)) (ha : Xp X B Γ a d1) (hb : Xp X B Γ b d2) (k : CmpOk X op d1 d2 p) : Xt X B Γ (.Compare a [op] [b] pos) p := by
  obtain ⟨rr, ho, hr⟩ := k
  exact xt_cmp ho hr ha hb hm.h
theorem ck_lt : CmpOk X .Lt (.int m) (.int n) (decide (m < n)) := ⟨_, op_lt, opd_I0 fun _ => .bl _⟩
theorem ck_le : CmpOk X .LtE (.int m) (.int n) (decide (m ≤ n)) := ⟨_, op_le, opd_I0 fun _ => .bl _⟩
theorem ck_gt : CmpOk X .Gt (.int m) (.int n) (decide (n < m)) := ⟨_, op_gt, opd_I0 fun _ => .bl _⟩
theorem ck_ge : CmpOk X .GtE (.int m) (.int n) (decide (n ≤ m)) := ⟨_, op_ge, opd_I0 fun _ => .bl _⟩
theorem ck_eqi : CmpOk X .Eq (.int m) (.int n) (decide (m = n)) := by
  rw [← dec_int]
  exact ⟨_, op_eq, opd_sc (f := fun x y => decide (x = y)) (fun _ _ _ _ h q => ⟨h, q⟩) rfl dq_int dq_int⟩
theorem ck_nei : CmpOk X .NotEq (.int m) (.int n) (!decide (m = n)) := by
  rw [← dec_int]
  exact ⟨_, op_ne, opd_sc (f := fun x y => !decide (x = y)) (fun _ _ _ _ h q => ⟨h, q⟩) rfl dq_int dq_int⟩
theorem ck_eqs : CmpOk X .Eq (.str y) (.str z) (decide (y = z)) := by
  rw [← dec_str]
  exact ⟨_, op_eq, opd_sc (f := fun x y => decide (x = y)) (fun _ _ _ _ h q => ⟨h, q⟩) rfl dq_str dq_str⟩
theorem ck_nes : CmpOk X .NotEq (.str y) (.str z) (!decide (y = z)) := by
  rw [← dec_str]
  exact ⟨_, op_ne, opd_sc (f := fun x y => !decide (x = y)) (fun _ _ _ _ h q => ⟨h, q⟩) rfl dq_str dq_str⟩
theorem ck_eqb : CmpOk X .Eq (.bool p) (.bool q) (decide (p = q)) := by
  rw [← dec_bl]
  exact ⟨_, op_eq, opd_sc (f := fun x y => decide (x = y)) (fun _ _ _ _ h q => ⟨h, q⟩) rfl dq_bl dq_bl⟩
theorem ck_neb : CmpOk X .NotEq (.bool p) (.bool q) (!decide (p = q)) := by
  rw [← dec_bl]
  exact ⟨_, op_ne, opd_sc (f := fun x y => !decide (x = y)) (fun _ _ _ _ h q => ⟨h, q⟩) rfl dq_bl dq_bl⟩
/-- room for a deep comparison -/
structure Rm (X : Cx) : Prop where
  h : X.A.units + 64 < cLine
theorem ck_eqd (hu : Rm X) (h1 : Side (SeqAt.shaped d1 = true)) (h2 : Side (SeqAt.shaped d2 = true)) : CmpOk X .Eq d1 d2 (PyData.eqv d1 d2) :=
  ⟨_, op_eqD hu.h, fun H Hs u v s hx hy Q q => ⟨d1, d2, (dp_sub s hx).plain (shaped_plain h1.h), (dp_sub s hy).plain (shaped_plain h2.h), h1.h, h2.h, q _ H Hs (Gr.refl s) (.bl _)⟩⟩
theorem ck_ned (hu : Rm X) (h1 : Side (SeqAt.shaped d1 = true)) (h2 : Side (SeqAt.shaped d2 = true)) : CmpOk X .NotEq d1 d2 (!PyData.eqv d1 d2) :=
  ⟨_, op_neD hu.h, fun H Hs u v s hx hy Q q => ⟨d1, d2, (dp_sub s hx).plain (shaped_plain h1.h), (dp_sub s hy).plain (shaped_plain h2.h), h1.h, h2.h, q _ H Hs (Gr.refl s) (.bl _)⟩⟩
theorem ck_isN : CmpOk X .Is d .none (isNone d) := ⟨_, op_isN, fun H Hs u v s hx hy Q q => by
  cases hy
  refine ⟨rfl, ?_⟩
  rw [isNone_v hx]
  exact q _ H Hs (Gr.refl s) (.bl _)⟩
theorem ck_notN : CmpOk X .IsNot d .none (!isNone d) := ⟨_, op_notN, fun H Hs u v s hx hy Q q => by
  cases hy
  refine ⟨rfl, ?_⟩
  rw [isNone_v hx]
  exact q _ H Hs (Gr.refl s) (.bl _)⟩
theorem ck_isB : CmpOk X .Is (.bool p) (.bool q) (decide (p = q)) := ⟨_, op_is_bl, fun H Hs u v s hx hy Q q => by
  cases hx; cases hy
  exact ⟨_, _, rfl, rfl, q _ H Hs (Gr.refl s) (.bl _)⟩⟩
theorem ck_notB : CmpOk X .IsNot (.bool p) (.bool q) (!decide (p = q)) := ⟨_, op_isnot_bl, fun H Hs u v s hx hy Q q => by
  cases hx; cases hy
  exact ⟨_, _, rfl, rfl, q _ H Hs (Gr.refl s) (.bl _)⟩⟩
theorem ck_inL (f : Tt (flatD d = true)) (g : Tt (ds.all flatD = true)) : CmpOk X .In d (.list ds) (inD d ds) := ⟨_, op_in_seq, opd_in (neg := false) f.h g.h (.inl rfl)⟩
theorem ck_inT (f : Tt (flatD d = true)) (g : Tt (ds.all flatD = true)) : CmpOk X .In d (.tuple ds) (inD d ds) := ⟨_, op_in_seq, opd_in (neg := false) f.h g.h (.inr rfl)⟩
theorem ck_ninL (f : Tt (flatD d = true)) (g : Tt (ds.all flatD = true)) : CmpOk X .NotIn d (.list ds) (!inD d ds) := ⟨_, op_notIn_seq, opd_in (neg := true) f.h g.h (.inl rfl)⟩
theorem ck_ninT (f : Tt (flatD d = true)) (g : Tt (ds.all flatD = true)) : CmpOk X .NotIn d (.tuple ds) (!inD d ds) := ⟨_, op_notIn_seq, opd_in (neg := true) f.h g.h (.inr rfl)⟩
theorem ck_inS {k : Nat} : CmpOk X .In (.str ⟨#[k]⟩) (.str z) (decide (k ∈ z.cps.toList)) := ⟨_, op_in_sign, fun H Hs u v s hx hy Q q => by
  cases hx; cases hy
  exact ⟨k, z, rfl, rfl, q _ H Hs (Gr.refl s) (.bl _)⟩⟩
theorem ck_ninS {k : Nat} : CmpOk X .NotIn (.str ⟨#[k]⟩) (.str z) (!decide (k ∈ z.cps.toList)) := ⟨_, op_notIn_sign, fun H Hs u v s hx hy Q q => by
  cases hx; cases hy
  exact ⟨k, z, rfl, rfl, q _ H Hs (Gr.refl s) (.bl _)⟩⟩
/-- a < b < c -/
theorem de_chain {K : PySem.W.Frag} {ta tb tc : TE} {rr rr' : R2} (ha : DE K B ta Γ d1) (hb : DE K B tb Γ d2) (hr : OpD K rr d1 d2 (.bool p)) (hc : DE K B tc Γ d3) (hr' : OpD K rr' d2 d3 (.bool q)) : DE K B (tChain rr rr' ta tb tc) Γ (.bool (p && q)) :=
  fun H Hs σ E Q q' => ha H Hs σ E _ fun v H1 Hs1 g1 p1 => hb H1 Hs1 σ (E.grow g1) _ fun u H2 Hs2 g2 p2 => hr H2 Hs2 v u g2.sub (p1.mono g2.exs) p2 _ fun w H3 Hs3 g3 p3 => by
    cases p3
    refine ⟨p, rfl, ?_⟩
    have E3 := ((E.grow g1).grow g2).grow g3
    cases p with
    | true =>
      show tc σ H3 _
      exact hc H3 Hs3 σ E3 _ fun z H4 Hs4 g4 p4 => hr' H4 Hs4 u z g4.sub ((p2.mono g3.exs).mono g4.exs) p4 _ fun y H5 Hs5 g5 p5 => q' y H5 Hs5 ((((g1.trans g2).trans g3).trans g4).trans g5) p5
    | false => exact q' _ H3 Hs3 ((g1.trans g2).trans g3) (.bl _)
theorem xe_chain {op op' : CmpOp} (hm : Tt (lastMarks [op, op'] [b, c] = false)) (ha : Xp X B Γ a d1) (hb : Xp X B Γ b d2) (k : CmpOk X op d1 d2 p) (hc : Xp X B Γ c d3) (k' : CmpOk X op' d2 d3 q) : Xp X B Γ (.Compare a [op, op'] [b, c] pos) (.bool (p && q)) := by
  obtain ⟨rr, ho, hr⟩ := k
  obtain ⟨rr', ho', hr'⟩ := k'
  exact xp_of (pe_chain ho ho' pe_u pe_u pe_u hm.h) (de_chain ha hb hr hc hr')
theorem xte_chain {op op' : CmpOp} (hm : Tt (lastMarks [op, op'] [b, c] = false)) (ha : Xp X B Γ a d1) (hb : Xp X B Γ b d2) (k : CmpOk X op d1 d2 p) (hc : Xp X B Γ c d3) (k' : CmpOk X op' d2 d3 q) : Xt X B Γ (.Compare a [op, op'] [b, c] pos) (p && q) := by
  obtain ⟨rr, ho, hr⟩ := k
  obtain ⟨rr', ho', hr'⟩ := k'
  exact xt_of (pt_chain ho ho' pe_u pe_u pe_u hm.h) (dt_B (de_chain ha hb hr hc hr'))
/-! ### arguments, displays, more -/
theorem xe_ix (hs : Tt (PlainIx b)) (ha : Xp X B Γ a d1) (hb : Xp X B Γ b d2) (h : IxD d1 d2 d) : Xp X B Γ (.Subscript a b pos) d := by
  cases h with
  | lst h => exact xp_ixL hs.h ha hb h.h
  | tup h => exact xp_ixT hs.h ha hb h.h
  | str hz h => exact xp_ixS hs.h ha hb hz.h h.h
theorem xe_sl {lo hi : Option Expr} {l h : Option Int} {p2 : Pos} (he : Xp X B Γ e d1) (hl : Xo X B Γ lo l) (hh : Xo X B Γ hi h) (k : SlD d1 l h d) : Xp X B Γ (.Subscript e (.Slice lo hi none p2) pos) d := by
  cases k with
  | lst => exact xp_l (xl_sl he hl hh)
  | str hz => exact xp_slS he hz.h hl hh
theorem xe_len (hb : Bi X "len") (he : Tt (St1 X e [])) (hp : Tt (Pl1 X pos [])) (h : Xp X B Γ e d) (k : LenD d n) : Xp X B Γ (.Call (.Name "len" p') [e] [] pos) (.int n) := by
  cases k with
  | lst => exact xp_lenL hb he.h hp.h h
  | tup => exact xp_lenT hb he.h hp.h h
  | str hz => exact xp_lenS hb he.h hp.h h hz.h
theorem xe_lenO (hb : Bi X "len") {p2 : Pos} (he : Tt (St1 X (.Name x p2) [])) (hp : Tt (Pl1 X pos [])) (h : Rk X i x) (k : Tt (Γ[i]? = some (.ow ds))) : Xp X B Γ (.Call (.Name "len" p') [.Name x p2] [] pos) (.int ds.length) := xp_lenO hb he.h hp.h h k.h
theorem xe_abs (hb : Bi X "abs") (he : Tt (St1 X e [])) (hp : Tt (Pl1 X pos [])) (h : Xp X B Γ e (.int m)) : Xp X B Γ (.Call (.Name "abs" p') [e] [] pos) (.int (if m < 0 then -m else m)) := xp_abs hb he.h hp.h h
theorem xe_min (hc : Tt (X.calm = true)) (hb : Bi X "min") (he : Tt (St1 X e [a])) (he2 : Tt (St1 X a [])) (hp : Tt (Pl1 X pos [a])) (h : Xp X B Γ e (.int m)) (h2 : Xp X B Γ a (.int n)) : Xp X B Γ (.Call (.Name "min" p') [e, a] [] pos) (.int (if n < m then n else m)) := xp_min hc.h hb he.h he2.h hp.h h h2
theorem xe_max (hc : Tt (X.calm = true)) (hb : Bi X "max") (he : Tt (St1 X e [a])) (he2 : Tt (St1 X a [])) (hp : Tt (Pl1 X pos [a])) (h : Xp X B Γ e (.int m)) (h2 : Xp X B Γ a (.int n)) : Xp X B Γ (.Call (.Name "max" p') [e, a] [] pos) (.int (if n > m then n else m)) := xp_max hc.h hb he.h he2.h hp.h h h2
theorem xe_str (hb : Bi X "str") (he : Tt (St1 X e [])) (hp : Tt (Pl1 X pos [])) (h : Xp X B Γ e (.int m)) (hz : Side (m.natAbs.log2 < 1920)) : Xp X B Γ (.Call (.Name "str" p') [e] [] pos) (.str (toString m)) := xp_strI hb he.h hp.h h hz.h
theorem xe_int (hb : Bi X "int") (he : Tt (St1 X e [])) (hp : Tt (Pl1 X pos [])) (h : Xp X B Γ e d) (k : IntD d m) : Xp X B Γ (.Call (.Name "int" p') [e] [] pos) (.int m) := by
  cases k with
  | str hn hz => exact xp_intS hb he.h hp.h h hn.h hz.h
  | bl => exact xp_intB hb he.h hp.h h
theorem sortD2 {m n : Int} : SortD (.list [.int m, .int n]) [.int (min m n), .int (max m n)] := by
  have := SortD.ofI (ds := [.int m, .int n]) (ns := [m, n]) (ms := [min m n, max m n]) ⟨rfl, (show 2 < 64 by decide), ?_, ?_⟩
  · exact this
  · by_cases h : m ≤ n
    · rw [Int.min_eq_left h, Int.max_eq_right h]
    · rw [Int.min_eq_right (by omega), Int.max_eq_left (by omega)]
      exact List.Perm.swap _ _ _
  · refine List.pairwise_cons.mpr ⟨fun x hx => ?_, by simp⟩
    rw [List.mem_singleton.mp hx]
    omega
theorem xe_sorted (hb : Bi X "sorted") (he : Tt (St1 X e [])) (hp : Tt (Pl1 X pos [])) (h : Xp X B Γ e d) (k : SortD d ds) : Xp X B Γ (.Call (.Name "sorted" p') [e] [] pos) (.list ds) := by
  cases k with
  | ofI hm =>
    obtain ⟨⟨rfl, h1, h2, h3⟩⟩ := hm
    exact xp_l (xl_sortI hb he.h hp.h h h1 h2 h3)
/-- math.gcd under its own name -/
structure Gc (X : Cx) (x : Str) : Prop where
  gl : Gl X x
  is : X.mg x = some (.builtin "math.gcd")
  db : (x == ("__debug__" : Str)) = false
theorem xe_gcd (g : Gc X x) (he : Tt (St1 X e [a])) (he2 : Tt (St1 X a [])) (hp : Tt (Pl1 X pos [a])) (h : Xp X B Γ e (.int m)) (h2 : Xp X B Γ a (.int n)) : Xp X B Γ (.Call (.Name x p') [e, a] [] pos) (.int ((Nat.gcd m.natAbs n.natAbs : Nat) : Int)) := xp_gcd g.gl g.is g.db he.h he2.h hp.h h h2
/-- a built-in class by its name -/
structure Ty (X : Cx) (x : Str) (T : TyN) : Prop where
  bi : Bi X x
  is : bootBuiltins x = some (.type T.name)
  nn : x ≠ "__name__"
  db : (x == ("__debug__" : Str)) = false
theorem xe_isi {T : TyN} {p2 : Pos} (hb : Bi X "isinstance") (ht : Ty X x T) (he : Tt (St1 X e [.Name x p2])) (he2 : Tt (St1 X (.Name x p2) [])) (hp : Tt (Pl1 X pos [.Name x p2])) (h : Xp X B Γ e d) (pl : plainD d = true) : Xp X B Γ (.Call (.Name "isinstance" p') [e, .Name x p2] [] pos) (.bool (isiD d T)) :=
  xp_isi hb ht.bi ht.is ht.nn ht.db he.h he2.h hp.h h pl (isi_ok d T)
theorem xe_partition (hb : Tt (Mb X o "partition")) (hf : Tt (Mf X pos e [])) (hl : Tt ((ap.endLine == pos.line) = true)) (he : Tt (St1 X e [])) (hp : Tt (Pl1 X pos [])) (ho : Xp X B Γ o (.str y)) (ha : Xp X B Γ e (.str z)) (h1 : Side ((z.length == 0) = false)) (h2 : Side (y.length ≤ sizeLine)) :
    Xp X B Γ (.Call (.Attribute o "partition" ap) [e] [] pos) (.tuple [.str (Txt.partition y z).1, .str (Txt.partition y z).2.1, .str (Txt.partition y z).2.2]) := xp_partition hb.h hf.h hl.h he.h hp.h ho ha h1.h h2.h
/-- a text cut, as known -/
structure Part (y z a s b : Str) : Prop where
  h : Txt.partition y z = (a, s, b)
theorem xe_partF {u v w : Str} (k : Part y z u v w) (hb : Tt (Mb X o "partition")) (hf : Tt (Mf X pos e [])) (hl : Tt ((ap.endLine == pos.line) = true)) (he : Tt (St1 X e [])) (hp : Tt (Pl1 X pos [])) (ho : Xp X B Γ o (.str y)) (ha : Xp X B Γ e (.str z)) (h1 : Side ((z.length == 0) = false)) (h2 : Side (y.length ≤ sizeLine)) :
    Xp X B Γ (.Call (.Attribute o "partition" ap) [e] [] pos) (.tuple [.str u, .str v, .str w]) := by
  have := xp_partition hb.h hf.h hl.h he.h hp.h ho ha h1.h h2.h
  rw [k.h] at this
  exact this
theorem xe_split (hb : Tt (Mb X o "split")) (hf : Tt (Mf X pos e [])) (hl : Tt ((ap.endLine == pos.line) = true)) (he : Tt (St1 X e [])) (hp : Tt (Pl1 X pos [])) (ho : Xp X B Γ o (.str y)) (ha : Xp X B Γ e (.str z)) (h1 : Side ((z.length == 0) = false)) (h2 : Side (y.length + 2 ≤ sizeLine)) :
    Xp X B Γ (.Call (.Attribute o "split" ap) [e] [] pos) (.list ((Txt.split y z).map .str)) := xp_l (xl_split hb.h hf.h hl.h he.h hp.h ho ha h1.h h2.h)
theorem xe_join {ys : List Str} (hb : Tt (Mb X o "join")) (hf : Tt (Mf X pos e [])) (hl : Tt ((ap.endLine == pos.line) = true)) (he : Tt (St1 X e [])) (hp : Tt (Pl1 X pos [])) (ho : Xp X B Γ o (.str y)) (ha : Xp X B Γ e (.list ds)) (hy : Side (ds = ys.map .str)) (hz : Side ((ys.map (·.length)).sum + ys.length * y.length ≤ 16777216)) :
    Xp X B Γ (.Call (.Attribute o "join" ap) [e] [] pos) (.str (Txt.join y ys)) := by
  obtain ⟨rfl⟩ := hy
  exact xp_join hb.h hf.h hl.h he.h hp.h ho ha hz.h
theorem xe_isdigit (hb : Tt (Mb X o "isdigit")) (hl : Tt ((ap.endLine == pos.line) = true)) (ho : Xp X B Γ o (.str y)) : Xp X B Γ (.Call (.Attribute o "isdigit" ap) [] [] pos) (.bool (Txt.isdigit y)) := xp_isdigit hb.h hl.h ho
theorem xe_isascii (hb : Tt (Mb X o "isascii")) (hl : Tt ((ap.endLine == pos.line) = true)) (ho : Xp X B Γ o (.str y)) : Xp X B Γ (.Call (.Attribute o "isascii" ap) [] [] pos) (.bool (Txt.isascii y)) := xp_isascii hb.h hl.h ho
theorem xe_upper (hb : Tt (Mb X o "upper")) (hl : Tt ((ap.endLine == pos.line) = true)) (ho : Xp X B Γ o (.str y)) (hz : Side (y.length ≤ 5592405)) : Xp X B Γ (.Call (.Attribute o "upper" ap) [] [] pos) (.str (Txt.upper y)) := xp_upper hb.h hl.h ho hz.h
/-- what a def of the module is called with, what it gives -/
structure Cal (R : List PyData → PyData → Prop) (ds : List PyData) (d : PyData) : Prop where
  h : R ds d
theorem xe_call {R : List PyData → PyData → Prop} (c : Ce X x R) (hg : Gl X x) (he : Tt (St1 X e es)) (hp : Tt (Pl1 X pos es)) (ha : Xa X B Γ (e :: es) ds) (hr : Cal R ds d) : Xp X B Γ (.Call (.Name x p') (e :: es) [] pos) d := xp_call hg c he.h hp.h ha hr.h
theorem xe_call0 {R : List PyData → PyData → Prop} (c : Ce X x R) (hg : Gl X x) (hr : Cal R [] d) : Xp X B Γ (.Call (.Name x p') [] [] pos) d := xp_call0 hg c hr.h
theorem xe_var (h : Rk X i x) (k : Tt (Γ[i]? = some (.sh d))) : Xp X B Γ (.Name x pos) d := xp_var h k.h
theorem xe_tup {x1} (h : Xa X B Γ es ds) (hl : Tt (decide (ds.length ≤ 16777216) = true)) : Xp X B Γ (.Tuple es x1 pos) (.tuple ds) := xp_tup h (by have := of_decide_eq_true hl.h; rw [sizeLine_eq]; exact this)
theorem xe_lst (h : Xa X B Γ es ds) (hl : Tt (decide (ds.length ≤ 16777216) = true)) : Xp X B Γ (.List es pos) (.list ds) := xp_l (xl_lst h (by have := of_decide_eq_true hl.h; rw [sizeLine_eq]; exact this))
theorem xle_lst (h : Xa X B Γ es ds) (hl : Tt (decide (ds.length ≤ 16777216) = true)) : Xl X B Γ (.List es pos) ds := xl_lst h (by have := of_decide_eq_true hl.h; rw [sizeLine_eq]; exact this)
theorem xae_cons (hs : Tt (St1 X e es)) (h : Xp X B Γ e d) (hr : Xa X B Γ es ds) : Xa X B Γ (e :: es) (d :: ds) := xa_cons hs.h h hr
/-- an answer that is known or open -/
theorem xe_and (h1 : Xp X B Γ a (.bool p)) (h2 : p = true → Xp X B Γ (.BoolOp .And (b :: es) pos) (.bool q)) : Xp X B Γ (.BoolOp .And (a :: b :: es) pos) (.bool (p && q)) := xp_and h1 h2
/-! tests -/
theorem xt_any (he : Tt (∀ whole, isTrue e X.env whole = (do let v ← whole; standAt e.pos; holding [v] (truthy v)))) (h : Xp X B Γ e d) (k : TruD d p) : Xt X B Γ e p := by
  cases k with
  | bl => exact xt_val he.h h
  | int => exact xt_tru he.h h trivial
  | non => exact xt_tru he.h h trivial
  | str hz => exact xt_tru he.h h hz.h
  | lst => exact xt_tru he.h h trivial
  | tup => exact xt_tru he.h h trivial
/-! ### statements -/
/-- a block's rest -/
def seqP (X : Cx) (B : Bs) (ss : List Stmt) (P : Out → Prop) : Out → Prop
  | .nx Γ => Xb X B Γ ss P
  | o => P o
theorem seq_nx (h : Xb X B Γ ss P) : seqP X B ss P (.nx Γ) := h
theorem seq_rt (h : P (.rt d)) : seqP X B ss P (.rt d) := h
theorem seq_ro (h : P (.ro ds)) : seqP X B ss P (.ro ds) := h
theorem seq_bk (h : P (.bk Γ)) : seqP X B ss P (.bk Γ) := h
theorem seq_ct (h : P (.ct Γ)) : seqP X B ss P (.ct Γ) := h
theorem xbe_cons (h : Xs X B Γ st (seqP X B ss P)) : Xb X B Γ (st :: ss) P := xb_of (pss_cons ps_u pb_u) (ds_seq (ds_imp h fun o ho => by cases o <;> exact ho))
theorem xbe_one (h : Xs X B Γ st P) : Xb X B Γ [st] P := xb_of (pss_one ps_u) h
theorem ret_rt (h : d1 = d) : RetP d (.rt d1) := .inl (by rw [h])
theorem turn_nx {I : Nat → Gm → Prop} {k : Nat} (h : I (k + 1) Γ) : turnS I k P (.nx Γ) := h
theorem turn_ct {I : Nat → Gm → Prop} {k : Nat} (h : I (k + 1) Γ) : turnS I k P (.ct Γ) := h
theorem turn_bk {I : Nat → Gm → Prop} {k : Nat} (h : P (.nx Γ)) : turnS I k P (.bk Γ) := h
theorem wh_nx {I : Nat → Gm → Prop} {k : Nat} (h : ∃ m', m' < k ∧ I m' Γ) : whS I k P (.nx Γ) := h
theorem wh_ct {I : Nat → Gm → Prop} {k : Nat} (h : ∃ m', m' < k ∧ I m' Γ) : whS I k P (.ct Γ) := h
theorem wh_bk {I : Nat → Gm → Prop} {k : Nat} (h : P (.nx Γ)) : whS I k P (.bk Γ) := h
theorem wh_rt {I : Nat → Gm → Prop} {k : Nat} (h : P (.rt d)) : whS I k P (.rt d) := h
theorem turn_rt {I : Nat → Gm → Prop} {k : Nat} (h : P (.rt d)) : turnS I k P (.rt d) := h
theorem xse_set {p2 : Pos} {Γ' : Gm} (k : Lk X i x) (hs : Tt (swapsWith e (some (.Name x p2)) pos.line X.env = pure false)) (h : Xp X B Γ e d) (hΓ : Sg (Γ.set i (.sh d)) Γ') (hP : P (.nx Γ')) : Xs X B Γ (.Assign [.Name x p2] e pos) P := xs_set k hs.h h (by rw [hΓ.h]; exact hP)
theorem xse_setO {p2 : Pos} {Γ' : Gm} (k : Lk X i x) (hs : Tt (swapsWith e (some (.Name x p2)) pos.line X.env = pure false)) (h : Xl X B Γ e ds) (hΓ : Sg (Γ.set i (.ow ds)) Γ') (hP : P (.nx Γ')) : Xs X B Γ (.Assign [.Name x p2] e pos) P := xs_setO k hs.h h (by rw [hΓ.h]; exact hP)
theorem xse_aug {p2 : Pos} {Γ' : Gm} (k : Lk X i x) (hi : Tt (Γ[i]? = some (.sh (.int m)))) (h : Xp X B Γ e (.int n)) (hΓ : Sg (Γ.set i (.sh (.int (m + n)))) Γ') (hP : P (.nx Γ')) : Xs X B Γ (.AugAssign (.Name x p2) .Add e pos) P := xs_augA k hi.h h (by rw [hΓ.h]; exact hP)
theorem xse_par {j : Nat} {x y : Str} {px py pt : Pos} {kt k2 pt2} {Γ' : Gm} (hc : Tt (X.calm = true)) (ki : Lk X i x) (kj : Lk X j y) (hij : Tt (decide (i ≠ j) = true)) (hx : Tt (X.env.scope.names.lookup x = some .local)) (hy : Tt (X.env.scope.names.lookup y = some .local))
    (hw : Tt (swappedStores [.Tuple [.Name x px, .Name y py] kt pt] (.Tuple [a, b] k2 pt2) X.env = pure (some [x, y]))) (hs : Tt (swapsWithSole [.Tuple [.Name x px, .Name y py] kt pt] (.Tuple [a, b] k2 pt2) pos.line X.env = pure false))
    (ha : Xa X B Γ [a, b] [d1, d2]) (hΓ : Sg ((Γ.set i (.sh d1)).set j (.sh d2)) Γ') (hP : P (.nx Γ')) : Xs X B Γ (.Assign [.Tuple [.Name x px, .Name y py] kt pt] (.Tuple [a, b] k2 pt2) pos) P := xs_par hc.h ki kj (of_decide_eq_true hij.h) hx.h hy.h hw.h hs.h ha (by rw [hΓ.h]; exact hP)
/-- a, b, .. = a tuple or a list -/
theorem xse_unp {tgs : List Expr} {kk : Nat} {js : List Nat} {Γ1 : Gm} (hc : Tt (X.calm = true)) (hs : Tt (swapsWithSole [.Tuple tgs kk p'] e pos.line X.env = pure false)) (hw : Tt (swappedStores [.Tuple tgs kk p'] e X.env = pure none)) (h1 : Tt ((assignEach [.Tuple tgs kk p'] X.env).map (·.2) = [assign (.Tuple tgs kk p') X.env]))
    (hn : Tt ((assignEach tgs X.env).length = tgs.length)) (hst : Tt ((assignEach tgs X.env).findIdx? (·.1) = none)) (h : Xp X B Γ e d) (u : UnpD d ds) (hl : Tt (ds.length = tgs.length)) (hg : Xgs X tgs js ds Γ Γ1) (hP : P (.nx Γ1)) : Xs X B Γ (.Assign [.Tuple tgs kk p'] e pos) P := by
  cases u with
  | tup => exact xs_asg hs.h hw.h h1.h h (xg_tup hc.h hn.h hst.h hl.h hg) hP
  | lst => exact xs_asg hs.h hw.h h1.h h (xg_unl hc.h hn.h hst.h hl.h hg) hP
theorem xge_name {p2 : Pos} {Γ' : Gm} (k : Lk X i x) (hΓ : Sg (Γ.set i (.sh d)) Γ') : Xg X (.Name x p2) [i] d Γ Γ' := by
  obtain ⟨rfl⟩ := hΓ
  exact xg_name k
theorem xgse_cons {tg : Expr} {tgs : List Expr} {js ks : List Nat} {Γ1 Γ2 : Gm} (hs : Tt ((assignEach (tg :: tgs) X.env).map (·.2) = assign tg X.env :: (assignEach tgs X.env).map (·.2))) (h : Xg X tg js d Γ Γ1) (hr : Xgs X tgs ks ds Γ1 Γ2) : Xgs X (tg :: tgs) (js ++ ks) (d :: ds) Γ Γ2 := xgs_cons hs.h h hr
theorem xge_tup {tgs : List Expr} {kk : Nat} {js : List Nat} {Γ1 : Gm} (hc : Tt (X.calm = true)) (hn : Tt ((assignEach tgs X.env).length = tgs.length)) (hst : Tt ((assignEach tgs X.env).findIdx? (·.1) = none)) (hl : Tt (ds.length = tgs.length)) (h : Xgs X tgs js ds Γ Γ1) : Xg X (.Tuple tgs kk pos) js (.tuple ds) Γ Γ1 := xg_tup hc.h hn.h hst.h hl.h h
theorem xse_app {p2 : Pos} {Γ' : Gm} (k : Rk X i x) (hs : Tt (swapsWith (.Call (.Attribute (.Name x p2) "append" ap) [e] [] p') none pos.line X.env = pure false)) (hb : Tt (Mb X (.Name x p2) "append")) (hf : Tt (Mf X p' e [])) (hl : Tt ((ap.endLine == p'.line) = true)) (he : Tt (St1 X e [])) (hp : Tt (Pl1 X p' []))
    (hi : Tt (Γ[i]? = some (.ow ds))) (h : Xp X B Γ e d) (hz : Side (ds.length < sizeLine)) (hΓ : Sg (Γ.set i (.ow (ds ++ [d]))) Γ') (hP : P (.nx Γ')) : Xs X B Γ (.Expr (.Call (.Attribute (.Name x p2) "append" ap) [e] [] p') pos) P := xs_app k hs.h hb.h hf.h hl.h he.h hp.h hi.h h hz.h (by rw [hΓ.h]; exact hP)
/-! iterables -/
theorem xie_any {tg : Expr} (h : Xp X B Γ e d) (k : ItrD d ds) : Xi X B Γ tg e ds := by
  cases k with
  | lst => exact xi_list h
  | tup => exact xi_tup h
  | str => exact xi_str h
theorem xie_rng1 {tg : Expr} (hb : Bi X "range") (he : Tt (St1 X e [])) (h : Xp X B Γ e (.int n)) (hn : Side (-(2 ^ 62) ≤ n ∧ n < 2 ^ 62)) : Xi X B Γ tg (.Call (.Name "range" p') [e] [] pos) (rangeD 0 n.toNat) := xi_rng1 hb he.h h hn.h
theorem xie_rng2 {tg : Expr} (hb : Bi X "range") (he1 : Tt (St1 X e [a])) (he2 : Tt (St1 X a [])) (h : Xp X B Γ e (.int m)) (h2 : Xp X B Γ a (.int n)) (hm : Side (-(2 ^ 62) ≤ m ∧ m < 2 ^ 62)) (hn : Side (-(2 ^ 62) ≤ n ∧ n < 2 ^ 62)) : Xi X B Γ tg (.Call (.Name "range" p') [e, a] [] pos) (rangeD m (n - m).toNat) :=
  xi_rng2 hb (by rw [he1.h, he2.h]; all_goals rfl) he1.h he2.h h h2 hm.h hn.h
theorem xie_enum {tgs : List Expr} {kk : Nat} {p3 : Pos} (hb : Bi X "enumerate") (he1 : Tt (St1 X e [])) (h : Xp X B Γ e (.list ds)) : Xi X B Γ (.Tuple tgs kk p3) (.Call (.Name "enumerate" p') [e] [] pos) (enumD 0 ds) := xi_enum hb (by rw [he1.h]; all_goals rfl) he1.h h
theorem xje_cons {acc out : Str} (h : Xp X B Γ e (.str y)) (hz : Side ((acc ++ y).length ≤ sizeLine)) (hr : Xj X B Γ es (acc ++ y) out) : Xj X B Γ (e :: es) acc out := xj_cons h hz.h hr
theorem xe_fmt (h : Xp X B Γ e d) (k : FmtD d y) : Xp X B Γ (.FormattedValue e (-1) none pos) (.str y) := by
  cases k with
  | str hz => exact xp_fmtS h hz.h
  | int hz => exact xp_fmtI h hz.h
end
section
variable [Tabs]
variable {X : Cx} {B : Bs} {Γ : Gm} {pos : Pos}
theorem xe_dict0 : Xp X B Γ (.Dict [] [] pos) (.dict []) := xp_of pe_dnewK fun H Hs σ E Q q => fun p n => q (.ref p) _ (upd Hs p (.dK [])) ((Gr.refl E.sub).share n) (.dic (.inl upd_same) .nil)
end
/-! ### what is left, made lighter -/
inductive IntsL : List PyData → List Int → Prop where
  | nil : IntsL [] []
  | cons {a : Int} {ds : List PyData} {L : List Int} : IntsL ds L → IntsL (.int a :: ds) (a :: L)
inductive StrsL : List PyData → List Str → Prop where
  | nil : StrsL [] []
  | cons {a : Str} {ds : List PyData} {L : List Str} : StrsL ds L → StrsL (.str a :: ds) (a :: L)
theorem IntsL.eq {ds : List PyData} {L : List Int} (h : IntsL ds L) : ds = L.map .int := by
  induction h with
  | nil => rfl
  | cons _ ih => rw [ih]; rfl
theorem StrsL.eq {ds : List PyData} {L : List Str} (h : StrsL ds L) : ds = L.map .str := by
  induction h with
  | nil => rfl
  | cons _ ih => rw [ih]; rfl
theorem atI_pos {α : Type} {xs : List α} {i : Int} (h0 : 0 ≤ i) (h1 : i < xs.length) : atI xs i = xs[i.toNat]? := by
  unfold atI ixN
  rw [if_pos h0, if_pos h1]; rfl
theorem at_ints {ds : List PyData} {L : List Int} {i : Int} (h : IntsL ds L) (hi : Side (0 ≤ i ∧ i < L.length)) : Side (atI ds i = some (.int (L.getD i.toNat 0))) := by
  obtain ⟨h0, h1⟩ := hi.h
  refine ⟨?_⟩
  rw [h.eq, atI_pos h0 (by rw [List.length_map]; exact h1), List.getElem?_map, List.getD_eq_getElem?_getD, List.getElem?_eq_getElem (show i.toNat < L.length by omega)]; rfl
theorem at_any {ds : List PyData} {i : Int} (hi : Side (0 ≤ i ∧ i < ds.length)) : Side (atI ds i = some (ds.getD i.toNat .none)) := by
  obtain ⟨h0, h1⟩ := hi.h
  refine ⟨?_⟩
  rw [atI_pos h0 h1, List.getD_eq_getElem?_getD, List.getElem?_eq_getElem (show i.toNat < ds.length by omega)]; rfl
theorem getD_all {α : Type} {p : α → Prop} {L : List α} {i : Nat} {d : α} (h : ∀ x ∈ L, p x) (hi : i < L.length) : p (L.getD i d) := by
  rw [List.getD_eq_getElem?_getD, List.getElem?_eq_getElem hi]
  exact h _ (List.getElem_mem hi)
theorem at_0 {a : PyData} {r : List PyData} : Side (atI (a :: r) 0 = some a) := ⟨atI_nat (j := 0) rfl⟩
theorem at_1 {a b : PyData} {r : List PyData} : Side (atI (a :: b :: r) 1 = some b) := ⟨atI_nat (j := 1) rfl⟩
theorem at_2 {a b c : PyData} {r : List PyData} : Side (atI (a :: b :: c :: r) 2 = some c) := ⟨atI_nat (j := 2) rfl⟩
theorem at_strs {ds : List PyData} {L : List Str} {i : Int} (h : StrsL ds L) (hi : Side (0 ≤ i ∧ i < L.length)) : Side (atI ds i = some (.str (L.getD i.toNat Str.empty))) := by
  obtain ⟨h0, h1⟩ := hi.h
  refine ⟨?_⟩
  rw [h.eq, atI_pos h0 (by rw [List.length_map]; exact h1), List.getElem?_map, List.getD_eq_getElem?_getD, List.getElem?_eq_getElem (show i.toNat < L.length by omega)]; rfl
theorem side_mul {m n : Int} (a b : Nat) (ha : m.natAbs < 2 ^ a) (hb : n.natAbs < 2 ^ b) (h0 : 0 < a := by decide) (h1 : 0 < b := by decide) (h : a + b ≤ 1000000 := by decide) : Side (CMulW m n) := ⟨wide_mul ha hb h0 h1 h⟩
theorem two64 : (2 : Nat) ^ 64 = 18446744073709551616 := by decide
theorem side_mul64 {m n : Int} (h : -18446744073709551616 < m ∧ m < 18446744073709551616 ∧ -18446744073709551616 < n ∧ n < 18446744073709551616) : Side (CMulW m n) := by
  refine side_mul 64 64 ?_ ?_ <;> rw [two64] <;> omega
theorem side_fdiv {m n : Int} (a : Nat) (h : n ≠ 0) (hb : n.natAbs < 2 ^ a) (h0 : 0 < a := by decide) (h9 : a ≤ 9000 := by decide) : Side (CDivG m n) := ⟨h, Nat.lt_of_lt_of_le (PySem.Flt.log2_lt_of h0 hb) h9⟩
theorem side_fdiv64 {m n : Int} (h : n ≠ 0 ∧ -18446744073709551616 < n ∧ n < 18446744073709551616) : Side (CDivG m n) := by
  refine side_fdiv 64 h.1 ?_
  rw [two64]
  omega
theorem side_str {m : Int} (a : Nat) (hb : m.natAbs < 2 ^ a) (h0 : 0 < a := by decide) (h9 : a ≤ 1920 := by decide) : Side (m.natAbs.log2 < 1920) := ⟨Nat.lt_of_lt_of_le (PySem.Flt.log2_lt_of h0 hb) h9⟩
theorem side_size {n : Nat} (h : n ≤ 1000000) : n ≤ sizeLine := by rw [sizeLine_eq]; omega
end Dl
set_option Elab.async false
set_option linter.all false
set_option maxRecDepth 100000
set_option maxHeartbeats 2000000
namespace Sm
open PySem L2 Dl PySem.NumText TL
/-! ### sizes -/
def Bd (k : Nat) (n : Int) : Prop := n.natAbs < 2 ^ k
theorem Bd.mono {j k : Nat} {n : Int} (h : Bd j n) (e : j ≤ k := by decide) : Bd k n := Nat.lt_of_lt_of_le h (Nat.pow_le_pow_right (by decide) e)
theorem Bd.le {k : Nat} {m n : Int} (h : Bd k n) (e : m.natAbs ≤ n.natAbs) : Bd k m := Nat.lt_of_le_of_lt e h
theorem Bd.mul {j k : Nat} {m n : Int} (h : Bd j m) (h2 : Bd k n) : Bd (j + k) (m * n) := wide_lt h h2
theorem Bd.add {k : Nat} {m n : Int} (h : Bd k m) (h2 : Bd k n) : Bd (k + 1) (m + n) := by
  unfold Bd at *
  rw [Nat.pow_succ]
  omega
theorem Bd.neg {k : Nat} {m : Int} (h : Bd k m) : Bd k (-m) := by
  unfold Bd at *
  rw [Int.natAbs_neg]
  exact h
theorem Bd.sub {k : Nat} {m n : Int} (h : Bd k m) (h2 : Bd k n) : Bd (k + 1) (m - n) := by
  rw [Int.sub_eq_add_neg]
  exact h.add h2.neg
theorem Bd.of {k : Nat} {n : Int} (h : n.natAbs < 2 ^ k) : Bd k n := h
theorem Bd.of64 {n : Int} (h : -18446744073709551616 < n ∧ n < 18446744073709551616) : Bd 64 n := by
  unfold Bd
  rw [two64]
  omega
theorem side_mulB (j k : Nat) {m n : Int} (h : Bd j m) (h2 : Bd k n) (h0 : 0 < j := by decide) (h1 : 0 < k := by decide) (e : j + k ≤ 1000000 := by decide) : Side (CMulW m n) := side_mul j k h h2 h0 h1 e
theorem side_fdivB (k : Nat) {m n : Int} (h : n ≠ 0) (h2 : Bd k n) (h0 : 0 < k := by decide) (h9 : k ≤ 9000 := by decide) : Side (CDivG m n) := side_fdiv k h h2 h0 h9
theorem side_strB (k : Nat) {m : Int} (h : Bd k m) (h0 : 0 < k := by decide) (h9 : k ≤ 1920 := by decide) : Side (m.natAbs.log2 < 1920) := side_str k h h0 h9
/-! ### shares -/
abbrev pairD (z : Int × Int) : PyData := .tuple [.int z.1, .int z.2]
def gcdI (n p : Int) : Int := ((Nat.gcd n.natAbs p.natAbs : Nat) : Int)
theorem gcdI_pos {n p : Int} (h : p ≠ 0) : 0 < gcdI n p := by
  unfold gcdI
  have : 0 < Nat.gcd n.natAbs p.natAbs := Nat.gcd_pos_of_pos_right _ (by omega)
  omega
theorem gcdI_le {n p : Int} (h : p ≠ 0) : (gcdI n p).natAbs ≤ p.natAbs := by
  unfold gcdI
  rw [Int.natAbs_natCast]
  exact Nat.le_of_dvd (by omega) (Nat.gcd_dvd_right _ _)
theorem gcdI_dvd1 (n p : Int) : gcdI n p ∣ n := Int.ofNat_dvd_left.mpr (Nat.gcd_dvd_left _ _)
theorem gcdI_dvd2 (n p : Int) : gcdI n p ∣ p := Int.ofNat_dvd_left.mpr (Nat.gcd_dvd_right _ _)
/-- one parted by the other in lowest terms -/
def redI (n p : Int) : Int × Int := ((if p < 0 then -n else n) / gcdI n p, (if p < 0 then -p else p) / gcdI n p)
theorem red_neg {n p : Int} (h : p < 0) : (n.fdiv (-gcdI n p), p.fdiv (-gcdI n p)) = redI n p := by
  have g := gcdI_pos (n := n) (p := p) (by omega)
  have e : ∀ x : Int, x.fdiv (-gcdI n p) = (-x) / gcdI n p := fun x => by
    rw [← Int.fdiv_eq_ediv_of_nonneg _ (by omega), ← Int.neg_fdiv_neg, Int.neg_neg]
  unfold redI
  rw [if_pos h, if_pos h, e, e]
theorem red_pos {n p : Int} (h : ¬ p < 0) : (n.fdiv (gcdI n p), p.fdiv (gcdI n p)) = redI n p := by
  have e : ∀ x : Int, x.fdiv (gcdI n p) = x / gcdI n p := fun x => Int.fdiv_eq_ediv_of_nonneg _ (by unfold gcdI; omega)
  unfold redI
  rw [if_neg h, if_neg h, e, e]
theorem red_neg2 (n p : Int) (h : p < 0) : redI (-n) (-p) = redI n p := by
  unfold redI
  rw [if_neg (by omega), if_neg (by omega), if_pos h, if_pos h]
  unfold gcdI
  rw [Int.natAbs_neg, Int.natAbs_neg]
theorem ediv_natAbs_le (x g : Int) (h : 0 < g) : (x / g).natAbs ≤ x.natAbs := by
  by_cases hx : 0 ≤ x
  · have h1 := Int.ediv_nonneg hx (Int.le_of_lt h)
    have h2 : x / g ≤ x := Int.ediv_le_self _ hx
    omega
  · have h1 : x ≤ x / g := by
      have := Int.le_ediv_of_mul_le h (show x * g ≤ x by
        have h3 : x * g ≤ x * 1 := Int.mul_le_mul_of_nonpos_left (by omega) (by omega)
        omega)
      exact this
    have h2 : x / g < 0 := Int.ediv_neg_of_neg_of_pos (by omega) h
    omega
theorem red_le1 (n : Int) {p : Int} (h : p ≠ 0) : (redI n p).1.natAbs ≤ n.natAbs := by
  unfold redI
  have g := gcdI_pos (n := n) h
  refine Nat.le_trans (ediv_natAbs_le _ _ g) ?_
  split <;> omega
theorem red_le2 (n : Int) {p : Int} (h : p ≠ 0) : (redI n p).2.natAbs ≤ p.natAbs := by
  unfold redI
  have g := gcdI_pos (n := n) h
  refine Nat.le_trans (ediv_natAbs_le _ _ g) ?_
  split <;> omega
theorem red_pos2 (n : Int) {p : Int} (h : p ≠ 0) : 0 < (redI n p).2 := by
  unfold redI
  have g := gcdI_pos (n := n) h
  have d : gcdI n p ∣ (if p < 0 then -p else p) := by
    split
    · exact Int.dvd_neg.mpr (gcdI_dvd2 n p)
    · exact gcdI_dvd2 n p
  obtain ⟨k, hk⟩ := d
  show 0 < (if p < 0 then -p else p) / gcdI n p
  rw [hk, Int.mul_ediv_cancel_left _ (by omega)]
  have hp : 0 < (if p < 0 then -p else p) := by split <;> omega
  rw [hk] at hp
  exact Int.pos_of_mul_pos_right hp (by omega) |> fun h => by
    first
    | exact h
    | omega
theorem red_gcd (n : Int) {p : Int} (h : p ≠ 0) : gcdI (redI n p).1 (redI n p).2 = 1 := by
  have g := gcdI_pos (n := n) h
  have e : ∀ x : Int, ((if p < 0 then -x else x) / gcdI n p).natAbs = x.natAbs / (Nat.gcd n.natAbs p.natAbs) ∨ ¬ gcdI n p ∣ x := fun x => by
    by_cases hd : gcdI n p ∣ x
    · left
      obtain ⟨k, hk⟩ := hd
      have e1 : (if p < 0 then -x else x) = gcdI n p * (if p < 0 then -k else k) := by
        split
        · rw [hk, Int.mul_neg]
        · exact hk
      rw [e1, Int.mul_ediv_cancel_left _ (by omega), hk, Int.natAbs_mul]
      have e2 : (gcdI n p).natAbs = Nat.gcd n.natAbs p.natAbs := by unfold gcdI; rw [Int.natAbs_natCast]
      rw [e2, Nat.mul_div_cancel_left _ (by unfold gcdI at g; omega)]
      split <;> omega
    · exact .inr hd
  have e1 := (e n).resolve_right fun z => z (gcdI_dvd1 n p)
  have e2 := (e p).resolve_right fun z => z (gcdI_dvd2 n p)
  unfold gcdI redI
  rw [show (((if p < 0 then -n else n) / gcdI n p, (if p < 0 then -p else p) / gcdI n p) : Int × Int).1 = (if p < 0 then -n else n) / gcdI n p from rfl, show (((if p < 0 then -n else n) / gcdI n p, (if p < 0 then -p else p) / gcdI n p) : Int × Int).2 = (if p < 0 then -p else p) / gcdI n p from rfl, e1, e2,
    Nat.gcd_div (Nat.gcd_dvd_left _ _) (Nat.gcd_dvd_right _ _), Nat.div_self (by unfold gcdI at g; omega)]
  rfl
/-- a pair in lowest terms stays -/
theorem red_low {a b : Int} (hb : 0 < b) (hg : gcdI a b = 1) : redI a b = (a, b) := by
  unfold redI
  rw [if_neg (by omega), if_neg (by omega), hg, Int.ediv_one, Int.ediv_one]
def isWhole : PyData → Bool
  | .int _ => true
  | _ => false
def isShare : PyData → Bool
  | .tuple ds => match ds with
    | [a, b] => match a, b with
      | .int n, .int m => decide (1 ≤ m) && decide (gcdI n m = 1)
      | _, _ => false
    | _ => false
  | _ => false
theorem whole_is {d : PyData} (h : isWhole d = true) : ∃ n, d = .int n := by
  cases d <;> first | exact ⟨_, rfl⟩ | cases h
theorem share_red (n : Int) {p : Int} (h : p ≠ 0) : isShare (pairD (redI n p)) = true := by
  show (decide (1 ≤ (redI n p).2) && decide (gcdI (redI n p).1 (redI n p).2 = 1)) = true
  rw [decide_eq_true (by have := red_pos2 n h; omega), decide_eq_true (red_gcd n h)]; rfl
theorem isShare_no {a b : PyData} (h : isWhole a = false ∨ isWhole b = false) : isShare (.tuple [a, b]) = false := by
  cases a <;> cases b <;> first | rfl | (rcases h with h | h <;> cases h)
theorem isShare_len {ds : List PyData} (h : ds.length ≠ 2) : isShare (.tuple ds) = false := by
  match ds, h with
  | [], _ => rfl
  | [_], _ => rfl
  | [_, _], h => exact absurd rfl h
  | _ :: _ :: _ :: _, _ => rfl
theorem slash_signs : tl (Str.ofString "/") = 47 :: [] := by decide +kernel
theorem part_len (y : Str) : (Txt.partition y "/").1.length ≤ y.length ∧ (Txt.partition y "/").2.2.length ≤ y.length := by
  have g : ∀ (S l acc a b : List Nat), par S acc l = some (a, b) → a.length + b.length ≤ acc.length + l.length := fun S l => by
    induction l with
    | nil => intro acc a b h; cases h
    | cons c r ih =>
      intro acc a b h
      unfold par at h
      split at h
      · cases h
        rw [List.length_drop]
        omega
      · have := ih _ _ _ h
        rw [List.length_append, List.length_singleton] at this
        rw [List.length_cons]
        omega
  rw [partition_par y "/" (by rw [slash_signs]; simp)]
  cases h : par (tl "/") [] (tl y) with
  | none => exact ⟨Nat.le_refl _, Nat.zero_le _⟩
  | some z =>
    obtain ⟨a, b⟩ := z
    have := g _ _ _ _ _ h
    rw [List.length_nil, Nat.zero_add] at this
    have e1 : (⟨a.toArray⟩ : Str).length = a.length := by rw [len_tl]
    have e2 : (⟨b.toArray⟩ : Str).length = b.length := by rw [len_tl]
    show (⟨a.toArray⟩ : Str).length ≤ _ ∧ (⟨b.toArray⟩ : Str).length ≤ _
    rw [e1, e2, len_tl]
    exact ⟨by omega, by omega⟩
/-! ### figures -/
def digC (c : Nat) : Bool := decide (48 ≤ c) && decide (c ≤ 57)
def figOk (l : List Nat) : Bool := !l.isEmpty && l.all digC && !(l.head? == some 48 && decide (1 < l.length))
def figI (m : Nat) (y : Str) : Option Int := if decide (y.length ≤ m) && figOk y.cps.toList then some ((digitsVal y.cps.toList : Nat) : Int) else none
def optI : Option Int → PyData
  | none => .none
  | some i => .int i
def optP : Option (Int × Int) → PyData
  | none => .none
  | some z => pairD z
theorem isDigit_small : ∀ c : Nat, c < 128 → Unicode.isDigit c = digC c := by decide +kernel
theorem len_list (y : Str) : y.length = y.cps.toList.length := by simp [Str.length]
theorem ascii_digits {y : Str} : (Txt.isascii y && Txt.isdigit y) = (!y.cps.toList.isEmpty && y.cps.toList.all digC) := by
  unfold Txt.isascii Txt.isdigit
  rw [len_list, ← Array.all_toList, ← Array.all_toList]
  generalize y.cps.toList = l
  have e : ∀ l : List Nat, (l.all (fun x => decide (x < 128)) && l.all Unicode.isDigit) = l.all digC := fun l => by
    induction l with
    | nil => rfl
    | cons c r ih =>
      rw [List.all_cons, List.all_cons, List.all_cons, ← ih]
      by_cases hc : c < 128
      · rw [isDigit_small c hc, decide_eq_true hc]
        cases r.all (fun x => decide (x < 128)) <;> cases digC c <;> simp
      · rw [decide_eq_false hc]
        have : digC c = false := by
          unfold digC
          have : ¬ c ≤ 57 := by omega
          rw [decide_eq_false this, Bool.and_false]
        rw [this]
        simp
  rw [← e l]
  cases l with
  | nil => rfl
  | cons c r => simp only [List.length_cons, List.isEmpty_cons, Bool.not_false, Bool.true_and, Nat.zero_lt_succ, decide_true, gt_iff_lt]
theorem fig_text {m : Nat} {y : Str} {i : Int} (hm : m ≤ 640) (h : figI m y = some i) : PySem.intText? y = some i ∧ y.length ≤ 640 := by
  unfold figI at h
  split at h
  · rename_i hc
    rw [Bool.and_eq_true, decide_eq_true_eq] at hc
    obtain ⟨h1, h2⟩ := hc
    unfold figOk at h2
    simp only [Bool.and_eq_true, Bool.not_eq_true', List.all_eq_true] at h2
    cases h
    refine ⟨intText_digits (fun c hc => ?_) ?_ (by omega), by omega⟩
    · have := h2.1.2 c hc
      unfold digC at this
      simp only [Bool.and_eq_true, decide_eq_true_eq] at this
      exact this
    · intro e
      rw [e] at h2
      simp at h2
  · cases h
theorem digitsVal_bound : ∀ l : List Nat, (∀ c ∈ l, c ≤ 57) → digitsVal l < 10 ^ l.length := fun l => by
  have g : ∀ (l : List Nat) (acc k : Nat), (∀ c ∈ l, c ≤ 57) → acc < 10 ^ k → l.foldl (fun acc c => acc * 10 + (c - 48)) acc < 10 ^ (k + l.length) := fun l => by
    induction l with
    | nil => intro acc k _ h; simpa using h
    | cons c r ih =>
      intro acc k hl h
      have h1 := hl c List.mem_cons_self
      have := ih (acc * 10 + (c - 48)) (k + 1) (fun d hd => hl d (List.mem_cons_of_mem _ hd)) (by rw [Nat.pow_succ]; omega)
      rw [List.length_cons, show k + (r.length + 1) = k + 1 + r.length by omega]
      exact this
  intro h
  have := g l 0 0 h (by decide)
  rw [Nat.zero_add] at this
  exact this
theorem pow10_lt (k : Nat) : 10 ^ k ≤ 2 ^ (4 * k) := by
  rw [Nat.pow_mul]
  exact Nat.pow_le_pow_left (by decide) k
theorem fig_bound {m : Nat} {y : Str} {i : Int} (hm : m ≤ 640) (h : figI m y = some i) : 0 ≤ i ∧ Bd 2560 i := by
  unfold figI at h
  split at h
  · rename_i hc
    rw [Bool.and_eq_true, decide_eq_true_eq] at hc
    obtain ⟨h1, h2⟩ := hc
    unfold figOk at h2
    simp only [Bool.and_eq_true, Bool.not_eq_true', List.all_eq_true] at h2
    cases h
    have b := digitsVal_bound y.cps.toList fun c hc => by
      have := h2.1.2 c hc
      unfold digC at this
      simp only [Bool.and_eq_true, decide_eq_true_eq] at this
      exact this.2
    have l1 : y.cps.toList.length ≤ 640 := by rw [← len_list]; omega
    refine ⟨Int.natCast_nonneg _, ?_⟩
    unfold Bd
    rw [Int.natAbs_natCast]
    exact Nat.lt_of_lt_of_le b (Nat.le_trans (Nat.pow_le_pow_right (by decide) l1) (pow10_lt 640))
  · cases h
/-- the text of a share -/
def shareIn (y : Str) : Option (Int × Int) :=
  match figI 400 (Txt.partition y "/").1, figI 400 (Txt.partition y "/").2.2 with
  | some n, some p => if p = 0 then none else some (redI n p)
  | _, _ => none
theorem fig_no1 {y : Str} (h : 400 < (y.length : Int)) : figI 400 y = none := by
  unfold figI
  rw [decide_eq_false (by omega)]; rfl
theorem fig_no2 {y : Str} (h : Txt.isascii y = false ∨ Txt.isdigit y = false) : figI 400 y = none := by
  have e := ascii_digits (y := y)
  have e2 : (Txt.isascii y && Txt.isdigit y) = false := by rcases h with h | h <;> rw [h] <;> simp
  rw [e2] at e
  unfold figI figOk
  rw [← e]
  simp
theorem fig_head {y : Str} (h : Txt.isascii y = true ∧ Txt.isdigit y = true) : ∃ c r, y.cps.toList = c :: r ∧ (∀ x ∈ c :: r, 48 ≤ x ∧ x ≤ 57) := by
  have e := ascii_digits (y := y)
  rw [h.1, h.2] at e
  cases hl : y.cps.toList with
  | nil => rw [hl] at e; cases e
  | cons c r =>
    rw [hl] at e
    have e2 : (c :: r).all digC = true := by simpa using e.symm
    rw [List.all_eq_true] at e2
    refine ⟨c, r, rfl, fun x hx => ?_⟩
    have := e2 x hx
    unfold digC at this
    simpa using this
theorem fig_at {y : Str} (h : Txt.isascii y = true ∧ Txt.isdigit y = true) : Side (atI y.cps.toList 0 = some (y.cps.toList.headD 0)) := by
  obtain ⟨c, r, e, _⟩ := fig_head h
  rw [e]
  exact ⟨atI_nat (j := 0) rfl⟩
theorem fig_okd {y : Str} (h : Txt.isascii y = true ∧ Txt.isdigit y = true) : figOk y.cps.toList = !(decide (y.cps.toList.headD 0 = 48) && decide (1 < y.cps.toList.length)) := by
  obtain ⟨c, r, e, hd⟩ := fig_head h
  unfold figOk
  rw [e]
  have : (c :: r).all digC = true := by
    rw [List.all_eq_true]
    intro x hx
    unfold digC
    rw [decide_eq_true (hd x hx).1, decide_eq_true (hd x hx).2]; rfl
  rw [this]
  show (true && true && !((some c == some 48) && decide (1 < (c :: r).length))) = !(decide (c = 48) && decide (1 < (c :: r).length))
  have e1 : ((some c : Option Nat) == some 48) = decide (c = 48) := by
    by_cases hc : c = 48 <;> simp [hc]
  rw [e1]; rfl
theorem str_eq {x y : Str} (h : x.cps.toList = y.cps.toList) : x = y := ext_tl h
theorem zero_signs : (Str.ofString "0").cps.toList = [48] := by decide +kernel
theorem one_zero {y : Str} (h : Txt.isascii y = true ∧ Txt.isdigit y = true) : (y.cps.toList.headD 0 = 48 ∧ ¬ 1 < y.cps.toList.length) ↔ y = Str.ofString "0" := by
  obtain ⟨c, r, e, _⟩ := fig_head h
  rw [e]
  constructor
  · intro ⟨h1, h2⟩
    apply str_eq
    rw [e, zero_signs]
    have h3 : c = 48 := h1
    cases r with
    | nil => rw [h3]
    | cons a b => simp at h2
  · intro z
    rw [z, zero_signs] at e
    cases e
    exact ⟨rfl, by decide⟩
theorem sgn_zero {c : Nat} : (⟨#[c]⟩ : Str) = Str.ofString "0" ↔ c = 48 := by
  constructor
  · intro h
    have := congrArg (fun z : Str => z.cps.toList) h
    simp only [zero_signs] at this
    simpa using this
  · intro h
    apply str_eq
    rw [zero_signs, h]
theorem fig_no3 {y : Str} (h : Txt.isascii y = true ∧ Txt.isdigit y = true) (h1 : (⟨#[y.cps.toList.headD 0]⟩ : Str) = Str.ofString "0" ∧ ¬ y = Str.ofString "0") : figI 400 y = none := by
  have a := sgn_zero.mp h1.1
  have b : 1 < y.cps.toList.length := by
    by_cases z : 1 < y.cps.toList.length
    · exact z
    · exact absurd ((one_zero h).mp ⟨a, z⟩) h1.2
  unfold figI
  rw [fig_okd h, decide_eq_true a, decide_eq_true b]
  simp
theorem fig_yes {y : Str} (h0 : ¬ 400 < (y.length : Int)) (h : Txt.isascii y = true ∧ Txt.isdigit y = true) (h1 : ¬ (⟨#[y.cps.toList.headD 0]⟩ : Str) = Str.ofString "0" ∨ y = Str.ofString "0") : figI 400 y = some ((digitsVal y.cps.toList : Nat) : Int) := by
  have : (decide (y.cps.toList.headD 0 = 48) && decide (1 < y.cps.toList.length)) = false := by
    rcases h1 with h1 | h1
    · rw [decide_eq_false fun z => h1 (sgn_zero.mpr z)]; rfl
    · rw [decide_eq_false ((one_zero h).mpr h1).2, Bool.and_false]
  unfold figI
  rw [fig_okd h, this, decide_eq_true (by omega)]; rfl
/-! ### numbers as texts -/
theorem num_head : ∀ n : Nat, n ≠ 0 → (numL n).head? ≠ some 48 := fun n => by
  induction n using Nat.strongRecOn with
  | _ n ih =>
    intro hn
    by_cases h : n < 10
    · rw [numL_lt h]
      intro e
      have : 48 + n = 48 := Option.some.inj e
      omega
    · rw [numL_step (by omega)]
      have hne := numL_ne (n / 10)
      have := ih (n / 10) (by omega) (by omega)
      cases hl : numL (n / 10) with
      | nil => exact absurd hl hne
      | cons c r =>
        rw [hl] at this
        exact this
theorem num_ok (n : Nat) : figOk (numL n) = true := by
  unfold figOk
  have h1 : (numL n).all digC = true := by
    rw [List.all_eq_true]
    intro c hc
    have := numL_digits n c hc
    unfold digC
    rw [decide_eq_true this.1, decide_eq_true this.2]; rfl
  have h2 : (numL n).isEmpty = false := by
    cases h : numL n with
    | nil => exact absurd h (numL_ne n)
    | cons c r => rfl
  rw [h1, h2]
  by_cases h0 : n = 0
  · subst h0
    rw [numL_lt (by decide)]; rfl
  · have h3 := num_head n h0
    have : ((numL n).head? == some 48) = false := by
      cases h : (numL n).head? == some 48 with
      | false => rfl
      | true => exact absurd (eq_of_beq h) h3
    rw [this]; rfl
/-- the text of a number that isn't below nought -/
theorem fig_num {m k : Nat} {a : Int} (h0 : 0 ≤ a) (hk : 0 < k) (h : a.natAbs < 10 ^ k) (hm : k ≤ m) : figI m (Str.ofString (toString a)) = some a := by
  obtain ⟨n, rfl⟩ := Int.eq_ofNat_of_zero_le h0
  rw [Int.natAbs_natCast] at h
  have e : (Str.ofString (toString ((n : Nat) : Int))).cps.toList = numL n := tl_num n
  unfold figI
  rw [e, num_ok, Bool.and_true, decide_eq_true (by rw [len_list, e]; exact Nat.le_trans (numL_len hk h) hm), if_pos rfl, numL_val]
theorem num_slash (a : Int) (h0 : 0 ≤ a) : (47 : Nat) ∉ (Str.ofString (toString a)).cps.toList := by
  obtain ⟨n, rfl⟩ := Int.eq_ofNat_of_zero_le h0
  have e : (Str.ofString (toString ((n : Nat) : Int))).cps.toList = numL n := tl_num n
  rw [e]
  exact numL_free (.inl (by decide))
def shareText (a b : Int) : Str := Str.ofString (toString a) ++ Str.ofString "/" ++ Str.ofString (toString b)
theorem share_back {a b : Int} (ha : 0 ≤ a) (hb : 0 < b) (h1 : a.natAbs < 10 ^ 100) (h2 : b.natAbs < 10 ^ 100) (hg : gcdI a b = 1) : shareIn (shareText a b) = some (a, b) := by
  unfold shareIn shareText
  rw [partition_app slash_signs (num_slash a ha)]
  show (match figI 400 (Str.ofString (toString a)), figI 400 (Str.ofString (toString b)) with
    | some n, some p => if p = 0 then none else some (redI n p)
    | _, _ => none) = _
  rw [fig_num ha (by decide) h1 (by decide), fig_num (by omega) (by decide) h2 (by decide)]
  show (if b = 0 then none else some (redI a b)) = _
  rw [if_neg (by omega), red_low hb hg]
theorem len_num {a : Int} (h0 : 0 ≤ a) (h : Bd 100 a) : (Str.ofString (toString a)).length ≤ 100 := by
  obtain ⟨n, rfl⟩ := Int.eq_ofNat_of_zero_le h0
  unfold Bd at h
  rw [Int.natAbs_natCast] at h
  rw [len_list, show (Str.ofString (toString ((n : Nat) : Int))).cps.toList = numL n from tl_num n]
  exact numL_len (by decide) (Nat.lt_of_lt_of_le h (Nat.pow_le_pow_left (by decide) 100))
theorem len_slash : (Str.ofString "/").length = 1 := by decide +kernel
end Sm
set_option Elab.async false
set_option linter.all false
set_option maxRecDepth 100000
set_option maxHeartbeats 2000000
namespace Dl
open PySem L2 PyProof.Rows
section
variable [Tabs]
variable {X : Cx} {B : Bs} {Γ : Gm} {e a b c o : Expr} {ap pos : Pos} {es : List Expr} {d d1 d2 : PyData} {ds : List PyData} {P : Out → Prop} {y z : Str}
/-! ### where a text stands in another -/
structure Ind (y z : Str) (i : Nat) : Prop where
  h : ∃ rest, Builtin.Str.occurrences y z 0 y.length 1 = i :: rest
theorem xe_index {i : Nat} (hb : Tt (Mb X o "index")) (hf : Tt (Mf X pos e [])) (hl : Tt ((ap.endLine == pos.line) = true)) (he : Tt (St1 X e [])) (hp : Tt (Pl1 X pos [])) (ho : Xp X B Γ o (.str y)) (ha : Xp X B Γ e (.str z)) (k : Ind y z i) :
    Xp X B Γ (.Call (.Attribute o "index" ap) [e] [] pos) (.int (i : Nat)) := by
  obtain ⟨rest, hk⟩ := k.h
  exact xp_m PySem.F.slot_str_index PySem.F.type_str_index mt_sindex hb.h hf.h hl.h he.h hp.h ho (xa_cons he.h ha xa_nil) fun H Hs xs s a Q q => by
    cases a with
    | cons a1 a2 =>
      cases a2; cases a1
      exact ⟨y, z, i, rest, rfl, rfl, hk, q _ H Hs (Gr.refl s) (.int _)⟩
/-! ### a list so many times -/
theorem DqAll.rep {K : PySem.W.Frag} {H : Hp} {xs : List V} (a : DqAll K H xs ds) : ∀ n : Nat, DqAll K H (List.replicate n xs).flatten (List.replicate n ds).flatten
  | 0 => .nil
  | n + 1 => by
    rw [List.replicate_succ, List.replicate_succ, List.flatten_cons, List.flatten_cons]
    exact a.app (DqAll.rep a n)
theorem xe_rep {n : Int} {p2 : Pos} (h : Xa X B Γ es ds) (hl : Tt (decide (ds.length ≤ 16777216) = true)) (hb : Xp X B Γ b (.int n)) (hn : Side (-1 ≤ n ∧ n ≤ 1000000)) (hz : Side (ds.length * n.toNat ≤ sizeLine)) :
    Xp X B Γ (.BinOp (.List es p2) .Mult b pos) (.list (List.replicate n.toNat ds).flatten) :=
  xp_l (xl_of (pe_op op_rep pe_u pe_u) fun H Hs σ E Q q => (xle_lst h hl) H Hs σ E _ fun p xs H1 Hs1 g1 n1 e1 s1 a1 => hb H1 Hs1 σ (E.grow g1) _ fun u H2 Hs2 g2 p2 => by
    have hn' := hn.h
    cases p2
    exact ⟨p, n, xs, rfl, rfl, g2.ext.lst e1, by omega, by omega, by rw [a1.length]; exact hz.h, fun r nr => dl_new (g1.trans g2) q nr (DqAll.rep (a1.mono g2.exs) _)⟩)
/-! a conditional expression whose side is known: hints for the walk -/
structure IfT : Prop where
  h : True
structure IfF : Prop where
  h : True
theorem xe_ifT {p : Bool} (_ : IfT) (h : Xt X B Γ c p) (hp : Side (p = true)) (ha : Xp X B Γ a d) : Xp X B Γ (.IfExp c a b pos) d := xp_if h (fun _ => ha) (fun z => absurd (hp.h.symm.trans z) (by decide))
theorem xe_ifF {p : Bool} (_ : IfF) (h : Xt X B Γ c p) (hp : Side (p = false)) (hb : Xp X B Γ b d) : Xp X B Γ (.IfExp c a b pos) d := xp_if h (fun z => absurd (hp.h.symm.trans z) (by decide)) (fun _ => hb)
end
end Dl
set_option Elab.async false
set_option linter.all false
set_option maxRecDepth 100000
set_option maxHeartbeats 2000000
/-! generator expressions under any, all: over texts, lists, tuples; the element read where the generator runs -/
namespace Dl
open PySem PySem.Spec PyProof.Rows L2
/-- a flat value's truth -/
def TruV (b : Bool) (y : Value) : Prop := y = .bool b ∨ ∃ (n : Int) (t : Tok), y = .int n t ∧ (n != 0) = b
theorem truthy_of {prog : Program} {w : World} {A : Around} {s : Shared} {b : Bool} {y : Value} {Q : Bool → Shared → Prop} {E : Value → Shared → Prop} (h : TruV b y) (q : Q b s) : wpAny (model prog w) A (truthy y) Q E s := by
  rcases h with rfl | ⟨n, t, rfl, rfl⟩
  · exact wpAny_truthy_bool q
  · exact PySem.P.truthy_int q
/-- what a value hands out, item by item, from the heap h on -/
def Src (P : Program) (w : World) (h : Heap) (xv : Value) (n : Nat) (F : Nat → Value → Prop) : Prop :=
  ∀ (A : Around) (s : Shared) (Q : Value → Shared → Prop) (E : Value → Shared → Prop), s.heap = h → A.handled = none →
    (∀ (o : Obj) (fp : List Addr) (St : Nat → Heap → Prop), (∀ b ∈ fp, b = h.objs.size ∨ ∃ (n : String) (o : Obj), h.get? b = some o ∧ o.cls = .type n) → (∀ A2 : Around, A2.handled = none → Walks P w A2 h.objs.size fp [h.objs.size] n F St) → St 0 (h.push o) →
      Q (.ref h.objs.size) { s with heap := h.push o }) → wpAny (model P w) A (pyIter xv) Q E s
section
variable {P : Program} {w : World} {h : Heap}
theorem src_str {x : Str} {t : Tok} : Src P w h (.str x t) x.cps.size (SignAt x) := by
  intro A s Q E e hA k
  subst e
  exact wpAny_pyIter_str fun o St W z => k o _ St (fun b hb => .inl (List.mem_singleton.mp hb)) W z
theorem src_list {l : Addr} {its : Array Value} (hl : h.IsList l its) : Src P w h (.ref l) its.size (fun i v => its[i]? = some v) := by
  intro A s Q E e hA k
  subst e
  have lt : l < s.heap.objs.size := let ⟨_, q, _⟩ := hl; Heap.lt_size q
  refine wpAny_pyIter_list hl (k _ [s.heap.objs.size, l] _ (fun b hb => ?_) (fun A2 h2 => Walks.list h2 _ l (Nat.ne_of_lt lt) its) ⟨⟨_, Heap.get?_push_size _ rfl, rfl, rfl⟩, ?_⟩)
  · simp only [List.mem_cons, List.not_mem_nil, or_false] at hb
    rcases hb with z | z
    · exact .inl z
    · obtain ⟨o, q, c, _⟩ := hl
      exact .inr ⟨_, o, by rw [z]; exact q, c⟩
  · obtain ⟨o, q, r⟩ := hl
    exact ⟨o, Heap.get?_push_of_some _ q, r⟩
theorem src_tup {l : Addr} {its : Array Value} (hl : h.IsTuple l its) : Src P w h (.ref l) its.size (fun i v => its[i]? = some v) := by
  intro A s Q E e hA k
  subst e
  have lt : l < s.heap.objs.size := let ⟨_, q, _⟩ := hl; Heap.lt_size q
  refine wpAny_pyIter_tuple hl (k _ [s.heap.objs.size, l] _ (fun b hb => ?_) (fun A2 h2 => Walks.tuple h2 _ l (Nat.ne_of_lt lt) its) ⟨⟨_, Heap.get?_push_size _ rfl, rfl, rfl⟩, ?_⟩)
  · simp only [List.mem_cons, List.not_mem_nil, or_false] at hb
    rcases hb with z | z
    · exact .inl z
    · obtain ⟨o, q, c, _⟩ := hl
      exact .inr ⟨_, o, by rw [z]; exact q, c⟩
  · obtain ⟨o, q, r⟩ := hl
    exact ⟨o, Heap.get?_push_of_some _ q, r⟩
end
/-- the element, where the generator runs: h1 the heap in which it was made, T the table -/
def GElt (X : Cx) (scope : Scope) (x : Str) (elt : Expr) (h1 : Heap) (T : Addr) (u : Value) (b : Bool) : Prop :=
  ∀ (C bi : Addr) (code : Value) (A2 : Around) (E2 : Value → Shared → Prop) (s2 : Shared) (m2 : Str → Option Value), A2.handled = none → A2.depth ≤ X.A.depth + 1 → A2.units ≤ X.A.units + 8 →
    s2.heap.Ns C m2 → m2 x = some u → (∀ a o, h1.get? a = some o → a ≠ T → s2.heap.get? a = some o) →
    wpAny (model X.prog X.w) A2 (eval elt (genEnv scope (cloFrom X.env.cells scope.names []) C code bi X.env)) (fun y s3 => TruV b y ∧ Keeps s2 s3) E2 s2
section
variable {X : Cx} {pins : List (Addr × Obj)} {σ : L2.St} {H : Hp} {s : Shared}
/-- the generator g, ready to be walked: n truths pb -/
def GRdy (X : Cx) (pins : List (Addr × Obj)) (σ : L2.St) (H1 : Hp) (T : Addr) (n : Nat) (pb : Nat → Bool) (g : Addr) (s5 : Shared) : Prop :=
  ∃ (fp wr : List Addr) (G : Array GenState → Array GenState → Prop) (F : Nat → Value → Prop) (St : Nat → Shared → Prop),
    WalksS X.prog X.w X.A.in1 g fp wr G n F St ∧ St 0 s5 ∧ TruthOf X.prog X.w X.A.in1 F pb ∧ ∀ s', Moved wr G s5 s' → ∃ H2, GxR.Tabbed T H1 H2 ∧ Inv X pins σ H2 s'
/-- the code object of the expression, from the table or new; then the built-ins -/
theorem gen_head {c T : Addr} {gpos : Pos} {scope : Scope} {ps : Array Value} {ob : Obj} {Q2 : Value → Addr → Shared → Prop} (TB : GxR.TabB X.base X.mg c T) (hcode : X.env.code = .ref c)
    (I : Inv X pins σ H s) (hT : H T = some (.tbl ps)) (ht : TriplesOk ps.toList)
    (k : ∀ (code : Value) (bi : Addr) (h3 : Heap) (tk : Nat) (more : Array Value), Heap.ExtBut T (s.heap.push ob) h3 → (s.heap.push ob).objs.size ≤ h3.objs.size → h3.get? T = some { cls := .none, data := .fields (ps ++ more) } → TriplesOk (ps ++ more).toList →
      Q2 code bi { s with heap := h3, toks := tk }) :
    wpAny (model X.prog X.w) X.A (genexprCode X.env gpos (X.env.qual ++ "<genexpr>") scope) (fun code s₃ => wpAny (model X.prog X.w) X.A (builtinsFor X.env.globals X.env.builtins) (fun bi s₄ => Q2 code bi s₄) X.xe s₃) X.xe { s with heap := s.heap.push ob } := by
  have tAt : s.heap.get? T = some { cls := .none, data := .fields ps } := I.hok T _ hT
  have tP : (s.heap.push ob).get? T = some { cls := .none, data := .fields ps } := Heap.get?_push_of_some _ tAt
  have head : PySem.W.CodeHd (s.heap.push ob) c T := TB.code.keeps fun b u e => Heap.get?_push_of_some _ (I.bk b u e)
  have blt : ∀ (code : Value) (h3 : Heap) (tk : Nat) (more : Array Value), Heap.ExtBut T (s.heap.push ob) h3 → (s.heap.push ob).objs.size ≤ h3.objs.size → h3.get? T = some { cls := .none, data := .fields (ps ++ more) } → TriplesOk (ps ++ more).toList →
      wpAny (model X.prog X.w) X.A (builtinsFor X.env.globals X.env.builtins) (fun bi s₄ => Q2 code bi s₄) X.xe { s with heap := h3, toks := tk } := by
    intro code h3 tk more hx hz h3T h3t
    obtain ⟨bm, ob2, b1, b2, b3, b4, b5, b6, b7, b8⟩ := TB.bm
    have gl : (s.heap.push ob).Ns mainGlobals X.mg := (I.mod.glob.keeps I.bk).push ob
    refine wpAny_builtinsFor (m := X.mg) ?_ b1 b2 (hx _ _ b4 (Heap.get?_push_of_some _ (I.bk _ _ b5))) b6 b7 b8 (k code _ h3 tk more hx hz h3T h3t)
    rw [I.ok.glob]
    exact gl.extBut hx TB.gP
  cases hf : codeAmong gpos ps.toList with
  | some cv =>
    refine wpAny_genexprCode_hit hcode (head.code tP ht) hf (blt cv (s.heap.push ob) s.toks #[] (Heap.ExtBut.refl _ _) (Nat.le_refl _) ?_ ?_)
    · rw [Array.append_empty]; exact tP
    · rw [Array.append_empty]; exact ht
  | none =>
    refine wpAny_genexprCodeX hcode (head.code tP ht) (head.tab tP) hf fun c2 h3 tk hx hge hlt hco _ htab _ => blt _ h3 tk _ hx (Nat.le_trans hge (Nat.le_of_lt hlt)) htab.2 ?_
    obtain ⟨_, _, _, _, _, _, _, _, _, _, _, _, _, _, _, _, _, _, _, trip, _⟩ := hco
    exact trip
/-- the generator made: what was held is held, but for the table that may have grown -/
theorem gen_mk {c T : Addr} {elt iter : Expr} {x : Str} {px gpos : Pos} {scope : Scope} {te : TE} {k : Nat} {Q2 : Value → Shared → Prop} {R : Nat → (Nat → Bool) → Hp → Prop} (hr : Room k X.A) (TB : GxR.TabB X.base X.mg c T) (hcode : X.env.code = .ref c)
    (S : GxR.GenS X.env scope x) (hi : PE X iter te) (hs : ∀ v, genFold iter X.env v = pure v) (I : Inv X pins σ H s)
    (h : te σ H fun v H1 => GxR.TabG H1 T ∧ ∀ (pins : List (Addr × Obj)) (u : Value) (s1 : Shared), RelV v u → Inv X pins σ H1 s1 → ∃ (n : Nat) (F : Nat → Value → Prop) (pb : Nat → Bool), Src X.prog X.w s1.heap u n F ∧ (∀ i y, F i y → GElt X scope x elt s1.heap T y (pb i)) ∧ R n pb H1)
    (hQ : ∀ n pb H1 g s5, R n pb H1 → GRdy X pins σ H1 T n pb g s5 → Q2 (.ref g) s5) :
    wpAny (model X.prog X.w) X.A (eval (.GeneratorExp elt [⟨.Name x px, iter, [], 0⟩] scope gpos) X.env) Q2 X.xe s := by
  have hd := hr.hd
  have dp := hr.dp
  refine wpAny_GeneratorExp_walksQD hd S.co (closure_ok S.free) S.cell S.dot S.loc S.kind (by omega) ?_ hs
  refine thn (hi.run pins s σ H _ I h) fun u s1 ⟨v, H1, I1, rv, ⟨ps, hT, ht⟩, q⟩ => ?_
  obtain ⟨n, F, pb, hsrc, hel, hR⟩ := q pins u s1 rv I1
  refine hsrc _ s1 _ _ rfl hd fun ob fp St hfp W hst => ?_
  have tAt : s1.heap.get? T = some { cls := .none, data := .fields ps } := I1.hok T _ hT
  have tlt : T < s1.heap.objs.size := Heap.lt_size tAt
  have lim : (s1.heap.push ob).NoLimit := I1.nolimit.push ob
  have slt : cStatics < s1.heap.objs.size := let ⟨_, z, _⟩ := I1.nolimit; z.lt
  have psz : (s1.heap.push ob).objs.size = s1.heap.objs.size + 1 := Heap.size_push ..
  have sT : cStatics ≠ T := fun e => by
    obtain ⟨_, ⟨o, _, _, ho, hdt, _⟩, _⟩ := I1.nolimit
    rw [e, tAt] at ho
    cases ho
    cases hdt
  refine ⟨lim, gen_head TB hcode I1 hT ht fun code bi h3 tk more hx hz h3T h3t => ?_⟩
  have k3 : ∀ b o, b ≠ T → s1.heap.get? b = some o → h3.get? b = some o := fun b o hb e => hx b o hb (Heap.get?_push_of_some _ e)
  have big : s1.heap.objs.size < h3.objs.size := Nat.lt_of_lt_of_le (by rw [psz]; exact Nat.lt_succ_self _) hz
  have below : ∀ b ∈ fp, b < h3.objs.size := fun b hb => by
    rcases hfp b hb with z | ⟨_, o, z, _⟩
    · rw [z]; exact big
    · exact Nat.lt_trans (Heap.lt_size z) big
  -- the iterator's own facts don't hang on the table
  have it0 : St 0 h3 := (W X.A hd).frame _ _ _ hst fun b hb o e => hx b o (fun z => by
    rcases hfp b hb with y | ⟨_, o2, y, cy⟩
    · rw [z] at y; exact absurd tlt (by rw [y]; exact Nat.lt_irrefl _)
    · rw [z, tAt] at y; cases y; cases cy) e
  refine ⟨s1.heap.objs.size, fp, [s1.heap.objs.size], n, F, St, fun _ => true, fun i y => TruV (pb i) y, rfl, W, it0, below, lim.extBut hx sT, ?_, fun href keeps => ⟨?_, ?_⟩, fun g h5 tk5 gs bare5 ltg sz5 keep5 W5 at5 => ?_⟩
  · intro z
    exact Nat.ne_of_lt slt (List.mem_singleton.mp z)
  · intro A2 E2 i v s2 m2 hA2 hD2 hU2 hF hn hm hk
    simp only [List.forIn_nil]
    exact wpAny_pure ⟨rfl, GxR.keeps_refl _⟩
  · intro A2 E2 i v s2 m2 hA2 hD2 hU2 hF htr hn hm hk
    refine wpAny_mono (hel i v hF _ bi code A2 E2 s2 m2 hA2 hD2 hU2 hn hm fun a o ha hne => ?_) (fun y s3 r => r) fun _ _ e => e
    have e3 := k3 a o hne ha
    refine hk a (List.mem_range.mpr (Heap.lt_size e3)) (fun z => ?_) o (keeps a o e3)
    rw [List.mem_singleton.mp z] at ha
    exact absurd (Heap.lt_size ha) (Nat.lt_irrefl _)
  · simp only [GxR.passing_true, List.length_range] at W5
    refine hQ n pb H1 g _ hR ⟨_, _, _, _, _, W5.in4_1, at5, fun j y sj Qj Ej hy hq => ?_, fun s' mv => ?_⟩
    · obtain ⟨i, hij, hv⟩ := hy
      obtain ⟨hj, ej⟩ := List.getElem?_eq_some_iff.mp hij
      rw [List.getElem_range] at ej
      subst ej
      exact truthy_of hv hq
    · have out : ∀ b o, s1.heap.get? b = some o → b ∉ h3.objs.size :: [s1.heap.objs.size] := fun b o e z => by
        have lb := Heap.lt_size e
        rcases List.mem_cons.mp z with z | z
        · rw [z] at lb; exact absurd (Nat.lt_trans lb big) (Nat.lt_irrefl _)
        · rw [List.mem_singleton.mp z] at lb; exact absurd lb (Nat.lt_irrefl _)
      have J := GxR.inv_tab (more := more) (h' := s'.heap) (g' := s'.gens) (d' := s'.drawn) (t' := s'.toks) I1 hT (fun b o hb e => mv.heap b o (out b o e) (keep5 b o (k3 b o hb e))) (mv.heap T _ (out T _ tAt) (keep5 T _ h3T)) (AllBare.movedS (I1.bare.push bare5) mv)
      rw [GxR.sh_eta s1 s' mv.os] at J
      exact ⟨_, ⟨⟨_, upd_same, h3t⟩, fun b hb => upd_ne hb⟩, J⟩
/-- any, all over a generator expression; f: what the truths come to -/
def tGen (X : Cx) (scope : Scope) (x : Str) (elt : Expr) (T : Addr) (f : List Nat → (Nat → Bool) → Bool) (te : TE) : TE := fun σ H Q => te σ H fun v H1 => GxR.TabG H1 T ∧ ∀ (pins : List (Addr × Obj)) (u : Value) (s1 : Shared), RelV v u → Inv X pins σ H1 s1 →
  ∃ (n : Nat) (F : Nat → Value → Prop) (pb : Nat → Bool), Src X.prog X.w s1.heap u n F ∧ (∀ i y, F i y → GElt X scope x elt s1.heap T y (pb i)) ∧ ∀ H2, GxR.Tabbed T H1 H2 → Q (.bl (f (List.range n) pb)) H2
theorem pe_gen {nm : Str} {f : List Nat → (Nat → Bool) → Bool} {c T : Addr} {elt iter : Expr} {x : Str} {px p pos gpos : Pos} {scope : Scope} {te : TE} {k : Nat} {bn : Value}
    (hr : Room k X.A) (hg : Gl X nm) (hm : X.mg nm = none) (hbn : bootBuiltins nm = some bn)
    (cw : ∀ (g : Addr) (s5 : Shared) (Q : Value → Shared → Prop), (∃ (fp wr : List Addr) (G : Array GenState → Array GenState → Prop) (n : Nat) (F : Nat → Value → Prop) (St : Nat → Shared → Prop) (pb : Nat → Bool),
      WalksS X.prog X.w X.A.in1 g fp wr G n F St ∧ St 0 s5 ∧ TruthOf X.prog X.w X.A.in1 F pb ∧ ∀ s', Moved wr G s5 s' → Q (.bool (f (List.range n) pb)) s') → wpAny (model X.prog X.w) X.A (call bn [.ref g]) Q X.xe s5)
    (TB : GxR.TabB X.base X.mg c T) (hcode : X.env.code = .ref c) (S : GxR.GenS X.env scope x) (hi : PE X iter te) (hs : ∀ v, genFold iter X.env v = pure v) (hn : nm ≠ "__name__") (hdb : (nm == ("__debug__" : Str)) = false)
    (hbb : ∃ id, bn = .builtin id)
    (he : starEach [.GeneratorExp elt [⟨.Name x px, iter, [], 0⟩] scope gpos] X.env = (false, eval (.GeneratorExp elt [⟨.Name x px, iter, [], 0⟩] scope gpos) X.env) :: starEach [] X.env) :
    PE X (.Call (.Name nm p) [.GeneratorExp elt [⟨.Name x px, iter, [], 0⟩] scope gpos] [] pos) (tGen X scope x elt T f te) := by
  obtain ⟨id, rfl⟩ := hbb
  refine ⟨fun pins s σ H Q I h => ?_⟩
  refine wpAny_Call_Name_kw (ld_blt I hg hm hbn ?_ hn hdb); refine PyProof.Rows.callWith_builtin1 ?_ he (by rfl)
  rw [he]
  show wpAny _ _ (spliced ((false, eval (.GeneratorExp elt [⟨.Name x px, iter, [], 0⟩] scope gpos) X.env) :: backTo pos (starEach [] X.env))) _ _ s
  refine Calls.spliced_cons (gen_mk (R := fun n pb H1 => ∀ H2, GxR.Tabbed T H1 H2 → Q (.bl (f (List.range n) pb)) H2) hr TB hcode S hi hs I h fun n pb H1 g s5 hR rdy => Calls.spliced_nil (cw g s5 _ ?_))
  obtain ⟨fp, wr, G, F, St, W, hst, htr, hI⟩ := rdy
  refine ⟨fp, wr, G, n, F, St, pb, W, hst, htr, fun s' mv => ?_⟩
  obtain ⟨H2, hT, J⟩ := hI s' mv
  exact ⟨.bl _, H2, J, rfl, hR H2 hT⟩
theorem boot_all : bootBuiltins "all" = some (.builtin "all") := by decide +kernel
/-- the truths of a list of data -/
def tabP (ds : List PyData) (p : PyData → Bool) (i : Nat) : Bool := (ds[i]?.map p).getD false
theorem range_tab (ds : List PyData) (p : PyData → Bool) : (List.range ds.length).map (tabP ds p) = ds.map p := by
  refine List.ext_getElem (by simp) fun i h1 h2 => ?_
  rw [List.length_map, List.length_range] at h1
  rw [List.getElem_map, List.getElem_map, List.getElem_range]
  unfold tabP
  rw [List.getElem?_eq_getElem h1]; rfl
theorem all_tab (ds : List PyData) (p : PyData → Bool) : (List.range ds.length).all (tabP ds p) = ds.all p := by
  have := congrArg (fun l => l.all id) (range_tab ds p)
  simpa [List.all_map] using this
theorem any_tab (ds : List PyData) (p : PyData → Bool) : (List.range ds.length).any (tabP ds p) = ds.any p := by
  have := congrArg (fun l => l.any id) (range_tab ds p)
  simpa [List.any_map] using this
theorem vals_at : ∀ {xs : List V} {us : List Value} {i : Nat} {u : Value}, Vals xs us → us[i]? = some u → ∃ x, xs[i]? = some x ∧ RelV x u
  | _, _, _, _, .nil, e => by simp at e
  | _, _, 0, _, .cons r _, e => by simp at e; subst e; exact ⟨_, rfl, r⟩
  | _, _, i + 1, u, .cons _ t, e => by
    obtain ⟨x, h1, h2⟩ := vals_at (i := i) (u := u) t (by simpa using e)
    exact ⟨x, by simpa using h1, h2⟩
end
section
variable [Tabs] {X : Cx} {B : Bs} {Γ : Gm}
/-- a table that has grown -/
theorem gr_tab {T : Addr} {H Hs H2 : Hp} (s : ∀ a o, Hs a = some o → H a = some o) (t : GxR.TabG Hs T) (g : GxR.Tabbed T H H2) : ∃ Hs2, Gr H Hs H2 Hs2 := by
  obtain ⟨ps, h1, h2⟩ := t
  obtain ⟨⟨qs, q1, q2⟩, r⟩ := g
  have hT := s T _ h1
  have ex : ∀ {A A2 : Hp}, A T = some (.tbl ps) → A2 T = some (.tbl qs) → (∀ b, b ≠ T → A2 b = A b) → Ext A A2 := fun {A A2} e1 e2 e3 a o ha => by
    by_cases hb : a = T
    · subst hb
      rw [e1] at ha
      cases ha
      exact .inr ⟨ps, qs, rfl, e2, fun _ => q2⟩
    · exact .inl (by rw [e3 a hb]; exact ha)
  refine ⟨upd Hs T (.tbl qs), ex hT q1 r, ex h1 upd_same fun b hb => upd_ne hb, fun a o ha => ?_, fun a ha => .inl fun z => ?_⟩
  · by_cases hb : a = T
    · subst hb; rw [upd_same] at ha; rw [q1]; exact ha
    · rw [upd_ne hb] at ha; rw [r a hb]; exact s a o ha
  · by_cases hb : a = T
    · subst hb; rw [h1] at z; cases z
    · rw [upd_ne hb] at ha; exact ha z
/-- the element's truth, for each datum -/
def XElt (X : Cx) (B : Bs) (Γ : Gm) (scope : Scope) (x : Str) (elt : Expr) (T : Addr) (ds : List PyData) (p : PyData → Bool) : Prop :=
  ∀ (pins : List (Addr × Obj)) (σ : L2.St) (H Hs : Hp) (s1 : Shared), Inv X pins σ H s1 → Enb X.K B H Hs σ Γ → ∀ (d : PyData) (v : V) (u : Value), d ∈ ds → Dq X.K Hs v d → RelV v u → GElt X scope x elt s1.heap T u (p d)
theorem xp_gen {nm : Str} {f : List Nat → (Nat → Bool) → Bool} {T : Addr} {elt iter : Expr} {x : Str} {px q pos gpos : Pos} {scope : Scope} {d : PyData} {ds : List PyData} {p : PyData → Bool}
    (ts : Tabs.ts T) (pe : ∀ te, PE X iter te → PE X (.Call (.Name nm q) [.GeneratorExp elt [⟨.Name x px, iter, [], 0⟩] scope gpos] [] pos) (tGen X scope x elt T f te))
    (h : Xp X B Γ iter d) (k : ItrD d ds) (hel : XElt X B Γ scope x elt T ds p) : Xp X B Γ (.Call (.Name nm q) [.GeneratorExp elt [⟨.Name x px, iter, [], 0⟩] scope gpos] [] pos) (.bool (f (List.range ds.length) (tabP ds p))) := fun H Hs σ E Q hQ => by
  refine ⟨_, pe _ pe_u, h H Hs σ E _ fun v H1 Hs1 g1 p1 => ?_⟩
  have E1 := E.grow g1
  have tab := E1.tab T ts
  refine ⟨let ⟨ps, a, b⟩ := tab; ⟨ps, g1.sub _ _ a, b⟩, fun pins u s1 rv I1 => ?_⟩
  have fin : ∀ n, n = ds.length → ∀ H2, GxR.Tabbed T H1 H2 → Q (.bl (f (List.range n) (tabP ds p))) H2 := fun n en H2 g => by
    subst en
    obtain ⟨Hs2, g2⟩ := gr_tab g1.sub tab g
    exact hQ _ H2 Hs2 (g1.trans g2) (.bl _)
  have at_p : ∀ {i : Nat} {e : PyData}, ds[i]? = some e → p e = tabP ds p i := fun {i e} he => by unfold tabP; rw [he]; rfl
  cases k with
  | str =>
    rename_i y
    cases p1
    obtain ⟨t, rfl⟩ := _root_.id rv
    refine ⟨_, _, _, src_str, fun i z hz => ?_, fin _ (by unfold signsD; rw [List.length_map, Array.length_toList])⟩
    obtain ⟨cc, t2, hc, rfl⟩ := hz
    have hd : (signsD y)[i]? = some (.str ⟨#[cc]⟩) := by unfold signsD; rw [List.getElem?_map, Array.getElem?_toList, hc]; rfl
    rw [← at_p hd]
    exact hel pins σ H1 Hs1 s1 I1 E1 _ (.str ⟨#[cc]⟩) _ (List.mem_of_getElem? hd) (.str _) ⟨t2, rfl⟩
  | lst =>
    cases p1 with
    | lst hq ha =>
      obtain rfl : u = _ := rv
      obtain ⟨its, vals, ⟨o, m, e1, e2, e3, e4⟩, _⟩ := I1.list (sub_l g1.sub hq)
      refine ⟨_, _, _, src_list ⟨o, e1, e2, m, e4⟩, fun i z hz => ?_, fin _ (by rw [List.size_toArray, ← vals.length, ha.length])⟩
      obtain ⟨w, hw, rw'⟩ := vals_at vals (by simpa using hz)
      obtain ⟨e, he, pe⟩ := ha.getV hw
      rw [← at_p he]
      exact hel pins σ H1 Hs1 s1 I1 E1 e w z (List.mem_of_getElem? he) pe rw'
  | tup =>
    cases p1 with
    | tup hq ha =>
      obtain rfl : u = _ := rv
      obtain ⟨its, vals, ⟨o, e1, e2, m, e4⟩, _⟩ := I1.tuple (sub_t g1.sub hq)
      refine ⟨_, _, _, src_tup ⟨o, e1, e2, m, e4⟩, fun i z hz => ?_, fin _ (by rw [List.size_toArray, ← vals.length, ha.length])⟩
      obtain ⟨w, hw, rw'⟩ := vals_at vals (by simpa using hz)
      obtain ⟨e, he, pe⟩ := ha.getV hw
      rw [← at_p he]
      exact hel pins σ H1 Hs1 s1 I1 E1 e w z (List.mem_of_getElem? he) pe rw'
/-- what a def's generator expression wants -/
structure Gx (X : Cx) (c T : Addr) : Prop where
  tb : GxR.TabB X.base X.mg c T
  ts : Tabs.ts T
  code : X.env.code = .ref c
  room : ∃ k, Room k X.A
theorem xe_all {c T : Addr} {elt iter : Expr} {x : Str} {px q pos gpos : Pos} {scope : Scope} {d : PyData} {ds : List PyData} {p : PyData → Bool} (G : Gx X c T) (hb : Bi X "all") (S : Tt (GxR.GenS X.env scope x)) (hs : Tt (∀ v, genFold iter X.env v = pure v))
    (he : Tt (St1 X (.GeneratorExp elt [⟨.Name x px, iter, [], 0⟩] scope gpos) [])) (h : Xp X B Γ iter d) (k : ItrD d ds) (hel : XElt X B Γ scope x elt T ds p) :
    Xp X B Γ (.Call (.Name "all" q) [.GeneratorExp elt [⟨.Name x px, iter, [], 0⟩] scope gpos] [] pos) (.bool (ds.all p)) := by
  obtain ⟨j, hr⟩ := G.room
  rw [← all_tab]
  exact xp_gen (f := fun l q => l.all q) G.ts (fun te hi => pe_gen hr hb.gl hb.no boot_all (fun g s5 Q ⟨fp, wr, G2, n, F, Sf, pb, W, hst, htr, hI⟩ => call_all_walkS (W.self 0 _ _ _ hst ⟨g, fp, wr, G2, n, F, Sf, pb, rfl, W, hst, htr, hI⟩)) G.tb G.code S.h hi hs.h (by decide) (by decide +kernel) ⟨_, rfl⟩ he.h) h k hel
theorem xe_anyG {c T : Addr} {elt iter : Expr} {x : Str} {px q pos gpos : Pos} {scope : Scope} {d : PyData} {ds : List PyData} {p : PyData → Bool} (G : Gx X c T) (hb : Bi X "any") (S : Tt (GxR.GenS X.env scope x)) (hs : Tt (∀ v, genFold iter X.env v = pure v))
    (he : Tt (St1 X (.GeneratorExp elt [⟨.Name x px, iter, [], 0⟩] scope gpos) [])) (h : Xp X B Γ iter d) (k : ItrD d ds) (hel : XElt X B Γ scope x elt T ds p) :
    Xp X B Γ (.Call (.Name "any" q) [.GeneratorExp elt [⟨.Name x px, iter, [], 0⟩] scope gpos] [] pos) (.bool (ds.any p)) := by
  obtain ⟨j, hr⟩ := G.room
  rw [← any_tab]
  exact xp_gen (f := fun l q => l.any q) G.ts (fun te hi => pe_gen hr hb.gl hb.no boot_any (fun g s5 Q ⟨fp, wr, G2, n, F, Sf, pb, W, hst, htr, hI⟩ => call_any_walkS (W.self 0 _ _ _ hst ⟨g, fp, wr, G2, n, F, Sf, pb, rfl, W, hst, htr, hI⟩)) G.tb G.code S.h hi hs.h (by decide) (by decide +kernel) ⟨_, rfl⟩ he.h) h k hel
end
/-- a generator's scope without captured names -/
def genB (scope : Scope) (x : Str) : Bool := (match scope.kind with | .function => true | _ => false) && !scope.isCoroutine && (scope.names.all fun y => match y.2 with | .cell => false | .free => false | _ => true) && scope.names.lookup (".0" : Str) == some NameKind.local && scope.names.lookup x == some NameKind.local
theorem genS_plain {env : Env} {scope : Scope} {x : Str} (h : genB scope x = true) : Tt (GxR.GenS env scope x) := by
  unfold genB at h
  simp only [Bool.and_eq_true, List.all_eq_true, beq_iff_eq, Bool.not_eq_true'] at h
  obtain ⟨⟨⟨⟨h1, h2⟩, h3⟩, h4⟩, h5⟩ := h
  refine ⟨⟨?_, h2, fun y hy e => ?_, h4, h5, fun y hy e => ?_⟩⟩
  · split at h1
    · assumption
    · cases h1
  · have := h3 y hy
    rw [e] at this
    cases this
  · have := h3 y hy
    rw [e] at this
    cases this
/-! ### what is read where the generator runs -/
theorem keeps_tr {a b c : Shared} (h : Keeps a b) (k : Keeps b c) : Keeps a c := by
  obtain ⟨h1, t1, rfl, k1⟩ := h
  obtain ⟨h2, t2, rfl, k2⟩ := k
  exact ⟨h2, t2, rfl, fun b o e => k2 b o (k1 b o e)⟩
/-- the generator's frame, at the heap h -/
structure GFr (X : Cx) (scope : Scope) (T : Addr) (h1 : Heap) (C : Addr) (m : Str → Option Value) (h : Heap) : Prop where
  ns : h.Ns C m
  keep : ∀ a o, h1.get? a = some o → a ≠ T → h.get? a = some o
theorem GFr.on {X : Cx} {scope : Scope} {T C : Addr} {h1 : Heap} {m : Str → Option Value} {s s' : Shared} (g : GFr X scope T h1 C m s.heap) (k : Keeps s s') : GFr X scope T h1 C m s'.heap := by
  obtain ⟨h2, t, rfl, k2⟩ := k
  exact ⟨g.ns.keeps k2, fun a o e n => k2 a o (g.keep a o e n)⟩
/-- an expression read in the generator's frame -/
def Ge (X : Cx) (scope : Scope) (T : Addr) (h1 : Heap) (C : Addr) (cenv : Env) (m : Str → Option Value) (A2 : Around) (e : Expr) (φ : Value → Prop) : Prop :=
  ∀ (E2 : Value → Shared → Prop) (s : Shared), GFr X scope T h1 C m s.heap → wpAny (model X.prog X.w) A2 (eval e cenv) (fun y s' => φ y ∧ Keeps s s') E2 s
section
variable {X : Cx} {scope : Scope} {T C : Addr} {h1 : Heap} {cenv : Env} {m : Str → Option Value} {A2 : Around} {e a b : Expr} {φ ψ χ : Value → Prop} {pos : Pos} {x : Str} {u : Value}
theorem ge_local (hk : cenv.scope.kind = .function) (hl : cenv.kindOf x = some .local) (hC : cenv.locals = C) (hm : m x = some u) (hd : (x == ("__debug__" : Str)) = false) : Ge X scope T h1 C cenv m A2 (.Name x pos) (· = u) := fun E2 s g => by
  refine wpAny_Name (wpAny_loadName_local hk hl ?_ hm ⟨rfl, GxR.keeps_refl s⟩) hd
  rw [hC]
  exact g.ns
theorem ge_global (hk : cenv.scope.kind = .function) (hl : cenv.kindOf x = some .globalImplicit) (hg : cenv.globals = mainGlobals) (hn : h1.Ns mainGlobals X.mg) (hT : mainGlobals ≠ T) (hm : X.mg x = some u) (hd : (x == ("__debug__" : Str)) = false) : Ge X scope T h1 C cenv m A2 (.Name x pos) (· = u) := fun E2 s g => by
  refine Calls.Name_function_global hk hl (Calls.loadGlobal_global (mg := X.mg) ?_ hm ⟨rfl, GxR.keeps_refl s⟩) hd
  rw [hg]
  exact hn.at' fun o ho => g.keep _ _ ho hT
theorem ge_free {c : Addr} (hk : cenv.scope.kind = .function) (hl : cenv.kindOf x = some .free) (hc : cenv.cells.lookup x = some c) (hv : h1.IsCell c (some u)) (hT : c ≠ T) (hn : (x == ("__classdict__" : Str)) = false) (hd : (x == ("__debug__" : Str)) = false) : Ge X scope T h1 C cenv m A2 (.Name x pos) (· = u) := fun E2 s g => by
  refine wpAny_Name (wpAny_loadName_free hk hl hc ?_ ⟨rfl, GxR.keeps_refl s⟩ hn) hd
  obtain ⟨o, q, r⟩ := hv
  exact ⟨o, g.keep _ _ q hT, r⟩
theorem ge_cmp {op : CmpOp} (ha : Ge X scope T h1 C cenv m A2 a φ) (hb : Ge X scope T h1 C cenv m A2 b ψ) (hm : behindInMarks op b = false)
    (k : ∀ (E2 : Value → Shared → Prop) u v s, φ u → ψ v → GFr X scope T h1 C m s.heap → wpAny (model X.prog X.w) A2 (compareOp op u v) (fun y s' => χ y ∧ Keeps s s') E2 s) : Ge X scope T h1 C cenv m A2 (.Compare a [op] [b] pos) χ := fun E2 s g => by
  refine wpAny_Compare1 (thn (ha E2 s g) fun u s1 ⟨hu, k1⟩ => thn (hb E2 s1 (g.on k1)) fun v s2 ⟨hv, k2⟩ => ?_) hm
  exact thn (k E2 u v s2 hu hv ((g.on k1).on k2)) fun y s3 ⟨hy, k3⟩ => ⟨hy, keeps_tr (keeps_tr k1 k2) k3⟩
theorem ge_bin {op : Operator} (ha : Ge X scope T h1 C cenv m A2 a φ) (hb : Ge X scope T h1 C cenv m A2 b ψ)
    (k : ∀ (E2 : Value → Shared → Prop) u v s, φ u → ψ v → GFr X scope T h1 C m s.heap → wpAny (model X.prog X.w) A2 (binaryOp op u v) (fun y s' => χ y ∧ Keeps s s') E2 s) : Ge X scope T h1 C cenv m A2 (.BinOp a op b pos) χ := fun E2 s g => by
  refine wpAny_BinOp (thn (ha E2 s g) fun u s1 ⟨hu, k1⟩ => thn (hb E2 s1 (g.on k1)) fun v s2 ⟨hv, k2⟩ => ?_)
  exact thn (k E2 u v s2 hu hv ((g.on k1).on k2)) fun y s3 ⟨hy, k3⟩ => ⟨hy, keeps_tr (keeps_tr k1 k2) k3⟩
end
/-- x in a text of the module, x a sign -/
theorem el_inG [Tabs] {X : Cx} {B : Bs} {Γ : Gm} {c T : Addr} {scope : Scope} {x nm z : Str} {y : Str} {p1 p2 p3 : Pos} (G : Gx X c T) (S : Tt (GxR.GenS X.env scope x)) (hx : Tt ((x == ("__debug__" : Str)) = false)) (hmk : Tt (behindInMarks .In (.Name nm p2) = false)) (hl : Tt (scope.names.lookup nm = some .globalImplicit)) (k : Cn X nm (.str z)) {p : PyData → Bool} (hp : ∀ c, c ∈ y.cps.toList → p (.str ⟨#[c]⟩) = decide (c ∈ z.cps.toList)) :
    XElt X B Γ scope x (.Compare (.Name x p1) [.In] [.Name nm p2] p3) T (signsD y) p := by
  intro pins σ H Hs s1 I E d v u hd hv ru
  obtain ⟨cc, hc, rfl⟩ : ∃ cc, cc ∈ y.cps.toList ∧ (.str ⟨#[cc]⟩ : PyData) = d := by
    unfold signsD at hd
    obtain ⟨cc, h1, h2⟩ := List.mem_map.mp hd
    exact ⟨cc, h1, h2⟩
  obtain ⟨ug, vg, hm, rg, dg⟩ := k.ex
  have z1 := dg Hs
  cases hv
  obtain ⟨t, rfl⟩ := _root_.id ru
  intro C bi code A2 E2 s2 m2 _ _ _ hn hm2 hk
  rw [hp cc hc]
  cases z1
  obtain ⟨t2, rfl⟩ := _root_.id rg
  have fr : GFr X scope T s1.heap C m2 s2.heap := ⟨hn, hk⟩
  have a1 : Ge X scope T s1.heap C (genEnv scope (cloFrom X.env.cells scope.names []) C code bi X.env) m2 A2 (.Name x p1) (· = Value.str ⟨#[cc]⟩ t) := ge_local S.h.kind S.h.loc rfl hm2 hx.h
  have a2 : Ge X scope T s1.heap C (genEnv scope (cloFrom X.env.cells scope.names []) C code bi X.env) m2 A2 (.Name nm p2) (· = Value.str z t2) := ge_global S.h.kind hl.h I.ok.glob (I.mod.glob.keeps I.bk) G.tb.gP hm k.db
  refine thn (ge_cmp (χ := (· = Value.bool (decide (cc ∈ z.cps.toList)))) a1 a2 hmk.h (fun E3 u1 v1 s h1 h2 _ => ?_) E2 s2 fr) fun w s3 ⟨h3, h4⟩ => ⟨.inl h3, h4⟩
  subst h1
  subst h2
  exact PyProof.Rows.in_str ⟨congrArg Value.bool (PySem.StrLaws.found_one z cc), GxR.keeps_refl s⟩
/-! ### a def whose code object is known -/
section
variable [Tabs] {P : Program} {w : World} {K : PySem.W.Frag} {mg : Str → Option Value} {base : Heap}
structure FunC (K : PySem.W.Frag) (x qual : Str) (st : Stmt) (f : Addr) (fd : FuncData) (cdv : Value) : Prop where
  ex : ∃ (oc : Value) (od : Option Addr) (kV doc pm : Value) (an : Option Addr) (ct : Value) (osl : Array (Option Value)),
    fd = PySem.W.fnOf x qual (defArgs st) (defBody st) (defScope st) .none kV doc pm an cdv ct ∧ K.lookup f = some ⟨oc, od, .func fd, osl⟩ ∧ PySem.W.codeIn K cdv qual = true
  kp : PySem.W.keepIn K (.ref f) = true
theorem FunC.fn {x qual : Str} {st : Stmt} {f : Addr} {fd : FuncData} {cdv : Value} (F : FunC K x qual st f fd cdv) : Fun K x qual st f fd := by
  obtain ⟨oc, od, kV, doc, pm, an, ct, osl, e, l, c⟩ := F.ex
  exact ⟨⟨oc, od, kV, doc, pm, an, cdv, ct, osl, e, l, c⟩, F.kp⟩
theorem func_mk {x qual : Str} {st : Stmt} {f : Addr} {oc : Value} {od an : Option Addr} {osl : Array (Option Value)} {kV doc pm cdv ct : Value} (l : K.lookup f = some ⟨oc, od, .func (PySem.W.fnOf x qual (defArgs st) (defBody st) (defScope st) .none kV doc pm an cdv ct), osl⟩)
    (c : PySem.W.codeIn K cdv qual = true) (k : PySem.W.keepIn K (.ref f) = true) : FunC K x qual st f (PySem.W.fnOf x qual (defArgs st) (defBody st) (defScope st) .none kV doc pm an cdv ct) cdv := ⟨⟨oc, od, kV, doc, pm, an, ct, osl, rfl, l, c⟩, k⟩
theorem fn_okG {x qual : Str} {st : Stmt} {f : Addr} {fd : FuncData} {cdv : Value} {N ps : List Str} {k : Nat} {R : List PyData → PyData → Prop} (F : FunC K x qual st f fd cdv) (S : FnScope N ps (defScope st)) (len : ∀ ds d, R ds d → ds.length = ps.length)
    (body : ∀ (A : Around) (outer : List Env) (s : Shared) (H : Hp) (E : XK) (B : Bs) (ds : List PyData) (d : PyData), Room k (Xc P w K mg base N qual st f cdv A outer s H E).A → R ds d → Xb (Xc P w K mg base N qual st f cdv A outer s H E) B (startG N ds) (defBody st) (RetP d)) :
    FnOk P w K mg base CX0 (k + 1) f fd ps (spR K R) := by
  obtain ⟨oc, od, kV, doc, pm, an, ct, osl, rfl, l, c⟩ := F.ex
  refine fn_of l c S (fun vs H Q E h => ?_) fun A outer s H vs Q E hr h => ?_
  · obtain ⟨ds, d, Hs, _, _, a, hR, _⟩ := h
    rw [a.length]
    exact len ds d hR
  · obtain ⟨ds, d, Hs, hsub, htb, a, hR, q⟩ := h
    refine ⟨_, (pb_u (X := Xc P w K mg base N qual st f cdv A outer s H E)).nox, body A outer s H E ⟨H, Hs, Hs⟩ ds d hr hR _ H Hs (L2.start N vs) (en_start hsub htb a) fun o ho => ?_⟩
    rcases ho with rfl | ⟨rfl, Γ, rfl⟩
    · exact fun v H' Hs' g p => q v H' Hs' g p
    · exact fun H' Hs' σ' E' => q .non H' Hs' E'.gr .non
end
/-! ### the end of a law whose defs hold generator expressions -/
/-- what is known at the head of the tables of the defs -/
def TabsAtHead (q : Program) (K : PySem.W.Frag) (h : Heap) : Prop := ∀ (x : Str) (d : DefRec) (c T : Addr), (recsOf q).find? (fun e => e.name == x) = some d → PySem.W.tabIn K x = some (c, T) → PySem.W.CodeHd h c T ∧ h.get? T = some { cls := .none, data := .fields #[] }
theorem walk_ofTabs {l : PySem.W.OpenLaw} {n k : Nat} {q : Program} {loose : List Str} {XP : (Str → Option Value) → Heap → Prop} {YP : World → Heap → Prop} {d : DefRec} {K : Params → PySem.W.Frag} {CX : World → CXT} {x : Str} (hn : l.most = some n) (hn2 : n ≤ sizeLine) (hdf : d.params.defaults = [])
    (hr : Room k callerA) (hY : ∀ (w : World) (h : Heap), YP w h → (K w.params).In h)
    (F : ∀ (w : World) (mg : Str → Option Value) (fa : Addr) (h : Heap), YP w h → (K w.params).In h → h.Ns mainGlobals mg → mg d.name = some (.ref fa) → TabsAtHead q (K w.params) h → LamX.LawAtS l w (K w.params) (CX w) k n x mg fa h)
    (hCX : ∀ (w : World) (H : Hp) (s : Shared) (e : Value) (s' : Shared), CX w [] H s (fun _ _ _ => False) e s' → False) : PySem.W.WalkO q loose XP YP l.row.toRowW d [] (fun f vs => PySem.call f vs) := by
  refine Att.attach_callB hn hdf fun w s₀ s₁ mg mb fa o pm cd doc a vs ns G Y ho hd hcd hmg hobj hints hlen hbits hg => ?_
  have inK := hY w _ Y
  obtain ⟨fd, cs, sp, t1, t2, t3, t4, t5, t6⟩ := F w mg fa _ Y inK G.T.g hmg fun x d c T hx ht => PySem.W.tab_of G.T inK hx ht
  exact LamX.law_callTs inK G.T.g G.T.b G.T.builtins G.T.nolimit hg t1 t2 t3 G.T.bmain hobj hints (Nat.le_trans hlen hn2) hr t6 t4 (fun H b1 b2 => t5 H a ns hlen hbits b1 b2) fun H e s' => hCX w H s₁ e s'
/-! ### a list of one's own, lent to a test -/
section
variable [Tabs] {X : Cx} {B : Bs} {Γ : Gm} {ds : List PyData} {i : Nat} {b : Bool}
theorem gr_cut {H Hs Hs1 H2 Hs2 : Hp} (x : Ext Hs Hs1) (g : Gr H Hs1 H2 Hs2) : ∃ Hs3, Gr H Hs H2 Hs3 := by
  refine ⟨fun a => if Hs a = none then none else Hs2 a, g.ext, fun a o ha => ?_, fun a o ha => ?_, fun a ha => .inl fun z => ha (if_pos z)⟩
  · have n : ¬ Hs a = none := by rw [ha]; exact Option.some_ne_none _
    rcases (x.trans g.exs) a o ha with h | ⟨ps, qs, e, h, t⟩
    · exact .inl ((if_neg n).trans h)
    · exact .inr ⟨ps, qs, e, (if_neg n).trans h, t⟩
  · have ha' : (if Hs a = none then none else Hs2 a) = some o := ha
    split at ha'
    · cases ha'
    · exact g.sub a o ha'
theorem dt_loan {K : PySem.W.Frag} {t : TT} (hi : Γ[i]? = some (.ow ds)) (h : DT K B t (Γ.set i (.sh (.list ds))) b) : DT K B t Γ b := fun H Hs σ E Q q => by
  obtain ⟨Hs1, _, x, E1⟩ := E.free hi
  exact h H Hs1 σ E1 Q fun H2 Hs2 g2 => by
    obtain ⟨Hs3, g3⟩ := gr_cut x g2
    exact q H2 Hs3 g3
theorem xt_loan {e : Expr} (hi : Tt (Γ[i]? = some (.ow ds))) (h : Xt X B (Γ.set i (.sh (.list ds))) e b) : Xt X B Γ e b := dt_loan hi.h h
end
/-! ### a module's constant that is a tuple of texts -/
def strsV : List Value → Option (List Str)
  | [] => some []
  | .str x _ :: r => (strsV r).map (x :: ·)
  | _ :: _ => none
theorem strsV_ok : ∀ {l : List Value} {ys : List Str}, strsV l = some ys → Vals (ys.map V.str) l
  | [], ys, h => by cases h; exact .nil
  | .str x t :: r, ys, h => by
    cases e : strsV r with
    | none => unfold strsV at h; rw [e] at h; cases h
    | some zs =>
      unfold strsV at h
      rw [e] at h
      cases h
      exact .cons ⟨t, rfl⟩ (strsV_ok e)
  | .none :: _, _, h => nomatch h
  | .bool _ :: _, _, h => nomatch h
  | .int _ _ :: _, _, h => nomatch h
  | .float _ _ :: _, _, h => nomatch h
  | .bytes _ _ :: _, _, h => nomatch h
  | .ref _ :: _, _, h => nomatch h
  | .type _ :: _, _, h => nomatch h
  | .builtin _ :: _, _, h => nomatch h
theorem cnm_strs [Tabs] {K : PySem.W.Frag} {mg : Str → Option Value} {x : Str} {a : Addr} {od : Option Addr} {its : Array Value} {n : Nat} {sl : Array (Option Value)} {ys : List Str} (hz : mg x = some (.ref a)) (lk : K.lookup a = some ⟨.type "tuple", od, .seq its n, sl⟩) (hv : strsV its.toList = some ys)
    (hs : ys.length ≤ 1000) (db : (x == ("__debug__" : Str)) = false) : CnM K mg x (.tuple (ys.map .str)) := by
  have v := strsV_ok hv
  refine ⟨⟨_, .ref a, hz, rfl, fun H => .tup (.inr ⟨_, its, n, lk, rfl, rfl, ?_, v⟩) (DqAll.strs ys)⟩, db⟩
  have e : ys.length = its.size := by simpa using v.length
  exact side_size (by omega)
theorem tabs_nil {T : Addr} {H : Hp} (h : H T = some (.tbl #[])) : GxR.TabG H T := ⟨#[], h, by trivial⟩
theorem tab_in {K : PySem.W.Frag} {x : Str} {f c T : Addr} {oc e : Value} {od dd : Option Addr} {fd : FuncData} {s1 s2 : Array (Option Value)} {vs : Array Value} (a : PySem.W.nsIn K mainGlobals x = some (some (.ref f))) (l : K.lookup f = some ⟨oc, od, .func fd, s1⟩) (ce : fd.code = .ref c)
    (lc : K.lookup c = some ⟨e, dd, .fields vs, s2⟩) (v : vs[11]? = some (.ref T)) : PySem.W.tabIn K x = some (c, T) := by
  unfold PySem.W.tabIn
  rw [a]
  show (match K.lookup f with | some ⟨_, _, .func fd, _⟩ => _ | _ => none) = _
  rw [l]
  show (match fd.code with | .ref c => _ | _ => none) = _
  rw [ce]
  show (match K.lookup c with | some ⟨_, _, .fields vs, _⟩ => _ | _ => none) = _
  rw [lc]
  show (match (vs[11]? : Option Value) with | some (.ref P) => _ | _ => none) = _
  rw [v]
end Dl
set_option Elab.async false
set_option linter.all false
set_option maxRecDepth 100000
set_option maxHeartbeats 2000000
/-! generator expressions under any, all, in full: the element is judged as any expression of a frame of its own, calls too -/
namespace Dl
open PySem PySem.Spec PyProof.Rows L2 GenW
/-! ### any, all over what hands out truths one by one -/
/-- n truths pb by the iterator at I; St j: j are out; St (n + 1): it has ended -/
structure Gw (P : Program) (w : World) (A : Around) (I : Addr) (n : Nat) (pb : Nat → Bool) (St : Nat → Shared → Prop) : Prop where
  item : ∀ (j : Nat) (s : Shared) (E : Value → Shared → Prop), j < n → St j s → wpAny (model P w) A (pyNext (.ref I)) (fun r s' => ∃ v, r = some v ∧ TruV (pb j) v ∧ St (j + 1) s') E s
  done : ∀ (s : Shared) (E : Value → Shared → Prop), St n s → wpAny (model P w) A (pyNext (.ref I)) (fun r s' => r = none ∧ St (n + 1) s') E s
  self : ∀ (j : Nat) (s : Shared) (Q : Value → Shared → Prop) (E : Value → Shared → Prop), St j s → Q (.ref I) s → wpAny (model P w) A (pyIter (.ref I)) Q E s
section
variable {P : Program} {w : World} {A : Around} {I : Addr} {n : Nat} {pb : Nat → Bool} {St : Nat → Shared → Prop} {R : Result → Shared → Prop}
theorem rest_range {j : Nat} (h : j < n) : (List.range n).drop j = j :: (List.range n).drop (j + 1) := by
  have h' : j < (List.range n).length := by rw [List.length_range]; exact h
  rw [List.drop_eq_getElem_cons h', List.getElem_range]
theorem all_loopW (W : Gw P w A.in1 I n pb St) : ∀ (k j : Nat) (s : Shared), n - j = k → j ≤ n → St j s → (∀ i s', St i s' → R (.ok (.ret (.bool (((List.range n).drop j).all pb)))) s') → codeAny (model P w) A (.builtin "all.loop" ⟨[.ref I], []⟩) R s := fun k => by
  induction k with
  | zero =>
    intro j s hk hj hs hR
    obtain rfl : j = n := by omega
    refine codeAny_builtin F.entry_all_loop ?_; rw [Around.under_plainId F.plain_all_loop _]; show wpAny _ A.in1 (pyNext (.ref I) >>= _) _ _ s
    refine wpAny_bind (thn (W.done s _ hs) fun r s' ⟨er, z⟩ => ?_)
    subst er
    have q := hR _ s' z
    rw [List.drop_of_length_le (Nat.le_of_eq List.length_range)] at q
    exact wpAny_bind (wpAny_rule (wpAny_pure q))
  | succ k ih =>
    intro j s hk hj hs hR
    have lt : j < n := by omega
    refine codeAny_builtin F.entry_all_loop ?_; rw [Around.under_plainId F.plain_all_loop _]; show wpAny _ A.in1 (pyNext (.ref I) >>= _) _ _ s
    refine wpAny_bind (thn (W.item j s _ lt hs) fun r s' ⟨v, er, tv, z⟩ => ?_)
    subst er
    refine wpAny_bind (wpAny_holding (truthy_of tv (wpAny_bind (wpAny_letGo ?_))))
    cases hb : pb j with
    | true =>
      simp only [if_true]
      refine wpAny_pure ⟨plainId_quiet F.plain_all_loop _, ih (j + 1) s' (by omega) lt z fun i s2 z2 => ?_⟩
      have q := hR i s2 z2
      rwa [rest_range lt, List.all_cons, hb, Bool.true_and] at q
    | false =>
      simp only [Bool.false_eq_true, if_false]
      have q := hR _ s' z
      rw [rest_range lt, List.all_cons, hb, Bool.false_and] at q
      exact wpAny_bind (wpAny_rule (wpAny_pure q))
theorem any_loopW (W : Gw P w A.in1 I n pb St) : ∀ (k j : Nat) (s : Shared), n - j = k → j ≤ n → St j s → (∀ i s', St i s' → R (.ok (.ret (.bool (((List.range n).drop j).any pb)))) s') → codeAny (model P w) A (.builtin "any.loop" ⟨[.ref I], []⟩) R s := fun k => by
  induction k with
  | zero =>
    intro j s hk hj hs hR
    obtain rfl : j = n := by omega
    refine codeAny_builtin F.entry_any_loop ?_; rw [Around.under_plainId F.plain_any_loop _]; show wpAny _ A.in1 (pyNext (.ref I) >>= _) _ _ s
    refine wpAny_bind (thn (W.done s _ hs) fun r s' ⟨er, z⟩ => ?_)
    subst er
    have q := hR _ s' z
    rw [List.drop_of_length_le (Nat.le_of_eq List.length_range)] at q
    exact wpAny_bind (wpAny_rule (wpAny_pure q))
  | succ k ih =>
    intro j s hk hj hs hR
    have lt : j < n := by omega
    refine codeAny_builtin F.entry_any_loop ?_; rw [Around.under_plainId F.plain_any_loop _]; show wpAny _ A.in1 (pyNext (.ref I) >>= _) _ _ s
    refine wpAny_bind (thn (W.item j s _ lt hs) fun r s' ⟨v, er, tv, z⟩ => ?_)
    subst er
    refine wpAny_bind (wpAny_holding (truthy_of tv (wpAny_bind (wpAny_letGo ?_))))
    cases hb : pb j with
    | false =>
      simp only [Bool.false_eq_true, if_false]
      refine wpAny_pure ⟨plainId_quiet F.plain_any_loop _, ih (j + 1) s' (by omega) lt z fun i s2 z2 => ?_⟩
      have q := hR i s2 z2
      rwa [rest_range lt, List.any_cons, hb, Bool.false_or] at q
    | true =>
      simp only [if_true]
      have q := hR _ s' z
      rw [rest_range lt, List.any_cons, hb, Bool.true_or] at q
      exact wpAny_bind (wpAny_rule (wpAny_pure q))
variable {s : Shared} {Q : Value → Shared → Prop} {E : Value → Shared → Prop}
theorem call_allW (W : Gw P w A.in1 I n pb St) (h0 : St 0 s) (hQ : ∀ i s', St i s' → Q (.bool ((List.range n).all pb)) s') : wpAny (model P w) A (call (.builtin "all") [.ref I]) Q E s := by
  refine call_function_tree F.kind_all F.plain_all F.entry_all (F.args_all1 _) ?_; unfold Builtin.«all»
  refine wpAny_bind (m := oneArg "all" _) (wpAny_pure ?_); refine wpAny_bind (W.self 0 s _ _ h0 ?_)
  exact wpAny_pure ⟨plainId_quiet F.plain_all_loop _, all_loopW W n 0 s rfl (Nat.zero_le _) h0 fun i s' z => by simpa using hQ i s' z⟩
theorem call_anyW (W : Gw P w A.in1 I n pb St) (h0 : St 0 s) (hQ : ∀ i s', St i s' → Q (.bool ((List.range n).any pb)) s') : wpAny (model P w) A (call (.builtin "any") [.ref I]) Q E s := by
  refine call_function_tree F.kind_any F.plain_any F.entry_any (F.args_any1 _) ?_; unfold Builtin.«any»
  refine wpAny_bind (m := oneArg "any" _) (wpAny_pure ?_); refine wpAny_bind (W.self 0 s _ _ h0 ?_)
  exact wpAny_pure ⟨plainId_quiet F.plain_any_loop _, any_loopW W n 0 s rfl (Nat.zero_le _) h0 fun i s' z => by simpa using hQ i s' z⟩
end
/-! ### the frame of a generator expression -/
/-- its context: entered at s1, H1; fp: the iterator's own objects; pn: the generator's object -/
abbrev gxOf (X : Cx) (s1 : Shared) (H1 : Hp) (cenv : Env) (A : Around) (fp : List Addr) (pn : List (Addr × Obj)) : Cx :=
  { X with A := A, s_0 := s1, H_0 := H1, env := cenv, outer := X.stack, stack := cenv :: X.stack, ex := fp, fn := fun _ => false, calm := true, pn := pn, xe := fun _ _ => False }
/-- while the generator sleeps -/
structure Wk (s s' : Shared) : Prop where
  os : s'.os = s.os
  bare : AllBare s'.gens
  keep : ∀ b o, s.heap.get? b = some o → s'.heap.get? b = some o
theorem Wk.trans {a b c : Shared} (x : Wk a b) (y : Wk b c) : Wk a c := ⟨y.os.trans x.os, y.bare, fun d o e => y.keep d o (x.keep d o e)⟩
theorem bare_set {G : Array GenState} {g : Nat} {x : GenState} (h : AllBare G) (hx : x.bare = true) : AllBare (G.setIfInBounds g x) := fun y hy => by
  obtain ⟨i, hi, e⟩ := Array.mem_iff_getElem.mp hy
  rw [Array.getElem_setIfInBounds] at e
  · split at e
    · rw [← e]; exact hx
    · rw [← e]; exact h _ (Array.getElem_mem _)
  · rwa [Array.size_setIfInBounds] at hi
section
variable {X : Cx} {s1 : Shared} {H1 : Hp} {cenv : Env} {A : Around} {fp : List Addr} {pn : List (Addr × Obj)} {σw : L2.St} {tn : Nat → Heap → Prop} {W : Nat → Hp → Prop}
/-- j truths are out -/
def GZ (X : Cx) (s1 : Shared) (H1 : Hp) (cenv : Env) (A : Around) (fp : List Addr) (pn : List (Addr × Obj)) (σw : L2.St) (tn : Nat → Heap → Prop) (W : Nat → Hp → Prop) (j : Nat) (s : Shared) : Prop :=
  ∃ H, Inv (gxOf X s1 H1 cenv A fp pn) [] σw H s ∧ tn j s.heap ∧ (∀ b ∈ fp, H b = none) ∧ W j H
theorem GZ.wake {P : Program} {w : World} {K : PySem.W.Frag} {tg : Expr} {J : It} {it : Addr} {j : Nat} {s s' : Shared} (T : Turn P w K tg J fp it tn) (z : GZ X s1 H1 cenv A fp pn σw tn W j s) (k : Wk s s') : GZ X s1 H1 cenv A fp pn σw tn W j s' := by
  obtain ⟨H, I, st, n, w⟩ := z
  exact ⟨H, I.call' (ch := []) k.os (Un.kept k.keep) (I.hok.kept k.keep) k.bare fun b hb => absurd hb (by simp), T.keep _ _ _ st fun b _ o e => k.keep b o e, n, w⟩
/-- it has ended -/
def GF (X : Cx) (s1 : Shared) (H1 : Hp) (cenv : Env) (A : Around) (fp : List Addr) (pn : List (Addr × Obj)) (σw : L2.St) (W : Nat → Hp → Prop) (n : Nat) (s : Shared) : Prop :=
  ∃ H, Inv (gxOf X s1 H1 cenv A fp pn) [] σw H s ∧ W n H
theorem GF.wake {n : Nat} {s s' : Shared} (z : GF X s1 H1 cenv A fp pn σw W n s) (k : Wk s s') : GF X s1 H1 cenv A fp pn σw W n s' := by
  obtain ⟨H, I, w⟩ := z
  exact ⟨H, I.call' (ch := []) k.os (Un.kept k.keep) (I.hok.kept k.keep) k.bare (fun b hb => absurd hb (by simp)), w⟩
/-- what is handed out -/
def GY2 (n : Nat) (pb : Nat → Bool) (Z : Nat → Shared → Prop) : Protocol := fun m s₀ v s kap => ∃ j, j < n ∧ m = n - 1 - j ∧ TruV (pb j) v ∧ Z (j + 1) s ∧ ∀ s', Wk s s' → kap (.send .none) s'
def GR2 (Fz : Shared → Prop) : GenEnd := fun m s₀ r s => r = .ok .next ∧ (m = 0 ∧ Fz s)
def truV : V → Option Bool
  | .bl b => some b
  | .int i => some (i != 0)
  | _ => none
theorem truV_ok {v : V} {u : Value} {b : Bool} (r : RelV v u) (h : truV v = some b) : TruV b u := by
  cases v with
  | bl c => cases h; exact .inl r
  | int i =>
    obtain ⟨t, rfl⟩ := _root_.id r
    cases h
    exact .inr ⟨i, t, rfl, rfl⟩
  | _ => cases h
/-- the turns -/
theorem gen_turns {elt tg iter : Expr} {scope : Scope} {pos : Pos} {J : It} {it : Addr} {n : Nat} {pb : Nat → Bool} {g : TG} {te : TE} {vs : List Nat} {σ : L2.St} (hA : (A.over (.compLoop (.GeneratorExp elt [⟨tg, iter, [], 0⟩] scope pos) 0 (.ref it) .none cenv) []) = AX)
    (hco : cenv.scope.isCoroutine = false) (T : Turn X.prog X.w X.K tg J fp it tn) (hg : PG (gxOf X s1 H1 cenv AX fp pn) tg g) (he : PE (gxOf X s1 H1 cenv AX fp pn) elt te) (hpn : ∀ p ∈ pn, p.1 ∉ fp)
    (stop : ∀ H, W n H → J.stop n H) (turn : ∀ j H, j < n → W j H → J.go j H ∧ ∀ x H', J.yld j H x H' → g x (wipe σ vs) H' fun σ2 H2 => wipe σ2 vs = wipe σ vs ∧ te σ2 H2 fun y H3 => truV y = some (pb j) ∧ W (j + 1) H3) :
    ∀ (k j : Nat) (s₀ s : Shared), n - j = k → j ≤ n → GZ X s1 H1 cenv AX fp pn (wipe σ vs) tn W j s →
      Seg (model X.prog X.w) A (GR2 (GF X s1 H1 cenv AX fp pn (wipe σ vs) W n)) (GY2 n pb (GZ X s1 H1 cenv AX fp pn (wipe σ vs) tn W)) (n - j) s₀ (.compLoop (.GeneratorExp elt [⟨tg, iter, [], 0⟩] scope pos) 0 (.ref it) .none cenv)
        ((model X.prog X.w).den (.compLoop (.GeneratorExp elt [⟨tg, iter, [], 0⟩] scope pos) 0 (.ref it) .none cenv)) [] s := fun k => by
  have stat : ∀ {σ' : L2.St} {H' : Hp} {s' : Shared}, Inv (gxOf X s1 H1 cenv AX fp pn) [] σ' H' s' → (∀ b ∈ fp, H' b = none) → ∀ b ∈ fp, FpOk (gxOf X s1 H1 cenv AX fp pn) [] H' b := fun {σ' H' s'} I' hn b hb =>
    ⟨hn b hb, (I'.ok.exf b hb).1, I'.ok.exfs b hb, .inl hb, fun x c e => (I'.ok.exf b hb).2 x c e, fun p hp z => by
      have hp' : p ∈ pn := by simpa using hp
      exact hpn p hp' (by rw [z]; exact hb)⟩
  induction k with
  | zero =>
    intro j s₀ s hk hj ⟨H, I, st, nf, w⟩
    obtain rfl : j = n := by omega
    show Seg _ A _ _ _ s₀ _ ((compTurn (.GeneratorExp elt [⟨tg, iter, [], 0⟩] scope pos) 0 (.ref it) .none cenv).onRaise (leaving cenv)) [] s
    rw [compTurn_gen, Sem.onRaise_eq_wrap]
    refine seg_bind_wrap (wpAny_standAt (seg_bind_wrap ?_))
    rw [hA]
    refine thnF (T.done (gxOf X s1 H1 cenv AX fp pn) rfl rfl rfl rfl j [] s _ H (fun _ _ => False) I (stat I nf) st (stop H w)) fun r s' ⟨er, I'⟩ => ?_
    subst er
    exact seg_end (.ok .next) ⟨rfl, Nat.sub_self _, H, I', w⟩
  | succ k ih =>
    intro j s₀ s hk hj ⟨H, I, st, nf, w⟩
    have lt : j < n := by omega
    obtain ⟨go, step⟩ := turn j H lt w
    have en : n - j = n - (j + 1) + 1 := by omega
    rw [en]
    show Seg _ A _ _ _ s₀ _ ((compTurn (.GeneratorExp elt [⟨tg, iter, [], 0⟩] scope pos) 0 (.ref it) .none cenv).onRaise (leaving cenv)) [] s
    rw [compTurn_gen, Sem.onRaise_eq_wrap]
    refine seg_bind_wrap (wpAny_standAt (seg_bind_wrap ?_))
    rw [hA]
    refine thnF (T.item (gxOf X s1 H1 cenv AX fp pn) rfl rfl rfl rfl j [] s _ H (fun _ _ => False) I (stat I nf) st go) fun r s2 ⟨u, er, h2⟩ => ?_
    subst er
    refine seg_bind_wrap ?_
    rw [hA]
    refine thnF h2 fun _ s3 ⟨x, H3, I3, rx, yx, st3, n3⟩ => ?_
    have I3' := I3.pinned (stat I3 n3) (T.obj _ _ st3)
    refine seg_bind_wrap ?_
    rw [hA]
    refine thnF (hg.run _ s3 _ H3 x u _ I3' rx (step x H3 yx)) fun _ s4 ⟨σ4, H4, I4, w4, q4⟩ => ?_
    simp only [List.forIn_nil]
    refine seg_bind_wrap (wpAny_pure ?_)
    simp only [if_true]
    have yv : ∀ v, yieldOut cenv v = yieldValue v := fun v => by simp only [yieldOut, hco, Bool.false_eq_true, if_false]
    simp only [yv]
    rw [Sem.bind_eq_wrap', Sem.bind_eq_wrap', Sem.wrap_wrap, Sem.wrap_wrap]
    refine seg_wrap ?_
    rw [hA]
    refine thnF (he.run _ s4 σ4 H4 _ I4 q4) fun y s5 ⟨v, H5, I5, rv, tv, w5⟩ => ?_
    have pinned : ∀ b ∈ fp, ∀ o, s3.heap.get? b = some o → s5.heap.get? b = some o ∧ H5 b = none := fun b hb o e =>
      let z := I5.pin (b, o) (List.mem_append_right _ (List.mem_append_right _ (mem_pinsAt hb e)))
      ⟨z.1, z.2.1⟩
    have z5 : GZ X s1 H1 cenv AX fp pn (wipe σ vs) tn W (j + 1) s5 := by
      refine ⟨H5, (I5.unpinned (pins := [])).weak (by rw [← w4, wipe_length]) (fun i v e => ?_), T.keep _ _ _ st3 fun b hb o e => (pinned b hb o e).1, fun b hb => ?_, w5⟩
      · rw [← w4] at e
        exact (wipe_some e).1
      · obtain ⟨o, e, _⟩ := T.obj _ _ st3 b hb
        exact (pinned b hb o e).2
    refine seg_at (seg_yield rfl rfl rfl ⟨j, lt, by omega, truV_ok rv tv, z5, fun s6 wk => ?_⟩)
    exact seg_again rfl (ih (j + 1) s6 s6 (by omega) lt (z5.wake T wk))
theorem wk_set {s : Shared} {g : Nat} {x : GenState} (h : AllBare s.gens) (hx : x.bare = true) : Wk s (s.setGen g x) := ⟨rfl, bare_set h hx, fun _ _ e => e⟩
/-- the generator object a, its state at g: how it stands -/
def GSt (M : Model) (A : Around) (R : GenEnd) (Y : Protocol) (n g : Nat) (Z : Nat → Shared → Prop) (Fz : Shared → Prop) (j : Nat) (s : Shared) : Prop :=
  (j ≤ n ∧ Z j s ∧ ∃ gs : GenState, gs.bare = true ∧ s.gens[g]? = some gs ∧ ∀ s', Wk s s' → gs.Goes M A R Y (n - j) (.send .none) s') ∨ (j = n + 1 ∧ Fz s)
theorem gen_gw {P : Program} {w : World} {K : PySem.W.Frag} {tg : Expr} {J : It} {it a : Addr} {n g : Nat} {pb : Nat → Bool} {go : Obj} {A0 : Around} (T : Turn P w K tg J fp it tn) (hh : A0.handled = none) (hroom : A0.depth < recursionLimit)
    (hgo : ∀ h : Heap, h.get? a = some go → h.IsGen a g) (hpn : (a, go) ∈ pn) :
    Gw X.prog X.w A0 a n pb (GSt (model X.prog X.w) A0.in1 (GR2 (GF X s1 H1 cenv A fp pn σw W n)) (GY2 n pb (GZ X s1 H1 cenv A fp pn σw tn W)) n g (GZ X s1 H1 cenv A fp pn σw tn W) (GF X s1 H1 cenv A fp pn σw W n)) := by
  have facts : ∀ {j : Nat} {s : Shared}, GZ X s1 H1 cenv A fp pn σw tn W j s → s.heap.NoLimit ∧ s.heap.IsGen a g ∧ AllBare s.gens := fun {j s} z => by
    obtain ⟨H, I, _, _, _⟩ := z
    exact ⟨I.nolimit, hgo _ (I.pin (a, go) (List.mem_append_left _ hpn)).1, I.bare⟩
  have factsF : ∀ {s : Shared}, GF X s1 H1 cenv A fp pn σw W n s → s.heap.NoLimit ∧ s.heap.IsGen a g ∧ AllBare s.gens := fun {s} z => by
    obtain ⟨H, I, _⟩ := z
    exact ⟨I.nolimit, hgo _ (I.pin (a, go) (List.mem_append_left _ hpn)).1, I.bare⟩
  refine ⟨fun j s E lt st => ?_, fun s E st => ?_, fun j s Q E st q => ?_⟩
  · rcases st with ⟨_, z, gs, gb, eg, goes⟩ | ⟨e, _⟩
    · obtain ⟨lim, isg, bare⟩ := facts z
      have glt : g + 1 ≤ s.gens.size := (Array.getElem?_eq_some_iff.mp eg).1
      obtain ⟨m, em⟩ : ∃ m, n - j = m + 1 := ⟨n - j - 1, by omega⟩
      rw [em] at goes
      refine wpAny_gsz glt ?_
      refine wpAny_pyNext_genexpQ (P := fun m _ s₁ => m = 0 ∧ GF X s1 H1 cenv A fp pn σw W n s₁) hh lim hroom isg eg (goes _ (wk_set bare rfl)) (fun v s2 gs' gb' hy => fun gz => ?_) fun s2 hp => absurd hp.1 (Nat.succ_ne_zero m)
      obtain ⟨j', lt', ej, tv, z', kap⟩ := hy
      obtain rfl : j' = j := by omega
      have wk' : Wk s2 (s2.setGen g gs') := wk_set (facts z').2.2 gb'
      refine ⟨v, rfl, tv, .inl ⟨lt, z'.wake T wk', gs', gb', ?_, fun s3 wk3 => ?_⟩⟩
      · have sz : g < s2.gens.size := by
          have gz' : g + 1 ≤ (s2.setGen g gs').gens.size := gz
          rw [setGen_size] at gz'
          exact gz'
        show (s2.gens.setIfInBounds g gs')[g]? = some gs'
        rw [Array.getElem?_setIfInBounds_self, if_pos sz]
      · rw [show n - (j' + 1) = m by omega]
        exact kap s3 (wk'.trans wk3)
    · omega
  · rcases st with ⟨_, z, gs, gb, eg, goes⟩ | ⟨e, _⟩
    · obtain ⟨lim, isg, bare⟩ := facts z
      rw [Nat.sub_self] at goes
      refine wpAny_pyNext_genexpQ (P := fun m _ s₁ => m = 0 ∧ GF X s1 H1 cenv A fp pn σw W n s₁) hh lim hroom isg eg (goes _ (wk_set bare rfl)) (fun v s2 gs' gb' hy => ?_) fun s2 hp h' hk => ?_
      · obtain ⟨j', lt', ej, tv, z', kap⟩ := hy
        exact (kap s2 ⟨rfl, (facts z').2.2, fun _ _ e => e⟩).elim
      · have fb := (factsF hp.2).2.2
        exact ⟨rfl, .inr ⟨rfl, hp.2.wake ⟨rfl, bare_set fb rfl, hk⟩⟩⟩
    · omega
  · rcases st with ⟨_, z, _⟩ | ⟨_, z⟩
    · exact wpAny_pyIter_gen (facts z).2.1 q
    · exact wpAny_pyIter_gen (factsF z).2.1 q
/-- from its start to the first turn -/
theorem gen_begin {P : Program} {w : World} {K : PySem.W.Frag} {elt tg iter : Expr} {scope : Scope} {pos : Pos} {J : It} {it : Addr} {R : GenEnd} {Y : Protocol} {n : Nat} {s₀ s : Shared} {A : Around} (T : Turn P w K tg J fp it tn) (st : tn 0 s.heap)
    (loop : Seg (model P w) A R Y n s₀ (.compLoop (.GeneratorExp elt [⟨tg, iter, [], 0⟩] scope pos) 0 (.ref it) .none cenv) ((model P w).den (.compLoop (.GeneratorExp elt [⟨tg, iter, [], 0⟩] scope pos) 0 (.ref it) .none cenv)) [] s) :
    Seg (model P w) A R Y n s₀ (.compStart (.GeneratorExp elt [⟨tg, iter, [], 0⟩] scope pos) 0 (.ref it) .none cenv) ((model P w).den (.compStart (.GeneratorExp elt [⟨tg, iter, [], 0⟩] scope pos) 0 (.ref it) .none cenv)) [] s := by
  show Seg _ A _ _ _ s₀ _ ((compStart (.GeneratorExp elt [⟨tg, iter, [], 0⟩] scope pos) 0 (.ref it) .none cenv).onRaise (leaving cenv)) [] s
  unfold compStart; rw [Sem.onRaise_eq_wrap]
  show Seg _ A _ _ _ s₀ _ ((ask >>= _).wrap _ _ _ _) [] s; refine seg_bind_wrap (wpAny_askSetting ?_)
  split
  · exact seg_again rfl loop
  · refine seg_bind_wrap (wpAny_rule (seg_bind_wrap (wpAny_standAt (seg_bind_wrap (T.self _ 0 s _ _ st ?_)))))
    exact seg_again rfl loop
end
/-- the names of a generator expression's scope: own: the targets, by their slots -/
structure GScp (N : List Str) (sc scope : Scope) (own : List (Str × Nat)) : Prop where
  kind : scope.kind = .function
  co : scope.isCoroutine = false
  cell : ∀ y ∈ scope.names, y.2 ≠ .cell
  dot : scope.names.lookup (".0" : Str) = some NameKind.local
  free : ∀ y ∈ scope.names, y.2 = .free → sc.names.lookup y.1 = some .cell ∨ sc.names.lookup y.1 = some .free
  loc : ∀ (i : Nat) (x : Str), N[i]? = some x → scope.names.lookup x = some .local → i ∈ own.map (·.2)
section
variable {X : Cx} {pins : List (Addr × Obj)} {σ : L2.St} {H1 : Hp} {s1 : Shared}
theorem clo_at {cells : List (Str × Addr)} {scope : Scope} {y : Str} {c : Addr} (free : ∀ y ∈ scope.names, y.2 = .free → ∃ c, cells.lookup y.1 = some c) (h : (cloFrom cells scope.names []).lookup y = some c) : cells.lookup y = some c := by
  rcases cloFrom_mem (PySem.mem_of_lookup h) with hm | ⟨h1, h2⟩
  · cases hm
  · obtain ⟨d, hd⟩ := free _ h1 rfl
    rw [hd]
    rw [hd] at h2
    exact congrArg some (by simpa using h2.symm)
/-- the invariant, where the generator has been made: s6 holds all of s1 but for the table at T -/
theorem gen_inv {scope : Scope} {own : List (Str × Nat)} {fp : List Addr} {T C a : Addr} {go : Obj} {code : Value} {A : Around} {H2 : Hp} {s6 : Shared} {ps more : Array Value} {it : Value} (I : Inv X pins σ H1 s1) (S : GScp X.N X.env.scope scope own) (hA : A.frames = some (genEnv scope (cloFrom X.env.cells scope.names []) C code builtinsNs X.env :: X.stack)) (hh : A.handled = none)
    (hfp : ∀ b ∈ fp, FpOk X pins H1 b ∧ b < s1.heap.objs.size) (hT : H1 T = some (.tbl ps)) (hT2 : H2 = upd H1 T (.tbl (ps ++ more))) (os : s6.os = s1.os) (bare : AllBare s6.gens) (keep : ∀ b o, b ≠ T → s1.heap.get? b = some o → s6.heap.get? b = some o) (hok : HOk X.prog X.w H2 s6.heap)
    (ns : s6.heap.Ns C (fun y => if y = ".0" then some it else none)) (hC : s1.heap.objs.size ≤ C) (ha : s6.heap.get? a = some go) (haC : a ≠ C) (haz : s1.heap.objs.size ≤ a) (hgo : ∀ v, go.data ≠ .cell v) (atT : ∃ o, s6.heap.get? T = some o) :
    Inv (gxOf X s1 H1 (genEnv scope (cloFrom X.env.cells scope.names []) C code builtinsNs X.env) A fp [(a, go)]) [] (wipe σ (own.map (·.2))) H2 s6 := by
  have hfree : ∀ y ∈ scope.names, y.2 = .free → ∃ c, X.env.cells.lookup y.1 = some c := fun y hy e => by
    rcases S.free y hy e with k | k
    · exact I.ok.has _ (.inl k)
    · exact I.ok.has _ (.inr k)
  have young : ∀ b, s1.heap.objs.size ≤ b → H1 b = none := fun b hb => I.hok.fresh hb
  have neT : ∀ b, H1 b = none → b ≠ T := fun b n z => by rw [z, hT] at n; cases n
  have at2 : ∀ b, b ≠ T → H2 b = H1 b := fun b h => by rw [hT2, upd_ne h]
  have cellT : ∀ {y c}, X.env.cells.lookup y = some c → c ≠ T := fun {y c} h => neT c (I.freeC y c h)
  have cellC : ∀ {y c}, X.env.cells.lookup y = some c → c < s1.heap.objs.size := fun {y c} h => by
    obtain ⟨v, z⟩ := I.cell y c h
    exact z.lt
  have fsub : ∀ b ∈ frs X.stack, b < s1.heap.objs.size := fun b hb => by
    rcases List.mem_cons.mp (I.stkSub b hb) with z | z
    · rw [z]; exact I.lt
    · obtain ⟨_, o, ho, _⟩ := I.ok.funs.mem z
      exact Nat.lt_of_lt_of_le (Heap.lt_size ho) I.sz
  refine ⟨⟨I.ok.mod, S.kind, I.ok.glob, rfl, hC, fun x y c h1 h2 => ?_, fun x hx => ?_, fun x c z => absurd (show false = true from z) Bool.false_ne_true, fun _ => hh, hA, .inr ⟨rfl, rfl⟩, fun b hb => ⟨?_, fun x c h z => ?_⟩, I.bs, Nat.le_trans I.ok.bsz I.sz, fun b o e hb => ?_, fun b hb z => ?_, I.stack, I.stkFree⟩,
    os, bare, ⟨fun b o e n _ _ => ?_, fun b o e n _ _ => ?_, fun b o e n _ => ?_, fun b o e _ => ?_, fun b xs e => ?_, fun b o u e => ?_, fun b qs e => ?_⟩, ⟨_, ns, fun i x v h1 h2 h3 => ?_⟩, fun x c h => ?_, ?_, fun x c h => ?_, fun p hp => ?_, hok, ?_⟩
  · exact I.ok.inj x y c (clo_at hfree h1) (clo_at hfree h2)
  · rcases hx with hx | hx
    · exact absurd rfl (S.cell _ (PySem.mem_of_lookup hx))
    · exact mem_lookup (cloFrom_has (cells := X.env.cells) (acc := []) (PySem.mem_of_lookup hx))
  · exact Nat.ne_of_lt (Nat.lt_of_lt_of_le (hfp b hb).2 hC)
  · exact (hfp b hb).1.2.2.2.2.1 x c (clo_at hfree h) z
  · rcases (hfp b hb).1.2.2.2.1 with z | z
    · exact I.ok.noex b o e z
    · exact absurd (Nat.lt_of_lt_of_le (Heap.lt_size e) (Nat.le_trans I.ok.bsz z)) (Nat.lt_irrefl _)
  · rcases List.mem_cons.mp (I.stkSub b z) with y | y
    · exact (hfp b hb).1.2.1 y
    · exact (hfp b hb).1.2.2.1 y
  · exact keep b o (neT b n) e
  · exact ⟨o.slots, keep b o (neT b n) e⟩
  · rw [at2 b (neT b n)]; exact n
  · by_cases z : b = T
    · rw [z]; exact atT
    · exact ⟨o, keep b o z e⟩
  · have ne : b ≠ T := fun z => by
      have e' : H1 b = some (.tup xs) := e
      rw [z, hT] at e'; cases e'
    rw [at2 b ne]; exact e
  · have ne : b ≠ T := fun z => by
      have e' : H1 b = some (.frz o u) := e
      rw [z, hT] at e'; cases e'
    rw [at2 b ne]; exact e
  · by_cases z : b = T
    · have e' : H1 b = some (.tbl qs) := e
      rw [z, hT] at e'; cases e'
      exact ⟨more, by rw [z, hT2, upd_same]⟩
    · refine ⟨#[], ?_⟩
      rw [at2 b z, Array.append_empty]; exact e
  · have w2 := wipe_some h2
    rcases h3 with h3 | h3 | h3
    · exact absurd (S.loc i x h1 h3) w2.2
    · exact absurd rfl (S.cell _ (PySem.mem_of_lookup h3))
    · have hm := PySem.mem_of_lookup h3
      obtain ⟨m, hn, look⟩ := I.loc
      have vis : X.env.scope.names.lookup x = some .cell ∨ X.env.scope.names.lookup x = some .free := S.free _ hm rfl
      obtain ⟨u, ru, lk⟩ := look i x v h1 w2.1 (.inr vis)
      rcases lk with ⟨k, _⟩ | ⟨_, c, hc, hv⟩
      · exfalso
        have k : X.env.scope.names.lookup x = some .local := k
        rcases vis with y | y <;> rw [k] at y <;> cases y
      · obtain ⟨c', hc'⟩ := mem_lookup (cloFrom_has (cells := X.env.cells) (acc := []) hm)
        have e : c' = c := by
          have := clo_at hfree hc'
          rw [hc] at this
          exact (Option.some.inj this).symm
        rw [e] at hc'
        obtain ⟨o, ho, r⟩ := hv
        exact ⟨u, ru, .inr ⟨.inr h3, c, hc', o, keep c o (cellT hc) ho, r⟩⟩
  · obtain ⟨v, o, ho, r⟩ := I.cell x c (clo_at hfree h)
    exact ⟨v, o, keep c o (cellT (clo_at hfree h)) ho, r⟩
  · show H2 C = none
    rw [at2 C (neT C (young C hC))]; exact young C hC
  · rw [at2 c (cellT (clo_at hfree h))]; exact I.freeC x c (clo_at hfree h)
  · have hp' : p = (a, go) := by simpa using hp
    subst hp'
    refine ⟨ha, ?_, haC, fun z => absurd (fsub a z) (Nat.not_lt.mpr haz), hgo⟩
    rw [at2 a (neT a (young a haz))]; exact young a haz
  · rw [wipe_length]; exact I.len
/-- the code object of the expression, from the table or new; then the built-ins -/
theorem gen_head2 {c T : Addr} {gpos : Pos} {scope : Scope} {s : Shared} {H : Hp} {ps : Array Value} {Q2 : Value → Addr → Shared → Prop} (TB : GxR.TabB X.base X.mg c T) (hcode : X.env.code = .ref c) (I : Inv X pins σ H s) (hT : H T = some (.tbl ps)) (ht : TriplesOk ps.toList)
    (k : ∀ (code : Value) (h3 : Heap) (tk : Nat) (more : Array Value), Heap.ExtBut T s.heap h3 → s.heap.objs.size ≤ h3.objs.size → h3.get? T = some { cls := .none, data := .fields (ps ++ more) } → TriplesOk (ps ++ more).toList → Q2 code builtinsNs { s with heap := h3, toks := tk }) :
    wpAny (model X.prog X.w) X.A (genexprCode X.env gpos (X.env.qual ++ "<genexpr>") scope) (fun code s₃ => wpAny (model X.prog X.w) X.A (builtinsFor X.env.globals X.env.builtins) (fun bi s₄ => Q2 code bi s₄) X.xe s₃) X.xe s := by
  have tAt : s.heap.get? T = some { cls := .none, data := .fields ps } := I.hok T _ hT
  have head : PySem.W.CodeHd s.heap c T := TB.code.keeps I.bk
  have blt : ∀ (code : Value) (h3 : Heap) (tk : Nat) (more : Array Value), Heap.ExtBut T s.heap h3 → s.heap.objs.size ≤ h3.objs.size → h3.get? T = some { cls := .none, data := .fields (ps ++ more) } → TriplesOk (ps ++ more).toList →
      wpAny (model X.prog X.w) X.A (builtinsFor X.env.globals X.env.builtins) (fun bi s₄ => Q2 code bi s₄) X.xe { s with heap := h3, toks := tk } := by
    intro code h3 tk more hx hz h3T h3t
    obtain ⟨bm, ob2, b1, b2, b3, b4, b5, b6, b7, b8⟩ := TB.bm
    have gl : s.heap.Ns mainGlobals X.mg := I.mod.glob.keeps I.bk
    refine wpAny_builtinsFor (m := X.mg) ?_ b1 b2 (hx _ _ b4 (I.bk _ _ b5)) b6 b7 b8 (k code h3 tk more hx hz h3T h3t)
    rw [I.ok.glob]
    exact gl.extBut hx TB.gP
  cases hf : codeAmong gpos ps.toList with
  | some cv =>
    refine wpAny_genexprCode_hit hcode (head.code tAt ht) hf (blt cv s.heap s.toks #[] (Heap.ExtBut.refl _ _) (Nat.le_refl _) ?_ ?_)
    · rw [Array.append_empty]; exact tAt
    · rw [Array.append_empty]; exact ht
  | none =>
    refine wpAny_genexprCodeX hcode (head.code tAt ht) (head.tab tAt) hf fun c2 h3 tk hx hge hlt hco _ htab _ => blt _ h3 tk _ hx (Nat.le_trans hge (Nat.le_of_lt hlt)) htab.2 ?_
    obtain ⟨_, _, _, _, _, _, _, _, _, _, _, _, _, _, _, _, _, _, _, trip, _⟩ := hco
    exact trip
def tGenF (T : Addr) (wi : TI) (g : TG) (te : TE) (vs : List Nat) (f : List Nat → (Nat → Bool) → Bool) : TE := fun σ H Q => wi σ H fun J H1 => GxR.TabG H1 T ∧ ∃ (n : Nat) (pb : Nat → Bool) (W : Nat → Hp → Prop), (∀ H2, GxR.Tabbed T H1 H2 → W 0 H2) ∧ (∀ H, W n H → J.stop n H) ∧
  (∀ j H, j < n → W j H → J.go j H ∧ ∀ x H', J.yld j H x H' → g x (wipe σ vs) H' fun σ2 H2 => wipe σ2 vs = wipe σ vs ∧ te σ2 H2 fun y H3 => truV y = some (pb j) ∧ W (j + 1) H3) ∧ ∀ j H, W j H → Q (.bl (f (List.range n) pb)) H
/-- a generator expression's frame over X -/
def IsGx (X : Cx) (scope : Scope) (j : Nat) (X' : Cx) : Prop := ∃ (s : Shared) (H : Hp) (C : Addr) (code : Value) (A : Around) (fp : List Addr) (pn : List (Addr × Obj)), X' = gxOf X s H (genEnv scope (cloFrom X.env.cells scope.names []) C code builtinsNs X.env) A fp pn ∧ Room j A
theorem pe_genF {nm : Str} {f : List Nat → (Nat → Bool) → Bool} {c T : Addr} {elt tg iter : Expr} {own : List (Str × Nat)} {p pos gpos : Pos} {scope : Scope} {wi : TI} {g : TG} {te : TE} {k j : Nat} {bn : Value} (hr : Room k X.A) (hj : j + 1 ≤ k) (hg : Gl X nm) (hm : X.mg nm = none) (hbn : bootBuiltins nm = some bn) (hbb : ∃ id, bn = .builtin id)
    (cw : ∀ (a : Addr) (s5 : Shared) (Q : Value → Shared → Prop) (n : Nat) (pb : Nat → Bool) (St : Nat → Shared → Prop), Gw X.prog X.w X.A.in1 a n pb St → St 0 s5 → (∀ i s', St i s' → Q (.bool (f (List.range n) pb)) s') → wpAny (model X.prog X.w) X.A (call bn [.ref a]) Q X.xe s5)
    (TB : GxR.TabB X.base X.mg c T) (hcode : X.env.code = .ref c) (S : GScp X.N X.env.scope scope own) (hi : PI X tg iter wi) (hs : ∀ v, genFold iter X.env v = pure v) (hn : nm ≠ "__name__") (hdb : (nm == ("__debug__" : Str)) = false)
    (hG : ∀ X', IsGx X scope j X' → PG X' tg g) (hE : ∀ X', IsGx X scope j X' → PE X' elt te)
    (he : starEach [.GeneratorExp elt [⟨tg, iter, [], 0⟩] scope gpos] X.env = (false, eval (.GeneratorExp elt [⟨tg, iter, [], 0⟩] scope gpos) X.env) :: starEach [] X.env) :
    PE X (.Call (.Name nm p) [.GeneratorExp elt [⟨tg, iter, [], 0⟩] scope gpos] [] pos) (tGenF T wi g te (own.map (·.2)) f) := by
  obtain ⟨id, rfl⟩ := hbb
  refine ⟨fun pins s σ H Q I h => ?_⟩
  have hd := hr.hd
  have dp := hr.dp
  have un := hr.un
  have hfree : ∀ y ∈ scope.names, y.2 = .free → ∃ c, X.env.cells.lookup y.1 = some c := fun y hy e => by
    rcases S.free y hy e with k | k
    · exact I.ok.has _ (.inl k)
    · exact I.ok.has _ (.inr k)
  refine wpAny_Call_Name_kw (ld_blt I hg hm hbn ?_ hn hdb); refine PyProof.Rows.callWith_builtin1 ?_ he (by rfl)
  rw [he]
  show wpAny _ _ (spliced ((false, eval (.GeneratorExp elt [⟨tg, iter, [], 0⟩] scope gpos) X.env) :: backTo pos (starEach [] X.env))) _ _ s
  refine Calls.spliced_cons (wpAny_GeneratorExp_make S.co (closure_ok hfree) S.cell S.dot S.kind (by omega) ?_ hs)
  refine thn (hi.run pins s σ H _ I h) fun v s1 h1 => thn h1 fun itv s2 ⟨it, fp, tn, J, H1, ei, I2, TT, st, hfp, ⟨ps, hT, ht⟩, n, pb, W, w0, hstop, hturn, hQ⟩ => ?_
  subst ei
  refine ⟨I2.nolimit, gen_head2 TB hcode I2 hT ht fun code h3 tk more hx hz h3T h3t => fun h' ns sb => ?_⟩
  have tAt : s2.heap.get? T = some { cls := .none, data := .fields ps } := I2.hok T _ hT
  have sz : ∀ b ∈ fp, b < s2.heap.objs.size := fun b hb => by
    obtain ⟨o, e, _⟩ := TT.obj _ _ st b hb
    exact Heap.lt_size e
  have hsz : h'.objs.size = h3.objs.size + 1 := by rw [sb.1, Heap.size_push]
  have k3 : ∀ b o, h3.get? b = some o → h'.get? b = some o := fun b o e => sb.extBut b o (Nat.ne_of_lt (Heap.lt_size e)) (Heap.get?_push_of_some _ e)
  generalize hgo : ({ cls := .type "generator", data := .fields #[.int s2.gens.size 0, .str "<genexpr>" (tk + 1), .str (X.env.qual ++ "<genexpr>") (tk + 1 + 1)] } : Obj) = go
  have isg : ∀ h : Heap, h.get? h'.objs.size = some go → h.IsGen h'.objs.size s2.gens.size := fun h e => ⟨go, _, _, e, by rw [← hgo], by rw [← hgo], by rw [← hgo]⟩
  have gofree : ∀ v, go.data ≠ .cell v := fun v e => by rw [← hgo] at e; cases e
  have live : go.isFreed = false := by rw [← hgo]; rfl
  generalize h6 : ({ s2 with heap := h'.push go, gens := s2.gens.push (.fresh (.compStart (.GeneratorExp elt [⟨tg, iter, [], 0⟩] scope gpos) 0 (.ref it) .none (genEnv scope (cloFrom X.env.cells scope.names []) h3.objs.size code builtinsNs X.env))), toks := tk + 1 + 1 + 1 } : Shared) = s6
  have heap6 : s6.heap = h'.push go := by rw [← h6]
  have gens6 : s6.gens = s2.gens.push (.fresh (.compStart (.GeneratorExp elt [⟨tg, iter, [], 0⟩] scope gpos) 0 (.ref it) .none (genEnv scope (cloFrom X.env.cells scope.names []) h3.objs.size code builtinsNs X.env))) := by rw [← h6]
  have up3 : ∀ b o, h3.get? b = some o → s6.heap.get? b = some o := fun b o e => by rw [heap6]; exact Heap.get?_push_of_some _ (k3 b o e)
  have keep : ∀ b o, b ≠ T → s2.heap.get? b = some o → s6.heap.get? b = some o := fun b o hb e => up3 b o (hx b o hb e)
  have atT := up3 T _ h3T
  have at_a : s6.heap.get? h'.objs.size = some go := by rw [heap6]; exact Heap.get?_push_size _ live
  have bare6 : AllBare s6.gens := by rw [gens6]; exact AllBare.push I2.bare rfl
  have J6 : Inv X pins σ (upd H1 T (.tbl (ps ++ more))) s6 := by
    have := GxR.inv_tab (more := more) (h' := s6.heap) (g' := s6.gens) (d' := s6.drawn) (t' := s6.toks) I2 hT keep atT bare6
    rw [GxR.sh_eta s2 s6 (by rw [← h6])] at this
    exact this
  have neT : ∀ b, H1 b = none → b ≠ T := fun b z y => by rw [y, hT] at z; cases z
  have fr : X.A.frames = some X.stack := I2.ok.frames
  generalize hAX : (X.A.in1.in1.over (.compLoop (.GeneratorExp elt [⟨tg, iter, [], 0⟩] scope gpos) 0 (.ref it) .none (genEnv scope (cloFrom X.env.cells scope.names []) h3.objs.size code builtinsNs X.env)) []) = AX
  have hhA : AX.handled = none := by rw [← hAX]; exact hd
  have hfr : AX.frames = some (genEnv scope (cloFrom X.env.cells scope.names []) h3.objs.size code builtinsNs X.env :: X.stack) := by
    rw [← hAX]
    have e : ∀ (B : Around) (c : Code) (cv : Env), c.envs = [cv] → B.frames = some X.stack → (B.over c []).frames = some (cv :: X.stack) := fun B c cv h1 h2 => by
      obtain ⟨b1, b2, b3, b4, b5⟩ := B
      simp only at h2
      subst h2
      simp [Around.over, envsOf, pushEnvs, h1]
    exact e _ _ _ rfl fr
  have hdp : AX.depth ≤ X.A.depth + 1 := by rw [← hAX]; exact Nat.le_of_eq rfl
  have hun : AX.units ≤ X.A.units + 8 := by
    rw [← hAX]
    exact Nat.le_trans (Nat.le_of_eq rfl) (show X.A.units + 5 ≤ X.A.units + 8 by omega)
  have hrA : Room j AX := ⟨hhA, by omega, by omega⟩
  have ns6 : s6.heap.Ns h3.objs.size (fun y => if y = ".0" then some (.ref it) else none) := by rw [heap6]; exact ns.push _
  have I6 := gen_inv (A := AX) (go := go) (a := h'.objs.size) I2 S hfr hhA (fun b hb => ⟨hfp b hb, sz b hb⟩) hT rfl (by rw [← h6]) bare6 keep J6.hok ns6 hz at_a (by rw [hsz]; exact Nat.succ_ne_self _) (by rw [hsz]; exact Nat.le_succ_of_le hz) gofree ⟨_, atT⟩
  have st6 : tn 0 s6.heap := TT.keep _ _ _ st fun b hb o e => keep b o (neT b (hfp b hb).1) e
  have nf6 : ∀ b ∈ fp, (upd H1 T (.tbl (ps ++ more))) b = none := fun b hb => by rw [upd_ne (neT b (hfp b hb).1)]; exact (hfp b hb).1
  have w6 := w0 (upd H1 T (.tbl (ps ++ more))) ⟨⟨_, upd_same, h3t⟩, fun b hb => upd_ne hb⟩
  have hpn : ∀ q ∈ [(h'.objs.size, go)], q.1 ∉ fp := fun q hq hb => by
    rw [List.mem_singleton.mp hq] at hb
    have := sz _ hb
    rw [hsz] at this
    exact absurd (Nat.lt_of_lt_of_le this (Nat.le_trans hz (Nat.le_succ _))) (Nat.lt_irrefl _)
  have isX : IsGx X scope j (gxOf X s2 H1 (genEnv scope (cloFrom X.env.cells scope.names []) h3.objs.size code builtinsNs X.env) AX fp [(h'.objs.size, go)]) := ⟨_, _, _, _, _, _, _, rfl, hrA⟩
  have z6 : GZ X s2 H1 (genEnv scope (cloFrom X.env.cells scope.names []) h3.objs.size code builtinsNs X.env) AX fp [(h'.objs.size, go)] (wipe σ (own.map (·.2))) tn W 0 s6 := ⟨_, I6, st6, nf6, w6⟩
  have turns := gen_turns (pos := gpos) (iter := iter) (tg := tg) (elt := elt) (pb := pb) hAX S.co TT (hG _ isX) (hE _ isX) hpn hstop hturn
  have gw := gen_gw (A0 := X.A.in1) (X := X) (s1 := s2) (H1 := H1) (cenv := genEnv scope (cloFrom X.env.cells scope.names []) h3.objs.size code builtinsNs X.env) (A := AX) (fp := fp) (pn := [(h'.objs.size, go)]) (σw := wipe σ (own.map (·.2))) (W := W) (n := n) (pb := pb) TT hd (show X.A.depth < recursionLimit by omega) isg (List.mem_singleton.mpr rfl)
  refine Calls.spliced_nil (cw h'.objs.size s6 _ n pb _ gw (.inl ⟨Nat.zero_le _, z6, .fresh (.compStart (.GeneratorExp elt [⟨tg, iter, [], 0⟩] scope gpos) 0 (.ref it) .none (genEnv scope (cloFrom X.env.cells scope.names []) h3.objs.size code builtinsNs X.env)), rfl, by rw [gens6]; exact Array.getElem?_push_size .., fun s7 wk => And.intro rfl ?_⟩) fun i s7 st7 => ?_)
  · have z7 := z6.wake TT wk
    exact gen_begin TT (let ⟨_, _, q, _⟩ := z7; q) (turns n 0 s7 s7 (Nat.sub_zero _) (Nat.zero_le _) z7)
  · have back : ∀ {H : Hp}, Inv (gxOf X s2 H1 (genEnv scope (cloFrom X.env.cells scope.names []) h3.objs.size code builtinsNs X.env) AX fp [(h'.objs.size, go)]) [] (wipe σ (own.map (·.2))) H s7 → Inv X pins σ H s7 := fun {H} I7 =>
      I2.call' (ch := fp) I7.os I7.base I7.hok I7.bare fun b hb => ⟨(hfp b hb).2.2.2.1, (hfp b hb).2.1, (hfp b hb).2.2.2.2.1, (hfp b hb).2.2.2.2.2⟩
    rcases st7 with ⟨_, ⟨H, I7, _, _, w7⟩, _⟩ | ⟨_, H, I7, w7⟩
    · exact ⟨.bl _, H, back I7, rfl, hQ _ _ w7⟩
    · exact ⟨.bl _, H, back I7, rfl, hQ _ _ w7⟩
end
/-! ### the rule, by data -/
def truS : PyData → Option Bool
  | .bool b => some b
  | .int i => some (i != 0)
  | _ => none
theorem truS_v [Tabs] {K : PySem.W.Frag} {H : Hp} {v : V} {e : PyData} {b : Bool} (h : Dq K H v e) (t : truS e = some b) : truV v = some b := by
  cases h <;> first | exact t | cases t
theorem wipe_wipe [Tabs] (σ : L2.St) (vs : List Nat) : wipe (wipe σ vs) vs = wipe σ vs := by
  have ww : ∀ us : List Nat, (∀ u ∈ us, u ∈ vs) → wipe (wipe σ us) vs = wipe σ vs := fun us => by
    induction us with
    | nil => intro _; rfl
    | cons u us ih =>
      intro hu
      show wipe ((wipe σ us).set u none) vs = _
      rw [wipe_set (hu u List.mem_cons_self)]
      exact ih fun w hw => hu w (List.mem_cons_of_mem _ hw)
  exact ww vs fun _ h => h
section
variable [Tabs] {K : PySem.W.Frag} {B : Bs} {Γ : Gm} {ds : List PyData}
theorem de_genF {T : Addr} {wi : TI} {g : TG} {te : TE} {vs js : List Nat} {f : List Nat → (Nat → Bool) → Bool} (ts : Tabs.ts T) (p : PyData → Bool) (G2 : PyData → Gm) (ev : PyData → PyData) (h : DI K B wi Γ ds) (hv : ∀ j ∈ js, j ∈ vs)
    (hs : ∀ d, d ∈ ds → DG K g js d (wipeG Γ vs) (G2 d) ∧ DE K B te (G2 d) (ev d) ∧ truS (ev d) = some (p d)) : DE K B (tGenF T wi g te vs f) Γ (.bool (f (List.range ds.length) (tabP ds p))) := fun H Hs σ E Q q => h H Hs σ E _ fun J H1 Hs1 g1 hJ => by
  have E1 := E.grow g1
  have tab := E1.tab T ts
  refine ⟨let ⟨ps, a, b⟩ := tab; ⟨ps, g1.sub _ _ a, b⟩, ds.length, tabP ds p, fun _ H => ∃ Hs', Gr H1 Hs1 H Hs', fun H2 tb => gr_tab g1.sub tab tb, fun H ⟨Hs', gA⟩ => (hJ H Hs' gA.sub gA.exs).1, fun j H lt ⟨Hs', gA⟩ => ?_, fun j H ⟨Hs', gA⟩ => q _ H Hs' (g1.trans gA) (.bl _)⟩
  have hd' : ds[j]? = some ds[j] := List.getElem?_eq_getElem lt
  obtain ⟨_, j2⟩ := hJ H Hs' gA.sub gA.exs
  obtain ⟨j3, j4⟩ := j2 j _ hd'
  refine ⟨j3, fun x H2 hy => ?_⟩
  obtain ⟨Hs2, g2, p2⟩ := j4 x H2 hy
  obtain ⟨hg, he, ht⟩ := hs ds[j] (List.getElem_mem lt)
  refine hg B H2 Hs2 _ x (En.wiped ((E1.grow gA).grow g2) vs) p2 _ fun σ3 E3 w3 => ⟨(w3 vs hv).trans (wipe_wipe σ vs), he H2 Hs2 σ3 E3 _ fun y H3 Hs3 g3 p3 => ⟨?_, Hs3, (gA.trans g2).trans g3⟩⟩
  have e : tabP ds p j = p ds[j] := by unfold tabP; rw [hd']; rfl
  rw [e]
  exact truS_v p3 ht
variable {X : Cx}
theorem xp_genF {nm : Str} {f : List Nat → (Nat → Bool) → Bool} {c T : Addr} {elt tg iter : Expr} {own : List (Str × Nat)} {js : List Nat} {q pos gpos : Pos} {scope : Scope} {k j : Nat} {bn : Value} (hr : Room k X.A) (hj : j + 1 ≤ k) (hb : Bi X nm) (hbn : bootBuiltins nm = some bn) (hbb : ∃ id, bn = .builtin id)
    (cw : ∀ (a : Addr) (s5 : Shared) (Q : Value → Shared → Prop) (n : Nat) (pb : Nat → Bool) (St : Nat → Shared → Prop), Gw X.prog X.w X.A.in1 a n pb St → St 0 s5 → (∀ i s', St i s' → Q (.bool (f (List.range n) pb)) s') → wpAny (model X.prog X.w) X.A (call bn [.ref a]) Q X.xe s5)
    (G : Gx X c T) (S : GScp X.N X.env.scope scope own) (hs : ∀ v, genFold iter X.env v = pure v) (hn : nm ≠ "__name__") (hdb : (nm == ("__debug__" : Str)) = false)
    (he : starEach [.GeneratorExp elt [⟨tg, iter, [], 0⟩] scope gpos] X.env = (false, eval (.GeneratorExp elt [⟨tg, iter, [], 0⟩] scope gpos) X.env) :: starEach [] X.env)
    (p : PyData → Bool) (G2 : PyData → Gm) (ev : PyData → PyData) (hi : Xi X B Γ tg iter ds) (hv : ∀ j ∈ js, j ∈ own.map (·.2))
    (hel : ∀ X', IsGx X scope j X' → ∀ d, d ∈ ds → Xg X' tg js d (wipeG Γ (own.map (·.2))) (G2 d) ∧ Xp X' B (G2 d) elt (ev d)) (ht : ∀ d, d ∈ ds → truS (ev d) = some (p d)) :
    Xp X B Γ (.Call (.Name nm q) [.GeneratorExp elt [⟨tg, iter, [], 0⟩] scope gpos] [] pos) (.bool (f (List.range ds.length) (tabP ds p))) := by
  refine xp_of (pe_genF (g := fun v σ H Q => ∀ X', IsGx X scope j X' → uG X' tg v σ H Q) (te := fun σ H Q => ∀ X', IsGx X scope j X' → uE X' elt σ H Q) hr hj hb.gl hb.no hbn hbb cw G.tb G.code S pi_u hs hn hdb (fun X' hX => ⟨fun pins s σ H v u Q I r h => ?_⟩) (fun X' hX => ⟨fun pins s σ H Q I h => ?_⟩) he) (de_genF G.ts p G2 ev hi hv fun d hd => ⟨fun B1 H Hs σ v E pv Q qq X' hX => ?_, fun H Hs σ E Q qq X' hX => ?_, ht d hd⟩)
  · obtain ⟨t, h1, h2⟩ := h X' hX
    exact h1.run pins s σ H v u Q I r h2
  · exact pe_u.run pins s σ H Q I (h X' hX)
  · have := (hel X' hX d hd).1
    obtain ⟨_, _, _, _, _, _, _, rfl, _⟩ := hX
    exact this B1 H Hs σ v E pv Q qq
  · have := (hel X' hX d hd).2
    obtain ⟨_, _, _, _, _, _, _, rfl, _⟩ := hX
    exact this H Hs σ E Q qq
theorem xe_allF {c T : Addr} {elt tg iter : Expr} {own : List (Str × Nat)} {js : List Nat} {q pos gpos : Pos} {scope : Scope} {k j : Nat} (hr : Room k X.A) (hj : j + 1 ≤ k) (hb : Bi X "all") (G : Gx X c T) (S : GScp X.N X.env.scope scope own) (hs : ∀ v, genFold iter X.env v = pure v)
    (he : St1 X (.GeneratorExp elt [⟨tg, iter, [], 0⟩] scope gpos) []) (p : PyData → Bool) (G2 : PyData → Gm) (ev : PyData → PyData) (hi : Xi X B Γ tg iter ds) (hv : ∀ j ∈ js, j ∈ own.map (·.2))
    (hel : ∀ X', IsGx X scope j X' → ∀ d, d ∈ ds → Xg X' tg js d (wipeG Γ (own.map (·.2))) (G2 d) ∧ Xp X' B (G2 d) elt (ev d)) (ht : ∀ d, d ∈ ds → truS (ev d) = some (p d)) :
    Xp X B Γ (.Call (.Name "all" q) [.GeneratorExp elt [⟨tg, iter, [], 0⟩] scope gpos] [] pos) (.bool (ds.all p)) := by
  rw [← all_tab]
  exact xp_genF (f := fun l q => l.all q) hr hj hb boot_all ⟨_, rfl⟩ (fun a s5 Q n pb Sf W h0 hQ => call_allW W h0 hQ) G S hs (by decide) (by decide +kernel) he p G2 ev hi hv hel ht
theorem xe_anyF {c T : Addr} {elt tg iter : Expr} {own : List (Str × Nat)} {js : List Nat} {q pos gpos : Pos} {scope : Scope} {k j : Nat} (hr : Room k X.A) (hj : j + 1 ≤ k) (hb : Bi X "any") (G : Gx X c T) (S : GScp X.N X.env.scope scope own) (hs : ∀ v, genFold iter X.env v = pure v)
    (he : St1 X (.GeneratorExp elt [⟨tg, iter, [], 0⟩] scope gpos) []) (p : PyData → Bool) (G2 : PyData → Gm) (ev : PyData → PyData) (hi : Xi X B Γ tg iter ds) (hv : ∀ j ∈ js, j ∈ own.map (·.2))
    (hel : ∀ X', IsGx X scope j X' → ∀ d, d ∈ ds → Xg X' tg js d (wipeG Γ (own.map (·.2))) (G2 d) ∧ Xp X' B (G2 d) elt (ev d)) (ht : ∀ d, d ∈ ds → truS (ev d) = some (p d)) :
    Xp X B Γ (.Call (.Name "any" q) [.GeneratorExp elt [⟨tg, iter, [], 0⟩] scope gpos] [] pos) (.bool (ds.any p)) := by
  rw [← any_tab]
  exact xp_genF (f := fun l q => l.any q) hr hj hb boot_any ⟨_, rfl⟩ (fun a s5 Q n pb Sf W h0 hQ => call_anyW W h0 hQ) G S hs (by decide) (by decide +kernel) he p G2 ev hi hv hel ht
end
/-- a generator expression's scope, by computing -/
def gscB (N : List Str) (sc scope : Scope) (own : List (Str × Nat)) : Bool := (match scope.kind with | .function => true | _ => false) && !scope.isCoroutine && (scope.names.all fun y => match y.2 with | .cell => false | .free => sc.names.lookup y.1 == some .cell || sc.names.lookup y.1 == some .free | _ => true) &&
  scope.names.lookup (".0" : Str) == some NameKind.local && ((List.range N.length).all fun i => match N[i]? with | some x => !(scope.names.lookup x == some .local) || (own.map (·.2)).contains i | none => true)
theorem gsc_by {N : List Str} {sc scope : Scope} {own : List (Str × Nat)} (h : gscB N sc scope own = true) : GScp N sc scope own := by
  unfold gscB at h
  simp only [Bool.and_eq_true, List.all_eq_true, beq_iff_eq, Bool.not_eq_true'] at h
  obtain ⟨⟨⟨⟨h1, h2⟩, h3⟩, h4⟩, h5⟩ := h
  refine ⟨?_, h2, fun y hy e => ?_, h4, fun y hy e => ?_, fun i x hx hl => ?_⟩
  · split at h1
    · assumption
    · cases h1
  · have := h3 y hy
    rw [e] at this
    cases this
  · have := h3 y hy
    rw [e] at this
    simpa using this
  · have := h5 i (List.mem_range.mpr (List.getElem?_eq_some_iff.mp hx).1)
    rw [hx] at this
    simpa [hl] using this
end Dl
set_option Elab.async false
set_option linter.all false
set_option maxRecDepth 100000
set_option maxHeartbeats 2000000
/-! repr of data; the law's own run, at the caller alone -/
namespace Dl
open PySem PySem.Spec PyProof.Rows L2
/-- nothing is being shown around the def -/
structure Gd (X : Cx) : Prop where
  h : X.A.guards = some []
/-- what repr takes: a list or a tuple of ints, texts, truths and such -/
def reprB (d : PyData) : Bool := (match d with | .list _ => true | .tuple _ => true | _ => false) && d.canLay0 && d.showable && !d.hasDict && decide (d.depth ≤ 60)
theorem call_reprD {X : Cx} (g : Gd X) (hu : X.A.units + 64 < cLine) : CallR X (.builtin "repr") (fun xs H Q => ∃ a d, xs = [.ref a] ∧ Dp X.K H (.ref a) d ∧ reprB d = true ∧ d.shown.length ≤ sizeLine ∧ Q (.str d.shown) H) := by
  intro pins s σ H xs us Q I r h
  obtain ⟨a, d, rfl, dp, rb, sz, q⟩ := h
  unfold reprB at rb
  simp only [Bool.and_eq_true, Bool.not_eq_true', decide_eq_true_eq] at rb
  obtain ⟨⟨⟨⟨_, r2⟩, r3⟩, r4⟩, r5⟩ := rb
  cases r with
  | cons r1 r0 =>
    cases r0
    obtain ⟨as, rd⟩ := Dp.reads I d _ _ dp r1
    obtain rfl : _ = Value.ref a := r1
    exact repr_of_reads' rd r3 (fun z => by rw [r4] at z; cases z) g.h (by omega) (fun _ _ e => e) (fun h' u tk hk => ⟨.str _, H, I.kept hk, ⟨u, rfl⟩, q⟩) sz
theorem boot_repr : bootBuiltins "repr" = some (.builtin "repr") := by decide +kernel
section
variable [Tabs] {X : Cx} {B : Bs} {Γ : Gm} {e : Expr} {d : PyData} {p' pos : Pos}
theorem xe_repr (hb : Bi X "repr") (g : Gd X) (rm : Rm X) (he : Tt (St1 X e [])) (hp : Tt (Pl1 X pos [])) (h : Xp X B Γ e d) (k : Side (reprB d = true)) (sz : Side (d.shown.length ≤ sizeLine)) : Xp X B Γ (.Call (.Name "repr" p') [e] [] pos) (.str d.shown) :=
  xp_cb (call_reprD g rm.h) hb boot_repr (by decide) (by decide +kernel) he.h hp.h (xa_cons he.h h xa_nil) fun H Hs xs s a Q q => by
    cases a with
    | cons a1 a2 =>
      cases a2
      have k2 := k.h
      unfold reprB at k2
      simp only [Bool.and_eq_true, Bool.not_eq_true', decide_eq_true_eq] at k2
      obtain ⟨⟨⟨⟨r1, r2⟩, r3⟩, r4⟩, r5⟩ := k2
      have dp := (dp_sub s a1).plain r2
      cases a1 with
      | lst h1 h2 => exact ⟨_, _, rfl, dp, k.h, sz.h, q _ H Hs (Gr.refl s) (.str _)⟩
      | tup h1 h2 => exact ⟨_, _, rfl, dp, k.h, sz.h, q _ H Hs (Gr.refl s) (.str _)⟩
      | _ => cases r1
end
/-! ### a def's run, at one place -/
/-- as FnOk, but where it is called from A alone, and by nobody in a def of ours -/
def RunAt (P : Program) (w : World) (K : PySem.W.Frag) (mg : Str → Option Value) (base : Heap) (CX : CXT) (A : Around) (f : Addr) (fd : FuncData) (ps : List Str) (sp : Sp) : Prop :=
  ∀ (s : Shared) (H : Hp) (args : Args) (us : List Value) (vs : List V) (Q : VK) (E : XK), Env0 P w K mg base A [] s H → BindsTo s fd args (ps.zip us) → Vals vs us → sp vs H Q E → codeAny (model P w) A (.call (.ref f) args) (CR CX [] P w H s Q E) s
section
variable [Tabs] {P : Program} {w : World} {K : PySem.W.Frag} {mg : Str → Option Value} {base : Heap}
theorem fn_okL {x qual : Str} {st : Stmt} {f : Addr} {fd : FuncData} {N ps : List Str} {k : Nat} {R : List PyData → PyData → Prop} (F : Fun K x qual st f fd) (S : FnScope N ps (defScope st)) (hrC : Room (k + 1) callerA) (len : ∀ ds d, R ds d → ds.length = ps.length)
    (body : ∀ (cdv : Value) (s : Shared) (H : Hp) (E : XK) (B : Bs) (ds : List PyData) (d : PyData), Room k (Xc P w K mg base N qual st f cdv callerA [] s H E).A → Gd (Xc P w K mg base N qual st f cdv callerA [] s H E) → R ds d → Xb (Xc P w K mg base N qual st f cdv callerA [] s H E) B (startG N ds) (defBody st) (RetP d)) :
    RunAt P w K mg base CX0 callerA f fd ps (spR K R) := by
  obtain ⟨oc, od, kV, doc, pm, an, cdv, ct, osl, rfl, l, c⟩ := F.ex
  intro s H args us vs Q E e0 hb r h
  obtain ⟨ds, d, Hs, hsub, htb, a, hR, q⟩ := h
  refine LamX.run_ofS (CX := CX0) l c S hrC e0 hb r (by rw [a.length]; exact len ds d hR) fun hr => ?_
  refine ⟨_, (pb_u (X := Xc P w K mg base N qual st f cdv callerA [] s H E)).nox, body cdv s H E ⟨H, Hs, Hs⟩ ds d hr ⟨rfl⟩ hR _ H Hs (L2.start N vs) (en_start hsub htb a) fun o ho => ?_⟩
  rcases ho with rfl | ⟨rfl, Γ, rfl⟩
  · exact fun v H' Hs' g p => q v H' Hs' g p
  · exact fun H' Hs' σ' E' => q .non H' Hs' E'.gr .non
end
/-! ### the law's call -/
section
variable {P : Program} {w : World} {K : PySem.W.Frag} {mg mb : Str → Option Value} {fa a : Addr} {cs : List (Addr × Addr)} {s1 : Shared} {vs : List Value} {ns : List Int}
abbrev emptyT : Obj := { cls := .none, data := .fields #[] }
abbrev scriptO (vs : List Value) : Obj := { cls := .type "list", data := .seq vs.toArray }
/-- what is tracked at the law's entry: the tables, the script (where the written part does not hold it) -/
def entryH (K : PySem.W.Frag) (a : Addr) (cs : List (Addr × Addr)) (vs : List Value) (ns : List Int) : Hp := fun b =>
  if b ∈ cs.map (·.2) then some (.tbl #[]) else if b = a then (match K.lookup a with | some _ => none | none => some (.frz (scriptO vs) (.lst (ns.map V.int)))) else none
theorem entry_tab {p : Addr × Addr} (hp : p ∈ cs) : entryH K a cs vs ns p.2 = some (.tbl #[]) := if_pos (List.mem_map.mpr ⟨p, hp, rfl⟩)
theorem entry_cases (b : Addr) (u : HO) (h : entryH K a cs vs ns b = some u) : (b ∈ cs.map (·.2) ∧ u = .tbl #[]) ∨ (b = a ∧ K.lookup a = none ∧ u = .frz (scriptO vs) (.lst (ns.map V.int))) := by
  unfold entryH at h
  split at h
  · rename_i hm
    cases h
    exact .inl ⟨hm, rfl⟩
  · split at h
    · rename_i hb
      cases k : K.lookup a with
      | some o => rw [k] at h; cases h
      | none => rw [k] at h; cases h; exact .inr ⟨hb, rfl, rfl⟩
    · cases h
theorem law_callR {CX : CXT} {fd : FuncData} {x : Str} {sp : Sp} (KX : K.In s1.heap) (gl : s1.heap.Ns mainGlobals mg) (bl : s1.heap.Ns builtinsNs mb) (bb : ∀ x : Str, x ≠ "__name__" → mb x = bootBuiltins x) (lim : s1.heap.NoLimit) (g0 : s1.gens = #[])
    (hT : ∀ p ∈ cs, s1.heap.get? p.2 = some emptyT) (nT : ∀ p ∈ cs, K.lookup p.2 = none) (hC : ∀ p ∈ cs, PySem.W.CodeHd s1.heap p.1 p.2)
    (bm : ∃ (m : Addr) (ob : Obj), mg "__builtins__" = some (.ref m) ∧ m ≠ builtinsNs ∧ s1.heap.get? m = some ob ∧ ob.cls = .type "module" ∧ ob.dict = some builtinsNs ∧ ob.data = .plain)
    (ha : s1.heap.get? a = some (scriptO vs)) (hi : IntsAre vs ns) (hl : ns.length ≤ sizeLine)
    (F : ∀ base : Heap, K.In base → base.Ns mainGlobals mg → (∀ p ∈ cs, LamX.TabB base mg p.1 p.2) → RunAt P w K mg base CX callerA fa fd [x] sp) (hbind : ∀ (s : Shared) (u : Value), BindsTo s fd ⟨[u], []⟩ [(x, u)])
    (hsp : ∀ H : Hp, (∀ p ∈ cs, H p.2 = some (.tbl #[])) → SqL K H a (ns.map V.int) → sp [.ref a] H (fun v _ => v = .bl true) fun _ _ _ => False) (hCX : ∀ H e s', CX [] H s1 (fun _ _ _ => False) e s' → False) :
    codeAny (model P w) callerA (.call (.ref fa) ⟨[.ref a], []⟩) (fun r s' => r = .ok (.ret (.bool true)) ∧ OldK s1.heap s'.heap ∧ s'.os = s1.os ∧ AllBare s'.gens) s1 := by
  have vals := vals_ints hi
  have lenV := hi.length
  have tabAt : ∀ b ∈ cs.map (·.2), s1.heap.get? b = some emptyT := fun b hb => by
    obtain ⟨p, hp, rfl⟩ := List.mem_map.mp hb
    exact hT p hp
  have aT : a ∉ cs.map (·.2) := fun z => by
    have q := tabAt a z
    rw [ha] at q
    exact nomatch congrArg Obj.cls (Option.some.inj q)
  generalize hH : entryH K a cs vs ns = H
  have cas : ∀ b u, H b = some u → (b ∈ cs.map (·.2) ∧ u = .tbl #[]) ∨ (b = a ∧ K.lookup a = none ∧ u = .frz (scriptO vs) (.lst (ns.map V.int))) := fun b u e => entry_cases b u (by rw [hH]; exact e)
  have tab : ∀ p ∈ cs, H p.2 = some (.tbl #[]) := fun p hp => by rw [← hH]; exact entry_tab hp
  have seq : SqL K H a (ns.map V.int) := by
    cases k : K.lookup a with
    | some o =>
      have e := KX a o k
      rw [ha] at e
      cases e
      exact .inr ⟨_, vs.toArray, _, k, rfl, rfl, rfl, by rw [List.size_toArray, lenV]; exact hl, by simpa using vals⟩
    | none =>
      refine .inl (.inr ⟨scriptO vs, ?_⟩)
      rw [← hH]
      unfold entryH
      rw [if_neg aT, if_pos rfl, k]
  have hok : HOk P w H s1.heap := fun b u e => by
    rcases cas b u e with ⟨hm, rfl⟩ | ⟨rfl, _, rfl⟩
    · exact tabAt b hm
    · exact ⟨ha, by rw [List.length_map]; exact hl, vs, _, vals, ha⟩
  -- what is neither the script nor a table is not tracked
  have off : ∀ {b : Addr} {o : Obj}, s1.heap.get? b = some o → o ≠ emptyT → (∀ vs n, o.data ≠ .seq vs n) → H b = none := fun {b o} e n1 n2 => by
    cases q : H b with
    | none => rfl
    | some u =>
      rcases cas b u q with ⟨hm, _⟩ | ⟨rfl, _, _⟩
      · rw [tabAt b hm] at e
        exact absurd (Option.some.inj e).symm n1
      · rw [ha] at e
        cases e
        exact absurd rfl (n2 _ _)
  have offD : ∀ {b : Addr} {o : Obj} {es : Array DictEntry} {ep : Nat}, s1.heap.get? b = some o → o.data = .dict es ep → H b = none := fun {b o es ep} e d => off e (fun z => by rw [z] at d; cases d) fun _ _ z => by rw [d] at z; cases z
  have nsB : ∀ {b : Addr} {m : Str → Option Value}, s1.heap.Ns b m → (hidT s1.heap H).Ns b m := fun ⟨o, es, ep, e, d, r⟩ => ⟨o, es, ep, hidT_get e (offD e d), d, r⟩
  have inB : K.In (hidT s1.heap H) := fun b o e => hidT_get (KX b o e) (by
    cases q : H b with
    | none => rfl
    | some u =>
      rcases cas b u q with ⟨hm, _⟩ | ⟨rfl, k, _⟩
      · obtain ⟨p, hp, rfl⟩ := List.mem_map.mp hm
        rw [nT p hp] at e
        cases e
      · rw [k] at e
        cases e)
  have tbB : ∀ p ∈ cs, LamX.TabB (hidT s1.heap H) mg p.1 p.2 := fun p hp => by
    have tp := hT p hp
    refine ⟨?_, ?_, fun z => ?_⟩
    · obtain ⟨o, us, fl, tf, fg, tg, inF, tx, tt, e1, r1, r2, rest⟩ := hC p hp
      exact ⟨o, us, fl, tf, fg, tg, inF, tx, tt, hidT_get e1 (off e1 (fun z => by rw [z] at r1; cases r1) fun _ _ z => by rw [r2] at z; cases z), r1, r2, rest⟩
    · obtain ⟨m, ob, c1, c2, c3, c4, c5, c6⟩ := bm
      have m1 : m ≠ mainGlobals := fun z => by
        obtain ⟨o, es, ep, e, d, _⟩ := gl
        rw [z, e] at c3
        cases c3
        rw [d] at c6
        cases c6
      have m2 : m ≠ p.2 := fun z => by
        rw [z, tp] at c3
        cases c3
        cases c6
      exact ⟨m, ob, c1, c2, m1, m2, hidT_get c3 (off c3 (fun z => by rw [z] at c6; cases c6) fun _ _ z => by rw [c6] at z; cases z), c4, c5, c6⟩
    · obtain ⟨o, es, ep, e, d, _⟩ := gl
      rw [z, tp] at e
      cases e
      cases d
  have env0 : Env0 P w K mg (hidT s1.heap H) callerA [] s1 H := by
    refine ⟨rfl, ⟨inB, nsB gl, ⟨mb, nsB bl, bb⟩, ?_⟩, fun b o e => of_hidT e, Nat.le_of_eq (hidT_size _ _), trivial, fun b hb => absurd (show b ∈ ([] : List Addr) from hb) List.not_mem_nil, hok, .of_eq g0⟩
    obtain ⟨mc, h1, h2⟩ := lim
    exact ⟨mc, nsB h1, h2⟩
  refine codeAny_mono (F _ inB (nsB gl) tbB s1 H ⟨[.ref a], []⟩ [.ref a] [.ref a] _ _ env0 (hbind s1 (.ref a)) (.cons rfl .nil) (hsp H tab seq)) fun r s' h => ?_
  match r, h with
  | .error e, h => exact (hCX H e s' h).elim
  | .ok (.ret u), ⟨v, H', os, bare, un, hok', rv, q⟩ =>
    obtain rfl : v = .bl true := q
    obtain rfl : u = Value.bool true := rv
    have none_in : ∀ b : Addr, b ∉ frs ([] : List Env) := fun b z => absurd (show b ∈ ([] : List Addr) from z) List.not_mem_nil
    have same : ∀ b o, b ∉ cs.map (·.2) → s1.heap.get? b = some o → s'.heap.get? b = some o := fun b o nb e => by
      cases q : H b with
      | none => exact un.keep b o e q (none_in b) List.not_mem_nil
      | some u =>
        rcases cas b u q with ⟨hm, _⟩ | ⟨rfl, _, rfl⟩
        · exact absurd hm nb
        · have e2 := (hok' b _ (un.frzs b _ _ q)).1
          rw [ha] at e
          cases e
          exact e2
    have grew : ∀ b, b ∈ cs.map (·.2) → ∃ more : Array Value, s'.heap.get? b = some { cls := .none, data := .fields more } := fun b hb => by
      obtain ⟨p, hp, rfl⟩ := List.mem_map.mp hb
      obtain ⟨more, z⟩ := un.tbls p.2 #[] (tab p hp)
      exact ⟨_, hok' p.2 _ z⟩
    refine ⟨rfl, ⟨fun b o e => ?_, fun b o e => ?_⟩, os, bare⟩
    · by_cases hb : b ∈ cs.map (·.2)
      · obtain ⟨more, hm⟩ := grew b hb
        obtain ⟨p, hp, rfl⟩ := List.mem_map.mp hb
        rw [hT p hp] at e
        cases e
        exact .inr (.inl ⟨((hC p hp).tab (hT p hp)).isCodeTable, rfl, #[], more, rfl, by rw [Array.empty_append]; exact hm⟩)
      · exact .inl (same b o hb e)
    · by_cases hb : b ∈ cs.map (·.2)
      · obtain ⟨more, hm⟩ := grew b hb
        exact ⟨_, hm⟩
      · exact ⟨o, same b o hb e⟩
  | .ok .next, h => exact False.elim h
  | .ok .brk, h => exact False.elim h
  | .ok .cont, h => exact False.elim h
end
/-- what is known of the law's promise at the head's heap h -/
def LawAtR (l : PySem.W.OpenLaw) (w : World) (K : PySem.W.Frag) (CX : CXT) (n : Nat) (x : Str) (mg : Str → Option Value) (fa : Addr) (h : Heap) : Prop :=
  ∃ (fd : FuncData) (cs : List (Addr × Addr)) (sp : Sp), (∀ p ∈ cs, h.get? p.2 = some emptyT) ∧ (∀ p ∈ cs, K.lookup p.2 = none) ∧ (∀ p ∈ cs, PySem.W.CodeHd h p.1 p.2) ∧ (∀ (s : Shared) (u : Value), BindsTo s fd ⟨[u], []⟩ [(x, u)]) ∧
    (∀ (H : Hp) (a : Addr) (ns : List Int), ns.length ≤ n → (∀ p ∈ cs, H p.2 = some (.tbl #[])) → SqL K H a (ns.map V.int) → sp [.ref a] H (fun v _ => v = .bl true) fun _ _ _ => False) ∧
    ∀ base : Heap, K.In base → base.Ns mainGlobals mg → (∀ p ∈ cs, LamX.TabB base mg p.1 p.2) → RunAt l.prog w K mg base CX callerA fa fd [x] sp
theorem walk_ofL {l : PySem.W.OpenLaw} {n : Nat} {q : Program} {loose : List Str} {XP : (Str → Option Value) → Heap → Prop} {YP : World → Heap → Prop} {d : DefRec} {K : Params → PySem.W.Frag} {CX : World → CXT} {x : Str} (hn : l.most = some n) (hn2 : n ≤ sizeLine) (hdf : d.params.defaults = [])
    (hY : ∀ (w : World) (h : Heap), YP w h → (K w.params).In h)
    (F : ∀ (w : World) (mg : Str → Option Value) (fa : Addr) (h : Heap), YP w h → (K w.params).In h → h.Ns mainGlobals mg → mg d.name = some (.ref fa) → TabsAtHead q (K w.params) h → LawAtR l w (K w.params) (CX w) n x mg fa h)
    (hCX : ∀ (w : World) (H : Hp) (s : Shared) (e : Value) (s' : Shared), CX w [] H s (fun _ _ _ => False) e s' → False) : PySem.W.WalkO q loose XP YP l.row.toRowW d [] (fun f vs => PySem.call f vs) := by
  refine Att.attach_callB hn hdf fun w s₀ s₁ mg mb fa o pm cd doc a vs ns G Y ho hd hcd hmg hobj hints hlen hbits hg => ?_
  have inK := hY w _ Y
  obtain ⟨fd, cs, sp, t1, t2, t3, t4, t5, t6⟩ := F w mg fa _ Y inK G.T.g hmg fun x d c T hx ht => PySem.W.tab_of G.T inK hx ht
  exact law_callR inK G.T.g G.T.b G.T.builtins G.T.nolimit hg t1 t2 t3 G.T.bmain hobj hints (Nat.le_trans hlen hn2) t6 t4 (fun H b1 b2 => t5 H a ns hlen b1 b2) fun H e s' => hCX w H s₁ e s'
end Dl
set_option Elab.async false
set_option linter.all false
set_option maxRecDepth 100000
set_option maxHeartbeats 2000000
/-! Expressions that change an own list by a call (a list of draws). -/
namespace Dl
open PySem L2 PyProof.Rows
variable [Tabs]
/-! ### effects -/
/-- what stays where own objects may change: all that is not told by an own slot -/
structure Fw (Γ Γ' : Gm) (σ : L2.St) (H Hs H' Hs' : Hp) : Prop where
  ext : Ext Hs Hs'
  pat : ∀ (i : Nat) (s : Sl), Γ'[i]? = some s → s.isOwn = true → ∃ t, Γ[i]? = some t ∧ t.isOwn = true
  keep : ∀ a o, H a = some o → Hs a = none → (∀ ps, o ≠ .tbl ps) → (∀ (i : Nat) (s : Sl), Γ[i]? = some s → s.isOwn = true → σ[i]? ≠ some (some (.ref a))) → H' a = some o ∧ Hs' a = none
theorem Fw.gr {Γ : Gm} {σ : L2.St} {H Hs H' Hs' : Hp} (g : Gr H Hs H' Hs') : Fw Γ Γ σ H Hs H' Hs' := ⟨g.exs, fun i s h w => ⟨s, h, w⟩, fun a o h hs nt _ => ⟨ext_own g.ext h nt, by
  cases q : Hs' a with
  | none => rfl
  | some u =>
    rcases g.new a (by rw [q]; simp) with z | z
    · exact absurd hs z
    · rw [h] at z; cases z⟩⟩
theorem Fw.trans {Γ Γ1 Γ2 : Gm} {σ : L2.St} {H Hs H1 Hs1 H2 Hs2 : Hp} (a : Fw Γ Γ1 σ H Hs H1 Hs1) (b : Fw Γ1 Γ2 σ H1 Hs1 H2 Hs2) : Fw Γ Γ2 σ H Hs H2 Hs2 := ⟨a.ext.trans b.ext, fun i s h w => by
  obtain ⟨t, h1, w1⟩ := b.pat i s h w
  exact a.pat i t h1 w1, fun x o h hs nt f => by
  obtain ⟨h1, s1⟩ := a.keep x o h hs nt f
  refine b.keep x o h1 s1 nt fun i s hi w => ?_
  obtain ⟨t, k1, k2⟩ := a.pat i s hi w
  exact f i t k1 k2⟩
theorem Fw.call {Γ : Gm} {σ : L2.St} {H Hs H' Hs' : Hp} {i : Nat} {l : Addr} {ds es : List PyData} (hi : Γ[i]? = some (.ol l ds)) (hl : σ[i]? = some (some (.ref l))) (g : Gr (del H l) Hs H' Hs') : Fw Γ (Γ.set i (.ol l es)) σ H Hs H' Hs' := ⟨g.exs, fun j s h w => by
  by_cases e : i = j
  · subst e
    exact ⟨_, hi, rfl⟩
  · rw [List.getElem?_set_ne e] at h
    exact ⟨s, h, w⟩, fun a o h hs nt f => by
  have ne : a ≠ l := fun z => by
    subst z
    exact f i _ hi rfl hl
  refine ⟨ext_own g.ext (by rw [del_ne ne]; exact h) nt, ?_⟩
  cases q : Hs' a with
  | none => rfl
  | some u =>
    rcases g.new a (by rw [q]; simp) with z | z
    · exact absurd hs z
    · rw [del_ne ne, h] at z; cases z⟩
def DM (K : PySem.W.Frag) (B : Bs) (t : TE) (Γ : Gm) (d : PyData) (Γ' : Gm) : Prop := ∀ H Hs σ, Enb K B H Hs σ Γ → ∀ Q : VK, (∀ v H' Hs', Enb K B H' Hs' σ Γ' → Fw Γ Γ' σ H Hs H' Hs' → Dq K Hs' v d → Q v H') → t σ H Q
def DMT (K : PySem.W.Frag) (B : Bs) (t : TT) (Γ : Gm) (b : Bool) (Γ' : Gm) : Prop := ∀ H Hs σ, Enb K B H Hs σ Γ → ∀ Q : Bool → Hp → Prop, (∀ H' Hs', Enb K B H' Hs' σ Γ' → Fw Γ Γ' σ H Hs H' Hs' → Q b H') → t σ H Q
/-- an argument: data, or the own list at l -/
inductive Ag where
  | d (x : PyData) | p (l : Addr)
def AgOk (K : PySem.W.Frag) (H : Hp) (v : V) : Ag → Prop
  | .d x => Dq K H v x
  | .p l => v = .ref l
inductive AgAll (K : PySem.W.Frag) (H : Hp) : List V → List Ag → Prop
  | nil : AgAll K H [] []
  | cons {v : V} {g : Ag} {vs : List V} {gs : List Ag} : AgOk K H v g → AgAll K H vs gs → AgAll K H (v :: vs) (g :: gs)
def DMA (K : PySem.W.Frag) (B : Bs) (t : TA) (Γ : Gm) (gs : List Ag) (Γ' : Gm) : Prop := ∀ H Hs σ, Enb K B H Hs σ Γ → ∀ Q : List V → Hp → Prop, (∀ vs H' Hs', Enb K B H' Hs' σ Γ' → Fw Γ Γ' σ H Hs H' Hs' → AgAll K Hs' vs gs → Q vs H') → t σ H Q
section
variable {K : PySem.W.Frag} {B : Bs} {H Hs H' Hs' : Hp} {σ : L2.St} {Γ Γ1 Γ2 Γ3 : Gm} {t ta tb te : TE} {d a b c : PyData} {ds es : List PyData} {gs : List Ag} {P : Out → Prop} {p : Bool}
theorem AgOk.mono (e : Ext H H') {v : V} : ∀ {g : Ag}, AgOk K H v g → AgOk K H' v g
  | .d _, h => Dq.mono e h
  | .p _, h => h
theorem AgAll.mono (e : Ext H H') : ∀ {vs : List V} {gs : List Ag}, AgAll K H vs gs → AgAll K H' vs gs
  | _, _, .nil => .nil
  | _, _, .cons h r => .cons (h.mono e) (AgAll.mono e r)
theorem AgAll.len : ∀ {vs : List V} {gs : List Ag}, AgAll K H vs gs → vs.length = gs.length
  | _, _, .nil => rfl
  | _, _, .cons _ r => by rw [List.length_cons, List.length_cons, AgAll.len r]
theorem AgAll.data : ∀ {vs : List V} {ds : List PyData}, AgAll K H vs (ds.map .d) → DqAll K H vs ds
  | _, [], .nil => .nil
  | _, _ :: _, .cons h r => .cons h (AgAll.data r)
theorem AgAll.get : ∀ {vs : List V} {gs : List Ag} {i : Nat} {g : Ag}, AgAll K H vs gs → gs[i]? = some g → ∃ v, vs[i]? = some v ∧ AgOk K H v g
  | _, _, _, _, .nil, e => by simp at e
  | _, _, 0, _, .cons h _, e => by
    cases e
    exact ⟨_, rfl, h⟩
  | _, _, i + 1, _, .cons _ r, e => AgAll.get (i := i) r e
theorem dm_of (h : DE K B t Γ d) : DM K B t Γ d Γ := fun H Hs σ E Q q => h H Hs σ E Q fun v H' Hs' g p => q v H' Hs' (E.grow g) (Fw.gr g) p
theorem dm_op {r : R2} (ha : DM K B ta Γ a Γ1) (hb : DM K B tb Γ1 b Γ2) (hr : OpD K r a b d) : DM K B (tOp r ta tb) Γ d Γ2 := fun H Hs σ E Q q =>
  ha H Hs σ E _ fun v H1 Hs1 E1 x1 p1 => hb H1 Hs1 σ E1 _ fun u H2 Hs2 E2 x2 p2 => hr H2 Hs2 v u E2.sub (p1.mono x2.ext) p2 Q fun w H3 Hs3 g3 p3 => q w H3 Hs3 (E2.grow g3) ((x1.trans x2).trans (Fw.gr g3)) p3
theorem dma_nil : DMA K B tNil Γ [] Γ := fun H Hs σ E Q q => q [] H Hs E (Fw.gr (Gr.refl E.sub)) .nil
theorem dma_cons {ta : TA} (h : DM K B te Γ d Γ1) (hr : DMA K B ta Γ1 gs Γ2) : DMA K B (tCons te ta) Γ (.d d :: gs) Γ2 := fun H Hs σ E Q q =>
  h H Hs σ E _ fun v H1 Hs1 E1 x1 p1 => hr H1 Hs1 σ E1 _ fun vs H2 Hs2 E2 x2 p2 => q (v :: vs) H2 Hs2 E2 (x1.trans x2) (.cons (p1.mono x2.ext) p2)
theorem dma_ptr {ta : TA} {i : Nat} {l : Addr} (hi : Γ[i]? = some (.ol l ds)) (hr : DMA K B ta Γ gs Γ2) : DMA K B (tCons (tVar i) ta) Γ (.p l :: gs) Γ2 := fun H Hs σ E Q q => by
  obtain ⟨xs, e, _⟩ := E.ol hi
  exact ⟨.ref l, e, hr H Hs σ E _ fun vs H2 Hs2 E2 x2 p2 => q (.ref l :: vs) H2 Hs2 E2 x2 (.cons rfl p2)⟩
/-- a def that may change the own list handed in at l -/
def spM (K : PySem.W.Frag) (R : Addr → List Ag → List PyData → List PyData → PyData → Prop) : Sp := fun vs H Q _ => ∃ gs l xs ds es d Hs, AgAll K Hs vs gs ∧ H l = some (.lst xs) ∧ Hs l = none ∧ (∀ a o, Hs a = some o → H a = some o) ∧ TabsIn Hs ∧ DqAll K Hs xs ds ∧ R l gs ds es d ∧
  ∀ v H' Hs' ys, Gr (del H l) Hs H' Hs' → H' l = some (.lst ys) → Hs' l = none → DqAll K Hs' ys es → Dq K Hs' v d → Q v H'
theorem agAll_append_nil {vs : List V} (h : AgAll K H vs gs) : AgAll K H (vs ++ []) gs := by rw [List.append_nil]; exact h
theorem dm_call {R : Addr → List Ag → List PyData → List PyData → PyData → Prop} {E0 : XK} {ta : TA} {i : Nat} {l : Addr} (ha : DMA K B ta Γ gs Γ1) (hi : Γ1[i]? = some (.ol l ds)) (hr : R l gs ds es d) : DM K B (tCall (spM K R) [] E0 ta) Γ d (Γ1.set i (.ol l es)) := fun H Hs σ E Q q =>
  ha H Hs σ E _ fun vs H1 Hs1 E1 x1 p1 => by
    obtain ⟨xs, e1, h1, h2, h3, h4⟩ := E1.ol hi
    exact ⟨gs, l, xs, ds, es, d, Hs1, agAll_append_nil p1, h1, h3, E1.sub, E1.tab, h2, hr, fun v H2 Hs2 ys g k1 k2 k3 k4 => q v H2 Hs2 (E1.call hi g k1 k2 k3) (x1.trans (Fw.call hi e1 g)) k4⟩
/-- a call of a plain def with arguments that have effects -/
theorem dm_callP {R : List PyData → PyData → Prop} {E0 : XK} {ta : TA} (ha : DMA K B ta Γ (ds.map .d) Γ1) (hr : R ds d) : DM K B (tCall (spR K R) [] E0 ta) Γ d Γ1 := fun H Hs σ E Q q =>
  ha H Hs σ E _ fun vs H1 Hs1 E1 x1 p1 => ⟨ds, d, Hs1, E1.sub, E1.tab, by rw [List.append_nil]; exact p1.data, hr, fun v H2 Hs2 g2 p2 => q v H2 Hs2 (E1.grow g2) (x1.trans (Fw.gr g2)) p2⟩
theorem dm_cb {r : List V → Hp → VK → Prop} {ta : TA} (ha : DMA K B ta Γ (ds.map .d) Γ1) (hr : CbD K r ds d) : DM K B (tCB r ta) Γ d Γ1 := fun H Hs σ E Q q =>
  ha H Hs σ E _ fun v H1 Hs1 E1 x1 p1 => hr H1 Hs1 v E1.sub p1.data Q fun w H2 Hs2 g2 p2 => q w H2 Hs2 (E1.grow g2) (x1.trans (Fw.gr g2)) p2
theorem dm_tup {ta : TA} (h : DMA K B ta Γ (ds.map .d) Γ1) (hl : ds.length ≤ sizeLine) : DM K B (tTup ta) Γ (.tuple ds) Γ1 := fun H Hs σ E Q q =>
  h H Hs σ E _ fun vs H1 Hs1 E1 x1 p1 => by
    have p2 := p1.data
    exact ⟨by rw [p2.length]; exact hl, fun p n => q (.ref p) _ (upd Hs1 p (.tup vs)) (E1.grow ((Gr.refl E1.sub).share n)) (x1.trans (Fw.gr ((Gr.refl E1.sub).share n))) (.tup (SqT.of upd_same) (p2.mono (Ext.new ((Gr.refl E1.sub).hsn n))))⟩
theorem dmt_B (h : DM K B t Γ (.bool p) Γ1) : DMT K B (tB t) Γ p Γ1 := fun H Hs σ E Q q => h H Hs σ E _ fun v H' Hs' E' x' p' => by
  cases p'
  exact ⟨p, rfl, q H' Hs' E' x'⟩
theorem dmt_of {tt : TT} (h : DT K B tt Γ p) : DMT K B tt Γ p Γ := fun H Hs σ E Q q => h H Hs σ E Q fun H' Hs' g => q H' Hs' (E.grow g) (Fw.gr g)
theorem dmt_not {tt : TT} (h : DMT K B tt Γ p Γ1) : DMT K B (tNot tt) Γ (!p) Γ1 := fun H Hs σ E Q q => h H Hs σ E _ fun H' Hs' E' x' => q H' Hs' E' x'
theorem dm_if {tt : TT} (h : DMT K B tt Γ p Γ1) (h1 : p = true → DM K B ta Γ1 d Γ2) (h2 : p = false → DM K B tb Γ1 d Γ2) : DM K B (tIf tt ta tb) Γ d Γ2 := fun H Hs σ E Q q => h H Hs σ E _ fun H1 Hs1 E1 x1 => by
  cases p with
  | true =>
    show ta σ H1 Q
    exact h1 rfl H1 Hs1 σ E1 Q fun u H2 Hs2 E2 x2 p2 => q u H2 Hs2 E2 (x1.trans x2) p2
  | false =>
    show tb σ H1 Q
    exact h2 rfl H1 Hs1 σ E1 Q fun u H2 Hs2 E2 x2 p2 => q u H2 Hs2 E2 (x1.trans x2) p2
/-! statements -/
theorem ds_asgM {i : Nat} (h : DM K B te Γ d Γ1) (k : P (.nx (Γ1.set i (.sh d)))) : DS K B (tAsg te (gName i)) Γ P := fun D H Hs σ E q => h H Hs σ E _ fun v H1 Hs1 E1 _ p1 => q _ k H1 Hs1 _ (E1.setSh i p1)
theorem ds_retL {i : Nat} {l : Addr} (h : DM K B te Γ d Γ1) (hi : Γ1[i]? = some (.ol l es)) (k : P (.rm l es d)) : DS K B (tRet te) Γ P := fun D H Hs σ E q => h H Hs σ E _ fun v H1 Hs1 E1 _ p1 => by
  obtain ⟨xs, e1, h1, h2, h3, h4⟩ := E1.ol hi
  exact q _ k v xs H1 Hs1 E1.gr h1 h3 h2 p1
theorem ds_ifM {tt : TT} {tw u : TS} (h : DMT K B tt Γ p Γ1) (h1 : p = true → DS K B u Γ1 P) (h2 : p = false → DS K B tw Γ1 P) : DS K B (tIfS tt u tw) Γ P := fun D H Hs σ E q => h H Hs σ E _ fun H1 Hs1 E1 _ => by
  cases p with
  | true =>
    show u D σ H1
    exact h1 rfl D H1 Hs1 σ E1 q
  | false =>
    show tw D σ H1
    exact h2 rfl D H1 Hs1 σ E1 q
/-- what is walked, with an effect ahead -/
def DMI (K : PySem.W.Frag) (B : Bs) (wi : TI) (Γ : Gm) (ds : List PyData) (Γ' : Gm) : Prop := ∀ H Hs σ, Enb K B H Hs σ Γ → ∀ R : It → Hp → Prop, (∀ J H' Hs', Enb K B H' Hs' σ Γ' → ItD K J Hs' ds → R J H') → wi σ H R
theorem dmi_of {wi : TI} (h : DI K B wi Γ ds) : DMI K B wi Γ ds Γ := fun H Hs σ E R q => h H Hs σ E R fun J H' Hs' g i => q J H' Hs' (E.grow g) i
theorem dmi_rng1 {ta : TA} {n : Int} (h : DMA K B ta Γ [.d (.int n)] Γ1) (hn : -(2 ^ 62) ≤ n ∧ n < 2 ^ 62) : DMI K B (iRng1 ta) Γ (rangeD 0 n.toNat) Γ1 := fun H Hs σ E R q => h H Hs σ E _ fun vs H1 Hs1 E1 _ p1 => by
  cases p1 with
  | cons p1 p2 =>
    cases p2
    cases p1
    exact ⟨n, rfl, hn.1, hn.2, q _ H1 Hs1 E1 itd_rng⟩
theorem dmi_list {te : TE} (h : DM K B te Γ (.list ds) Γ1) : DMI K B (iList K te) Γ ds Γ1 := fun H Hs σ E R q => h H Hs σ E _ fun v H1 Hs1 E1 x1 p1 => by
  cases p1 with
  | lst hq ha => exact ⟨_, rfl, ⟨_, sub_l E1.sub hq⟩, q _ H1 Hs1 E1 (itd_list hq ha)⟩
theorem dmi_tup {te : TE} (h : DM K B te Γ (.tuple ds) Γ1) : DMI K B (iTup K te) Γ ds Γ1 := fun H Hs σ E R q => h H Hs σ E _ fun v H1 Hs1 E1 x1 p1 => by
  cases p1 with
  | tup hq ha => exact ⟨_, rfl, ⟨_, sub_t E1.sub hq⟩, q _ H1 Hs1 E1 (itd_tup hq ha)⟩
theorem ds_forM {wi : TI} {g : TG} {tb : TS} (h : DMI K B wi Γ ds Γ1) (I : Nat → Gm → Prop) (h0 : I 0 Γ1)
    (hs : ∀ B' k d Γ', ds[k]? = some d → I k Γ' → ∃ js Γ2, DG K g js d Γ' Γ2 ∧ DS K B' tb Γ2 (turnS I k P)) (hd : ∀ Γ', I ds.length Γ' → P (.nx Γ')) : DS K B (tFor wi g tb) Γ P := fun D H Hs σ E q => h H Hs σ E _ fun J H1 Hs1 E1 hJ => by
  refine ⟨fun i m σ' H' => m = ds.length - i ∧ i ≤ ds.length ∧ ∃ Γ' Hs', I i Γ' ∧ Enb K (B.at Hs1) H' Hs' σ' Γ', ⟨ds.length, rfl, Nat.zero_le _, Γ1, Hs1, h0, low_in E1 (Ext.refl _)⟩, ?_⟩
  rintro i m σ' H' ⟨rfl, hi, Γ', Hs', hI, E'⟩
  obtain ⟨j1, j2⟩ := hJ H' Hs' E'.sub E'.pin
  by_cases hlt : i < ds.length
  · have hd' : ds[i]? = some ds[i] := List.getElem?_eq_getElem hlt
    obtain ⟨j3, j4⟩ := j2 i _ hd'
    refine .inr ⟨j3, fun σ2 H2 => ∃ Γ2 Hs2, I (i + 1) Γ2 ∧ Enb K (B.at Hs1) H2 Hs2 σ2 Γ2, fun σ2 H2 ⟨Γ2, Hs2, hI2, E2⟩ => ⟨ds.length - (i + 1), by omega, rfl, by omega, Γ2, Hs2, hI2, E2⟩, fun x H2 hy => ?_⟩
    obtain ⟨Hs2, g2, p2⟩ := j4 x H2 hy
    obtain ⟨js, Γ2, hg, hb⟩ := hs (B.at Hs1) i _ Γ' hd' hI
    refine hg (B.at Hs1) H2 Hs2 σ' x (E'.grow g2) p2 _ fun σ3 E3 _ => hb _ H2 Hs2 σ3 E3 fun o ho => turn_fits ho q E1.pin fun Γ4 H4 Hs4 σ4 hI4 E4 => ⟨Γ4, Hs4, hI4, E4⟩
  · have e : i = ds.length := by omega
    subst e
    exact .inl ⟨j1, q _ (hd Γ' hI) H' Hs' σ' (low_out E' E1.pin)⟩
/-! an own list at a known place: read, written -/
theorem de_ixOl {i : Nat} {l : Addr} {j : Int} (hi : Γ[i]? = some (.ol l ds)) (hb : DE K B tb Γ (.int j)) (h : atI ds j = some d) : DE K B (tOp (rIxL K) (tVar i) tb) Γ d := fun H Hs σ E Q q => by
  obtain ⟨xs, e1, h1, h2, h3, h4⟩ := E.ol hi
  refine ⟨.ref l, e1, hb H Hs σ E _ fun u H2 Hs2 g2 p2 => ?_⟩
  cases p2
  unfold atI at h
  cases e : ixN ds.length j with
  | none => rw [e] at h; cases h
  | some k =>
    rw [e] at h
    obtain ⟨v, hv, pv⟩ := (h2.mono g2.exs).get h
    exact ⟨l, xs, j, v, rfl, rfl, SqL.of (g2.ext.lst h1), by unfold atI; rw [h2.length, e]; exact hv, q v H2 Hs2 g2 pv⟩
theorem de_ixOw {i : Nat} {j : Int} (hi : Γ[i]? = some (.ow ds)) (hb : DE K B tb Γ (.int j)) (h : atI ds j = some d) : DE K B (tOp (rIxL K) (tVar i) tb) Γ d := fun H Hs σ E Q q => by
  obtain ⟨l, xs, e1, h1, h2, h3, h4⟩ := E.ow hi
  refine ⟨.ref l, e1, hb H Hs σ E _ fun u H2 Hs2 g2 p2 => ?_⟩
  cases p2
  unfold atI at h
  cases e : ixN ds.length j with
  | none => rw [e] at h; cases h
  | some k =>
    rw [e] at h
    obtain ⟨v, hv, pv⟩ := (h2.mono g2.exs).get h
    exact ⟨l, xs, j, v, rfl, rfl, SqL.of (g2.ext.lst h1), by unfold atI; rw [h2.length, e]; exact hv, q v H2 Hs2 g2 pv⟩
theorem ds_putOl {i k : Nat} {l : Addr} {j : Int} (hi : Γ[i]? = some (.ol l ds)) (h : DE K B te Γ d) (hb : DE K B tb Γ (.int j)) (hj : ixN ds.length j = some k) (hP : P (.nx (Γ.set i (.ol l (ds.set k d))))) : DS K B (tAsg te (gSub (tVar i) tb rSetL)) Γ P := fun D H Hs σ E q =>
  h H Hs σ E _ fun v H1 Hs1 g1 p1 => by
    obtain ⟨xs, e1, h1, h2, h3, h4⟩ := (E.grow g1).ol hi
    refine ⟨.ref l, e1, hb H1 Hs1 σ (E.grow g1) _ fun u H2 Hs2 g2 p2 => ?_⟩
    cases p2
    have E2 := (E.grow g1).grow g2
    exact ⟨l, xs, j, k, rfl, rfl, g2.ext.lst h1, by rw [h2.length]; exact hj, q _ hP _ Hs2 σ (E2.mutL hi (DqAll.set (p1.mono g2.exs) k (h2.mono g2.exs)))⟩
theorem ds_putOw {i k : Nat} {j : Int} (hi : Γ[i]? = some (.ow ds)) (h : DE K B te Γ d) (hb : DE K B tb Γ (.int j)) (hj : ixN ds.length j = some k) (hP : P (.nx (Γ.set i (.ow (ds.set k d))))) : DS K B (tAsg te (gSub (tVar i) tb rSetL)) Γ P := fun D H Hs σ E q =>
  h H Hs σ E _ fun v H1 Hs1 g1 p1 => by
    obtain ⟨l, xs, e1, h1, h2, h3, h4⟩ := (E.grow g1).ow hi
    refine ⟨.ref l, e1, hb H1 Hs1 σ (E.grow g1) _ fun u H2 Hs2 g2 p2 => ?_⟩
    cases p2
    have E2 := (E.grow g1).grow g2
    exact ⟨l, xs, j, k, rfl, rfl, g2.ext.lst h1, by rw [h2.length]; exact hj, q _ hP _ Hs2 σ (E2.mut hi e1 (DqAll.set (p1.mono g2.exs) k (h2.mono g2.exs)))⟩
end
/-! ### on the text -/
def Xm (X : Cx) (B : Bs) (Γ : Gm) (e : Expr) (d : PyData) (Γ' : Gm) : Prop := DM X.K B (uE X e) Γ d Γ'
def Xmt (X : Cx) (B : Bs) (Γ : Gm) (e : Expr) (b : Bool) (Γ' : Gm) : Prop := DMT X.K B (uT X e) Γ b Γ'
def Xma (X : Cx) (B : Bs) (Γ : Gm) (es : List Expr) (gs : List Ag) (Γ' : Gm) : Prop := DMA X.K B (uA X es) Γ gs Γ'
def Xmi (X : Cx) (B : Bs) (Γ : Gm) (tg e : Expr) (ds : List PyData) (Γ' : Gm) : Prop := DMI X.K B (uI X tg e) Γ ds Γ'
section
variable {X : Cx} {B : Bs} {Γ Γ1 Γ2 : Gm} {e a b c : Expr} {es : List Expr} {st : Stmt} {ss ss2 rest : List Stmt} {d d1 d2 : PyData} {ds ds' : List PyData} {gs : List Ag} {P : Out → Prop} {pos p' : Pos} {x : Str} {i : Nat} {p q : Bool} {m n : Int} {l : Addr}
theorem xm_of' {t : TE} (h : PE X e t) (k : DM X.K B t Γ d Γ1) : Xm X B Γ e d Γ1 := fun H Hs σ E Q q => ⟨t, h, k H Hs σ E Q q⟩
theorem xmt_of' {t : TT} (h : PT X e t) (k : DMT X.K B t Γ p Γ1) : Xmt X B Γ e p Γ1 := fun H Hs σ E Q q => ⟨t, h, k H Hs σ E Q q⟩
theorem xma_of' {t : TA} (h : PA X es t) (k : DMA X.K B t Γ gs Γ1) : Xma X B Γ es gs Γ1 := fun H Hs σ E Q q => ⟨t, h, k H Hs σ E Q q⟩
theorem xmi_of' {t : TI} {tg : Expr} (h : PI X tg e t) (k : DMI X.K B t Γ ds Γ1) : Xmi X B Γ tg e ds Γ1 := fun H Hs σ E R q => ⟨t, h, k H Hs σ E R q⟩
/-- no effect -/
theorem xm_pure (h : Xp X B Γ e d) : Xm X B Γ e d Γ := dm_of h
theorem xm_bin {op : Operator} {rr : R2} (ho : OpR X (binaryOp op) rr) (hr : OpD X.K rr d1 d2 d) (ha : Xm X B Γ a d1 Γ1) (hb : Xm X B Γ1 b d2 Γ2) : Xm X B Γ (.BinOp a op b pos) d Γ2 := xm_of' (pe_op ho pe_u pe_u) (dm_op ha hb hr)
theorem xm_add (ha : Xm X B Γ a (.int m) Γ1) (hb : Xm X B Γ1 b (.int n) Γ2) : Xm X B Γ (.BinOp a .Add b pos) (.int (m + n)) Γ2 := xm_bin op_add (opd_I0 fun _ => .int _) ha hb
theorem xm_sub (ha : Xm X B Γ a (.int m) Γ1) (hb : Xm X B Γ1 b (.int n) Γ2) : Xm X B Γ (.BinOp a .Sub b pos) (.int (m - n)) Γ2 := xm_bin op_sub (opd_I0 fun _ => .int _) ha hb
theorem xm_mod (ha : Xm X B Γ a (.int m) Γ1) (hb : Xm X B Γ1 b (.int n) Γ2) (hc : Side (0 < n)) : Xm X B Γ (.BinOp a .Mod b pos) (.int (m % n)) Γ2 := xm_bin op_mod (opd_I hc.h fun _ => .int _) ha hb
theorem xma_nil : Xma X B Γ [] [] Γ := xma_of' pa_nil dma_nil
theorem xma_cons (hs : Tt (St1 X e es)) (h : Xm X B Γ e d Γ1) (hr : Xma X B Γ1 es gs Γ2) : Xma X B Γ (e :: es) (.d d :: gs) Γ2 := xma_of' (pa_cons pe_u pa_u hs.h) (dma_cons h hr)
theorem xma_ptr {p2 : Pos} (hs : Tt (St1 X (.Name x p2) es)) (k : Rk X i x) (hi : Tt (Γ[i]? = some (.ol l ds))) (hr : Xma X B Γ es gs Γ2) : Xma X B Γ (.Name x p2 :: es) (.p l :: gs) Γ2 := xma_of' (pa_cons (pe_var k.ix k.vis k.d1 k.d2) pa_u hs.h) (dma_ptr hi.h hr)
/-- a def that changes an own list -/
structure CeM (X : Cx) (x : Str) (R : Addr → List Ag → List PyData → List PyData → PyData → Prop) : Prop where
  ex : ∃ (k : Nat) (f : Addr) (fd : FuncData) (ps : List Str), X.mg x = some (.ref f) ∧ FnOk X.prog X.w X.K X.mg X.base CX0 k f fd ps (spM X.K R) ∧ PySem.W.keepIn X.K (.ref f) = true ∧ Binds X.K fd ps [] ∧ Room k X.A
  db : (x == ("__debug__" : Str)) = false
structure CalM (R : Addr → List Ag → List PyData → List PyData → PyData → Prop) (l : Addr) (gs : List Ag) (ds es : List PyData) (d : PyData) : Prop where
  h : R l gs ds es d
theorem xm_call {R : Addr → List Ag → List PyData → List PyData → PyData → Prop} (c : CeM X x R) (hg : Gl X x) (he : Tt (St1 X e es)) (hp : Tt (Pl1 X pos es)) (ha : Xma X B Γ (e :: es) gs Γ1) (hi : Tt (Γ1[i]? = some (.ol l ds))) (hr : CalM R l gs ds ds' d) (hΓ : Sg (Γ1.set i (.ol l ds')) Γ2) : Xm X B Γ (.Call (.Name x p') (e :: es) [] pos) d Γ2 := by
  obtain ⟨rfl⟩ := hΓ
  obtain ⟨k, f, fd, ps, hm, F, kp, bi, hr'⟩ := c.ex
  exact xm_of' (pe_call F hr' hg hm kp bi .nil (E := E0) pass0 pa_u c.db he.h hp.h) (dm_call ha hi.h hr.h)
theorem xm_callP {R : List PyData → PyData → Prop} (c : Ce X x R) (hg : Gl X x) (he : Tt (St1 X e es)) (hp : Tt (Pl1 X pos es)) (ha : Xma X B Γ (e :: es) gs Γ1) (hgs : Tt (gs = ds.map .d)) (hr : Cal R ds d) : Xm X B Γ (.Call (.Name x p') (e :: es) [] pos) d Γ1 := by
  obtain ⟨rfl⟩ := hgs
  obtain ⟨k, f, fd, ps, hm, F, kp, bi, hr'⟩ := c.ex
  exact xm_of' (pe_call F hr' hg hm kp bi .nil (E := E0) pass0 pa_u c.db he.h hp.h) (dm_callP ha hr.h)
theorem xm_tup {x1} (h : Xma X B Γ es gs Γ1) (hgs : Tt (gs = ds.map .d)) (hl : Tt (decide (ds.length ≤ 16777216) = true)) : Xm X B Γ (.Tuple es x1 pos) (.tuple ds) Γ1 := by
  obtain ⟨rfl⟩ := hgs
  exact xm_of' (pe_tup pa_u) (dm_tup h (by have := of_decide_eq_true hl.h; rw [sizeLine_eq]; exact this))
theorem xm_if (h : Xmt X B Γ c p Γ1) (h1 : p = true → Xm X B Γ1 a d Γ2) (h2 : p = false → Xm X B Γ1 b d Γ2) : Xm X B Γ (.IfExp c a b pos) d Γ2 := xm_of' (pe_ifExp pt_u pe_u pe_u) (dm_if h h1 h2)
theorem xm_cmp {op : CmpOp} (hm : Tt (behindInMarks op b = false)) (ha : Xm X B Γ a d1 Γ1) (hb : Xm X B Γ1 b d2 Γ2) (k : CmpOk X op d1 d2 p) : Xm X B Γ (.Compare a [op] [b] pos) (.bool p) Γ2 := by
  obtain ⟨rr, ho, hr⟩ := k
  exact xm_of' (pe_cmpR ho pe_u pe_u hm.h) (dm_op ha hb hr)
theorem xmt_cmp {op : CmpOp} (hm : Tt (behindInMarks op b = false)) (ha : Xm X B Γ a d1 Γ1) (hb : Xm X B Γ1 b d2 Γ2) (k : CmpOk X op d1 d2 p) : Xmt X B Γ (.Compare a [op] [b] pos) p Γ2 := by
  obtain ⟨rr, ho, hr⟩ := k
  exact xmt_of' (pt_cmpR ho pe_u pe_u hm.h) (dmt_B (dm_op ha hb hr))
theorem xmt_pure (h : Xt X B Γ e p) : Xmt X B Γ e p Γ := dmt_of h
theorem xmt_not (h : Xmt X B Γ a p Γ1) : Xmt X B Γ (.UnaryOp .Not a pos) (!p) Γ1 := xmt_of' (pt_not pt_u) (dmt_not h)
theorem xmt_val (he : Tt (∀ whole, isTrue e X.env whole = (do let v ← whole; standAt e.pos; holding [v] (truthy v)))) (h : Xm X B Γ e (.bool p) Γ1) : Xmt X B Γ e p Γ1 := xmt_of' (pt_val pe_u he.h) (dmt_B h)
/-! statements -/
theorem xsm_set {p2 : Pos} (k : Lk X i x) (hs : Tt (swapsWith e (some (.Name x p2)) pos.line X.env = pure false)) (h : Xm X B Γ e d Γ1) (hΓ : Sg (Γ1.set i (.sh d)) Γ2) (hP : P (.nx Γ2)) : Xs X B Γ (.Assign [.Name x p2] e pos) P := by
  obtain ⟨rfl⟩ := hΓ
  exact xs_of (ps_set k.nd k.ix k.loc pe_u hs.h k.fn) (ds_asgM h hP)
theorem xsm_ret (h : Xm X B Γ e d Γ1) (hi : Tt (Γ1[i]? = some (.ol l ds))) (hP : P (.rm l ds d)) : Xs X B Γ (.Return (some e) pos) P := xs_of (ps_ret pe_u) (ds_retL h hi.h hP)
theorem xsm_if {ss2 : List Stmt} (h : Xmt X B Γ c p Γ1) (h1 : p = true → Xb X B Γ1 ss P) (h2 : p = false → Xb X B Γ1 ss2 P) : Xs X B Γ (.If c ss ss2 pos) P := xs_of (ps_if pt_u pb_u pb_u) (ds_ifM h h1 h2)
theorem xmi_pure {tg : Expr} (h : Xi X B Γ tg e ds) : Xmi X B Γ tg e ds Γ := dmi_of h
theorem xmi_rng1 {tg : Expr} (hb : Bi X "range") (he : Tt (St1 X e [])) (h : Xm X B Γ e (.int n) Γ1) (hn : Side (-(2 ^ 62) ≤ n ∧ n < 2 ^ 62)) : Xmi X B Γ tg (.Call (.Name "range" p') [e] [] pos) (rangeD 0 n.toNat) Γ1 := xmi_of' (pi_range1 hb.gl hb.no pa_u he.h) (dmi_rng1 (xma_cons he h xma_nil) hn.h)
theorem xsm_for {tg iter : Expr} {body : List Stmt} (hp : PassesOwn (model X.prog X.w) X.A X.env X.xe) (hc : X.calm = true) (hs : ∀ x, foldedSetIterable iter X.env x = pure x) (h : Xmi X B Γ tg iter ds Γ1) (I : Nat → Gm → Prop) (h0 : I 0 Γ1)
    (hb : ∀ B' k d Γ', ds[k]? = some d → I k Γ' → ∃ js Γ2, Xg X tg js d Γ' Γ2 ∧ Xb X B' Γ2 body (turnS I k P)) (hd : ∀ Γ', I ds.length Γ' → P (.nx Γ')) : Xs X B Γ (.For tg iter body [] pos) P :=
  xs_of (ps_for hp hc pi_u pg_u pb_u hs) (ds_forM h I h0 hb hd)
/-- x = [..], whose place is kept in mind -/
theorem xsm_new {p2 : Pos} (k : Lk X i x) (hs : Tt (swapsWith e (some (.Name x p2)) pos.line X.env = pure false)) (h : Xl X B Γ e ds) (hP : ∀ l Γ', Γ' = Γ.set i (.ol l ds) → P (.nx Γ')) : Xs X B Γ (.Assign [.Name x p2] e pos) P := xs_of (ps_set k.nd k.ix k.loc pe_u hs.h k.fn) (ds_asgL h fun l => hP l _ rfl)
/-- x[j], x = .. at a place that is kept in mind -/
theorem xe_ixOl {j : Int} {p2 : Pos} (hs : Tt (PlainIx b)) (k : Rk X i x) (hi : Tt (Γ[i]? = some (.ol l ds))) (hb : Xp X B Γ b (.int j)) (h : Side (atI ds j = some d)) : Xp X B Γ (.Subscript (.Name x p2) b pos) d := xp_of (pe_ix ix_list (pe_var k.ix k.vis k.d1 k.d2) pe_u hs.h) (de_ixOl hi.h hb h.h)
theorem xe_ixOw {j : Int} {p2 : Pos} (hs : Tt (PlainIx b)) (k : Rk X i x) (hi : Tt (Γ[i]? = some (.ow ds))) (hb : Xp X B Γ b (.int j)) (h : Side (atI ds j = some d)) : Xp X B Γ (.Subscript (.Name x p2) b pos) d := xp_of (pe_ix ix_list (pe_var k.ix k.vis k.d1 k.d2) pe_u hs.h) (de_ixOw hi.h hb h.h)
/-- x[j] = e -/
theorem xs_putOl {j : Int} {kk : Nat} {p2 ps : Pos} {Γ' : Gm} (k : Rk X i x) (ha : Tt (∀ v, assign (.Subscript (.Name x p2) b ps) X.env v = (do
      let ov ← holding [v] (eval (.Name x p2) X.env)
      let iv ← holding [v, ov] (eval b X.env)
      standAt ps
      holding [v, ov, iv] (setItem ov iv v)
      release [v, ov, iv] []))) (hs : Tt (swapsWithSole [.Subscript (.Name x p2) b ps] e pos.line X.env = pure false)) (hw : Tt (swappedStores [.Subscript (.Name x p2) b ps] e X.env = pure none)) (h1 : Tt ((assignEach [.Subscript (.Name x p2) b ps] X.env).map (·.2) = [assign (.Subscript (.Name x p2) b ps) X.env]))
    (hi : Tt (Γ[i]? = some (.ol l ds))) (h : Xp X B Γ e d) (hb : Xp X B Γ b (.int j)) (hj : Side (ixN ds.length j = some kk)) (hΓ : Sg (Γ.set i (.ol l (ds.set kk d))) Γ') (hP : P (.nx Γ')) : Xs X B Γ (.Assign [.Subscript (.Name x p2) b ps] e pos) P := by
  obtain ⟨rfl⟩ := hΓ
  exact xs_of (ps_asg pe_u (pg_sub (pe_var k.ix k.vis k.d1 k.d2) pe_u set_list ha.h) hs.h hw.h h1.h) (ds_putOl hi.h h hb hj.h hP)
theorem xs_putOw {j : Int} {kk : Nat} {p2 ps : Pos} {Γ' : Gm} (k : Rk X i x) (ha : Tt (∀ v, assign (.Subscript (.Name x p2) b ps) X.env v = (do
      let ov ← holding [v] (eval (.Name x p2) X.env)
      let iv ← holding [v, ov] (eval b X.env)
      standAt ps
      holding [v, ov, iv] (setItem ov iv v)
      release [v, ov, iv] []))) (hs : Tt (swapsWithSole [.Subscript (.Name x p2) b ps] e pos.line X.env = pure false)) (hw : Tt (swappedStores [.Subscript (.Name x p2) b ps] e X.env = pure none)) (h1 : Tt ((assignEach [.Subscript (.Name x p2) b ps] X.env).map (·.2) = [assign (.Subscript (.Name x p2) b ps) X.env]))
    (hi : Tt (Γ[i]? = some (.ow ds))) (h : Xp X B Γ e d) (hb : Xp X B Γ b (.int j)) (hj : Side (ixN ds.length j = some kk)) (hΓ : Sg (Γ.set i (.ow (ds.set kk d))) Γ') (hP : P (.nx Γ')) : Xs X B Γ (.Assign [.Subscript (.Name x p2) b ps] e pos) P := by
  obtain ⟨rfl⟩ := hΓ
  exact xs_of (ps_asg pe_u (pg_sub (pe_var k.ix k.vis k.d1 k.d2) pe_u set_list ha.h) hs.h hw.h h1.h) (ds_putOw hi.h h hb hj.h hP)
end
/-! ### a def that changes the own list handed in -/
/-- l stands once among the arguments -/
structure OnceAt (l : Addr) (gs : List Ag) : Prop where
  ex : ∃ n : Nat, ∀ (i : Nat) (m : Addr), gs[i]? = some (Ag.p m) → i = n ∧ m = l
theorem noP {ds : List PyData} {i : Nat} {m : Addr} (h : (ds.map Ag.d)[i]? = some (.p m)) : False := by
  rw [List.getElem?_map] at h
  cases e : ds[i]? with
  | none => rw [e] at h; cases h
  | some x => rw [e] at h; cases h
theorem one_of (as : List PyData) (l : Addr) (bs : List PyData) : OnceAt l (as.map Ag.d ++ Ag.p l :: bs.map Ag.d) := ⟨as.length, fun i m h => by
  by_cases hi : i < as.length
  · rw [List.getElem?_append_left (by rw [List.length_map]; exact hi)] at h
    exact (noP h).elim
  · rw [List.getElem?_append_right (by rw [List.length_map]; omega), List.length_map] at h
    cases e : i - as.length with
    | zero =>
      rw [e] at h
      cases h
      exact ⟨by omega, rfl⟩
    | succ j =>
      rw [e] at h
      exact (noP h).elim⟩
def slG (ds : List PyData) : Ag → Sl
  | .d x => .sh x
  | .p l => .ol l ds
def startM (N : List Str) (gs : List Ag) (ds : List PyData) : Gm := gs.map (slG ds) ++ List.replicate (N.length - gs.length) .un
theorem en_startM {K : PySem.W.Frag} {N : List Str} {vs xs : List V} {gs : List Ag} {ds : List PyData} {H Hs : Hp} {l : Addr} (o : OnceAt l gs) (s : ∀ a o, Hs a = some o → H a = some o) (tb : TabsIn Hs) (a : AgAll K Hs vs gs) (hl : H l = some (.lst xs)) (hn : Hs l = none) (hd : DqAll K Hs xs ds) : Enb K ⟨del H l, Hs, Hs⟩ H Hs (L2.start N vs) (startM N gs ds) := by
  refine ⟨⟨fun a o h => .inl ?_, Ext.refl _, s, fun a h => .inl h⟩, Ext.refl _, ?_, fun i t o h1 h2 => ?_, fun i j u t m h1 h2 w1 w2 _ _ => ?_, tb⟩
  · by_cases ha : a = l
    · subst ha
      exact absurd (h.symm.trans (show del H a a = none from del_same)) (by simp)
    · exact (show del H l a = H a from del_ne ha).symm.trans h
  · unfold L2.start startM
    rw [List.length_append, List.length_append, List.length_map, List.length_map, List.length_replicate, List.length_replicate, a.len]
  · unfold startM at h1
    unfold L2.start at h2
    by_cases hi : i < gs.length
    · rw [List.getElem?_append_left (by rw [List.length_map]; exact hi), List.getElem?_map, List.getElem?_eq_getElem hi] at h1
      rw [List.getElem?_append_left (by rw [List.length_map, a.len]; exact hi), List.getElem?_map] at h2
      have hg := List.getElem?_eq_getElem hi
      obtain ⟨v, hv, pv⟩ := a.get hg
      rw [hv] at h2
      cases h1
      cases h2
      cases e : gs[i] with
      | d x =>
        rw [e] at pv
        exact ⟨v, rfl, pv⟩
      | p m =>
        rw [e] at pv hg
        obtain ⟨n, hon⟩ := o.ex
        obtain ⟨_, rfl⟩ := hon i m hg
        exact ⟨xs, by rw [show v = .ref m from pv], hl, hd, hn, del_same⟩
    · rw [List.getElem?_append_right (by rw [List.length_map]; omega), List.getElem?_replicate] at h1
      split at h1
      · cases h1; trivial
      · cases h1
  · have at_n : ∀ {i : Nat} {u : Sl}, (startM N gs ds)[i]? = some u → u.isOwn = true → ∃ m, gs[i]? = some (.p m) := fun {i u} h w => by
      unfold startM at h
      by_cases hi : i < gs.length
      · rw [List.getElem?_append_left (by rw [List.length_map]; exact hi), List.getElem?_map, List.getElem?_eq_getElem hi] at h
        cases h
        cases e : gs[i] with
        | d x =>
          rw [e] at w
          cases w
        | p m => exact ⟨m, by rw [List.getElem?_eq_getElem hi, e]⟩
      · rw [List.getElem?_append_right (by rw [List.length_map]; omega), List.getElem?_replicate] at h
        split at h
        · cases h
          cases w
        · cases h
    obtain ⟨m1, k1⟩ := at_n h1 w1
    obtain ⟨m2, k2⟩ := at_n h2 w2
    obtain ⟨n, hon⟩ := o.ex
    exact (hon _ _ k1).1.trans (hon _ _ k2).1.symm
section
variable {P : Program} {w : World} {K : PySem.W.Frag} {mg : Str → Option Value} {base : Heap}
def RetM (l : Addr) (es : List PyData) (d : PyData) : Out → Prop := fun o => o = .rm l es d
theorem ret_rm {l : Addr} {es es' : List PyData} {d d' : PyData} (h : es' = es) (k : d' = d) : RetM l es d (.rm l es' d') := by rw [h, k]; rfl
theorem fn_okM {x qual : Str} {st : Stmt} {f : Addr} {fd : FuncData} {N ps : List Str} {k : Nat} {R : Addr → List Ag → List PyData → List PyData → PyData → Prop} (F : Fun K x qual st f fd) (S : FnScope N ps (defScope st)) (len : ∀ l gs ds es d, R l gs ds es d → gs.length = ps.length ∧ OnceAt l gs)
    (body : ∀ (cdv : Value) (A : Around) (outer : List Env) (s : Shared) (H : Hp) (E : XK) (B : Bs) (l : Addr) (gs : List Ag) (ds es : List PyData) (d : PyData), Room k (Xc P w K mg base N qual st f cdv A outer s H E).A → R l gs ds es d → Xb (Xc P w K mg base N qual st f cdv A outer s H E) B (startM N gs ds) (defBody st) (RetM l es d)) : FnOk P w K mg base CX0 (k + 1) f fd ps (spM K R) := by
  refine F.ok S (fun vs H Q E h => ?_) (fun cdv A outer s H vs Q E hr h => ?_)
  · obtain ⟨gs, l, xs, ds, es, d, Hs, a, _, _, _, _, _, hR, _⟩ := h
    rw [a.len]
    exact (len l gs ds es d hR).1
  · obtain ⟨gs, l, xs, ds, es, d, Hs, a, hl, hn, hsub, htb, hd, hR, q⟩ := h
    refine ⟨_, pb_u, body cdv A outer s H E ⟨del H l, Hs, Hs⟩ l gs ds es d hr hR _ H Hs (L2.start N vs) (en_startM (len l gs ds es d hR).2 hsub htb a hl hn hd) fun o ho => ?_⟩
    cases ho
    exact fun v ys H' Hs' g k1 k2 k3 k4 => q v H' Hs' ys g k1 k2 k3 k4
structure DnM (P : Program) (w : World) (K : PySem.W.Frag) (mg : Str → Option Value) (base : Heap) (k : Nat) (x : Str) (R : Addr → List Ag → List PyData → List PyData → PyData → Prop) : Prop where
  ex : ∃ (f : Addr) (fd : FuncData) (ps : List Str), mg x = some (.ref f) ∧ FnOk P w K mg base CX0 k f fd ps (spM K R) ∧ PySem.W.keepIn K (.ref f) = true ∧ Binds K fd ps []
theorem ce_ofM {N : List Str} {st : Stmt} {qual : Str} {f : Addr} {cdv : Value} {A : Around} {outer : List Env} {s : Shared} {H : Hp} {E : XK} {x : Str} {R : Addr → List Ag → List PyData → List PyData → PyData → Prop} {k j : Nat} (D : DnM P w K mg base k x R) (hr : Room j (Xc P w K mg base N qual st f cdv A outer s H E).A) (hk : k ≤ j) (hd : (x == ("__debug__" : Str)) = false) :
    CeM (Xc P w K mg base N qual st f cdv A outer s H E) x R := by
  obtain ⟨g, fd, ps, h1, h2, h3, h4⟩ := D.ex
  exact ⟨⟨k, g, fd, ps, h1, h2, h3, h4, hr.mono hk⟩, hd⟩
theorem dn_ofM {x qual : Str} {st : Stmt} {f : Addr} {fd : FuncData} {ps : List Str} {k : Nat} {R : Addr → List Ag → List PyData → List PyData → PyData → Prop} (F : Fun K x qual st f fd) (hm : mg x = some (.ref f)) (hb : Binds K fd ps []) (h : FnOk P w K mg base CX0 k f fd ps (spM K R)) : DnM P w K mg base k x R := ⟨f, fd, ps, hm, h, F.kp, hb⟩
end
end Dl
set_option Elab.async false
set_option linter.all false
set_option maxRecDepth 100000
set_option maxHeartbeats 2000000
/-! Exceptions: defs that raise, calls of them, a try whose exception is kept. -/
namespace Dl
open PySem L2 PyProof.Rows
section
variable {X : Cx} {pins : List (Addr × Obj)} {σ : L2.St} {H : Hp} {s : Shared}
/-- a pinned object, new since the def's entry, is told by the heap from now on -/
theorem trackX {a : Addr} {oe : Obj} {o : HO} (I : Inv X (pins ++ [(a, oe)]) σ H s) (n0 : X.s_0.heap.get? a = none) (hp : ∀ p ∈ X.pn ++ pins, p.1 ≠ a) (new : ObjOk X.prog X.w (upd H a o) s.heap a o) : Inv X pins σ (upd H a o) s := by
  obtain ⟨e0, na, nL, nF, nc⟩ := I.pin (a, oe) (List.mem_append_right _ (List.mem_append_right _ List.mem_cons_self))
  have na' : H a = none := na
  have e0' : s.heap.get? a = some oe := e0
  have old : ∀ b u, X.s_0.heap.get? b = some u → b ≠ a := fun b u e z => by
    rw [z, n0] at e
    cases e
  refine ⟨I.ok, I.os, I.bare, ⟨I.base.keep, I.base.slot, fun b u e n hx => ?_, I.base.there, fun b xs e => ?_, fun b u xs e => ?_, fun b ps e => ?_⟩, I.loc, I.cell, ?_, fun x c e => ?_, fun p hpn => ?_, fun b u e => ?_, I.len⟩
  · rw [upd_ne (old b u e)]
    exact I.base.free b u e n hx
  · have q := I.base.tups b xs e
    rw [upd_ne (ne_of_none q na')]
    exact q
  · have q := I.base.frzs b u xs e
    rw [upd_ne (ne_of_none q na')]
    exact q
  · obtain ⟨more, q⟩ := I.base.tbls b ps e
    exact ⟨more, by rw [upd_ne (ne_of_none q na')]; exact q⟩
  · rw [upd_ne (Ne.symm nL)]
    exact I.free
  · have hc : c ≠ a := fun z => by
      obtain ⟨v, oc, hoc, hdc⟩ := I.cell x c e
      rw [z, e0'] at hoc
      cases hoc
      exact nc v hdc
    rw [upd_ne hc]
    exact I.freeC x c e
  · obtain ⟨q1, q2, q3, q4, q5⟩ := I.pin p (by
      rcases List.mem_append.mp hpn with z | z
      · exact List.mem_append_left _ z
      · exact List.mem_append_right _ (List.mem_append_left _ z))
    exact ⟨q1, by rw [upd_ne (hp p hpn)]; exact q2, q3, q4, q5⟩
  · by_cases hb : b = a
    · subst hb
      rw [upd_same] at e
      cases e
      exact new
    · rw [upd_ne hb] at e
      exact (I.hok b u e).stay (fun _ _ _ q => q) (fun c q => by rw [upd_ne (ne_of_none q na')]; exact q) fun c xs q => by rw [upd_ne (ne_of_none q na')]; exact q
end
/-- what the clause does with an exception: the suite, its name gone, the exception kept in the heap -/
def keptD (D : Ends) (i : Nat) (a : Addr) (cls : Value) (d : Option Addr) : Ends := { nx := fun σ' H' => D.nx (σ'.set i none) (upd H' a (ExG cls d a)), rt := fun _ _ => False }
def wKeep (K : PySem.W.Frag) (c : Value) (i : Nat) (ts : Addr → Value → Option Addr → TS) (D : Ends) : WX := fun cls d σ H => PySem.W.exmOne K cls c = some true ∧ ∀ a, H a = none → ts a cls d (keptD D i a cls d) (σ.set i (some (.ref a))) H
theorem ps_tryKeep {X : Cx} {x n : Str} {c : Value} {i : Nat} {body suite : List Stmt} {b1 : Stmt} {np pos pos' : Pos} {tb : WX → TS} {ts : Addr → Value → Option Addr → TS} (stk : X.stack = X.env :: X.outer) (fr : X.env.frame = some X.env.locals) (xex : X.ex = []) (nd : X.N.Nodup) (ix : X.N[i]? = some n) (lc : X.env.kindOf n = some .local) (nm : Names X x c)
    (hb : ∀ (W : WX) (pn : List (Addr × Obj)) (xe : Value → Shared → Prop), Takes (X.tr pn xe) W → PassesOwn (model X.prog X.w) X.A X.env xe → PSs (X.tr pn xe) body (tb W))
    (hsu : ∀ (a : Addr) (oe : Obj) (cls : Value) (d : Option Addr) (pn : List (Addr × Obj)), PSs (X.suite a ((a, oe) :: pn)) (b1 :: suite) (ts a cls d)) :
    PS X (.Try body [.ExceptHandler (some (.Name x np)) (some n) (b1 :: suite) pos'] [] [] pos) (fun D σ H => tb (wKeep X.K c i ts D) D σ H) := by
  constructor
  intro pins s σ H D I start
  have ok := I.ok
  have frames : X.A.frames = some (X.env :: X.outer) := ok.frames.trans (congrArg some stk)
  let xe' : Value → Shared → Prop := fun e u1 => wpAny (model X.prog X.w) X.A (noteFrame e X.env) (fun _ u2 => wpAny (model X.prog X.w) X.A (setFlight e none) (fun _ u3 => wpAny (model X.prog X.w) X.A (handleBy e X.env [.ExceptHandler (some (.Name x np)) (some n) (b1 :: suite) pos']) (SP X pins D) X.xe u3) X.xe u2) X.xe u1
  have caught : Takes (X.tr (X.pn ++ pins) xe') (wKeep X.K c i ts D) := by
    rintro u s' ⟨a, G, sI, pins', σ', H', cls, d, rfl, J', ground, ups, sky, na, os, bare, match1, run⟩
    have J : Inv X pins σ' H' sI := J'.ofTry ok
    have sky1 : Sky G (X.env :: X.outer) a (Zc cls d) X.env.locals s'.heap := stk ▸ sky
    refine Sky.land Zc.steady frames fr sky1 fun h3 f3 up3 => ?_
    have J3 : Inv X pins σ' H' { s' with heap := h3 } := J.landed ground f3.1 (ups.trans up3) os bare
    obtain ⟨o3, v3, at3, z3, d3⟩ := f3.there
    have noFrame : a ∉ frs (X.env :: X.outer) := fun hm => by
      obtain ⟨_, o', at', notF⟩ := f3.2.2.1.mem hm
      cases at3.symm.trans at'
      exact notF _ d3
    have nL : a ≠ X.env.locals := fun z => noFrame (List.mem_filterMap.mpr ⟨X.env, List.mem_cons_self, fr.trans (congrArg some z.symm)⟩)
    have nF : a ∉ X.fs := fun hm => by
      obtain ⟨e, me, q⟩ := List.mem_filterMap.mp hm
      exact noFrame (List.mem_filterMap.mpr ⟨e, List.mem_cons_of_mem _ me, q⟩)
    have nI : sI.heap.get? a = none := by
      cases q : sI.heap.get? a with
      | none => rfl
      | some u =>
        have z := ground a u q (by rw [show (X.tr (X.pn ++ pins) xe').stack = X.env :: X.outer from stk]; exact noFrame)
        rw [f3.2.1] at z
        cases z
    have n0 : X.s_0.heap.get? a = none := by
      cases q : X.s_0.heap.get? a with
      | none => rfl
      | some u =>
        obtain ⟨u', z⟩ := J.base.there a u q (by rw [xex]; simp)
        rw [nI] at z
        cases z
    have npin : ∀ p ∈ X.pn ++ pins, p.1 ≠ a := fun p hp z => by
      have q := (J.pin p hp).1
      rw [z, nI] at q
      cases q
    have S3 := J3.suite at3 d3 na nL nF
    refine wpAny_handleBy_cons (codeAny_handlers_test ?_) (by intro q; cases q)
    have lt : PySem.W.Looks (model X.prog X.w) h3 (typeOf (.ref a)) cls := fun A Q E s k q => wpAny_typeOf_ref (k _ _ at3) (by rw [z3.1]; exact q)
    have lm := PySem.W.exm_one (M := model X.prog X.w) (J3.kIn) lt match1
    have named : ∀ {Q : Value → Shared → Prop} {E : Value → Shared → Prop}, Q c { s' with heap := h3 } → wpAny (model X.prog X.w) (X.A.mark (some (.ref a))) (eval (.Name x np) X.env) Q E { s' with heap := h3 } := fun {Q E} q => by
      obtain ⟨g1, g2, g3 | ⟨g3, g4, g5⟩⟩ := nm
      · exact ld_glob (X := X.suite a ((a, o3) :: (X.pn ++ pins))) S3 g1 g3 q g2
      · exact ld_blt (X := X.suite a ((a, o3) :: (X.pn ++ pins))) S3 g1 g3 g4 q g5 g2
    refine named (lm.here (codeAny_handlers_suite_as (HandSPX.lands_againZ f3 fun h4 f4 up4 => ?_)))
    have J4 : Inv X pins σ' H' { s' with heap := h4 } := J.landed ground f4.1 ((ups.trans up3).trans up4) os bare
    obtain ⟨o4, v4, at4, z4, d4⟩ := f4.there
    have S4 := J4.suite at4 d4 na nL nF
    refine store_ok (X := X.suite a ((a, o4) :: (X.pn ++ pins))) (v := .ref a) S4 nd ix (.inl lc) rfl (fun s5 S5 => ?_) (.inr lc)
    refine wpAny_mono ((hsu a o4 cls d (X.pn ++ pins)).run [] s5 _ H' _ S5 (run a na)) (fun f s6 hsp => ?_) (fun _ _ z => z.elim)
    cases f with
    | next =>
      obtain ⟨σ6, H6, S6, q6⟩ := hsp
      have P6 : Inv X (pins ++ [(a, o4)]) σ6 H6 s6 := (S6.unsuite ok).pins_of fun p hp => by
        refine S6.pin p (List.mem_append_left _ ?_)
        rcases List.mem_append.mp hp with z | z
        · exact List.mem_cons_of_mem _ (List.mem_append_right _ z)
        · rw [List.mem_singleton.mp z]
          exact List.mem_cons_self
      refine gone_ok P6 nd ix lc fun s7 J7 => ⟨_, _, trackX J7 n0 npin ?_, q6⟩
      have at7 := (J7.pin (a, o4) (List.mem_append_right _ (List.mem_append_right _ List.mem_cons_self))).1
      exact ⟨⟨o4, v4, at7, z4, d4⟩, ⟨o4, at7⟩, fun _ _ ⟨oo, vv, w1, w2⟩ k => ⟨oo, vv, k oo w1, w2⟩⟩
    | brk =>
      obtain ⟨_, _, _, q6⟩ := hsp
      exact q6.elim
    | cont =>
      obtain ⟨_, _, _, q6⟩ := hsp
      exact q6.elim
    | ret u =>
      obtain ⟨_, _, _, _, _, q6⟩ := hsp
      exact q6.elim
  refine wpAny_Try_except (wpAny_mono ((hb (wKeep X.K c i ts D) (X.pn ++ pins) xe' caught PassesOwn.looking).run [] s σ H D (I.toTry _) start) (fun f s1 hsp => ?_) (fun _ _ he => he))
  cases f with
  | next =>
    obtain ⟨σ', H', J', q⟩ := hsp
    exact wpAny_execs_nil ⟨σ', H', J'.ofTry ok, q⟩
  | brk =>
    obtain ⟨σ', H', J', q⟩ := hsp
    exact ⟨σ', H', J'.ofTry ok, q⟩
  | cont =>
    obtain ⟨σ', H', J', q⟩ := hsp
    exact ⟨σ', H', J'.ofTry ok, q⟩
  | ret u =>
    obtain ⟨v, σ', H', J', r, q⟩ := hsp
    exact ⟨v, σ', H', J'.ofTry ok, r, q⟩
section
variable [Tabs]
/-! ### defs that may raise -/
/-- what a def gives: an answer, or an exception of a class by its name -/
inductive Rs where
  | ok (d : PyData) | er (nm : Str)
def spX (K : PySem.W.Frag) (mg : Str → Option Value) (R : List PyData → Rs → Prop) : Sp := fun vs H Q E => ∃ ds res Hs, (∀ a o, Hs a = some o → H a = some o) ∧ TabsIn Hs ∧ DqAll K Hs vs ds ∧ R ds res ∧
  (∀ d, res = .ok d → ∀ v H' Hs', Gr H Hs H' Hs' → Dq K Hs' v d → Q v H') ∧ (∀ nm, res = .er nm → ∃ D, mg nm = some (.ref D) ∧ ∀ H' Hs', Gr H Hs H' Hs' → E (.ref D) none H')
/-- an exception of this class may be let out here -/
structure AX (X : Cx) (B : Bs) (Γ : Gm) (nm : Str) : Prop where
  ex : ∃ W D, X.mg nm = some (.ref D) ∧ Takes X W ∧ ∀ σ H Hs, Enb X.K B H Hs σ Γ → W (.ref D) none σ H
structure CeX (X : Cx) (x : Str) (R : List PyData → Rs → Prop) : Prop where
  ex : ∃ (k : Nat) (f : Addr) (fd : FuncData) (ps : List Str), X.mg x = some (.ref f) ∧ FnOk X.prog X.w X.K X.mg X.base (L2.CX X.prog X.w) k f fd ps (spX X.K X.mg R) ∧ PySem.W.keepIn X.K (.ref f) = true ∧ Binds X.K fd ps [] ∧ Room k X.A
  db : (x == ("__debug__" : Str)) = false
structure CalX (R : List PyData → Rs → Prop) (ds : List PyData) (r : Rs) : Prop where
  h : R ds r
section
variable {X X' : Cx} {B : Bs} {Γ : Gm} {e : Expr} {es : List Expr} {d : PyData} {ds : List PyData} {P : Out → Prop} {pos p' : Pos} {x y n nm : Str} {i j : Nat} {b : Bool} {R : List PyData → Rs → Prop}
theorem xe_callX (c : CeX X x R) (hg : Gl X x) (he : Tt (St1 X e es)) (hp : Tt (Pl1 X pos es)) (ha : Xa X B Γ (e :: es) ds) (hr : CalX R ds (.ok d)) : Xp X B Γ (.Call (.Name x p') (e :: es) [] pos) d := by
  obtain ⟨k, f, fd, ps, hm, F, kp, bi, hr'⟩ := c.ex
  exact xp_of (pe_callS F hr' hg hm kp bi (passAt takes0) pa_u c.db he.h hp.h) fun H Hs σ E Q q => ha H Hs σ E _ fun vs H1 Hs1 g1 p1 =>
    ⟨ds, .ok d, Hs1, g1.sub, E.tab.mono g1.exs, p1, hr.h, fun d' e v H2 Hs2 g2 p2 => by
      cases e
      exact q v H2 Hs2 (g1.trans g2) p2, fun nm e => nomatch e⟩
theorem xe_callE (c : CeX X x R) (ax : AX X B Γ nm) (hg : Gl X x) (he : Tt (St1 X e es)) (hp : Tt (Pl1 X pos es)) (ha : Xa X B Γ (e :: es) ds) (hr : CalX R ds (.er nm)) : Xp X B Γ (.Call (.Name x p') (e :: es) [] pos) d := by
  obtain ⟨k, f, fd, ps, hm, F, kp, bi, hr'⟩ := c.ex
  obtain ⟨W, D, hD, tk, hW⟩ := ax.ex
  exact xp_of (pe_callS F hr' hg hm kp bi (passAt tk) pa_u c.db he.h hp.h) fun H Hs σ E Q q => ha H Hs σ E _ fun vs H1 Hs1 g1 p1 =>
    ⟨ds, .er nm, Hs1, g1.sub, E.tab.mono g1.exs, p1, hr.h, ⟨fun d' e => (nomatch e), fun nm' e => by
      cases e
      exact ⟨D, hD, fun H2 Hs2 g2 => hW σ H2 Hs2 (E.grow (g1.trans g2))⟩⟩⟩
/-- a class whose instances may be made and raised -/
structure ExB (K : PySem.W.Frag) (mg : Str → Option Value) (x : Str) : Prop where
  ex : ∃ (C : Addr) (bmB : List Value) (N newId initId : String), mg x = some (.ref C) ∧ ExcBaseFacts N newId initId bmB ∧ PySem.W.excIn K C bmB newId = true ∧ PySem.W.keepIn K (.ref C) = true ∧ PySem.W.subIn K (.ref C) (.type "BaseException") = some true ∧ PySem.W.typeIn K (.ref C) = some (.type "type")
  db : (x == ("__debug__" : Str)) = false
theorem xs_raise {m : Str} {jj : _} {p p2 cpos : Pos} (k : ExB X.K X.mg x) (hg : Gl X x) (ax : AX X B Γ x) (hc : Tt (X.calm = true)) : Xs X B Γ (.Raise (some (.Call (.Name x p) [.Constant (.str m) jj p2] [] cpos)) none pos) P := by
  obtain ⟨C, bmB, N, newId, initId, h1, h2, h3, h4, h5, h6⟩ := k.ex
  obtain ⟨W, D, hD, tk, hW⟩ := ax.ex
  rw [h1] at hD
  cases hD
  exact xs_of (ps_raise hc.h tk (pmk_own h2 h3 h1 h4 (raises_own h5 h6) hg k.db)) fun Dd H Hs σ E q => hW σ H Hs E
/-! contexts alike but for exceptions -/
structure Like (X X' : Cx) : Prop where
  prog : X'.prog = X.prog
  w : X'.w = X.w
  K : X'.K = X.K
  mg : X'.mg = X.mg
  base : X'.base = X.base
  N : X'.N = X.N
  env : X'.env = X.env
  fn : X'.fn = X.fn
  A : X'.A = X.A
  calm : X'.calm = X.calm
theorem Like.rk (h : Like X X') (k : Rk X i x) : Rk X' i x := ⟨by rw [h.N]; exact k.ix, by rw [h.env]; exact k.vis, k.d1, k.d2⟩
theorem Like.lk (h : Like X X') (k : Lk X i x) : Lk X' i x := ⟨by rw [h.N]; exact k.nd, by rw [h.N]; exact k.ix, by rw [h.env]; exact k.loc, by rw [h.fn, h.env]; exact k.fn⟩
theorem Like.gl (h : Like X X') (k : Gl X x) : Gl X' x := by
  unfold Gl at k ⊢
  rw [h.env]
  exact k
theorem Like.bi (h : Like X X') (k : Bi X x) : Bi X' x := ⟨h.gl k.gl, by rw [h.mg]; exact k.no⟩
theorem Like.ty {T : TyN} (h : Like X X') (k : Ty X x T) : Ty X' x T := ⟨h.bi k.bi, k.is, k.nn, k.db⟩
theorem Like.rm (h : Like X X') (k : Rm X) : Rm X' := ⟨by rw [h.A]; exact k.h⟩
theorem Like.cn {d : PyData} (h : Like X X') (k : Cn X x d) : Cn X' x d := ⟨by rw [h.mg, h.K]; exact k.ex, k.db⟩
theorem Like.ce {R : List PyData → PyData → Prop} (h : Like X X') (k : Ce X x R) : Ce X' x R := ⟨by rw [h.mg, h.prog, h.w, h.K, h.base, h.A]; exact k.ex, k.db⟩
theorem Like.ceO {R : List PyData → PyData → Prop} (h : Like X X') (k : CeO X x R) : CeO X' x R := ⟨by rw [h.mg, h.prog, h.w, h.K, h.base, h.A]; exact k.ex, k.db⟩
theorem Like.ceX (h : Like X X') (k : CeX X x R) : CeX X' x R := ⟨by rw [h.mg, h.prog, h.w, h.K, h.base, h.A]; exact k.ex, k.db⟩
theorem Like.gx {c T : Addr} (h : Like X X') (k : Gx X c T) : Gx X' c T := ⟨by rw [h.base, h.mg]; exact k.tb, k.ts, by rw [h.env]; exact k.code, by rw [h.A]; exact k.room⟩
theorem Like.exb (h : Like X X') (k : ExB X.K X.mg x) : ExB X'.K X'.mg x := by rw [h.K, h.mg]; exact k
theorem like_tr {X : Cx} {pn : List (Addr × Obj)} {xe : Value → Shared → Prop} : Like X (X.tr pn xe) := ⟨rfl, rfl, rfl, rfl, rfl, rfl, rfl, rfl, rfl, rfl⟩
/-- try: body / except C as n: y = n -/
theorem xs_tryKeep {c : Value} {D : Addr} {body : List Stmt} {np yp ep ap pos' : Pos} {Γ' : Gm} (stk : X.stack = X.env :: X.outer) (fr : X.env.frame = some X.env.locals) (xex : X.ex = []) (kn : Lk X i n) (rn : Rk X i n) (lc : X.env.kindOf n = some .local) (hi : i < Γ.length) (ky : Lk X j y) (hij : i ≠ j) (nmC : Names X x c)
    (hex : X.mg nm = some (.ref D)) (hm : PySem.W.exmOne X.K (.ref D) c = some true) (hs : ∀ a oe pn, swapsWith (.Name n ep) (some (.Name y yp)) ap.line (X.suite a ((a, oe) :: pn)).env = pure false)
    (hb : ∀ X', Like X X' → AX X' B Γ nm → Xb X' B Γ body P) (hΓ : Γ' = (Γ.set j (.ex D)).set i .un) (hP : P (.nx Γ')) :
    Xs X B Γ (.Try body [.ExceptHandler (some (.Name x np)) (some n) [.Assign [.Name y yp] (.Name n ep) ap] pos'] [] [] pos) P := by
  subst hΓ
  let tb : WX → TS := fun W D' σ H => ∀ pn xe, Takes (X.tr pn xe) W → uB (X.tr pn xe) body D' σ H
  let ts : Addr → Value → Option Addr → TS := fun a _ _ D' σ H => ∀ oe pn, uB (X.suite a ((a, oe) :: pn)) [.Assign [.Name y yp] (.Name n ep) ap] D' σ H
  refine xs_of (ps_tryKeep (tb := tb) (ts := ts) stk fr xex kn.nd kn.ix lc nmC (fun W pn xe tk po => ⟨fun pins s σ H D' I h => pb_u.run pins s σ H D' I (h pn xe tk)⟩) (fun a oe cls d pn => ⟨fun pins s σ H D' I h => pb_u.run pins s σ H D' I (h oe pn)⟩)) ?_
  intro Dd H Hs σ E q pn xe tk
  refine hb (X.tr pn xe) like_tr ⟨_, D, hex, tk, fun σ1 H1 Hs1 E1 => ⟨hm, fun a na => ?_⟩⟩ Dd H Hs σ E q
  intro oe pn2
  have li : i < σ1.length := by
    rw [E1.len]
    exact hi
  have E2 : Enb X.K B (upd H1 a (ExG (.ref D) none a)) (upd Hs1 a (ExG (.ref D) none a)) σ1 Γ := E1.grow ((Gr.refl E1.sub).share na)
  have E3 := ((E2.set i (s := .vv (.ref a)) (o := some (.ref a)) rfl rfl).set j (s := .ex D) (o := some (.ref a)) ⟨a, rfl, upd_same⟩ rfl).setUn i (o := none)
  have eΓ : ((Γ.set i (.vv (.ref a))).set j (.ex D)).set i .un = (Γ.set j (.ex D)).set i .un := by
    rw [List.set_comm _ _ hij.symm, List.set_set, List.set_comm _ _ hij.symm]
  rw [eΓ] at E3
  exact ⟨_, pss_one (ps_set (X := X.suite a ((a, oe) :: pn2)) kn.nd ky.ix ky.loc (pe_var rn.ix rn.vis rn.d1 rn.d2) (hs a oe pn2) ky.fn), .ref a, List.getElem?_set_self li, q _ hP _ _ _ E3⟩
/-! ### an exception looked at -/
def rIsX (K : PySem.W.Frag) (D : Addr) : List V → Hp → VK → Prop := fun xs H Q => ∃ (a : Addr) (c : V) (cv : Value) (b : Bool), xs = [.ref a, c] ∧ H a = some (ExI D a) ∧ (∀ u, RelV c u → u = cv) ∧ PySem.W.kitOne K (.ref D) cv = some b ∧ Q (.bl b) H
theorem call_isX {D : Addr} (C : ExcC X.K D) : CallR X (.builtin "isinstance") (rIsX X.K D) := by
  intro pins s σ H xs us Q I r h
  obtain ⟨a, c, cv, b, rfl, ha, hcv, e, q⟩ := h
  obtain ⟨u1, u2, rfl, r1, r2⟩ := vals2 r
  cases (show u1 = Value.ref a from r1)
  have ec := hcv _ r2
  subst ec
  obtain ⟨⟨oe, vs, hget, hz, hv⟩, _⟩ := (show ObjOk X.prog X.w H s.heap a (ExI D a) from I.hok a _ ha)
  have J : PySem.W.InstAt s.heap a oe D none := by
    obtain ⟨oc, od, oda, osl⟩ := oe
    obtain ⟨h1, h2⟩ := hz
    dsimp only at h1 h2 hv
    subst h1 h2 hv
    exact ⟨hget, rfl, rfl, trivial⟩
  exact PySem.W.kia_one (PySem.W.handS_kitx_exc C.hg C.hk C.hs C.hd C.ha C.hn C.ht C.hm) I.kIn J e (fun z => nomatch z) fun tk => ⟨.bl b, H, I.tok tk, rfl, q⟩
/-- the class under the name y, and whether an exception of the class at D is one of it -/
structure IsC (X : Cx) (D : Addr) (y : Str) (b : Bool) : Prop where
  gl : Gl X y
  db : (y == ("__debug__" : Str)) = false
  ex : (∃ C : Addr, X.mg y = some (.ref C) ∧ PySem.W.kitOne X.K (.ref D) (.ref C) = some b) ∨ ∃ T : String, X.mg y = none ∧ bootBuiltins y = some (.type T) ∧ y ≠ "__name__" ∧ PySem.W.kitOne X.K (.ref D) (.type T) = some b
theorem xe_isX {D : Addr} {p1 p2 : Pos} (C : ExcC X.K D) (hb : Bi X "isinstance") (k : Rk X i x) (hi : Tt (Γ[i]? = some (.ex D))) (hc : IsC X D y b) (he : Tt (St1 X (.Name x p1) [.Name y p2])) (he2 : Tt (St1 X (.Name y p2) [])) (hp : Tt (Pl1 X pos [.Name y p2])) : Xp X B Γ (.Call (.Name "isinstance" p') [.Name x p1, .Name y p2] [] pos) (.bool b) := by
  have fin : ∀ (c : V) (cv : Value), PE X (.Name y p2) (tC c) → (∀ u, RelV c u → u = cv) → PySem.W.kitOne X.K (.ref D) cv = some b → Xp X B Γ (.Call (.Name "isinstance" p') [.Name x p1, .Name y p2] [] pos) (.bool b) := fun c cv pc hcv hk =>
    xp_of (pe_callB (call_isX C) hb.gl hb.no (by decide +kernel) (pa_cons (pe_var k.ix k.vis k.d1 k.d2) (pa_cons pc pa_nil he2.h) he.h) (by decide) (by decide) he.h hp.h) fun H Hs σ E Q q => by
      obtain ⟨o, e1, a, rfl, ha⟩ := E.get hi.h
      exact ⟨.ref a, e1, a, c, cv, b, rfl, E.sub _ _ ha, hcv, hk, q _ H Hs (Gr.refl E.sub) (.bl _)⟩
  obtain ⟨g, db, ⟨Ca, hm, hk⟩ | ⟨T, hm, hv, hn, hk⟩⟩ := hc
  · exact fin (.ref Ca) (.ref Ca) (pe_glob g hm (show RelV (.ref Ca) (.ref Ca) from rfl) db) (fun u h => h) hk
  · exact fin (.ty T) (.type T) (pe_bltn g hm hv rfl hn db) (fun u h => h) hk
theorem Like.isc {D : Addr} (h : Like X X') (k : IsC X D y b) : IsC X' D y b := ⟨h.gl k.gl, k.db, by rw [h.mg, h.K]; exact k.ex⟩
/-- y is None, y an exception -/
theorem xte_isXN {D : Addr} {p1 p2 : Pos} {kk} (k : Rk X i x) (hi : Tt (Γ[i]? = some (.ex D))) : Xt X B Γ (.Compare (.Name x p1) [.Is] [.Constant .none kk p2] pos) false :=
  xt_of (pt_cmpR op_isN (pe_var k.ix k.vis k.d1 k.d2) pe_non (nomark _)) fun H Hs σ E Q q => by
    obtain ⟨o, e1, a, rfl, ha⟩ := E.get hi.h
    exact ⟨.ref a, e1, rfl, false, by simp, q H Hs (Gr.refl E.sub)⟩
end
/-! ### the body of a def that may raise -/
section
variable {P : Program} {w : World} {K : PySem.W.Frag} {mg : Str → Option Value} {base : Heap}
abbrev Xe (P : Program) (w : World) (K : PySem.W.Frag) (mg : Str → Option Value) (base : Heap) (N : List Str) (qual : Str) (st : Stmt) (f : Addr) (cdv : Value) (A : Around) (outer : List Env) (s : Shared) (H : Hp) (E : XK) : Cx := cxOf (L2.CX P w) P w K mg base N qual (defScope st) f cdv A outer s H E
theorem like_xe {N : List Str} {qual : Str} {st : Stmt} {f : Addr} {cdv : Value} {A : Around} {outer : List Env} {s : Shared} {H : Hp} {E : XK} : Like (Xc P w K mg base N qual st f cdv A outer s H E) (Xe P w K mg base N qual st f cdv A outer s H E) := ⟨rfl, rfl, rfl, rfl, rfl, rfl, rfl, rfl, rfl, rfl⟩
def RetX : Rs → Out → Prop
  | .ok d => RetP d
  | .er _ => fun _ => False
theorem fn_okX {x qual : Str} {st : Stmt} {f : Addr} {fd : FuncData} {N ps : List Str} {k : Nat} {R : List PyData → Rs → Prop} (F : Fun K x qual st f fd) (S : FnScope N ps (defScope st)) (len : ∀ ds r, R ds r → ds.length = ps.length)
    (body : ∀ (cdv : Value) (A : Around) (outer : List Env) (s : Shared) (H : Hp) (E : XK) (B : Bs) (ds : List PyData) (r : Rs), Room k (Xc P w K mg base N qual st f cdv A outer s H E).A → R ds r → (∀ nm, r = .er nm → ∀ Γ B', B'.H0 = B.H0 → B'.Hs0 = B.Hs0 → AX (Xe P w K mg base N qual st f cdv A outer s H E) B' Γ nm) →
      Xb (Xe P w K mg base N qual st f cdv A outer s H E) B (startG N ds) (defBody st) (RetX r)) : FnOk P w K mg base (L2.CX P w) (k + 1) f fd ps (spX K mg R) := by
  refine F.okX S (fun vs H Q E h => ?_) (fun cdv A outer s H vs Q E hr h => ?_)
  · obtain ⟨ds, r, Hs, _, _, a, hR, _⟩ := h
    rw [a.length]
    exact len ds r hR
  · obtain ⟨ds, r, Hs, hsub, htb, a, hR, q, qe⟩ := h
    refine ⟨_, pb_u, body cdv A outer s H E ⟨H, Hs, Hs⟩ ds r hr hR (fun nm e Γ B' e1 e2 => ?_) _ H Hs (L2.start N vs) (en_start hsub htb a) fun o ho => ?_⟩
    · obtain ⟨D, hD, hE⟩ := qe nm e
      refine ⟨_, D, hD, takes_of rfl rfl rfl rfl, fun σ' H' Hs' E' => hE H' Hs' ?_⟩
      have g := E'.gr
      rw [e1, e2] at g
      exact g
    · cases r with
      | ok d =>
        rcases ho with rfl | ⟨rfl, Γ, rfl⟩
        · exact fun v H' Hs' g p => q d rfl v H' Hs' g p
        · exact fun H' Hs' σ' E' => q .none rfl .non H' Hs' E'.gr .non
      | er nm => exact ho.elim
structure DnX (P : Program) (w : World) (K : PySem.W.Frag) (mg : Str → Option Value) (base : Heap) (k : Nat) (x : Str) (R : List PyData → Rs → Prop) : Prop where
  ex : ∃ (f : Addr) (fd : FuncData) (ps : List Str), mg x = some (.ref f) ∧ FnOk P w K mg base (L2.CX P w) k f fd ps (spX K mg R) ∧ PySem.W.keepIn K (.ref f) = true ∧ Binds K fd ps []
theorem ce_ofX {N : List Str} {st : Stmt} {qual : Str} {f : Addr} {cdv : Value} {A : Around} {outer : List Env} {s : Shared} {H : Hp} {E : XK} {x : Str} {R : List PyData → Rs → Prop} {k j : Nat} (D : DnX P w K mg base k x R) (hr : Room j (Xc P w K mg base N qual st f cdv A outer s H E).A) (hk : k ≤ j) (hd : (x == ("__debug__" : Str)) = false) :
    CeX (Xc P w K mg base N qual st f cdv A outer s H E) x R := by
  obtain ⟨g, fd, ps, h1, h2, h3, h4⟩ := D.ex
  exact ⟨⟨k, g, fd, ps, h1, h2, h3, h4, hr.mono hk⟩, hd⟩
theorem dn_ofX {x qual : Str} {st : Stmt} {f : Addr} {fd : FuncData} {ps : List Str} {k : Nat} {R : List PyData → Rs → Prop} (F : Fun K x qual st f fd) (hm : mg x = some (.ref f)) (hb : Binds K fd ps []) (h : FnOk P w K mg base (L2.CX P w) k f fd ps (spX K mg R)) : DnX P w K mg base k x R := ⟨f, fd, ps, hm, h, F.kp, hb⟩
theorem retx_ok {d : PyData} {o : Out} (h : RetP d o) : RetX (.ok d) o := h
end
end
end Dl
set_option Elab.async false
set_option linter.all false
set_option maxRecDepth 100000
set_option maxHeartbeats 2000000
/-! What stands in the blocks of comprehensions and generators; bits, tuples, dicts. -/
namespace Dl
open PySem L2 PyProof.Rows
variable [Tabs]
def visB (sc : Scope) (x : Str) : Bool := (sc.names.lookup x == some .local || sc.names.lookup x == some .cell || sc.names.lookup x == some .free) && !(x == ("__debug__" : Str)) && !(x == ("__classdict__" : Str))
def locB (sc : Scope) (x : Str) : Bool := sc.names.lookup x == some .local || sc.names.lookup x == some .cell
def gloB (sc : Scope) (x : Str) : Bool := sc.names.lookup x == some .globalImplicit
/-- X' is a block within X, of this scope, with so much room -/
structure Bk (X : Cx) (scope : Scope) (j : Nat) (X' : Cx) : Prop where
  prog : X'.prog = X.prog
  w : X'.w = X.w
  K : X'.K = X.K
  mg : X'.mg = X.mg
  base : X'.base = X.base
  N : X'.N = X.N
  calm : X.calm = true → X'.calm = true
  sc : ∀ x k, scope.names.lookup x = some k → ∃ k', X'.env.scope.names.lookup x = some k' ∧ (k' = k ∨ (k = .free ∧ k' = .cell))
  fn : ∀ x, scope.names.lookup x = some .cell → X'.fn x = true
  room : Room j X'.A
section
variable {X X' X2 : Cx} {scope sc2 : Scope} {i j k : Nat} {x : Str} {d : PyData}
theorem relabel_at {env : Env} {x : Str} {k : NameKind} : ∀ {names : List (Str × NameKind)}, names.lookup x = some k → ∃ k', (names.map fun (n, k) => if (k == NameKind.free && env.scope.kind == .function && env.kindOf n == some .cell) then (n, NameKind.cell) else (n, k)).lookup x = some k' ∧ (k' = k ∨ (k = .free ∧ k' = .cell))
  | [], h => by simp at h
  | (n, kn) :: r, h => by
    rw [List.map_cons]
    by_cases e : x = n
    · subst e
      rw [List.lookup_cons, beq_self_eq_true] at h
      cases h
      dsimp only
      split
      · rename_i c
        simp only [Bool.and_eq_true, beq_iff_eq] at c
        exact ⟨.cell, by rw [List.lookup_cons, beq_self_eq_true], .inr ⟨c.1.1, rfl⟩⟩
      · exact ⟨_, by rw [List.lookup_cons, beq_self_eq_true], .inl rfl⟩
    · have ne : (x == n) = false := by simpa using e
      rw [List.lookup_cons, ne] at h
      obtain ⟨k', h1, h2⟩ := relabel_at (env := env) h
      refine ⟨k', ?_, h2⟩
      dsimp only
      split
      · rw [List.lookup_cons, ne]; exact h1
      · rw [List.lookup_cons, ne]; exact h1
theorem bk_of (h : Blk X scope X') (hr : Room j X.A) : Bk X scope j X' := by
  obtain ⟨s, H, C, cl, fp, rfl⟩ := h
  exact ⟨rfl, rfl, rfl, rfl, rfl, rfl, fun h => h, fun x k e => relabel_at e, fun x e => by show (scope.names.lookup x == some .cell) = true; rw [e]; rfl, hr⟩
theorem bk_in (b : Bk X sc2 j X') (h : Blk X' scope X2) : Bk X scope j X2 := by
  obtain ⟨s, H, C, cl, fp, rfl⟩ := h
  exact ⟨b.prog, b.w, b.K, b.mg, b.base, b.N, b.calm, fun x k e => relabel_at e, fun x e => by show (scope.names.lookup x == some .cell) = true; rw [e]; rfl, b.room⟩
theorem bk_gen {N : List Str} {sc : Scope} {own : List (Str × Nat)} (h : IsGx X scope j X') (S : GScp N sc scope own) : Bk X scope j X' := by
  obtain ⟨s, H, C, code, A, fp, pn, rfl, hr⟩ := h
  exact ⟨rfl, rfl, rfl, rfl, rfl, rfl, fun _ => rfl, fun x k e => ⟨k, e, .inl rfl⟩, fun x e => absurd rfl (S.cell _ (PySem.mem_of_lookup e)), hr⟩
theorem bk_gin {N : List Str} {sc : Scope} {own : List (Str × Nat)} (b : Bk X sc2 i X') (h : IsGx X' scope j X2) (S : GScp N sc scope own) : Bk X scope j X2 := by
  obtain ⟨s, H, C, code, A, fp, pn, rfl, hr⟩ := h
  exact ⟨b.prog, b.w, b.K, b.mg, b.base, b.N, fun _ => rfl, fun x k e => ⟨k, e, .inl rfl⟩, fun x e => absurd rfl (S.cell _ (PySem.mem_of_lookup e)), hr⟩
theorem Bk.rk (b : Bk X scope j X') (hi : X.N[i]? = some x) (v : visB scope x = true) : Rk X' i x := by
  unfold visB at v
  simp only [Bool.and_eq_true, Bool.or_eq_true, Bool.not_eq_true', beq_iff_eq] at v
  obtain ⟨⟨v1, v2⟩, v3⟩ := v
  refine ⟨by rw [b.N]; exact hi, ?_, by simpa using v2, by simpa using v3⟩
  rcases v1 with (z | z) | z
  · obtain ⟨k', h1, rfl | ⟨h2, _⟩⟩ := b.sc x _ z
    · exact .inl h1
    · cases h2
  · obtain ⟨k', h1, rfl | ⟨h2, _⟩⟩ := b.sc x _ z
    · exact .inr (.inl h1)
    · cases h2
  · obtain ⟨k', h1, rfl | ⟨_, rfl⟩⟩ := b.sc x _ z
    · exact .inr (.inr h1)
    · exact .inr (.inl h1)
theorem Bk.lk (b : Bk X scope j X') (nd : X.N.Nodup) (hi : X.N[i]? = some x) (v : locB scope x = true) : Lk X' i x := by
  unfold locB at v
  simp only [Bool.or_eq_true, beq_iff_eq] at v
  refine ⟨by rw [b.N]; exact nd, by rw [b.N]; exact hi, ?_, ?_⟩
  · rcases v with z | z
    · obtain ⟨k', h1, rfl | ⟨h2, _⟩⟩ := b.sc x _ z
      · exact .inl h1
      · cases h2
    · obtain ⟨k', h1, rfl | ⟨h2, _⟩⟩ := b.sc x _ z
      · exact .inr h1
      · cases h2
  · rcases v with z | z
    · obtain ⟨k', h1, rfl | ⟨h2, _⟩⟩ := b.sc x _ z
      · exact .inr h1
      · cases h2
    · exact .inl (b.fn x z)
theorem Bk.gl (b : Bk X scope j X') (v : gloB scope x = true) : Gl X' x := by
  unfold gloB at v
  obtain ⟨k', h1, rfl | ⟨h2, _⟩⟩ := b.sc x .globalImplicit (by simpa using v)
  · exact h1
  · cases h2
theorem Bk.bi (b : Bk X scope j X') (hm : X.mg x = none) (v : gloB scope x = true) : Bi X' x := ⟨b.gl v, by rw [b.mg]; exact hm⟩
theorem Bk.ty {T : TyN} (b : Bk X scope j X') (hm : X.mg x = none) (v : gloB scope x = true) (is : bootBuiltins x = some (.type T.name)) (nn : x ≠ "__name__") (db : (x == ("__debug__" : Str)) = false) : Ty X' x T := ⟨b.bi hm v, is, nn, db⟩
theorem Bk.cn (b : Bk X scope j X') (h : CnM X.K X.mg x d) : Cn X' x d := ⟨by rw [b.mg, b.K]; exact h.ex, h.db⟩
theorem Bk.rm (b : Bk X scope j X') : Rm X' := ⟨b.room.units⟩
theorem Bk.cm (b : Bk X scope j X') (h : X.calm = true) : Tt (X'.calm = true) := ⟨b.calm h⟩
theorem Bk.ce {R : List PyData → PyData → Prop} (b : Bk X scope j X') (D : Dn X.prog X.w X.K X.mg X.base k x R) (hk : k ≤ j) (db : (x == ("__debug__" : Str)) = false) : Ce X' x R := by
  obtain ⟨f, fd, ps, h1, h2, h3, h4⟩ := D.ex
  exact ⟨by rw [b.mg, b.prog, b.w, b.K, b.base]; exact ⟨k, f, fd, ps, h1, h2, h3, h4, b.room.mono hk⟩, db⟩
theorem Bk.ceO {R : List PyData → PyData → Prop} (b : Bk X scope j X') (D : DnO X.prog X.w X.K X.mg X.base k x R) (hk : k ≤ j) (db : (x == ("__debug__" : Str)) = false) : CeO X' x R := by
  obtain ⟨f, fd, ps, h1, h2, h3, h4⟩ := D.ex
  exact ⟨by rw [b.mg, b.prog, b.w, b.K, b.base]; exact ⟨k, f, fd, ps, h1, h2, h3, h4, b.room.mono hk⟩, db⟩
end
section
variable {X : Cx} {B : Bs} {Γ : Gm} {e a b c o : Expr} {es : List Expr} {d d1 d2 d3 : PyData} {ds : List PyData} {P : Out → Prop} {pos p' ap : Pos} {x : Str} {i : Nat} {p q r : Bool} {m n : Int} {y z : Str}
/-! ### bits -/
theorem xe_shl1 (ha : Xp X B Γ a (.int 1)) (hb : Xp X B Γ b (.int n)) (hc : Side (0 ≤ n ∧ n ≤ 1000000)) : Xp X B Γ (.BinOp a .LShift b pos) (.int (2 ^ n.toNat)) := xp_bin op_oneShl (fun H Hs u v s hx hy Q q => by
  cases hx; cases hy
  have := hc.h
  exact ⟨n.toNat, rfl, by rw [Int.toNat_of_nonneg (by omega)], by omega, q _ H Hs (Gr.refl s) (.int _)⟩) ha hb
theorem xe_shr (ha : Xp X B Γ a (.int m)) (hb : Xp X B Γ b (.int n)) (hc : Side (0 ≤ n)) : Xp X B Γ (.BinOp a .RShift b pos) (.int (m / 2 ^ n.toNat)) := xp_bin op_shr (opd_I hc.h fun _ => .int _) ha hb
theorem xe_band (ha : Xp X B Γ a (.int m)) (hb : Xp X B Γ b (.int n)) : Xp X B Γ (.BinOp a .BitAnd b pos) (.int (Builtin.bitAnd m n)) := xp_bin op_and (opd_I0 fun _ => .int _) ha hb
theorem xe_bor (ha : Xp X B Γ a (.int m)) (hb : Xp X B Γ b (.int n)) : Xp X B Γ (.BinOp a .BitOr b pos) (.int (Builtin.bitOr m n)) := xp_bin op_or (opd_I0 fun _ => .int _) ha hb
theorem xe_bxor (ha : Xp X B Γ a (.int m)) (hb : Xp X B Γ b (.int n)) : Xp X B Γ (.BinOp a .BitXor b pos) (.int (Builtin.bitXor m n)) := xp_bin op_xor (opd_I0 fun _ => .int _) ha hb
theorem xe_binv (ha : Xp X B Γ a (.int m)) : Xp X B Γ (.UnaryOp .Invert a pos) (.int (Builtin.bitNot m)) := xp_of (pe_un un_inv pe_u) (de_un ha fun H Hs u s hx Q q => by
  cases hx
  exact ⟨m, rfl, q _ H Hs (Gr.refl s) (.int _)⟩)
theorem xe_bits (hb : Tt (Mb X o "bit_length")) (hl : Tt ((ap.endLine == pos.line) = true)) (ho : Xp X B Γ o (.int m)) : Xp X B Γ (.Call (.Attribute o "bit_length" ap) [] [] pos) (.int (Builtin.Int.intBits m : Nat)) :=
  xp_of (pe_bits pe_u hb.h hl.h) fun H Hs σ E Q q => ho H Hs σ E _ fun v H1 Hs1 g1 p1 => by
    cases p1
    exact ⟨m, rfl, q _ H1 Hs1 g1 (.int _)⟩
/-! ### lists, tuples -/
theorem boot_tuple : bootBuiltins ("tuple" : Str) = some (.type "tuple") := by decide +kernel
theorem boot_list : bootBuiltins ("list" : Str) = some (.type "list") := by decide +kernel
inductive SeqD : PyData → List PyData → Prop where
  | lst {ds : List PyData} : SeqD (.list ds) ds
  | tup {ds : List PyData} : SeqD (.tuple ds) ds
theorem xe_tuple (hb : Bi X "tuple") (he : Tt (St1 X e [])) (hp : Tt (Pl1 X pos [])) (h : Xp X B Γ e d) (k : SeqD d ds) : Xp X B Γ (.Call (.Name "tuple" p') [e] [] pos) (.tuple ds) :=
  xp_ct call_tuple_of hb boot_tuple (by decide) (by decide +kernel) he.h hp.h (xa_cons he.h h xa_nil) (cb1 fun H Hs u s hx Q q => by
    cases k with
    | lst =>
      cases hx with
      | lst hq ha => exact ⟨_, _, rfl, .inl ⟨sub_l s hq, fun p n => q _ _ _ ((Gr.refl s).share n) (.tup (SqT.of upd_same) (ha.mono (Ext.new ((Gr.refl s).hsn n))))⟩⟩
    | tup =>
      cases hx with
      | tup hq ha => exact ⟨_, _, rfl, .inr ⟨sub_t s hq, q _ H Hs (Gr.refl s) (.tup hq ha)⟩⟩)
theorem xl_list (hb : Bi X "list") (he : Tt (St1 X e [])) (hp : Tt (Pl1 X pos [])) (h : Xp X B Γ e d) (k : SeqD d ds) : Xl X B Γ (.Call (.Name "list" p') [e] [] pos) ds :=
  xl_ct call_list_of hb boot_list (by decide) (by decide +kernel) he.h hp.h (xa_cons he.h h xa_nil) fun H Hs xs s a Q q => by
    cases a with
    | cons hx a2 =>
      cases a2
      cases k with
      | lst =>
        cases hx with
        | lst hq ha => exact ⟨_, _, rfl, .inl (sub_l s hq), fun p n => q p _ n ha⟩
      | tup =>
        cases hx with
        | tup hq ha => exact ⟨_, _, rfl, .inr (sub_t s hq), fun p n => q p _ n ha⟩
theorem cut_all {lo hi : Option Int} {xs : List PyData} (h : HT.sIx xs.length 0 lo = 0 ∧ HT.sIx xs.length xs.length hi = xs.length) : cutD xs lo hi = xs := by
  unfold cutD
  rw [h.1, h.2, List.drop_zero, Nat.sub_zero, List.take_length]
theorem xe_slT {lo hi : Option Expr} {l h : Option Int} {p2 : Pos} (he : Xp X B Γ e (.tuple ds)) (hl : Xo X B Γ lo l) (hh : Xo X B Γ hi h) : Xp X B Γ (.Subscript e (.Slice lo hi none p2) pos) (.tuple (cutD ds l h)) :=
  xp_of (pe_slice sl_tupA pe_u po_u po_u) fun H Hs σ E Q q => he H Hs σ E _ fun v H1 Hs1 g1 p1 => hl H1 Hs1 σ (E.grow g1) _ fun H2 Hs2 g2 => hh H2 Hs2 σ ((E.grow g1).grow g2) _ fun H3 Hs3 g3 => by
    have gg := (g1.trans g2).trans g3
    cases (p1.mono g2.exs).mono g3.exs with
    | tup hq ha =>
      refine ⟨_, _, rfl, sub_t gg.sub hq, fun z => ?_, fun z p n => ?_⟩
      · rw [ha.length] at z
        rw [cut_all z] at q
        exact q _ H3 Hs3 gg (.tup hq ha)
      · refine q _ _ _ (gg.share n) (.tup (SqT.of upd_same) (DqAll.mono (Ext.new (gg.hsn n)) ?_))
        unfold cutV cutD
        rw [ha.length]
        exact (ha.drop _).take _
/-! ### dicts of pairs, looked at -/
/-- a key's data -/
def keyOf : PyData → Option Key
  | .int i => some (.inl i)
  | .str x => some (.inr x)
  | _ => none
def putD (es : List (PyData × PyData)) (k v : PyData) : List (PyData × PyData) := if (es.any fun e => decide (keyOf e.1 = keyOf k)) = true then es.map (fun e => if keyOf e.1 = keyOf k then (e.1, v) else e) else es ++ [(k, v)]
theorem keyOf_keyD (k : Key) : keyOf (keyD k) = some k := by cases k <;> rfl
theorem DqKV.any {K : PySem.W.Frag} {H : Hp} {k : Key} : ∀ {kvs : List (Key × V)} {es : List (PyData × PyData)}, DqKV K H kvs es → (kvs.any fun kv => decide (kv.1 = k)) = es.any fun e => decide (keyOf e.1 = some k)
  | _, _, .nil => rfl
  | _, _, .cons (k := k0) h a => by
    rw [List.any_cons, List.any_cons, DqKV.any a]
    show (decide (k0 = k) || _) = (decide (keyOf (keyD k0) = some k) || _)
    rw [keyOf_keyD]
    congr 1
    by_cases z : k0 = k <;> simp [z]
theorem DqKV.app {K : PySem.W.Frag} {H : Hp} {k : Key} {v : V} {d : PyData} (h : Dq K H v d) : ∀ {kvs : List (Key × V)} {es : List (PyData × PyData)}, DqKV K H kvs es → DqKV K H (kvs ++ [(k, v)]) (es ++ [(keyD k, d)])
  | _, _, .nil => .cons h .nil
  | _, _, .cons h0 a => .cons h0 (DqKV.app h a)
theorem DqKV.swap {K : PySem.W.Frag} {H : Hp} {k : Key} {v : V} {d : PyData} (h : Dq K H v d) : ∀ {kvs : List (Key × V)} {es : List (PyData × PyData)}, DqKV K H kvs es → DqKV K H (kvs.map fun kv => if kv.1 = k then (kv.1, v) else kv) (es.map fun e => if keyOf e.1 = some k then (e.1, d) else e)
  | _, _, .nil => .nil
  | _, _, .cons (k := k0) h0 a => by
    rw [List.map_cons, List.map_cons]
    show DqKV K H ((if k0 = k then (k0, v) else _) :: _) ((if keyOf (keyD k0) = some k then (keyD k0, d) else _) :: _)
    rw [keyOf_keyD]
    by_cases z : k0 = k
    · rw [if_pos z, if_pos (by rw [z])]
      exact .cons h (DqKV.swap h a)
    · rw [if_neg z, if_neg (fun w => z (Option.some.inj w))]
      exact .cons h0 (DqKV.swap h a)
theorem DqKV.put {K : PySem.W.Frag} {H : Hp} {kvs : List (Key × V)} {es : List (PyData × PyData)} {k : Key} {v : V} {d : PyData} (a : DqKV K H kvs es) (h : Dq K H v d) : DqKV K H (putK kvs k v) (putD es (keyD k) d) := by
  unfold putK putD
  rw [a.any (k := k), keyOf_keyD]
  split
  · exact a.swap h
  · exact a.app h
def mergeD (es more : List (PyData × PyData)) : List (PyData × PyData) := more.foldl (fun acc e => putD acc e.1 e.2) es
theorem DqKV.merge {K : PySem.W.Frag} {H : Hp} : ∀ {more : List (Key × V)} {ms : List (PyData × PyData)} {kvs : List (Key × V)} {es : List (PyData × PyData)}, DqKV K H more ms → DqKV K H kvs es → DqKV K H (mergeK kvs more) (mergeD es ms)
  | _, _, _, _, .nil, b => b
  | _, _, kvs, es, @DqKV.cons _ _ _ k v vs d ds h a, b => show DqKV K H (mergeK (putK kvs k v) vs) (mergeD (putD es (keyD k) d) ds) from DqKV.merge a (b.put h)
/-- a list of pairs of a key and a thing -/
inductive PairsD : List PyData → List (PyData × PyData) → Prop where
  | nil : PairsD [] []
  | cons {k v : PyData} {ds : List PyData} {es : List (PyData × PyData)} (hk : (keyOf k).isSome = true) : PairsD ds es → PairsD (.tuple [k, v] :: ds) ((k, v) :: es)
theorem pairs_at {K : PySem.W.Frag} {H : Hp} : ∀ {vs : List V} {ds : List PyData} {es : List (PyData × PyData)}, DqAll K H vs ds → PairsD ds es → ∃ (ps : List Addr) (kvs : List (Key × V)), vs = ps.map V.ref ∧ Paired (fun p kv => SqT K H p [kV kv.1, kv.2]) ps kvs ∧ DqKV K H kvs es
  | _, _, _, .nil, .nil => ⟨[], [], rfl, .nil, .nil⟩
  | _, _, _, .cons h a, .cons hk b => by
    obtain ⟨ps, kvs, e, pp, q⟩ := pairs_at a b
    cases h with
    | @tup ad xs _ hq ha =>
      cases ha with
      | cons h1 ha =>
        cases ha with
        | cons h2 ha =>
          cases ha
          cases h1 with
          | int i => exact ⟨ad :: ps, (.inl i, _) :: kvs, by rw [e]; rfl, .cons hq pp, .cons (k := .inl i) h2 q⟩
          | str s => exact ⟨ad :: ps, (.inr s, _) :: kvs, by rw [e]; rfl, .cons hq pp, .cons (k := .inr s) h2 q⟩
          | non => cases hk
          | bl _ => cases hk
          | lst _ _ => cases hk
          | tup _ _ => cases hk
          | dic _ _ => cases hk
          | exc _ _ => cases hk
          | exf _ _ _ _ => cases hk
          | obj _ _ _ _ => cases hk
theorem boot_dict : bootBuiltins ("dict" : Str) = some (.type "dict") := by decide +kernel
theorem paired_sub {K : PySem.W.Frag} {H Hs : Hp} (s : ∀ a o, Hs a = some o → H a = some o) {ps : List Addr} {kvs : List (Key × V)} (h : Paired (fun p kv => SqT K Hs p [kV kv.1, kv.2]) ps kvs) : Paired (fun p kv => SqT K H p [kV kv.1, kv.2]) ps kvs := Paired.mapP h fun _ _ => sub_t s
theorem xe_dictP {es' : List (PyData × PyData)} (hc : X.calm = true) (hb : Bi X "dict") (he : Tt (St1 X e [])) (hp : Tt (Pl1 X pos [])) (h : Xp X B Γ e (.list ds)) (k : Side (PairsD ds es')) : Xp X B Γ (.Call (.Name "dict" p') [e] [] pos) (.dict (mergeD [] es')) :=
  xp_ct (call_dictP hc) hb boot_dict (by decide) (by decide +kernel) he.h hp.h (xa_cons he.h h xa_nil) (cb1 fun H Hs u s hx Q q => by
    cases hx with
    | lst hq ha =>
      obtain ⟨ps, kvs, rfl, pp, qk⟩ := pairs_at ha k.h
      exact ⟨_, ps, kvs, rfl, sub_l s hq, paired_sub s pp, fun p n => q _ _ _ ((Gr.refl s).share n) (.dic (.inl upd_same) (DqKV.mono (Ext.new ((Gr.refl s).hsn n)) (DqKV.merge qk .nil)))⟩)
/-- k in a dict -/
def inKeys (k : PyData) (es : List (PyData × PyData)) : Bool := es.any fun e => decide (keyOf e.1 = keyOf k)
theorem xe_inDict {es' : List (PyData × PyData)} (hu : Rm X) (hm : Tt (behindInMarks .In b = false)) (ha : Xp X B Γ a d) (hb : Xp X B Γ b (.dict es')) (hk : Tt ((keyOf d).isSome = true)) (pl : plainD (.dict es') = true) : Xp X B Γ (.Compare a [.In] [b] pos) (.bool (inKeys d es')) := by
  have hk' := hk.h
  refine xp_of (pe_cmp (pc_din (by have := hu.h; omega) pe_u pe_u) hm.h) fun H Hs σ E Q q => ha H Hs σ E _ fun v H1 Hs1 g1 p1 => hb H1 Hs1 σ (E.grow g1) _ fun u H2 Hs2 g2 p2 => ?_
  cases p2 with
  | dic hr hd =>
    have fin : ∀ kk : Key, v = kV kk → keyOf d = some kk → ∃ a' o', V.ref _ = V.ref a' ∧ DGet H2 a' v o' ∧ Q (.bl o'.isSome) H2 := fun kk e1 e2 => by
      refine ⟨_, _, rfl, .inl ⟨_, kk, sub_rd g2.sub hr, e1, rfl⟩, ?_⟩
      rw [← valV_any, hd.any (k := kk)]
      have := q (.bl (inKeys d es')) H2 Hs2 (g1.trans g2) (.bl _)
      unfold inKeys at this
      rw [e2] at this
      exact this
    cases p1 with
    | int i => exact fin (.inl i) rfl rfl
    | str s => exact fin (.inr s) rfl rfl
    | non => cases hk'
    | bl _ => cases hk'
    | lst _ _ => cases hk'
    | tup _ _ => cases hk'
    | dic _ _ => cases hk'
    | exc _ _ => cases hk'
    | exf _ _ _ _ => cases hk'
    | obj _ _ _ _ => cases hk'
  | exc _ _ => cases pl
  | exf _ _ _ _ => cases pl
  | obj _ _ _ _ => cases pl
end
end Dl
set_option Elab.async false
set_option linter.all false
set_option maxRecDepth 100000
set_option maxHeartbeats 2000000
/-! sorted: any length; by an own def. -/
namespace Dl
open PySem L2 PyProof.Rows
open PySem.W (EachIs AllAlike Sortable dataLe)
section
variable {K : PySem.W.Frag} {H : Hp} {β : Type} {D : V → β → Prop} {enc : β → PyData}
theorem each_vals : ∀ {vs : List V} {bs : List β} {us : List Value}, EachIs D vs bs → Vals vs us → EachIs (fun u b => ∃ x, RelV x u ∧ D x b) us bs
  | _, _, _, .nil, .nil => .nil
  | _, _, _, .cons h t, .cons r rs => .cons ⟨_, r, h⟩ (each_vals t rs)
theorem vals_each : ∀ {bs : List β} {us : List Value}, EachIs (fun u b => ∃ x, RelV x u ∧ D x b) us bs → ∃ vs, Vals vs us ∧ EachIs D vs bs
  | _, _, .nil => ⟨[], .nil, .nil⟩
  | _, _, .cons ⟨x, r, h⟩ t => by
    obtain ⟨vs, a, b⟩ := vals_each t
    exact ⟨x :: vs, .cons r a, .cons h b⟩
theorem EachIs.len {α γ : Type} {R : α → γ → Prop} : ∀ {as : List α} {bs : List γ}, EachIs R as bs → as.length = bs.length
  | _, _, .nil => rfl
  | _, _, .cons _ t => by rw [List.length_cons, List.length_cons, EachIs.len t]
theorem each_imp {α γ : Type} {R S : α → γ → Prop} (h : ∀ a b, R a b → S a b) : ∀ {as : List α} {bs : List γ}, EachIs R as bs → EachIs S as bs
  | _, _, .nil => .nil
  | _, _, .cons r t => .cons (h _ _ r) (each_imp h t)
theorem each_data [Tabs] (enc : β → PyData) : ∀ {vs : List V} {bs : List β}, DqAll K H vs (bs.map enc) → EachIs (fun v b => Dq K H v (enc b)) vs bs
  | _, [], .nil => .nil
  | _, _ :: _, .cons h t => .cons h (each_data enc t)
theorem data_each [Tabs] (enc : β → PyData) : ∀ {vs : List V} {bs : List β}, EachIs (fun v b => Dq K H v (enc b)) vs bs → DqAll K H vs (bs.map enc)
  | _, _, .nil => .nil
  | _, _, .cons h t => .cons h (data_each enc t)
theorem each_with {α γ : Type} {R : α → γ → Prop} {p : γ → Prop} : ∀ {as : List α} {bs : List γ}, EachIs R as bs → (∀ b ∈ bs, p b) → EachIs (fun a b => R a b ∧ p b) as bs
  | _, _, .nil, _ => .nil
  | _, _, .cons h t, k => .cons ⟨h, k _ List.mem_cons_self⟩ (each_with t fun b hb => k b (List.mem_cons_of_mem _ hb))
end
theorem call_sortedE {X : Cx} {β : Type} (enc : β → PyData) (hu : X.A.units + 64 < cLine) : CallR X (.builtin "sorted") (fun xs H Q => ∃ (a : Addr) (vs : List V) (bs : List β) (D : V → β → Prop), xs = [.ref a] ∧ SqL X.K H a vs ∧ EachIs (fun v b => Dp X.K H v (enc b) ∧ D v b) vs bs ∧ AllAlike (bs.map enc) ∧ Sortable (bs.map enc) ∧ (∀ b ∈ bs, (enc b).depth ≤ 60) ∧
    ∀ p ys, EachIs D ys (bs.mergeSort (dataLe false enc)) → H p = none → Q (.ref p) (upd H p (.lst ys))) := by
  intro pins s σ H xs us Q I r h
  obtain ⟨a, vs, bs, D, rfl, hq, e, hal, hk, hd, q⟩ := h
  obtain ⟨its, rv, hl, hz⟩ := I.list hq
  obtain ⟨u, rfl, ru⟩ := vals1 r
  cases (show u = Value.ref a from ru)
  have e1 := each_vals e rv
  have hlen : bs.length ≤ sizeLine := by rw [← EachIs.len e]; exact hz
  refine PySem.W.sorted_data (vs := its) (bs := bs) (enc := enc) (R := fun u b => ∃ x, RelV x u ∧ D x b) hl.isList (each_imp (fun u b ⟨x, h1, _, h2⟩ => ⟨x, h1, h2⟩) e1) (each_imp (fun u b ⟨x, h1, h2, _⟩ => Dp.reads I _ x u h2 h1) e1) hal hk hlen (fun b hb => by have := hd b hb; omega) fun out ho eo => ?_
  obtain ⟨ys, ry, ey⟩ := vals_each eo
  obtain ⟨n, hn⟩ := sortedAll_at s.heap its out.toArray
  refine ⟨.ref (s.heap.objs.size + 1), upd H (s.heap.objs.size + 1) (.lst ys), I.laid (t' := s.toks) (fun b o => sortedAll_old) (Nat.le_succ _) ⟨?_, out, n, ry, hn⟩, rfl, q _ ys ey (I.hok.fresh (Nat.le_succ _))⟩
  rw [ry.length, ho]
  exact hlen
/-! ### sorted(xs, key=f), f an own def that gives ints -/
section
variable {X : Cx} {pins : List (Addr × Obj)} {σ : L2.St} {β : Type}
open PySem.W (KeepsBut dataKind keyH_end SortsAt KeyedOut keyedOut_each sortVals)
/-- while the keys are made: the store of keys at kS, the emptied list at a -/
def KeyAt (X : Cx) (pins : List (Addr × Obj)) (σ : L2.St) (J : Hp → Prop) (kS a : Addr) (e1 : Nat) (kz : List Int) (old : Heap) (i : Nat) (s' : Shared) : Prop :=
  ∃ (H' : Hp) (kA : Array Value) (e : Nat), Inv X pins σ H' s' ∧ J H' ∧ H' kS = none ∧ H' a = none ∧ s'.heap.get? kS = some (seqObj "list" kA e) ∧ s'.heap.get? a = some (seqObj "list" #[] e1) ∧ EachIs (fun v k => ∃ t, v = Value.int k t) kA.toList (kz.take i)
theorem ints_alike {kz : List Int} : AllAlike (kz.map PyData.int) := PySem.W.AllAlike.of fun x y => by simp [PySem.W.alike]
theorem ints_sortable {kz : List Int} : Sortable (kz.map PyData.int) := PySem.W.Sortable.others (fun b => And.intro (fun z => by cases z) (fun xs z => by cases z))
theorem key_call {k : Nat} {f : Addr} {fd : FuncData} {ps : List Str} {sp : Sp} {J : Hp → Prop} {kS a : Addr} {e1 : Nat} {s' : Shared} {x : V} {u : Value} {c : Int} {A2 : Around} {kA : Array Value} {e : Nat} {H' : Hp}
    (F : FnOk X.prog X.w X.K X.mg X.base CX0 k f fd ps sp) (hr : Room k A2) (en : ∀ {pn : List (Addr × Obj)} {H : Hp} {s : Shared}, Inv X pn σ H s → Env0 X.prog X.w X.K X.mg X.base A2 X.stack s H) (hb : Binds X.K fd ps [])
    (I : Inv X pins σ H' s') (j : J H') (f1 : FpOk X pins H' kS) (f2 : FpOk X pins H' a) (g1 : s'.heap.get? kS = some (seqObj "list" kA e)) (g2 : s'.heap.get? a = some (seqObj "list" #[] e1)) (r : RelV x u)
    (turn : sp [x] H' (fun v H2 => v = .int c ∧ J H2) E0) :
    wpAny (model X.prog X.w) A2 (call (.ref f) [u]) (fun w s2 => ∃ (t : Tok) (H2 : Hp), w = .int c t ∧ Inv X pins σ H2 s2 ∧ J H2 ∧ H2 kS = none ∧ H2 a = none ∧ s2.heap.get? kS = some (seqObj "list" kA e) ∧ s2.heap.get? a = some (seqObj "list" #[] e1)) (fun _ _ => False) s' := by
  have I2 : Inv X (pins ++ [(kS, seqObj "list" kA e), (a, seqObj "list" #[] e1)]) σ H' s' := I.pins_of fun p hp => by
    rcases List.mem_append.mp hp with z | z
    · exact I.pin p (List.mem_append_right _ z)
    · rcases List.mem_cons.mp z with rfl | z
      · exact ⟨g1, f1.1, f1.2.1, f1.2.2.1, fun v w => nomatch w⟩
      · rw [List.mem_singleton.mp z]
        exact ⟨g2, f2.1, f2.2.1, f2.2.2.1, fun v w => nomatch w⟩
  have hl : ([u] : List Value).length = ps.length := F.len [x] H' _ _ turn
  have b := hb s' [u] I2.kIn (by rw [List.append_nil]; exact hl)
  rw [List.append_nil] at b
  refine wpAny_call (codeAny_mono (F.run A2 X.stack s' H' ⟨[u], []⟩ [u] [x] _ E0 hr (en I2) b (.cons r .nil) turn) fun w s2 hw => ?_)
  cases w with
  | error w => exact (show False from hw).elim
  | ok fl =>
    cases fl with
    | ret w =>
      obtain ⟨v, H2, I3, rw2, ev, j2⟩ := I2.after hw
      subst ev
      obtain ⟨t, rfl⟩ := rw2
      have p1 := I3.pin (kS, seqObj "list" kA e) (List.mem_append_right _ (List.mem_append_right _ List.mem_cons_self))
      have p2 := I3.pin (a, seqObj "list" #[] e1) (List.mem_append_right _ (List.mem_append_right _ (List.mem_cons_of_mem _ List.mem_cons_self)))
      exact ⟨t, H2, rfl, I3.unpinned, j2, p1.2.1, p2.2.1, p1.1, p2.1⟩
    | next => exact (show False from hw).elim
    | brk => exact (show False from hw).elim
    | cont => exact (show False from hw).elim
theorem each_snoc' {c : Int} {t : Tok} : ∀ {as : List Value} {bs : List Int}, EachIs (fun v k => ∃ t, v = Value.int k t) as bs → EachIs (fun v k => ∃ t, v = Value.int k t) (as ++ [Value.int c t]) (bs ++ [c])
  | _, _, .nil => .cons ⟨t, rfl⟩ .nil
  | _, _, .cons h r => .cons h (each_snoc' r)
theorem each_get {α γ : Type} {R : α → γ → Prop} : ∀ {as : List α} {bs : List γ} {i : Nat} {a : α}, EachIs R as bs → as[i]? = some a → ∃ b, bs[i]? = some b ∧ R a b
  | _, _, _, _, .nil, e => by simp at e
  | _, _, 0, _, .cons h _, e => by
    cases e
    exact ⟨_, rfl, h⟩
  | _, _, i + 1, _, .cons _ r, e => each_get (i := i) r e
/-- the whole: the keys, then the sort -/
theorem key_sort {k : Nat} {f : Addr} {fd : FuncData} {ps : List Str} {sp : Sp} {J : Hp → Prop} {kS a : Addr} {e1 : Nat} {s1 : Shared} {H1 : Hp} {its : List Value} {xs : List V} {bs : List β} {D : V → β → Prop} {kf : β → Int} {A2 : Around} {Q : VK} {E : Value → Shared → Prop}
    (F : FnOk X.prog X.w X.K X.mg X.base CX0 k f fd ps sp) (hr : Room k A2) (en : ∀ {pn : List (Addr × Obj)} {H : Hp} {s : Shared}, Inv X pn σ H s → Env0 X.prog X.w X.K X.mg X.base A2 X.stack s H) (hb : Binds X.K fd ps []) (hu : A2.units < cLine)
    (I : Inv X pins σ H1 s1) (j : J H1) (f1 : FpOk X pins H1 kS) (f2 : FpOk X pins H1 a) (hka : kS ≠ a) (g1 : s1.heap.get? kS = some (seqObj "list" #[] 0)) (g2 : s1.heap.get? a = some (seqObj "list" #[] e1)) (rv : Vals xs its) (ed : EachIs D xs bs) (hZ : its.length ≤ sizeLine)
    (turn : ∀ H' x b, J H' → D x b → b ∈ bs → sp [x] H' (fun v H2 => v = .int (kf b) ∧ J H2) E0)
    (q : ∀ H' ys, J H' → H' a = none → EachIs D ys (bs.mergeSort (dataLe false fun b => .int (kf b))) → Q (.ref a) (upd H' a (.lst ys))) :
    wpAny (model X.prog X.w) A2 (ksk_rest a (.ref f) false its.toArray e1 (.ref kS)) (fun r s' => r = .done (.ret .none) ∧ EP X pins σ Q (.ref a) s') E s1 := by
  have st1 : ∀ H', H' kS = none → FpOk X pins H' kS := fun H' n => ⟨n, f1.2⟩
  have st2 : ∀ H', H' a = none → FpOk X pins H' a := fun H' n => ⟨n, f2.2⟩
  have lb : xs.length = bs.length := EachIs.len ed
  have li : xs.length = its.length := rv.length
  unfold ksk_rest
  refine wpAny_bind (wpAny_rule ?_)
  first
    | rw [List.forIn_toArray]
    | (rw [← Array.forIn_toList]; simp only [List.toList_toArray])
    | rw [← Array.forIn_toList]
  refine wpAny_bind (ksk_fold (KeyAt X pins σ J kS a e1 (bs.map kf) s1.heap) its 0 s1 ⟨H1, #[], 0, I, j, f1.1, f2.1, g1, g2, by rw [List.take_zero]; exact .nil⟩ ?one ?fin)
  case one =>
    rintro i u s' hu' ⟨H', kA, e, I', j', n1, n2, c1, c2, ks⟩
    simp only [Nat.zero_add] at ks ⊢
    have hi : i < its.length := (List.getElem?_eq_some_iff.mp hu').1
    have hx : xs[i]? = some (xs[i]'(by omega)) := List.getElem?_eq_getElem (by omega)
    have rx : RelV (xs[i]'(by omega)) u := by
      obtain ⟨x', hx', r'⟩ := vals_at rv hu'
      rw [hx] at hx'
      cases hx'
      exact r'
    obtain ⟨b, hb', db⟩ := each_get ed hx
    have hc : (bs.map kf)[i]? = some (kf b) := by rw [List.getElem?_map, hb']; rfl
    have lk : kA.size ≤ its.length := by
      have z := EachIs.len ks
      rw [Array.length_toList, List.length_take] at z
      omega
    refine wpAny_bind (wpAny_attempt (wpAny_mono (key_call F hr en hb I' j' (st1 H' n1) (st2 H' n2) c1 c2 rx (turn H' _ b j' db (List.mem_of_getElem? hb'))) (fun w s2 hw => ?_) fun _ _ z => z.elim))
    obtain ⟨t, H2, rfl, I2, j2, m1, m2, d1, d2⟩ := hw
    try dsimp only
    have same := Heap.SameBut.update s2.heap kS (Obj.mapSeq (·.push (Value.int (kf b) t)))
    obtain ⟨c3, hc3⟩ : ∃ c3, (s2.heap.update kS (Obj.mapSeq (·.push (Value.int (kf b) t)))).get? kS = some (seqObj "list" (kA.push (Value.int (kf b) t)) c3) := ⟨_, get?_update_seq d1 (·.push (Value.int (kf b) t))⟩
    refine wpAny_bind (listUpdate_at d1 rfl ?_ (Nat.le_trans lk hZ) (by rw [Array.size_push]; exact Nat.succ_le_succ (Nat.le_trans lk hZ)))
    have I3 := I2.turned (t' := s2.toks) (fun b' o hb2 e' => (same.2 b' hb2).trans e') m1 f1.2.1 f1.2.2.2.1 f1.2.2.2.2.1 f1.2.2.2.2.2
    refine wpAny_pure ⟨rfl, H2, kA.push (Value.int (kf b) t), c3, I3, j2, m1, m2, hc3, (same.2 a hka.symm).trans d2, ?_⟩
    rw [Array.toList_push, List.take_add_one, hc]
    exact each_snoc' ks
  case fin =>
    rintro s' ⟨H', kA, e, I', j', n1, n2, c1, c2, ks⟩
    have ek : (bs.map kf).take (0 + its.length) = bs.map kf := List.take_of_length_le (by rw [List.length_map]; omega)
    rw [ek] at ks
    have rk : EachIs (fun v d => ∃ as, Reads s'.heap v d as) kA.toList ((bs.map kf).map PyData.int) := by
      have go : ∀ {as : List Value} {ns : List Int}, EachIs (fun v k => ∃ t, v = Value.int k t) as ns → EachIs (fun v d => ∃ as, Reads s'.heap v d as) as (ns.map PyData.int) := fun {as ns} z => by
        induction z with
        | nil => exact .nil
        | cons z1 _ ih =>
          obtain ⟨t, rfl⟩ := z1
          exact .cons ⟨[], .int _ _⟩ ih
      exact go ks
    have sz : kA.size = its.length := by
      have z := EachIs.len ks
      rw [Array.length_toList, List.length_map] at z
      omega
    obtain ⟨G, gy, gn⟩ := restrict s'.heap fun b => decide (b ≠ kS)
    have gk : KeepsBut a G s'.heap := fun b o hb2 e2 => by
      by_cases hbk : b = kS
      · rw [hbk, gn kS (decide_eq_false fun z => z rfl)] at e2
        cases e2
      · rw [← gy b (decide_eq_true hbk)]
        exact e2
    refine wpAny_bind (listItems_at c1 rfl ?_)
    refine keyH_end (κ := dataKind s'.heap ((bs.map kf).map PyData.int)) (h₁ := G) gk (gn kS (decide_eq_false fun z => z rfl)) c1 c2 hka (SortsAt.data (s := s') rk ints_alike ints_sortable (fun d hd => ?_)) sz hZ fun h3 tk c3 kp at3 => ⟨rfl, ?_⟩
    · obtain ⟨m, _, rfl⟩ := List.mem_map.mp hd
      simpa [PyData.depth] using hu
    have ko : KeyedOut false (bs.map fun b => PyData.int (kf b)) its (sortVals (dataKind s'.heap ((bs.map kf).map PyData.int)) false kA.toList its) := by
      have em : (bs.map kf).map PyData.int = bs.map fun b => PyData.int (kf b) := by rw [List.map_map]; rfl
      rw [em] at rk ⊢
      exact ⟨s'.heap, kA.toList, PySem.W.AllAlike.of fun x y => by simp [PySem.W.alike], rfl, rk⟩
    obtain ⟨ys, ry, ey⟩ := vals_each (keyedOut_each (fun b => PyData.int (kf b)) ko (each_vals ed rv))
    have len3 : (sortVals (dataKind s'.heap ((bs.map kf).map PyData.int)) false kA.toList its).length = its.length := ko.length (by rw [List.length_map]; omega)
    have stay : ∀ b o, b ≠ kS → b ≠ a → s'.heap.get? b = some o → h3.get? b = some o := fun b o z1 z2 e2 => kp b o z2 (by rw [gy b (decide_eq_true z1)]; exact e2)
    have old : ∀ b u, H' b = some u → b ≠ kS ∧ b ≠ a := fun b u e2 => ⟨fun z => (by rw [z, n1] at e2; cases e2), fun z => (by rw [z, n2] at e2; cases e2)⟩
    refine ⟨.ref a, upd H' a (.lst ys), I'.step (g' := s'.gens) (d' := s'.drawn) (t' := tk) (ch := [kS, a]) (fun b hb2 => ?_) (fun b o _ _ hc2 e2 _ => ?_) (fun b o _ _ hc2 e2 _ => ?_) (fun b o hc2 _ e2 => ?_) (fun b o hc2 e2 => ?_) (fun b zs e2 => ?_) (fun b o u e2 => ?_) (fun b zs e2 => ?_) (fun m hm => ?_) (fun b u e2 => ?_) I'.bare, rfl, q H' ys j' n2 ey⟩
    · rcases List.mem_cons.mp hb2 with rfl | z
      · exact ⟨f1.2.2.2.1, f1.2.1, f1.2.2.2.2.1, f1.2.2.2.2.2⟩
      · rw [List.mem_singleton.mp z]
        exact ⟨f2.2.2.2.1, f2.2.1, f2.2.2.2.2.1, f2.2.2.2.2.2⟩
    · simp only [List.mem_cons, List.not_mem_nil, or_false, not_or] at hc2
      exact stay b o hc2.1 hc2.2 e2
    · simp only [List.mem_cons, List.not_mem_nil, or_false, not_or] at hc2
      exact ⟨o.slots, stay b o hc2.1 hc2.2 e2⟩
    · simp only [List.mem_cons, List.not_mem_nil, or_false, not_or] at hc2
      rw [upd_ne hc2.2]
      exact e2
    · simp only [List.mem_cons, List.not_mem_nil, or_false, not_or] at hc2
      exact ⟨o, stay b o hc2.1 hc2.2 e2⟩
    · rw [upd_ne (old b _ e2).2]
      exact e2
    · rw [upd_ne (old b _ e2).2]
      exact e2
    · exact ⟨#[], by rw [upd_ne (old b _ e2).2, e2]; simp⟩
    · obtain ⟨o, es, ep, ho, rr⟩ := hm
      exact ⟨o, es, ep, stay _ o (Ne.symm f1.2.1) (Ne.symm f2.2.1) ho, rr⟩
    · by_cases hb2 : b = a
      · subst hb2
        rw [upd_same] at e2
        cases e2
        exact ⟨by rw [ry.length, len3]; exact hZ, _, c3, ry, at3⟩
      · rw [upd_ne hb2] at e2
        refine (I'.hok b u e2).stay (fun c w hc2 z => ?_) (fun c z => by rw [upd_ne (old c _ z).2]; exact z) fun c zs z => by rw [upd_ne (old c _ z).2]; exact z
        rcases hc2 with rfl | hc2
        · exact stay _ w (old _ _ e2).1 (old _ _ e2).2 z
        · exact stay _ w (old _ _ hc2).1 (old _ _ hc2).2 z
/-- sorted(xs, key=f) -/
theorem cr_sortedF {k : Nat} {f : Addr} {fd : FuncData} {ps : List Str} {sp : Sp} (F : FnOk X.prog X.w X.K X.mg X.base CX0 k f fd ps sp) (hr : Room (k + 2) X.A) (hb : Binds X.K fd ps []) (hu : X.A.units + 64 < cLine) : CallRK X (.builtin "sorted") [Str.ofString "key"] (fun xs zs H Q => ∃ (l : Addr) (vs : List V) (bs : List β) (D : V → β → Prop) (kf : β → Int) (J : Hp → Prop),
    xs = [.ref l] ∧ zs = [.ref f] ∧ SqL X.K H l vs ∧ EachIs D vs bs ∧ J H ∧ (∀ H' x b, J H' → D x b → b ∈ bs → sp [x] H' (fun v H2 => v = .int (kf b) ∧ J H2) E0) ∧
    ∀ H' p ys, J H' → H' p = none → H p = none → EachIs D ys (bs.mergeSort (dataLe false fun b => .int (kf b))) → Q (.ref p) (upd H' p (.lst ys))) := by
  intro pins s σ H xs zs us ws Q I r rz h
  obtain ⟨l, vs, bs, D, kf, J, rfl, rfl, hq, ed, j, turn, q⟩ := h
  obtain ⟨its, rv, hl, hz⟩ := I.list hq
  obtain ⟨u, rfl, ru⟩ := vals1 r
  cases (show u = Value.ref l from ru)
  obtain ⟨u2, rfl, ru2⟩ := vals1 rz
  cases (show u2 = Value.ref f from ru2)
  have hZ : its.length ≤ sizeLine := by rw [← rv.length]; exact hz
  show wpAny _ _ (call (.builtin "sorted") [.ref l] [(Str.ofString "key", .ref f)]) _ _ _
  refine PySem.W.sorted_of_sort hl.isList hZ (ksk_s1 _ _) (fun x => ksk_l1 _ _) fun E' => ?_
  rw [ksk_t1]
  unfold ksk_tree
  have lt : s.heap.objs.size + 1 < (PySem.W.copyHeap s.heap its).objs.size := Heap.lt_size (PySem.W.copyHeap_at s.heap its)
  have at0 := PySem.W.copyHeap_at s.heap its
  obtain ⟨e1, at1⟩ : ∃ e1, ((PySem.W.copyHeap s.heap its).update (s.heap.objs.size + 1) (Obj.mapSeq fun _ => (#[] : Array Value))).get? (s.heap.objs.size + 1) = some (seqObj "list" #[] e1) := ⟨_, get?_update_seq at0 fun _ => #[]⟩
  refine wpAny_bind (listItems_at at0 rfl ?_)
  refine wpAny_bind (listUpdate_at at0 rfl ?_ (by rw [List.size_toArray]; exact hZ) (Nat.zero_le _))
  refine wpAny_bind (seqEpoch_at at1 rfl ?_)
  refine wpAny_bind (wpAny_newTuple ?_ (by show its.length ≤ _; exact hZ))
  refine wpAny_bind (wpAny_newList ?_ (Nat.zero_le _))
  refine wpAny_holding ?_
  have szk : (((PySem.W.copyHeap s.heap its).update (s.heap.objs.size + 1) (Obj.mapSeq fun _ => (#[] : Array Value))).push (seqObj "tuple" its.toArray 0)).objs.size = (PySem.W.copyHeap s.heap its).objs.size + 1 := by rw [size_push', Heap.size_update]
  have k1 : s.heap.objs.size ≤ (((PySem.W.copyHeap s.heap its).update (s.heap.objs.size + 1) (Obj.mapSeq fun _ => (#[] : Array Value))).push (seqObj "tuple" its.toArray 0)).objs.size := by
    rw [szk]
    omega
  have k2 : (((PySem.W.copyHeap s.heap its).update (s.heap.objs.size + 1) (Obj.mapSeq fun _ => (#[] : Array Value))).push (seqObj "tuple" its.toArray 0)).objs.size ≠ s.heap.objs.size + 1 := by
    rw [szk]
    omega
  have keep : ∀ b o, s.heap.get? b = some o → (PySem.W.sortingHeap (PySem.W.copyHeap s.heap its) (s.heap.objs.size + 1) its).get? b = some o := fun b o e => PySem.W.sorting_copy_old e
  have I1 : Inv X pins σ H { s with heap := PySem.W.sortingHeap (PySem.W.copyHeap s.heap its) (s.heap.objs.size + 1) its } := I.kept (t' := s.toks) keep
  have ok : ∀ b, s.heap.objs.size ≤ b → FpOk X pins H b := fun b hb2 => I.fpOk hb2 (I.hok.fresh hb2)
  have r2 : Room k X.A.in1.in1 := (show Room ((k + 1) + 1) X.A from hr).in1.in1
  refine wpAny_mono (key_sort (kf := kf) (Q := Q) F r2 (fun I => I.env0.in1.in1) hb (show X.A.units + 1 + 1 < cLine by omega) I1 j (ok _ k1) (ok _ (Nat.le_succ _)) k2 (Heap.get?_push_size _ rfl) (Heap.get?_push_of_some _ (Heap.get?_push_of_some _ at1)) rv ed hZ turn fun H' ys j' n' ey => q H' _ ys j' n' (I.hok.fresh (Nat.le_succ _)) ey) (fun r s' hw => hw) fun _ _ z => z
end
section
variable [Tabs]
variable {X : Cx} {B : Bs} {Γ : Gm} {e : Expr} {pos p' : Pos} {β : Type}
theorem boot_sorted : bootBuiltins ("sorted" : Str) = some (.builtin "sorted") := by decide +kernel
theorem xl_sortedE (enc : β → PyData) {bs : List β} (hu : Rm X) (hb : Bi X "sorted") (he : Tt (St1 X e [])) (hp : Tt (Pl1 X pos [])) (h : Xp X B Γ e (.list (bs.map enc))) (pl : ∀ b ∈ bs, (enc b).canLay0 = true) (hal : AllAlike (bs.map enc)) (hk : Sortable (bs.map enc)) (hd : ∀ b ∈ bs, (enc b).depth ≤ 60) :
    Xl X B Γ (.Call (.Name "sorted" p') [e] [] pos) ((bs.mergeSort (dataLe false enc)).map enc) :=
  xl_cb (call_sortedE enc hu.h) hb boot_sorted (by decide) (by decide +kernel) he.h hp.h (xa_cons he.h h xa_nil) fun H Hs xs s a Q q => by
    cases a with
    | cons hx a2 =>
      cases a2
      cases hx with
      | lst hq ha =>
        refine ⟨_, _, bs, fun v b => Dq X.K Hs v (enc b), rfl, sub_l s hq, each_imp (fun v b ⟨h1, h2⟩ => ⟨(dp_sub s h1).plain h2, h1⟩) (each_with (each_data enc ha) pl), hal, hk, hd, fun p ys ey n => q p ys n (data_each enc ey)⟩
/-- a def that is handed to sorted as key -/
structure CeK (X : Cx) (x : Str) (R : List PyData → PyData → Prop) : Prop where
  ex : ∃ (k : Nat) (f : Addr) (fd : FuncData) (ps : List Str), X.mg x = some (.ref f) ∧ FnOk X.prog X.w X.K X.mg X.base CX0 k f fd ps (spR X.K R) ∧ PySem.W.keepIn X.K (.ref f) = true ∧ Binds X.K fd ps [] ∧ Room (k + 2) X.A
  db : (x == ("__debug__" : Str)) = false
theorem cek_of {X : Cx} {k j : Nat} {x : Str} {R : List PyData → PyData → Prop} (D : Dn X.prog X.w X.K X.mg X.base k x R) (hr : Room j X.A) (hk : k + 2 ≤ j) (db : (x == ("__debug__" : Str)) = false) : CeK X x R := by
  obtain ⟨f, fd, ps, h1, h2, h3, h4⟩ := D.ex
  exact ⟨⟨k, f, fd, ps, h1, h2, h3, h4, hr.mono hk⟩, db⟩
theorem xl_sortedF {nm : Str} {R : List PyData → PyData → Prop} (enc : β → PyData) (kf : β → Int) {bs : List β} {pn kpos : Pos} (c : CeK X nm R) (hg : Gl X nm) (hu : Rm X) (hb : Bi X "sorted") (hs : Tt (St1 X e [])) (he : Tt (backTo pos (starEach [e] X.env) = (false, eval e X.env) :: backTo pos (starEach [] X.env))) (hpl : Tt ((backTo pos (starEach [e] X.env)).any (·.1) = false))
    (hall : Tt ((backToKw pos (keywordEach [⟨some (Str.ofString "key"), .Name nm pn, kpos⟩] X.env)).all (·.1.isSome) = true)) (hno : Tt ((backToKw pos (keywordEach [⟨some (Str.ofString "key"), .Name nm pn, kpos⟩] X.env)).any (·.1.isNone) = false)) (hks : Tt ((backToKw pos (keywordEach [⟨some (Str.ofString "key"), .Name nm pn, kpos⟩] X.env)).filterMap (·.1) = [Str.ofString "key"]))
    (h : Xp X B Γ e (.list (bs.map enc))) (hR : ∀ b ∈ bs, R [enc b] (.int (kf b))) :
    Xl X B Γ (.Call (.Name "sorted" p') [e] [⟨some (Str.ofString "key"), .Name nm pn, kpos⟩] pos) ((bs.mergeSort (dataLe false fun b => .int (kf b))).map enc) := by
  obtain ⟨k, f, fd, ps, hm, F, kp, bi, hr'⟩ := c.ex
  refine xl_of (pe_callBK (cr_sortedF (β := β) F hr' bi hu.h) hb.gl hb.no boot_sorted (pa_cons pe_u pa_nil hs.h) (pk_cons (pe_glob hg hm (show RelV (.ref f) (.ref f) from rfl) c.db) pk_nil) (by decide) (by decide) he.h hpl.h hall.h hno.h hks.h) ?_
  intro H Hs σ E Q q
  refine h H Hs σ E _ fun v H1 Hs1 g1 p1 => ?_
  cases p1 with
  | lst hq ha =>
    refine ⟨_, _, bs, fun v b => Dq X.K Hs1 v (enc b), kf, fun H2 => ∃ Hs2, Gr H1 Hs1 H2 Hs2, rfl, rfl, sub_l g1.sub hq, each_data enc ha, ⟨Hs1, Gr.refl g1.sub⟩, fun H2 x b ⟨Hs2, g2⟩ hx hb2 => ?_, fun H2 p ys ⟨Hs2, g2⟩ n2 n1 ey => ?_⟩
    · exact ⟨[enc b], .int (kf b), Hs2, g2.sub, E.tab.mono (g1.exs.trans g2.exs), .cons (hx.mono g2.exs) .nil, hR b hb2, fun v H3 Hs3 g3 p3 => by
        cases p3
        exact ⟨rfl, Hs3, g2.trans g3⟩⟩
    · exact dl_new (g1.trans g2) q n2 ((data_each enc ey).mono g2.exs)
end
end Dl
set_option Elab.async false
set_option linter.all false
set_option maxRecDepth 100000
set_option maxHeartbeats 2000000
/-! More rules for the walk. -/
namespace Dl
open PySem L2 PyProof.Rows
variable [Tabs]
section
variable {X X' : Cx} {B : Bs} {Γ : Gm} {e a b c o : Expr} {es : List Expr} {d d1 d2 d3 : PyData} {ds : List PyData} {P : Out → Prop} {pos p' ap : Pos} {x : Str} {i j k : Nat} {p q r : Bool} {m n : Int} {y z : Str} {scope sc2 : Scope}
inductive SlD2 : PyData → Option Int → Option Int → PyData → Prop where
  | lst {ds : List PyData} {l h : Option Int} : SlD2 (.list ds) l h (.list (cutD ds l h))
  | str {y : Str} {l h : Option Int} (hz : Side (y.length ≤ sizeLine)) : SlD2 (.str y) l h (.str (cutS y l h))
  | tup {ds : List PyData} {l h : Option Int} : SlD2 (.tuple ds) l h (.tuple (cutD ds l h))
theorem xe_sl2 {lo hi : Option Expr} {l h : Option Int} {p2 : Pos} (he : Xp X B Γ e d1) (hl : Xo X B Γ lo l) (hh : Xo X B Γ hi h) (k : SlD2 d1 l h d) : Xp X B Γ (.Subscript e (.Slice lo hi none p2) pos) d := by
  cases k with
  | lst => exact xp_l (xl_sl he hl hh)
  | str hz => exact xp_slS he hz.h hl hh
  | tup => exact xe_slT he hl hh
theorem xe_list (hb : Bi X "list") (he : Tt (St1 X e [])) (hp : Tt (Pl1 X pos [])) (h : Xp X B Γ e d) (k : SeqD d ds) : Xp X B Γ (.Call (.Name "list" p') [e] [] pos) (.list ds) := xp_l (xl_list hb he hp h k)
theorem xte_bool (he : Tt (∀ whole, isTrue e X.env whole = (do let v ← whole; standAt e.pos; holding [v] (truthy v)))) (h : Xp X B Γ e (.bool p)) : Xt X B Γ e p := xt_val he.h h
theorem xte_inDict {es' : List (PyData × PyData)} (hu : Rm X) (hm : Tt (behindInMarks .In b = false)) (ha : Xp X B Γ a d) (hb : Xp X B Γ b (.dict es')) (hk : Tt ((keyOf d).isSome = true)) (pl : plainD (.dict es') = true) : Xt X B Γ (.Compare a [.In] [b] pos) (inKeys d es') := by
  have hk' := hk.h
  refine xt_of (pt_cmp (pc_din (by have := hu.h; omega) pe_u pe_u) hm.h) (dt_B ?_)
  intro H Hs σ E Q q
  refine ha H Hs σ E _ fun v H1 Hs1 g1 p1 => hb H1 Hs1 σ (E.grow g1) _ fun u H2 Hs2 g2 p2 => ?_
  cases p2 with
  | dic hr hd =>
    have fin : ∀ kk : Key, v = kV kk → keyOf d = some kk → ∃ a' o', V.ref _ = V.ref a' ∧ DGet H2 a' v o' ∧ Q (.bl o'.isSome) H2 := fun kk e1 e2 => by
      refine ⟨_, _, rfl, .inl ⟨_, kk, sub_rd g2.sub hr, e1, rfl⟩, ?_⟩
      rw [← valV_any, hd.any (k := kk)]
      have := q (.bl (inKeys d es')) H2 Hs2 (g1.trans g2) (.bl _)
      unfold inKeys at this
      rw [e2] at this
      exact this
    cases p1 with
    | int i => exact fin (.inl i) rfl rfl
    | str s => exact fin (.inr s) rfl rfl
    | non => cases hk'
    | bl _ => cases hk'
    | lst _ _ => cases hk'
    | tup _ _ => cases hk'
    | dic _ _ => cases hk'
    | exc _ _ => cases hk'
    | exf _ _ _ _ => cases hk'
    | obj _ _ _ _ => cases hk'
  | exc _ _ => cases pl
  | exf _ _ _ _ => cases pl
  | obj _ _ _ _ => cases pl
/-- a block's own blocks -/
theorem Bk.blk {own : List (Str × Nat)} (b : Bk X sc2 j X') (h : BlkOk X.N sc2 scope own) : BlkOk X'.N X'.env.scope scope own := by
  refine ⟨h.kind, h.uniq, by rw [b.N]; exact h.ix, fun y hy e => ?_, by rw [b.N]; exact h.own⟩
  rcases h.free y hy e with z | z
  · obtain ⟨k', h1, rfl | ⟨h2, _⟩⟩ := b.sc _ _ z
    · exact .inl h1
    · cases h2
  · obtain ⟨k', h1, rfl | ⟨_, rfl⟩⟩ := b.sc _ _ z
    · exact .inr h1
    · exact .inl h1
theorem Bk.gs {own : List (Str × Nat)} (b : Bk X sc2 j X') (h : GScp X.N sc2 scope own) : GScp X'.N X'.env.scope scope own := by
  refine ⟨h.kind, h.co, h.cell, h.dot, fun y hy e => ?_, by rw [b.N]; exact h.loc⟩
  rcases h.free y hy e with z | z
  · obtain ⟨k', h1, rfl | ⟨h2, _⟩⟩ := b.sc _ _ z
    · exact .inl h1
    · cases h2
  · obtain ⟨k', h1, rfl | ⟨_, rfl⟩⟩ := b.sc _ _ z
    · exact .inr h1
    · exact .inl h1
theorem Bk.nd (b : Bk X scope j X') (h : X.N.Nodup) : X'.N.Nodup := by rw [b.N]; exact h
/-- a list comprehension, its block by what a block is -/
theorem xl_lcB {elt tg iter : Expr} {ifs : List Expr} {own : List (Str × Nat)} {js : List Nat} (pr : PyData → Bool) (ev : PyData → PyData) (G2 : PyData → Gm) (hr : Room j X.A) (hc : Tt (X.calm = true)) (hN : X.N.Nodup) (ok : BlkOk X.N X.env.scope scope own) (hs : Tt (∀ x, foldedSetIterable iter X.env x = pure x))
    (hi : Xi X B Γ tg iter ds) (hz : Side (ds.length ≤ 1000000)) (hv : Tt ((js.all fun j => decide (j ∈ own.map (·.2))) = true))
    (hb : ∀ X', Bk X scope j X' → ∀ B' d, d ∈ ds → Xg X' tg js d (wipeG Γ (own.map (·.2))) (G2 d) ∧ Xq X' B' (G2 d) ifs (pr d) ∧ (pr d = true → Xp X' B' (G2 d) elt (ev d))) : Xl X B Γ (.ListComp elt [⟨tg, iter, ifs, 0⟩] scope pos) ((ds.filter pr).map ev) :=
  xl_lc pr ev G2 hc.h hN ok hs.h hi hz.h (fun j hj => of_decide_eq_true (List.all_eq_true.mp hv.h j hj)) fun X' hX => hb X' (bk_of hX hr)
/-- .. nested -/
theorem xl_lcN {X0 : Cx} {elt tg iter : Expr} {ifs : List Expr} {own : List (Str × Nat)} {js : List Nat} (b0 : Bk X0 sc2 j X) (pr : PyData → Bool) (ev : PyData → PyData) (G2 : PyData → Gm) (hc : Tt (X.calm = true)) (hN : X0.N.Nodup) (ok : BlkOk X0.N sc2 scope own) (hs : Tt (∀ x, foldedSetIterable iter X.env x = pure x))
    (hi : Xi X B Γ tg iter ds) (hz : Side (ds.length ≤ 1000000)) (hv : Tt ((js.all fun j => decide (j ∈ own.map (·.2))) = true))
    (hb : ∀ X', Bk X0 scope j X' → ∀ B' d, d ∈ ds → Xg X' tg js d (wipeG Γ (own.map (·.2))) (G2 d) ∧ Xq X' B' (G2 d) ifs (pr d) ∧ (pr d = true → Xp X' B' (G2 d) elt (ev d))) : Xl X B Γ (.ListComp elt [⟨tg, iter, ifs, 0⟩] scope pos) ((ds.filter pr).map ev) :=
  xl_lc pr ev G2 hc.h (b0.nd hN) (b0.blk ok) hs.h hi hz.h (fun j hj => of_decide_eq_true (List.all_eq_true.mp hv.h j hj)) fun X' hX => hb X' (bk_in b0 hX)
/-- y = [..] -/
theorem xs_setB {elt tg iter : Expr} {ifs : List Expr} {own : List (Str × Nat)} {js : List Nat} {py spos : Pos} {Γ' : Gm} (sl : Bool) (pr : PyData → Bool) (ev : PyData → PyData) (G2 : PyData → Gm) (hr : Room j X.A) (k : Lk X i x) (hyl : Tt (X.env.scope.names.lookup x = some .local)) (hc : Tt (X.calm = true)) (ok : BlkOk X.N X.env.scope scope own)
    (hsw : Tt (swapsWith (.ListComp elt [⟨tg, iter, ifs, 0⟩] scope pos) (some (.Name x py)) spos.line X.env = pure true)) (hs : Tt (∀ x, foldedSetIterable iter X.env x = pure x))
    (hi : Xi X B Γ tg iter ds) (hz : Side (ds.length ≤ 1000000)) (hv : Tt ((js.all fun j => decide (j ∈ own.map (·.2))) = true))
    (hb : ∀ X', Bk X scope j X' → ∀ B' d, d ∈ ds → Xg X' tg js d (wipeG Γ (own.map (·.2))) (G2 d) ∧ Xq X' B' (G2 d) ifs (pr d) ∧ (pr d = true → Xp X' B' (G2 d) elt (ev d)))
    (hΓ : Sg (Γ.set i (if sl then .ow ((ds.filter pr).map ev) else .sh (.list ((ds.filter pr).map ev)))) Γ') (hP : P (.nx Γ')) : Xs X B Γ (.Assign [.Name x py] (.ListComp elt [⟨tg, iter, ifs, 0⟩] scope pos) spos) P :=
  xs_setLc sl pr ev G2 k hyl.h hc.h ok hsw.h hs.h hi hz.h (fun j hj => of_decide_eq_true (List.all_eq_true.mp hv.h j hj)) (fun X' hX => hb X' (bk_of hX hr)) (by rw [hΓ.h]; exact hP)
/-- all, any over a generator, its frame by what a block is -/
theorem xe_allB {c T : Addr} {elt tg iter : Expr} {own : List (Str × Nat)} {js : List Nat} {qq pos gpos : Pos} (p : PyData → Bool) (G2 : PyData → Gm) (ev : PyData → PyData) (hr : Room k X.A) (hj : j + 1 ≤ k) (G : Gx X c T) (hb : Bi X "all") (S : GScp X.N X.env.scope scope own) (hs : Tt (∀ v, genFold iter X.env v = pure v))
    (he : Tt (St1 X (.GeneratorExp elt [⟨tg, iter, [], 0⟩] scope gpos) [])) (hi : Xi X B Γ tg iter ds) (hv : Tt ((js.all fun j => decide (j ∈ own.map (·.2))) = true))
    (hel : ∀ X', Bk X scope j X' → ∀ d, d ∈ ds → Xg X' tg js d (wipeG Γ (own.map (·.2))) (G2 d) ∧ Xp X' B (G2 d) elt (ev d)) (ht : ∀ d, d ∈ ds → truS (ev d) = some (p d)) :
    Xp X B Γ (.Call (.Name "all" qq) [.GeneratorExp elt [⟨tg, iter, [], 0⟩] scope gpos] [] pos) (.bool (ds.all p)) :=
  xe_allF hr hj hb G S hs.h he.h p G2 ev hi (fun j hj => of_decide_eq_true (List.all_eq_true.mp hv.h j hj)) (fun X' hX => hel X' (bk_gen hX S)) ht
theorem xe_anyB {c T : Addr} {elt tg iter : Expr} {own : List (Str × Nat)} {js : List Nat} {qq pos gpos : Pos} (p : PyData → Bool) (G2 : PyData → Gm) (ev : PyData → PyData) (hr : Room k X.A) (hj : j + 1 ≤ k) (G : Gx X c T) (hb : Bi X "any") (S : GScp X.N X.env.scope scope own) (hs : Tt (∀ v, genFold iter X.env v = pure v))
    (he : Tt (St1 X (.GeneratorExp elt [⟨tg, iter, [], 0⟩] scope gpos) [])) (hi : Xi X B Γ tg iter ds) (hv : Tt ((js.all fun j => decide (j ∈ own.map (·.2))) = true))
    (hel : ∀ X', Bk X scope j X' → ∀ d, d ∈ ds → Xg X' tg js d (wipeG Γ (own.map (·.2))) (G2 d) ∧ Xp X' B (G2 d) elt (ev d)) (ht : ∀ d, d ∈ ds → truS (ev d) = some (p d)) :
    Xp X B Γ (.Call (.Name "any" qq) [.GeneratorExp elt [⟨tg, iter, [], 0⟩] scope gpos] [] pos) (.bool (ds.any p)) :=
  xe_anyF hr hj hb G S hs.h he.h p G2 ev hi (fun j hj => of_decide_eq_true (List.all_eq_true.mp hv.h j hj)) (fun X' hX => hel X' (bk_gen hX S)) ht
/-- a statement that is an expression -/
theorem xs_drop (hs : Tt (swapsWith e none pos.line X.env = pure false)) (h : Xp X B Γ e d) (hP : P (.nx Γ)) : Xs X B Γ (.Expr e pos) P := xs_of (ps_expr pe_u hs.h) (ds_drop h hP)
/-- an expression that always raises: nothing comes behind it -/
def Xz (X : Cx) (B : Bs) (Γ : Gm) (e : Expr) : Prop := ∀ H Hs σ, Enb X.K B H Hs σ Γ → ∀ Q : VK, uE X e σ H Q
theorem xz_call {R : List PyData → Rs → Prop} {nm : Str} (c : CeX X x R) (ax : AX X B Γ nm) (hg : Gl X x) (he : Tt (St1 X e es)) (hp : Tt (Pl1 X pos es)) (ha : Xa X B Γ (e :: es) ds) (hr : CalX R ds (.er nm)) : Xz X B Γ (.Call (.Name x p') (e :: es) [] pos) := by
  obtain ⟨k, f, fd, ps, hm, F, kp, bi, hr'⟩ := c.ex
  obtain ⟨W, D, hD, tk, hW⟩ := ax.ex
  exact fun H Hs σ E Q => ⟨_, pe_callS F hr' hg hm kp bi (passAt tk) pa_u c.db he.h hp.h, ha H Hs σ E _ fun vs H1 Hs1 g1 p1 =>
    ⟨ds, .er nm, Hs1, g1.sub, E.tab.mono g1.exs, p1, hr.h, ⟨fun d' e => (nomatch e), fun nm' e => by
      cases e
      exact ⟨D, hD, fun H2 Hs2 g2 => hW σ H2 Hs2 (E.grow (g1.trans g2))⟩⟩⟩⟩
theorem xs_dropZ (hs : Tt (swapsWith e none pos.line X.env = pure false)) (h : Xz X B Γ e) : Xs X B Γ (.Expr e pos) P := xs_of (ps_expr pe_u hs.h) fun D H Hs σ E q => h H Hs σ E _
theorem xs_setZ {p2 : Pos} (k : Lk X i x) (hs : Tt (swapsWith e (some (.Name x p2)) pos.line X.env = pure false)) (h : Xz X B Γ e) : Xs X B Γ (.Assign [.Name x p2] e pos) P := xs_of (ps_set k.nd k.ix k.loc pe_u hs.h k.fn) fun D H Hs σ E q => h H Hs σ E _
theorem xs_retZ (h : Xz X B Γ e) : Xs X B Γ (.Return (some e) pos) P := xs_of (ps_ret pe_u) fun D H Hs σ E q => h H Hs σ E _
/-- what the class under nm is among the others -/
structure ExF (K : PySem.W.Frag) (mg : Str → Option Value) (nm : Str) (no : List Str) (D Fa : Addr) : Prop where
  mgD : mg nm = some (.ref D)
  mgF : mg "FaultError" = some (.ref Fa)
  cat : PySem.W.exmOne K (.ref D) (.ref Fa) = some true
  exc : ExcC K D
  self : PySem.W.kitOne K (.ref D) (.ref D) = some true
  val : PySem.W.kitOne K (.ref D) (.type "ValueError") = some true
  no : ∀ y ∈ no, ∃ C, mg y = some (.ref C) ∧ PySem.W.kitOne K (.ref D) (.ref C) = some false
theorem boot_VE : bootBuiltins ("ValueError" : Str) = some (.type "ValueError") := by decide +kernel
theorem isc_no {nm : Str} {no : List Str} {D Fa : Addr} (h : ExF X.K X.mg nm no D Fa) (g : Gl X y) (hy : y ∈ no) (db : (y == ("__debug__" : Str)) = false) : IsC X D y false := ⟨g, db, .inl (h.no y hy)⟩
theorem isc_self {nm : Str} {no : List Str} {D Fa : Addr} (h : ExF X.K X.mg nm no D Fa) (g : Gl X nm) (db : (nm == ("__debug__" : Str)) = false) : IsC X D nm true := ⟨g, db, .inl ⟨D, h.mgD, h.self⟩⟩
theorem isc_val {nm : Str} {no : List Str} {D Fa : Addr} (h : ExF X.K X.mg nm no D Fa) (g : Bi X "ValueError") : IsC X D "ValueError" true := ⟨g.gl, by decide +kernel, .inr ⟨"ValueError", g.no, boot_VE, by decide +kernel, h.val⟩⟩
/-- a def with a generator expression that may raise -/
theorem fn_okGX {P : Program} {w : World} {K : PySem.W.Frag} {mg : Str → Option Value} {base : Heap} {x qual : Str} {st : Stmt} {f : Addr} {fd : FuncData} {cdv : Value} {N ps : List Str} {k : Nat} {R : List PyData → Rs → Prop} (F : FunC K x qual st f fd cdv) (S : FnScope N ps (defScope st)) (len : ∀ ds r, R ds r → ds.length = ps.length)
    (body : ∀ (A : Around) (outer : List Env) (s : Shared) (H : Hp) (E : XK) (B : Bs) (ds : List PyData) (r : Rs), Room k (Xc P w K mg base N qual st f cdv A outer s H E).A → R ds r → (∀ nm, r = .er nm → ∀ Γ B', B'.H0 = B.H0 → B'.Hs0 = B.Hs0 → AX (Xe P w K mg base N qual st f cdv A outer s H E) B' Γ nm) →
      Xb (Xe P w K mg base N qual st f cdv A outer s H E) B (startG N ds) (defBody st) (RetX r)) : FnOk P w K mg base (L2.CX P w) (k + 1) f fd ps (spX K mg R) := by
  obtain ⟨oc, od, kV, doc, pm, an, ct, osl, rfl, l, c⟩ := F.ex
  refine fn_of l c S (fun vs H Q E h => ?_) fun A outer s H vs Q E hr h => ?_
  · obtain ⟨ds, r, Hs, _, _, a, hR, _⟩ := h
    rw [a.length]
    exact len ds r hR
  · obtain ⟨ds, r, Hs, hsub, htb, a, hR, q, qe⟩ := h
    refine ⟨_, pb_u (X := Xe P w K mg base N qual st f cdv A outer s H E), body A outer s H E ⟨H, Hs, Hs⟩ ds r hr hR (fun nm e Γ B' e1 e2 => ?_) _ H Hs (L2.start N vs) (en_start hsub htb a) fun o ho => ?_⟩
    · obtain ⟨D, hD, hE⟩ := qe nm e
      refine ⟨_, D, hD, takes_of rfl rfl rfl rfl, fun σ' H' Hs' E' => hE H' Hs' ?_⟩
      have g := E'.gr
      rw [e1, e2] at g
      exact g
    · cases r with
      | ok d =>
        rcases ho with rfl | ⟨rfl, Γ, rfl⟩
        · exact fun v H' Hs' g p => q d rfl v H' Hs' g p
        · exact fun H' Hs' σ' E' => q .none rfl .non H' Hs' E'.gr .non
      | er nm => exact ho.elim
/-- a flat answer from a call to which a list of one's own is lent -/
theorem xp_loan (hi : Tt (Γ[i]? = some (.ow ds))) (h : Xp X B (Γ.set i (.sh (.list ds))) e d) (hf : Tt (flatD d = true)) : Xp X B Γ e d := fun H Hs σ E Q q => by
  obtain ⟨Hs', g, x, E'⟩ := E.free hi.h
  refine h H Hs' σ E' Q fun v H2 Hs2 g2 p2 => ?_
  obtain ⟨Hs3, g3⟩ := gr_cut x g2
  refine q v H2 Hs3 g3 ?_
  have hf' := hf.h
  cases p2 with
  | non => exact .non
  | bl b => exact .bl b
  | int i => exact .int i
  | str s => exact .str s
  | lst _ _ => cases hf'
  | tup _ _ => cases hf'
  | dic _ _ => cases hf'
  | exc _ _ => cases hf'
  | exf _ _ _ _ => cases hf'
  | obj _ _ _ _ => cases hf'
end
end Dl
set_option Elab.async false
set_option linter.all false
set_option maxRecDepth 100000
set_option maxHeartbeats 2000000
/-! Own lists that give an item away; counts. -/
namespace Dl
open PySem L2 PyProof.Rows
variable [Tabs]
theorem Fw.mut {Γ : Gm} {σ : L2.St} {H Hs : Hp} {i : Nat} {l : Addr} {s s' : Sl} {u : HO} (hi : Γ[i]? = some s) (w : s.isOwn = true) (hl : σ[i]? = some (some (.ref l))) : Fw Γ (Γ.set i s') σ H Hs (upd H l u) Hs := ⟨Ext.refl _, fun j t h wt => by
  by_cases e : i = j
  · subst e
    exact ⟨_, hi, w⟩
  · rw [List.getElem?_set_ne e] at h
    exact ⟨t, h, wt⟩, fun a o h hs nt f => by
  have ne : a ≠ l := fun z => by
    subst z
    exact f i _ hi w hl
  exact ⟨by rw [upd_ne ne]; exact h, hs⟩⟩
/-! ### a comprehension whose element has an effect -/
theorem wipe_get {σ : L2.St} : ∀ {vs : List Nat} {j : Nat}, j ∉ vs → (wipe σ vs)[j]? = σ[j]?
  | [], _, _ => rfl
  | v :: vs, j, h => by
    show ((wipe σ vs).set v none)[j]? = _
    rw [List.getElem?_set_ne (fun z => h (by rw [z]; exact List.mem_cons_self))]
    exact wipe_get fun z => h (List.mem_cons_of_mem _ z)
theorem wipeG_get {Γ : Gm} : ∀ {vs : List Nat} {j : Nat}, j ∉ vs → (wipeG Γ vs)[j]? = Γ[j]?
  | [], _, _ => rfl
  | v :: vs, j, h => by
    show ((wipeG Γ vs).set v .un)[j]? = _
    rw [List.getElem?_set_ne (fun z => h (by rw [z]; exact List.mem_cons_self))]
    exact wipeG_get fun z => h (List.mem_cons_of_mem _ z)
theorem wipeG_un {Γ : Gm} : ∀ {vs : List Nat} {j : Nat} {s : Sl}, j ∈ vs → (wipeG Γ vs)[j]? = some s → s = .un
  | v :: vs, j, s, h, e => by
    by_cases z : j = v
    · subst z
      exact set_self (show ((wipeG Γ vs).set j .un)[j]? = some s from e)
    · have e2 : ((wipeG Γ vs).set v .un)[j]? = some s := e
      rw [List.getElem?_set_ne (Ne.symm z)] at e2
      exact wipeG_un ((List.mem_cons.mp h).resolve_left z) e2
theorem wipeG_len (Γ : Gm) : ∀ vs : List Nat, (wipeG Γ vs).length = Γ.length
  | [] => rfl
  | v :: vs => by
    show ((wipeG Γ vs).set v .un).length = _
    rw [List.length_set, wipeG_len Γ vs]
section
variable {K : PySem.W.Frag} {B : Bs} {H Hs : Hp} {σ σ3 : L2.St} {Γ Γ3 : Gm}
/-- behind a block's element: back at the slots of the def -/
theorem En.back {vs : List Nat} (E : Enb K B H Hs σ3 Γ3) (hw : wipe σ3 vs = wipe σ vs) : Enb K B H Hs σ (wipeG Γ3 vs) := by
  have hl : σ.length = σ3.length := by
    have := congrArg List.length hw
    rw [wipe_length, wipe_length] at this
    exact this.symm
  have same : ∀ {j : Nat}, j ∉ vs → σ[j]? = σ3[j]? := fun {j} h => by rw [← wipe_get h, ← wipe_get (σ := σ3) h, hw]
  refine ⟨E.gr, E.pin, by rw [wipeG_len, hl]; exact E.len, fun j s o h1 h2 => ?_, fun i j s t l h1 h2 w1 w2 h3 h4 => ?_, E.tab⟩
  · by_cases hj : j ∈ vs
    · rw [wipeG_un hj h1]
      trivial
    · rw [wipeG_get hj] at h1
      rw [same hj] at h2
      exact E.at_ j s o h1 h2
  · have ni : i ∉ vs := fun z => by
      rw [wipeG_un z h1] at w1
      cases w1
    have nj : j ∉ vs := fun z => by
      rw [wipeG_un z h2] at w2
      cases w2
    rw [wipeG_get ni] at h1
    rw [wipeG_get nj] at h2
    rw [same ni] at h3
    rw [same nj] at h4
    exact E.sep i j s t l h1 h2 w1 w2 h3 h4
/-- an object that no slot tells changes -/
theorem En.other (E : Enb K B H Hs σ Γ) {a : Addr} {u : HO} (h0 : B.H0 a = none) (hs : Hs a = none) (np : ∀ (i : Nat) (s : Sl), Γ[i]? = some s → s.isOwn = true → σ[i]? ≠ some (some (.ref a))) : Enb K B (upd H a u) Hs σ Γ := by
  refine ⟨⟨E.gr.ext.mut h0, E.gr.exs, fun b o e => ?_, E.gr.new⟩, E.pin, E.len, fun j s o h1 h2 => ?_, E.sep, E.tab⟩
  · rw [upd_ne (ne_of_none e hs)]
    exact E.sub b o e
  · refine (E.at_ j s o h1 h2).move (Ext.refl _) fun m w q1 q2 q3 q4 q5 => ⟨?_, q5⟩
    have ne : m ≠ a := fun z => by
      subst z
      rw [q2] at h2
      exact np j s h1 q1 h2
    rw [upd_ne ne]
    exact q3
/-- a new list, with effects on the way -/
def DLM (K : PySem.W.Frag) (B : Bs) (t : TE) (Γ : Gm) (ds : List PyData) (Γ' : Gm) : Prop := ∀ H Hs σ, Enb K B H Hs σ Γ → ∀ Q : VK, (∀ p xs H' Hs', Enb K B H' Hs' σ Γ' → B.H0 p = none → H' p = some (.lst xs) → Hs' p = none → (∀ (i : Nat) (s : Sl), Γ'[i]? = some s → s.isOwn = true → σ[i]? ≠ some (some (.ref p))) → DqAll K Hs' xs ds → Q (.ref p) H') → t σ H Q
theorem dlm_lc {wi : TI} {g : TG} {tt : TT} {te : TE} {vs js : List Nat} {ds : List PyData} (Γs : Nat → Gm) (ev : Nat → PyData) (h : DMI K B wi Γ ds (Γs 0)) (hz : ds.length ≤ 1000000) (hv : ∀ j ∈ js, j ∈ vs) (hw : ∀ i, wipeG (Γs i) vs = Γs i)
    (hs : ∀ i d, ds[i]? = some d → ∃ Γ2 Γ3, DG K g js d (Γs i) Γ2 ∧ (∀ (j : Nat) (s : Sl), Γ2[j]? = some s → s.isOwn = true → (Γs i)[j]? = some s) ∧ DT K B tt Γ2 true ∧ DM K B te Γ2 (ev i) Γ3 ∧ wipeG Γ3 vs = Γs (i + 1)) :
    DLM K B (tLc wi g tt te vs) Γ ((List.range ds.length).map ev) (Γs ds.length) := fun H Hs σ E Q q => h H Hs σ E _ fun J H1 Hs1 E1 hJ Dl hD => by
  have hsD : Hs1 Dl = none := E1.gr.hsn hD
  have h0D : B.H0 Dl = none := E1.gr.ext.no hD
  have np0 : ∀ (i : Nat) (s : Sl), (Γs 0)[i]? = some s → s.isOwn = true → σ[i]? ≠ some (some (.ref Dl)) := fun i s hi w z => by
    obtain ⟨l, u, e, hl, _⟩ := E1.own hi w
    rw [z] at e
    cases e
    rw [hD] at hl
    cases hl
  refine ⟨fun i m H' => m = ds.length - i ∧ i ≤ ds.length ∧ ∃ Hs' acc, H' Dl = some (.lst acc) ∧ Hs' Dl = none ∧ DqAll K Hs' acc ((List.range i).map ev) ∧ Ext Hs1 Hs' ∧ Enb K B H' Hs' σ (Γs i) ∧ (∀ (j : Nat) (s : Sl), (Γs i)[j]? = some s → s.isOwn = true → σ[j]? ≠ some (some (.ref Dl))), ⟨ds.length, rfl, Nat.zero_le _, Hs1, [], upd_same, hsD, .nil, Ext.refl _, E1.other h0D hsD np0, np0⟩, ?_⟩
  rintro i m H' ⟨rfl, hi, Hs', acc, hA, hN, pA, xA, E', np⟩
  obtain ⟨j1, j2⟩ := hJ H' Hs' E'.sub xA
  by_cases hlt : i < ds.length
  · have hd' : ds[i]? = some ds[i] := List.getElem?_eq_getElem hlt
    obtain ⟨j3, j4⟩ := j2 i _ hd'
    refine .inr ⟨j3, fun H2 => ∃ Hs2 acc2, H2 Dl = some (.lst acc2) ∧ Hs2 Dl = none ∧ DqAll K Hs2 acc2 ((List.range (i + 1)).map ev) ∧ Ext Hs1 Hs2 ∧ Enb K B H2 Hs2 σ (Γs (i + 1)) ∧ (∀ (j : Nat) (s : Sl), (Γs (i + 1))[j]? = some s → s.isOwn = true → σ[j]? ≠ some (some (.ref Dl))), fun H2 z => ⟨ds.length - (i + 1), by omega, rfl, by omega, z⟩, fun x H2 hy => ?_⟩
    obtain ⟨Hs2, g2, p2⟩ := j4 x H2 hy
    obtain ⟨Γ2, Γ3, hg, ho, ht, he, hn⟩ := hs i _ hd'
    have Ew := En.wiped (E'.grow g2) vs
    rw [hw i] at Ew
    refine hg B H2 Hs2 _ x Ew p2 _ fun σ3 E3 w3 => ⟨?_, ht H2 Hs2 σ3 E3 _ fun H3 Hs3 g3 => ?_⟩
    · rw [w3 vs hv]
      have ww : ∀ us : List Nat, (∀ u ∈ us, u ∈ vs) → wipe (wipe σ us) vs = wipe σ vs := fun us => by
        induction us with
        | nil => intro _; rfl
        | cons u us ih =>
          intro hu
          show wipe ((wipe σ us).set u none) vs = _
          rw [wipe_set (hu u List.mem_cons_self)]
          exact ih fun w hw => hu w (List.mem_cons_of_mem _ hw)
      exact ww vs fun _ h => h
    · show te σ3 H3 _
      have ww3 : wipe σ3 vs = wipe σ vs := by
        rw [w3 vs hv]
        have ww : ∀ us : List Nat, (∀ u ∈ us, u ∈ vs) → wipe (wipe σ us) vs = wipe σ vs := fun us => by
          induction us with
          | nil => intro _; rfl
          | cons u us ih =>
            intro hu
            show wipe ((wipe σ us).set u none) vs = _
            rw [wipe_set (hu u List.mem_cons_self)]
            exact ih fun w hw => hu w (List.mem_cons_of_mem _ hw)
        exact ww vs fun _ h => h
      have g23 := g2.trans g3
      have hA3 : H3 Dl = some (.lst acc) := g23.ext.lst hA
      have hN3 : Hs3 Dl = none := by
        cases z : Hs3 Dl with
        | none => rfl
        | some u =>
          rcases g23.new Dl (by rw [z]; simp) with w | w
          · exact absurd hN w
          · rw [hA] at w; cases w
      have np2 : ∀ (j : Nat) (s : Sl), Γ2[j]? = some s → s.isOwn = true → σ3[j]? ≠ some (some (.ref Dl)) := fun j s hj w z => by
        have hj' := ho j s hj w
        have nv : j ∉ vs := fun zv => by
          rw [← hw i] at hj'
          rw [wipeG_un zv hj'] at w
          cases w
        rw [← wipe_get nv, ww3, wipe_get nv] at z
        exact np j s hj' w z
      refine he H3 Hs3 σ3 (E3.grow g3) _ fun y H4 Hs4 E4 f4 p4 => ?_
      obtain ⟨hA4, hN4⟩ := f4.keep Dl _ hA3 hN3 (fun _ z => nomatch z) np2
      have E5 := En.back E4 ww3
      rw [hn] at E5
      have np5 : ∀ (j : Nat) (s : Sl), (Γs (i + 1))[j]? = some s → s.isOwn = true → σ[j]? ≠ some (some (.ref Dl)) := fun j s hj w z => by
        rw [← hn] at hj
        have nv : j ∉ vs := fun zv => by
          rw [wipeG_un zv hj] at w
          cases w
        rw [wipeG_get nv] at hj
        obtain ⟨t, ht2, wt⟩ := f4.pat j s hj w
        exact np j t (ho j t ht2 wt) wt z
      have lz : acc.length < sizeLine := by
        rw [pA.length, List.length_map, List.length_range, sizeLine_eq]
        omega
      refine ⟨acc, hA4, lz, Hs4, acc ++ [y], upd_same, hN4, ?_, (xA.trans g23.exs).trans f4.ext, E5.other h0D hN4 np5, np5⟩
      rw [List.range_succ, List.map_append]
      exact ((pA.mono g23.exs).mono f4.ext).app (.cons p4 .nil)
  · have e2 : i = ds.length := by omega
    subst e2
    exact .inl ⟨j1, q Dl acc H' Hs' E' h0D hA hN np pA⟩
end
theorem DqAll.erase {K : PySem.W.Frag} {H : Hp} : ∀ {vs : List V} {ds : List PyData} (n : Nat), DqAll K H vs ds → DqAll K H (vs.eraseIdx n) (ds.eraseIdx n)
  | _, _, _, .nil => .nil
  | _, _, 0, .cons _ a => a
  | _, _, n + 1, .cons h a => .cons h (DqAll.erase n a)
theorem DqAll.bools_inv {K : PySem.W.Frag} {H : Hp} : ∀ {bs : List Bool} {vs : List V}, DqAll K H vs (bs.map PyData.bool) → vs = bs.map V.bl
  | [], _, .nil => rfl
  | b :: r, _, .cons h a => by
    rw [DqAll.bools_inv a]
    cases h
    rfl
section
variable {X : Cx} {B : Bs} {Γ Γ1 Γ2 : Gm} {e : Expr} {d : PyData} {ds : List PyData} {P : Out → Prop} {pos p' ap p2 : Pos} {x : Str} {i k : Nat} {m : Int}
/-- x.pop(e), x one's own list -/
theorem xm_popAt (r : Rk X i x) (hb : Tt (Mb X (.Name x p2) "pop")) (hf : Tt (Mf X pos e [])) (hl : Tt ((ap.endLine == pos.line) = true)) (he : Tt (St1 X e [])) (hp : Tt (Pl1 X pos []))
    (h : Xm X B Γ e (.int m) Γ1) (hi : Tt (Γ1[i]? = some (.ow ds))) (hΓ0 : Tt (∃ ds0, Γ[i]? = some (.ow ds0))) (hk : Side (seqIndex? m ds.length = some k ∧ -(2 ^ 63) ≤ m ∧ m < 2 ^ 63)) (hd : Side (ds[k]? = some d)) (hΓ : Sg (Γ1.set i (.ow (ds.eraseIdx k))) Γ2) :
    Xm X B Γ (.Call (.Attribute (.Name x p2) "pop" ap) [e] [] pos) d Γ2 := by
  obtain ⟨rfl⟩ := hΓ
  obtain ⟨ds0, hi0⟩ := hΓ0.h
  obtain ⟨hk1, hk2, hk3⟩ := hk.h
  refine xm_of' (pe_bm PySem.F.plainAttrs_list PySem.F.slot_list_pop PySem.F.type_list_pop mt_popAt (pe_var r.ix r.vis r.d1 r.d2) (pa_cons pe_u pa_nil he.h) hb.h hf.h hl.h he.h hp.h) ?_
  intro H Hs σ E Q q
  obtain ⟨l, xs, e1, h1, h2, h3, h4⟩ := E.ow hi0
  refine ⟨.ref l, e1, .inl ⟨rfl, xs, SqL.of h1⟩, h H Hs σ E _ fun v H1 Hs1 E1 x1 p1 => ?_⟩
  cases p1
  obtain ⟨l', xs', e1', k1, k2, k3, k4⟩ := E1.ow hi.h
  rw [e1] at e1'
  cases e1'
  obtain ⟨y, hy, py⟩ := k2.get hd.h
  exact ⟨l, xs', m, k, y, rfl, rfl, k1, hk2, hk3, by rw [k2.length]; exact hk1, hy, q y _ Hs1 (E1.mut hi.h e1 (DqAll.erase k k2)) (x1.trans (Fw.mut hi.h rfl e1)) py⟩
/-! bools.count(b) -/
def eqB (k : Bool) (v : Value) : Bool := match v with
  | .bool b => b == k
  | _ => false
theorem bools_of : ∀ {bs : List Bool} {us : List Value}, Vals (bs.map V.bl) us → us = bs.map Value.bool
  | [], _, .nil => rfl
  | b :: bs, _, .cons r rs => by
    rw [bools_of rs, show _ = Value.bool b from r]
    rfl
theorem countB (k : Bool) : ∀ bs : List Bool, (bs.map Value.bool).countP (eqB k) = bs.count k
  | [] => rfl
  | b :: bs => by
    rw [List.map_cons, List.countP_cons, List.count_cons, countB k bs]
    rfl
theorem mt_bcount : MtR X "list.count" (fun x xs H Q => ∃ (p : Addr) (bs : List Bool) (k : Bool), x = .ref p ∧ xs = [.bl k] ∧ SqL X.K H p (bs.map V.bl) ∧ Q (.int (bs.count k : Nat)) H) := by
  intro pins s σ H x xs v us Q I rx rxs h
  obtain ⟨p, bs, k, rfl, rfl, hs, q⟩ := h
  cases rx
  obtain ⟨u, rfl, ru⟩ := rxs.one
  cases (show u = Value.bool k from ru)
  obtain ⟨its, rv, ⟨⟨cls, dd, data, sl⟩, n, ho, hc, hdn, hd⟩, hlen⟩ := I.list hs
  simp only at hc hd
  subst hc hd
  have e := bools_of rv
  refine call_meets PySem.F.slot_list_count ⟨_, ho, rfl⟩ PySem.F.entry_list_count (PySem.F.args_list_count_2 _ _) (SeqAt.list_countAt p its.toArray n dd sl (.bool k) (eqB k)) ⟨ho, fun y hy => ?_, ?_⟩
  · rw [e] at hy
    obtain ⟨b, _, rfl⟩ := List.mem_map.mp (show y ∈ bs.map Value.bool by simpa using hy)
    exact (SeqAt.EqAt.bool_bool b k)
  · refine ⟨.int (bs.count k : Nat), H, I.tok _, ⟨s.toks, ?_⟩, q⟩
    show Value.int ((its.toArray.toList.countP (eqB k) : Nat) : Int) s.toks = _
    rw [List.toList_toArray, e, countB]
theorem xe_countB {o : Expr} {bs : List Bool} {b : Bool} (hb : Tt (Mb X o "count")) (hf : Tt (Mf X pos e [])) (hl : Tt ((ap.endLine == pos.line) = true)) (he : Tt (St1 X e [])) (hp : Tt (Pl1 X pos [])) (ho : Xp X B Γ o (.list (bs.map .bool))) (ha : Xp X B Γ e (.bool b)) :
    Xp X B Γ (.Call (.Attribute o "count" ap) [e] [] pos) (.int (bs.count b : Nat)) := by
  refine xp_of (pe_bm PySem.F.plainAttrs_list PySem.F.slot_list_count PySem.F.type_list_count mt_bcount pe_u (pa_cons pe_u pa_nil he.h) hb.h hf.h hl.h he.h hp.h) ?_
  intro H Hs σ E Q q
  refine ho H Hs σ E _ fun v H1 Hs1 g1 p1 => ?_
  cases p1 with
  | lst hq hd =>
    refine ⟨.inl ⟨rfl, _, sub_l g1.sub hq⟩, ha H1 Hs1 σ (E.grow g1) _ fun u H2 Hs2 g2 p2 => ?_⟩
    cases p2
    have e := DqAll.bools_inv hd
    subst e
    exact ⟨_, bs, b, rfl, rfl, sub_l g2.sub (ext_l g2.exs hq), q _ H2 Hs2 (g1.trans g2) (.int _)⟩
/-! list(range(..)), tuple(range(..)) -/
theorem rg_data {K : PySem.W.Frag} {H : Hp} {n : Int} : DqAll K H (rgV 0 n) (rangeD 0 n.toNat) := by
  unfold rgV rangeD
  rw [Int.sub_zero]
  generalize List.range n.toNat = L
  induction L with
  | nil => exact .nil
  | cons i L ih => exact .cons (.int _) ih
theorem xl_listRg {p3 : Pos} (hc : Tt (X.calm = true)) (hb : Bi X "list") (hr : Bi X "range") (h1 : Tt (St1 X (.Call (.Name "range" p3) [e] [] p2) [])) (h2 : Tt (St1 X e [])) (h : Xp X B Γ e (.int m)) (hm : Side (0 ≤ m ∧ m ≤ 16777216)) : Xl X B Γ (.Call (.Name "list" p') [.Call (.Name "range" p3) [e] [] p2] [] pos) (rangeD 0 m.toNat) :=
  xl_of (pe_listRg hc.h hb.gl hb.no (prg_1 hr.gl hr.no pe_u h2.h) h1.h) fun H Hs σ E Q q => h H Hs σ E _ fun v H1 Hs1 g1 p1 => by
    cases p1
    have := hm.h
    exact ⟨m, rfl, RgOk.of_le (by omega) (by omega) (by omega) (by omega), fun p n => dl_new g1 q n rg_data⟩
theorem xe_tupRg {p3 : Pos} (hc : Tt (X.calm = true)) (hb : Bi X "tuple") (hr : Bi X "range") (h1 : Tt (St1 X (.Call (.Name "range" p3) [e] [] p2) [])) (h2 : Tt (St1 X e [])) (h : Xp X B Γ e (.int m)) (hm : Side (0 ≤ m ∧ m ≤ 16777216)) : Xp X B Γ (.Call (.Name "tuple" p') [.Call (.Name "range" p3) [e] [] p2] [] pos) (.tuple (rangeD 0 m.toNat)) :=
  xp_of (pe_tupRg hc.h hb.gl hb.no (prg_1 hr.gl hr.no pe_u h2.h) h1.h) fun H Hs σ E Q q => h H Hs σ E _ fun v H1 Hs1 g1 p1 => by
    cases p1
    have := hm.h
    exact ⟨m, rfl, RgOk.of_le (by omega) (by omega) (by omega) (by omega), fun p n => q (.ref p) _ (upd Hs1 p (.tup (rgV 0 m))) (g1.share n) (.tup (SqT.of upd_same) (rg_data))⟩
/-- y = [..], the element with an effect; y one's own list -/
theorem ds_asgDLM {K : PySem.W.Frag} {te : TE} (h : DLM K B te Γ ds Γ1) (hP : P (.nx (Γ1.set i (.ow ds)))) : DS K B (tAsg te (gName i)) Γ P := fun D H Hs σ E q => h H Hs σ E _ fun p xs H1 Hs1 E1 h0 hl hn np a =>
  q _ hP H1 Hs1 _ (E1.setOwn i (s := .ow ds) ⟨p, xs, rfl, hl, a, hn, h0⟩ fun j t hj w _ => np j t hj w)
theorem xs_setM {elt tg iter : Expr} {scope : Scope} {own : List (Str × Nat)} {js : List Nat} {j : Nat} {py spos : Pos} {Γ' : Gm} (Γs G2 G3 : Nat → Gm) (ev : Nat → PyData) (hr : Room j X.A) (kx : Lk X i x) (hyl : Tt (X.env.scope.names.lookup x = some .local)) (hc : Tt (X.calm = true)) (ok : BlkOk X.N X.env.scope scope own)
    (hsw : Tt (swapsWith (.ListComp elt [⟨tg, iter, [], 0⟩] scope pos) (some (.Name x py)) spos.line X.env = pure true)) (hs : Tt (∀ x, foldedSetIterable iter X.env x = pure x))
    (hi : Xmi X B Γ tg iter ds (Γs 0)) (hz : Side (ds.length ≤ 1000000)) (hv : Tt ((js.all fun j => decide (j ∈ own.map (·.2))) = true)) (hw : ∀ t, wipeG (Γs t) (own.map (·.2)) = Γs t)
    (hb : ∀ X', Bk X scope j X' → ∀ t d, ds[t]? = some d → Xg X' tg js d (Γs t) (G2 t) ∧ Xm X' B (G2 t) elt (ev t) (G3 t)) (hown : ∀ t, t < ds.length → (∀ (k : Nat) (s : Sl), (G2 t)[k]? = some s → s.isOwn = true → (Γs t)[k]? = some s) ∧ wipeG (G3 t) (own.map (·.2)) = Γs (t + 1))
    (hΓ : Sg ((Γs ds.length).set i (.ow ((List.range ds.length).map ev))) Γ') (hP : P (.nx Γ')) : Xs X B Γ (.Assign [.Name x py] (.ListComp elt [⟨tg, iter, [], 0⟩] scope pos) spos) P := by
  obtain ⟨rfl⟩ := hΓ
  have bk : ∀ s H C cl fp, Blk X scope (X.blk s H scope (compEnvC scope cl C X.env) fp) := fun s H C cl fp => ⟨s, H, C, cl, fp, rfl⟩
  have hK : ∀ X', Blk X scope X' → X'.K = X.K := fun X' ⟨s, H, C, cl, fp, e⟩ => by rw [e]; all_goals rfl
  let g : TG := fun v σ H Q => ∀ X', Blk X scope X' → uG X' tg v σ H Q
  let tt : TT := fun σ H Q => ∀ X', Blk X scope X' → uQ X' [] σ H Q
  let te : TE := fun σ H Q => ∀ X', Blk X scope X' → uE X' elt σ H Q
  have h1 : ∀ s H C cl fp, PG (X.blk s H scope (compEnvC scope cl C X.env) fp) tg g := fun s H C cl fp => ⟨fun pins s' σ H' v u Q I r h => pg_u.run pins s' σ H' v u Q I r (h _ (bk s H C cl fp))⟩
  have h2 : ∀ s H C cl fp, PTs (X.blk s H scope (compEnvC scope cl C X.env) fp) [] tt := fun s H C cl fp => ⟨fun pins s' σ H' Q I h => pq_u.run pins s' σ H' Q I (h _ (bk s H C cl fp))⟩
  have h3 : ∀ s H C cl fp, PE (X.blk s H scope (compEnvC scope cl C X.env) fp) elt te := fun s H C cl fp => ⟨fun pins s' σ H' Q I h => pe_u.run pins s' σ H' Q I (h _ (bk s H C cl fp))⟩
  refine xs_of (ps_setLc (i := i) (own := own) (g := g) (tt := tt) (te := te) hc.h kx.nd kx.ix hyl.h hsw.h pi_u ok h1 h2 h3 hs.h) (ds_asgDLM (dlm_lc (js := js) Γs ev hi hz.h (fun j hj => of_decide_eq_true (List.all_eq_true.mp hv.h j hj)) hw fun t d hd => ⟨G2 t, G3 t, ?_, (hown t (List.getElem?_eq_some_iff.mp hd).1).1, ?_, ?_, (hown t (List.getElem?_eq_some_iff.mp hd).1).2⟩) hP)
  · intro B1 H Hs σ v E p Q q X' hX
    have := (hb X' (bk_of hX hr) t d hd).1
    unfold Xg at this
    rw [hK X' hX] at this
    exact this B1 H Hs σ v E p Q q
  · intro H Hs σ E Q q X' hX
    exact ⟨_, pts_nil, q H Hs (Gr.refl E.sub)⟩
  · intro H Hs σ E Q q X' hX
    have := (hb X' (bk_of hX hr) t d hd).2
    unfold Xm at this
    rw [hK X' hX] at this
    exact this H Hs σ E Q q
end
end Dl
set_option Elab.async false
set_option linter.all false
set_option maxRecDepth 100000
set_option maxHeartbeats 2000000
namespace Sm
open PySem L2 Dl PySem.NumText TL
theorem par_none : ∀ (l acc : List Nat), 47 ∉ l → par [47] acc l = none := fun l => by
  induction l with
  | nil => intro acc _; rfl
  | cons c r ih =>
    intro acc h
    unfold par
    rw [if_neg]
    · exact ih _ fun z => h (List.mem_cons_of_mem _ z)
    · intro z
      have : c = 47 := by
        simp only [pre] at z
        simpa using z.symm
      exact h (by rw [this]; exact List.mem_cons_self)
theorem foldl_glue (g : Array Nat) : ∀ (l : List Str) (i x : Array Nat), l.foldl (fun acc (p : Str) => acc ++ g ++ p.cps) (i ++ x) = i ++ l.foldl (fun acc (p : Str) => acc ++ g ++ p.cps) x := fun l => by
  induction l with
  | nil => intro i x; rfl
  | cons c r ih =>
    intro i x
    rw [List.foldl_cons, List.foldl_cons, ← ih]
    simp only [Array.append_assoc]
theorem join_one (s a : Str) : Txt.join s [a] = a := rfl
theorem join_cons (s a b : Str) (r : List Str) : Txt.join s (a :: b :: r) = a ++ s ++ Txt.join s (b :: r) := by
  show (⟨(b :: r).foldl (fun acc (p : Str) => acc ++ s.cps ++ p.cps) a.cps⟩ : Str) = ⟨a.cps ++ s.cps ++ r.foldl (fun acc (p : Str) => acc ++ s.cps ++ p.cps) b.cps⟩
  rw [List.foldl_cons, foldl_glue]
theorem join_two (s : Str) : ∀ l : List Str, l ≠ [] → Txt.join s l = Str.join s l := fun l => by
  induction l with
  | nil => intro h; exact absurd rfl h
  | cons a t ih =>
    intro _
    cases t with
    | nil => rfl
    | cons b r =>
      rw [join_cons, ih (by simp)]
      rfl
theorem join_len (s : Str) : ∀ (r : List Str) (b : Str), (Txt.join s (b :: r)).length = ((b :: r).map (fun x => x.length)).sum + r.length * s.length := fun r => by
  induction r with
  | nil => intro b; simp [join_one]
  | cons c r ih =>
    intro b
    rw [join_cons, Str.length_append, Str.length_append, ih c]
    simp only [List.map_cons, List.sum_cons, List.length_cons, Nat.add_mul, Nat.one_mul]
    omega
theorem slash_one : Str.ofString "/" = ⟨#[47]⟩ := str_eq (show (Str.ofString "/").cps.toList = [47] by decide +kernel)
theorem split_cases (y : Str) : (Txt.split y (Str.ofString "/") = [y] ∧ Part y (Str.ofString "/") y (Str.ofString "") (Str.ofString "")) ∨
    ∃ a b r, Txt.split y (Str.ofString "/") = a :: b :: r ∧ y = a ++ Str.ofString "/" ++ Txt.join (Str.ofString "/") (b :: r) ∧ Part y (Str.ofString "/") a (Str.ofString "/") (Txt.join (Str.ofString "/") (b :: r)) := by
  have hj : Txt.join (Str.ofString "/") (Txt.split y (Str.ofString "/")) = y := (join_two _ _ (fun z => by have := PyProof.Rows.split_pos y (Str.ofString "/"); rw [z] at this; exact absurd this (by decide))).trans (StrLaws.join_split y (Str.ofString "/"))
  have hf := fun p hp => StrLaws.split_free y 47 p (by rw [← slash_one]; exact hp)
  have hp := PyProof.Rows.split_pos y (Str.ofString "/")
  cases hs : Txt.split y (Str.ofString "/") with
  | nil => rw [hs] at hp; exact absurd hp (by decide)
  | cons a t =>
    cases t with
    | nil =>
      rw [hs] at hj hf
      have ea : a = y := by
        have : Txt.join (Str.ofString "/") [a] = a := by
          exact join_one _ _
        exact this.symm.trans hj
      subst ea
      refine .inl ⟨rfl, ⟨?_⟩⟩
      rw [partition_par a "/" (by rw [slash_signs]; simp), slash_signs, par_none _ _ (hf a List.mem_cons_self)]
      rfl
    | cons b r =>
      rw [hs] at hj hf
      refine .inr ⟨a, b, r, rfl, ?_⟩
      have e : Txt.join (Str.ofString "/") (a :: b :: r) = a ++ Str.ofString "/" ++ Txt.join (Str.ofString "/") (b :: r) := by
        exact join_cons _ _ _ _
      have hj' : a ++ Str.ofString "/" ++ Txt.join (Str.ofString "/") (b :: r) = y := e.symm.trans hj
      refine ⟨hj'.symm, ⟨?_⟩⟩
      rw [← hj']
      exact partition_app slash_signs (hf a List.mem_cons_self)
theorem part_len2 (y z : Str) (hz : tl z ≠ []) : (Txt.partition y z).1.length ≤ y.length ∧ (Txt.partition y z).2.2.length ≤ y.length := by
  have g : ∀ (S l acc a b : List Nat), par S acc l = some (a, b) → a.length + b.length ≤ acc.length + l.length := fun S l => by
    induction l with
    | nil => intro acc a b h; cases h
    | cons c r ih =>
      intro acc a b h
      unfold par at h
      split at h
      · cases h
        rw [List.length_drop]
        omega
      · have := ih _ _ _ h
        rw [List.length_append, List.length_singleton] at this
        rw [List.length_cons]
        omega
  rw [partition_par y z hz]
  cases h : par (tl z) [] (tl y) with
  | none => exact ⟨Nat.le_refl _, Nat.zero_le _⟩
  | some z =>
    obtain ⟨a, b⟩ := z
    have := g _ _ _ _ _ h
    rw [List.length_nil, Nat.zero_add] at this
    have e1 : (⟨a.toArray⟩ : Str).length = a.length := by rw [len_tl]
    have e2 : (⟨b.toArray⟩ : Str).length = b.length := by rw [len_tl]
    show (⟨a.toArray⟩ : Str).length ≤ _ ∧ (⟨b.toArray⟩ : Str).length ≤ _
    rw [e1, e2, len_tl]
    exact ⟨by omega, by omega⟩
end Sm
set_option Elab.async false
set_option linter.all false
set_option maxRecDepth 100000
set_option maxHeartbeats 2000000
/-! words of a row: the machine and the split -/
namespace Sm
open PySem L2 Dl PySem.NumText TL
def tillS (m : Nat) : List Nat → List Nat
  | [] => []
  | c :: r => if c = m then [] else c :: tillS m r
theorem pre_one (m c : Nat) (r : List Nat) : pre [m] (c :: r) = decide (c = m) := by
  unfold pre
  by_cases h : c = m
  · subst h; simp
  · simp [h]
theorem par_till (m : Nat) : ∀ (l acc : List Nat), (match par [m] acc l with | some (a, _) => a | none => acc ++ l) = acc ++ tillS m l := fun l => by
  induction l with
  | nil => intro acc; simp [par, tillS]
  | cons c r ih =>
    intro acc
    unfold par tillS
    rw [pre_one]
    by_cases h : c = m
    · rw [decide_eq_true h, if_pos rfl, if_pos h]; simp
    · rw [decide_eq_false h, if_neg Bool.false_ne_true, if_neg h]
      have e := ih (acc ++ [c])
      cases hp : par [m] (acc ++ [c]) r with
      | none => simp
                rw [hp] at e
                simpa using e
      | some z =>
        obtain ⟨a, b⟩ := z
        rw [hp] at e
        simpa using e
theorem part_till (y z : Str) (m : Nat) (hz : tl z = [m]) : tl (Txt.partition y z).1 = tillS m (tl y) := by
  rw [partition_par y z (by rw [hz]; simp), hz]
  have e := par_till m (tl y) []
  cases hp : par [m] [] (tl y) with
  | none => rw [hp] at e; simpa using e
  | some z =>
    obtain ⟨a, b⟩ := z
    rw [hp] at e
    simpa using e
/-- the words, blank by blank -/
def wl (acc : List Nat) : List Nat → List (List Nat)
  | [] => if acc = [] then [] else [acc]
  | c :: r => if c = 32 then (if acc = [] then [] else [acc]) ++ wl [] r else wl (acc ++ [c]) r
theorem spl_wl : ∀ (l acc : List Nat), (spl [32] 0 acc l).filter (fun z => !z.isEmpty) = wl acc l := fun l => by
  induction l with
  | nil =>
    intro acc
    rw [spl_nil]
    unfold wl
    cases acc <;> rfl
  | cons c r ih =>
    intro acc
    unfold wl
    by_cases h : c = 32
    · rw [spl_hit (by rw [pre_one, decide_eq_true h]), if_pos h, List.filter_cons]
      rw [show ([32] : List Nat).length - 1 = 0 from rfl, ih]
      cases acc <;> rfl
    · rw [spl_miss (by rw [pre_one, decide_eq_false h]), if_neg h, ih]
theorem split_wl (s z : Str) (hz : tl z = [32]) : ((Txt.split s z).filter (fun w => (w.length : Int) != 0)).map tl = wl [] (tl s) := by
  rw [← spl_wl, ← hz, ← split_spl s z (by rw [hz]; simp) (kind_ok (by
    rw [show z = ⟨#[32]⟩ from ext_tl hz]; decide +kernel)), List.filter_map]
  congr 1
  refine List.filter_congr fun w _ => ?_
  show ((w.length : Int) != 0) = !(tl w).isEmpty
  rw [len_tl]
  cases tl w with
  | nil => rfl
  | cons a b =>
    simp only [List.length_cons, List.isEmpty_cons, Bool.not_false]
    exact bne_iff_ne.mpr (by omega)
end Sm
set_option Elab.async false
set_option linter.all false
set_option maxRecDepth 100000
set_option maxHeartbeats 2000000
/-! Sets of parts as numbers: mathematics. -/
namespace Sm
open PySem
/-! ### bits -/
theorem andN (a b : Nat) : Builtin.bitAnd (a : Int) (b : Int) = ((a &&& b : Nat) : Int) := W.os_band a b
theorem notN (a : Nat) : Builtin.bitNot (a : Int) = -(a : Int) - 1 := rfl
theorem notNot (x : Int) : Builtin.bitNot (Builtin.bitNot x) = x := by
  show -(-x - 1) - 1 = x
  omega
theorem negOf (a : Nat) : (0 ≤ -(a : Int) - 1) = False := by
  refine eq_false ?_
  omega
theorem bitAnd_nn (x y : Int) (hx : ¬ 0 ≤ x) (hy : ¬ 0 ≤ y) : Builtin.bitAnd x y = Builtin.bitNot (((Builtin.bitNot x).toNat ||| (Builtin.bitNot y).toNat : Nat) : Int) := by
  unfold Builtin.bitAnd
  simp [hx, hy]
theorem orN (a b : Nat) : Builtin.bitOr (a : Int) (b : Int) = ((a ||| b : Nat) : Int) := by
  show Builtin.bitNot (Builtin.bitAnd (Builtin.bitNot a) (Builtin.bitNot b)) = _
  rw [bitAnd_nn _ _ (by rw [notN]; omega) (by rw [notN]; omega), notNot, notNot, notNot]
  rfl
/-- whether part i is in b -/
theorem shrN (b i : Nat) : (b : Int) / 2 ^ i = ((b / 2 ^ i : Nat) : Int) := by
  rw [Int.natCast_ediv]
  norm_cast
theorem bitAt (b i : Nat) : Builtin.bitAnd ((b : Int) / 2 ^ i) 1 = if b.testBit i then 1 else 0 := by
  rw [shrN, show (1 : Int) = ((1 : Nat) : Int) from rfl, andN, Nat.and_one_is_mod, Nat.testBit_eq_decide_div_mod_eq]
  by_cases h : b / 2 ^ i % 2 = 1
  · simp [h]
  · have : b / 2 ^ i % 2 = 0 := by omega
    simp [this]
theorem xorAt {b i : Nat} (h : b.testBit i = true) : Builtin.bitXor (b : Int) (2 ^ i) = ((b - 2 ^ i : Nat) : Int) ∧ 2 ^ i ≤ b := by
  have hb : b &&& 2 ^ i = 2 ^ i := Nat.eq_of_testBit_eq fun j => by
    rw [Nat.testBit_and, Nat.testBit_two_pow]
    by_cases e : i = j
    · subst e
      rw [h]; simp
    · simp [e]
  have hl : 2 ^ i ≤ b := by
    have := Nat.and_le_left (n := b) (m := 2 ^ i)
    rw [hb] at this
    exact this
  refine ⟨?_, hl⟩
  have e : (2 : Int) ^ i = ((2 ^ i : Nat) : Int) := by norm_cast
  rw [PyProof.Rows.bitXor_and, e, andN, hb]
  omega
/-! ### the parts of a set -/
def partsL (b : Nat) : List Nat := (List.range (Builtin.Int.intBits (b : Int))).filter fun i => b.testBit i
theorem bits_lt (b : Nat) : b < 2 ^ Builtin.Int.intBits (b : Int) := by
  have := (intBits_le_iff (m := Builtin.Int.intBits (b : Int)) (x := b)).mp (Nat.le_refl _)
  simpa using this
theorem bits_le {b n : Nat} (h : b < 2 ^ n) : Builtin.Int.intBits (b : Int) ≤ n := intBits_le_iff.mpr (by simpa using h)
theorem parts_of {b n : Nat} (h : b < 2 ^ n) : (List.range n).filter (fun i => b.testBit i) = partsL b := by
  obtain ⟨k, rfl⟩ := Nat.exists_eq_add_of_le (bits_le h)
  rw [List.range_add, List.filter_append]
  have : ((List.range k).map (Builtin.Int.intBits (b : Int) + ·)).filter (fun i => b.testBit i) = [] := by
    rw [List.filter_eq_nil_iff]
    intro i hi
    obtain ⟨j, _, rfl⟩ := List.mem_map.mp hi
    rw [Nat.testBit_lt_two_pow (Nat.lt_of_lt_of_le (bits_lt b) (Nat.pow_le_pow_right (by decide) (Nat.le_add_right _ _)))]
    simp
  rw [this, List.append_nil]
  rfl
theorem mem_parts {b i : Nat} : i ∈ partsL b ↔ b.testBit i = true := by
  unfold partsL
  rw [List.mem_filter]
  refine ⟨fun h => h.2, fun h => ⟨List.mem_range.mpr ?_, h⟩⟩
  refine Decidable.byContradiction fun z => ?_
  rw [Nat.testBit_lt_two_pow (Nat.lt_of_lt_of_le (bits_lt b) (Nat.pow_le_pow_right (by decide) (Nat.le_of_not_lt z)))] at h
  cases h
theorem parts_lt {b i n : Nat} (hb : b < 2 ^ n) (h : i ∈ partsL b) : i < n := by
  have := mem_parts.mp h
  refine Decidable.byContradiction fun z => ?_
  rw [Nat.testBit_lt_two_pow (Nat.lt_of_lt_of_le hb (Nat.pow_le_pow_right (by decide) (Nat.le_of_not_lt z)))] at this
  cases this
def cnt (b : Nat) : Nat := (partsL b).length
theorem cnt_le {b n : Nat} (h : b < 2 ^ n) : cnt b ≤ n := by
  unfold cnt
  rw [← parts_of h]
  exact Nat.le_trans (List.length_filter_le _ _) (by rw [List.length_range]; exact Nat.le_refl _)
/-! ### least sets -/
def leastB (m : Nat → Bool) (b : Nat) : Bool := m b && !(partsL b).any fun i => m (b - 2 ^ i)
def leastL (n : Nat) (m : Nat → Bool) : List Nat := ((List.range n).filter (leastB m)).mergeSort fun x y => decide ((cnt x : Int) ≤ cnt y)
theorem no_swap {α : Type} {a b : α} : ∀ {r : List α}, r.Nodup → [a, b].Sublist r → [b, a].Sublist r → False
  | [], _, h, _ => by cases h
  | x :: t, nd, h, k => by
    have nx := (List.nodup_cons.mp nd).1
    have nt := (List.nodup_cons.mp nd).2
    cases h with
    | cons _ h =>
      cases k with
      | cons _ k => exact no_swap nt h k
      | cons_cons _ k => exact nx (h.subset (by simp))
    | cons_cons _ h =>
      cases k with
      | cons _ k => exact nx (k.subset (by simp))
      | cons_cons _ k => exact nx (h.subset (by simp))
theorem rising_pair {a b : Nat} : ∀ {L : List Nat}, L.Pairwise (· < ·) → a ∈ L → b ∈ L → a < b → [a, b].Sublist L
  | [], _, h, _, _ => by cases h
  | x :: t, p, ha, hb, hl => by
    obtain ⟨p1, p2⟩ := List.pairwise_cons.mp p
    by_cases ea : a = x
    · subst ea
      rcases List.mem_cons.mp hb with e | hb
      · omega
      · exact .cons_cons _ (List.singleton_sublist.mpr hb)
    · have ha' : a ∈ t := (List.mem_cons.mp ha).resolve_left ea
      rcases List.mem_cons.mp hb with e | hb
      · have := p1 a ha'
        omega
      · exact .cons _ (rising_pair p2 ha' hb hl)
def lexB (k : Nat → Nat) (x y : Nat) : Bool := decide ((k x : Int) < k y ∨ ((k x : Int) = k y ∧ (x : Int) ≤ y))
theorem stable_lex (k : Nat → Nat) {L : List Nat} (h : L.Pairwise (· < ·)) : L.mergeSort (fun x y => decide ((k x : Int) ≤ k y)) = L.mergeSort (lexB k) := by
  have nd : L.Nodup := h.imp fun h => Nat.ne_of_lt h
  have t1 : ∀ a b c : Nat, decide ((k a : Int) ≤ k b) = true → decide ((k b : Int) ≤ k c) = true → decide ((k a : Int) ≤ k c) = true := fun a b c h1 h2 => by
    simp only [decide_eq_true_eq] at *
    omega
  have o1 : ∀ a b : Nat, (decide ((k a : Int) ≤ k b) || decide ((k b : Int) ≤ k a)) = true := fun a b => by
    simp only [Bool.or_eq_true, decide_eq_true_eq]
    omega
  have t2 : ∀ a b c : Nat, lexB k a b = true → lexB k b c = true → lexB k a c = true := fun a b c h1 h2 => by
    unfold lexB at *
    simp only [decide_eq_true_eq] at *
    omega
  have o2 : ∀ a b : Nat, (lexB k a b || lexB k b a) = true := fun a b => by
    unfold lexB
    simp only [Bool.or_eq_true, decide_eq_true_eq]
    omega
  have p1 := List.mergeSort_perm L (fun x y => decide ((k x : Int) ≤ k y))
  have p2 := List.mergeSort_perm L (lexB k)
  have n1 := p1.nodup_iff.mpr nd
  refine (p1.trans p2.symm).eq_of_pairwise (le := fun a b => lexB k a b = true) (fun a b _ _ h1 h2 => ?_) ?_ (List.pairwise_mergeSort t2 o2 L)
  · unfold lexB at h1 h2
    simp only [decide_eq_true_eq] at h1 h2
    omega
  · rw [List.pairwise_iff_forall_sublist]
    intro a b hs
    have hle := (List.pairwise_iff_forall_sublist.mp (List.pairwise_mergeSort t1 o1 L)) hs
    have ha : a ∈ L := p1.mem_iff.mp (hs.subset (by simp))
    have hb : b ∈ L := p1.mem_iff.mp (hs.subset (by simp))
    unfold lexB
    simp only [decide_eq_true_eq] at hle ⊢
    by_cases hlt : (k a : Int) < k b
    · exact .inl hlt
    · have he : (k a : Int) = k b := by omega
      refine .inr ⟨he, ?_⟩
      refine Decidable.byContradiction fun z => ?_
      have hba : b < a := by omega
      have s2 := rising_pair h hb ha hba
      have s3 := List.pair_sublist_mergeSort t1 o1 (by simp only [decide_eq_true_eq]; omega) s2
      exact no_swap n1 hs s3
theorem range_rising (n : Nat) : (List.range n).Pairwise (· < ·) := List.pairwise_lt_range
/-- what the law finds: the met sets without a met one that has a part less -/
def goodB (S : List Nat) (b : Nat) : Bool := (partsL b).all fun i => !decide (b - 2 ^ i ∈ S)
theorem law_found (n : Nat) (m : Nat → Bool) : ((List.range n).filter m).filter (goodB ((List.range n).filter m)) = (List.range n).filter (leastB m) := by
  rw [List.filter_filter]
  refine List.filter_congr fun b hb => ?_
  have hb' := List.mem_range.mp hb
  unfold leastB goodB
  rw [Bool.and_comm]
  congr 1
  rw [List.all_eq_not_any_not]
  congr 1
  have anyc : ∀ (l : List Nat), (l.any fun x => !!decide (b - 2 ^ x ∈ (List.range n).filter m)) = l.any fun i => m (b - 2 ^ i) := fun l => by
    induction l with
    | nil => rfl
    | cons i t ih =>
      rw [List.any_cons, List.any_cons, ih, Bool.not_not]
      congr 1
      by_cases h : m (b - 2 ^ i) = true
      · rw [h]
        exact decide_eq_true (List.mem_filter.mpr ⟨List.mem_range.mpr (Nat.lt_of_le_of_lt (Nat.sub_le _ _) hb'), h⟩)
      · rw [Bool.not_eq_true] at h
        rw [h]
        exact decide_eq_false fun z => by
          have := (List.mem_filter.mp z).2
          rw [h] at this
          cases this
  exact anyc _
/-- the law's order, the program's order -/
theorem law_order (n : Nat) (m : Nat → Bool) : ((List.range n).filter (leastB m)).mergeSort (lexB cnt) = leastL n m := (stable_lex cnt ((range_rising n).filter _)).symm
end Sm
set_option Elab.async false
set_option linter.all false
set_option maxRecDepth 100000
set_option maxHeartbeats 2000000
/-! Data of numbers, sets, dicts: what the laws' proofs share. -/
namespace Sm
open PySem L2 Dl
def natsD (L : List Nat) : List PyData := L.map fun n => .int (n : Nat)
def boolsD (L : List Bool) : List PyData := L.map .bool
def meetsL (n : Nat) (m : Nat → Bool) : List Bool := (List.range n).map m
theorem ixn {n : Nat} {i : Int} (h0 : 0 ≤ i) (h1 : i < n) : ixN n i = some i.toNat := by
  unfold ixN
  rw [if_pos h0, if_pos h1]
theorem range_nat {n k : Nat} {d : PyData} (h : (rangeD 0 n)[k]? = some d) : k < n ∧ d = .int (k : Nat) := by
  unfold rangeD at h
  rw [List.getElem?_map] at h
  cases e : (List.range n)[k]? with
  | none => rw [e] at h; cases h
  | some j =>
    rw [e] at h
    obtain ⟨h1, h2⟩ := List.getElem?_eq_some_iff.mp e
    rw [List.getElem_range] at h2
    rw [List.length_range] at h1
    subst h2
    refine ⟨h1, ?_⟩
    have e2 : d = PyData.int (0 + (k : Int)) := (Option.some.inj h).symm
    rw [Int.zero_add] at e2
    exact e2
theorem range_mem {n : Nat} {d : PyData} (h : d ∈ rangeD 0 n) : ∃ k : Nat, k < n ∧ d = .int (k : Nat) := by
  obtain ⟨k, hk, e⟩ := List.getElem_of_mem h
  have := range_nat (show (rangeD 0 n)[k]? = some d by rw [List.getElem?_eq_getElem hk, e])
  exact ⟨k, this.1, this.2⟩
def natOf : PyData → Nat
  | .int i => i.toNat
  | _ => 0
theorem range_filter (n : Nat) (p : Nat → Bool) : (rangeD 0 n).filter (fun d => p (natOf d)) = natsD ((List.range n).filter p) := by
  unfold rangeD natsD
  rw [List.filter_map]
  have e : ((fun d => p (natOf d)) ∘ fun i : Nat => PyData.int (0 + (i : Int))) = p := by
    funext i
    show p (natOf (.int (0 + (i : Int)))) = p i
    rw [Int.zero_add]
    rfl
  rw [e]
  refine List.map_congr_left fun i _ => ?_
  show PyData.int (0 + (i : Int)) = .int i
  rw [Int.zero_add]
theorem tru_bit (b k : Nat) : TruD (.int (Builtin.bitAnd ((b : Int) / 2 ^ ((k : Nat) : Int).toNat) 1)) (b.testBit (natOf (.int (k : Nat)))) := by
  have e : b.testBit (natOf (.int (k : Nat))) = (Builtin.bitAnd ((b : Int) / 2 ^ ((k : Nat) : Int).toNat) 1 != 0) := by
    show b.testBit k = _
    rw [Int.toNat_natCast, bitAt]
    cases b.testBit k <;> rfl
  rw [e]
  exact TruD.int
theorem bools_at (n : Nat) (m : Nat → Bool) {i : Int} {k : Nat} (e : i = k) (h : k < n) : Side (atI (boolsD (meetsL n m)) i = some (.bool (m k))) := by
  subst e
  refine ⟨?_⟩
  have hl : (boolsD (meetsL n m)).length = n := by unfold boolsD meetsL; rw [List.length_map, List.length_map, List.length_range]
  rw [atI_pos (by omega) (by rw [hl]; omega), Int.toNat_natCast]
  unfold boolsD meetsL
  rw [List.getElem?_map, List.getElem?_map, List.getElem?_range h]
  rfl
theorem inKeys_put {es : List (PyData × PyData)} {k0 v k : PyData} : inKeys k (putD es k0 v) = (inKeys k es || decide (Dl.keyOf k0 = Dl.keyOf k)) := by
  unfold putD
  split
  · rename_i h
    have e : inKeys k (es.map fun e => if Dl.keyOf e.1 = Dl.keyOf k0 then (e.1, v) else e) = inKeys k es := by
      unfold inKeys
      rw [List.any_map]
      refine congrArg (fun f => List.any es f) (funext fun e => ?_)
      show decide (Dl.keyOf (if Dl.keyOf e.1 = Dl.keyOf k0 then (e.1, v) else e).1 = Dl.keyOf k) = _
      split <;> rfl
    rw [e]
    cases hk : inKeys k es with
    | true => rfl
    | false =>
      symm
      refine decide_eq_false fun z => ?_
      unfold inKeys at hk
      rw [z] at h
      rw [h] at hk
      cases hk
  · unfold inKeys
    rw [List.any_append]
    simp
theorem inKeys_merge {k : PyData} : ∀ {ms es : List (PyData × PyData)}, inKeys k (mergeD es ms) = (inKeys k es || inKeys k ms)
  | [], es => by
    show inKeys k es = (inKeys k es || false)
    rw [Bool.or_false]
  | e :: ms, es => by
    show inKeys k (mergeD (putD es e.1 e.2) ms) = _
    rw [inKeys_merge, inKeys_put]
    show _ = (inKeys k es || (decide (Dl.keyOf e.1 = Dl.keyOf k) || inKeys k ms))
    rw [Bool.or_assoc]
def knownD (S : List Nat) : List (PyData × PyData) := mergeD [] (S.map fun b => (.int (b : Nat), .bool true))
theorem known_in (S : List Nat) (x : Nat) : inKeys (.int (x : Nat)) (knownD S) = decide (x ∈ S) := by
  unfold knownD
  rw [inKeys_merge]
  show (false || inKeys _ _) = _
  rw [Bool.false_or]
  unfold inKeys
  rw [List.any_map]
  induction S with
  | nil => rfl
  | cons b S ih =>
    rw [List.any_cons, ih]
    show (decide (some (Sum.inl (b : Int)) = some (Sum.inl (x : Int) : Key)) || _) = _
    by_cases h : x = b
    · subst h; simp
    · simp [h, Ne.symm h, Int.natCast_inj, eq_comm]
theorem pairs_known (S : List Nat) : PairsD (S.map fun b => PyData.tuple [.int (b : Nat), .bool true]) (S.map fun b => (.int (b : Nat), .bool true)) := by
  induction S with
  | nil => exact .nil
  | cons b S ih => exact .cons rfl ih
theorem plain_nats : ∀ L : List Nat, PyData.canLayAll0 (natsD L) = true ∧ PyData.depthAll (natsD L) = 0
  | [] => ⟨rfl, by simp [natsD, PyData.depthAll]⟩
  | n :: L => by
    obtain ⟨h1, h2⟩ := plain_nats L
    refine ⟨?_, ?_⟩
    · show (true && PyData.canLayAll0 (natsD L)) = true
      rw [h1]; rfl
    · show PyData.depthAll (.int (n : Nat) :: natsD L) = 0
      rw [PyData.depthAll, h2]
      simp [PyData.depth]
theorem shaped_nats (L : List Nat) : SeqAt.shaped (.list (natsD L)) = true := by
  obtain ⟨h1, h2⟩ := plain_nats L
  unfold SeqAt.shaped
  show (PyData.canLayAll0 (natsD L) && decide (PyData.depthAll (natsD L) + 1 ≤ 64)) = true
  rw [h1, h2]; rfl
theorem shaped_natsT (L : List Nat) : SeqAt.shaped (.tuple (natsD L)) = true := by
  obtain ⟨h1, h2⟩ := plain_nats L
  unfold SeqAt.shaped
  show (PyData.canLayAll0 (natsD L) && decide (PyData.depthAll (natsD L) + 1 ≤ 64)) = true
  rw [h1, h2]; rfl
theorem shaped_nil : SeqAt.shaped (.list []) = true := by decide +kernel
theorem eqv_nil (L : List PyData) : PyData.eqv (.list L) (.list []) = L.isEmpty := by
  cases L with
  | nil => simp [PyData.eqv, PyData.eqvAll]
  | cons a L => simp [PyData.eqv, PyData.eqvAll]
/-! what is shown of numbers -/
theorem piled_le {k : Nat} : ∀ {ts : List Str}, (∀ t ∈ ts, t.length ≤ k) → piled ts ≤ (k + 2) * ts.length
  | [], _ => by simp [piled]
  | t :: r, h => by
    have h1 := h t List.mem_cons_self
    have h2 := piled_le (k := k) (ts := r) fun t ht => h t (List.mem_cons_of_mem _ ht)
    rw [piled_cons, List.length_cons, Nat.mul_succ]
    omega
theorem join_le {k : Nat} {ts : List Str} (h : ∀ t ∈ ts, t.length ≤ k) : (Str.join ", " ts).length ≤ (k + 2) * ts.length := by
  by_cases e : ts = []
  · subst e
    show (Str.join ", " []).length ≤ _
    exact Nat.le_trans (Nat.le_of_eq (by decide +kernel)) (Nat.zero_le _)
  · have := join_length_add ts e
    have := piled_le h
    omega
theorem num_len {n : Nat} (h : n < 2 ^ 62) : (Str.ofString (toString (n : Int))).length ≤ 100 := len_num (by omega) (Bd.of (by
  have : (n : Int).natAbs = n := by simp
  rw [this]
  exact Nat.lt_of_lt_of_le h (Nat.pow_le_pow_right (by decide) (by decide))))
theorem nats_ints (L : List Nat) : natsD L = (L.map fun n : Nat => (n : Int)).map PyData.int := by unfold natsD; rw [List.map_map]; rfl
theorem shown_nats (L : List Nat) (h : ∀ n ∈ L, n < 2 ^ 62) : (PyData.tuple (natsD L)).shown.length ≤ 102 * L.length + 4 := by
  have j := join_le (k := 100) (ts := PyData.shownAll (natsD L)) (by
    rw [nats_ints, PyData.shownAll_ints]
    intro t ht
    obtain ⟨i, hi, rfl⟩ := List.mem_map.mp ht
    obtain ⟨n, hn, rfl⟩ := List.mem_map.mp hi
    exact num_len (h n hn))
  have nl : (natsD L).length = L.length := by unfold natsD; rw [List.length_map]
  rw [PyData.shownAll_length, nl] at j
  rw [PyData.shown_tuple, Str.length_append, Str.length_append]
  have l1 : (Str.ofString "(").length = 1 := by decide +kernel
  have l2 : ∀ b : Bool, (Str.ofString (if b = true then ",)" else ")")).length ≤ 2 := fun b => by cases b <;> decide +kernel
  have l3 := l2 ((natsD L).length == 1)
  omega
theorem repr_nats (L : List Nat) (h : ∀ n ∈ L, n < 2 ^ 62) : reprB (.tuple (natsD L)) = true := by
  obtain ⟨h1, h2⟩ := plain_nats L
  have c0 : (PyData.tuple (natsD L)).canLay0 = true := h1
  have c1 : (PyData.tuple (natsD L)).showable = true := by
    simp only [PyData.showable]
    rw [nats_ints]
    refine PyData.showableAll_ints _ fun i hi => ?_
    obtain ⟨n, hn, rfl⟩ := List.mem_map.mp hi
    have hlt : n < 2 ^ 1920 := Nat.lt_of_lt_of_le (h n hn) (Nat.pow_le_pow_right (by decide) (by decide))
    exact PySem.Flt.log2_lt_of (by decide) (by simpa using hlt)
  have c2 : (PyData.tuple (natsD L)).depth ≤ 60 := by
    simp only [PyData.depth]
    omega
  unfold reprB
  rw [c0, c1, PyData.hasDict_of_canLay _ c0, decide_eq_true c2]
  rfl
end Sm
set_option Elab.async false
set_option linter.all false
set_option maxRecDepth 100000
set_option maxHeartbeats 2000000
/-! What a def does, as a plain function of plain data: answers that may be an exception or unknown. -/
namespace Dl
open PySem L2 PyProof.Rows
/-! ### answers -/
structure Exn where
  nm : Str
  fs : List (PyData × PyData)
/-- an answer, an exception, or nothing known -/
inductive R (α : Type) where
  | ok (a : α) | er (x : Exn) | no
namespace R
variable {α β γ : Type}
/-- an exception goes on -/
def bind (m : R α) (f : α → R β) : R β := match m with
  | .ok a => f a
  | .er x => .er x
  | .no => .no
/-- an exception is not looked for -/
def bnd (m : R α) (f : α → R β) : R β := match m with
  | .ok a => f a
  | _ => .no
def ofO (m : Option α) : R α := match m with
  | some a => .ok a
  | none => .no
end R
def op1 (f : PyData → Option PyData) (a : R PyData) : R PyData := a.bnd fun x => R.ofO (f x)
def op2 (f : PyData → PyData → Option PyData) (a b : R PyData) : R PyData := a.bnd fun x => b.bnd fun y => R.ofO (f x y)
def op3 (f : PyData → PyData → PyData → Option PyData) (a b c : R PyData) : R PyData := a.bnd fun x => b.bnd fun y => c.bnd fun z => R.ofO (f x y z)
/-- a list told as data -/
def liR (m : R (List PyData)) : R PyData := m.bind fun ds => .ok (.list ds)
def tuR (m : R (List PyData)) : R PyData := m.bind fun ds => .ok (.tuple ds)
def rnil : R (List PyData) := .ok []
def rcons (a : R PyData) (m : R (List PyData)) : R (List PyData) := a.bind fun d => m.bind fun ds => .ok (d :: ds)
def c1 (f : PyData → R PyData) (a : R PyData) : R PyData := a.bind f
def c2 (f : PyData → PyData → R PyData) (a b : R PyData) : R PyData := a.bind fun x => b.bind fun y => f x y
def c3 (f : PyData → PyData → PyData → R PyData) (a b c : R PyData) : R PyData := a.bind fun x => b.bind fun y => c.bind fun z => f x y z
def c4 (f : PyData → PyData → PyData → PyData → R PyData) (a b c d : R PyData) : R PyData := a.bind fun x => b.bind fun y => c.bind fun z => d.bind fun u => f x y z u
def c5 (f : PyData → PyData → PyData → PyData → PyData → R PyData) (a b c d e : R PyData) : R PyData := a.bind fun x => b.bind fun y => c.bind fun z => d.bind fun u => e.bind fun v => f x y z u v
def c6 (f : PyData → PyData → PyData → PyData → PyData → PyData → R PyData) (a b c d e g : R PyData) : R PyData := a.bind fun x => b.bind fun y => c.bind fun z => d.bind fun u => e.bind fun v => g.bind fun w => f x y z u v w
def u1 (f : PyData → R PyData) : List PyData → R PyData
  | [x] => f x
  | _ => .no
def u2 (f : PyData → PyData → R PyData) : List PyData → R PyData
  | [x, y] => f x y
  | _ => .no
def u3 (f : PyData → PyData → PyData → R PyData) : List PyData → R PyData
  | [x, y, z] => f x y z
  | _ => .no
def u4 (f : PyData → PyData → PyData → PyData → R PyData) : List PyData → R PyData
  | [x, y, z, u] => f x y z u
  | _ => .no
def u5 (f : PyData → PyData → PyData → PyData → PyData → R PyData) : List PyData → R PyData
  | [x, y, z, u, v] => f x y z u v
  | _ => .no
def u6 (f : PyData → PyData → PyData → PyData → PyData → PyData → R PyData) : List PyData → R PyData
  | [x, y, z, u, v, w] => f x y z u v w
  | _ => .no
/-! tests -/
def tNt (a : R Bool) : R Bool := a.bnd fun x => .ok (!x)
def tAn (a b : R Bool) : R Bool := a.bnd fun x => if x then b else .ok false
def tOo (a b : R Bool) : R Bool := a.bnd fun x => if x then .ok true else b
/-- a choice -/
def iff (c : R Bool) (a b : R α) : R α := c.bnd fun p => if p then a else b
/-! ### exceptions let out -/
variable [Tabs]
/-- the fields of an exception -/
def XdOk (K : PySem.W.Frag) (H : Hp) (fs : List (PyData × PyData)) (od : Option Addr) : Prop :=
  (fs = [] ∧ od = none) ∨ ∃ d kvs f r, fs = f :: r ∧ od = some d ∧ H d = some (.xd kvs) ∧ DqSV K H kvs fs
structure AE (X : Cx) (B : Bs) (Γ : Gm) (x : Exn) : Prop where
  ex : ∃ W D, X.mg x.nm = some (.ref D) ∧ Takes X W ∧ ∀ σ H Hs od, Enb X.K B H Hs σ Γ → XdOk X.K Hs x.fs od → W (.ref D) od σ H
/-- .. wherever the def stands -/
def AEs (X : Cx) (B : Bs) (x : Exn) : Prop := ∀ Γ B', B'.H0 = B.H0 → B'.Hs0 = B.Hs0 → AE X B' Γ x
theorem AEs.at {X : Cx} {B : Bs} {x : Exn} (h : AEs X B x) (Γ : Gm) : AE X B Γ x := h Γ B rfl rfl
section
variable {X X' : Cx} {B : Bs} {Γ Γ1 Γ2 : Gm} {e a b c o : Expr} {es : List Expr} {d d1 d2 d3 : PyData} {ds : List PyData} {pos p' ap : Pos} {x : Str} {i j k : Nat} {p q r : Bool} {y z : Str}
def Xza (X : Cx) (B : Bs) (Γ : Gm) (es : List Expr) : Prop := ∀ H Hs σ, Enb X.K B H Hs σ Γ → ∀ Q : List V → Hp → Prop, uA X es σ H Q
/-! ### the judgements -/
def EvP (X : Cx) (B : Bs) (Γ : Gm) (e : Expr) : R PyData → Prop
  | .ok d => Xp X B Γ e d
  | .er x => AE X B Γ x → Xz X B Γ e
  | .no => True
/-- a fresh list -/
def EvL (X : Cx) (B : Bs) (Γ : Gm) (e : Expr) : R (List PyData) → Prop
  | .ok ds => Xl X B Γ e ds
  | .er x => AE X B Γ x → Xz X B Γ e
  | .no => True
def EvT (X : Cx) (B : Bs) (Γ : Gm) (e : Expr) : R Bool → Prop
  | .ok p => Xt X B Γ e p
  | _ => True
def EvW (X : Cx) (B : Bs) (Γ : Gm) (e : Expr) : R Bool → Prop
  | .ok p => Xw X B Γ e p
  | _ => True
def EvQ (X : Cx) (B : Bs) (Γ : Gm) (es : List Expr) : R Bool → Prop
  | .ok p => Xq X B Γ es p
  | _ => True
def EvA (X : Cx) (B : Bs) (Γ : Gm) (es : List Expr) : R (List PyData) → Prop
  | .ok ds => Xa X B Γ es ds ∧ ds.length = es.length
  | .er x => AE X B Γ x → Xza X B Γ es
  | .no => True
def EvI (X : Cx) (B : Bs) (Γ : Gm) (tg e : Expr) : R (List PyData) → Prop
  | .ok ds => Xi X B Γ tg e ds
  | _ => True
def EvO (X : Cx) (B : Bs) (Γ : Gm) (e : Option Expr) : R (Option Int) → Prop
  | .ok l => Xo X B Γ e l
  | _ => True
variable {ma mb mc : R PyData} {ms : R (List PyData)} {mt mu : R Bool}
theorem ev_no (h : ∀ d, ma = .ok d → Xp X B Γ e d) (hx : ∀ y, ma ≠ .er y) : EvP X B Γ e ma := by
  cases ma with
  | ok d => exact h d rfl
  | er y => exact absurd rfl (hx y)
  | no => trivial
theorem ofO_ok {α : Type} {m : Option α} {a : α} (h : R.ofO m = .ok a) : m = some a := by
  cases m with
  | none => cases h
  | some b => cases h; rfl
theorem ofO_er {α : Type} {m : Option α} {y : Exn} (h : R.ofO m = .er y) : False := by
  cases m <;> cases h
theorem ev_op1 {f : PyData → Option PyData} (ha : EvP X B Γ a ma) (h : ∀ d1 d, f d1 = some d → Xp X B Γ a d1 → Xp X B Γ e d) : EvP X B Γ e (op1 f ma) := by
  cases ma with
  | ok d1 => exact ev_no (fun d hd => h d1 d (ofO_ok hd) ha) fun y hy => ofO_er hy
  | er y => trivial
  | no => trivial
theorem ev_op2 {f : PyData → PyData → Option PyData} (ha : EvP X B Γ a ma) (hb : EvP X B Γ b mb) (h : ∀ d1 d2 d, f d1 d2 = some d → Xp X B Γ a d1 → Xp X B Γ b d2 → Xp X B Γ e d) : EvP X B Γ e (op2 f ma mb) := by
  cases ma with
  | ok d1 =>
    cases mb with
    | ok d2 => exact ev_no (fun d hd => h d1 d2 d (ofO_ok hd) ha hb) fun y hy => ofO_er hy
    | er y => trivial
    | no => trivial
  | er y => trivial
  | no => trivial
theorem ev_op3 {f : PyData → PyData → PyData → Option PyData} (ha : EvP X B Γ a ma) (hb : EvP X B Γ b mb) (hc : EvP X B Γ c mc) (h : ∀ d1 d2 d3 d, f d1 d2 d3 = some d → Xp X B Γ a d1 → Xp X B Γ b d2 → Xp X B Γ c d3 → Xp X B Γ e d) : EvP X B Γ e (op3 f ma mb mc) := by
  cases ma with
  | ok d1 =>
    cases mb with
    | ok d2 =>
      cases mc with
      | ok d3 => exact ev_no (fun d hd => h d1 d2 d3 d (ofO_ok hd) ha hb hc) fun y hy => ofO_er hy
      | er y => trivial
      | no => trivial
    | er y => trivial
    | no => trivial
  | er y => trivial
  | no => trivial
theorem ev_liR (h : EvL X B Γ e ms) : EvP X B Γ e (liR ms) := by
  cases ms with
  | ok ds => exact xp_l h
  | er y => exact h
  | no => trivial
/-! names, constants -/
theorem ev_var (h : Rk X i x) (k : Tt (Γ[i]? = some (.sh d)) := by exact ⟨rfl⟩) : EvP X B Γ (.Name x pos) (.ok d) := xp_var h k.h
theorem ev_cn (h : Gl X x) (k : Cn X x d) : EvP X B Γ (.Name x pos) (.ok d) := xp_cn h k
theorem ev_int {n : Int} {k} : EvP X B Γ (.Constant (.int n) k pos) (.ok (.int n)) := xp_int
theorem ev_str {z : Str} {k} : EvP X B Γ (.Constant (.str z) k pos) (.ok (.str z)) := xp_str
theorem ev_bl {z : Bool} {k} : EvP X B Γ (.Constant (.bool z) k pos) (.ok (.bool z)) := xp_bl
theorem ev_non {k} : EvP X B Γ (.Constant .none k pos) (.ok .none) := xp_non
/-! ### operators -/
instance {m n : Int} : Decidable (CMulW m n) := by unfold CMulW; infer_instance
instance {m n : Int} : Decidable (CDivG m n) := by unfold CDivG; infer_instance
instance {m n : Int} : Decidable (CPow m n) := by unfold CPow; infer_instance
def vAdd : PyData → PyData → Option PyData
  | .int m, .int n => some (.int (m + n))
  | .str y, .str z => if y.length + z.length ≤ 1000000 then some (.str (y ++ z)) else none
  | .list xs, .list ys => if xs.length + ys.length ≤ 1000000 then some (.list (xs ++ ys)) else none
  | .tuple xs, .tuple ys => if xs.length + ys.length ≤ 1000000 then some (.tuple (xs ++ ys)) else none
  | _, _ => none
def vSub : PyData → PyData → Option PyData
  | .int m, .int n => some (.int (m - n))
  | _, _ => none
def vMul : PyData → PyData → Option PyData
  | .int m, .int n => if CMulW m n then some (.int (m * n)) else none
  | _, _ => none
def vFdiv : PyData → PyData → Option PyData
  | .int m, .int n => if 0 < n ∧ n < 1073741824 then some (.int (m / n)) else if CDivG m n then some (.int (m.fdiv n)) else none
  | _, _ => none
def vMod : PyData → PyData → Option PyData
  | .int m, .int n => if 0 < n then some (.int (m % n)) else none
  | _, _ => none
def vPow : PyData → PyData → Option PyData
  | .int m, .int n => if CPow m n then some (.int (m ^ n.toNat)) else none
  | _, _ => none
def vShl : PyData → PyData → Option PyData
  | .int m, .int n => if m = 1 ∧ 0 ≤ n ∧ n ≤ 1000000 then some (.int (2 ^ n.toNat)) else none
  | _, _ => none
def vShr : PyData → PyData → Option PyData
  | .int m, .int n => if 0 ≤ n then some (.int (m / 2 ^ n.toNat)) else none
  | _, _ => none
def vBand : PyData → PyData → Option PyData
  | .int m, .int n => some (.int (Builtin.bitAnd m n))
  | _, _ => none
def vBor : PyData → PyData → Option PyData
  | .int m, .int n => some (.int (Builtin.bitOr m n))
  | _, _ => none
def vXor : PyData → PyData → Option PyData
  | .int m, .int n => some (.int (Builtin.bitXor m n))
  | _, _ => none
def vNeg : PyData → Option PyData
  | .int m => some (.int (-m))
  | _ => none
def vInv : PyData → Option PyData
  | .int m => some (.int (Builtin.bitNot m))
  | _ => none
theorem ev_add (ha : EvP X B Γ a ma) (hb : EvP X B Γ b mb) : EvP X B Γ (.BinOp a .Add b pos) (op2 vAdd ma mb) := ev_op2 ha hb fun d1 d2 d h xa xb => by
  unfold vAdd at h
  split at h
  · cases h; exact xe_add xa xb .int
  · split at h
    · cases h; rename_i q; exact xe_add xa xb (.str ⟨side_size q⟩)
    · cases h
  · split at h
    · cases h; rename_i q; exact xe_add xa xb (.lst ⟨side_size q⟩)
    · cases h
  · split at h
    · cases h; rename_i q; exact xe_add xa xb (.tup ⟨side_size q⟩)
    · cases h
  · cases h
theorem ev_addL {m1 m2 : R (List PyData)} (ha : EvP X B Γ a ma) (hb : EvP X B Γ b mb) : EvL X B Γ (.BinOp a .Add b pos) ((op2 vAdd ma mb).bnd fun d => match d with | .list ds => .ok ds | _ => .no) := by
  cases ma with
  | ok d1 =>
    cases mb with
    | ok d2 =>
      cases d1 with
      | list xs =>
        cases d2 with
        | list ys =>
          show EvL X B Γ _ ((R.ofO (if xs.length + ys.length ≤ 1000000 then _ else _)).bnd _)
          split
          · rename_i q
            exact xl_cat ha hb (side_size q)
          · trivial
        | _ => trivial
      | int m => cases d2 <;> trivial
      | str y =>
        cases d2 with
        | str z =>
          show EvL X B Γ _ ((R.ofO (if y.length + z.length ≤ 1000000 then _ else _)).bnd _)
          split <;> trivial
        | _ => trivial
      | tuple xs =>
        cases d2 with
        | tuple ys =>
          show EvL X B Γ _ ((R.ofO (if xs.length + ys.length ≤ 1000000 then _ else _)).bnd _)
          split <;> trivial
        | _ => trivial
      | none => cases d2 <;> trivial
      | bool b => cases d2 <;> trivial
      | dict es => cases d2 <;> trivial
    | er y => trivial
    | no => trivial
  | er y => trivial
  | no => trivial
theorem ev_sub (ha : EvP X B Γ a ma) (hb : EvP X B Γ b mb) : EvP X B Γ (.BinOp a .Sub b pos) (op2 vSub ma mb) := ev_op2 ha hb fun d1 d2 d h xa xb => by
  unfold vSub at h
  split at h
  · cases h; exact xe_sub xa xb
  · cases h
theorem ev_mul (ha : EvP X B Γ a ma) (hb : EvP X B Γ b mb) : EvP X B Γ (.BinOp a .Mult b pos) (op2 vMul ma mb) := ev_op2 ha hb fun d1 d2 d h xa xb => by
  unfold vMul at h
  split at h
  · split at h
    · cases h; rename_i q; exact xe_mul xa xb (.int ⟨q⟩)
    · cases h
  · cases h
theorem ev_fdiv (ha : EvP X B Γ a ma) (hb : EvP X B Γ b mb) : EvP X B Γ (.BinOp a .FloorDiv b pos) (op2 vFdiv ma mb) := ev_op2 ha hb fun d1 d2 d h xa xb => by
  unfold vFdiv at h
  split at h
  · split at h
    · cases h; rename_i q; exact xe_fdiv xa xb (.lit q)
    · split at h
      · cases h; rename_i q; exact xe_fdiv xa xb (.gen ⟨q⟩)
      · cases h
  · cases h
theorem ev_mod (ha : EvP X B Γ a ma) (hb : EvP X B Γ b mb) : EvP X B Γ (.BinOp a .Mod b pos) (op2 vMod ma mb) := ev_op2 ha hb fun d1 d2 d h xa xb => by
  unfold vMod at h
  split at h
  · split at h
    · cases h; rename_i q; exact xe_mod xa xb ⟨q⟩
    · cases h
  · cases h
theorem ev_pow (ha : EvP X B Γ a ma) (hb : EvP X B Γ b mb) : EvP X B Γ (.BinOp a .Pow b pos) (op2 vPow ma mb) := ev_op2 ha hb fun d1 d2 d h xa xb => by
  unfold vPow at h
  split at h
  · split at h
    · cases h; rename_i q; exact xe_pow xa xb ⟨q⟩
    · cases h
  · cases h
theorem ev_shl (ha : EvP X B Γ a ma) (hb : EvP X B Γ b mb) : EvP X B Γ (.BinOp a .LShift b pos) (op2 vShl ma mb) := ev_op2 ha hb fun d1 d2 d h xa xb => by
  unfold vShl at h
  split at h
  · split at h
    · cases h; rename_i q; obtain ⟨rfl, q2⟩ := q; exact xe_shl1 xa xb ⟨q2⟩
    · cases h
  · cases h
theorem ev_shr (ha : EvP X B Γ a ma) (hb : EvP X B Γ b mb) : EvP X B Γ (.BinOp a .RShift b pos) (op2 vShr ma mb) := ev_op2 ha hb fun d1 d2 d h xa xb => by
  unfold vShr at h
  split at h
  · split at h
    · cases h; rename_i q; exact xe_shr xa xb ⟨q⟩
    · cases h
  · cases h
theorem ev_band (ha : EvP X B Γ a ma) (hb : EvP X B Γ b mb) : EvP X B Γ (.BinOp a .BitAnd b pos) (op2 vBand ma mb) := ev_op2 ha hb fun d1 d2 d h xa xb => by
  unfold vBand at h
  split at h
  · cases h; exact xe_band xa xb
  · cases h
theorem ev_bor (ha : EvP X B Γ a ma) (hb : EvP X B Γ b mb) : EvP X B Γ (.BinOp a .BitOr b pos) (op2 vBor ma mb) := ev_op2 ha hb fun d1 d2 d h xa xb => by
  unfold vBor at h
  split at h
  · cases h; exact xe_bor xa xb
  · cases h
theorem ev_xor (ha : EvP X B Γ a ma) (hb : EvP X B Γ b mb) : EvP X B Γ (.BinOp a .BitXor b pos) (op2 vXor ma mb) := ev_op2 ha hb fun d1 d2 d h xa xb => by
  unfold vXor at h
  split at h
  · cases h; exact xe_bxor xa xb
  · cases h
theorem ev_neg (ha : EvP X B Γ a ma) : EvP X B Γ (.UnaryOp .USub a pos) (op1 vNeg ma) := ev_op1 ha fun d1 d h xa => by
  unfold vNeg at h
  split at h
  · cases h; exact xp_neg xa
  · cases h
theorem ev_inv (ha : EvP X B Γ a ma) : EvP X B Γ (.UnaryOp .Invert a pos) (op1 vInv ma) := ev_op1 ha fun d1 d h xa => by
  unfold vInv at h
  split at h
  · cases h; exact xe_binv xa
  · cases h
/-! ### comparisons -/
def vEq (d1 d2 : PyData) : Option Bool := match d1, d2 with
  | .int m, .int n => some (decide (m = n))
  | .str y, .str z => some (decide (y = z))
  | .bool p, .bool q => some (decide (p = q))
  | d1, d2 => if SeqAt.shaped d1 = true ∧ SeqAt.shaped d2 = true then some (PyData.eqv d1 d2) else none
def vNe (d1 d2 : PyData) : Option Bool := (vEq d1 d2).map (!·)
def vLt : PyData → PyData → Option Bool
  | .int m, .int n => some (decide (m < n))
  | _, _ => none
def vLe : PyData → PyData → Option Bool
  | .int m, .int n => some (decide (m ≤ n))
  | _, _ => none
def vGt : PyData → PyData → Option Bool
  | .int m, .int n => some (decide (n < m))
  | _, _ => none
def vGe : PyData → PyData → Option Bool
  | .int m, .int n => some (decide (n ≤ m))
  | _, _ => none
def vIs : PyData → PyData → Option Bool
  | d, .none => some (isNone d)
  | .bool p, .bool q => some (decide (p = q))
  | _, _ => none
def vIsN (d1 d2 : PyData) : Option Bool := (vIs d1 d2).map (!·)
/-- the one sign of a text -/
def sgnOf (y : Str) : Option Nat := match y.cps.toList with
  | [k] => some k
  | _ => none
theorem sgn_is {y : Str} {k : Nat} (h : sgnOf y = some k) : y = ⟨#[k]⟩ := by
  unfold sgnOf at h
  split at h
  · rename_i j e
    cases h
    have : y.cps = #[k] := by rw [← Array.toList_inj, e]
    cases y
    simp only at this
    rw [this]
  · cases h
def vIn (d1 d2 : PyData) : Option Bool := match d2 with
  | .list ds => if flatD d1 = true ∧ ds.all flatD = true then some (inD d1 ds) else none
  | .tuple ds => if flatD d1 = true ∧ ds.all flatD = true then some (inD d1 ds) else none
  | .str z => match d1 with
    | .str y => (sgnOf y).map fun k => decide (k ∈ z.cps.toList)
    | _ => none
  | _ => none
def vNin (d1 d2 : PyData) : Option Bool := (vIn d1 d2).map (!·)
def CkOk (X : Cx) (op : CmpOp) (f : PyData → PyData → Option Bool) : Prop := ∀ d1 d2 p, f d1 d2 = some p → CmpOk X op d1 d2 p
theorem ck_lt' : CkOk X .Lt vLt := fun d1 d2 p h => by
  unfold vLt at h
  split at h <;> cases h
  exact ck_lt
theorem ck_le' : CkOk X .LtE vLe := fun d1 d2 p h => by
  unfold vLe at h
  split at h <;> cases h
  exact ck_le
theorem ck_gt' : CkOk X .Gt vGt := fun d1 d2 p h => by
  unfold vGt at h
  split at h <;> cases h
  exact ck_gt
theorem ck_ge' : CkOk X .GtE vGe := fun d1 d2 p h => by
  unfold vGe at h
  split at h <;> cases h
  exact ck_ge
theorem ck_eq' (hu : Rm X) : CkOk X .Eq vEq := fun d1 d2 p h => by
  unfold vEq at h
  split at h
  · cases h; exact ck_eqi
  · cases h; exact ck_eqs
  · cases h; exact ck_eqb
  · split at h <;> cases h
    rename_i q
    exact ck_eqd hu ⟨q.1⟩ ⟨q.2⟩
theorem ck_ne' (hu : Rm X) : CkOk X .NotEq vNe := fun d1 d2 p h => by
  unfold vNe vEq at h
  split at h
  · cases h; exact ck_nei
  · cases h; exact ck_nes
  · cases h; exact ck_neb
  · split at h <;> cases h
    rename_i q
    exact ck_ned hu ⟨q.1⟩ ⟨q.2⟩
theorem ck_is' : CkOk X .Is vIs := fun d1 d2 p h => by
  unfold vIs at h
  split at h <;> cases h
  · exact ck_isN
  · exact ck_isB
theorem ck_isn' : CkOk X .IsNot vIsN := fun d1 d2 p h => by
  unfold vIsN vIs at h
  split at h <;> cases h
  · exact ck_notN
  · exact ck_notB
theorem ck_in' : CkOk X .In vIn := fun d1 d2 p h => by
  unfold vIn at h
  split at h
  · split at h <;> cases h
    rename_i q
    exact ck_inL ⟨q.1⟩ ⟨q.2⟩
  · split at h <;> cases h
    rename_i q
    exact ck_inT ⟨q.1⟩ ⟨q.2⟩
  · split at h
    · rename_i y
      cases hk : sgnOf y with
      | none => rw [hk] at h; cases h
      | some k =>
        rw [hk] at h
        cases h
        rw [sgn_is hk]
        exact ck_inS
    · cases h
  · cases h
theorem ck_nin' : CkOk X .NotIn vNin := fun d1 d2 p h => by
  unfold vNin vIn at h
  split at h
  · split at h <;> cases h
    rename_i q
    exact ck_ninL ⟨q.1⟩ ⟨q.2⟩
  · split at h <;> cases h
    rename_i q
    exact ck_ninT ⟨q.1⟩ ⟨q.2⟩
  · split at h
    · rename_i y
      cases hk : sgnOf y with
      | none => rw [hk] at h; cases h
      | some k =>
        rw [hk] at h
        cases h
        rw [sgn_is hk]
        exact ck_ninS
    · cases h
  · cases h
/-- a comparison's answer -/
def cm2 (f : PyData → PyData → Option Bool) (a b : R PyData) : R Bool := a.bnd fun x => b.bnd fun y => R.ofO (f x y)
/-- two in a row -/
def cm3 (f g : PyData → PyData → Option Bool) (a b c : R PyData) : R Bool := a.bnd fun x => b.bnd fun y => c.bnd fun z => (R.ofO (f x y)).bnd fun p => (R.ofO (g y z)).bnd fun q => .ok (p && q)
def blR (m : R Bool) : R PyData := m.bnd fun p => .ok (.bool p)
variable {f g : PyData → PyData → Option Bool} {op op' : CmpOp}
theorem cm2_inv (P : R Bool → Prop) (h : ∀ d1 d2 p, ma = .ok d1 → mb = .ok d2 → f d1 d2 = some p → P (.ok p)) (hn : P .no) : P (cm2 f ma mb) := by
  cases ma with
  | ok d1 =>
    cases mb with
    | ok d2 =>
      show P (R.ofO (f d1 d2))
      cases hf : f d1 d2 with
      | none => exact hn
      | some p => exact h d1 d2 p rfl rfl hf
    | er y => exact hn
    | no => exact hn
  | er y => exact hn
  | no => exact hn
theorem cm3_inv (P : R Bool → Prop) (h : ∀ d1 d2 d3 p q, ma = .ok d1 → mb = .ok d2 → mc = .ok d3 → f d1 d2 = some p → g d2 d3 = some q → P (.ok (p && q))) (hn : P .no) : P (cm3 f g ma mb mc) := by
  cases ma with
  | ok d1 =>
    cases mb with
    | ok d2 =>
      cases mc with
      | ok d3 =>
        show P ((R.ofO (f d1 d2)).bnd fun p => (R.ofO (g d2 d3)).bnd fun q => .ok (p && q))
        cases hf : f d1 d2 with
        | none => exact hn
        | some p =>
          show P ((R.ofO (g d2 d3)).bnd fun q => .ok (p && q))
          cases hg : g d2 d3 with
          | none => exact hn
          | some q => exact h d1 d2 d3 p q rfl rfl rfl hf hg
      | er y => exact hn
      | no => exact hn
    | er y => exact hn
    | no => exact hn
  | er y => exact hn
  | no => exact hn
theorem ev_cmp (k : CkOk X op f) (ha : EvP X B Γ a ma) (hb : EvP X B Γ b mb) (hm : Tt (behindInMarks op b = false) := by exact ⟨rfl⟩) : EvP X B Γ (.Compare a [op] [b] pos) (blR (cm2 f ma mb)) :=
  cm2_inv (fun m => EvP X B Γ _ (blR m)) (fun d1 d2 p e1 e2 hf => by subst e1; subst e2; exact xe_cmp hm ha hb (k _ _ _ hf)) trivial
theorem et_cmp (k : CkOk X op f) (ha : EvP X B Γ a ma) (hb : EvP X B Γ b mb) (hm : Tt (behindInMarks op b = false) := by exact ⟨rfl⟩) : EvT X B Γ (.Compare a [op] [b] pos) (cm2 f ma mb) :=
  cm2_inv (fun m => EvT X B Γ _ m) (fun d1 d2 p e1 e2 hf => by subst e1; subst e2; exact xte_cmp hm ha hb (k _ _ _ hf)) trivial
theorem ev_chain (k : CkOk X op f) (k' : CkOk X op' g) (ha : EvP X B Γ a ma) (hb : EvP X B Γ b mb) (hc : EvP X B Γ c mc) (hm : Tt (lastMarks [op, op'] [b, c] = false) := by exact ⟨rfl⟩) : EvP X B Γ (.Compare a [op, op'] [b, c] pos) (blR (cm3 f g ma mb mc)) :=
  cm3_inv (fun m => EvP X B Γ _ (blR m)) (fun d1 d2 d3 p q e1 e2 e3 hf hg => by subst e1; subst e2; subst e3; exact xe_chain hm ha hb (k _ _ _ hf) hc (k' _ _ _ hg)) trivial
theorem et_chain (k : CkOk X op f) (k' : CkOk X op' g) (ha : EvP X B Γ a ma) (hb : EvP X B Γ b mb) (hc : EvP X B Γ c mc) (hm : Tt (lastMarks [op, op'] [b, c] = false) := by exact ⟨rfl⟩) : EvT X B Γ (.Compare a [op, op'] [b, c] pos) (cm3 f g ma mb mc) :=
  cm3_inv (fun m => EvT X B Γ _ m) (fun d1 d2 d3 p q e1 e2 e3 hf hg => by subst e1; subst e2; subst e3; exact xte_chain hm ha hb (k _ _ _ hf) hc (k' _ _ _ hg)) trivial
/-! ### truth -/
def vTru : PyData → Option Bool
  | .none => some false
  | .bool p => some p
  | .int m => some (m != 0)
  | .str y => if y.length ≤ 1000000 then some ((y.length : Int) != 0) else none
  | .list ds => some (!ds.isEmpty)
  | .tuple ds => some (!ds.isEmpty)
  | .dict _ => none
def trR (m : R PyData) : R Bool := m.bnd fun d => R.ofO (vTru d)
theorem et_tru (h : EvP X B Γ e ma) (he : Tt (∀ whole, isTrue e X.env whole = (do let v ← whole; standAt e.pos; holding [v] (truthy v))) := by exact ⟨fun _ => rfl⟩) : EvT X B Γ e (trR ma) := by
  cases ma with
  | ok d =>
    show EvT X B Γ e (R.ofO (vTru d))
    cases hd : vTru d with
    | none => trivial
    | some p =>
      show Xt X B Γ e p
      cases d with
      | none => cases hd; exact xt_any he h .non
      | bool p => cases hd; exact xt_any he h .bl
      | int m => cases hd; exact xt_any he h .int
      | str y =>
        unfold vTru at hd
        dsimp only at hd
        split at hd <;> cases hd
        rename_i q
        exact xt_any he h (.str ⟨side_size q⟩)
      | list ds => cases hd; exact xt_any he h .lst
      | tuple ds => cases hd; exact xt_any he h .tup
      | dict es => cases hd
  | er y => trivial
  | no => trivial
theorem et_not (h : EvT X B Γ a mt) : EvT X B Γ (.UnaryOp .Not a pos) (tNt mt) := by
  cases mt with
  | ok p => exact xt_not h
  | er y => trivial
  | no => trivial
theorem ew_and1 (h : EvT X B Γ a mt) : EvW X B Γ (.BoolOp .And [a] pos) mt := by
  cases mt with
  | ok p => exact xw_and1 h
  | er y => trivial
  | no => trivial
theorem ew_or1 (h : EvT X B Γ a mt) : EvW X B Γ (.BoolOp .Or [a] pos) mt := by
  cases mt with
  | ok p => exact xw_or1 h
  | er y => trivial
  | no => trivial
theorem ew_and (h : EvT X B Γ a mt) (hu : EvW X B Γ (.BoolOp .And (b :: es) pos) mu) : EvW X B Γ (.BoolOp .And (a :: b :: es) pos) (tAn mt mu) := by
  cases mt with
  | ok p =>
    cases p with
    | true =>
      cases mu with
      | ok q => exact xw_and (q := q) h fun _ => hu
      | er y => trivial
      | no => trivial
    | false => exact xw_and (q := false) h fun z => nomatch z
  | er y => trivial
  | no => trivial
theorem ew_or (h : EvT X B Γ a mt) (hu : EvW X B Γ (.BoolOp .Or (b :: es) pos) mu) : EvW X B Γ (.BoolOp .Or (a :: b :: es) pos) (tOo mt mu) := by
  cases mt with
  | ok p =>
    cases p with
    | true => exact xw_or (q := false) h fun z => nomatch z
    | false =>
      cases mu with
      | ok q => exact xw_or (q := q) h fun _ => hu
      | er y => trivial
      | no => trivial
  | er y => trivial
  | no => trivial
theorem et_w {op} (h : EvW X B Γ (.BoolOp op es pos) mt) : EvT X B Γ (.BoolOp op es pos) mt := by
  cases mt with
  | ok p => exact xt_w h
  | er y => trivial
  | no => trivial
/-! truth values as answers -/
def vNot : PyData → Option PyData
  | .bool p => some (.bool (!p))
  | _ => none
def anV (a b : R PyData) : R PyData := a.bnd fun x => match x with
  | .bool true => b.bnd fun y => match y with
    | .bool q => .ok (.bool q)
    | _ => .no
  | .bool false => .ok (.bool false)
  | _ => .no
def orV (a b : R PyData) : R PyData := a.bnd fun x => match x with
  | .bool false => b.bnd fun y => match y with
    | .bool q => .ok (.bool q)
    | _ => .no
  | .bool true => .ok (.bool true)
  | _ => .no
theorem ev_not (ha : EvP X B Γ a ma) : EvP X B Γ (.UnaryOp .Not a pos) (op1 vNot ma) := ev_op1 ha fun d1 d h xa => by
  unfold vNot at h
  split at h <;> cases h
  exact xp_not xa
theorem ev_one {op} (h : EvP X B Γ a ma) : EvP X B Γ (.BoolOp op [a] pos) ma := by
  cases ma with
  | ok d => exact xp_one h
  | er y => exact fun ax H Hs σ E Q => ⟨_, pe_one pe_u, h ax H Hs σ E Q⟩
  | no => trivial
theorem ev_and (ha : EvP X B Γ a ma) (hb : EvP X B Γ (.BoolOp .And (b :: es) pos) mb) : EvP X B Γ (.BoolOp .And (a :: b :: es) pos) (anV ma mb) := by
  cases ma with
  | ok d =>
    cases d with
    | bool p =>
      cases p with
      | true =>
        cases mb with
        | ok d2 =>
          cases d2 with
          | bool q => exact xp_and (q := q) ha fun _ => hb
          | _ => trivial
        | er y => trivial
        | no => trivial
      | false => exact xp_and (q := false) ha fun z => nomatch z
    | _ => trivial
  | er y => trivial
  | no => trivial
theorem ev_or (ha : EvP X B Γ a ma) (hb : EvP X B Γ (.BoolOp .Or (b :: es) pos) mb) : EvP X B Γ (.BoolOp .Or (a :: b :: es) pos) (orV ma mb) := by
  cases ma with
  | ok d =>
    cases d with
    | bool p =>
      cases p with
      | true => exact xp_or (q := false) ha fun z => nomatch z
      | false =>
        cases mb with
        | ok d2 =>
          cases d2 with
          | bool q => exact xp_or (q := q) ha fun _ => hb
          | _ => trivial
        | er y => trivial
        | no => trivial
    | _ => trivial
  | er y => trivial
  | no => trivial
theorem ev_if (hc : EvT X B Γ c mt) (ha : EvP X B Γ a ma) (hb : EvP X B Γ b mb) : EvP X B Γ (.IfExp c a b pos) (iff mt ma mb) := by
  cases mt with
  | ok p =>
    cases p with
    | true =>
      show EvP X B Γ _ ma
      cases ma with
      | ok d => exact xp_if hc (fun _ => ha) fun z => nomatch z
      | er y => exact fun ax H Hs σ E Q => ⟨_, pe_ifExp pt_u pe_u pe_u, hc H Hs σ E _ fun H1 Hs1 g1 => ha ax H1 Hs1 σ (E.grow g1) Q⟩
      | no => trivial
    | false =>
      show EvP X B Γ _ mb
      cases mb with
      | ok d => exact xp_if hc (fun z => nomatch z) fun _ => hb
      | er y => exact fun ax H Hs σ E Q => ⟨_, pe_ifExp pt_u pe_u pe_u, hc H Hs σ E _ fun H1 Hs1 g1 => hb ax H1 Hs1 σ (E.grow g1) Q⟩
      | no => trivial
  | er y => trivial
  | no => trivial
/-! ### arguments, displays -/
theorem ea_nil : EvA X B Γ [] rnil := ⟨xa_nil, rfl⟩
theorem ea_cons (h : EvP X B Γ e ma) (hr : EvA X B Γ es ms) (hs : Tt (St1 X e es) := by exact ⟨rfl⟩) : EvA X B Γ (e :: es) (rcons ma ms) := by
  cases ma with
  | ok d =>
    cases ms with
    | ok ds => exact ⟨xae_cons hs h hr.1, by rw [List.length_cons, List.length_cons, hr.2]⟩
    | er y => exact fun ax H Hs σ E Q => ⟨_, pa_cons pe_u pa_u hs.h, h H Hs σ E _ fun v H1 Hs1 g1 p1 => hr ax H1 Hs1 σ (E.grow g1) _⟩
    | no => trivial
  | er y => exact fun ax H Hs σ E Q => ⟨_, pa_cons pe_u pa_u hs.h, h ax H Hs σ E _⟩
  | no => trivial
theorem ev_tup {x1} (h : EvA X B Γ es ms) (hl : Tt (decide (es.length ≤ 16777216) = true) := by exact ⟨rfl⟩) : EvP X B Γ (.Tuple es x1 pos) (tuR ms) := by
  cases ms with
  | ok ds => exact xe_tup h.1 (by rw [h.2]; exact hl)
  | er y => exact fun ax H Hs σ E Q => ⟨_, pe_tup pa_u, h ax H Hs σ E _⟩
  | no => trivial
theorem el_lst (h : EvA X B Γ es ms) (hl : Tt (decide (es.length ≤ 16777216) = true) := by exact ⟨rfl⟩) : EvL X B Γ (.List es pos) ms := by
  cases ms with
  | ok ds => exact xle_lst h.1 (by rw [h.2]; exact hl)
  | er y => exact fun ax H Hs σ E Q => ⟨_, pe_lst pa_u, h ax H Hs σ E _⟩
  | no => trivial
/-! ### subscripts, slices -/
def vIx : PyData → PyData → Option PyData
  | .list ds, .int n => atI ds n
  | .tuple ds, .int n => atI ds n
  | .str y, .int n => if y.length ≤ 1000000 then (atI y.cps.toList n).map (fun k => .str ⟨#[k]⟩) else none
  | _, _ => none
theorem ev_ix (ha : EvP X B Γ a ma) (hb : EvP X B Γ b mb) (hs : Tt (PlainIx b) := by exact ⟨fun _ _ => rfl⟩) : EvP X B Γ (.Subscript a b pos) (op2 vIx ma mb) := ev_op2 ha hb fun d1 d2 d h xa xb => by
  unfold vIx at h
  split at h
  · exact xe_ix hs xa xb (.lst ⟨h⟩)
  · exact xe_ix hs xa xb (.tup ⟨h⟩)
  · split at h
    · rename_i y n q
      cases hk : atI y.cps.toList n with
      | none => rw [hk] at h; cases h
      | some k =>
        rw [hk] at h
        cases h
        exact xe_ix hs xa xb (.str ⟨side_size q⟩ ⟨hk⟩)
    · cases h
  · cases h
def inR (m : R PyData) : R (Option Int) := m.bnd fun d => match d with
  | .int i => .ok (some i)
  | _ => .no
def noI : R (Option Int) := .ok none
theorem eo_none : EvO X B Γ none noI := xo_none
theorem eo_some (h : EvP X B Γ e ma) : EvO X B Γ (some e) (inR ma) := by
  cases ma with
  | ok d =>
    cases d with
    | int i => exact xo_some h
    | _ => trivial
  | er y => trivial
  | no => trivial
def vSl (d : PyData) (l h : Option Int) : Option PyData := match d with
  | .list ds => some (.list (cutD ds l h))
  | .tuple ds => some (.tuple (cutD ds l h))
  | .str y => if y.length ≤ 1000000 then some (.str (cutS y l h)) else none
  | _ => none
def slR (a : R PyData) (l h : R (Option Int)) : R PyData := a.bnd fun x => l.bnd fun lo => h.bnd fun hi => R.ofO (vSl x lo hi)
theorem ev_sl {lo hi : Option Expr} {l h : R (Option Int)} {p2 : Pos} (he : EvP X B Γ e ma) (hl : EvO X B Γ lo l) (hh : EvO X B Γ hi h) : EvP X B Γ (.Subscript e (.Slice lo hi none p2) pos) (slR ma l h) := by
  cases ma with
  | ok d =>
    cases l with
    | ok l =>
      cases h with
      | ok h =>
        refine ev_no (fun d' hd => ?_) fun y hy => ofO_er hy
        have hd' := ofO_ok hd
        cases d with
        | list ds => cases hd'; exact xe_sl2 he hl hh .lst
        | tuple ds => cases hd'; exact xe_sl2 he hl hh .tup
        | str y =>
          unfold vSl at hd'
          dsimp only at hd'
          split at hd' <;> cases hd'
          rename_i q
          exact xe_sl2 he hl hh (.str ⟨side_size q⟩)
        | none => cases hd'
        | bool _ => cases hd'
        | int _ => cases hd'
        | dict _ => cases hd'
      | er y => trivial
      | no => trivial
    | er y => trivial
    | no => trivial
  | er y => trivial
  | no => trivial
end
end Dl
set_option Elab.async false
set_option linter.all false
set_option maxRecDepth 100000
set_option maxHeartbeats 2000000
/-! Built-in defs, methods, what is walked, comprehensions. -/
namespace Dl
open PySem L2 PyProof.Rows
variable [Tabs]
section
variable {X X' X0 : Cx} {B : Bs} {Γ Γ1 Γ2 : Gm} {e a b c o : Expr} {es : List Expr} {d d1 d2 d3 : PyData} {ds : List PyData} {pos p' ap : Pos} {x : Str} {i j k : Nat} {p q r : Bool} {y z : Str} {ma mb mc : R PyData} {ms : R (List PyData)} {mt mu : R Bool} {scope sc2 : Scope}
def vLen : PyData → Option PyData
  | .list ds => some (.int ds.length)
  | .tuple ds => some (.int ds.length)
  | .str y => if y.length ≤ 1000000 then some (.int y.length) else none
  | _ => none
theorem eb_len (hb : Bi X "len") (h : EvP X B Γ e ma) (he : Tt (St1 X e []) := by exact ⟨rfl⟩) (hp : Tt (Pl1 X pos []) := by exact ⟨rfl⟩) : EvP X B Γ (.Call (.Name "len" p') [e] [] pos) (op1 vLen ma) := ev_op1 h fun d1 d hd xa => by
  unfold vLen at hd
  split at hd
  · cases hd; exact xe_len hb he hp xa .lst
  · cases hd; exact xe_len hb he hp xa .tup
  · split at hd <;> cases hd
    rename_i q
    exact xe_len hb he hp xa (.str ⟨side_size q⟩)
  · cases hd
def vIsi (T : TyN) (d : PyData) : Option PyData := if plainD d = true then some (.bool (isiD d T)) else none
theorem eb_isi {T : TyN} {p2 : Pos} (hb : Bi X "isinstance") (ht : Ty X x T) (h : EvP X B Γ e ma) (he : Tt (St1 X e [.Name x p2]) := by exact ⟨rfl⟩) (he2 : Tt (St1 X (.Name x p2) []) := by exact ⟨rfl⟩) (hp : Tt (Pl1 X pos [.Name x p2]) := by exact ⟨rfl⟩) : EvP X B Γ (.Call (.Name "isinstance" p') [e, .Name x p2] [] pos) (op1 (vIsi T) ma) := ev_op1 h fun d1 d hd xa => by
  unfold vIsi at hd
  split at hd <;> cases hd
  rename_i q
  exact xe_isi hb ht he he2 hp xa q
def vAbs : PyData → Option PyData
  | .int m => some (.int (if m < 0 then -m else m))
  | _ => none
theorem eb_abs (hb : Bi X "abs") (h : EvP X B Γ e ma) (he : Tt (St1 X e []) := by exact ⟨rfl⟩) (hp : Tt (Pl1 X pos []) := by exact ⟨rfl⟩) : EvP X B Γ (.Call (.Name "abs" p') [e] [] pos) (op1 vAbs ma) := ev_op1 h fun d1 d hd xa => by
  unfold vAbs at hd
  split at hd <;> cases hd
  exact xe_abs hb he hp xa
def vMin2 : PyData → PyData → Option PyData
  | .int m, .int n => some (.int (if n < m then n else m))
  | _, _ => none
def vMax2 : PyData → PyData → Option PyData
  | .int m, .int n => some (.int (if n > m then n else m))
  | _, _ => none
theorem eb_min2 (hb : Bi X "min") (ha : EvP X B Γ a ma) (hb2 : EvP X B Γ b mb) (hc : Tt (X.calm = true) := by exact ⟨rfl⟩) (he : Tt (St1 X a [b]) := by exact ⟨rfl⟩) (he2 : Tt (St1 X b []) := by exact ⟨rfl⟩) (hp : Tt (Pl1 X pos [b]) := by exact ⟨rfl⟩) : EvP X B Γ (.Call (.Name "min" p') [a, b] [] pos) (op2 vMin2 ma mb) := ev_op2 ha hb2 fun d1 d2 d hd xa xb => by
  unfold vMin2 at hd
  split at hd <;> cases hd
  exact xe_min hc hb he he2 hp xa xb
theorem eb_max2 (hb : Bi X "max") (ha : EvP X B Γ a ma) (hb2 : EvP X B Γ b mb) (hc : Tt (X.calm = true) := by exact ⟨rfl⟩) (he : Tt (St1 X a [b]) := by exact ⟨rfl⟩) (he2 : Tt (St1 X b []) := by exact ⟨rfl⟩) (hp : Tt (Pl1 X pos [b]) := by exact ⟨rfl⟩) : EvP X B Γ (.Call (.Name "max" p') [a, b] [] pos) (op2 vMax2 ma mb) := ev_op2 ha hb2 fun d1 d2 d hd xa xb => by
  unfold vMax2 at hd
  split at hd <;> cases hd
  exact xe_max hc hb he he2 hp xa xb
def vStr : PyData → Option PyData
  | .int m => if m.natAbs.log2 < 1920 then some (.str (toString m)) else none
  | _ => none
theorem eb_str (hb : Bi X "str") (h : EvP X B Γ e ma) (he : Tt (St1 X e []) := by exact ⟨rfl⟩) (hp : Tt (Pl1 X pos []) := by exact ⟨rfl⟩) : EvP X B Γ (.Call (.Name "str" p') [e] [] pos) (op1 vStr ma) := ev_op1 h fun d1 d hd xa => by
  unfold vStr at hd
  split at hd
  · split at hd <;> cases hd
    rename_i q
    exact xe_str hb he hp xa ⟨q⟩
  · cases hd
def vInt : PyData → Option PyData
  | .str y => if y.length ≤ 640 then (PySem.intText? y).map .int else none
  | .bool p => some (.int (if p then 1 else 0))
  | _ => none
theorem eb_int (hb : Bi X "int") (h : EvP X B Γ e ma) (he : Tt (St1 X e []) := by exact ⟨rfl⟩) (hp : Tt (Pl1 X pos []) := by exact ⟨rfl⟩) : EvP X B Γ (.Call (.Name "int" p') [e] [] pos) (op1 vInt ma) := ev_op1 h fun d1 d hd xa => by
  unfold vInt at hd
  split at hd
  · split at hd
    · rename_i y q
      cases hn : PySem.intText? y with
      | none => rw [hn] at hd; cases hd
      | some m => rw [hn] at hd; cases hd; exact xe_int hb he hp xa (.str ⟨hn⟩ ⟨q⟩)
    · cases hd
  · cases hd; exact xe_int hb he hp xa .bl
  · cases hd
def vGcd : PyData → PyData → Option PyData
  | .int m, .int n => some (.int ((Nat.gcd m.natAbs n.natAbs : Nat) : Int))
  | _, _ => none
theorem eb_gcd (g : Gc X x) (ha : EvP X B Γ a ma) (hb2 : EvP X B Γ b mb) (he : Tt (St1 X a [b]) := by exact ⟨rfl⟩) (he2 : Tt (St1 X b []) := by exact ⟨rfl⟩) (hp : Tt (Pl1 X pos [b]) := by exact ⟨rfl⟩) : EvP X B Γ (.Call (.Name x p') [a, b] [] pos) (op2 vGcd ma mb) := ev_op2 ha hb2 fun d1 d2 d hd xa xb => by
  unfold vGcd at hd
  split at hd <;> cases hd
  exact xe_gcd g he he2 hp xa xb
/-- the things of a list or a tuple -/
def seqD : PyData → Option (List PyData)
  | .list ds => some ds
  | .tuple ds => some ds
  | _ => none
theorem seqD_is {d : PyData} {ds : List PyData} (h : seqD d = some ds) : SeqD d ds := by
  unfold seqD at h
  split at h <;> cases h
  · exact .lst
  · exact .tup
def vTup (d : PyData) : Option PyData := (seqD d).map .tuple
theorem eb_tuple (hb : Bi X "tuple") (h : EvP X B Γ e ma) (he : Tt (St1 X e []) := by exact ⟨rfl⟩) (hp : Tt (Pl1 X pos []) := by exact ⟨rfl⟩) : EvP X B Γ (.Call (.Name "tuple" p') [e] [] pos) (op1 vTup ma) := ev_op1 h fun d1 d hd xa => by
  unfold vTup at hd
  cases hs : seqD d1 with
  | none => rw [hs] at hd; cases hd
  | some ds =>
    rw [hs] at hd
    cases hd
    exact xe_tuple hb he hp xa (seqD_is hs)
/-- the list of a thing -/
def lsR (m : R PyData) : R (List PyData) := m.bnd fun d => R.ofO (seqD d)
theorem el_list (hb : Bi X "list") (h : EvP X B Γ e ma) (he : Tt (St1 X e []) := by exact ⟨rfl⟩) (hp : Tt (Pl1 X pos []) := by exact ⟨rfl⟩) : EvL X B Γ (.Call (.Name "list" p') [e] [] pos) (lsR ma) := by
  cases ma with
  | ok d =>
    show EvL X B Γ _ (R.ofO (seqD d))
    cases hs : seqD d with
    | none => trivial
    | some ds => exact xl_list hb he hp h (seqD_is hs)
  | er y => trivial
  | no => trivial
/-- the numbers of a range -/
def rgR (m : R PyData) : R (List PyData) := m.bnd fun d => match d with
  | .int n => if -(2 ^ 62) ≤ n ∧ n < 2 ^ 62 then .ok (rangeD 0 n.toNat) else .no
  | _ => .no
def rg2R (m n : R PyData) : R (List PyData) := m.bnd fun d => n.bnd fun d2 => match d, d2 with
  | .int m, .int n => if -(2 ^ 62) ≤ m ∧ m < 2 ^ 62 ∧ -(2 ^ 62) ≤ n ∧ n < 2 ^ 62 then .ok (rangeD m (n - m).toNat) else .no
  | _, _ => .no
/-- .. a short one, as a list -/
def rgS (m : R PyData) : R (List PyData) := m.bnd fun d => match d with
  | .int n => if 0 ≤ n ∧ n ≤ 1000000 then .ok (rangeD 0 n.toNat) else .no
  | _ => .no
theorem el_listRg {p3 p2 : Pos} (hb : Bi X "list") (hr : Bi X "range") (h : EvP X B Γ e ma) (hc : Tt (X.calm = true) := by exact ⟨rfl⟩) (h1 : Tt (St1 X (.Call (.Name "range" p3) [e] [] p2) []) := by exact ⟨rfl⟩) (h2 : Tt (St1 X e []) := by exact ⟨rfl⟩) : EvL X B Γ (.Call (.Name "list" p') [.Call (.Name "range" p3) [e] [] p2] [] pos) (rgS ma) := by
  cases ma with
  | ok d =>
    cases d with
    | int n =>
      show EvL X B Γ _ (if 0 ≤ n ∧ n ≤ 1000000 then .ok (rangeD 0 n.toNat) else .no)
      split
      · exact xl_listRg hc hb hr h1 h2 h ⟨by omega⟩
      · trivial
    | _ => trivial
  | er y => trivial
  | no => trivial
theorem eb_tupRg {p3 p2 : Pos} (hb : Bi X "tuple") (hr : Bi X "range") (h : EvP X B Γ e ma) (hc : Tt (X.calm = true) := by exact ⟨rfl⟩) (h1 : Tt (St1 X (.Call (.Name "range" p3) [e] [] p2) []) := by exact ⟨rfl⟩) (h2 : Tt (St1 X e []) := by exact ⟨rfl⟩) : EvP X B Γ (.Call (.Name "tuple" p') [.Call (.Name "range" p3) [e] [] p2] [] pos) (tuR (rgS ma)) := by
  cases ma with
  | ok d =>
    cases d with
    | int n =>
      show EvP X B Γ _ (tuR (if 0 ≤ n ∧ n ≤ 1000000 then .ok (rangeD 0 n.toNat) else .no))
      split
      · exact xe_tupRg hc hb hr h1 h2 h ⟨by omega⟩
      · trivial
    | _ => trivial
  | er y => trivial
  | no => trivial
/-! ### methods of texts -/
def vPart : PyData → PyData → Option PyData
  | .str y, .str z => if z.length ≠ 0 ∧ y.length ≤ 1000000 then some (.tuple [.str (Txt.partition y z).1, .str (Txt.partition y z).2.1, .str (Txt.partition y z).2.2]) else none
  | _, _ => none
theorem ev_partition (ho : EvP X B Γ o ma) (ha : EvP X B Γ e mb) (hb : Tt (Mb X o "partition") := by exact ⟨rfl⟩) (hf : Tt (Mf X pos e []) := by exact ⟨rfl⟩) (hl : Tt ((ap.endLine == pos.line) = true) := by exact ⟨rfl⟩) (he : Tt (St1 X e []) := by exact ⟨rfl⟩) (hp : Tt (Pl1 X pos []) := by exact ⟨rfl⟩) :
    EvP X B Γ (.Call (.Attribute o "partition" ap) [e] [] pos) (op2 vPart ma mb) := ev_op2 ho ha fun d1 d2 d hd xa xb => by
  unfold vPart at hd
  split at hd
  · split at hd <;> cases hd
    rename_i q
    exact xe_partition hb hf hl he hp xa xb ⟨by simpa using q.1⟩ ⟨side_size q.2⟩
  · cases hd
/-- a text cut at another -/
def spR_ (m n : R PyData) : R (List PyData) := m.bnd fun d => n.bnd fun d2 => match d, d2 with
  | .str y, .str z => if z.length ≠ 0 ∧ y.length ≤ 1000000 then .ok ((Txt.split y z).map .str) else .no
  | _, _ => .no
theorem el_split (ho : EvP X B Γ o ma) (ha : EvP X B Γ e mb) (hb : Tt (Mb X o "split") := by exact ⟨rfl⟩) (hf : Tt (Mf X pos e []) := by exact ⟨rfl⟩) (hl : Tt ((ap.endLine == pos.line) = true) := by exact ⟨rfl⟩) (he : Tt (St1 X e []) := by exact ⟨rfl⟩) (hp : Tt (Pl1 X pos []) := by exact ⟨rfl⟩) :
    EvL X B Γ (.Call (.Attribute o "split" ap) [e] [] pos) (spR_ ma mb) := by
  cases ma with
  | ok d =>
    cases mb with
    | ok d2 =>
      cases d with
      | str y =>
        cases d2 with
        | str z =>
          show EvL X B Γ _ (if z.length ≠ 0 ∧ y.length ≤ 1000000 then .ok ((Txt.split y z).map .str) else .no)
          split
          · rename_i q
            exact xl_split hb.h hf.h hl.h he.h hp.h ho ha (by simpa using q.1) (by rw [sizeLine_eq]; omega)
          · trivial
        | _ => trivial
      | _ => cases d2 <;> trivial
    | er y => trivial
    | no => trivial
  | er y => trivial
  | no => trivial
/-- all texts -/
def strsO : List PyData → Option (List Str)
  | [] => some []
  | .str y :: r => (strsO r).map (y :: ·)
  | _ => none
theorem strsO_is : ∀ {ds : List PyData} {ys : List Str}, strsO ds = some ys → ds = ys.map .str
  | [], ys, h => by cases h; rfl
  | .str y :: r, ys, h => by
    cases e : strsO r with
    | none => unfold strsO at h; rw [e] at h; cases h
    | some zs =>
      unfold strsO at h
      rw [e] at h
      cases h
      rw [strsO_is e]; rfl
  | .none :: _, _, h => nomatch h
  | .bool _ :: _, _, h => nomatch h
  | .int _ :: _, _, h => nomatch h
  | .list _ :: _, _, h => nomatch h
  | .tuple _ :: _, _, h => nomatch h
  | .dict _ :: _, _, h => nomatch h
theorem strsO_map (ys : List Str) : strsO (ys.map .str) = some ys := by
  induction ys with
  | nil => rfl
  | cons y ys ih => rw [List.map_cons, strsO, ih]; rfl
def vJoin : PyData → PyData → Option PyData
  | .str y, .list ds => match strsO ds with
    | some ys => if (ys.map (·.length)).sum + ys.length * y.length ≤ 16777216 then some (.str (Txt.join y ys)) else none
    | none => none
  | _, _ => none
theorem ev_join (ho : EvP X B Γ o ma) (ha : EvP X B Γ e mb) (hb : Tt (Mb X o "join") := by exact ⟨rfl⟩) (hf : Tt (Mf X pos e []) := by exact ⟨rfl⟩) (hl : Tt ((ap.endLine == pos.line) = true) := by exact ⟨rfl⟩) (he : Tt (St1 X e []) := by exact ⟨rfl⟩) (hp : Tt (Pl1 X pos []) := by exact ⟨rfl⟩) :
    EvP X B Γ (.Call (.Attribute o "join" ap) [e] [] pos) (op2 vJoin ma mb) := ev_op2 ho ha fun d1 d2 d hd xa xb => by
  unfold vJoin at hd
  split at hd
  · split at hd
    · rename_i ys hs
      split at hd <;> cases hd
      rename_i q
      exact xe_join hb hf hl he hp xa xb ⟨strsO_is hs⟩ ⟨q⟩
    · cases hd
  · cases hd
def vIsdigit : PyData → Option PyData
  | .str y => some (.bool (Txt.isdigit y))
  | _ => none
def vIsascii : PyData → Option PyData
  | .str y => some (.bool (Txt.isascii y))
  | _ => none
def vUpper : PyData → Option PyData
  | .str y => if y.length ≤ 1000000 then some (.str (Txt.upper y)) else none
  | _ => none
def vBits : PyData → Option PyData
  | .int m => some (.int (Builtin.Int.intBits m : Nat))
  | _ => none
theorem ev_isdigit (ho : EvP X B Γ o ma) (hb : Tt (Mb X o "isdigit") := by exact ⟨rfl⟩) (hl : Tt ((ap.endLine == pos.line) = true) := by exact ⟨rfl⟩) : EvP X B Γ (.Call (.Attribute o "isdigit" ap) [] [] pos) (op1 vIsdigit ma) := ev_op1 ho fun d1 d hd xa => by
  unfold vIsdigit at hd
  split at hd <;> cases hd
  exact xe_isdigit hb hl xa
theorem ev_isascii (ho : EvP X B Γ o ma) (hb : Tt (Mb X o "isascii") := by exact ⟨rfl⟩) (hl : Tt ((ap.endLine == pos.line) = true) := by exact ⟨rfl⟩) : EvP X B Γ (.Call (.Attribute o "isascii" ap) [] [] pos) (op1 vIsascii ma) := ev_op1 ho fun d1 d hd xa => by
  unfold vIsascii at hd
  split at hd <;> cases hd
  exact xe_isascii hb hl xa
theorem ev_upper (ho : EvP X B Γ o ma) (hb : Tt (Mb X o "upper") := by exact ⟨rfl⟩) (hl : Tt ((ap.endLine == pos.line) = true) := by exact ⟨rfl⟩) : EvP X B Γ (.Call (.Attribute o "upper" ap) [] [] pos) (op1 vUpper ma) := ev_op1 ho fun d1 d hd xa => by
  unfold vUpper at hd
  split at hd
  · split at hd <;> cases hd
    exact xe_upper hb hl xa ⟨by omega⟩
  · cases hd
theorem ev_bits (ho : EvP X B Γ o ma) (hb : Tt (Mb X o "bit_length") := by exact ⟨rfl⟩) (hl : Tt ((ap.endLine == pos.line) = true) := by exact ⟨rfl⟩) : EvP X B Γ (.Call (.Attribute o "bit_length" ap) [] [] pos) (op1 vBits ma) := ev_op1 ho fun d1 d hd xa => by
  unfold vBits at hd
  split at hd <;> cases hd
  exact xe_bits hb hl xa
/-- how often a truth value stands in a list of such -/
def bolsO : List PyData → Option (List Bool)
  | [] => some []
  | .bool y :: r => (bolsO r).map (y :: ·)
  | _ => none
theorem bolsO_is : ∀ {ds : List PyData} {ys : List Bool}, bolsO ds = some ys → ds = ys.map .bool
  | [], ys, h => by cases h; rfl
  | .bool y :: r, ys, h => by
    cases e : bolsO r with
    | none => unfold bolsO at h; rw [e] at h; cases h
    | some zs =>
      unfold bolsO at h
      rw [e] at h
      cases h
      rw [bolsO_is e]; rfl
  | .none :: _, _, h => nomatch h
  | .str _ :: _, _, h => nomatch h
  | .int _ :: _, _, h => nomatch h
  | .list _ :: _, _, h => nomatch h
  | .tuple _ :: _, _, h => nomatch h
  | .dict _ :: _, _, h => nomatch h
theorem bolsO_map (ys : List Bool) : bolsO (ys.map .bool) = some ys := by
  induction ys with
  | nil => rfl
  | cons y ys ih => rw [List.map_cons, bolsO, ih]; rfl
def vCount : PyData → PyData → Option PyData
  | .list ds, .bool p => (bolsO ds).map fun bs => .int (bs.count p : Nat)
  | _, _ => none
theorem ev_count (ho : EvP X B Γ o ma) (ha : EvP X B Γ e mb) (hb : Tt (Mb X o "count") := by exact ⟨rfl⟩) (hf : Tt (Mf X pos e []) := by exact ⟨rfl⟩) (hl : Tt ((ap.endLine == pos.line) = true) := by exact ⟨rfl⟩) (he : Tt (St1 X e []) := by exact ⟨rfl⟩) (hp : Tt (Pl1 X pos []) := by exact ⟨rfl⟩) :
    EvP X B Γ (.Call (.Attribute o "count" ap) [e] [] pos) (op2 vCount ma mb) := ev_op2 ho ha fun d1 d2 d hd xa xb => by
  unfold vCount at hd
  split at hd
  · rename_i ds p
    cases hs : bolsO ds with
    | none => rw [hs] at hd; cases hd
    | some bs =>
      rw [hs] at hd
      cases hd
      have e1 := bolsO_is hs
      subst e1
      exact xe_countB hb hf hl he hp xa xb
  · cases hd
/-! ### f-strings -/
def fmD : PyData → Option Str
  | .str y => if y.length ≤ 1000000 then some y else none
  | .int m => if m.natAbs.log2 < 1920 then some (toString m) else none
  | _ => none
def vFmt (d : PyData) : Option PyData := (fmD d).map .str
theorem ev_fmt (h : EvP X B Γ e ma) : EvP X B Γ (.FormattedValue e (-1) none pos) (op1 vFmt ma) := ev_op1 h fun d1 d hd xa => by
  unfold vFmt fmD at hd
  cases d1 with
  | str y =>
    dsimp only at hd
    split at hd <;> cases hd
    rename_i q
    exact xe_fmt xa (.str ⟨side_size q⟩)
  | int m =>
    dsimp only at hd
    split at hd <;> cases hd
    rename_i q
    exact xe_fmt xa (.int ⟨q⟩)
  | none => cases hd
  | bool _ => cases hd
  | list _ => cases hd
  | tuple _ => cases hd
  | dict _ => cases hd
def jnL (acc : Str) : List PyData → Option Str
  | [] => some acc
  | .str y :: r => if (acc ++ y).length ≤ 1000000 then jnL (acc ++ y) r else none
  | _ => none
def jnR (m : R (List PyData)) : R PyData := m.bnd fun ds => (R.ofO (jnL Str.empty ds)).bnd fun y => .ok (.str y)
/-- the parts of an f-string -/
def EvJ (X : Cx) (B : Bs) (Γ : Gm) (es : List Expr) : R (List PyData) → Prop
  | .ok ds => ∀ acc out, jnL acc ds = some out → Xj X B Γ es acc out
  | _ => True
theorem ej_nil : EvJ X B Γ [] rnil := fun acc out h => by
  cases h
  exact xj_nil
theorem ej_cons (h : EvP X B Γ e ma) (hr : EvJ X B Γ es ms) : EvJ X B Γ (e :: es) (rcons ma ms) := by
  cases ma with
  | ok d =>
    cases ms with
    | ok ds =>
      intro acc out hj
      unfold jnL at hj
      split at hj
      · rename_i e1; cases e1
      · rename_i y r e1
        cases e1
        split at hj
        · rename_i q
          exact xje_cons h ⟨side_size q⟩ (hr _ _ hj)
        · cases hj
      · cases hj
    | er y => trivial
    | no => trivial
  | er y => trivial
  | no => trivial
theorem ev_joined {e1 e2 : Expr} (h : EvJ X B Γ (e1 :: e2 :: es) ms) : EvP X B Γ (.JoinedStr (e1 :: e2 :: es) pos) (jnR ms) := by
  cases ms with
  | ok ds =>
    show EvP X B Γ _ ((R.ofO (jnL Str.empty ds)).bnd fun y => .ok (.str y))
    cases hj : jnL Str.empty ds with
    | none => trivial
    | some out => exact xp_joined (h _ _ hj)
  | er y => trivial
  | no => trivial
/-! ### what is walked -/
def itD : PyData → Option (List PyData)
  | .list ds => some ds
  | .tuple ds => some ds
  | .str y => some (signsD y)
  | _ => none
def itR (m : R PyData) : R (List PyData) := m.bnd fun d => R.ofO (itD d)
theorem ei_any {tg : Expr} (h : EvP X B Γ e ma) : EvI X B Γ tg e (itR ma) := by
  cases ma with
  | ok d =>
    cases d with
    | list ds => exact xie_any h .lst
    | tuple ds => exact xie_any h .tup
    | str y => exact xie_any h .str
    | _ => trivial
  | er y => trivial
  | no => trivial
theorem ei_rng1 {tg : Expr} (hb : Bi X "range") (h : EvP X B Γ e ma) (he : Tt (St1 X e []) := by exact ⟨rfl⟩) : EvI X B Γ tg (.Call (.Name "range" p') [e] [] pos) (rgR ma) := by
  cases ma with
  | ok d =>
    cases d with
    | int n =>
      show EvI X B Γ tg _ (if -(2 ^ 62) ≤ n ∧ n < 2 ^ 62 then .ok (rangeD 0 n.toNat) else .no)
      split
      · rename_i q
        exact xie_rng1 hb he h ⟨q⟩
      · trivial
    | _ => trivial
  | er y => trivial
  | no => trivial
theorem ei_rng2 {tg : Expr} (hb : Bi X "range") (h : EvP X B Γ e ma) (h2 : EvP X B Γ a mb) (he : Tt (St1 X e [a]) := by exact ⟨rfl⟩) (he2 : Tt (St1 X a []) := by exact ⟨rfl⟩) : EvI X B Γ tg (.Call (.Name "range" p') [e, a] [] pos) (rg2R ma mb) := by
  cases ma with
  | ok d =>
    cases mb with
    | ok d2 =>
      cases d with
      | int m =>
        cases d2 with
        | int n =>
          show EvI X B Γ tg _ (if -(2 ^ 62) ≤ m ∧ m < 2 ^ 62 ∧ -(2 ^ 62) ≤ n ∧ n < 2 ^ 62 then .ok (rangeD m (n - m).toNat) else .no)
          split
          · rename_i q
            exact xie_rng2 hb he he2 h h2 ⟨q.1, q.2.1⟩ ⟨q.2.2⟩
          · trivial
        | _ => trivial
      | _ => cases d2 <;> trivial
    | er y => trivial
    | no => trivial
  | er y => trivial
  | no => trivial
def enR (m : R PyData) : R (List PyData) := m.bnd fun d => match d with
  | .list ds => .ok (enumD 0 ds)
  | _ => .no
theorem ei_enum {tgs : List Expr} {kk : Nat} {p3 : Pos} (hb : Bi X "enumerate") (h : EvP X B Γ e ma) (he1 : Tt (St1 X e []) := by exact ⟨rfl⟩) : EvI X B Γ (.Tuple tgs kk p3) (.Call (.Name "enumerate" p') [e] [] pos) (enR ma) := by
  cases ma with
  | ok d =>
    cases d with
    | list ds => exact xie_enum hb he1 h
    | _ => trivial
  | er y => trivial
  | no => trivial
/-! ### targets -/
/-- a target takes a thing apart -/
def TgOk {κ : Type} (X : Cx) (tg : Expr) (js : List Nat) (Γ : Gm) (f : PyData → Option κ) (G : κ → Gm) : Prop := ∀ d k, f d = some k → Xg X tg js d Γ (G k)
theorem tg_name {G : PyData → Gm} {p2 : Pos} (k : Lk X i x) (hG : ∀ d, Γ.set i (.sh d) = G d) : TgOk X (.Name x p2) [i] Γ some G := fun d k' h => by
  cases h
  exact xge_name k ⟨hG d⟩
def tg2 {α β : Type} (f : PyData → Option α) (g : PyData → Option β) : PyData → Option (α × β)
  | .tuple [a, b] => (f a).bind fun x => (g b).map fun y => (x, y)
  | _ => none
def tg3 {α β γ : Type} (f : PyData → Option α) (g : PyData → Option β) (h : PyData → Option γ) : PyData → Option (α × β × γ)
  | .tuple [a, b, c] => (f a).bind fun x => (g b).bind fun y => (h c).map fun z => (x, y, z)
  | _ => none
def tg4 {α β γ δ : Type} (f : PyData → Option α) (g : PyData → Option β) (h : PyData → Option γ) (k : PyData → Option δ) : PyData → Option (α × β × γ × δ)
  | .tuple [a, b, c, d] => (f a).bind fun x => (g b).bind fun y => (h c).bind fun z => (k d).map fun u => (x, y, z, u)
  | _ => none
theorem tgs_1 {α : Type} {t1 : Expr} {j1 : List Nat} {f : PyData → Option α} {G : α → Gm} (h1 : TgOk X t1 j1 Γ f G) (hs : Tt ((assignEach [t1] X.env).map (·.2) = assign t1 X.env :: (assignEach [] X.env).map (·.2))) {d : PyData} {k : α} (hd : f d = some k) : Xgs X [t1] (j1 ++ []) [d] Γ (G k) :=
  xgse_cons hs (h1 _ _ hd) xgs_nil
theorem tg_2 {α β : Type} {t1 t2 : Expr} {j1 j2 : List Nat} {f : PyData → Option α} {g : PyData → Option β} {G1 : α → Gm} {G : α × β → Gm} {kk : Nat} (h1 : TgOk X t1 j1 Γ f G1) (h2 : ∀ x, TgOk X t2 j2 (G1 x) g fun y => G (x, y)) (hc : Tt (X.calm = true) := by first | exact ⟨rfl⟩ | assumption)
    (hn : Tt ((assignEach [t1, t2] X.env).length = 2) := by exact ⟨rfl⟩) (hst : Tt ((assignEach [t1, t2] X.env).findIdx? (·.1) = none) := by exact ⟨rfl⟩) (hs : Tt ((assignEach [t1, t2] X.env).map (·.2) = assign t1 X.env :: (assignEach [t2] X.env).map (·.2)) := by exact ⟨rfl⟩) (hs2 : Tt ((assignEach [t2] X.env).map (·.2) = assign t2 X.env :: (assignEach [] X.env).map (·.2)) := by exact ⟨rfl⟩) :
    TgOk X (.Tuple [t1, t2] kk pos) (j1 ++ (j2 ++ [])) Γ (tg2 f g) G := fun d k h => by
  unfold tg2 at h
  split at h
  · rename_i a b
    cases ha : f a with
    | none => rw [ha] at h; cases h
    | some x =>
      cases hb : g b with
      | none => rw [ha, hb] at h; cases h
      | some y =>
        rw [ha, hb] at h
        cases h
        exact xge_tup hc hn hst ⟨rfl⟩ (xgse_cons hs (h1 _ _ ha) (tgs_1 (h2 x) hs2 hb))
  · cases h
theorem tg_3 {α β γ : Type} {t1 t2 t3 : Expr} {j1 j2 j3 : List Nat} {f : PyData → Option α} {g : PyData → Option β} {u : PyData → Option γ} {G1 : α → Gm} {G2 : α → β → Gm} {G : α × β × γ → Gm} {kk : Nat} (h1 : TgOk X t1 j1 Γ f G1) (h2 : ∀ x, TgOk X t2 j2 (G1 x) g (G2 x)) (h3 : ∀ x y, TgOk X t3 j3 (G2 x y) u fun z => G (x, y, z)) (hc : Tt (X.calm = true) := by first | exact ⟨rfl⟩ | assumption)
    (hn : Tt ((assignEach [t1, t2, t3] X.env).length = 3) := by exact ⟨rfl⟩) (hst : Tt ((assignEach [t1, t2, t3] X.env).findIdx? (·.1) = none) := by exact ⟨rfl⟩) (hs : Tt ((assignEach [t1, t2, t3] X.env).map (·.2) = assign t1 X.env :: (assignEach [t2, t3] X.env).map (·.2)) := by exact ⟨rfl⟩) (hs2 : Tt ((assignEach [t2, t3] X.env).map (·.2) = assign t2 X.env :: (assignEach [t3] X.env).map (·.2)) := by exact ⟨rfl⟩) (hs3 : Tt ((assignEach [t3] X.env).map (·.2) = assign t3 X.env :: (assignEach [] X.env).map (·.2)) := by exact ⟨rfl⟩) :
    TgOk X (.Tuple [t1, t2, t3] kk pos) (j1 ++ (j2 ++ (j3 ++ []))) Γ (tg3 f g u) G := fun d k h => by
  unfold tg3 at h
  split at h
  · rename_i a b c
    cases ha : f a with
    | none => rw [ha] at h; cases h
    | some x =>
      cases hb : g b with
      | none => rw [ha, Option.bind_some, hb] at h; cases h
      | some y =>
        cases hc3 : u c with
        | none => rw [ha, Option.bind_some, hb, Option.bind_some, hc3] at h; cases h
        | some z =>
          rw [ha, Option.bind_some, hb, Option.bind_some, hc3] at h
          cases h
          exact xge_tup hc hn hst ⟨rfl⟩ (xgse_cons hs (h1 _ _ ha) (xgse_cons hs2 (h2 x _ _ hb) (tgs_1 (h3 x y) hs3 hc3)))
  · cases h
theorem tg_4 {α β γ δ : Type} {t1 t2 t3 t4 : Expr} {j1 j2 j3 j4 : List Nat} {f : PyData → Option α} {g : PyData → Option β} {u : PyData → Option γ} {v : PyData → Option δ} {G1 : α → Gm} {G2 : α → β → Gm} {G3 : α → β → γ → Gm} {G : α × β × γ × δ → Gm} {kk : Nat} (h1 : TgOk X t1 j1 Γ f G1) (h2 : ∀ x, TgOk X t2 j2 (G1 x) g (G2 x)) (h3 : ∀ x y, TgOk X t3 j3 (G2 x y) u (G3 x y)) (h4 : ∀ x y z, TgOk X t4 j4 (G3 x y z) v fun w => G (x, y, z, w)) (hc : Tt (X.calm = true) := by first | exact ⟨rfl⟩ | assumption)
    (hn : Tt ((assignEach [t1, t2, t3, t4] X.env).length = 4) := by exact ⟨rfl⟩) (hst : Tt ((assignEach [t1, t2, t3, t4] X.env).findIdx? (·.1) = none) := by exact ⟨rfl⟩) (hs : Tt ((assignEach [t1, t2, t3, t4] X.env).map (·.2) = assign t1 X.env :: (assignEach [t2, t3, t4] X.env).map (·.2)) := by exact ⟨rfl⟩) (hs2 : Tt ((assignEach [t2, t3, t4] X.env).map (·.2) = assign t2 X.env :: (assignEach [t3, t4] X.env).map (·.2)) := by exact ⟨rfl⟩) (hs3 : Tt ((assignEach [t3, t4] X.env).map (·.2) = assign t3 X.env :: (assignEach [t4] X.env).map (·.2)) := by exact ⟨rfl⟩) (hs4 : Tt ((assignEach [t4] X.env).map (·.2) = assign t4 X.env :: (assignEach [] X.env).map (·.2)) := by exact ⟨rfl⟩) :
    TgOk X (.Tuple [t1, t2, t3, t4] kk pos) (j1 ++ (j2 ++ (j3 ++ (j4 ++ [])))) Γ (tg4 f g u v) G := fun d k h => by
  unfold tg4 at h
  split at h
  · rename_i a b c d4
    cases ha : f a with
    | none => rw [ha] at h; cases h
    | some x =>
      cases hb : g b with
      | none => rw [ha, Option.bind_some, hb] at h; cases h
      | some y =>
        cases hc3 : u c with
        | none => rw [ha, Option.bind_some, hb, Option.bind_some, hc3] at h; cases h
        | some z =>
          cases hc4 : v d4 with
          | none => rw [ha, Option.bind_some, hb, Option.bind_some, hc3, Option.bind_some, hc4] at h; cases h
          | some w =>
            rw [ha, Option.bind_some, hb, Option.bind_some, hc3, Option.bind_some, hc4] at h
            cases h
            exact xge_tup hc hn hst ⟨rfl⟩ (xgse_cons hs (h1 _ _ ha) (xgse_cons hs2 (h2 x _ _ hb) (xgse_cons hs3 (h3 x y _ _ hc3) (tgs_1 (h4 x y z) hs4 hc4))))
  · cases h
/-! ### comprehensions -/
def lcR {κ : Type} (tg : PyData → Option κ) (c : κ → R Bool) (f : κ → R PyData) : List PyData → R (List PyData)
  | [] => .ok []
  | d :: ds => (R.ofO (tg d)).bnd fun k => (c k).bnd fun b => if b then (f k).bnd fun y => (lcR tg c f ds).bnd fun ys => .ok (y :: ys) else lcR tg c f ds
/-- no test -/
def yes {κ : Type} : κ → R Bool := fun _ => .ok true
def isT : R Bool → Bool
  | .ok true => true
  | _ => false
def gtD : R PyData → PyData
  | .ok d => d
  | _ => .none
theorem lcR_ok {κ : Type} {tg : PyData → Option κ} {c : κ → R Bool} {f : κ → R PyData} : ∀ {ds : List PyData} {ys : List PyData}, lcR tg c f ds = .ok ys →
    (∀ d, d ∈ ds → ∃ k b, tg d = some k ∧ c k = .ok b ∧ (b = true → ∃ y, f k = .ok y)) ∧ ys = (ds.filter fun d => (tg d).any fun k => isT (c k)).map fun d => ((tg d).map fun k => gtD (f k)).getD .none
  | [], ys, h => by cases h; exact ⟨fun d hd => (nomatch hd), rfl⟩
  | d :: ds, ys, h => by
    unfold lcR at h
    cases ht : tg d with
    | none => rw [ht] at h; cases h
    | some k =>
      rw [ht] at h
      cases hc : c k with
      | er y => simp only [R.ofO, R.bnd, hc] at h; cases h
      | no => simp only [R.ofO, R.bnd, hc] at h; cases h
      | ok b =>
        simp only [R.ofO, R.bnd, hc] at h
        cases b with
        | true =>
          simp only [if_true] at h
          cases hf : f k with
          | er y => rw [hf] at h; cases h
          | no => rw [hf] at h; cases h
          | ok y =>
            rw [hf] at h
            dsimp only at h
            cases hr : lcR tg c f ds with
            | er y => rw [hr] at h; cases h
            | no => rw [hr] at h; cases h
            | ok zs =>
              rw [hr] at h
              cases h
              obtain ⟨i1, i2⟩ := lcR_ok hr
              refine ⟨fun d' hd => ?_, ?_⟩
              · rcases List.mem_cons.mp hd with rfl | hd
                · exact ⟨k, true, ht, hc, fun _ => ⟨y, hf⟩⟩
                · exact i1 d' hd
              · rw [List.filter_cons, if_pos (by rw [ht]; show isT (c k) = true; rw [hc]; rfl), List.map_cons, ← i2]
                congr 1
                rw [ht]
                show y = gtD (f k)
                rw [hf]; rfl
        | false =>
          simp only [Bool.false_eq_true, if_false] at h
          obtain ⟨i1, i2⟩ := lcR_ok h
          refine ⟨fun d' hd => ?_, ?_⟩
          · rcases List.mem_cons.mp hd with rfl | hd
            · exact ⟨k, false, ht, hc, fun z => nomatch z⟩
            · exact i1 d' hd
          · rw [List.filter_cons, if_neg (by rw [ht]; show ¬ isT (c k) = true; rw [hc]; exact fun z => nomatch z), ← i2]
theorem lcR_er {κ : Type} {tg : PyData → Option κ} {c : κ → R Bool} {f : κ → R PyData} {y : Exn} : ∀ {ds : List PyData}, lcR tg c f ds ≠ .er y
  | [], h => nomatch h
  | d :: ds, h => by
    unfold lcR at h
    cases ht : tg d with
    | none => rw [ht] at h; cases h
    | some k =>
      rw [ht] at h
      cases hc : c k with
      | er y => simp only [R.ofO, R.bnd, hc] at h; cases h
      | no => simp only [R.ofO, R.bnd, hc] at h; cases h
      | ok b =>
        simp only [R.ofO, R.bnd, hc] at h
        cases b with
        | true =>
          simp only [if_true] at h
          cases hf : f k with
          | er y => rw [hf] at h; cases h
          | no => rw [hf] at h; cases h
          | ok y =>
            rw [hf] at h
            dsimp only at h
            cases hr : lcR tg c f ds with
            | er y => rw [hr] at h; cases h
            | no => rw [hr] at h; cases h
            | ok zs => rw [hr] at h; cases h
        | false =>
          simp only [Bool.false_eq_true, if_false] at h
          exact lcR_er h
theorem eq_nil {κ : Type} {k : κ} : EvQ X B Γ [] (yes k) := xq_nil
theorem eq_one (h : EvT X B Γ c mt) : EvQ X B Γ [c] mt := by
  cases mt with
  | ok p => exact xq_one h
  | er y => trivial
  | no => trivial
/-- the premises of a comprehension, from its plain function -/
theorem lc_pre {κ : Type} {tg : Expr} {elt : Expr} {ifs : List Expr} {own : List (Str × Nat)} {js : List Nat} {f : PyData → Option κ} {c : κ → R Bool} {g : κ → R PyData} {G : κ → Gm} {ys : List PyData} {Q : Cx → Prop} (h : lcR f c g ds = .ok ys)
    (ht : ∀ X', Q X' → TgOk X' tg js (wipeG Γ (own.map (·.2))) f G) (hb : ∀ X', Q X' → ∀ B' k, EvQ X' B' (G k) ifs (c k) ∧ EvP X' B' (G k) elt (g k)) :
    ∃ (pr : PyData → Bool) (ev : PyData → PyData) (G2 : PyData → Gm), ys = (ds.filter pr).map ev ∧ ∀ X', Q X' → ∀ B' d, d ∈ ds → Xg X' tg js d (wipeG Γ (own.map (·.2))) (G2 d) ∧ Xq X' B' (G2 d) ifs (pr d) ∧ (pr d = true → Xp X' B' (G2 d) elt (ev d)) := by
  obtain ⟨i1, i2⟩ := lcR_ok h
  refine ⟨_, _, fun d => ((f d).map G).getD [], i2, fun X' hX B' d hd => ?_⟩
  obtain ⟨k, b, hk, hc, hf⟩ := i1 d hd
  obtain ⟨h1, h2⟩ := hb X' hX B' k
  have eG : ((f d).map G).getD [] = G k := by rw [hk]; rfl
  have eP : ((f d).any fun k => isT (c k)) = b := by
    rw [hk]
    show isT (c k) = b
    rw [hc]
    cases b <;> rfl
  dsimp only
  rw [eG, eP]
  refine ⟨ht X' hX d k hk, ?_, fun e => ?_⟩
  · rw [hc] at h1
    exact h1
  · obtain ⟨y, hy⟩ := hf e
    rw [hk]
    show Xp X' B' (G k) elt (gtD (g k))
    rw [hy] at h2 ⊢
    exact h2
theorem el_lc {κ : Type} {elt tg iter : Expr} {ifs : List Expr} {own : List (Str × Nat)} {js : List Nat} {f : PyData → Option κ} {c : κ → R Bool} {g : κ → R PyData} (G : κ → Gm) (hr : Room j X.A) (hN : X.N.Nodup) (ok : BlkOk X.N X.env.scope scope own)
    (hi : EvI X B Γ tg iter ms) (ht : ∀ X', Bk X scope j X' → TgOk X' tg js (wipeG Γ (own.map (·.2))) f G) (hb : ∀ X', Bk X scope j X' → ∀ B' k, EvQ X' B' (G k) ifs (c k) ∧ EvP X' B' (G k) elt (g k))
    (hv : Tt ((js.all fun j => decide (j ∈ own.map (·.2))) = true) := by exact ⟨rfl⟩) (hc : Tt (X.calm = true) := by first | exact ⟨rfl⟩ | assumption) (hs : Tt (∀ x, foldedSetIterable iter X.env x = pure x) := by exact ⟨fun _ => rfl⟩) :
    EvL X B Γ (.ListComp elt [⟨tg, iter, ifs, 0⟩] scope pos) (ms.bnd fun ds => if ds.length ≤ 1000000 then lcR f c g ds else .no) := by
  cases ms with
  | ok ds =>
    show EvL X B Γ _ (if ds.length ≤ 1000000 then lcR f c g ds else .no)
    split
    · rename_i q
      cases hl : lcR f c g ds with
      | ok ys =>
        obtain ⟨pr, ev, G2, rfl, h2⟩ := lc_pre (Γ := Γ) (own := own) hl ht hb
        exact xl_lcB pr ev G2 hr hc hN ok hs hi ⟨q⟩ hv h2
      | er y => exact absurd hl lcR_er
      | no => trivial
    · trivial
  | er y => trivial
  | no => trivial
/-- .. within a block of X0 -/
theorem el_lcN {κ : Type} {elt tg iter : Expr} {ifs : List Expr} {own : List (Str × Nat)} {js : List Nat} {f : PyData → Option κ} {c : κ → R Bool} {g : κ → R PyData} (b0 : Bk X0 sc2 j X) (G : κ → Gm) (hN : X0.N.Nodup) (ok : BlkOk X0.N sc2 scope own)
    (hi : EvI X B Γ tg iter ms) (ht : ∀ X', Bk X0 scope j X' → TgOk X' tg js (wipeG Γ (own.map (·.2))) f G) (hb : ∀ X', Bk X0 scope j X' → ∀ B' k, EvQ X' B' (G k) ifs (c k) ∧ EvP X' B' (G k) elt (g k))
    (hc : Tt (X.calm = true)) (hv : Tt ((js.all fun j => decide (j ∈ own.map (·.2))) = true) := by exact ⟨rfl⟩) (hs : Tt (∀ x, foldedSetIterable iter X.env x = pure x) := by exact ⟨fun _ => rfl⟩) :
    EvL X B Γ (.ListComp elt [⟨tg, iter, ifs, 0⟩] scope pos) (ms.bnd fun ds => if ds.length ≤ 1000000 then lcR f c g ds else .no) := by
  cases ms with
  | ok ds =>
    show EvL X B Γ _ (if ds.length ≤ 1000000 then lcR f c g ds else .no)
    split
    · rename_i q
      cases hl : lcR f c g ds with
      | ok ys =>
        obtain ⟨pr, ev, G2, rfl, h2⟩ := lc_pre (Γ := Γ) (own := own) hl ht hb
        exact xl_lcN b0 pr ev G2 hc hN ok hs hi ⟨q⟩ hv h2
      | er y => exact absurd hl lcR_er
      | no => trivial
    · trivial
  | er y => trivial
  | no => trivial
/-! ### all, any -/
def eachR {κ : Type} (tg : PyData → Option κ) (f : κ → R PyData) : List PyData → R (List Bool)
  | [] => .ok []
  | d :: ds => (R.ofO (tg d)).bnd fun k => (f k).bnd fun y => (R.ofO (truS y)).bnd fun b => (eachR tg f ds).bnd fun bs => .ok (b :: bs)
def allR {κ : Type} (tg : PyData → Option κ) (f : κ → R PyData) (m : R (List PyData)) : R PyData := m.bnd fun ds => (eachR tg f ds).bnd fun bs => .ok (.bool (bs.all id))
def anyR {κ : Type} (tg : PyData → Option κ) (f : κ → R PyData) (m : R (List PyData)) : R PyData := m.bnd fun ds => (eachR tg f ds).bnd fun bs => .ok (.bool (bs.any id))
def truG (d : PyData) : Bool := (truS d).getD false
theorem eachR_ok {κ : Type} {tg : PyData → Option κ} {f : κ → R PyData} : ∀ {ds : List PyData} {bs : List Bool}, eachR tg f ds = .ok bs →
    (∀ d, d ∈ ds → ∃ k y b, tg d = some k ∧ f k = .ok y ∧ truS y = some b) ∧ bs = ds.map fun d => ((tg d).map fun k => truG (gtD (f k))).getD false
  | [], bs, h => by cases h; exact ⟨fun d hd => (nomatch hd), rfl⟩
  | d :: ds, bs, h => by
    unfold eachR at h
    cases ht : tg d with
    | none => rw [ht] at h; cases h
    | some k =>
      rw [ht] at h
      cases hf : f k with
      | er y => simp only [R.ofO, R.bnd, hf] at h; cases h
      | no => simp only [R.ofO, R.bnd, hf] at h; cases h
      | ok y =>
        cases hb : truS y with
        | none => simp only [R.ofO, R.bnd, hf, hb] at h; cases h
        | some b =>
          cases hr : eachR tg f ds with
          | er z => simp only [R.ofO, R.bnd, hf, hb, hr] at h; cases h
          | no => simp only [R.ofO, R.bnd, hf, hb, hr] at h; cases h
          | ok cs =>
            simp only [R.ofO, R.bnd, hf, hb, hr] at h
            cases h
            obtain ⟨i1, i2⟩ := eachR_ok hr
            refine ⟨fun d' hd => ?_, ?_⟩
            · rcases List.mem_cons.mp hd with rfl | hd
              · exact ⟨k, y, b, ht, hf, hb⟩
              · exact i1 d' hd
            · rw [List.map_cons, ← i2, ht]
              congr 1
              show b = truG (gtD (f k))
              rw [hf]
              show b = (truS y).getD false
              rw [hb]; rfl
theorem gen_pre {κ : Type} {tg elt : Expr} {own : List (Str × Nat)} {js : List Nat} {f : PyData → Option κ} {g : κ → R PyData} {G : κ → Gm} {bs : List Bool} {Q : Cx → Prop} (h : eachR f g ds = .ok bs)
    (ht : ∀ X', Q X' → TgOk X' tg js (wipeG Γ (own.map (·.2))) f G) (hb : ∀ X', Q X' → ∀ k, EvP X' B (G k) elt (g k)) :
    ∃ (p : PyData → Bool) (ev : PyData → PyData) (G2 : PyData → Gm), bs = ds.map p ∧ (∀ X', Q X' → ∀ d, d ∈ ds → Xg X' tg js d (wipeG Γ (own.map (·.2))) (G2 d) ∧ Xp X' B (G2 d) elt (ev d)) ∧ ∀ d, d ∈ ds → truS (ev d) = some (p d) := by
  obtain ⟨i1, i2⟩ := eachR_ok h
  refine ⟨_, fun d => ((f d).map fun k => gtD (g k)).getD .none, fun d => ((f d).map G).getD [], i2, fun X' hX d hd => ?_, fun d hd => ?_⟩
  · obtain ⟨k, y, b, hk, hg, hy⟩ := i1 d hd
    have h2 := hb X' hX k
    dsimp only
    rw [hk]
    refine ⟨ht X' hX d k hk, ?_⟩
    show Xp X' B (G k) elt (gtD (g k))
    rw [hg] at h2 ⊢
    exact h2
  · obtain ⟨k, y, b, hk, hg, hy⟩ := i1 d hd
    dsimp only
    rw [hk]
    show truS (gtD (g k)) = some (truG (gtD (g k)))
    rw [hg]
    show truS y = some ((truS y).getD false)
    rw [hy]; rfl
theorem ev_all {κ : Type} {cc T : Addr} {elt tg iter : Expr} {own : List (Str × Nat)} {js : List Nat} {qq gpos : Pos} {f : PyData → Option κ} {g : κ → R PyData} (G : κ → Gm) (hr : Room k X.A) (hj : j + 1 ≤ k) (gx : Gx X cc T) (hb : Bi X "all") (S : GScp X.N X.env.scope scope own)
    (hi : EvI X B Γ tg iter ms) (ht : ∀ X', Bk X scope j X' → TgOk X' tg js (wipeG Γ (own.map (·.2))) f G) (hel : ∀ X', Bk X scope j X' → ∀ k, EvP X' B (G k) elt (g k))
    (hs : Tt (∀ v, genFold iter X.env v = pure v) := by exact ⟨fun _ => rfl⟩) (he : Tt (St1 X (.GeneratorExp elt [⟨tg, iter, [], 0⟩] scope gpos) []) := by exact ⟨rfl⟩) (hv : Tt ((js.all fun j => decide (j ∈ own.map (·.2))) = true) := by exact ⟨rfl⟩) :
    EvP X B Γ (.Call (.Name "all" qq) [.GeneratorExp elt [⟨tg, iter, [], 0⟩] scope gpos] [] pos) (allR f g ms) := by
  cases ms with
  | ok ds =>
    show EvP X B Γ _ ((eachR f g ds).bnd fun bs => .ok (.bool (bs.all id)))
    cases hl : eachR f g ds with
    | ok bs =>
      obtain ⟨p, ev, G2, rfl, h2, h3⟩ := gen_pre (Γ := Γ) (own := own) hl ht hel
      show Xp X B Γ _ (.bool _)
      rw [List.all_map, Function.id_comp]
      exact xe_allB p G2 ev hr hj gx hb S hs he hi hv h2 h3
    | er y => trivial
    | no => trivial
  | er y => trivial
  | no => trivial
theorem ev_any {κ : Type} {cc T : Addr} {elt tg iter : Expr} {own : List (Str × Nat)} {js : List Nat} {qq gpos : Pos} {f : PyData → Option κ} {g : κ → R PyData} (G : κ → Gm) (hr : Room k X.A) (hj : j + 1 ≤ k) (gx : Gx X cc T) (hb : Bi X "any") (S : GScp X.N X.env.scope scope own)
    (hi : EvI X B Γ tg iter ms) (ht : ∀ X', Bk X scope j X' → TgOk X' tg js (wipeG Γ (own.map (·.2))) f G) (hel : ∀ X', Bk X scope j X' → ∀ k, EvP X' B (G k) elt (g k))
    (hs : Tt (∀ v, genFold iter X.env v = pure v) := by exact ⟨fun _ => rfl⟩) (he : Tt (St1 X (.GeneratorExp elt [⟨tg, iter, [], 0⟩] scope gpos) []) := by exact ⟨rfl⟩) (hv : Tt ((js.all fun j => decide (j ∈ own.map (·.2))) = true) := by exact ⟨rfl⟩) :
    EvP X B Γ (.Call (.Name "any" qq) [.GeneratorExp elt [⟨tg, iter, [], 0⟩] scope gpos] [] pos) (anyR f g ms) := by
  cases ms with
  | ok ds =>
    show EvP X B Γ _ ((eachR f g ds).bnd fun bs => .ok (.bool (bs.any id)))
    cases hl : eachR f g ds with
    | ok bs =>
      obtain ⟨p, ev, G2, rfl, h2, h3⟩ := gen_pre (Γ := Γ) (own := own) hl ht hel
      show Xp X B Γ _ (.bool _)
      rw [List.any_map, Function.id_comp]
      exact xe_anyB p G2 ev hr hj gx hb S hs he hi hv h2 h3
    | er y => trivial
    | no => trivial
  | er y => trivial
  | no => trivial
end
end Dl
set_option Elab.async false
set_option linter.all false
set_option maxRecDepth 100000
set_option maxHeartbeats 2000000
/-! Defs by plain functions; statements. -/
namespace Dl
open PySem L2 PyProof.Rows
variable [Tabs]
/-! ### calls -/
/-- a def by a plain function of its arguments -/
def spF (K : PySem.W.Frag) (mg : Str → Option Value) (F : List PyData → R PyData) : Sp := fun vs H Q E => ∃ ds Hs, (∀ a o, Hs a = some o → H a = some o) ∧ TabsIn Hs ∧ DqAll K Hs vs ds ∧
  match F ds with
  | .ok d => ∀ v H' Hs', Gr H Hs H' Hs' → Dq K Hs' v d → Q v H'
  | .er x => ∃ D, mg x.nm = some (.ref D) ∧ ∀ H' Hs' od, Gr H Hs H' Hs' → XdOk K Hs' x.fs od → E (.ref D) od H'
  | .no => False
structure DnF (P : Program) (w : World) (K : PySem.W.Frag) (mg : Str → Option Value) (base : Heap) (k : Nat) (x : Str) (F : List PyData → R PyData) : Prop where
  ex : ∃ (f : Addr) (fd : FuncData) (ps : List Str), mg x = some (.ref f) ∧ FnOk P w K mg base (L2.CX P w) k f fd ps (spF K mg F) ∧ PySem.W.keepIn K (.ref f) = true ∧ Binds K fd ps []
structure CeF (X : Cx) (x : Str) (F : List PyData → R PyData) : Prop where
  ex : ∃ (k : Nat) (f : Addr) (fd : FuncData) (ps : List Str), X.mg x = some (.ref f) ∧ FnOk X.prog X.w X.K X.mg X.base (L2.CX X.prog X.w) k f fd ps (spF X.K X.mg F) ∧ PySem.W.keepIn X.K (.ref f) = true ∧ Binds X.K fd ps [] ∧ Room k X.A
  db : (x == ("__debug__" : Str)) = false
theorem DnF.mono {P : Program} {w : World} {K : PySem.W.Frag} {mg : Str → Option Value} {base : Heap} {k j : Nat} {x : Str} {F : List PyData → R PyData} (D : DnF P w K mg base k x F) (h : k ≤ j) : DnF P w K mg base j x F := by
  obtain ⟨f, fd, ps, h1, h2, h3, h4⟩ := D.ex
  exact ⟨f, fd, ps, h1, h2.mono h, h3, h4⟩
section
variable {X X' X0 : Cx} {B : Bs} {Γ Γ1 Γ2 : Gm} {e a b c o : Expr} {es : List Expr} {d d1 d2 d3 : PyData} {ds : List PyData} {pos p' ap : Pos} {x : Str} {i j k : Nat} {p q r : Bool} {y z : Str} {ma mb mc : R PyData} {ms : R (List PyData)} {mt mu : R Bool} {scope sc2 : Scope} {F : List PyData → R PyData}
theorem Like.ceF (h : Like X X') (k : CeF X x F) : CeF X' x F := ⟨by rw [h.mg, h.prog, h.w, h.K, h.base, h.A]; exact k.ex, k.db⟩
theorem Bk.ceF (b : Bk X scope j X') (D : DnF X.prog X.w X.K X.mg X.base k x F) (hk : k ≤ j) (db : (x == ("__debug__" : Str)) = false) : CeF X' x F := by
  obtain ⟨f, fd, ps, h1, h2, h3, h4⟩ := D.ex
  exact ⟨⟨k, f, fd, ps, by rw [b.mg]; exact h1, by rw [b.prog, b.w, b.K, b.mg, b.base]; exact h2, by rw [b.K]; exact h3, by rw [b.K]; exact h4, b.room.mono hk⟩, db⟩
theorem ev_callN (cf : CeF X x F) (hg : Gl X x) (ha : EvA X B Γ (e :: es) ms) (he : Tt (St1 X e es) := by exact ⟨rfl⟩) (hp : Tt (Pl1 X pos es) := by exact ⟨rfl⟩) : EvP X B Γ (.Call (.Name x p') (e :: es) [] pos) (ms.bind F) := by
  obtain ⟨k, f, fd, ps, hm, Fn, kp, bi, hr'⟩ := cf.ex
  cases ms with
  | ok ds =>
    show EvP X B Γ _ (F ds)
    cases hF : F ds with
    | ok d =>
      exact xp_of (pe_callS Fn hr' hg hm kp bi (passAt takes0) pa_u cf.db he.h hp.h) fun H Hs σ E Q q => ha.1 H Hs σ E _ fun vs H1 Hs1 g1 p1 =>
        ⟨ds, Hs1, g1.sub, E.tab.mono g1.exs, p1, by rw [hF]; exact fun v H2 Hs2 g2 p2 => q v H2 Hs2 (g1.trans g2) p2⟩
    | er y =>
      intro ax H Hs σ E Q
      obtain ⟨W, D, hD, tk, hW⟩ := ax.ex
      exact ⟨_, pe_callS Fn hr' hg hm kp bi (passAt tk) pa_u cf.db he.h hp.h, ha.1 H Hs σ E _ fun vs H1 Hs1 g1 p1 =>
        ⟨ds, Hs1, g1.sub, E.tab.mono g1.exs, p1, by rw [hF]; exact ⟨D, hD, fun H2 Hs2 od g2 xd => hW σ H2 Hs2 od (E.grow (g1.trans g2)) xd⟩⟩⟩
    | no => trivial
  | er y =>
    intro ax H Hs σ E Q
    exact ⟨_, pe_callS Fn hr' hg hm kp bi (passAt takes0) pa_u cf.db he.h hp.h, ha ax H Hs σ E _⟩
  | no => trivial
theorem ev_call1 {f : PyData → R PyData} (cf : CeF X x (u1 f)) (hg : Gl X x) (h : EvP X B Γ e ma) (he : Tt (St1 X e []) := by exact ⟨rfl⟩) (hp : Tt (Pl1 X pos []) := by exact ⟨rfl⟩) : EvP X B Γ (.Call (.Name x p') [e] [] pos) (c1 f ma) := by
  have := ev_callN (p' := p') cf hg (ea_cons h ea_nil he) he hp
  cases ma <;> exact this
theorem ev_call2 {f : PyData → PyData → R PyData} {e2 : Expr} {m2 : R PyData} (cf : CeF X x (u2 f)) (hg : Gl X x) (h : EvP X B Γ e ma) (h2 : EvP X B Γ e2 m2) (he : Tt (St1 X e [e2]) := by exact ⟨rfl⟩) (he2 : Tt (St1 X e2 []) := by exact ⟨rfl⟩) (hp : Tt (Pl1 X pos [e2]) := by exact ⟨rfl⟩) : EvP X B Γ (.Call (.Name x p') [e, e2] [] pos) (c2 f ma m2) := by
  have := ev_callN (p' := p') cf hg (ea_cons h (ea_cons h2 ea_nil he2) he) he hp
  cases ma <;> cases m2 <;> exact this
theorem ev_call3 {f : PyData → PyData → PyData → R PyData} {e2 e3 : Expr} {m2 m3 : R PyData} (cf : CeF X x (u3 f)) (hg : Gl X x) (h : EvP X B Γ e ma) (h2 : EvP X B Γ e2 m2) (h3 : EvP X B Γ e3 m3) (he : Tt (St1 X e [e2, e3]) := by exact ⟨rfl⟩) (he2 : Tt (St1 X e2 [e3]) := by exact ⟨rfl⟩) (he3 : Tt (St1 X e3 []) := by exact ⟨rfl⟩) (hp : Tt (Pl1 X pos [e2, e3]) := by exact ⟨rfl⟩) : EvP X B Γ (.Call (.Name x p') [e, e2, e3] [] pos) (c3 f ma m2 m3) := by
  have := ev_callN (p' := p') cf hg (ea_cons h (ea_cons h2 (ea_cons h3 ea_nil he3) he2) he) he hp
  cases ma <;> cases m2 <;> cases m3 <;> exact this
theorem ev_call4 {f : PyData → PyData → PyData → PyData → R PyData} {e2 e3 e4 : Expr} {m2 m3 m4 : R PyData} (cf : CeF X x (u4 f)) (hg : Gl X x) (h : EvP X B Γ e ma) (h2 : EvP X B Γ e2 m2) (h3 : EvP X B Γ e3 m3) (h4 : EvP X B Γ e4 m4) (he : Tt (St1 X e [e2, e3, e4]) := by exact ⟨rfl⟩) (he2 : Tt (St1 X e2 [e3, e4]) := by exact ⟨rfl⟩) (he3 : Tt (St1 X e3 [e4]) := by exact ⟨rfl⟩) (he4 : Tt (St1 X e4 []) := by exact ⟨rfl⟩) (hp : Tt (Pl1 X pos [e2, e3, e4]) := by exact ⟨rfl⟩) : EvP X B Γ (.Call (.Name x p') [e, e2, e3, e4] [] pos) (c4 f ma m2 m3 m4) := by
  have := ev_callN (p' := p') cf hg (ea_cons h (ea_cons h2 (ea_cons h3 (ea_cons h4 ea_nil he4) he3) he2) he) he hp
  cases ma <;> cases m2 <;> cases m3 <;> cases m4 <;> exact this
theorem ev_call5 {f : PyData → PyData → PyData → PyData → PyData → R PyData} {e2 e3 e4 e5 : Expr} {m2 m3 m4 m5 : R PyData} (cf : CeF X x (u5 f)) (hg : Gl X x) (h : EvP X B Γ e ma) (h2 : EvP X B Γ e2 m2) (h3 : EvP X B Γ e3 m3) (h4 : EvP X B Γ e4 m4) (h5 : EvP X B Γ e5 m5) (he : Tt (St1 X e [e2, e3, e4, e5]) := by exact ⟨rfl⟩) (he2 : Tt (St1 X e2 [e3, e4, e5]) := by exact ⟨rfl⟩) (he3 : Tt (St1 X e3 [e4, e5]) := by exact ⟨rfl⟩) (he4 : Tt (St1 X e4 [e5]) := by exact ⟨rfl⟩) (he5 : Tt (St1 X e5 []) := by exact ⟨rfl⟩) (hp : Tt (Pl1 X pos [e2, e3, e4, e5]) := by exact ⟨rfl⟩) : EvP X B Γ (.Call (.Name x p') [e, e2, e3, e4, e5] [] pos) (c5 f ma m2 m3 m4 m5) := by
  have := ev_callN (p' := p') cf hg (ea_cons h (ea_cons h2 (ea_cons h3 (ea_cons h4 (ea_cons h5 ea_nil he5) he4) he3) he2) he) he hp
  cases ma <;> cases m2 <;> cases m3 <;> cases m4 <;> cases m5 <;> exact this
/-! ### an own list lent to an expression -/
mutual
def noLi : PyData → Bool
  | .list _ => false
  | .tuple ds => noLiA ds
  | .dict _ => false
  | _ => true
def noLiA : List PyData → Bool
  | [] => true
  | d :: ds => noLi d && noLiA ds
end
mutual
theorem dq_back {K : PySem.W.Frag} {H : Hp} {l : Addr} {zs : List V} : ∀ {v : V} {d : PyData}, Dq K (upd H l (.lst zs)) v d → noLi d = true → Dq K H v d
  | _, _, .non, _ => .non
  | _, _, .bl b, _ => .bl b
  | _, _, .int i, _ => .int i
  | _, _, .str s, _ => .str s
  | _, _, .lst _ _, n => nomatch n
  | _, _, .dic _ _, n => nomatch n
  | _, _, .exc _ _, n => nomatch n
  | _, _, .exf _ _ _ _, n => nomatch n
  | _, _, .obj _ _ _ _, n => nomatch n
  | _, _, @Dq.tup _ _ _ a xs ds hq ha, n => by
    refine .tup ?_ (dqAll_back ha n)
    rcases hq with (h | ⟨o, h⟩) | h
    · by_cases e : a = l
      · subst e; rw [upd_same] at h; cases h
      · rw [upd_ne e] at h; exact .inl (.inl h)
    · by_cases e : a = l
      · subst e; rw [upd_same] at h; cases h
      · rw [upd_ne e] at h; exact .inl (.inr ⟨o, h⟩)
    · exact .inr h
theorem dqAll_back {K : PySem.W.Frag} {H : Hp} {l : Addr} {zs : List V} : ∀ {vs : List V} {ds : List PyData}, DqAll K (upd H l (.lst zs)) vs ds → noLiA ds = true → DqAll K H vs ds
  | _, _, .nil, _ => .nil
  | _, _, @DqAll.cons _ _ _ v vs d ds h a, n => by
    have n' : (noLi d && noLiA ds) = true := n
    rw [Bool.and_eq_true] at n'
    exact .cons (dq_back h n'.1) (dqAll_back a n'.2)
end
/-- the answer keeps nothing of what was lent -/
def lnR (m : R PyData) : R PyData := m.bnd fun d => if noLi d = true then .ok d else .no
theorem ev_loan (hi : Tt (Γ[i]? = some (.ow ds))) (h : EvP X B (Γ.set i (.sh (.list ds))) e ma) : EvP X B Γ e (lnR ma) := by
  cases ma with
  | ok d =>
    show EvP X B Γ e (if noLi d = true then .ok d else .no)
    split
    · rename_i n
      intro H Hs σ E Q q
      obtain ⟨l, xs, hl, h1, h2, h3, h4⟩ := E.ow hi.h
      obtain ⟨g, x, E'⟩ := E.freeOwn (s' := .sh (.list ds)) hi.h rfl hl h1 rfl ⟨.ref l, rfl, .lst (SqL.of upd_same) (h2.mono (Ext.new h3))⟩
      refine h H _ σ E' Q fun v H2 Hs2 g2 p2 => ?_
      -- what the answer stands on, without the list lent
      let Hs3 : Hp := fun a => if a = l then none else Hs2 a
      have up3 : ∀ a u, Hs3 a = some u → Hs2 a = some u := fun a u e => by
        by_cases ea : a = l
        · have : (if a = l then none else Hs2 a) = some u := e
          rw [if_pos ea] at this
          cases this
        · have : (if a = l then none else Hs2 a) = some u := e
          rw [if_neg ea] at this
          exact this
      have at3 : ∀ a, a ≠ l → Hs3 a = Hs2 a := fun a ea => if_neg ea
      have gr : Gr H Hs H2 Hs3 := by
        refine ⟨g2.ext, fun a u e => ?_, fun a u e => g2.sub a u (up3 a u e), fun a e => ?_⟩
        · have ea : a ≠ l := ne_of_none e h3
          rw [at3 a ea]
          exact g2.exs a u (by rw [upd_ne ea]; exact e)
        · have ea : a ≠ l := fun z => by
            subst z
            exact e (if_pos rfl)
          rw [at3 a ea] at e
          rcases g2.new a e with z | z
          · rw [upd_ne ea] at z; exact .inl z
          · exact .inr z
      refine q v H2 Hs3 gr ?_
      have e2 : upd Hs3 l (.lst xs) = Hs2 := by
        funext a
        by_cases ea : a = l
        · subst ea
          rw [upd_same]
          rcases g2.exs a _ (upd_same) with z | ⟨_, _, z, _, _⟩
          · exact z.symm
          · cases z
        · rw [upd_ne ea, at3 a ea]
      rw [← e2] at p2
      exact dq_back p2 n
    · trivial
  | er y => trivial
  | no => trivial
theorem et_loan (hi : Tt (Γ[i]? = some (.ow ds))) (h : EvT X B (Γ.set i (.sh (.list ds))) e mt) : EvT X B Γ e mt := by
  cases mt with
  | ok p => exact xt_loan hi h
  | er y => trivial
  | no => trivial
/-- x[j], x one's own -/
theorem ev_ixO {p2 : Pos} (k : Rk X i x) (hi : Tt (Γ[i]? = some (.ow ds))) (hb : EvP X B Γ b mb) (hs : Tt (PlainIx b) := by exact ⟨fun _ _ => rfl⟩) : EvP X B Γ (.Subscript (.Name x p2) b pos) (op2 vIx (.ok (.list ds)) mb) := by
  cases mb with
  | ok d =>
    refine ev_no (fun d' hd => ?_) fun y hy => ofO_er hy
    have hd' := ofO_ok hd
    cases d with
    | int n => exact xe_ixOw hs k hi hb ⟨hd'⟩
    | _ => cases hd'
  | er y => trivial
  | no => trivial
theorem ev_lenO {p2 : Pos} (hb : Bi X "len") (k : Rk X i x) (hi : Tt (Γ[i]? = some (.ow ds))) (he : Tt (St1 X (.Name x p2) []) := by exact ⟨rfl⟩) (hp : Tt (Pl1 X pos []) := by exact ⟨rfl⟩) : EvP X B Γ (.Call (.Name "len" p') [.Name x p2] [] pos) (.ok (.int ds.length)) := xe_lenO hb he hp k hi
end
/-! ### what a block leaves -/
inductive Fl (τ ρ l : Type) where
  | nx (s : τ) | rt (d : ρ) | bk (s : l) | ct (s : l)
def FlOut {τ ρ l : Type} (G : τ → Gm) (L : l → Gm) (Ro : ρ → Out) : Fl τ ρ l → Out
  | .nx s => .nx (G s)
  | .rt d => Ro d
  | .bk s => .bk (L s)
  | .ct s => .ct (L s)
def bindF {τ τ' ρ l : Type} (m : R (Fl τ ρ l)) (f : τ → R (Fl τ' ρ l)) : R (Fl τ' ρ l) := match m with
  | .ok (.nx s) => f s
  | .ok (.rt d) => .ok (.rt d)
  | .ok (.bk s) => .ok (.bk s)
  | .ok (.ct s) => .ok (.ct s)
  | .er x => .er x
  | .no => .no
/-- a def's answer -/
def fin : R (Fl Unit PyData Empty) → R PyData
  | .ok (.rt d) => .ok d
  | .ok (.nx _) => .ok .none
  | .er x => .er x
  | _ => .no
def StM {τ ρ l : Type} (X : Cx) (B : Bs) (Γ : Gm) (ss : List Stmt) (G : τ → Gm) (L : l → Gm) (Ro : ρ → Out) : R (Fl τ ρ l) → Prop
  | .ok fl => Xb X B Γ ss fun o => o = FlOut G L Ro fl
  | .er x => AEs X B x → Xb X B Γ ss fun _ => False
  | .no => True
/-- .. where an exception is looked for at one place -/
def StE {τ ρ l : Type} (X : Cx) (B : Bs) (Γ : Gm) (ss : List Stmt) (G : τ → Gm) (L : l → Gm) (Ro : ρ → Out) : R (Fl τ ρ l) → Prop
  | .ok fl => Xb X B Γ ss fun o => o = FlOut G L Ro fl
  | .er x => AE X B Γ x → Xb X B Γ ss fun _ => False
  | .no => True
/-- Γ' says no more than Γ -/
inductive GmLe : Gm → Gm → Prop where
  | nil : GmLe [] []
  | eq {s : Sl} {Γ Γ' : Gm} : GmLe Γ Γ' → GmLe (s :: Γ) (s :: Γ')
  | un {s : Sl} {Γ Γ' : Gm} : GmLe Γ Γ' → GmLe (s :: Γ) (.un :: Γ')
theorem GmLe.refl : ∀ Γ : Gm, GmLe Γ Γ
  | [] => .nil
  | _ :: Γ => .eq (GmLe.refl Γ)
theorem GmLe.len : ∀ {Γ Γ' : Gm}, GmLe Γ Γ' → Γ.length = Γ'.length
  | _, _, .nil => rfl
  | _, _, .eq h => by rw [List.length_cons, List.length_cons, GmLe.len h]
  | _, _, .un h => by rw [List.length_cons, List.length_cons, GmLe.len h]
theorem GmLe.get : ∀ {Γ Γ' : Gm} {i : Nat} {s : Sl}, GmLe Γ Γ' → Γ'[i]? = some s → s = .un ∨ Γ[i]? = some s
  | _, _, _, _, .nil, h => by simp at h
  | _, _, 0, _, .eq _, h => .inr h
  | _, _, 0, _, .un _, h => .inl (by cases h; rfl)
  | _, _, i + 1, _, .eq g, h => GmLe.get (i := i) g h
  | _, _, i + 1, _, .un g, h => GmLe.get (i := i) g h
theorem En.le {K : PySem.W.Frag} {H0 Hs0 pn H Hs : Hp} {σ : L2.St} {Γ Γ' : Gm} (E : En K H0 Hs0 pn H Hs σ Γ) (h : GmLe Γ Γ') : En K H0 Hs0 pn H Hs σ Γ' := by
  refine ⟨E.gr, E.pin, E.len.trans h.len, fun i s o h1 h2 => ?_, fun i j s t l h1 h2 w1 w2 => ?_, E.tab⟩
  · rcases h.get h1 with rfl | z
    · trivial
    · exact E.at_ i s o z h2
  · rcases h.get h1 with rfl | z1
    · cases w1
    · rcases h.get h2 with rfl | z2
      · cases w2
      · exact E.sep i j s t l z1 z2 w1 w2
section
variable {X X' X0 : Cx} {B : Bs} {Γ Γ1 Γ2 : Gm} {e a b c o : Expr} {es : List Expr} {d d1 d2 d3 : PyData} {ds : List PyData} {pos p' ap : Pos} {x : Str} {i j k : Nat} {p q r : Bool} {y z : Str} {ma mb mc : R PyData} {ms : R (List PyData)} {mt mu : R Bool} {scope sc2 : Scope} {F : List PyData → R PyData} {P : Out → Prop}
variable {τ τ1 ρ l : Type} {G : τ → Gm} {G1 : τ1 → Gm} {L : l → Gm} {Ro : ρ → Out} {s st : Stmt} {ss body : List Stmt}
theorem xb_le {ss : List Stmt} (h : Xb X B Γ1 ss P) (g : GmLe Γ Γ1) : Xb X B Γ ss P := fun D H Hs σ E q => h D H Hs σ (En.le E g) q
theorem xb_imp {P' : Out → Prop} (h : Xb X B Γ ss P') (k : ∀ o, P' o → P o) : Xb X B Γ ss P := ds_imp h k
theorem xs_imp {P' : Out → Prop} (h : Xs X B Γ s P') (k : ∀ o, P' o → P o) : Xs X B Γ s P := ds_imp h k
/-- how a statement's judgement is used -/
theorem st_of {m : R (Fl τ ρ l)} (h1 : ∀ fl, m = .ok fl → Xb X B Γ ss fun o => o = FlOut G L Ro fl) (h2 : ∀ y, m = .er y → AEs X B y → Xb X B Γ ss fun _ => False) : StM X B Γ ss G L Ro m := by
  cases m with
  | ok fl => exact h1 fl rfl
  | er y => exact h2 y rfl
  | no => trivial
theorem st_nil {t : τ} (g : GmLe Γ (G t)) : StM X B Γ [] G L Ro (.ok (.nx t)) := xb_le (xb_nil rfl) g
theorem st_le {m : R (Fl τ ρ l)} (g : GmLe Γ Γ1) (h : StM X B Γ1 ss G L Ro m) : StM X B Γ ss G L Ro m := by
  cases m with
  | ok fl => exact xb_le h g
  | er y => exact fun ax => xb_le (h ax) g
  | no => trivial
theorem st_free (hi : Tt (Γ[i]? = some (.ow ds))) {m : R (Fl τ ρ l)} (h : StM X B (Γ.set i (.sh (.list ds))) ss G L Ro m) : StM X B Γ ss G L Ro m := by
  cases m with
  | ok fl => exact xb_free hi.h h
  | er y => exact fun ax => xb_free hi.h (h ax)
  | no => trivial
/-- a statement whose answer comes from an expression -/
theorem st_bind {α : Type} {m : R α} {f : α → R (Fl τ ρ l)} (hz : ∀ y, m = .er y → AE X B Γ y → ∀ P, Xs X B Γ s P) (h : ∀ v, m = .ok v → ∃ Γ', (∀ P : Out → Prop, P (.nx Γ') → Xs X B Γ s P) ∧ StM X B Γ' ss G L Ro (f v)) : StM X B Γ (s :: ss) G L Ro (m.bind f) := by
  cases m with
  | ok v =>
    show StM X B Γ (s :: ss) G L Ro (f v)
    obtain ⟨Γ', h1, h2⟩ := h v rfl
    refine st_of (fun fl hf => xbe_cons (h1 _ ?_)) fun y hf ax => xbe_cons (h1 _ ?_)
    · rw [hf] at h2
      exact seq_nx h2
    · rw [hf] at h2
      exact seq_nx (h2 ax)
  | er y =>
    exact fun ax => xbe_cons (hz y rfl (ax.at Γ) _)
  | no => trivial
theorem st_set {f : PyData → R (Fl τ ρ l)} {p2 : Pos} (k : Lk X i x) (h : EvP X B Γ e ma) (Γ1 : PyData → Gm) (hr : ∀ d, StM X B (Γ1 d) ss G L Ro (f d)) (hG : ∀ d, Γ.set i (.sh d) = Γ1 d := by exact fun _ => rfl) (hs : Tt (swapsWith e (some (.Name x p2)) pos.line X.env = pure false) := by exact ⟨rfl⟩) : StM X B Γ (.Assign [.Name x p2] e pos :: ss) G L Ro (ma.bind f) :=
  st_bind (fun y e1 ax P => by subst e1; exact xs_setZ k hs (h ax)) fun v e1 => by
    subst e1
    exact ⟨Γ1 v, fun P hP => xse_set k hs h ⟨hG v⟩ hP, hr v⟩
/-- x = a fresh list, one's own -/
theorem st_setO {f : List PyData → R (Fl τ ρ l)} {p2 : Pos} (k : Lk X i x) (h : EvL X B Γ e ms) (Γ1 : List PyData → Gm) (hr : ∀ d, StM X B (Γ1 d) ss G L Ro (f d)) (hG : ∀ d, Γ.set i (.ow d) = Γ1 d := by exact fun _ => rfl) (hs : Tt (swapsWith e (some (.Name x p2)) pos.line X.env = pure false) := by exact ⟨rfl⟩) : StM X B Γ (.Assign [.Name x p2] e pos :: ss) G L Ro (ms.bind f) :=
  st_bind (fun y e1 ax P => by subst e1; exact xs_setZ k hs (h ax)) fun v e1 => by
    subst e1
    exact ⟨Γ1 v, fun P hP => xse_setO k hs h ⟨hG v⟩ hP, hr v⟩
/-- x = [..] on one line -/
theorem st_setLc {κ : Type} {f : List PyData → R (Fl τ ρ l)} {elt tg iter : Expr} {ifs : List Expr} {own : List (Str × Nat)} {js : List Nat} {py : Pos} {u : PyData → Option κ} {cc : κ → R Bool} {g : κ → R PyData} (sl : Bool) (Gk : κ → Gm) (hr : Room j X.A) (k : Lk X i x) (ok : BlkOk X.N X.env.scope scope own)
    (hi : EvI X B Γ tg iter ms) (ht : ∀ X', Bk X scope j X' → TgOk X' tg js (wipeG Γ (own.map (·.2))) u Gk) (hb : ∀ X', Bk X scope j X' → ∀ B' k, EvQ X' B' (Gk k) ifs (cc k) ∧ EvP X' B' (Gk k) elt (g k))
    (Γ1 : List PyData → Gm) (hrest : ∀ d, StM X B (Γ1 d) ss G L Ro (f d)) (hG : ∀ d, Γ.set i (if sl then .ow d else .sh (.list d)) = Γ1 d := by exact fun _ => rfl)
    (hv : Tt ((js.all fun j => decide (j ∈ own.map (·.2))) = true) := by exact ⟨rfl⟩) (hc : Tt (X.calm = true) := by exact ⟨rfl⟩) (hs : Tt (∀ x, foldedSetIterable iter X.env x = pure x) := by exact ⟨fun _ => rfl⟩) (hyl : Tt (X.env.scope.names.lookup x = some .local) := by exact ⟨rfl⟩)
    (hsw : Tt (swapsWith (.ListComp elt [⟨tg, iter, ifs, 0⟩] scope pos) (some (.Name x py)) p'.line X.env = pure true) := by exact ⟨rfl⟩) :
    StM X B Γ (.Assign [.Name x py] (.ListComp elt [⟨tg, iter, ifs, 0⟩] scope pos) p' :: ss) G L Ro ((ms.bnd fun ds => if ds.length ≤ 1000000 then lcR u cc g ds else .no).bind f) := by
  cases ms with
  | ok ds =>
    show StM X B Γ _ G L Ro ((if ds.length ≤ 1000000 then lcR u cc g ds else .no).bind f)
    split
    · rename_i q
      refine st_bind (fun y hl => absurd hl lcR_er) fun ys hl => ?_
      obtain ⟨pr, ev, G2, rfl, h2⟩ := lc_pre (Γ := Γ) (own := own) hl ht hb
      exact ⟨Γ1 _, fun P hP => xs_setB sl pr ev G2 hr k hyl hc ok hsw hs hi ⟨q⟩ hv h2 ⟨hG _⟩ hP, hrest _⟩
    · trivial
  | er y => trivial
  | no => trivial
theorem st_drop {f : PyData → R (Fl τ ρ l)} (h : EvP X B Γ e ma) (hr : ∀ d, StM X B Γ ss G L Ro (f d)) (hs : Tt (swapsWith e none pos.line X.env = pure false) := by exact ⟨rfl⟩) : StM X B Γ (.Expr e pos :: ss) G L Ro (ma.bind f) :=
  st_bind (fun y e1 ax P => by subst e1; exact xs_dropZ hs (h ax)) fun v e1 => by
    subst e1
    exact ⟨Γ, fun P hP => xs_drop hs h hP, hr v⟩
theorem st_pass {m : R (Fl τ ρ l)} (h : StM X B Γ ss G L Ro m) : StM X B Γ (.Pass pos :: ss) G L Ro m :=
  st_of (fun fl hf => xbe_cons (xs_pass (by rw [hf] at h; exact seq_nx h))) fun y hf ax => xbe_cons (xs_pass (by rw [hf] at h; exact seq_nx (h ax)))
/-- a statement behind which nothing of the block runs -/
theorem st_end {m : R (Fl τ ρ l)} (h1 : ∀ fl, m = .ok fl → Xs X B Γ s (fun o => o = FlOut G L Ro fl ∧ ∀ Γ', o ≠ .nx Γ')) (h2 : ∀ y, m = .er y → AE X B Γ y → ∀ P, Xs X B Γ s P) : StM X B Γ (s :: ss) G L Ro m :=
  st_of (fun fl hf => xbe_cons (xs_imp (h1 fl hf) fun o ho => by
    obtain ⟨rfl, hn⟩ := ho
    cases hq : FlOut G L Ro fl with
    | nx Γ' => exact absurd hq (hn Γ')
    | rt d => exact rfl
    | bk Γ' => exact rfl
    | ct Γ' => exact rfl
    | ro ds => exact rfl
    | rm l es d => exact rfl)) fun y hf ax => xbe_cons (h2 y hf (ax.at Γ) _)
theorem st_ret {L : l → Gm} (h : EvP X B Γ e ma) : StM X B Γ (.Return (some e) pos :: ss) G L Out.rt (ma.bind fun d => .ok (.rt d)) := by
  refine st_end (fun fl hf => ?_) fun y hf ax P => ?_
  · cases ma with
    | ok d => cases hf; exact xs_ret h ⟨rfl, fun _ z => nomatch z⟩
    | er y => cases hf
    | no => cases hf
  · cases ma with
    | ok d => cases hf
    | er y => cases hf; exact xs_retZ (h ax)
    | no => cases hf
theorem st_retN {L : l → Gm} : StM X B Γ (.Return none pos :: ss) G L Out.rt (.ok (.rt .none)) :=
  st_end (fun fl hf => by cases hf; exact xs_retN ⟨rfl, fun _ z => nomatch z⟩) fun y hf => nomatch hf
theorem st_raise {m : Str} {jj : _} {p p2 cpos : Pos} (k : ExB X.K X.mg x) (hg : Gl X x) (hc : Tt (X.calm = true) := by exact ⟨rfl⟩) : StM X B Γ (.Raise (some (.Call (.Name x p) [.Constant (.str m) jj p2] [] cpos)) none pos :: ss) G L Ro (.er ⟨x, []⟩) := by
  refine st_end (fun fl hf => nomatch hf) fun y hf ax P => ?_
  cases hf
  obtain ⟨W, D, hD, tk, hW⟩ := ax.ex
  exact xs_raise k hg ⟨W, D, hD, tk, fun σ H Hs E => hW σ H Hs none E (.inl ⟨rfl, rfl⟩)⟩ hc
theorem st_brk {t : l} (g : GmLe Γ (L t)) : StM X B Γ (.Break pos :: ss) G L Ro (.ok (.bk t)) := st_le g (st_end (fun fl hf => by cases hf; exact xs_brk ⟨rfl, fun _ z => nomatch z⟩) fun y hf => nomatch hf)
theorem st_cont {t : l} (g : GmLe Γ (L t)) : StM X B Γ (.Continue pos :: ss) G L Ro (.ok (.ct t)) := st_le g (st_end (fun fl hf => by cases hf; exact xs_cont ⟨rfl, fun _ z => nomatch z⟩) fun y hf => nomatch hf)
theorem st_seq {m : R (Fl τ1 ρ l)} {f : τ1 → R (Fl τ ρ l)} (h1 : ∀ fl, m = .ok fl → Xs X B Γ s fun o => o = FlOut G1 L Ro fl) (h2 : ∀ y, m = .er y → AEs X B y → ∀ P, Xs X B Γ s P) (hr : ∀ t, StM X B (G1 t) ss G L Ro (f t)) (hRo : ∀ d Γ', Ro d ≠ .nx Γ') : StM X B Γ (s :: ss) G L Ro (bindF m f) := by
  cases m with
  | ok fl =>
    have h := h1 fl rfl
    cases fl with
    | nx t =>
      show StM X B Γ (s :: ss) G L Ro (f t)
      have h2 := hr t
      refine st_of (fun fl hf => xbe_cons (xs_imp h fun o ho => ?_)) fun y hf ax => xbe_cons (xs_imp h fun o ho => ?_)
      · subst ho
        rw [hf] at h2
        exact seq_nx h2
      · subst ho
        rw [hf] at h2
        exact seq_nx (h2 ax)
    | rt d => exact xbe_cons (xs_imp h fun o ho => by
        subst ho
        show seqP X B ss _ (Ro d)
        cases hq : Ro d with
        | nx Γ' => exact absurd hq (hRo d Γ')
        | rt d => exact hq.symm
        | bk Γ' => exact hq.symm
        | ct Γ' => exact hq.symm
        | ro ds => exact hq.symm
        | rm l es d => exact hq.symm)
    | bk t => exact xbe_cons (xs_imp h fun o ho => by subst ho; exact rfl)
    | ct t => exact xbe_cons (xs_imp h fun o ho => by subst ho; exact rfl)
  | er y => exact fun ax => xbe_cons (h2 y rfl ax _)
  | no => trivial
theorem st_if {m1 m2 : R (Fl τ1 ρ l)} {f : τ1 → R (Fl τ ρ l)} {s1 s2 : List Stmt} (h : EvT X B Γ c mt) (G1 : τ1 → Gm) (h1 : StM X B Γ s1 G1 L Ro m1) (h2 : StM X B Γ s2 G1 L Ro m2) (hr : ∀ t, StM X B (G1 t) ss G L Ro (f t)) (hRo : ∀ d Γ', Ro d ≠ .nx Γ' := by exact fun _ _ z => nomatch z) : StM X B Γ (.If c s1 s2 pos :: ss) G L Ro (bindF (iff mt m1 m2) f) := by
  cases mt with
  | ok p =>
    cases p with
    | true =>
      show StM X B Γ _ G L Ro (bindF m1 f)
      refine st_seq (fun fl hf => xs_if h (fun _ => ?_) fun z => nomatch z) (fun y hf ax P => xs_if h (fun _ => ?_) fun z => nomatch z) hr hRo
      · rw [hf] at h1; exact h1
      · rw [hf] at h1; exact xb_imp (h1 ax) fun _ z => z.elim
    | false =>
      show StM X B Γ _ G L Ro (bindF m2 f)
      refine st_seq (fun fl hf => xs_if h (fun z => nomatch z) fun _ => ?_) (fun y hf ax P => xs_if h (fun z => nomatch z) fun _ => ?_) hr hRo
      · rw [hf] at h2; exact h2
      · rw [hf] at h2; exact xb_imp (h2 ax) fun _ z => z.elim
  | er y => trivial
  | no => trivial
/-- x.append(e) -/
def appR (ds : List PyData) (m : R PyData) : R (List PyData) := m.bind fun d => if ds.length < 1000000 then .ok (ds ++ [d]) else .no
theorem st_app {f : List PyData → R (Fl τ ρ l)} {p2 : Pos} (k : Rk X i x) (hi : Tt (Γ[i]? = some (.ow ds))) (h : EvP X B Γ e ma) (Γ1 : List PyData → Gm) (hr : ∀ d, StM X B (Γ1 d) ss G L Ro (f d)) (hG : ∀ d, Γ.set i (.ow d) = Γ1 d := by exact fun _ => rfl)
    (hs : Tt (swapsWith (.Call (.Attribute (.Name x p2) "append" ap) [e] [] p') none pos.line X.env = pure false) := by exact ⟨rfl⟩) (hb : Tt (Mb X (.Name x p2) "append") := by exact ⟨rfl⟩) (hf : Tt (Mf X p' e []) := by exact ⟨rfl⟩) (hl : Tt ((ap.endLine == p'.line) = true) := by exact ⟨rfl⟩) (he : Tt (St1 X e []) := by exact ⟨rfl⟩) (hp : Tt (Pl1 X p' []) := by exact ⟨rfl⟩) :
    StM X B Γ (.Expr (.Call (.Attribute (.Name x p2) "append" ap) [e] [] p') pos :: ss) G L Ro ((appR ds ma).bind f) := by
  cases ma with
  | ok d =>
    show StM X B Γ _ G L Ro ((if ds.length < 1000000 then .ok (ds ++ [d]) else .no : R (List PyData)).bind f)
    split
    · rename_i q
      refine st_bind (m := .ok (ds ++ [d])) (fun y hf => nomatch hf) fun v hv => ?_
      cases hv
      exact ⟨Γ1 _, fun P hP => xse_app k hs hb hf hl he hp hi h ⟨by rw [sizeLine_eq]; omega⟩ ⟨hG _⟩ hP, hr _⟩
    · trivial
  | er y =>
    refine fun ax => xbe_cons ?_
    have hz := h (ax.at Γ)
    refine xs_of (ps_expr (pe_bm PySem.F.plainAttrs_list PySem.F.slot_list_append PySem.F.type_list_append mt_append (pe_var k.ix k.vis k.d1 k.d2) (pa_cons pe_u pa_nil he.h) hb.h hf.h hl.h he.h hp.h) hs.h) ?_
    intro D H Hs σ E q
    obtain ⟨l, xs, e1, h1, h2, h3, h4⟩ := E.ow hi.h
    exact ⟨.ref l, e1, .inl ⟨rfl, xs, SqL.of h1⟩, hz H Hs σ E _⟩
  | no => trivial
/-- x[j] = e, x one's own -/
def putR (ds : List PyData) (m mj : R PyData) : R (List PyData) := m.bnd fun d => mj.bnd fun j => match j with
  | .int n => match ixN ds.length n with
    | some k => .ok (ds.set k d)
    | none => .no
  | _ => .no
theorem st_put {f : List PyData → R (Fl τ ρ l)} {p2 ps : Pos} (k : Rk X i x) (hi : Tt (Γ[i]? = some (.ow ds))) (h : EvP X B Γ e ma) (hj : EvP X B Γ b mb) (Γ1 : List PyData → Gm) (hr : ∀ d, StM X B (Γ1 d) ss G L Ro (f d)) (hG : ∀ d, Γ.set i (.ow d) = Γ1 d := by exact fun _ => rfl)
    (ha : Tt (∀ v, assign (.Subscript (.Name x p2) b ps) X.env v = (do
      let ov ← holding [v] (eval (.Name x p2) X.env)
      let iv ← holding [v, ov] (eval b X.env)
      standAt ps
      holding [v, ov, iv] (setItem ov iv v)
      release [v, ov, iv] [])) := by exact ⟨fun _ => rfl⟩) (hs : Tt (swapsWithSole [.Subscript (.Name x p2) b ps] e pos.line X.env = pure false) := by exact ⟨rfl⟩) (hw : Tt (swappedStores [.Subscript (.Name x p2) b ps] e X.env = pure none) := by exact ⟨rfl⟩) (h1 : Tt ((assignEach [.Subscript (.Name x p2) b ps] X.env).map (·.2) = [assign (.Subscript (.Name x p2) b ps) X.env]) := by exact ⟨rfl⟩) :
    StM X B Γ (.Assign [.Subscript (.Name x p2) b ps] e pos :: ss) G L Ro ((putR ds ma mb).bind f) := by
  cases ma with
  | ok d =>
    cases mb with
    | ok dj =>
      cases dj with
      | int n =>
        show StM X B Γ _ G L Ro ((match ixN ds.length n with | some k => .ok (ds.set k d) | none => .no : R (List PyData)).bind f)
        cases hn : ixN ds.length n with
        | none => trivial
        | some kk =>
          refine st_bind (m := .ok (ds.set kk d)) (fun y hf => nomatch hf) fun v hv => ?_
          cases hv
          exact ⟨Γ1 _, fun P hP => xs_putOw k ha hs hw h1 hi h hj ⟨hn⟩ ⟨hG _⟩ hP, hr _⟩
      | _ => trivial
    | er y => trivial
    | no => trivial
  | er y => trivial
  | no => trivial
/-- x += e, ints -/
def vInc : PyData → PyData → Option PyData
  | .int m, .int n => some (.int (m + n))
  | _, _ => none
theorem st_aug {f : PyData → R (Fl τ ρ l)} {p2 : Pos} (k : Lk X i x) (hi : Tt (Γ[i]? = some (.sh d))) (h : EvP X B Γ e ma) (Γ1 : PyData → Gm) (hr : ∀ d, StM X B (Γ1 d) ss G L Ro (f d)) (hG : ∀ d, Γ.set i (.sh d) = Γ1 d := by exact fun _ => rfl) : StM X B Γ (.AugAssign (.Name x p2) .Add e pos :: ss) G L Ro ((op2 vInc (.ok d) ma).bind f) := by
  cases ma with
  | ok d2 =>
    cases d with
    | int m =>
      cases d2 with
      | int n =>
        refine st_bind (m := (.ok (PyData.int (m + n)) : R PyData)) (fun y hf => nomatch hf) fun v hv => ?_
        cases hv
        exact ⟨Γ1 _, fun P hP => xse_aug k hi h ⟨hG _⟩ hP, hr _⟩
      | _ => trivial
    | _ => trivial
  | er y => trivial
  | no => trivial
/-- a, b = c, d -/
theorem st_par {f : PyData → PyData → R (Fl τ ρ l)} {j : Nat} {x y : Str} {a b : Expr} {px py pt : Pos} {kt k2 pt2} (ki : Lk X i x) (kj : Lk X j y) (ha : EvP X B Γ a ma) (hb : EvP X B Γ b mb) (Γ1 : PyData → PyData → Gm) (hr : ∀ d d2, StM X B (Γ1 d d2) ss G L Ro (f d d2)) (hG : ∀ d d2, (Γ.set i (.sh d)).set j (.sh d2) = Γ1 d d2 := by exact fun _ _ => rfl)
    (hij : Tt (decide (i ≠ j) = true) := by exact ⟨rfl⟩) (hc : Tt (X.calm = true) := by exact ⟨rfl⟩) (hx : Tt (X.env.scope.names.lookup x = some .local) := by exact ⟨rfl⟩) (hy : Tt (X.env.scope.names.lookup y = some .local) := by exact ⟨rfl⟩)
    (hw : Tt (swappedStores [.Tuple [.Name x px, .Name y py] kt pt] (.Tuple [a, b] k2 pt2) X.env = pure (some [x, y])) := by exact ⟨rfl⟩) (hs : Tt (swapsWithSole [.Tuple [.Name x px, .Name y py] kt pt] (.Tuple [a, b] k2 pt2) pos.line X.env = pure false) := by exact ⟨rfl⟩)
    (he : Tt (St1 X a [b]) := by exact ⟨rfl⟩) (he2 : Tt (St1 X b []) := by exact ⟨rfl⟩) :
    StM X B Γ (.Assign [.Tuple [.Name x px, .Name y py] kt pt] (.Tuple [a, b] k2 pt2) pos :: ss) G L Ro (ma.bnd fun d => mb.bnd fun d2 => f d d2) := by
  cases ma with
  | ok d =>
    cases mb with
    | ok d2 =>
      show StM X B Γ _ G L Ro (f d d2)
      refine st_bind (m := .ok ()) (f := fun _ => f d d2) (fun y hf => nomatch hf) fun v hv => ?_
      exact ⟨Γ1 d d2, fun P hP => xse_par hc ki kj hij hx hy hw hs (xae_cons he ha (xae_cons he2 hb xa_nil)) ⟨hG _ _⟩ hP, hr _ _⟩
    | er y => trivial
    | no => trivial
  | er y => trivial
  | no => trivial
/-- a, b, .. = e, told by a target's rule; a list may be taken apart, too -/
def tgL {κ : Type} (f : PyData → Option κ) : PyData → Option κ
  | .list ds => f (.tuple ds)
  | d => f d
theorem st_unp {κ : Type} {f : κ → R (Fl τ ρ l)} {u : PyData → Option κ} {Gk : κ → Gm} {js : List Nat} {tg : Expr} (h : EvP X B Γ e ma) (ht : TgOk X tg js Γ u Gk) (hr : ∀ k, StM X B (Gk k) ss G L Ro (f k))
    (hs : Tt (swapsWithSole [tg] e pos.line X.env = pure false) := by exact ⟨rfl⟩) (hw : Tt (swappedStores [tg] e X.env = pure none) := by exact ⟨rfl⟩) (h1 : Tt ((assignEach [tg] X.env).map (·.2) = [assign tg X.env]) := by exact ⟨rfl⟩) :
    StM X B Γ (.Assign [tg] e pos :: ss) G L Ro (ma.bind fun d => (R.ofO (u d)).bind f) := by
  cases ma with
  | ok d =>
    show StM X B Γ _ G L Ro ((R.ofO (u d)).bind f)
    cases hu : u d with
    | none => trivial
    | some k =>
      refine st_bind (m := .ok ()) (f := fun _ => f k) (fun y hf => nomatch hf) fun v hv => ?_
      exact ⟨Gk k, fun P hP => xs_asg hs.h hw.h h1.h h (ht d k hu) hP, hr k⟩
  | er y =>
    refine fun ax => xbe_cons (xs_of (ps_asg pe_u pg_u hs.h hw.h h1.h) ?_)
    intro D H Hs σ E q
    exact h (ax.at Γ) H Hs σ E _
  | no => trivial
/-! ### loops -/
def forF {κ σ ρ l : Type} (tg : PyData → Option κ) (body : σ → κ → R (Fl σ ρ σ)) : List PyData → σ → R (Fl σ ρ l)
  | [], s => .ok (.nx s)
  | d :: ds, s => (R.ofO (tg d)).bnd fun k => match body s k with
    | .ok (.nx s') => forF tg body ds s'
    | .ok (.ct s') => forF tg body ds s'
    | .ok (.bk s') => .ok (.nx s')
    | .ok (.rt d) => .ok (.rt d)
    | .er x => .er x
    | .no => .no
theorem ds_forB {K : PySem.W.Frag} {wi : TI} {g : TG} {tb : TS} (h : DI K B wi Γ ds) (I : Nat → Gm → Prop) (h0 : I 0 Γ)
    (hs : ∀ L k d Γ', ds[k]? = some d → I k Γ' → ∃ js Γ2, DG K g js d Γ' Γ2 ∧ DS K (B.at L) tb Γ2 (turnS I k P)) (hd : ∀ Γ', I ds.length Γ' → P (.nx Γ')) : DS K B (tFor wi g tb) Γ P := fun D H Hs σ E q => h H Hs σ E _ fun J H1 Hs1 g1 hJ => by
  have E1 := E.grow g1
  refine ⟨fun i m σ' H' => m = ds.length - i ∧ i ≤ ds.length ∧ ∃ Γ' Hs', I i Γ' ∧ Enb K (B.at Hs1) H' Hs' σ' Γ', ⟨ds.length, rfl, Nat.zero_le _, Γ, Hs1, h0, low_in E1 (Ext.refl _)⟩, ?_⟩
  rintro i m σ' H' ⟨rfl, hi, Γ', Hs', hI, E'⟩
  obtain ⟨j1, j2⟩ := hJ H' Hs' E'.sub E'.pin
  by_cases hlt : i < ds.length
  · have hd' : ds[i]? = some ds[i] := List.getElem?_eq_getElem hlt
    obtain ⟨j3, j4⟩ := j2 i _ hd'
    refine .inr ⟨j3, fun σ2 H2 => ∃ Γ2 Hs2, I (i + 1) Γ2 ∧ Enb K (B.at Hs1) H2 Hs2 σ2 Γ2, fun σ2 H2 ⟨Γ2, Hs2, hI2, E2⟩ => ⟨ds.length - (i + 1), by omega, rfl, by omega, Γ2, Hs2, hI2, E2⟩, fun x H2 hy => ?_⟩
    obtain ⟨Hs2, g2, p2⟩ := j4 x H2 hy
    obtain ⟨js, Γ2, hg, hb⟩ := hs Hs1 i _ Γ' hd' hI
    refine hg (B.at Hs1) H2 Hs2 σ' x (E'.grow g2) p2 _ fun σ3 E3 _ => hb _ H2 Hs2 σ3 E3 fun o ho => turn_fits ho q E1.pin fun Γ4 H4 Hs4 σ4 hI4 E4 => ⟨Γ4, Hs4, hI4, E4⟩
  · have e : i = ds.length := by omega
    subst e
    exact .inl ⟨j1, q _ (hd Γ' hI) H' Hs' σ' (low_out E' E1.pin)⟩
theorem xs_forB {tg iter : Expr} (hp : PassesOwn (model X.prog X.w) X.A X.env X.xe) (hc : X.calm = true) (hs : ∀ x, foldedSetIterable iter X.env x = pure x) (h : Xi X B Γ tg iter ds) (I : Nat → Gm → Prop) (h0 : I 0 Γ)
    (hb : ∀ L k d Γ', ds[k]? = some d → I k Γ' → ∃ js Γ2, Xg X tg js d Γ' Γ2 ∧ Xb X (B.at L) Γ2 body (turnS I k P)) (hd : ∀ Γ', I ds.length Γ' → P (.nx Γ')) : Xs X B Γ (.For tg iter body [] pos) P :=
  xs_of (ps_for hp hc pi_u pg_u pb_u hs) (ds_forB h I h0 hb hd)
theorem drop_cons {α : Type} {xs : List α} {k : Nat} {a : α} (h : xs[k]? = some a) : xs.drop k = a :: xs.drop (k + 1) := by
  obtain ⟨h1, h2⟩ := List.getElem?_eq_some_iff.mp h
  rw [← h2]
  exact List.drop_eq_getElem_cons h1
theorem xs_le {Γ1 : Gm} (h : Xs X B Γ1 s P) (g : GmLe Γ Γ1) : Xs X B Γ s P := fun D H Hs σ E q => h D H Hs σ (En.le E g) q
/-- the way out o says as much as o' -/
def OutLe : Out → Out → Prop
  | .nx Γ, .nx Γ' => GmLe Γ Γ'
  | o, o' => o = o'
theorem fits_le {K : PySem.W.Frag} {D : Ends} {o o' : Out} (h : OutLe o o') (f : Fits K B D o') : Fits K B D o := by
  cases o with
  | nx Γ =>
    cases o' with
    | nx Γ' => exact fun H Hs σ E => f H Hs σ (En.le E h)
    | _ => cases h
  | rt d => cases o' <;> cases h; exact f
  | bk d => cases o' <;> cases h; exact f
  | ct d => cases o' <;> cases h; exact f
  | ro d => cases o' <;> cases h; exact f
  | rm l es d => cases o' <;> cases h; exact f
theorem xs_out {P' : Out → Prop} (h : Xs X B Γ s P') (k : ∀ o, P' o → ∃ o', OutLe o o' ∧ P o') : Xs X B Γ s P := fun D H Hs σ E q => h D H Hs σ E fun o ho => by
  obtain ⟨o', l, p⟩ := k o ho
  exact fits_le l (q o' p)
theorem xg_le {tg : Expr} {js : List Nat} {Γ1 Γ2 : Gm} (h : Xg X tg js d Γ1 Γ2) (g : GmLe Γ Γ1) : Xg X tg js d Γ Γ2 := fun B' H Hs σ v E p Q q => h B' H Hs σ v (En.le E g) p Q q
theorem forF_at {κ σ : Type} {tg : PyData → Option κ} {body : σ → κ → R (Fl σ ρ σ)} {s : σ} {m : R (Fl σ ρ l)} {kk : Nat} (hd : ds[kk]? = some d) (h : forF tg body (ds.drop kk) s = m) (hm : m ≠ .no) : ∃ k, tg d = some k ∧ ((∃ s', (body s k = .ok (.nx s') ∨ body s k = .ok (.ct s')) ∧ forF tg body (ds.drop (kk + 1)) s' = m) ∨ (∃ s', body s k = .ok (.bk s') ∧ m = .ok (.nx s')) ∨ (∃ d', body s k = .ok (.rt d') ∧ m = .ok (.rt d')) ∨ ∃ y, body s k = .er y ∧ m = .er y) := by
  rw [drop_cons hd] at h
  unfold forF at h
  cases ht : tg d with
  | none => rw [ht] at h; exact absurd h.symm hm
  | some k =>
    rw [ht] at h
    refine ⟨k, rfl, ?_⟩
    dsimp only [R.ofO, R.bnd] at h
    cases hb : body s k with
    | ok fl =>
      rw [hb] at h
      cases fl with
      | nx s' => exact .inl ⟨s', .inl rfl, h⟩
      | ct s' => exact .inl ⟨s', .inr rfl, h⟩
      | bk s' => exact .inr (.inl ⟨s', rfl, h.symm⟩)
      | rt d' => exact .inr (.inr (.inl ⟨d', rfl, h.symm⟩))
    | er y => rw [hb] at h; exact .inr (.inr (.inr ⟨y, rfl, h.symm⟩))
    | no => rw [hb] at h; exact absurd h.symm hm
theorem AEs.low {x : Exn} (ax : AEs X B x) (H : Hp) : AEs X (B.at H) x := fun Γ B' h1 h2 => ax Γ B' h1 h2
theorem st_for {κ σ : Type} {f : σ → R (Fl τ ρ l)} {tg iter : Expr} {js : List Nat} {u : PyData → Option κ} {bd : σ → κ → R (Fl σ ρ σ)} {s0 : σ} (hp : PassesOwn (model X.prog X.w) X.A X.env X.xe) (hi : EvI X B Γ tg iter ms) (Gl : σ → Gm) (Gt : σ → κ → Gm) (ht : ∀ s, TgOk X tg js (Gl s) u (Gt s)) (hb : ∀ H s k, StM X (B.at H) (Gt s k) body Gl Gl Ro (bd s k)) (g0 : GmLe Γ (Gl s0)) (hr : ∀ s, StM X B (Gl s) ss G L Ro (f s))
    (hRo : ∀ d Γ', Ro d ≠ .nx Γ' := by exact fun _ _ z => nomatch z) (hRo2 : ∀ d I k P, P (Ro d) → turnS I k P (Ro d) := by exact fun _ _ _ _ z => z) (hc : Tt (X.calm = true) := by exact ⟨rfl⟩) (hs : Tt (∀ x, foldedSetIterable iter X.env x = pure x) := by exact ⟨fun _ => rfl⟩) :
    StM X B Γ (.For tg iter body [] pos :: ss) G L Ro (bindF (ms.bnd fun ds => forF u bd ds s0) f) := by
  cases ms with
  | ok ds =>
    show StM X B Γ _ G L Ro (bindF (forF u bd ds s0) f)
    refine st_seq (G1 := Gl) (fun fl hf => ?_) (fun y hf ax P => ?_) hr hRo
    · refine xs_out (P' := fun o => (∃ Γ' s, o = .nx Γ' ∧ fl = .nx s ∧ GmLe Γ' (Gl s)) ∨ (∃ d, o = Ro d ∧ fl = .rt d)) (xs_forB hp hc.h hs.h hi (fun k Γ' => ∃ s, GmLe Γ' (Gl s) ∧ forF u bd (ds.drop k) s = (.ok fl : R (Fl σ ρ l))) ⟨s0, g0, hf⟩ (fun H k d Γ' hk hI => ?_) (fun Γ' hI => ?_)) (fun o ho => ?_)
      · obtain ⟨s, le, e⟩ := hI
        obtain ⟨kk, h1, h2⟩ := forF_at hk e (fun z => nomatch z)
        refine ⟨js, Gt s kk, xg_le (ht s d kk h1) le, ?_⟩
        have hbd := hb H s kk
        rcases h2 with ⟨s', h2 | h2, h3⟩ | ⟨s', h2, h3⟩ | ⟨d', h2, h3⟩ | ⟨y, h2, h3⟩
        · rw [h2] at hbd
          exact xb_imp hbd fun o ho => by subst ho; exact ⟨s', GmLe.refl _, h3⟩
        · rw [h2] at hbd
          exact xb_imp hbd fun o ho => by subst ho; exact ⟨s', GmLe.refl _, h3⟩
        · rw [h2] at hbd
          cases h3
          exact xb_imp hbd fun o ho => by subst ho; exact .inl ⟨_, s', rfl, rfl, GmLe.refl _⟩
        · rw [h2] at hbd
          cases h3
          exact xb_imp hbd fun o ho => by subst ho; exact hRo2 _ _ _ _ (.inr ⟨d', rfl, rfl⟩)
        · cases h3
      · obtain ⟨s, le, e⟩ := hI
        rw [List.drop_length] at e
        cases e
        exact .inl ⟨Γ', s, rfl, rfl, le⟩
      · rcases ho with ⟨Γ', s, rfl, rfl, le⟩ | ⟨d, rfl, rfl⟩
        · exact ⟨.nx (Gl s), le, rfl⟩
        · refine ⟨Ro d, ?_, rfl⟩
          cases hq : Ro d with
          | nx Γ' => exact absurd hq (hRo d Γ')
          | _ => rfl
    · refine xs_imp (P' := fun _ => False) (xs_forB hp hc.h hs.h hi (fun k Γ' => ∃ s, GmLe Γ' (Gl s) ∧ forF u bd (ds.drop k) s = (.er y : R (Fl σ ρ l))) ⟨s0, g0, hf⟩ (fun H k d Γ' hk hI => ?_) (fun Γ' hI => ?_)) fun _ z => z.elim
      · obtain ⟨s, le, e⟩ := hI
        obtain ⟨kk, h1, h2⟩ := forF_at hk e (fun z => nomatch z)
        refine ⟨js, Gt s kk, xg_le (ht s d kk h1) le, ?_⟩
        have hbd := hb H s kk
        rcases h2 with ⟨s', h2 | h2, h3⟩ | ⟨s', h2, h3⟩ | ⟨d', h2, h3⟩ | ⟨y', h2, h3⟩
        · rw [h2] at hbd
          exact xb_imp hbd fun o ho => by subst ho; exact ⟨s', GmLe.refl _, h3⟩
        · rw [h2] at hbd
          exact xb_imp hbd fun o ho => by subst ho; exact ⟨s', GmLe.refl _, h3⟩
        · cases h3
        · cases h3
        · rw [h2] at hbd
          cases h3
          exact xb_imp (hbd (ax.low H)) fun o ho => ho.elim
      · obtain ⟨s, le, e⟩ := hI
        rw [List.drop_length] at e
        cases e
  | er y => trivial
  | no => trivial
/-! while -/
def whN {σ ρ l : Type} (c : σ → R Bool) (b : σ → R (Fl σ ρ σ)) : Nat → σ → R (Fl σ ρ l)
  | 0, _ => .no
  | n + 1, s => (c s).bnd fun p => if p then (match b s with
      | .ok (.nx s') => whN c b n s'
      | .ok (.ct s') => whN c b n s'
      | .ok (.bk s') => .ok (.nx s')
      | .ok (.rt d) => .ok (.rt d)
      | .er x => .er x
      | .no => .no) else .ok (.nx s)
open Classical in
noncomputable def whR {σ ρ l : Type} (c : σ → R Bool) (b : σ → R (Fl σ ρ σ)) (s : σ) : R (Fl σ ρ l) :=
  if h : ∃ n, whN (l := l) c b n s ≠ .no then whN c b (Classical.choose h) s else .no
omit [Tabs] in
theorem whN_up {σ : Type} {c : σ → R Bool} {b : σ → R (Fl σ ρ σ)} : ∀ {n : Nat} {s : σ} {m : R (Fl σ ρ l)}, whN c b n s = m → m ≠ .no → whN c b (n + 1) s = m
  | 0, s, m, h, hm => absurd h.symm hm
  | n + 1, s, m, h, hm => by
    unfold whN at h ⊢
    cases hc : c s with
    | ok p =>
      rw [hc] at h
      dsimp only [R.bnd] at h ⊢
      cases p with
      | false => exact h
      | true =>
        simp only [if_true] at h ⊢
        cases hb : b s with
        | ok fl =>
          rw [hb] at h
          cases fl with
          | nx s' => exact whN_up h hm
          | ct s' => exact whN_up h hm
          | bk s' => exact h
          | rt d => exact h
        | er y => rw [hb] at h; exact h
        | no => rw [hb] at h; exact h
    | er y => rw [hc] at h; exact absurd h.symm hm
    | no => rw [hc] at h; exact absurd h.symm hm
omit [Tabs] in
theorem whN_le {σ : Type} {c : σ → R Bool} {b : σ → R (Fl σ ρ σ)} {n k : Nat} {s : σ} {m : R (Fl σ ρ l)} (h : whN c b n s = m) (hm : m ≠ .no) (hk : n ≤ k) : whN c b k s = m := by
  induction k with
  | zero => cases Nat.le_zero.mp hk; exact h
  | succ k ih =>
    rcases Nat.lt_or_ge n (k + 1) with z | z
    · exact whN_up (ih (Nat.le_of_lt_succ z)) hm
    · have : n = k + 1 := Nat.le_antisymm hk z
      rw [← this]; exact h
omit [Tabs] in
theorem whR_is {σ : Type} {c : σ → R Bool} {b : σ → R (Fl σ ρ σ)} {n : Nat} {s : σ} {m : R (Fl σ ρ l)} (h : whN c b n s = m) (hm : m ≠ .no) : whR c b s = m := by
  unfold whR
  have e : ∃ n, whN (l := l) c b n s ≠ .no := ⟨n, by rw [h]; exact hm⟩
  rw [dif_pos e]
  have h2 := Classical.choose_spec e
  rcases Nat.le_total n (Classical.choose e) with z | z
  · exact whN_le h hm z
  · exact (whN_le rfl h2 z).symm.trans h
omit [Tabs] in
theorem whR_run {σ : Type} {c : σ → R Bool} {b : σ → R (Fl σ ρ σ)} {s : σ} {m : R (Fl σ ρ l)} (h : whR c b s = m) (hm : m ≠ .no) : ∃ n, whN c b n s = m := by
  unfold whR at h
  split at h
  · exact ⟨_, h⟩
  · exact absurd h.symm hm
theorem st_while {σ : Type} {f : σ → R (Fl τ ρ l)} {cd : σ → R Bool} {bd : σ → R (Fl σ ρ σ)} {s0 : σ} (hp : PassesOwn (model X.prog X.w) X.A X.env X.xe) (Gl : σ → Gm) (hcd : ∀ s, EvT X B (Gl s) c (cd s)) (hb : ∀ s, StM X B (Gl s) body Gl Gl Ro (bd s)) (g0 : GmLe Γ (Gl s0)) (hr : ∀ s, StM X B (Gl s) ss G L Ro (f s))
    (hRo : ∀ d Γ', Ro d ≠ .nx Γ' := by exact fun _ _ z => nomatch z) (hRo2 : ∀ d I k P, P (Ro d) → whS I k P (Ro d) := by exact fun _ _ _ _ z => z) :
    StM X B Γ (.While c body [] pos :: ss) G L Ro (bindF (whR cd bd s0) f) := by
  refine st_le g0 (st_seq (G1 := Gl) (fun fl hf => ?_) (fun y hf ax P => ?_) hr hRo)
  · obtain ⟨n, hn⟩ := whR_run hf (fun z => nomatch z)
    refine xs_while hp (fun n Γ' => ∃ s, Γ' = Gl s ∧ whN cd bd n s = (.ok fl : R (Fl σ ρ l))) n ⟨s0, rfl, hn⟩ fun n Γ' hI => ?_
    obtain ⟨s, rfl, e⟩ := hI
    cases n with
    | zero => cases e
    | succ n =>
      unfold whN at e
      have h1 := hcd s
      have h2 := hb s
      cases hcs : cd s with
      | ok p =>
        rw [hcs] at e h1
        dsimp only [R.bnd] at e
        refine ⟨p, h1, fun hp => ?_, fun hp => ?_⟩
        · subst hp
          simp only [if_true] at e
          cases hbs : bd s with
          | ok fl2 =>
            rw [hbs] at e h2
            cases fl2 with
            | nx s' => exact xb_imp h2 fun o ho => by subst ho; exact ⟨n, Nat.lt_succ_self n, s', rfl, e⟩
            | ct s' => exact xb_imp h2 fun o ho => by subst ho; exact ⟨n, Nat.lt_succ_self n, s', rfl, e⟩
            | bk s' => cases e; exact xb_imp h2 fun o ho => by subst ho; exact rfl
            | rt d => cases e; exact xb_imp h2 fun o ho => by subst ho; exact hRo2 _ _ _ _ rfl
          | er y => rw [hbs] at e; cases e
          | no => rw [hbs] at e; cases e
        · subst hp
          simp only [Bool.false_eq_true, if_false] at e
          cases e
          rfl
      | er y => rw [hcs] at e; cases e
      | no => rw [hcs] at e; cases e
  · obtain ⟨n, hn⟩ := whR_run hf (fun z => nomatch z)
    refine xs_while hp (fun n Γ' => ∃ s, Γ' = Gl s ∧ whN cd bd n s = (.er y : R (Fl σ ρ l))) n ⟨s0, rfl, hn⟩ fun n Γ' hI => ?_
    obtain ⟨s, rfl, e⟩ := hI
    cases n with
    | zero => cases e
    | succ n =>
      unfold whN at e
      have h1 := hcd s
      have h2 := hb s
      cases hcs : cd s with
      | ok p =>
        rw [hcs] at e h1
        dsimp only [R.bnd] at e
        refine ⟨p, h1, fun hp => ?_, fun hp => ?_⟩
        · subst hp
          simp only [if_true] at e
          cases hbs : bd s with
          | ok fl2 =>
            rw [hbs] at e h2
            cases fl2 with
            | nx s' => exact xb_imp h2 fun o ho => by subst ho; exact ⟨n, Nat.lt_succ_self n, s', rfl, e⟩
            | ct s' => exact xb_imp h2 fun o ho => by subst ho; exact ⟨n, Nat.lt_succ_self n, s', rfl, e⟩
            | bk s' => cases e
            | rt d => cases e
          | er y2 => rw [hbs] at e h2; cases e; exact xb_imp (h2 ax) fun o ho => ho.elim
          | no => rw [hbs] at e; cases e
        · subst hp
          simp only [Bool.false_eq_true, if_false] at e
          cases e
      | er y2 => rw [hcs] at e; cases e
      | no => rw [hcs] at e; cases e
end
/-! ### a def by its body -/
section
variable {P : Program} {w : World} {K : PySem.W.Frag} {mg : Str → Option Value} {base : Heap}
theorem pass_e {N : List Str} {qual : Str} {st : Stmt} {f : Addr} {cdv : Value} {A : Around} {outer : List Env} {s : Shared} {H : Hp} {E : XK} : PassesOwn (model P w) (Xe P w K mg base N qual st f cdv A outer s H E).A (Xe P w K mg base N qual st f cdv A outer s H E).env (Xe P w K mg base N qual st f cdv A outer s H E).xe := passes_of (X := Xe P w K mg base N qual st f cdv A outer s H E) rfl
theorem body_run {X : Cx} {B : Bs} {Γ : Gm} {ss : List Stmt} {G : Unit → Gm} {L : Empty → Gm} {m : R (Fl Unit PyData Empty)} (h : StM X B Γ ss G L Out.rt m) :
    match fin m with
    | .ok d => Xb X B Γ ss (RetP d)
    | .er x => AEs X B x → Xb X B Γ ss fun _ => False
    | .no => True := by
  cases m with
  | ok fl =>
    cases fl with
    | nx t => exact xb_imp h fun o ho => by subst ho; exact .inr ⟨rfl, _, rfl⟩
    | rt d => exact xb_imp h fun o ho => by subst ho; exact .inl rfl
    | bk t => exact t.elim
    | ct t => exact t.elim
  | er y => exact h
  | no => trivial
theorem spF_len {F : List PyData → R PyData} {vs : List V} {H : Hp} {Q : VK} {E : XK} {n : Nat} (h : spF K mg F vs H Q E) (len : ∀ ds, F ds ≠ .no → ds.length = n) : vs.length = n := by
  obtain ⟨ds, Hs, _, _, a, hq⟩ := h
  rw [a.length]
  refine len ds fun e => ?_
  rw [e] at hq
  exact hq
theorem fn_fin {N : List Str} {qual : Str} {st : Stmt} {f : Addr} {cdv : Value} {A : Around} {outer : List Env} {s : Shared} {H : Hp} {E : XK} {vs : List V} {Q : VK} {F : List PyData → R PyData} (h : spF K mg F vs H Q E)
    (body : ∀ (B : Bs) (ds : List PyData), F ds ≠ .no → match F ds with
    | .ok d => Xb (Xe P w K mg base N qual st f cdv A outer s H E) B (startG N ds) (defBody st) (RetP d)
    | .er x => AEs (Xe P w K mg base N qual st f cdv A outer s H E) B x → Xb (Xe P w K mg base N qual st f cdv A outer s H E) B (startG N ds) (defBody st) fun _ => False
    | .no => True) :
    uB (Xe P w K mg base N qual st f cdv A outer s H E) (defBody st) { nx := fun _ H' => Q .non H', rt := Q } (L2.start N vs) H := by
  obtain ⟨ds, Hs, hsub, htb, a, hq⟩ := h
  have b := body ⟨H, Hs, Hs⟩ ds (fun e => by rw [e] at hq; exact hq)
  cases hF : F ds with
  | ok d =>
    rw [hF] at hq b
    refine b _ H Hs (L2.start N vs) (en_start hsub htb a) fun o ho => ?_
    rcases ho with rfl | ⟨rfl, Γ, rfl⟩
    · exact fun v H' Hs' g p => hq v H' Hs' g p
    · exact fun H' Hs' σ' E' => hq .non H' Hs' E'.gr .non
  | er x =>
    rw [hF] at hq b
    obtain ⟨D, hD, hE⟩ := hq
    refine b (fun Γ B' e1 e2 => ⟨_, D, hD, takes_of rfl rfl rfl rfl, fun σ' H' Hs' od E' xd => hE H' Hs' od ?_ xd⟩) _ H Hs (L2.start N vs) (en_start hsub htb a) fun o ho => ho.elim
    have g := E'.gr
    rw [e1, e2] at g
    exact g
  | no => rw [hF] at hq; exact hq.elim
theorem fn_okF {x qual : Str} {st : Stmt} {f : Addr} {fd : FuncData} {N ps : List Str} {k : Nat} {F : List PyData → R PyData} (Fu : Fun K x qual st f fd) (S : FnScope N ps (defScope st)) (len : ∀ ds, F ds ≠ .no → ds.length = ps.length)
    (body : ∀ (cdv : Value) (A : Around) (outer : List Env) (s : Shared) (H : Hp) (E : XK) (B : Bs) (ds : List PyData), Room k (Xc P w K mg base N qual st f cdv A outer s H E).A → F ds ≠ .no → match F ds with
    | .ok d => Xb (Xe P w K mg base N qual st f cdv A outer s H E) B (startG N ds) (defBody st) (RetP d)
    | .er x => AEs (Xe P w K mg base N qual st f cdv A outer s H E) B x → Xb (Xe P w K mg base N qual st f cdv A outer s H E) B (startG N ds) (defBody st) fun _ => False
    | .no => True) : FnOk P w K mg base (L2.CX P w) (k + 1) f fd ps (spF K mg F) :=
  Fu.okX S (fun vs H Q E h => spF_len h len) fun cdv A outer s H vs Q E hr h => ⟨_, pb_u, fn_fin h fun B ds hn => body cdv A outer s H E B ds hr hn⟩
theorem fn_okGF {x qual : Str} {st : Stmt} {f : Addr} {fd : FuncData} {cdv : Value} {N ps : List Str} {k : Nat} {F : List PyData → R PyData} (Fu : FunC K x qual st f fd cdv) (S : FnScope N ps (defScope st)) (len : ∀ ds, F ds ≠ .no → ds.length = ps.length)
    (body : ∀ (A : Around) (outer : List Env) (s : Shared) (H : Hp) (E : XK) (B : Bs) (ds : List PyData), Room k (Xc P w K mg base N qual st f cdv A outer s H E).A → F ds ≠ .no → match F ds with
    | .ok d => Xb (Xe P w K mg base N qual st f cdv A outer s H E) B (startG N ds) (defBody st) (RetP d)
    | .er x => AEs (Xe P w K mg base N qual st f cdv A outer s H E) B x → Xb (Xe P w K mg base N qual st f cdv A outer s H E) B (startG N ds) (defBody st) fun _ => False
    | .no => True) : FnOk P w K mg base (L2.CX P w) (k + 1) f fd ps (spF K mg F) := by
  obtain ⟨oc, od, kV, doc, pm, an, ct, osl, rfl, l, c⟩ := Fu.ex
  exact fn_of l c S (fun vs H Q E h => spF_len h len) fun A outer s H vs Q E hr h => ⟨_, pb_u (X := Xe P w K mg base N qual st f cdv A outer s H E), fn_fin h fun B ds hn => body A outer s H E B ds hr hn⟩
theorem ce_ofF {N : List Str} {st : Stmt} {qual : Str} {f : Addr} {cdv : Value} {A : Around} {outer : List Env} {s : Shared} {H : Hp} {E : XK} {x : Str} {F : List PyData → R PyData} {k j : Nat} (D : DnF P w K mg base k x F) (hr : Room j (Xc P w K mg base N qual st f cdv A outer s H E).A) (hk : k ≤ j) (hd : (x == ("__debug__" : Str)) = false) :
    CeF (Xc P w K mg base N qual st f cdv A outer s H E) x F := by
  obtain ⟨g, fd, ps, h1, h2, h3, h4⟩ := D.ex
  exact ⟨⟨k, g, fd, ps, h1, h2, h3, h4, hr.mono hk⟩, hd⟩
theorem dn_ofF {x qual : Str} {st : Stmt} {f : Addr} {fd : FuncData} {ps : List Str} {k : Nat} {F : List PyData → R PyData} (Fu : Fun K x qual st f fd) (hm : mg x = some (.ref f)) (hb : Binds K fd ps []) (h : FnOk P w K mg base (L2.CX P w) k f fd ps (spF K mg F)) : DnF P w K mg base k x F := ⟨f, fd, ps, hm, h, Fu.kp, hb⟩
/-- the law's own run -/
theorem law_run {x qual : Str} {st : Stmt} {f : Addr} {fd : FuncData} {N ps : List Str} {k : Nat} {R0 : List PyData → PyData → Prop} (F : Fun K x qual st f fd) (S : FnScope N ps (defScope st)) (hrC : Room (k + 1) callerA) (len : ∀ ds d, R0 ds d → ds.length = ps.length)
    (body : ∀ (cdv : Value) (s : Shared) (H : Hp) (E : XK) (B : Bs) (ds : List PyData) (d : PyData), Room k (Xc P w K mg base N qual st f cdv callerA [] s H E).A → Gd (Xc P w K mg base N qual st f cdv callerA [] s H E) → R0 ds d →
      ∃ m : R (Fl Unit PyData Empty), fin m = .ok d ∧ ∃ G L, StM (Xc P w K mg base N qual st f cdv callerA [] s H E) B (startG N ds) (defBody st) G L Out.rt m) :
    RunAt P w K mg base CX0 callerA f fd ps (spR K R0) :=
  fn_okL F S hrC len fun cdv s H E B ds d hr gd hR => by
    obtain ⟨m, hm, G, L, h⟩ := body cdv s H E B ds d hr gd hR
    have b := body_run h
    rw [hm] at b
    exact b
end
end Dl
set_option Elab.async false
set_option linter.all false
set_option maxRecDepth 100000
set_option maxHeartbeats 2000000
/-! Effects: expressions that change own lists; defs that change a list handed in. -/
namespace Dl
open PySem L2 PyProof.Rows
variable [Tabs]
/-! ### own lists, at a known place or not -/
def ownAt (Γ : Gm) (i : Nat) : Option (List PyData) := match Γ[i]? with
  | some (.ow ds) => some ds
  | some (.ol _ ds) => some ds
  | _ => none
def putOwn (Γ : Gm) (i : Nat) (es : List PyData) : Gm := match Γ[i]? with
  | some (.ol l _) => Γ.set i (.ol l es)
  | _ => Γ.set i (.ow es)
theorem own_cases {Γ : Gm} {i : Nat} {ds : List PyData} (h : ownAt Γ i = some ds) : (Γ[i]? = some (.ow ds) ∧ ∀ es, putOwn Γ i es = Γ.set i (.ow es)) ∨ ∃ l, Γ[i]? = some (.ol l ds) ∧ ∀ es, putOwn Γ i es = Γ.set i (.ol l es) := by
  unfold ownAt at h
  cases hs : Γ[i]? with
  | none => rw [hs] at h; cases h
  | some s =>
    rw [hs] at h
    cases s with
    | ow d => cases h; exact .inl ⟨rfl, fun es => by unfold putOwn; rw [hs]⟩
    | ol l d => cases h; exact .inr ⟨l, rfl, fun es => by unfold putOwn; rw [hs]⟩
    | _ => cases h
section
variable {K : PySem.W.Frag} {H0 Hs0 H Hs H' Hs' : Hp} {pn : Hp} {σ : L2.St} {Γ : Gm} {i : Nat} {ds es : List PyData} {l : Addr}
theorem En.ownL (E : En K H0 Hs0 pn H Hs σ Γ) (h : ownAt Γ i = some ds) : ∃ l xs, σ[i]? = some (some (.ref l)) ∧ H l = some (.lst xs) ∧ DqAll K Hs xs ds ∧ Hs l = none ∧ H0 l = none := by
  rcases own_cases h with ⟨h1, _⟩ | ⟨l, h1, _⟩
  · exact E.ow h1
  · obtain ⟨xs, e⟩ := E.ol h1
    exact ⟨l, xs, e⟩
theorem own_slot (h : ownAt Γ i = some ds) : ∃ s, Γ[i]? = some s ∧ s.isOwn = true := by
  rcases own_cases h with ⟨h1, _⟩ | ⟨l, h1, _⟩
  · exact ⟨_, h1, rfl⟩
  · exact ⟨_, h1, rfl⟩
theorem En.mutOwnL (E : En K H0 Hs0 pn H Hs σ Γ) (h : ownAt Γ i = some ds) (hl : σ[i]? = some (some (.ref l))) {xs : List V} (hd : DqAll K Hs xs es) : En K H0 Hs0 pn (upd H l (.lst xs)) Hs σ (putOwn Γ i es) := by
  rcases own_cases h with ⟨h1, e1⟩ | ⟨l', h1, e1⟩
  · rw [e1]
    exact E.mut h1 hl hd
  · rw [e1]
    obtain ⟨xs', e, _⟩ := E.ol h1
    rw [hl] at e
    cases e
    exact E.mutL h1 hd
theorem Fw.mutOwnL (h : ownAt Γ i = some ds) (hl : σ[i]? = some (some (.ref l))) {xs : List V} : Fw Γ (putOwn Γ i es) σ H Hs (upd H l (.lst xs)) Hs := by
  rcases own_cases h with ⟨h1, e1⟩ | ⟨l', h1, e1⟩
  · rw [e1]
    exact Fw.mut h1 rfl hl
  · rw [e1]
    exact Fw.mut h1 rfl hl
theorem own_ol (E : En K H0 Hs0 pn H Hs σ Γ) (h : ownAt Γ i = some ds) (hl : σ[i]? = some (some (.ref l))) : En K H0 Hs0 pn H Hs σ (Γ.set i (.ol l ds)) := by
  obtain ⟨s, h1, w⟩ := own_slot h
  obtain ⟨l', xs, e, a1, a2, a3, a4⟩ := E.ownL h
  rw [hl] at e
  cases e
  have := E.mutOwn (s' := .ol l ds) (o := .lst xs) h1 w hl ⟨xs, rfl, upd_same, a2, a3, a4⟩
  have eu : upd H l (.lst xs) = H := by
    funext a
    by_cases ea : a = l
    · subst ea; rw [upd_same, a1]
    · rw [upd_ne ea]
  rw [eu] at this
  exact this
theorem En.callL (E : En K H0 Hs0 pn H Hs σ Γ) (h : ownAt Γ i = some ds) (hl : σ[i]? = some (some (.ref l))) {ys : List V} (g : Gr (del H l) Hs H' Hs') (h1 : H' l = some (.lst ys)) (hn : Hs' l = none) (hd : DqAll K Hs' ys es) : En K H0 Hs0 pn H' Hs' σ (putOwn Γ i es) := by
  have hi : i < Γ.length := by
    obtain ⟨s, z, _⟩ := own_slot h
    exact (List.getElem?_eq_some_iff.mp z).1
  have E1 := (own_ol E h hl).call (i := i) (l := l) (ds := ds) (es := es) (by rw [List.getElem?_set_self hi]) g h1 hn hd
  rw [List.set_set] at E1
  rcases own_cases h with ⟨h2, e1⟩ | ⟨l', h2, e1⟩
  · rw [e1]
    -- what stands at a known place stands at a place
    refine ⟨E1.gr, E1.pin, by rw [List.length_set]; exact E1.len.trans (by rw [List.length_set]), fun j t q k1 k2 => ?_, fun j k t t' m k1 k2 w1 w2 k3 k4 => ?_, E1.tab⟩
    · by_cases hj : i = j
      · subst hj
        cases set_self k1
        have := E1.at_ i (.ol l es) q (by rw [List.getElem?_set_self hi]) k2
        obtain ⟨xs, r⟩ := this
        exact ⟨l, xs, r⟩
      · rw [List.getElem?_set_ne hj] at k1
        exact E1.at_ j t q (by rw [List.getElem?_set_ne hj]; exact k1) k2
    · have fix : ∀ {m : Nat} {t : Sl}, (Γ.set i (.ow es))[m]? = some t → t.isOwn = true → ∃ t', (Γ.set i (.ol l es))[m]? = some t' ∧ t'.isOwn = true := fun {m t} e wt => by
        by_cases hm : i = m
        · subst hm
          exact ⟨_, List.getElem?_set_self hi, rfl⟩
        · rw [List.getElem?_set_ne hm] at e ⊢
          exact ⟨t, e, wt⟩
      obtain ⟨_, q1, z1⟩ := fix k1 w1
      obtain ⟨_, q2, z2⟩ := fix k2 w2
      exact E1.sep j k _ _ _ q1 q2 z1 z2 k3 k4
  · rw [e1]
    obtain ⟨xs', e, _⟩ := E.ol h2
    rw [hl] at e
    cases e
    exact E1
theorem Fw.callL (h : ownAt Γ i = some ds) (hl : σ[i]? = some (some (.ref l))) (g : Gr (del H l) Hs H' Hs') : Fw Γ (putOwn Γ i es) σ H Hs H' Hs' := by
  obtain ⟨s, hs, w⟩ := own_slot h
  refine ⟨g.exs, fun j s' h' w' => ?_, fun a o h' hs' nt f => ?_⟩
  · by_cases e : i = j
    · subst e
      exact ⟨_, hs, w⟩
    · have : (putOwn Γ i es)[j]? = Γ[j]? := by
        rcases own_cases h with ⟨_, e1⟩ | ⟨l', _, e1⟩
        · rw [e1, List.getElem?_set_ne e]
        · rw [e1, List.getElem?_set_ne e]
      rw [this] at h'
      exact ⟨s', h', w'⟩
  · have ne : a ≠ l := fun z => by
      subst z
      exact f i _ hs w hl
    refine ⟨ext_own g.ext (by rw [del_ne ne]; exact h') nt, ?_⟩
    cases q : Hs' a with
    | none => rfl
    | some u =>
      rcases g.new a (by rw [q]; simp) with z | z
      · exact absurd hs' z
      · rw [del_ne ne, h'] at z; cases z
end
/-! ### the judgements -/
abbrev SR (σ : Type) := σ → R (σ × PyData)
section
variable {X X' X0 : Cx} {B : Bs} {Γ Γ1 Γ2 : Gm} {e a b c o : Expr} {es : List Expr} {d d1 d2 d3 : PyData} {ds : List PyData} {pos p' ap : Pos} {x : Str} {i j k : Nat} {p q r : Bool} {y z : Str} {ma mb mc : R PyData} {ms : R (List PyData)} {mt mu : R Bool} {scope sc2 : Scope} {σ : Type} {G : σ → Gm}
def EvS (X : Cx) (B : Bs) (G : σ → Gm) (e : Expr) (m : SR σ) : Prop := ∀ s s' d, m s = .ok (s', d) → Xm X B (G s) e d (G s')
def EvST (X : Cx) (B : Bs) (G : σ → Gm) (e : Expr) (m : σ → R (σ × Bool)) : Prop := ∀ s s' p, m s = .ok (s', p) → Xmt X B (G s) e p (G s')
def EvSI (X : Cx) (B : Bs) (G : σ → Gm) (tg e : Expr) (m : σ → R (σ × List PyData)) : Prop := ∀ s s' ds, m s = .ok (s', ds) → Xmi X B (G s) tg e ds (G s')
/-- arguments: all but the own list at slot i are data; n of them stand ahead of it -/
def EvSA (X : Cx) (B : Bs) (G : σ → Gm) (es : List Expr) (m : σ → R (σ × List PyData)) : Prop := ∀ s s' ds, m s = .ok (s', ds) → Xma X B (G s) es (ds.map .d) (G s') ∧ ds.length = es.length
theorem bnd_ok {α β : Type} {m : R α} {f : α → R β} {v : β} (h : m.bnd f = .ok v) : ∃ a, m = .ok a ∧ f a = .ok v := by
  cases m with
  | ok a => exact ⟨a, rfl, h⟩
  | er y => cases h
  | no => cases h
theorem ofO_inv {α : Type} {m : Option α} {v : α} (h : R.ofO m = .ok v) : m = some v := ofO_ok h
/-- no effect -/
def pS (m : σ → R PyData) : SR σ := fun s => (m s).bnd fun d => .ok (s, d)
theorem es_pure {m : σ → R PyData} (h : ∀ s, EvP X B (G s) e (m s)) : EvS X B G e (pS m) := fun s s' d hd => by
  obtain ⟨d', h1, h2⟩ := bnd_ok hd
  cases h2
  have := h s
  rw [h1] at this
  exact xm_pure this
def o2S (f : PyData → PyData → Option PyData) (a b : SR σ) : SR σ := fun s => (a s).bnd fun p => (b p.1).bnd fun q => (R.ofO (f p.2 q.2)).bnd fun z => .ok (q.1, z)
theorem o2S_inv {f : PyData → PyData → Option PyData} {ma mb : SR σ} {s s' : σ} {d : PyData} (h : o2S f ma mb s = .ok (s', d)) : ∃ s1 x y, ma s = .ok (s1, x) ∧ mb s1 = .ok (s', y) ∧ f x y = some d := by
  obtain ⟨⟨s1, x⟩, h1, h2⟩ := bnd_ok h
  obtain ⟨⟨s2, y⟩, h3, h4⟩ := bnd_ok h2
  obtain ⟨z, h5, h6⟩ := bnd_ok h4
  cases h6
  exact ⟨s1, x, y, h1, h3, ofO_ok h5⟩
/-- an operator's rule by values -/
def BinOk (X : Cx) (op : Operator) (f : PyData → PyData → Option PyData) : Prop := ∀ d1 d2 d, f d1 d2 = some d → ∃ rr, OpR X (binaryOp op) rr ∧ OpD X.K rr d1 d2 d
theorem bk_sub : BinOk X .Sub vSub := fun d1 d2 d h => by
  unfold vSub at h
  split at h <;> cases h
  exact ⟨_, op_sub, opd_I0 fun _ => .int _⟩
theorem bk_mul : BinOk X .Mult vMul := fun d1 d2 d h => by
  unfold vMul at h
  split at h
  · split at h <;> cases h
    rename_i q
    exact ⟨_, op_mulW, opd_I q fun _ => .int _⟩
  · cases h
theorem bk_mod : BinOk X .Mod vMod := fun d1 d2 d h => by
  unfold vMod at h
  split at h
  · split at h <;> cases h
    rename_i q
    exact ⟨_, op_mod, opd_I q fun _ => .int _⟩
  · cases h
theorem bk_fdiv : BinOk X .FloorDiv vFdiv := fun d1 d2 d h => by
  unfold vFdiv at h
  split at h
  · split at h
    · cases h; rename_i q; exact ⟨_, op_fdiv, opd_I q fun _ => .int _⟩
    · split at h <;> cases h
      rename_i q
      exact ⟨_, op_fdivG, opd_I q fun _ => .int _⟩
  · cases h
theorem bk_add : BinOk X .Add vAdd := fun d1 d2 d h => by
  unfold vAdd at h
  split at h
  · cases h; exact ⟨_, op_add, opd_I0 fun _ => .int _⟩
  · split at h <;> cases h
    rename_i y z q
    exact ⟨_, op_add_str, fun H Hs u v s hx hy Q w => by
      cases hx; cases hy
      exact ⟨y, z, rfl, rfl, side_size q, w _ H Hs (Gr.refl s) (.str _)⟩⟩
  · split at h <;> cases h
    rename_i q
    exact ⟨_, op_catG, fun H Hs u v s hx hy Q w => by
      cases hx with
      | lst h1 a1 =>
        cases hy with
        | lst h2 a2 => exact ⟨_, _, _, _, rfl, rfl, sub_l s h1, sub_l s h2, by rw [a1.length, a2.length]; exact side_size q, fun p n => w _ _ _ ((Gr.refl s).share n) (.lst (SqL.of upd_same) ((a1.app a2).mono (Ext.new ((Gr.refl s).hsn n))))⟩⟩
  · split at h <;> cases h
    rename_i q
    exact ⟨_, op_catA, fun H Hs u v s hx hy Q w => by
      cases hx with
      | @tup a1 xs _ h1 a1' =>
        cases hy with
        | @tup a2 ys _ h2 a2' =>
          refine ⟨_, _, _, _, rfl, rfl, sub_t s h1, sub_t s h2, by rw [a1'.length, a2'.length]; exact side_size q, fun e1 => ?_, fun e1 e2 => ?_, fun e1 e2 p n => ?_⟩
          · subst e1
            cases a1'
            exact w _ H Hs (Gr.refl s) (.tup h2 a2')
          · subst e2
            cases a2'
            rw [List.append_nil] at w
            exact w _ H Hs (Gr.refl s) (.tup h1 a1')
          · exact w _ _ _ ((Gr.refl s).share n) (.tup (SqT.of upd_same) ((a1'.app a2').mono (Ext.new ((Gr.refl s).hsn n))))⟩
  · cases h
theorem es_bin {op : Operator} {f : PyData → PyData → Option PyData} {ma mb : SR σ} (k : BinOk X op f) (ha : EvS X B G a ma) (hb : EvS X B G b mb) : EvS X B G (.BinOp a op b pos) (o2S f ma mb) := fun s s' d h => by
  obtain ⟨s1, x, y, h1, h2, h3⟩ := o2S_inv h
  obtain ⟨rr, ho, hr⟩ := k _ _ _ h3
  exact xm_bin ho hr (ha _ _ _ h1) (hb _ _ _ h2)
def k2S (f : PyData → PyData → Option Bool) (a b : SR σ) : σ → R (σ × Bool) := fun s => (a s).bnd fun p => (b p.1).bnd fun q => (R.ofO (f p.2 q.2)).bnd fun z => .ok (q.1, z)
theorem es_cmpT {op : CmpOp} {f : PyData → PyData → Option Bool} {ma mb : SR σ} (k : CkOk X op f) (ha : EvS X B G a ma) (hb : EvS X B G b mb) (hm : Tt (behindInMarks op b = false) := by exact ⟨rfl⟩) : EvST X B G (.Compare a [op] [b] pos) (k2S f ma mb) := fun s s' d h => by
  obtain ⟨⟨s1, x⟩, h1, h2⟩ := bnd_ok h
  obtain ⟨⟨s2, y⟩, h3, h4⟩ := bnd_ok h2
  obtain ⟨z, h5, h6⟩ := bnd_ok h4
  cases h6
  exact xmt_cmp hm (ha _ _ _ h1) (hb _ _ _ h3) (k _ _ _ (ofO_ok h5))
/-- x[j] with an effect -/
theorem es_ix {ma mb : SR σ} (ha : EvS X B G a ma) (hb : EvS X B G b mb) (hs : Tt (PlainIx b) := by exact ⟨fun _ _ => rfl⟩) : EvS X B G (.Subscript a b pos) (o2S vIx ma mb) := fun s s' d h => by
  obtain ⟨s1, x, y, h1, h2, h3⟩ := o2S_inv h
  unfold vIx at h3
  split at h3
  · exact xm_of' (pe_ix ix_list pe_u pe_u hs.h) (dm_op (ha _ _ _ h1) (hb _ _ _ h2) (opd_ixL h3))
  · exact xm_of' (pe_ix ix_tup pe_u pe_u hs.h) (dm_op (ha _ _ _ h1) (hb _ _ _ h2) (opd_ixT h3))
  · split at h3
    · rename_i y n q
      cases hk : atI y.cps.toList n with
      | none => rw [hk] at h3; cases h3
      | some k =>
        rw [hk] at h3
        cases h3
        exact xm_of' (pe_ix ix_str pe_u pe_u hs.h) (dm_op (ha _ _ _ h1) (hb _ _ _ h2) fun H Hs u v s hx hy Q w => by
          cases hx; cases hy
          exact ⟨y, n, k, rfl, rfl, side_size q, hk, w _ H Hs (Gr.refl s) (.str _)⟩)
    · cases h3
  · cases h3
/-! arguments -/
def nS : σ → R (σ × List PyData) := fun s => .ok (s, [])
def cS (a : SR σ) (m : σ → R (σ × List PyData)) : σ → R (σ × List PyData) := fun s => (a s).bnd fun p => (m p.1).bnd fun q => .ok (q.1, p.2 :: q.2)
theorem ea_nilS : EvSA X B G [] nS := fun s s' ds h => by
  cases h
  exact ⟨xma_nil, rfl⟩
theorem ea_consS {m1 : SR σ} {m2 : σ → R (σ × List PyData)} (h : EvS X B G e m1) (hr : EvSA X B G es m2) (hs : Tt (St1 X e es) := by exact ⟨rfl⟩) : EvSA X B G (e :: es) (cS m1 m2) := fun s s' ds hd => by
  obtain ⟨⟨s1, x⟩, h1, h2⟩ := bnd_ok hd
  obtain ⟨⟨s2, xs⟩, h3, h4⟩ := bnd_ok h2
  cases h4
  obtain ⟨a1, a2⟩ := hr _ _ _ h3
  exact ⟨xma_cons hs (h _ _ _ h1) a1, by rw [List.length_cons, List.length_cons, a2]⟩
/-- a call of a plain def -/
def fS (F : List PyData → R PyData) (m : σ → R (σ × List PyData)) : SR σ := fun s => (m s).bnd fun p => (F p.2).bnd fun d => .ok (p.1, d)
theorem es_call {F : List PyData → R PyData} {m : σ → R (σ × List PyData)} (cf : CeF X x F) (hg : Gl X x) (ha : EvSA X B G (e :: es) m) (he : Tt (St1 X e es) := by exact ⟨rfl⟩) (hp : Tt (Pl1 X pos es) := by exact ⟨rfl⟩) : EvS X B G (.Call (.Name x p') (e :: es) [] pos) (fS F m) := fun s s' d h => by
  obtain ⟨⟨s1, ds⟩, h1, h2⟩ := bnd_ok h
  obtain ⟨v, h3, h4⟩ := bnd_ok h2
  cases h4
  obtain ⟨k, f, fd, ps, hm, Fn, kp, bi, hr'⟩ := cf.ex
  refine xm_of' (pe_callS Fn hr' hg hm kp bi (passAt takes0) pa_u cf.db he.h hp.h) fun H Hs σ E Q q => (ha _ _ _ h1).1 H Hs σ E _ fun vs H1 Hs1 E1 x1 p1 =>
    ⟨ds, Hs1, E1.sub, E1.tab, p1.data, by rw [h3]; exact fun v H2 Hs2 g2 p2 => q v H2 Hs2 (E1.grow g2) (x1.trans (Fw.gr g2)) p2⟩
def tS (m : σ → R (σ × List PyData)) : SR σ := fun s => (m s).bnd fun p => .ok (p.1, .tuple p.2)
theorem es_tup {m : σ → R (σ × List PyData)} {x1} (h : EvSA X B G es m) (hl : Tt (decide (es.length ≤ 16777216) = true) := by exact ⟨rfl⟩) : EvS X B G (.Tuple es x1 pos) (tS m) := fun s s' d hd => by
  obtain ⟨⟨s1, ds⟩, h1, h2⟩ := bnd_ok hd
  cases h2
  obtain ⟨a1, a2⟩ := h _ _ _ h1
  exact xm_tup a1 ⟨rfl⟩ (by rw [a2]; exact hl)
def iS (c : σ → R Bool) (a b : SR σ) : SR σ := fun s => (c s).bnd fun p => if p then a s else b s
theorem es_if {mc : σ → R Bool} {m1 m2 : SR σ} (hc : ∀ s, EvT X B (G s) c (mc s)) (ha : EvS X B G a m1) (hb : EvS X B G b m2) : EvS X B G (.IfExp c a b pos) (iS mc m1 m2) := fun s s' d h => by
  obtain ⟨p, h1, h2⟩ := bnd_ok h
  have h3 := hc s
  rw [h1] at h3
  cases p with
  | true => exact xm_if (xmt_pure h3) (fun _ => ha _ _ _ h2) fun z => nomatch z
  | false => exact xm_if (xmt_pure h3) (fun z => nomatch z) fun _ => hb _ _ _ h2
/-! ### defs that change a list handed in -/
/-- F: the other arguments, the list -> the list behind, the answer; j others stand ahead of the list -/
def rM (j : Nat) (F : List PyData → List PyData → R (List PyData × PyData)) : Addr → List Ag → List PyData → List PyData → PyData → Prop := fun l gs ds es d => ∃ as bs, gs = as.map .d ++ .p l :: bs.map .d ∧ as.length = j ∧ F (as ++ bs) ds = .ok (es, d)
abbrev DnG (P : Program) (w : World) (K : PySem.W.Frag) (mg : Str → Option Value) (base : Heap) (k : Nat) (x : Str) (j : Nat) (F : List PyData → List PyData → R (List PyData × PyData)) : Prop := DnM P w K mg base k x (rM j F)
abbrev CeG (X : Cx) (x : Str) (j : Nat) (F : List PyData → List PyData → R (List PyData × PyData)) : Prop := CeM X x (rM j F)
theorem Like.ceG {n : Nat} {F : List PyData → List PyData → R (List PyData × PyData)} (h : Like X X') (k : CeG X x n F) : CeG X' x n F := ⟨by rw [h.mg, h.prog, h.w, h.K, h.base, h.A]; exact k.ex, k.db⟩
theorem Bk.ceG {n : Nat} {F : List PyData → List PyData → R (List PyData × PyData)} (b : Bk X scope j X') (D : DnG X.prog X.w X.K X.mg X.base k x n F) (hk : k ≤ j) (db : (x == ("__debug__" : Str)) = false) : CeG X' x n F := by
  obtain ⟨f, fd, ps, h1, h2, h3, h4⟩ := D.ex
  exact ⟨⟨k, f, fd, ps, by rw [b.mg]; exact h1, by rw [b.prog, b.w, b.K, b.mg, b.base]; exact h2, by rw [b.K]; exact h3, by rw [b.K]; exact h4, b.room.mono hk⟩, db⟩
/-- the arguments of such a call: those ahead of the list, the list, those behind -/
def EvSP (X : Cx) (B : Bs) (G : σ → Gm) (i n : Nat) (es : List Expr) (m : σ → R (σ × List PyData)) : Prop := ∀ s s' ds, m s = .ok (s', ds) → n ≤ ds.length ∧ ∀ l st, st[i]? = some (some (V.ref l)) → ∀ H Hs, Enb X.K B H Hs st (G s) → ∀ Q : List V → Hp → Prop, (∀ vs H' Hs', Enb X.K B H' Hs' st (G s') → Fw (G s) (G s') st H Hs H' Hs' → AgAll X.K Hs' vs ((ds.take n).map .d ++ .p l :: (ds.drop n).map .d) → Q vs H') → uA X es st H Q
theorem ep_here {m : σ → R (σ × List PyData)} {p2 : Pos} (k : Rk X i x) (hr : EvSA X B G es m) (hs : Tt (St1 X (.Name x p2) es) := by exact ⟨rfl⟩) : EvSP X B G i 0 (.Name x p2 :: es) m := fun s s' ds h => by
  refine ⟨Nat.zero_le _, fun l st hl H Hs E Q q => ?_⟩
  exact ⟨_, pa_cons (pe_var k.ix k.vis k.d1 k.d2) pa_u hs.h, .ref l, hl, (hr _ _ _ h).1 H Hs st E _ fun vs H2 Hs2 E2 x2 p2 => q (.ref l :: vs) H2 Hs2 E2 x2 (.cons rfl p2)⟩
theorem ep_cons {n : Nat} {m1 : SR σ} {m2 : σ → R (σ × List PyData)} (h : EvS X B G e m1) (hr : EvSP X B G i n es m2) (hs : Tt (St1 X e es) := by exact ⟨rfl⟩) : EvSP X B G i (n + 1) (e :: es) (cS m1 m2) := fun s s' ds hd => by
  obtain ⟨⟨s1, x⟩, h1, h2⟩ := bnd_ok hd
  obtain ⟨⟨s2, xs⟩, h3, h4⟩ := bnd_ok h2
  cases h4
  obtain ⟨a1, a2⟩ := hr _ _ _ h3
  refine ⟨Nat.succ_le_succ a1, fun l st hl H Hs E Q q => ?_⟩
  exact ⟨_, pa_cons pe_u pa_u hs.h, h _ _ _ h1 H Hs st E _ fun v H1 Hs1 E1 x1 p1 => a2 l st hl H1 Hs1 E1 _ fun vs H2 Hs2 E2 x2 p2 => q (v :: vs) H2 Hs2 E2 (x1.trans x2) (.cons (p1.mono x2.ext) p2)⟩
/-- the call: the list's part of the state is told by pr, put by up -/
def gS (F : List PyData → List PyData → R (List PyData × PyData)) (pr : σ → List PyData) (up : σ → List PyData → σ) (m : σ → R (σ × List PyData)) : SR σ := fun s => (m s).bnd fun p => (F p.2 (pr p.1)).bnd fun q => .ok (up p.1 q.1, q.2)
theorem es_callG {n : Nat} {F : List PyData → List PyData → R (List PyData × PyData)} {pr : σ → List PyData} {up : σ → List PyData → σ} {m : σ → R (σ × List PyData)} (cf : CeG X x n F) (hg : Gl X x) (ha : EvSP X B G i n (e :: es) m)
    (hpr : ∀ s, ownAt (G s) i = some (pr s) := by exact fun _ => rfl) (hup : ∀ s ds, putOwn (G s) i ds = G (up s ds) := by exact fun _ _ => rfl) (he : Tt (St1 X e es) := by exact ⟨rfl⟩) (hp : Tt (Pl1 X pos es) := by exact ⟨rfl⟩) : EvS X B G (.Call (.Name x p') (e :: es) [] pos) (gS F pr up m) := fun s s' d h => by
  obtain ⟨⟨s1, ds⟩, h1, h2⟩ := bnd_ok h
  obtain ⟨⟨es', v⟩, h3, h4⟩ := bnd_ok h2
  cases h4
  obtain ⟨k, f, fd, ps, hm, Fn, kp, bi, hr'⟩ := cf.ex
  obtain ⟨a1, a2⟩ := ha _ _ _ h1
  refine xm_of' (pe_call Fn hr' hg hm kp bi .nil (E := E0) pass0 pa_u cf.db he.h hp.h) fun H Hs st E Q q => ?_
  obtain ⟨l, xs, hl, _⟩ := E.ownL (hpr s)
  refine a2 l st hl H Hs E _ fun vs H1 Hs1 E1 x1 p1 => ?_
  obtain ⟨l', xs', hl', k1, k2, k3, k4⟩ := E1.ownL (hpr s1)
  rw [hl] at hl'
  cases hl'
  refine ⟨_, l, xs', pr s1, es', v, Hs1, agAll_append_nil p1, k1, k3, E1.sub, E1.tab, k2, ⟨ds.take n, ds.drop n, rfl, by rw [List.length_take, Nat.min_eq_left a1], by rw [List.take_append_drop]; exact h3⟩, fun v2 H2 Hs2 ys g k1 k2 k3 k4 => ?_⟩
  refine q v2 H2 Hs2 ?_ (x1.trans ?_) k4
  · rw [← hup]
    exact E1.callL (hpr s1) hl g k1 k2 k3
  · rw [← hup]
    exact Fw.callL (hpr s1) hl g
/-- x.pop(e), x one's own -/
def popS (pr : σ → List PyData) (up : σ → List PyData → σ) (m : SR σ) : SR σ := fun s => (m s).bnd fun p => match p.2 with
  | .int n => match seqIndex? n (pr p.1).length with
    | some k => if -(2 ^ 63) ≤ n ∧ n < 2 ^ 63 then match (pr p.1)[k]? with
        | some d => .ok (up p.1 ((pr p.1).eraseIdx k), d)
        | none => .no
      else .no
    | none => .no
  | _ => .no
theorem es_pop {pr : σ → List PyData} {up : σ → List PyData → σ} {m : SR σ} {p2 : Pos} (r : Rk X i x) (h : EvS X B G e m) (hpr : ∀ s, ownAt (G s) i = some (pr s) := by exact fun _ => rfl) (hup : ∀ s ds, putOwn (G s) i ds = G (up s ds) := by exact fun _ _ => rfl)
    (hb : Tt (Mb X (.Name x p2) "pop") := by exact ⟨rfl⟩) (hf : Tt (Mf X pos e []) := by exact ⟨rfl⟩) (hl : Tt ((ap.endLine == pos.line) = true) := by exact ⟨rfl⟩) (he : Tt (St1 X e []) := by exact ⟨rfl⟩) (hp : Tt (Pl1 X pos []) := by exact ⟨rfl⟩) :
    EvS X B G (.Call (.Attribute (.Name x p2) "pop" ap) [e] [] pos) (popS pr up m) := fun s s' d hd => by
  obtain ⟨⟨s1, y⟩, h1, h2⟩ := bnd_ok hd
  dsimp only at h2
  split at h2
  · rename_i n
    split at h2
    · rename_i k hk
      split at h2
      · rename_i hb2
        split at h2
        · rename_i dd hdd
          cases h2
          refine xm_of' (pe_bm PySem.F.plainAttrs_list PySem.F.slot_list_pop PySem.F.type_list_pop mt_popAt (pe_var r.ix r.vis r.d1 r.d2) (pa_cons pe_u pa_nil he.h) hb.h hf.h hl.h he.h hp.h) ?_
          intro H Hs st E Q q
          obtain ⟨l, xs, e1, g1, g2, g3, g4⟩ := E.ownL (hpr s)
          refine ⟨.ref l, e1, .inl ⟨rfl, xs, SqL.of g1⟩, h _ _ _ h1 H Hs st E _ fun v H1 Hs1 E1 x1 p1 => ?_⟩
          cases p1
          obtain ⟨l', xs', e1', k1, k2, k3, k4⟩ := E1.ownL (hpr s1)
          rw [e1] at e1'
          cases e1'
          obtain ⟨y, hy, py⟩ := k2.get hdd
          refine ⟨l, xs', n, k, y, rfl, rfl, k1, hb2.1, hb2.2, by rw [k2.length]; exact hk, hy, q y _ Hs1 ?_ (x1.trans ?_) py⟩
          · rw [← hup]
            exact E1.mutOwnL (hpr s1) e1 (DqAll.erase k k2)
          · rw [← hup]
            exact Fw.mutOwnL (hpr s1) e1
        · cases h2
      · cases h2
    · cases h2
  · cases h2
/-! own lists read -/
theorem ev_ixG {p2 : Pos} (k : Rk X i x) (hb : EvP X B Γ b mb) (hi : ownAt Γ i = some ds := by exact rfl) (hs : Tt (PlainIx b) := by exact ⟨fun _ _ => rfl⟩) : EvP X B Γ (.Subscript (.Name x p2) b pos) (op2 vIx (.ok (.list ds)) mb) := by
  cases mb with
  | ok d =>
    refine ev_no (fun d' hd => ?_) fun y hy => ofO_er hy
    have hd' := ofO_ok hd
    cases d with
    | int n =>
      refine xp_of (pe_ix ix_list (pe_var k.ix k.vis k.d1 k.d2) pe_u hs.h) fun H Hs σ E Q q => ?_
      obtain ⟨l, xs, e1, h1, h2, h3, h4⟩ := E.ownL hi
      refine ⟨.ref l, e1, hb H Hs σ E _ fun u H2 Hs2 g2 p2 => ?_⟩
      cases p2
      unfold vIx atI at hd'
      dsimp only at hd'
      cases e : ixN ds.length n with
      | none => rw [e] at hd'; cases hd'
      | some k =>
        rw [e] at hd'
        obtain ⟨v, hv, pv⟩ := (h2.mono g2.exs).get hd'
        exact ⟨l, xs, n, v, rfl, rfl, SqL.of (g2.ext.lst h1), by unfold atI; rw [h2.length, e]; exact hv, q v H2 Hs2 g2 pv⟩
    | _ => cases hd'
  | er y => trivial
  | no => trivial
theorem ev_lenG {p2 : Pos} (hb : Bi X "len") (k : Rk X i x) (hi : ownAt Γ i = some ds := by exact rfl) (he : Tt (St1 X (.Name x p2) []) := by exact ⟨rfl⟩) (hp : Tt (Pl1 X pos []) := by exact ⟨rfl⟩) : EvP X B Γ (.Call (.Name "len" p') [.Name x p2] [] pos) (.ok (.int ds.length)) :=
  xp_of (pe_callB call_len_seq hb.gl hb.no boot_len' (pa_cons (pe_var k.ix k.vis k.d1 k.d2) pa_nil he.h) (by decide) (by decide) he.h hp.h) fun H Hs σ E Q q => by
    obtain ⟨l, xs, e, h1, h2, _⟩ := E.ownL hi
    exact ⟨.ref l, e, l, xs, rfl, .inl (SqL.of h1), by rw [h2.length]; exact q _ H Hs (Gr.refl E.sub) (.int _)⟩
theorem ev_loanG (hi : ownAt Γ i = some ds) (h : EvP X B (Γ.set i (.sh (.list ds))) e ma) : EvP X B Γ e (lnR ma) := by
  rcases own_cases hi with ⟨h1, _⟩ | ⟨l, h1, _⟩
  · exact ev_loan ⟨h1⟩ h
  · have le : ∀ {H Hs st}, Enb X.K B H Hs st Γ → Enb X.K B H Hs st (Γ.set i (.ow ds)) := fun {H Hs st} E => by
      obtain ⟨xs, e1, a1, a2, a3, a4⟩ := E.ol h1
      have := E.mutOwn (s' := .ow ds) (o := .lst xs) h1 rfl e1 ⟨l, xs, rfl, upd_same, a2, a3, a4⟩
      have eu : upd H l (.lst xs) = H := by
        funext a
        by_cases ea : a = l
        · subst ea; rw [upd_same, a1]
        · rw [upd_ne ea]
      rw [eu] at this
      exact this
    have hl : i < Γ.length := (List.getElem?_eq_some_iff.mp h1).1
    have := ev_loan (X := X) (B := B) (Γ := Γ.set i (.ow ds)) (ma := ma) (e := e) ⟨List.getElem?_set_self hl⟩ (by rw [List.set_set]; exact h)
    cases ma with
    | ok d =>
      have t : EvP X B (Γ.set i (.ow ds)) e (if noLi d = true then .ok d else .no) := this
      show EvP X B Γ e (if noLi d = true then .ok d else .no)
      split at t
      · rename_i n
        rw [if_pos n]
        exact fun H Hs st E Q q => t H Hs st (le E) Q q
      · rename_i n
        rw [if_neg n]
        trivial
    | er y => trivial
    | no => trivial
theorem et_loanG (hi : ownAt Γ i = some ds) (h : EvT X B (Γ.set i (.sh (.list ds))) e mt) : EvT X B Γ e mt := by
  rcases own_cases hi with ⟨h1, _⟩ | ⟨l, h1, _⟩
  · exact et_loan ⟨h1⟩ h
  · have le : ∀ {H Hs st}, Enb X.K B H Hs st Γ → Enb X.K B H Hs st (Γ.set i (.ow ds)) := fun {H Hs st} E => by
      obtain ⟨xs, e1, a1, a2, a3, a4⟩ := E.ol h1
      have := E.mutOwn (s' := .ow ds) (o := .lst xs) h1 rfl e1 ⟨l, xs, rfl, upd_same, a2, a3, a4⟩
      have eu : upd H l (.lst xs) = H := by
        funext a
        by_cases ea : a = l
        · subst ea; rw [upd_same, a1]
        · rw [upd_ne ea]
      rw [eu] at this
      exact this
    have hl : i < Γ.length := (List.getElem?_eq_some_iff.mp h1).1
    have := et_loan (X := X) (B := B) (Γ := Γ.set i (.ow ds)) (mt := mt) (e := e) ⟨List.getElem?_set_self hl⟩ (by rw [List.set_set]; exact h)
    cases mt with
    | ok p => exact fun H Hs st E Q q => this H Hs st (le E) Q q
    | er y => trivial
    | no => trivial
/-! what is walked, with an effect -/
theorem ei_pureS {tg : Expr} {m : σ → R (List PyData)} (h : ∀ s, EvI X B (G s) tg e (m s)) : EvSI X B G tg e fun s => (m s).bnd fun ds => .ok (s, ds) := fun s s' ds hd => by
  obtain ⟨d', h1, h2⟩ := bnd_ok hd
  cases h2
  have := h s
  rw [h1] at this
  exact xmi_pure this
def rgM (m : SR σ) : σ → R (σ × List PyData) := fun s => (m s).bnd fun p => (rgR (.ok p.2)).bnd fun ds => .ok (p.1, ds)
theorem ei_rngS {tg : Expr} {m : SR σ} (hb : Bi X "range") (h : EvS X B G e m) (he : Tt (St1 X e []) := by exact ⟨rfl⟩) : EvSI X B G tg (.Call (.Name "range" p') [e] [] pos) (rgM m) := fun s s' ds hd => by
  obtain ⟨⟨s1, v⟩, h1, h2⟩ := bnd_ok hd
  obtain ⟨ds', h3, h4⟩ := bnd_ok h2
  cases h4
  cases v with
  | int n =>
    have h3' : (if -(2 ^ 62) ≤ n ∧ n < 2 ^ 62 then R.ok (rangeD 0 n.toNat) else .no) = .ok ds := h3
    split at h3'
    · rename_i q
      cases h3'
      exact xmi_rng1 hb he (h _ _ _ h1) ⟨q⟩
    · cases h3'
  | _ => cases h3
def enM (m : SR σ) : σ → R (σ × List PyData) := fun s => (m s).bnd fun p => (enR (.ok p.2)).bnd fun ds => .ok (p.1, ds)
theorem ei_enumS {tgs : List Expr} {kk : Nat} {p3 : Pos} {m : SR σ} (hb : Bi X "enumerate") (h : EvS X B G e m) (he1 : Tt (St1 X e []) := by exact ⟨rfl⟩) : EvSI X B G (.Tuple tgs kk p3) (.Call (.Name "enumerate" p') [e] [] pos) (enM m) := fun s s' ds hd => by
  obtain ⟨⟨s1, v⟩, h1, h2⟩ := bnd_ok hd
  obtain ⟨ds', h3, h4⟩ := bnd_ok h2
  cases h4
  cases v with
  | list xs =>
    cases h3
    exact xmi_of' (pi_enum hb.gl hb.no pa_u (by rw [he1.h]; all_goals rfl)) fun H Hs σ E R q => (xma_cons he1 (h _ _ _ h1) xma_nil) H Hs σ E _ fun vs H1 Hs1 E1 _ p1 => by
      cases p1 with
      | cons p1 p2 =>
        cases p2
        cases p1 with
        | lst hq ha => exact ⟨_, _, rfl, sub_l E1.sub hq, q _ H1 Hs1 E1 (itd_enum hq ha)⟩
  | _ => cases h3
end
/-! ### statements -/
section
variable {X X' X0 : Cx} {B : Bs} {Γ Γ1 Γ2 : Gm} {e a b c o : Expr} {es : List Expr} {d d1 d2 d3 : PyData} {ds : List PyData} {pos p' ap : Pos} {x : Str} {i j k : Nat} {ma mb mc : R PyData} {ms : R (List PyData)} {mt mu : R Bool} {scope sc2 : Scope} {P : Out → Prop}
variable {σ τ τ1 ρ l : Type} {G0 : σ → Gm} {G : τ → Gm} {G1 : τ1 → Gm} {L : l → Gm} {Ro : ρ → Out} {s st : Stmt} {ss body : List Stmt}
/-- x = e, e with an effect -/
theorem st_setS {f : σ × PyData → R (Fl τ ρ l)} {m : SR σ} {p2 : Pos} {s0 : σ} (G0 : σ → Gm) (g0 : Γ = G0 s0) (k : Lk X i x) (h : EvS X B G0 e m) (Γ1 : σ → PyData → Gm) (hr : ∀ p : σ × PyData, StM X B (Γ1 p.1 p.2) ss G L Ro (f p)) (hG : ∀ s d, (G0 s).set i (.sh d) = Γ1 s d := by exact fun _ _ => rfl) (hs : Tt (swapsWith e (some (.Name x p2)) pos.line X.env = pure false) := by exact ⟨rfl⟩) : StM X B Γ (.Assign [.Name x p2] e pos :: ss) G L Ro ((m s0).bnd f) := by
  subst g0
  cases hm : m s0 with
  | ok v =>
    refine st_bind (m := .ok v) (fun y hf => nomatch hf) fun v' hv => ?_
    cases hv
    exact ⟨Γ1 v.1 v.2, fun P hP => xsm_set k hs (h _ _ _ hm) ⟨hG _ _⟩ hP, hr v⟩
  | er y => trivial
  | no => trivial
theorem st_dropS {f : σ × PyData → R (Fl τ ρ l)} {m : SR σ} {s0 : σ} (G0 : σ → Gm) (g0 : Γ = G0 s0) (h : EvS X B G0 e m) (hr : ∀ p : σ × PyData, StM X B (G0 p.1) ss G L Ro (f p)) (hs : Tt (swapsWith e none pos.line X.env = pure false) := by exact ⟨rfl⟩) : StM X B Γ (.Expr e pos :: ss) G L Ro ((m s0).bnd f) := by
  subst g0
  cases hm : m s0 with
  | ok v =>
    refine st_bind (m := .ok v) (fun y hf => nomatch hf) fun v' hv => ?_
    cases hv
    refine ⟨G0 v.1, fun P hP => xs_of (ps_expr pe_u hs.h) fun D H Hs st E q => h _ _ _ hm H Hs st E _ fun u H1 Hs1 E1 _ _ => q _ hP H1 Hs1 st E1, hr v⟩
  | er y => trivial
  | no => trivial
theorem st_retS {m : SR σ} {s0 : σ} (G0 : σ → Gm) (g0 : Γ = G0 s0) (h : EvS X B G0 e m) : StM X B Γ (.Return (some e) pos :: ss) G L Out.rt ((m s0).bnd fun p => .ok (.rt p.2)) := by
  subst g0
  cases hm : m s0 with
  | ok v =>
    refine st_end (m := .ok (.rt v.2)) (fun fl hf => ?_) fun y hf => nomatch hf
    cases hf
    exact xs_of (ps_ret pe_u) fun D H Hs st E q => h _ _ _ hm H Hs st E _ fun u H1 Hs1 E1 _ p1 => q (.rt v.2) ⟨rfl, fun _ z => nomatch z⟩ u H1 Hs1 E1.gr p1
  | er y => trivial
  | no => trivial
/-- the way out of a def that changes the list at l -/
def RoM (l : Addr) : List PyData × PyData → Out := fun p => .rm l p.1 p.2
theorem st_retG {lc : Addr} {pr : σ → List PyData} {m : SR σ} {s0 : σ} (G0 : σ → Gm) (g0 : Γ = G0 s0) (h : EvS X B G0 e m) (hi : ∀ s, (G0 s)[i]? = some (.ol lc (pr s)) := by exact fun _ => rfl) : StM X B Γ (.Return (some e) pos :: ss) G L (RoM lc) ((m s0).bnd fun p => .ok (.rt (pr p.1, p.2))) := by
  subst g0
  cases hm : m s0 with
  | ok v =>
    refine st_end (m := .ok (.rt (pr v.1, v.2))) (fun fl hf => ?_) fun y hf => nomatch hf
    cases hf
    exact xsm_ret (h _ _ _ hm) ⟨hi _⟩ ⟨rfl, fun _ z => nomatch z⟩
  | er y => trivial
  | no => trivial
/-- if, the test with an effect -/
theorem st_ifS {m : σ → R (σ × Bool)} {m1 m2 : σ → R (Fl τ1 ρ l)} {f : τ1 → R (Fl τ ρ l)} {s1 s2 : List Stmt} {s0 : σ} (G0 : σ → Gm) (g0 : Γ = G0 s0) (h : EvST X B G0 c m) (G1 : τ1 → Gm) (h1 : ∀ s, StM X B (G0 s) s1 G1 L Ro (m1 s)) (h2 : ∀ s, StM X B (G0 s) s2 G1 L Ro (m2 s)) (hr : ∀ t, StM X B (G1 t) ss G L Ro (f t)) (hRo : ∀ d Γ', Ro d ≠ .nx Γ' := by exact fun _ _ z => nomatch z) : StM X B Γ (.If c s1 s2 pos :: ss) G L Ro (bindF ((m s0).bnd fun p => if p.2 then m1 p.1 else m2 p.1) f) := by
  subst g0
  cases hm : m s0 with
  | ok v =>
    obtain ⟨s', p⟩ := v
    have hc := h _ _ _ hm
    cases p with
    | true =>
      show StM X B _ _ G L Ro (bindF (m1 s') f)
      have h1 := h1 s'
      refine st_seq (fun fl hf => xsm_if hc (fun _ => ?_) fun z => nomatch z) (fun y hf ax P => xsm_if hc (fun _ => ?_) fun z => nomatch z) hr hRo
      · rw [hf] at h1; exact h1
      · rw [hf] at h1; exact xb_imp (h1 ax) fun _ z => z.elim
    | false =>
      show StM X B _ _ G L Ro (bindF (m2 s') f)
      have h2 := h2 s'
      refine st_seq (fun fl hf => xsm_if hc (fun z => nomatch z) fun _ => ?_) (fun y hf ax P => xsm_if hc (fun z => nomatch z) fun _ => ?_) hr hRo
      · rw [hf] at h2; exact h2
      · rw [hf] at h2; exact xb_imp (h2 ax) fun _ z => z.elim
  | er y => trivial
  | no => trivial
/-! own lists: freed, added to, put to -/
theorem ds_freeG {K : PySem.W.Frag} {ts : TS} (hi : ownAt Γ i = some ds) (h : DS K B ts (Γ.set i (.sh (.list ds))) P) : DS K B ts Γ P := fun D H Hs σ E q => by
  obtain ⟨s, h1, w⟩ := own_slot hi
  obtain ⟨l, xs, hl, a1, a2, a3, a4⟩ := E.ownL hi
  obtain ⟨_, _, E'⟩ := E.freeOwn (s' := .sh (.list ds)) h1 w hl a1 rfl ⟨.ref l, rfl, .lst (SqL.of upd_same) (a2.mono (Ext.new a3))⟩
  exact h D H _ σ E' q
theorem st_freeG {m : R (Fl τ ρ l)} (h : StM X B (Γ.set i (.sh (.list ds))) ss G L Ro m) (hi : ownAt Γ i = some ds := by exact rfl) : StM X B Γ ss G L Ro m := by
  cases m with
  | ok fl => exact ds_freeG hi h
  | er y => exact fun ax => ds_freeG hi (h ax)
  | no => trivial
theorem st_appG {f : List PyData → R (Fl τ ρ l)} {p2 : Pos} (k : Rk X i x) (h : EvP X B Γ e ma) (Γ1 : List PyData → Gm) (hr : ∀ d, StM X B (Γ1 d) ss G L Ro (f d)) (hi : ownAt Γ i = some ds := by exact rfl) (hG : ∀ d, putOwn Γ i d = Γ1 d := by exact fun _ => rfl)
    (hs : Tt (swapsWith (.Call (.Attribute (.Name x p2) "append" ap) [e] [] p') none pos.line X.env = pure false) := by exact ⟨rfl⟩) (hb : Tt (Mb X (.Name x p2) "append") := by exact ⟨rfl⟩) (hf : Tt (Mf X p' e []) := by exact ⟨rfl⟩) (hl : Tt ((ap.endLine == p'.line) = true) := by exact ⟨rfl⟩) (he : Tt (St1 X e []) := by exact ⟨rfl⟩) (hp : Tt (Pl1 X p' []) := by exact ⟨rfl⟩) :
    StM X B Γ (.Expr (.Call (.Attribute (.Name x p2) "append" ap) [e] [] p') pos :: ss) G L Ro ((appR ds ma).bind f) := by
  have rd := pe_bm (X := X) (cpos := p') PySem.F.plainAttrs_list PySem.F.slot_list_append PySem.F.type_list_append mt_append (pe_var (pos := p2) k.ix k.vis k.d1 k.d2) (pa_cons (pe_u (e := e)) pa_nil he.h) hb.h hf.h hl.h he.h hp.h
  cases ma with
  | ok d =>
    show StM X B Γ _ G L Ro ((if ds.length < 1000000 then .ok (ds ++ [d]) else .no : R (List PyData)).bind f)
    split
    · rename_i q
      refine st_bind (m := .ok (ds ++ [d])) (fun y hf => nomatch hf) fun v hv => ?_
      cases hv
      refine ⟨Γ1 _, fun P hP => xs_of (ps_expr rd hs.h) fun D H Hs σ E w => ?_, hr _⟩
      obtain ⟨l, xs, e1, h1, h2, h3, h4⟩ := E.ownL hi
      refine ⟨.ref l, e1, .inl ⟨rfl, xs, SqL.of h1⟩, h H Hs σ E _ fun v H1 Hs1 g1 p1 => ?_⟩
      have E1 := E.grow g1
      refine ⟨l, xs, v, rfl, rfl, g1.ext.lst h1, by rw [h2.length, sizeLine_eq]; omega, w _ hP _ Hs1 σ ?_⟩
      rw [← hG]
      exact E1.mutOwnL hi e1 ((h2.mono g1.exs).app (.cons p1 .nil))
    · trivial
  | er y =>
    refine fun ax => xbe_cons (xs_of (ps_expr rd hs.h) fun D H Hs σ E w => ?_)
    obtain ⟨l, xs, e1, h1, h2, h3, h4⟩ := E.ownL hi
    exact ⟨.ref l, e1, .inl ⟨rfl, xs, SqL.of h1⟩, h (ax.at Γ) H Hs σ E _⟩
  | no => trivial
theorem st_putG {f : List PyData → R (Fl τ ρ l)} {p2 ps : Pos} (k : Rk X i x) (h : EvP X B Γ e ma) (hj : EvP X B Γ b mb) (Γ1 : List PyData → Gm) (hr : ∀ d, StM X B (Γ1 d) ss G L Ro (f d)) (hi : ownAt Γ i = some ds := by exact rfl) (hG : ∀ d, putOwn Γ i d = Γ1 d := by exact fun _ => rfl)
    (ha : Tt (∀ v, assign (.Subscript (.Name x p2) b ps) X.env v = (do
      let ov ← holding [v] (eval (.Name x p2) X.env)
      let iv ← holding [v, ov] (eval b X.env)
      standAt ps
      holding [v, ov, iv] (setItem ov iv v)
      release [v, ov, iv] [])) := by exact ⟨fun _ => rfl⟩) (hs : Tt (swapsWithSole [.Subscript (.Name x p2) b ps] e pos.line X.env = pure false) := by exact ⟨rfl⟩) (hw : Tt (swappedStores [.Subscript (.Name x p2) b ps] e X.env = pure none) := by exact ⟨rfl⟩) (h1 : Tt ((assignEach [.Subscript (.Name x p2) b ps] X.env).map (·.2) = [assign (.Subscript (.Name x p2) b ps) X.env]) := by exact ⟨rfl⟩) :
    StM X B Γ (.Assign [.Subscript (.Name x p2) b ps] e pos :: ss) G L Ro ((putR ds ma mb).bind f) := by
  cases ma with
  | ok d =>
    cases mb with
    | ok dj =>
      cases dj with
      | int n =>
        show StM X B Γ _ G L Ro ((match ixN ds.length n with | some k => .ok (ds.set k d) | none => .no : R (List PyData)).bind f)
        cases hn : ixN ds.length n with
        | none => trivial
        | some kk =>
          refine st_bind (m := .ok (ds.set kk d)) (fun y hf => nomatch hf) fun v hv => ?_
          cases hv
          refine ⟨Γ1 _, fun P hP => xs_of (ps_asg pe_u (pg_sub (pe_var k.ix k.vis k.d1 k.d2) pe_u set_list ha.h) hs.h hw.h h1.h) fun D H Hs σ E w => ?_, hr _⟩
          refine h H Hs σ E _ fun v H1 Hs1 g1 p1 => ?_
          obtain ⟨l, xs, e1, a1, a2, a3, a4⟩ := (E.grow g1).ownL hi
          refine ⟨.ref l, e1, hj H1 Hs1 σ (E.grow g1) _ fun u H2 Hs2 g2 p2 => ?_⟩
          cases p2
          have E2 := (E.grow g1).grow g2
          refine ⟨l, xs, n, kk, rfl, rfl, g2.ext.lst a1, by rw [a2.length]; exact hn, w _ hP _ Hs2 σ ?_⟩
          rw [← hG]
          exact E2.mutOwnL hi e1 (DqAll.set (p1.mono g2.exs) kk (a2.mono g2.exs))
      | _ => trivial
    | er y => trivial
    | no => trivial
  | er y => trivial
  | no => trivial
/-! a comprehension whose element has an effect -/
def lcS {κ : Type} (tg : PyData → Option κ) (f : κ → SR σ) : List PyData → σ → R (σ × List PyData)
  | [], s => .ok (s, [])
  | d :: ds, s => (R.ofO (tg d)).bnd fun k => (f k s).bnd fun p => (lcS tg f ds p.1).bnd fun q => .ok (q.1, p.2 :: q.2)
theorem lcS_run {κ : Type} {tg : PyData → Option κ} {f : κ → SR σ} : ∀ {ds : List PyData} {s s' : σ} {ys : List PyData}, lcS tg f ds s = .ok (s', ys) →
    ∃ (st : Nat → σ) (ev : Nat → PyData), st 0 = s ∧ st ds.length = s' ∧ ys = (List.range ds.length).map ev ∧ ∀ i d, ds[i]? = some d → ∃ k, tg d = some k ∧ f k (st i) = .ok (st (i + 1), ev i)
  | [], s, s', ys, h => by
    cases h
    exact ⟨fun _ => s, fun _ => .none, rfl, rfl, rfl, fun i d hd => by simp at hd⟩
  | d :: ds, s, s', ys, h => by
    obtain ⟨k, h1, h2⟩ := bnd_ok h
    obtain ⟨⟨s1, v⟩, h3, h4⟩ := bnd_ok h2
    obtain ⟨⟨s2, vs⟩, h5, h6⟩ := bnd_ok h4
    cases h6
    obtain ⟨st, ev, e1, e2, e3, e4⟩ := lcS_run h5
    refine ⟨fun i => match i with | 0 => s | i + 1 => st i, fun i => match i with | 0 => v | i + 1 => ev i, rfl, e2, ?_, fun i d' hd => ?_⟩
    · rw [List.length_cons, List.range_succ_eq_map, List.map_cons, List.map_map, e3]
      rfl
    · cases i with
      | zero =>
        cases hd
        exact ⟨k, ofO_ok h1, by dsimp only; rw [e1]; exact h3⟩
      | succ i => exact e4 i d' hd
/-- every own slot of the first stands in the second -/
inductive OwLe : Gm → Gm → Prop where
  | nil : OwLe [] []
  | eq {s : Sl} {Γ Γ' : Gm} : OwLe Γ Γ' → OwLe (s :: Γ) (s :: Γ')
  | sh {d : PyData} {t : Sl} {Γ Γ' : Gm} : OwLe Γ Γ' → OwLe (.sh d :: Γ) (t :: Γ')
theorem OwLe.get : ∀ {Γ Γ' : Gm} {i : Nat} {s : Sl}, OwLe Γ Γ' → Γ[i]? = some s → s.isOwn = true → Γ'[i]? = some s
  | _, _, _, _, .nil, h, _ => by simp at h
  | _, _, 0, _, .eq _, h, _ => h
  | _, _, 0, _, .sh _, h, w => by cases h; cases w
  | _, _, i + 1, _, .eq g, h, w => OwLe.get (i := i) g h w
  | _, _, i + 1, _, .sh g, h, w => OwLe.get (i := i) g h w
theorem st_setLcS {κ : Type} {f : σ × List PyData → R (Fl τ ρ l)} {elt tg iter : Expr} {own : List (Str × Nat)} {js : List Nat} {py : Pos} {u : PyData → Option κ} {g : κ → SR σ} {mi : σ → R (σ × List PyData)} {s0 : σ} (G0 : σ → Gm) (g0 : Γ = G0 s0) (Gk : σ → κ → Gm) (hr : Room j X.A) (k : Lk X i x) (ok : BlkOk X.N X.env.scope scope own)
    (hi : EvSI X B G0 tg iter mi) (ht : ∀ X', Bk X scope j X' → ∀ s, TgOk X' tg js (G0 s) u (Gk s)) (hb : ∀ X', Bk X scope j X' → ∀ k, EvS X' B (fun s => Gk s k) elt (g k)) (how : ∀ s k, OwLe (Gk s k) (G0 s))
    (Γ1 : σ → List PyData → Gm) (hrest : ∀ p : σ × List PyData, StM X B (Γ1 p.1 p.2) ss G L Ro (f p)) (hG : ∀ s d, (G0 s).set i (.ow d) = Γ1 s d := by exact fun _ _ => rfl) (hw : ∀ s, wipeG (G0 s) (own.map (·.2)) = G0 s := by exact fun _ => rfl) (hw2 : ∀ s k, wipeG (Gk s k) (own.map (·.2)) = G0 s := by exact fun _ _ => rfl)
    (hv : Tt ((js.all fun j => decide (j ∈ own.map (·.2))) = true) := by exact ⟨rfl⟩) (hc : Tt (X.calm = true) := by exact ⟨rfl⟩) (hs : Tt (∀ x, foldedSetIterable iter X.env x = pure x) := by exact ⟨fun _ => rfl⟩) (hyl : Tt (X.env.scope.names.lookup x = some .local) := by exact ⟨rfl⟩)
    (hsw : Tt (swapsWith (.ListComp elt [⟨tg, iter, [], 0⟩] scope pos) (some (.Name x py)) p'.line X.env = pure true) := by exact ⟨rfl⟩) :
    StM X B Γ (.Assign [.Name x py] (.ListComp elt [⟨tg, iter, [], 0⟩] scope pos) p' :: ss) G L Ro (((mi s0).bnd fun p => if p.2.length ≤ 1000000 then lcS u g p.2 p.1 else .no).bnd f) := by
  subst g0
  cases hm : mi s0 with
  | ok v =>
    obtain ⟨s1, ds⟩ := v
    show StM X B _ _ G L Ro ((if ds.length ≤ 1000000 then lcS u g ds s1 else .no).bnd f)
    split
    · rename_i q
      cases hl : lcS u g ds s1 with
      | ok v =>
        obtain ⟨s2, ys⟩ := v
        obtain ⟨st, ev, e1, e2, e3, e4⟩ := lcS_run hl
        subst e1 e2 e3
        refine st_bind (m := .ok (st ds.length, (List.range ds.length).map ev)) (fun y hf => nomatch hf) fun v' hv' => ?_
        cases hv'
        refine ⟨Γ1 (st ds.length) ((List.range ds.length).map ev), fun P hP => ?_, hrest _⟩
        have ex : ∀ t, ∃ kk : Option κ, ∀ d, ds[t]? = some d → ∃ k, kk = some k ∧ u d = some k ∧ g k (st t) = .ok (st (t + 1), ev t) := fun t => by
          cases hd : ds[t]? with
          | none => exact ⟨none, fun d z => nomatch z⟩
          | some d =>
            obtain ⟨k, k1, k2⟩ := e4 t d hd
            exact ⟨some k, fun d' z => by cases z; exact ⟨k, rfl, k1, k2⟩⟩
        obtain ⟨kk, hkk⟩ := Classical.axiomOfChoice ex
        refine xs_setM (Γs := fun t => G0 (st t)) (G2 := fun t => ((kk t).map (Gk (st t))).getD (G0 (st t))) (G3 := fun t => ((kk t).map (Gk (st (t + 1)))).getD (G0 (st (t + 1)))) ev hr k hyl hc ok hsw hs (hi _ _ _ hm) ⟨q⟩ hv (fun t => hw _) (fun X' hX t d hd => ?_) (fun t ht2 => ?_) ⟨hG _ _⟩ hP
        · obtain ⟨k, k1, k2, k3⟩ := hkk t d hd
          rw [k1]
          exact ⟨ht X' hX _ d k k2, hb X' hX k _ _ _ k3⟩
        · obtain ⟨k, k1, k2, k3⟩ := hkk t _ (List.getElem?_eq_getElem ht2)
          rw [k1]
          exact ⟨fun n s h w => (how _ _).get h w, hw2 _ _⟩
      | er y => trivial
      | no => trivial
    · trivial
  | er y => trivial
  | no => trivial
/-! for, what is walked with an effect -/
theorem st_forS {κ σ' : Type} {f : σ' → R (Fl τ ρ l)} {tg iter : Expr} {js : List Nat} {u : PyData → Option κ} {bd : σ' → κ → R (Fl σ' ρ σ')} {mi : σ → R (σ × List PyData)} {s0 : σ} {t0 : σ → σ'} (hp : PassesOwn (model X.prog X.w) X.A X.env X.xe) (G0 : σ → Gm) (g00 : Γ = G0 s0) (hi : EvSI X B G0 tg iter mi) (Gl : σ' → Gm) (Gt : σ' → κ → Gm) (ht : ∀ s, TgOk X tg js (Gl s) u (Gt s)) (hb : ∀ H s k, StM X (B.at H) (Gt s k) body Gl Gl Ro (bd s k)) (g0 : ∀ s, GmLe (G0 s) (Gl (t0 s))) (hr : ∀ s, StM X B (Gl s) ss G L Ro (f s))
    (hRo : ∀ d Γ', Ro d ≠ .nx Γ' := by exact fun _ _ z => nomatch z) (hRo2 : ∀ d I k P, P (Ro d) → turnS I k P (Ro d) := by exact fun _ _ _ _ z => z) (hc : Tt (X.calm = true) := by exact ⟨rfl⟩) (hs : Tt (∀ x, foldedSetIterable iter X.env x = pure x) := by exact ⟨fun _ => rfl⟩) :
    StM X B Γ (.For tg iter body [] pos :: ss) G L Ro (bindF ((mi s0).bnd fun p => forF u bd p.2 (t0 p.1)) f) := by
  subst g00
  cases hm : mi s0 with
  | ok v =>
    obtain ⟨s1, ds⟩ := v
    have hx := hi _ _ _ hm
    show StM X B _ _ G L Ro (bindF (forF u bd ds (t0 s1)) f)
    have key : ∀ (P : Out → Prop) (I : Nat → Gm → Prop), I 0 (G0 s1) → (∀ L k d Γ', ds[k]? = some d → I k Γ' → ∃ js Γ2, Xg X tg js d Γ' Γ2 ∧ Xb X (B.at L) Γ2 body (turnS I k P)) → (∀ Γ', I ds.length Γ' → P (.nx Γ')) → Xs X B (G0 s0) (.For tg iter body [] pos) P := fun P I h0 hb hd =>
      xs_of (ps_for hp hc.h pi_u pg_u pb_u hs.h) fun D H Hs st E q => hx H Hs st E _ fun J H1 Hs1 E1 hJ => by
        refine ⟨fun i m σ' H' => m = ds.length - i ∧ i ≤ ds.length ∧ ∃ Γ' Hs', I i Γ' ∧ Enb X.K (B.at Hs1) H' Hs' σ' Γ', ⟨ds.length, rfl, Nat.zero_le _, G0 s1, Hs1, h0, low_in E1 (Ext.refl _)⟩, ?_⟩
        rintro i m σ' H' ⟨rfl, hi, Γ', Hs', hI, E'⟩
        obtain ⟨j1, j2⟩ := hJ H' Hs' E'.sub E'.pin
        by_cases hlt : i < ds.length
        · have hd' : ds[i]? = some ds[i] := List.getElem?_eq_getElem hlt
          obtain ⟨j3, j4⟩ := j2 i _ hd'
          refine .inr ⟨j3, fun σ2 H2 => ∃ Γ2 Hs2, I (i + 1) Γ2 ∧ Enb X.K (B.at Hs1) H2 Hs2 σ2 Γ2, fun σ2 H2 ⟨Γ2, Hs2, hI2, E2⟩ => ⟨ds.length - (i + 1), by omega, rfl, by omega, Γ2, Hs2, hI2, E2⟩, fun x H2 hy => ?_⟩
          obtain ⟨Hs2, g2, p2⟩ := j4 x H2 hy
          obtain ⟨js, Γ2, hg, hb⟩ := hb Hs1 i _ Γ' hd' hI
          refine hg (B.at Hs1) H2 Hs2 σ' x (E'.grow g2) p2 _ fun σ3 E3 _ => hb _ H2 Hs2 σ3 E3 fun o ho => turn_fits ho q E1.pin fun Γ4 H4 Hs4 σ4 hI4 E4 => ⟨Γ4, Hs4, hI4, E4⟩
        · have e : i = ds.length := by omega
          subst e
          exact .inl ⟨j1, q _ (hd Γ' hI) H' Hs' σ' (low_out E' E1.pin)⟩
    refine st_seq (G1 := Gl) (fun fl hf => ?_) (fun y hf ax P => ?_) hr hRo
    · refine xs_out (P' := fun o => (∃ Γ' s, o = .nx Γ' ∧ fl = .nx s ∧ GmLe Γ' (Gl s)) ∨ (∃ d, o = Ro d ∧ fl = .rt d)) (key _ (fun k Γ' => ∃ s, GmLe Γ' (Gl s) ∧ forF u bd (ds.drop k) s = (.ok fl : R (Fl σ' ρ l))) ⟨t0 s1, g0 s1, hf⟩ (fun H k d Γ' hk hI => ?_) (fun Γ' hI => ?_)) (fun o ho => ?_)
      · obtain ⟨s, le, e⟩ := hI
        obtain ⟨kk, h1, h2⟩ := forF_at hk e (fun z => nomatch z)
        refine ⟨js, Gt s kk, xg_le (ht s d kk h1) le, ?_⟩
        have hbd := hb H s kk
        rcases h2 with ⟨s', h2 | h2, h3⟩ | ⟨s', h2, h3⟩ | ⟨d', h2, h3⟩ | ⟨y, h2, h3⟩
        · rw [h2] at hbd
          exact xb_imp hbd fun o ho => by subst ho; exact ⟨s', GmLe.refl _, h3⟩
        · rw [h2] at hbd
          exact xb_imp hbd fun o ho => by subst ho; exact ⟨s', GmLe.refl _, h3⟩
        · rw [h2] at hbd
          cases h3
          exact xb_imp hbd fun o ho => by subst ho; exact .inl ⟨_, s', rfl, rfl, GmLe.refl _⟩
        · rw [h2] at hbd
          cases h3
          exact xb_imp hbd fun o ho => by subst ho; exact hRo2 _ _ _ _ (.inr ⟨d', rfl, rfl⟩)
        · cases h3
      · obtain ⟨s, le, e⟩ := hI
        rw [List.drop_length] at e
        cases e
        exact .inl ⟨Γ', s, rfl, rfl, le⟩
      · rcases ho with ⟨Γ', s, rfl, rfl, le⟩ | ⟨d, rfl, rfl⟩
        · exact ⟨.nx (Gl s), le, rfl⟩
        · refine ⟨Ro d, ?_, rfl⟩
          cases hq : Ro d with
          | nx Γ' => exact absurd hq (hRo d Γ')
          | _ => rfl
    · refine xs_imp (P' := fun _ => False) (key _ (fun k Γ' => ∃ s, GmLe Γ' (Gl s) ∧ forF u bd (ds.drop k) s = (.er y : R (Fl σ' ρ l))) ⟨t0 s1, g0 s1, hf⟩ (fun H k d Γ' hk hI => ?_) (fun Γ' hI => ?_)) fun _ z => z.elim
      · obtain ⟨s, le, e⟩ := hI
        obtain ⟨kk, h1, h2⟩ := forF_at hk e (fun z => nomatch z)
        refine ⟨js, Gt s kk, xg_le (ht s d kk h1) le, ?_⟩
        have hbd := hb H s kk
        rcases h2 with ⟨s', h2 | h2, h3⟩ | ⟨s', h2, h3⟩ | ⟨d', h2, h3⟩ | ⟨y', h2, h3⟩
        · rw [h2] at hbd
          exact xb_imp hbd fun o ho => by subst ho; exact ⟨s', GmLe.refl _, h3⟩
        · rw [h2] at hbd
          exact xb_imp hbd fun o ho => by subst ho; exact ⟨s', GmLe.refl _, h3⟩
        · cases h3
        · cases h3
        · rw [h2] at hbd
          cases h3
          exact xb_imp (hbd (ax.low H)) fun o ho => ho.elim
      · obtain ⟨s, le, e⟩ := hI
        rw [List.drop_length] at e
        cases e
  | er y => trivial
  | no => trivial
end
/-! ### a def that changes a list handed in, by its body -/
section
variable {P : Program} {w : World} {K : PySem.W.Frag} {mg : Str → Option Value} {base : Heap}
theorem fn_okMG {x qual : Str} {st : Stmt} {f : Addr} {fd : FuncData} {N ps : List Str} {k n : Nat} {F : List PyData → List PyData → R (List PyData × PyData)} (Fu : Fun K x qual st f fd) (S : FnScope N ps (defScope st)) (len : ∀ as bs ds, as.length = n → F (as ++ bs) ds ≠ .no → (as ++ bs).length + 1 = ps.length)
    (body : ∀ (cdv : Value) (A : Around) (outer : List Env) (s : Shared) (H : Hp) (E : XK) (B : Bs) (l : Addr) (as bs ds : List PyData), Room k (Xc P w K mg base N qual st f cdv A outer s H E).A → as.length = n → F (as ++ bs) ds ≠ .no →
      ∃ (τ : Type) (G : τ → Gm) (L : Empty → Gm) (m : R (Fl τ (List PyData × PyData) Empty)), (∀ r, F (as ++ bs) ds = .ok r → m = .ok (.rt r)) ∧ StM (Xc P w K mg base N qual st f cdv A outer s H E) B (startM N (as.map .d ++ .p l :: bs.map .d) ds) (defBody st) G L (RoM l) m) :
    FnOk P w K mg base CX0 (k + 1) f fd ps (spM K (rM n F)) := by
  refine fn_okM Fu S (fun l gs ds es d hR => ?_) fun cdv A outer s H E B l gs ds es d hr hR => ?_
  · obtain ⟨as, bs, rfl, ha, hF⟩ := hR
    refine ⟨?_, one_of as l bs⟩
    have := len as bs ds ha (by rw [hF]; exact fun z => nomatch z)
    rw [List.length_append, List.length_map, List.length_cons, List.length_map]
    rw [List.length_append] at this
    omega
  · obtain ⟨as, bs, rfl, ha, hF⟩ := hR
    obtain ⟨τ, G, L, m, h1, h2⟩ := body cdv A outer s H E B l as bs ds hr ha (by rw [hF]; exact fun z => nomatch z)
    rw [h1 _ hF] at h2
    exact xb_imp h2 fun o ho => by subst ho; exact rfl
end
end Dl
set_option Elab.async false
set_option linter.all false
set_option maxRecDepth 100000
set_option maxHeartbeats 2000000
/-! What the generator of proofs wants besides. -/
namespace Dl
open PySem L2 PyProof.Rows
open PySem.W (AllAlike Sortable dataLe)
abbrev lcM {κ : Type} (tg : PyData → Option κ) (c : κ → R Bool) (f : κ → R PyData) (ms : R (List PyData)) : R (List PyData) := ms.bnd fun ds => if ds.length ≤ 1000000 then lcR tg c f ds else .no
abbrev lcE {σ κ : Type} (u : PyData → Option κ) (g : κ → SR σ) (r : R (σ × List PyData)) : R (σ × List PyData) := r.bnd fun p => if p.2.length ≤ 1000000 then lcS u g p.2 p.1 else .no
abbrev noL : Empty → Gm := fun z => nomatch z
abbrev adL (a b : R PyData) : R (List PyData) := (op2 vAdd a b).bnd fun d => match d with | .list ds => .ok ds | _ => .no
section
variable {f1 : PyData → R PyData} {f2 : PyData → PyData → R PyData} {f3 : PyData → PyData → PyData → R PyData} {f4 : PyData → PyData → PyData → PyData → R PyData} {f5 : PyData → PyData → PyData → PyData → PyData → R PyData} {f6 : PyData → PyData → PyData → PyData → PyData → PyData → R PyData} {ds : List PyData}
theorem u1_inv (h : u1 f1 ds ≠ .no) : ∃ a, ds = [a] := by
  unfold u1 at h
  split at h
  · exact ⟨_, rfl⟩
  · exact absurd rfl h
theorem u2_inv (h : u2 f2 ds ≠ .no) : ∃ a b, ds = [a, b] := by
  unfold u2 at h
  split at h
  · exact ⟨_, _, rfl⟩
  · exact absurd rfl h
theorem u3_inv (h : u3 f3 ds ≠ .no) : ∃ a b c, ds = [a, b, c] := by
  unfold u3 at h
  split at h
  · exact ⟨_, _, _, rfl⟩
  · exact absurd rfl h
theorem u4_inv (h : u4 f4 ds ≠ .no) : ∃ a b c d, ds = [a, b, c, d] := by
  unfold u4 at h
  split at h
  · exact ⟨_, _, _, _, rfl⟩
  · exact absurd rfl h
theorem u5_inv (h : u5 f5 ds ≠ .no) : ∃ a b c d e, ds = [a, b, c, d, e] := by
  unfold u5 at h
  split at h
  · exact ⟨_, _, _, _, _, rfl⟩
  · exact absurd rfl h
theorem u6_inv (h : u6 f6 ds ≠ .no) : ∃ a b c d e g, ds = [a, b, c, d, e, g] := by
  unfold u6 at h
  split at h
  · exact ⟨_, _, _, _, _, _, rfl⟩
  · exact absurd rfl h
end
/-! defs that change a list: the other arguments, the list -/
abbrev RM := R (List PyData × PyData)
def w0 (f : List PyData → RM) : List PyData → List PyData → RM
  | [], es => f es
  | _, _ => .no
def w1 (f : PyData → List PyData → RM) : List PyData → List PyData → RM
  | [a], es => f a es
  | _, _ => .no
def w2 (f : PyData → PyData → List PyData → RM) : List PyData → List PyData → RM
  | [a, b], es => f a b es
  | _, _ => .no
def w3 (f : PyData → PyData → PyData → List PyData → RM) : List PyData → List PyData → RM
  | [a, b, c], es => f a b c es
  | _, _ => .no
def w4 (f : PyData → PyData → PyData → PyData → List PyData → RM) : List PyData → List PyData → RM
  | [a, b, c, d], es => f a b c d es
  | _, _ => .no
def finM : R (Fl Unit (List PyData × PyData) Empty) → RM
  | .ok (.rt r) => .ok r
  | .er x => .er x
  | _ => .no
theorem finM_ok {m : R (Fl Unit (List PyData × PyData) Empty)} {r : List PyData × PyData} (h : finM m = .ok r) : m = .ok (.rt r) := by
  cases m with
  | ok fl =>
    cases fl with
    | rt d => cases h; rfl
    | nx t => cases h
    | bk t => exact t.elim
    | ct t => exact t.elim
  | er y => cases h
  | no => cases h
section
variable {f0 : List PyData → RM} {f1 : PyData → List PyData → RM} {f2 : PyData → PyData → List PyData → RM} {f3 : PyData → PyData → PyData → List PyData → RM} {f4 : PyData → PyData → PyData → PyData → List PyData → RM} {ds es : List PyData}
theorem w0_inv (h : w0 f0 ds es ≠ .no) : ds = [] := by
  unfold w0 at h
  split at h
  · rfl
  · exact absurd rfl h
theorem w1_inv (h : w1 f1 ds es ≠ .no) : ∃ a, ds = [a] := by
  unfold w1 at h
  split at h
  · exact ⟨_, rfl⟩
  · exact absurd rfl h
theorem w2_inv (h : w2 f2 ds es ≠ .no) : ∃ a b, ds = [a, b] := by
  unfold w2 at h
  split at h
  · exact ⟨_, _, rfl⟩
  · exact absurd rfl h
theorem w3_inv (h : w3 f3 ds es ≠ .no) : ∃ a b c, ds = [a, b, c] := by
  unfold w3 at h
  split at h
  · exact ⟨_, _, _, rfl⟩
  · exact absurd rfl h
theorem w4_inv (h : w4 f4 ds es ≠ .no) : ∃ a b c d, ds = [a, b, c, d] := by
  unfold w4 at h
  split at h
  · exact ⟨_, _, _, _, rfl⟩
  · exact absurd rfl h
end
variable [Tabs]
section
variable {X X' X0 : Cx} {B : Bs} {Γ Γ1 Γ2 : Gm} {e a b c o : Expr} {es : List Expr} {d d1 d2 d3 : PyData} {ds : List PyData} {pos p' ap : Pos} {x : Str} {i j k : Nat} {ma mb mc : R PyData} {ms : R (List PyData)} {mt mu : R Bool} {scope sc2 : Scope} {P : Out → Prop}
variable {σ τ τ1 ρ l : Type} {G0 : σ → Gm} {G : τ → Gm} {G1 : τ1 → Gm} {L : l → Gm} {Ro : ρ → Out} {s st : Stmt} {ss body : List Stmt}
/-- x.append(e), e with an effect on other lists -/
def apS (ds : List PyData) (m : SR σ) (s0 : σ) : R (σ × List PyData) := (m s0).bnd fun p => if ds.length < 1000000 then .ok (p.1, ds ++ [p.2]) else .no
theorem st_appS {f : σ × List PyData → R (Fl τ ρ l)} {m : SR σ} {p2 : Pos} {s0 : σ} (G0 : σ → Gm) (g0 : Γ = G0 s0) (k : Rk X i x) (h : EvS X B G0 e m) (Γ1 : σ → List PyData → Gm) (hr : ∀ p : σ × List PyData, StM X B (Γ1 p.1 p.2) ss G L Ro (f p)) (hi : ∀ s, ownAt (G0 s) i = some ds := by exact fun _ => rfl) (hG : ∀ s d, putOwn (G0 s) i d = Γ1 s d := by exact fun _ _ => rfl)
    (hs : Tt (swapsWith (.Call (.Attribute (.Name x p2) "append" ap) [e] [] p') none pos.line X.env = pure false) := by exact ⟨rfl⟩) (hb : Tt (Mb X (.Name x p2) "append") := by exact ⟨rfl⟩) (hf : Tt (Mf X p' e []) := by exact ⟨rfl⟩) (hl : Tt ((ap.endLine == p'.line) = true) := by exact ⟨rfl⟩) (he : Tt (St1 X e []) := by exact ⟨rfl⟩) (hp : Tt (Pl1 X p' []) := by exact ⟨rfl⟩) :
    StM X B Γ (.Expr (.Call (.Attribute (.Name x p2) "append" ap) [e] [] p') pos :: ss) G L Ro ((apS ds m s0).bnd f) := by
  subst g0
  have rd := pe_bm (X := X) (cpos := p') PySem.F.plainAttrs_list PySem.F.slot_list_append PySem.F.type_list_append mt_append (pe_var (pos := p2) k.ix k.vis k.d1 k.d2) (pa_cons (pe_u (e := e)) pa_nil he.h) hb.h hf.h hl.h he.h hp.h
  unfold apS
  cases hm : m s0 with
  | ok v =>
    obtain ⟨s1, d⟩ := v
    show StM X B _ _ G L Ro ((if ds.length < 1000000 then R.ok (s1, ds ++ [d]) else .no).bnd f)
    split
    · rename_i q
      refine st_bind (m := .ok (s1, ds ++ [d])) (fun y hf => nomatch hf) fun v hv => ?_
      cases hv
      refine ⟨Γ1 s1 (ds ++ [d]), fun P hP => xs_of (ps_expr rd hs.h) fun D H Hs st E w => ?_, hr _⟩
      obtain ⟨l, xs, e1, h1, h2, h3, h4⟩ := E.ownL (hi s0)
      refine ⟨.ref l, e1, .inl ⟨rfl, xs, SqL.of h1⟩, h _ _ _ hm H Hs st E _ fun v H1 Hs1 E1 x1 p1 => ?_⟩
      obtain ⟨l', xs', e1', k1, k2, k3, k4⟩ := E1.ownL (hi s1)
      rw [e1] at e1'
      cases e1'
      refine ⟨l, xs', v, rfl, rfl, k1, by rw [k2.length, sizeLine_eq]; omega, w _ hP _ Hs1 st ?_⟩
      rw [← hG]
      exact E1.mutOwnL (hi s1) e1 (k2.app (.cons p1 .nil))
    · trivial
  | er y => trivial
  | no => trivial
/-! dicts read -/
def vInD (k d : PyData) : Option Bool := match d with
  | .dict es => if (keyOf k).isSome = true ∧ plainD (.dict es) = true then some (inKeys k es) else none
  | _ => none
def vNinD (k d : PyData) : Option Bool := (vInD k d).map (!·)
theorem vInD_is {d1 d2 : PyData} {p : Bool} (h : vInD d1 d2 = some p) : ∃ es, d2 = .dict es ∧ (keyOf d1).isSome = true ∧ plainD (.dict es) = true ∧ p = inKeys d1 es := by
  unfold vInD at h
  split at h
  · split at h <;> cases h
    rename_i q
    exact ⟨_, rfl, q.1, q.2, rfl⟩
  · cases h
theorem ev_inD (hu : Rm X) (ha : EvP X B Γ a ma) (hb : EvP X B Γ b mb) (hm : Tt (behindInMarks .In b = false) := by exact ⟨rfl⟩) : EvP X B Γ (.Compare a [.In] [b] pos) (blR (cm2 vInD ma mb)) :=
  cm2_inv (fun m => EvP X B Γ _ (blR m)) (fun d1 d2 p e1 e2 hf => by
    subst e1; subst e2
    obtain ⟨es, rfl, h1, h2, rfl⟩ := vInD_is hf
    exact xe_inDict hu hm ha hb ⟨h1⟩ h2) trivial
theorem et_inD (hu : Rm X) (ha : EvP X B Γ a ma) (hb : EvP X B Γ b mb) (hm : Tt (behindInMarks .In b = false) := by exact ⟨rfl⟩) : EvT X B Γ (.Compare a [.In] [b] pos) (cm2 vInD ma mb) :=
  cm2_inv (fun m => EvT X B Γ _ m) (fun d1 d2 p e1 e2 hf => by
    subst e1; subst e2
    obtain ⟨es, rfl, h1, h2, rfl⟩ := vInD_is hf
    exact xte_inDict hu hm ha hb ⟨h1⟩ h2) trivial
theorem xte_ninDict {es' : List (PyData × PyData)} (hu : Rm X) (hm : Tt (behindInMarks .NotIn b = false)) (ha : Xp X B Γ a d) (hb : Xp X B Γ b (.dict es')) (hk : Tt ((keyOf d).isSome = true)) (pl : plainD (.dict es') = true) : DE X.K B (uE X (.Compare a [.NotIn] [b] pos)) Γ (.bool (!inKeys d es')) ∧ Xt X B Γ (.Compare a [.NotIn] [b] pos) (!inKeys d es') := by
  have hk' := hk.h
  have key : ∀ {H Hs σ} {Q : VK}, Enb X.K B H Hs σ Γ → (∀ H' Hs', Gr H Hs H' Hs' → Q (.bl (!inKeys d es')) H') → ∃ t, PC X .NotIn a b t ∧ t σ H Q := fun {H Hs σ Q} E q => by
    refine ⟨_, pc_dnotin (by have := hu.h; omega) pe_u pe_u, ?_⟩
    refine ha H Hs σ E _ fun v H1 Hs1 g1 p1 => hb H1 Hs1 σ (E.grow g1) _ fun u H2 Hs2 g2 p2 => ?_
    cases p2 with
    | dic hr hd =>
      have fin : ∀ kk : Key, v = kV kk → keyOf d = some kk → ∃ a' o', V.ref _ = V.ref a' ∧ DGet H2 a' v o' ∧ Q (.bl (!o'.isSome)) H2 := fun kk e1 e2 => by
        refine ⟨_, _, rfl, .inl ⟨_, kk, sub_rd g2.sub hr, e1, rfl⟩, ?_⟩
        rw [← valV_any, hd.any (k := kk)]
        have := q H2 Hs2 (g1.trans g2)
        unfold inKeys at this
        rw [e2] at this
        exact this
      cases p1 with
      | int i => exact fin (.inl i) rfl rfl
      | str s => exact fin (.inr s) rfl rfl
      | non => cases hk'
      | bl _ => cases hk'
      | lst _ _ => cases hk'
      | tup _ _ => cases hk'
      | dic _ _ => cases hk'
      | exc _ _ => cases hk'
      | exf _ _ _ _ => cases hk'
      | obj _ _ _ _ => cases hk'
    | exc _ _ => cases pl
    | exf _ _ _ _ => cases pl
    | obj _ _ _ _ => cases pl
  refine ⟨fun H Hs σ E Q q => ?_, fun H Hs σ E Q q => ?_⟩
  · obtain ⟨t, h1, h2⟩ := key (Q := Q) E fun H' Hs' g => q _ H' Hs' g (.bl _)
    exact ⟨t, pe_cmp h1 hm.h, h2⟩
  · obtain ⟨t, h1, h2⟩ := key (Q := fun v H' => ∃ k, v = .bl k ∧ Q k H') E fun H' Hs' g => ⟨_, rfl, q H' Hs' g⟩
    exact ⟨_, pt_cmp h1 hm.h, h2⟩
theorem ev_ninD (hu : Rm X) (ha : EvP X B Γ a ma) (hb : EvP X B Γ b mb) (hm : Tt (behindInMarks .NotIn b = false) := by exact ⟨rfl⟩) : EvP X B Γ (.Compare a [.NotIn] [b] pos) (blR (cm2 vNinD ma mb)) :=
  cm2_inv (fun m => EvP X B Γ _ (blR m)) (fun d1 d2 p e1 e2 hf => by
    subst e1; subst e2
    unfold vNinD at hf
    cases hq : vInD d1 d2 with
    | none => rw [hq] at hf; cases hf
    | some p' =>
      rw [hq] at hf
      cases hf
      obtain ⟨es, rfl, h1, h2, rfl⟩ := vInD_is hq
      exact (xte_ninDict hu hm ha hb ⟨h1⟩ h2).1) trivial
theorem et_ninD (hu : Rm X) (ha : EvP X B Γ a ma) (hb : EvP X B Γ b mb) (hm : Tt (behindInMarks .NotIn b = false) := by exact ⟨rfl⟩) : EvT X B Γ (.Compare a [.NotIn] [b] pos) (cm2 vNinD ma mb) :=
  cm2_inv (fun m => EvT X B Γ _ m) (fun d1 d2 p e1 e2 hf => by
    subst e1; subst e2
    unfold vNinD at hf
    cases hq : vInD d1 d2 with
    | none => rw [hq] at hf; cases hf
    | some p' =>
      rw [hq] at hf
      cases hf
      obtain ⟨es, rfl, h1, h2, rfl⟩ := vInD_is hq
      exact (xte_ninDict hu hm ha hb ⟨h1⟩ h2).2) trivial
/-- dict(pairs) -/
def pairsO : List PyData → Option (List (PyData × PyData))
  | [] => some []
  | .tuple [k, v] :: r => if (keyOf k).isSome = true then (pairsO r).map ((k, v) :: ·) else none
  | _ => none
theorem pairsO_is : ∀ {ds : List PyData} {es : List (PyData × PyData)}, pairsO ds = some es → PairsD ds es := by
  intro ds
  induction ds with
  | nil => intro es h; cases h; exact .nil
  | cons d r ih =>
    intro es h
    unfold pairsO at h
    split at h
    · rename_i e1; cases e1
    · rename_i k v r' e1
      cases e1
      split at h
      · rename_i q
        cases e : pairsO r with
        | none => rw [e] at h; cases h
        | some zs => rw [e] at h; cases h; exact .cons q (ih e)
      · cases h
    · cases h
def vDict : PyData → Option PyData
  | .list ds => (pairsO ds).map fun es => .dict (mergeD [] es)
  | _ => none
theorem eb_dict (hb : Bi X "dict") (h : EvP X B Γ e ma) (hc : Tt (X.calm = true) := by exact ⟨rfl⟩) (he : Tt (St1 X e []) := by exact ⟨rfl⟩) (hp : Tt (Pl1 X pos []) := by exact ⟨rfl⟩) : EvP X B Γ (.Call (.Name "dict" p') [e] [] pos) (op1 vDict ma) := ev_op1 h fun d1 d hd xa => by
  unfold vDict at hd
  split at hd
  · rename_i ds
    cases hs : pairsO ds with
    | none => rw [hs] at hd; cases hd
    | some es => rw [hs] at hd; cases hd; exact xe_dictP hc.h hb he hp xa ⟨pairsO_is hs⟩
  · cases hd
/-- repr -/
def vRepr (d : PyData) : Option PyData := if reprB d = true ∧ d.shown.length ≤ sizeLine then some (.str d.shown) else none
theorem eb_repr (hb : Bi X "repr") (g : Gd X) (rm : Rm X) (h : EvP X B Γ e ma) (he : Tt (St1 X e []) := by exact ⟨rfl⟩) (hp : Tt (Pl1 X pos []) := by exact ⟨rfl⟩) : EvP X B Γ (.Call (.Name "repr" p') [e] [] pos) (op1 vRepr ma) := ev_op1 h fun d1 d hd xa => by
  unfold vRepr at hd
  split at hd <;> cases hd
  rename_i q
  exact xe_repr hb g rm he hp xa ⟨q.1⟩ ⟨q.2⟩
open Classical in
/-- sorted -/
noncomputable def srR (m : R PyData) : R (List PyData) := m.bnd fun d => match d with
  | .list ds => if (∀ b ∈ ds, b.canLay0 = true) ∧ AllAlike ds ∧ Sortable ds ∧ (∀ b ∈ ds, b.depth ≤ 60) then .ok (ds.mergeSort (dataLe false id)) else .no
  | _ => .no
theorem el_sorted (hu : Rm X) (hb : Bi X "sorted") (h : EvP X B Γ e ma) (he : Tt (St1 X e []) := by exact ⟨rfl⟩) (hp : Tt (Pl1 X pos []) := by exact ⟨rfl⟩) : EvL X B Γ (.Call (.Name "sorted" p') [e] [] pos) (srR ma) := by
  cases ma with
  | ok d =>
    cases d with
    | list ds =>
      unfold srR
      dsimp only [R.bnd]
      split
      · rename_i q
        have := xl_sortedE (p' := p') (β := PyData) id (bs := ds) hu hb he hp (by rw [List.map_id]; exact h) q.1 (by rw [List.map_id]; exact q.2.1) (by rw [List.map_id]; exact q.2.2.1) q.2.2.2
        rw [List.map_id] at this
        exact this
      · trivial
    | _ => trivial
  | er y => trivial
  | no => trivial
/-- sorted(.., key=f), whole numbers as keys -/
def keysO (f : PyData → R PyData) : List PyData → Option (List (PyData × Int))
  | [] => some []
  | d :: ds => match f d with
    | .ok (.int n) => (keysO f ds).map ((d, n) :: ·)
    | _ => none
theorem keysO_is {f : PyData → R PyData} : ∀ {ds : List PyData} {ks : List (PyData × Int)}, keysO f ds = some ks → ds = ks.map (·.1) ∧ ∀ b ∈ ks, f b.1 = .ok (.int b.2)
  | [], ks, h => by cases h; exact ⟨rfl, fun b hb => nomatch hb⟩
  | d :: ds, ks, h => by
    unfold keysO at h
    split at h
    · rename_i n e
      cases hr : keysO f ds with
      | none => rw [hr] at h; cases h
      | some zs =>
        rw [hr] at h
        cases h
        obtain ⟨h1, h2⟩ := keysO_is hr
        refine ⟨by rw [List.map_cons, ← h1], fun b hb => ?_⟩
        rcases List.mem_cons.mp hb with rfl | hb
        · exact e
        · exact h2 b hb
    · cases h
def srK (f : PyData → R PyData) (m : R PyData) : R (List PyData) := m.bnd fun d => match d with
  | .list ds => (R.ofO (keysO f ds)).bnd fun ks => .ok ((ks.mergeSort (dataLe false fun b => .int b.2)).map (·.1))
  | _ => .no
theorem fn_noX {P : Program} {w : World} {K : PySem.W.Frag} {mg : Str → Option Value} {base : Heap} {k : Nat} {f : Addr} {fd : FuncData} {ps : List Str} {F : List PyData → R PyData} (h : FnOk P w K mg base (L2.CX P w) k f fd ps (spF K mg F)) : FnOk P w K mg base CX0 k f fd ps (spR K fun ds d => F ds = .ok d) := by
  refine ⟨fun vs H Q E h1 => ?_, fun A outer s H args us vs Q E hr e0 hb r h1 => ?_⟩
  · obtain ⟨ds, d, Hs, a, b, c, hR, q⟩ := h1
    exact h.len vs H Q E ⟨ds, Hs, a, b, c, by rw [hR]; exact q⟩
  · obtain ⟨ds, d, Hs, a, b, c, hR, q⟩ := h1
    refine codeAny_mono (h.run A outer s H args us vs Q (fun _ _ _ => False) hr e0 hb r ⟨ds, Hs, a, b, c, by rw [hR]; exact q⟩) fun r s' hq => ?_
    cases r with
    | ok fl => cases fl <;> exact hq
    | error e =>
      obtain ⟨_, _, _, _, _, _, _, _, _, _, _, _, z⟩ := hq
      exact z.elim
theorem el_sortedK {nm : Str} {f : PyData → R PyData} {pn kpos : Pos} (c : CeK X nm (fun ds d => u1 f ds = .ok d)) (hg : Gl X nm) (hu : Rm X) (hb : Bi X "sorted") (h : EvP X B Γ e ma) (hs : Tt (St1 X e []) := by exact ⟨rfl⟩) (he : Tt (backTo pos (starEach [e] X.env) = (false, eval e X.env) :: backTo pos (starEach [] X.env)) := by exact ⟨rfl⟩) (hpl : Tt ((backTo pos (starEach [e] X.env)).any (·.1) = false) := by exact ⟨rfl⟩)
    (hall : Tt ((backToKw pos (keywordEach [⟨some (Str.ofString "key"), .Name nm pn, kpos⟩] X.env)).all (·.1.isSome) = true) := by exact ⟨rfl⟩) (hno : Tt ((backToKw pos (keywordEach [⟨some (Str.ofString "key"), .Name nm pn, kpos⟩] X.env)).any (·.1.isNone) = false) := by exact ⟨rfl⟩) (hks : Tt ((backToKw pos (keywordEach [⟨some (Str.ofString "key"), .Name nm pn, kpos⟩] X.env)).filterMap (·.1) = [Str.ofString "key"]) := by exact ⟨rfl⟩) :
    EvL X B Γ (.Call (.Name "sorted" p') [e] [⟨some (Str.ofString "key"), .Name nm pn, kpos⟩] pos) (srK f ma) := by
  cases ma with
  | ok d =>
    cases d with
    | list ds =>
      show EvL X B Γ _ ((R.ofO (keysO f ds)).bnd fun ks => .ok ((ks.mergeSort (dataLe false fun b => .int b.2)).map (·.1)))
      cases hk : keysO f ds with
      | none => trivial
      | some ks =>
        obtain ⟨h1, h2⟩ := keysO_is hk
        subst h1
        exact xl_sortedF (β := PyData × Int) (R := fun ds d => u1 f ds = .ok d) (bs := ks) (fun b => b.1) (fun b => b.2) c hg hu hb hs he hpl hall hno hks h fun b hb => h2 b hb
    | _ => trivial
  | er y => trivial
  | no => trivial
theorem cek_ofF {X : Cx} {k j : Nat} {x : Str} {f : PyData → R PyData} (D : DnF X.prog X.w X.K X.mg X.base k x (u1 f)) (hr : Room j X.A) (hk : k + 2 ≤ j) (db : (x == ("__debug__" : Str)) = false) : CeK X x (fun ds d => u1 f ds = .ok d) := by
  obtain ⟨g, fd, ps, h1, h2, h3, h4⟩ := D.ex
  exact cek_of (k := k) ⟨g, fd, ps, h1, fn_noX h2, h3, h4⟩ hr hk db
theorem Like.ceK {X X' : Cx} {x : Str} {R : List PyData → PyData → Prop} (h : Like X X') (k : CeK X x R) : CeK X' x R := ⟨by rw [h.mg, h.prog, h.w, h.K, h.base, h.A]; exact k.ex, k.db⟩
/-- slices that are fresh lists -/
abbrev seL (m : R PyData) : R (List PyData) := m.bnd fun d => match d with | .list ds => .ok ds | _ => .no
theorem el_sl {lo hi : Option Expr} {l h : R (Option Int)} {p2 : Pos} (he : EvP X B Γ e ma) (hl : EvO X B Γ lo l) (hh : EvO X B Γ hi h) : EvL X B Γ (.Subscript e (.Slice lo hi none p2) pos) (seL (slR ma l h)) := by
  cases ma with
  | ok d =>
    cases l with
    | ok l =>
      cases h with
      | ok h =>
        cases d with
        | list ds => exact xl_sl he hl hh
        | str y =>
          show EvL X B Γ _ (seL (R.ofO (if y.length ≤ 1000000 then _ else _)))
          split <;> trivial
        | _ => trivial
      | er y => trivial
      | no => trivial
    | er y => trivial
    | no => trivial
  | er y => trivial
  | no => trivial
end
end Dl
namespace Dl
open PySem L2 PyProof.Rows
variable [Tabs]
/-- what the law's def promises -/
def r_law : List PyData → PyData → Prop := fun ds d => ∃ ns : List Int, ds = [.list (ns.map .int)] ∧ ns.length ≤ 63 ∧ d = .bool true
theorem law_sp {K : PySem.W.Frag} {H : Hp} {a : Addr} {ns : List Int} (hl : ns.length ≤ 63) (tb : TabsIn H) (hS : SqL K H a (ns.map V.int)) : spR K r_law [V.ref a] H (fun v _ => v = V.bl true) fun _ _ _ => False :=
  ⟨[.list (ns.map .int)], .bool true, H, fun _ _ h => h, tb, .cons (.lst hS (DqAll.ints ns)) .nil, ⟨ns, rfl, hl, rfl⟩, fun v H' Hs' _ p => by cases p; rfl⟩
theorem dn_never {P : Program} {w : World} {K : PySem.W.Frag} {mg : Str → Option Value} {base : Heap} {x qual : Str} {st : Stmt} {f : Addr} {fd : FuncData} {N ps : List Str} {k : Nat} {F : List PyData → R PyData} (Fu : Fun K x qual st f fd) (hm : mg x = some (.ref f)) (hb : Binds K fd ps []) (S : FnScope N ps (defScope st)) (h : ∀ ds, F ds = .no) (hk : 1 ≤ k) : DnF P w K mg base k x F :=
  DnF.mono (k := 0 + 1) (dn_ofF Fu hm hb (fn_okF Fu S (fun ds hn => absurd (h ds) hn) fun cdv A outer s H E B ds hr hn => absurd (h ds) hn)) (by omega)
end Dl
set_option Elab.async false
set_option linter.all false
set_option maxRecDepth 100000
/-! The plain functions of all defs. -/
namespace Fn
open PySem Dl
noncomputable section
/-! k12 -/
def b_is_whole (v_thing0 : PyData) : R (Fl Unit PyData Empty) :=
  (R.bind (anV (op1 (vIsi .int) (.ok v_thing0)) (op1 vNot (op1 (vIsi .bool) (.ok v_thing0)))) fun d => .ok (.rt d))
def f_is_whole (v_thing0 : PyData) : R PyData := fin (b_is_whole v_thing0)
def b_all_bits (v_many0 : PyData) : R (Fl Unit PyData Empty) :=
  (R.bind (op2 vSub (op2 vShl (.ok (.int 1)) (.ok v_many0)) (.ok (.int 1))) fun d => .ok (.rt d))
def f_all_bits (v_many0 : PyData) : R PyData := fin (b_all_bits v_many0)
def b_is_bits (v_thing0 : PyData) (v_many0 : PyData) : R (Fl Unit PyData Empty) :=
  (R.bind (anV (c1 f_is_whole (.ok v_thing0)) (blR (cm3 vLe vLe (.ok (.int 0)) (.ok v_thing0) (c1 f_all_bits (.ok v_many0))))) fun d => .ok (.rt d))
def f_is_bits (v_thing0 : PyData) (v_many0 : PyData) : R PyData := fin (b_is_bits v_thing0 v_many0)
def b_parts_in (v_bits0 : PyData) : R (Fl Unit PyData Empty) :=
  (R.bind (liR (lcM (some : PyData → Option (PyData)) (fun k1 => (trR (op2 vBand (op2 vShr (.ok v_bits0) (.ok k1)) (.ok (.int 1))))) (fun k1 => (.ok k1)) (rgR (op1 vBits (.ok v_bits0))))) fun d => .ok (.rt d))
def f_parts_in (v_bits0 : PyData) : R PyData := fin (b_parts_in v_bits0)
def b_many_in (v_bits0 : PyData) : R (Fl Unit PyData Empty) :=
  (R.bind (op1 vLen (c1 f_parts_in (.ok v_bits0))) fun d => .ok (.rt d))
def f_many_in (v_bits0 : PyData) : R PyData := fin (b_many_in v_bits0)
def b_is_least (v_bits0 : PyData) (v_meets0 : PyData) : R (Fl Unit PyData Empty) :=
  (R.bind (anV (op2 vIx (.ok v_meets0) (.ok v_bits0)) (op1 vNot (anyR (some : PyData → Option (PyData)) (fun k1 => (op2 vIx (.ok v_meets0) (op2 vXor (.ok v_bits0) (op2 vShl (.ok (.int 1)) (.ok k1))))) (itR (c1 f_parts_in (.ok v_bits0)))))) fun d => .ok (.rt d))
def f_is_least (v_bits0 : PyData) (v_meets0 : PyData) : R PyData := fin (b_is_least v_bits0 v_meets0)
def b_least_of (v_meets0 : PyData) : R (Fl Unit PyData Empty) :=
  (R.bind (lcM (some : PyData → Option (PyData)) (fun k1 => (trR (c2 f_is_least (.ok k1) (.ok v_meets0)))) (fun k1 => (.ok k1)) (rgR (op1 vLen (.ok v_meets0)))) fun v_found3 => (R.bind (op1 vTup (liR (srK f_many_in (.ok (.list v_found3))))) fun d => .ok (.rt d)))
def f_least_of (v_meets0 : PyData) : R PyData := fin (b_least_of v_meets0)
def b_crosses (v_bits0 : PyData) (v_sets0 : PyData) : R (Fl Unit PyData Empty) :=
  (R.bind (allR (some : PyData → Option (PyData)) (fun k1 => (op2 vBand (.ok v_bits0) (.ok k1))) (itR (.ok v_sets0))) fun d => .ok (.rt d))
def f_crosses (v_bits0 : PyData) (v_sets0 : PyData) : R PyData := fin (b_crosses v_bits0 v_sets0)
abbrev d_MOST_PARTS : PyData := (.int 12)
def b_cross (v_sets0 : PyData) (v_many0 : PyData) : R (Fl Unit PyData Empty) :=
  (bindF (τ := Unit) (iff (tOo (tNt (trR (c1 f_is_whole (.ok v_many0)))) (tNt (cm3 vLe vLe (.ok (.int 1)) (.ok v_many0) (.ok d_MOST_PARTS)))) (.er ⟨Str.ofString "BadSets", []⟩) (.ok (.nx ()))) fun t1 => (bindF (τ := Unit) (iff (tOo (tNt (trR (op1 (vIsi .tuple) (.ok v_sets0)))) (tNt (trR (allR (some : PyData → Option (PyData)) (fun k3 => (c2 f_is_bits (.ok k3) (.ok v_many0))) (itR (.ok v_sets0)))))) (.er ⟨Str.ofString "BadSets", []⟩) (.ok (.nx ()))) fun t2 => (R.bind (c1 f_least_of (liR (lcM (some : PyData → Option (PyData)) yes (fun k5 => (c2 f_crosses (.ok k5) (.ok v_sets0))) (rgR (op2 vShl (.ok (.int 1)) (.ok v_many0)))))) fun d => .ok (.rt d))))
def f_cross (v_sets0 : PyData) (v_many0 : PyData) : R PyData := fin (b_cross v_sets0 v_many0)
def b_law_cell_k11 (v_script0 : PyData) (v_k0 : PyData) : R (Fl Unit PyData Empty) :=
  (R.bind (.ok (.int 17)) fun v_cell_here1 => (bindF (τ := PyData) (iff (cm2 vGt (op1 vLen (.ok v_script0)) (.ok (.int 0))) (R.bind (op2 vMod (op2 vIx (.ok v_script0) (op2 vMod (.ok v_k0) (op1 vLen (.ok v_script0)))) (.ok (.int 2147483647))) fun v_cell_here3 => (.ok (.nx v_cell_here3))) (.ok (.nx v_cell_here1))) fun t2 => (R.bind (op2 vFdiv (op2 vMod (op2 vMul (op2 vMod (op2 vMul (op2 vAdd (op2 vAdd (.ok t2) (op2 vMul (op2 vMul (.ok (.int 7919)) (.ok v_k0)) (.ok v_k0))) (op2 vMul (.ok (.int 31)) (.ok v_k0))) (.ok (.int 48271))) (.ok (.int 2147483647))) (.ok (.int 69621))) (.ok (.int 2147483629))) (.ok (.int 64))) fun d => .ok (.rt d))))
def f_law_cell_k11 (v_script0 : PyData) (v_k0 : PyData) : R PyData := fin (b_law_cell_k11 v_script0 v_k0)
def b_law_next  (v_draw0 : List PyData) : R (Fl Unit (List PyData × PyData) Empty) :=
  (R.bind (putR v_draw0 (op2 vAdd (op2 vIx (.ok (.list v_draw0)) (.ok (.int 1))) (.ok (.int 1))) (.ok (.int 1))) fun v_draw1 => (R.bnd ((pS fun (s : List PyData) => (c2 f_law_cell_k11 (op2 vIx (.ok (.list s)) (.ok (.int 0))) (op2 vIx (.ok (.list s)) (.ok (.int 1))))) v_draw1) fun p2 => .ok (.rt (p2.1, p2.2))))
def f_law_next  (v_draw0 : List PyData) : RM := finM (b_law_next v_draw0)
def b_law_least_k11 (v_some0 : PyData) : R (Fl Unit PyData Empty) :=
  (R.bind (op1 vDict (liR (lcM (some : PyData → Option (PyData)) yes (fun k2 => (tuR (rcons (.ok k2) (rcons (.ok (.bool true)) rnil)))) (itR (.ok v_some0))))) fun v_known1 => (R.bind rnil fun v_found4 => (bindF (τ := List PyData) (R.bnd (itR (.ok v_some0)) fun ds => forF (some : PyData → Option (PyData)) (fun (s5 : List PyData) (k6 : PyData) => (R.bind (lcM (some : PyData → Option (PyData)) (fun k7 => (cm2 vEq (op2 vBand (op2 vShr (.ok k6) (.ok k7)) (.ok (.int 1))) (.ok (.int 1)))) (fun k7 => (.ok k7)) (rgR (.ok (.int 12)))) fun v_own9 => (bindF (τ := List PyData) (iff (cm2 vEq (liR (lcM (some : PyData → Option (PyData)) (fun k11 => (cm2 vInD (op2 vSub (.ok k6) (op2 vShl (.ok (.int 1)) (.ok k11))) (.ok v_known1))) (fun k11 => (.ok k11)) (itR (.ok (.list v_own9))))) (liR rnil)) (R.bind (appR s5 (tuR (rcons (op1 vLen (.ok (.list v_own9))) (rcons (.ok k6) rnil)))) fun v_found13 => (.ok (.nx v_found13))) (.ok (.nx s5))) fun t10 => (.ok (.nx t10))))) ds v_found4) fun s5 => (R.bind (op1 vTup (liR (lcM ((tg2 some some) : PyData → Option (PyData × PyData)) yes (fun k14 => (.ok k14.2)) (itR (liR (srR (.ok (.list s5)))))))) fun d => .ok (.rt d)))))
def f_law_least_k11 (v_some0 : PyData) : R PyData := fin (b_law_least_k11 v_some0)
def b_law_sets (v_many0 : PyData) (v_draw0 : List PyData) : R (Fl Unit (List PyData × PyData) Empty) :=
  (R.bind rnil fun v_found1 => (bindF (τ := List PyData × List PyData) (R.bnd ((rgM (o2S vMod (gS (w0 f_law_next) (fun (s : List PyData) => s) (fun (s : List PyData) ds => ds) nS) (pS fun (s : List PyData) => (.ok (.int 10))))) v_draw0) fun p10 => forF (some : PyData → Option (PyData)) (fun (s2 : List PyData × List PyData) (k3 : PyData) => (R.bnd ((gS (w0 f_law_next) (fun (s : List PyData) => s) (fun (s : List PyData) ds => ds) nS) s2.1) fun p4 => (R.bind (op2 vMod (op2 vFdiv (.ok p4.2) (.ok (.int 8))) (op2 vShl (.ok (.int 1)) (.ok v_many0))) fun v_bits5 => (bindF (τ := PyData) (iff (cm2 vLt (op2 vMod (.ok p4.2) (.ok (.int 8))) (.ok (.int 5))) (R.bind (op2 vBor (op2 vBand (.ok v_bits5) (op2 vMod (op2 vFdiv (.ok p4.2) (.ok (.int 1024))) (op2 vShl (.ok (.int 1)) (.ok v_many0)))) (op2 vShl (.ok (.int 1)) (op2 vMod (op2 vFdiv (.ok p4.2) (.ok (.int 64))) (.ok v_many0)))) fun v_bits7 => (.ok (.nx v_bits7))) (.ok (.nx v_bits5))) fun t6 => (R.bind (appR s2.2 (.ok t6)) fun v_found8 => (.ok (.nx (p4.1, v_found8)))))))) p10.2 ((fun (s : List PyData) => (s, v_found1)) p10.1)) fun s2 => (R.bnd ((pS fun (s : List PyData) => (op1 vTup (.ok (.list s2.2)))) s2.1) fun p9 => .ok (.rt (p9.1, p9.2)))))
def f_law_sets (v_many0 : PyData) (v_draw0 : List PyData) : RM := finM (b_law_sets v_many0 v_draw0)
/-! k11 -/
def b_all_brought (v_tree0 : PyData) (v_bits0 : PyData) : R (Fl Unit PyData Empty) :=
  (R.bind (.ok (.int 0)) fun v_found1 => (bindF (τ := PyData) (R.bnd (itR (c1 f_parts_in (.ok v_bits0))) fun ds => forF (some : PyData → Option (PyData)) (fun (s2 : PyData) (k3 : PyData) => (R.bind (op2 vBor (.ok s2) (op2 vIx (op2 vIx (.ok v_tree0) (.ok (.int 2))) (.ok k3))) fun v_found4 => (.ok (.nx v_found4)))) ds v_found1) fun s2 => (R.bind (.ok s2) fun d => .ok (.rt d))))
def f_all_brought (v_tree0 : PyData) (v_bits0 : PyData) : R PyData := fin (b_all_brought v_tree0 v_bits0)
def b_row_fails (v_row0 : PyData) (v_failing0 : PyData) (v_fails0 : PyData) : R (Fl Unit PyData Empty) :=
  (bindF (τ := Unit) (iff (cm2 vEq (op2 vIx (.ok v_row0) (.ok (.int 0))) (.ok (.str (Str.ofString "part")))) (R.bind (blR (cm2 vEq (op2 vBand (op2 vShr (.ok v_failing0) (op2 vIx (.ok v_row0) (.ok (.int 1)))) (.ok (.int 1))) (.ok (.int 1)))) fun d => .ok (.rt d)) (.ok (.nx ()))) fun t1 => (R.bind (blR (cm2 vGe (op2 vCount (liR (lcM (some : PyData → Option (PyData)) yes (fun k2 => (op2 vIx (.ok v_fails0) (.ok k2))) (itR (op2 vIx (.ok v_row0) (.ok (.int 2)))))) (.ok (.bool true))) (op2 vIx (.ok v_row0) (.ok (.int 1))))) fun d => .ok (.rt d)))
def f_row_fails (v_row0 : PyData) (v_failing0 : PyData) (v_fails0 : PyData) : R PyData := fin (b_row_fails v_row0 v_failing0 v_fails0)
def b_falls (v_tree0 : PyData) (v_bits0 : PyData) : R (Fl Unit PyData Empty) :=
  (R.bind (c2 f_all_brought (.ok v_tree0) (.ok v_bits0)) fun v_failing1 => (R.bind rnil fun v_fails2 => (bindF (τ := List PyData) (R.bnd (itR (op2 vIx (.ok v_tree0) (.ok (.int 1)))) fun ds => forF (some : PyData → Option (PyData)) (fun (s3 : List PyData) (k4 : PyData) => (R.bind (appR s3 (lnR (c3 f_row_fails (.ok k4) (.ok v_failing1) (.ok (.list s3))))) fun v_fails5 => (.ok (.nx v_fails5)))) ds v_fails2) fun s3 => (R.bind (op2 vIx (.ok (.list s3)) (op1 vNeg (.ok (.int 1)))) fun d => .ok (.rt d)))))
def f_falls (v_tree0 : PyData) (v_bits0 : PyData) : R PyData := fin (b_falls v_tree0 v_bits0)
def b_cuts (v_tree0 : PyData) : R (Fl Unit PyData Empty) :=
  (R.bind (c1 f_least_of (liR (lcM (some : PyData → Option (PyData)) yes (fun k1 => (c2 f_falls (.ok v_tree0) (.ok k1))) (rgR (op2 vShl (.ok (.int 1)) (op2 vIx (.ok v_tree0) (.ok (.int 0)))))))) fun d => .ok (.rt d))
def f_cuts (v_tree0 : PyData) : R PyData := fin (b_cuts v_tree0)
def b_keeps (v_tree0 : PyData) : R (Fl Unit PyData Empty) :=
  (R.bind (c1 f_all_bits (op2 vIx (.ok v_tree0) (.ok (.int 0)))) fun v_every1 => (R.bind (c1 f_least_of (liR (lcM (some : PyData → Option (PyData)) yes (fun k2 => (op1 vNot (c2 f_falls (.ok v_tree0) (op2 vSub (.ok v_every1) (.ok k2))))) (rgR (op2 vShl (.ok (.int 1)) (op2 vIx (.ok v_tree0) (.ok (.int 0)))))))) fun d => .ok (.rt d)))
def f_keeps (v_tree0 : PyData) : R PyData := fin (b_keeps v_tree0)
def b_law_brought_k11 (v_many0 : PyData) (v_draw0 : List PyData) : R (Fl Unit (List PyData × PyData) Empty) :=
  (R.bind (lcM (some : PyData → Option (PyData)) yes (fun k1 => (op2 vShl (.ok (.int 1)) (.ok k1))) (rgR (.ok v_many0))) fun v_found3 => (bindF (τ := List PyData × List PyData) (R.bnd ((rgM (o2S vMod (gS (w0 f_law_next) (fun (s : List PyData) => s) (fun (s : List PyData) ds => ds) nS) (pS fun (s : List PyData) => (.ok (.int 4))))) v_draw0) fun p17 => forF (some : PyData → Option (PyData)) (fun (s4 : List PyData × List PyData) (k5 : PyData) => (R.bnd ((gS (w0 f_law_next) (fun (s : List PyData) => s) (fun (s : List PyData) ds => ds) nS) s4.1) fun p6 => (R.bind (putR s4.2 (op2 vBor (op2 vIx (.ok (.list s4.2)) (op2 vMod (.ok p6.2) (.ok v_many0))) (op2 vShl (.ok (.int 1)) (op2 vMod (op2 vFdiv (.ok p6.2) (.ok (.int 16))) (.ok v_many0)))) (op2 vMod (.ok p6.2) (.ok v_many0))) fun v_found7 => (.ok (.nx (p6.1, v_found7)))))) p17.2 ((fun (s : List PyData) => (s, v_found3)) p17.1)) fun s4 => (bindF (τ := List PyData) (R.bnd (rgR (.ok v_many0)) fun ds => forF (some : PyData → Option (PyData)) (fun (s8 : List PyData) (k9 : PyData) => (bindF (τ := List PyData) (R.bnd (rgR (.ok v_many0)) fun ds => forF (some : PyData → Option (PyData)) (fun (s10 : List PyData) (k11 : PyData) => (bindF (τ := List PyData) (R.bnd (rgR (.ok v_many0)) fun ds => forF (some : PyData → Option (PyData)) (fun (s12 : List PyData) (k13 : PyData) => (bindF (τ := List PyData) (iff (cm2 vEq (op2 vBand (op2 vShr (op2 vIx (.ok (.list s12)) (.ok k11)) (.ok k13)) (.ok (.int 1))) (.ok (.int 1))) (R.bind (putR s12 (op2 vBor (op2 vIx (.ok (.list s12)) (.ok k11)) (op2 vIx (.ok (.list s12)) (.ok k13))) (.ok k11)) fun v_found15 => (.ok (.nx v_found15))) (.ok (.nx s12))) fun t14 => (.ok (.nx t14)))) ds s10) fun s12 => (.ok (.nx s12)))) ds s8) fun s10 => (.ok (.nx s10)))) ds s4.2) fun s8 => (R.bnd ((pS fun (s : List PyData) => (op1 vTup (.ok (.list s8)))) s4.1) fun p16 => .ok (.rt (p16.1, p16.2))))))
def f_law_brought_k11 (v_many0 : PyData) (v_draw0 : List PyData) : RM := finM (b_law_brought_k11 v_many0 v_draw0)
def b_law_tree_k11 (v_most0 : PyData) (v_draw0 : List PyData) : R (Fl Unit (List PyData × PyData) Empty) :=
  (R.bnd ((o2S vAdd (pS fun (s : List PyData) => (.ok (.int 1))) (o2S vMod (gS (w0 f_law_next) (fun (s : List PyData) => s) (fun (s : List PyData) ds => ds) nS) (pS fun (s : List PyData) => (.ok v_most0)))) v_draw0) fun p1 => (R.bind (lcM (some : PyData → Option (PyData)) yes (fun k2 => (tuR (rcons (.ok (.str (Str.ofString "part"))) (rcons (.ok k2) rnil)))) (rgR (.ok p1.2))) fun v_rows4 => (bindF (τ := List PyData × List PyData) (R.bnd ((rgM (o2S vMod (gS (w0 f_law_next) (fun (s : List PyData) => s) (fun (s : List PyData) ds => ds) nS) (pS fun (s : List PyData) => (.ok (.int 8))))) p1.1) fun p18 => forF (some : PyData → Option (PyData)) (fun (s5 : List PyData × List PyData) (k6 : PyData) => (R.bnd ((gS (w0 f_law_next) (fun (s : List PyData) => s) (fun (s : List PyData) ds => ds) nS) s5.1) fun p7 => (R.bind (rgS (.ok (.int s5.2.length))) fun v_left8 => (R.bind rnil fun v_children9 => (bindF (τ := List PyData × List PyData × List PyData) (R.bnd (rgR (op2 vAdd (.ok (.int 1)) (op2 vMod (.ok p7.2) (op2 vMin2 (.ok (.int 4)) (.ok (.int v_left8.length)))))) fun ds => forF (some : PyData → Option (PyData)) (fun (s10 : List PyData × List PyData × List PyData) (k11 : PyData) => (R.bnd ((gS (w0 f_law_next) (fun (s : List PyData) => s) (fun (s : List PyData) ds => ds) nS) s10.1) fun p12 => (R.bind (iff (cm2 vEq (op2 vMod (.ok p12.2) (.ok (.int 2))) (.ok (.int 1))) (op2 vSub (op2 vSub (.ok (.int s10.2.1.length)) (.ok (.int 1))) (op2 vMod (op2 vFdiv (.ok p12.2) (.ok (.int 2))) (op2 vMin2 (.ok (.int 4)) (.ok (.int s10.2.1.length))))) (op2 vMod (op2 vFdiv (.ok p12.2) (.ok (.int 2))) (.ok (.int s10.2.1.length)))) fun v_at13 => (R.bnd (apS s10.2.2 (popS (fun (s : List PyData) => s) (fun (s : List PyData) ds => ds) (pS fun (s : List PyData) => (.ok v_at13))) s10.2.1) fun p15 => (.ok (.nx (p12.1, p15.1, p15.2))))))) ds (p7.1, v_left8, v_children9)) fun s10 => (R.bind (appR s5.2 (tuR (rcons (.ok (.str (Str.ofString "least"))) (rcons (op2 vAdd (.ok (.int 1)) (op2 vMod (op2 vFdiv (.ok p7.2) (.ok (.int 8))) (.ok (.int s10.2.2.length)))) (rcons (lnR (op1 vTup (.ok (.list s10.2.2)))) rnil))))) fun v_rows16 => (.ok (.nx (s10.1, v_rows16))))))))) p18.2 ((fun (s : List PyData) => (s, v_rows4)) p18.1)) fun s5 => (R.bnd ((tS (cS (pS fun (s : List PyData) => (.ok p1.2)) (cS (pS fun (s : List PyData) => (op1 vTup (.ok (.list s5.2)))) (cS (gS (w1 f_law_brought_k11) (fun (s : List PyData) => s) (fun (s : List PyData) ds => ds) (cS (pS fun (s : List PyData) => (.ok p1.2)) nS)) nS)))) s5.1) fun p17 => .ok (.rt (p17.1, p17.2))))))
def f_law_tree_k11 (v_most0 : PyData) (v_draw0 : List PyData) : RM := finM (b_law_tree_k11 v_most0 v_draw0)
def b_law_wide_tree (v_most0 : PyData) (v_draw0 : List PyData) : R (Fl Unit (List PyData × PyData) Empty) :=
  (R.bnd ((o2S vAdd (pS fun (s : List PyData) => (.ok (.int 9))) (o2S vMod (gS (w0 f_law_next) (fun (s : List PyData) => s) (fun (s : List PyData) ds => ds) nS) (pS fun (s : List PyData) => (op2 vSub (.ok v_most0) (.ok (.int 8)))))) v_draw0) fun p1 => (R.bind (lcM (some : PyData → Option (PyData)) yes (fun k2 => (tuR (rcons (.ok (.str (Str.ofString "part"))) (rcons (.ok k2) rnil)))) (rgR (.ok p1.2))) fun v_rows4 => (bindF (τ := List PyData × List PyData) (R.bnd ((rgM (o2S vAdd (pS fun (s : List PyData) => (.ok (.int 1))) (o2S vMod (gS (w0 f_law_next) (fun (s : List PyData) => s) (fun (s : List PyData) ds => ds) nS) (pS fun (s : List PyData) => (.ok (.int 3)))))) p1.1) fun p14 => forF (some : PyData → Option (PyData)) (fun (s5 : List PyData × List PyData) (k6 : PyData) => (R.bnd ((gS (w0 f_law_next) (fun (s : List PyData) => s) (fun (s : List PyData) ds => ds) nS) s5.1) fun p7 => (R.bind (rgS (.ok (.int s5.2.length))) fun v_left8 => (R.bnd (lcE (some : PyData → Option (PyData)) (fun k9 => (popS (fun (s : List PyData × List PyData) => s.2) (fun (s : List PyData × List PyData) ds => (s.1, ds)) (o2S vMod (gS (w0 f_law_next) (fun (s : List PyData × List PyData) => s.1) (fun (s : List PyData × List PyData) ds => (ds, s.2)) nS) (pS fun (s : List PyData × List PyData) => (.ok (.int s.2.length)))))) ((fun (s : List PyData × List PyData) => R.bnd (rgR (op2 vAdd (.ok (.int 3)) (op2 vMod (.ok p7.2) (.ok (.int 6))))) fun ds => .ok (s, ds)) (p7.1, v_left8))) fun p11 => (R.bind (appR s5.2 (tuR (rcons (.ok (.str (Str.ofString "least"))) (rcons (op2 vAdd (.ok (.int 1)) (op2 vMod (op2 vFdiv (.ok p7.2) (.ok (.int 8))) (op1 vLen (.ok (.list p11.2))))) (rcons (op1 vTup (.ok (.list p11.2))) rnil))))) fun v_rows12 => (.ok (.nx (p11.1.1, v_rows12)))))))) p14.2 ((fun (s : List PyData) => (s, v_rows4)) p14.1)) fun s5 => (R.bnd ((tS (cS (pS fun (s : List PyData) => (.ok p1.2)) (cS (pS fun (s : List PyData) => (op1 vTup (.ok (.list s5.2)))) (cS (gS (w1 f_law_brought_k11) (fun (s : List PyData) => s) (fun (s : List PyData) ds => ds) (cS (pS fun (s : List PyData) => (.ok p1.2)) nS)) nS)))) s5.1) fun p13 => .ok (.rt (p13.1, p13.2))))))
def f_law_wide_tree (v_most0 : PyData) (v_draw0 : List PyData) : RM := finM (b_law_wide_tree v_most0 v_draw0)
def b_law_falls (v_tree_here0 : PyData) (v_bits0 : PyData) : R (Fl Unit PyData Empty) :=
  (R.bind rnil fun v_failed1 => (bindF (τ := List PyData) (R.bnd (itR (op2 vIx (.ok v_tree_here0) (.ok (.int 1)))) fun ds => forF (some : PyData → Option (PyData)) (fun (s2 : List PyData) (k3 : PyData) => (bindF (τ := List PyData) (iff (cm2 vEq (op2 vIx (.ok k3) (.ok (.int 0))) (.ok (.str (Str.ofString "part")))) (R.bind (lcM (some : PyData → Option (PyData)) (fun k5 => (tAn (cm2 vEq (op2 vMod (op2 vFdiv (.ok v_bits0) (op2 vShl (.ok (.int 1)) (.ok k5))) (.ok (.int 2))) (.ok (.int 1))) (cm2 vEq (op2 vMod (op2 vFdiv (op2 vIx (op2 vIx (.ok v_tree_here0) (.ok (.int 2))) (.ok k5)) (op2 vShl (.ok (.int 1)) (op2 vIx (.ok k3) (.ok (.int 1))))) (.ok (.int 2))) (.ok (.int 1))))) (fun k5 => (.ok k5)) (rgR (op2 vIx (.ok v_tree_here0) (.ok (.int 0))))) fun v_by7 => (R.bind (appR s2 (blR (cm2 vNe (.ok (.list v_by7)) (liR rnil)))) fun v_failed8 => (.ok (.nx v_failed8)))) (R.bind (appR s2 (blR (cm2 vGe (op2 vCount (liR (lcM (some : PyData → Option (PyData)) yes (fun k10 => (op2 vIx (.ok (.list s2)) (.ok k10))) (itR (op2 vIx (.ok k3) (.ok (.int 2)))))) (.ok (.bool true))) (op2 vIx (.ok k3) (.ok (.int 1)))))) fun v_failed9 => (.ok (.nx v_failed9)))) fun t4 => (.ok (.nx t4)))) ds v_failed1) fun s2 => (R.bind (op2 vIx (.ok (.list s2)) (op1 vNeg (.ok (.int 1)))) fun d => .ok (.rt d))))
def f_law_falls (v_tree_here0 : PyData) (v_bits0 : PyData) : R PyData := fin (b_law_falls v_tree_here0 v_bits0)
def b_law_k11 (v_script0 : PyData) : R (Fl Unit PyData Empty) :=
  (R.bind (rcons (.ok v_script0) (rcons (.ok (.int 0)) rnil)) fun v_draw1 => (bindF (τ := List PyData) (R.bnd (rgR (op2 vAdd (.ok (.int 1)) (op2 vFdiv (op1 vLen (slR (.ok v_script0) noI (inR (.ok (.int 63))))) (.ok (.int 16))))) fun ds => forF (some : PyData → Option (PyData)) (fun (s2 : List PyData) (k3 : PyData) => (R.bind (anV (blR (cm2 vEq (.ok k3) (.ok (.int 0)))) (blR (cm2 vEq (op2 vMod (c2 f_law_cell_k11 (.ok v_script0) (.ok (.int 70))) (.ok (.int 8))) (.ok (.int 1))))) fun v_is_wide4 => (R.bnd ((iS (fun (s : List PyData) => (trR (.ok v_is_wide4))) (gS (w1 f_law_wide_tree) (fun (s : List PyData) => s) (fun (s : List PyData) ds => ds) (cS (pS fun (s : List PyData) => (.ok (.int 12))) nS)) (gS (w1 f_law_tree_k11) (fun (s : List PyData) => s) (fun (s : List PyData) ds => ds) (cS (pS fun (s : List PyData) => (.ok (.int 6))) nS))) s2) fun p5 => (R.bind (op1 vRepr (.ok p5.2)) fun v_kept6 => (R.bind (op2 vIx (.ok p5.2) (.ok (.int 0))) fun v_many7 => (R.bind (lcM (some : PyData → Option (PyData)) (fun k8 => (trR (c2 f_law_falls (.ok p5.2) (.ok k8)))) (fun k8 => (.ok k8)) (rgR (op2 vShl (.ok (.int 1)) (.ok v_many7)))) fun v_fails10 => (R.bind (op1 vDict (liR (lcM (some : PyData → Option (PyData)) yes (fun k12 => (tuR (rcons (.ok k12) (rcons (.ok (.bool true)) rnil)))) (itR (.ok (.list v_fails10)))))) fun v_known11 => (R.bind (lcM (some : PyData → Option (PyData)) (fun k14 => (cm2 vNinD (op2 vSub (op2 vSub (op2 vShl (.ok (.int 1)) (.ok v_many7)) (.ok (.int 1))) (.ok k14)) (.ok v_known11))) (fun k14 => (.ok k14)) (rgR (op2 vShl (.ok (.int 1)) (.ok v_many7)))) fun v_holds16 => (R.bnd (c1 f_law_least_k11 (.ok (.list v_fails10))) fun v_one17 => R.bnd (c1 f_law_least_k11 (.ok (.list v_holds16))) fun v_other18 => (bindF (τ := Unit) (R.bnd (rgR (.ok (.int 2))) fun ds => forF (some : PyData → Option (PyData)) (fun (s19 : Unit) (k20 : PyData) => (bindF (τ := Unit) (iff (tOo (cm2 vNe (op1 vRepr (c1 f_cuts (.ok p5.2))) (op1 vRepr (.ok v_one17))) (cm2 vNe (op1 vRepr (c1 f_keeps (.ok p5.2))) (op1 vRepr (.ok v_other18)))) (R.bind (.ok (.bool false)) fun d => .ok (.rt d)) (.ok (.nx ()))) fun t21 => (.ok (.nx ())))) ds ()) fun s19 => (bindF (τ := Unit) (iff (tOo (cm2 vNe (op1 vRepr (c2 f_cross (.ok v_one17) (.ok v_many7))) (op1 vRepr (.ok v_other18))) (tOo (cm2 vNe (op1 vRepr (c2 f_cross (.ok v_other18) (.ok v_many7))) (op1 vRepr (.ok v_one17))) (cm2 vNe (op1 vRepr (.ok p5.2)) (.ok v_kept6)))) (R.bind (.ok (.bool false)) fun d => .ok (.rt d)) (.ok (.nx ()))) fun t22 => (.ok (.nx p5.1))))))))))))) ds v_draw1) fun s2 => (R.bind (.ok (.bool true)) fun d => .ok (.rt d))))
def f_law_k11 (v_script0 : PyData) : R PyData := fin (b_law_k11 v_script0)
end
end Fn
set_option Elab.async false
set_option linter.all false
set_option maxRecDepth 100000
set_option maxHeartbeats 2000000
set_option exponentiation.threshold 20000
/-! How plain functions are reckoned with. -/
namespace Dl
open PySem L2 Sm
section
variable {α β γ τ τ' ρ σ κ l : Type}
@[simp] theorem bind_ok (a : α) (f : α → R β) : R.bind (.ok a) f = f a := (rfl)
@[simp] theorem bind_er (x : Exn) (f : α → R β) : R.bind (.er x) f = .er x := (rfl)
@[simp] theorem bnd_ok' (a : α) (f : α → R β) : R.bnd (.ok a) f = f a := (rfl)
@[simp] theorem ofO_some (a : α) : R.ofO (some a) = .ok a := (rfl)
@[simp] theorem op1_ok (f : PyData → Option PyData) (a : PyData) : op1 f (.ok a) = R.ofO (f a) := (rfl)
@[simp] theorem op2_ok (f : PyData → PyData → Option PyData) (a b : PyData) : op2 f (.ok a) (.ok b) = R.ofO (f a b) := (rfl)
@[simp] theorem liR_ok (ds : List PyData) : liR (.ok ds) = .ok (.list ds) := (rfl)
@[simp] theorem tuR_ok (ds : List PyData) : tuR (.ok ds) = .ok (.tuple ds) := (rfl)
@[simp] theorem rcons_ok (d : PyData) (ds : List PyData) : rcons (.ok d) (.ok ds) = .ok (d :: ds) := (rfl)
@[simp] theorem rnil_is : rnil = .ok [] := (rfl)
@[simp] theorem c1_ok (f : PyData → R PyData) (a : PyData) : c1 f (.ok a) = f a := (rfl)
@[simp] theorem c2_ok (f : PyData → PyData → R PyData) (a b : PyData) : c2 f (.ok a) (.ok b) = f a b := (rfl)
@[simp] theorem c3_ok (f : PyData → PyData → PyData → R PyData) (a b c : PyData) : c3 f (.ok a) (.ok b) (.ok c) = f a b c := (rfl)
@[simp] theorem c4_ok (f : PyData → PyData → PyData → PyData → R PyData) (a b c d : PyData) : c4 f (.ok a) (.ok b) (.ok c) (.ok d) = f a b c d := (rfl)
@[simp] theorem c5_ok (f : PyData → PyData → PyData → PyData → PyData → R PyData) (a b c d e : PyData) : c5 f (.ok a) (.ok b) (.ok c) (.ok d) (.ok e) = f a b c d e := (rfl)
@[simp] theorem tNt_ok (p : Bool) : tNt (.ok p) = .ok (!p) := (rfl)
@[simp] theorem tAn_t (b : R Bool) : tAn (.ok true) b = b := (rfl)
@[simp] theorem tAn_f (b : R Bool) : tAn (.ok false) b = .ok false := (rfl)
@[simp] theorem tAn_ok (p q : Bool) : tAn (.ok p) (.ok q) = .ok (p && q) := by cases p <;> rfl
@[simp] theorem tOo_t (b : R Bool) : tOo (.ok true) b = .ok true := (rfl)
@[simp] theorem tOo_f (b : R Bool) : tOo (.ok false) b = b := (rfl)
@[simp] theorem tOo_ok (p q : Bool) : tOo (.ok p) (.ok q) = .ok (p || q) := by cases p <;> rfl
@[simp] theorem iff_t (a b : R α) : iff (.ok true) a b = a := (rfl)
@[simp] theorem iff_f (a b : R α) : iff (.ok false) a b = b := (rfl)
theorem iff_ok (p : Bool) (a b : R α) : iff (.ok p) a b = if p then a else b := (rfl)
@[simp] theorem cm2_ok (f : PyData → PyData → Option Bool) (a b : PyData) : cm2 f (.ok a) (.ok b) = R.ofO (f a b) := (rfl)
@[simp] theorem cm3_ok (f g : PyData → PyData → Option Bool) (a b c : PyData) : cm3 f g (.ok a) (.ok b) (.ok c) = (R.ofO (f a b)).bnd fun p => (R.ofO (g b c)).bnd fun q => .ok (p && q) := (rfl)
@[simp] theorem blR_ok (p : Bool) : blR (.ok p) = .ok (.bool p) := (rfl)
@[simp] theorem anV_ok (p q : Bool) : anV (.ok (.bool p)) (.ok (.bool q)) = .ok (.bool (p && q)) := by cases p <;> rfl
@[simp] theorem anV_f (b : R PyData) : anV (.ok (.bool false)) b = .ok (.bool false) := (rfl)
@[simp] theorem orV_ok (p q : Bool) : orV (.ok (.bool p)) (.ok (.bool q)) = .ok (.bool (p || q)) := by cases p <;> rfl
@[simp] theorem orV_t (b : R PyData) : orV (.ok (.bool true)) b = .ok (.bool true) := (rfl)
@[simp] theorem trR_ok (d : PyData) : trR (.ok d) = R.ofO (vTru d) := (rfl)
@[simp] theorem itR_ok (d : PyData) : itR (.ok d) = R.ofO (itD d) := (rfl)
@[simp] theorem lsR_ok (d : PyData) : lsR (.ok d) = R.ofO (seqD d) := (rfl)
@[simp] theorem itD_list (ds : List PyData) : itD (.list ds) = some ds := (rfl)
@[simp] theorem itD_tuple (ds : List PyData) : itD (.tuple ds) = some ds := (rfl)
@[simp] theorem seqD_list (ds : List PyData) : seqD (.list ds) = some ds := (rfl)
@[simp] theorem seqD_tuple (ds : List PyData) : seqD (.tuple ds) = some ds := (rfl)
@[simp] theorem vTup_list (ds : List PyData) : vTup (.list ds) = some (.tuple ds) := (rfl)
@[simp] theorem vTup_tuple (ds : List PyData) : vTup (.tuple ds) = some (.tuple ds) := (rfl)
@[simp] theorem enR_list (ds : List PyData) : enR (.ok (.list ds)) = .ok (enumD 0 ds) := (rfl)
@[simp] theorem inR_int (n : Int) : inR (.ok (.int n)) = .ok (some n) := (rfl)
@[simp] theorem noI_is : noI = .ok none := (rfl)
@[simp] theorem slR_ok (a : PyData) (l h : Option Int) : slR (.ok a) (.ok l) (.ok h) = R.ofO (vSl a l h) := (rfl)
@[simp] theorem lnR_ok (d : PyData) : lnR (.ok d) = if noLi d = true then .ok d else .no := (rfl)
@[simp] theorem bindF_nx (s : τ) (f : τ → R (Fl τ' ρ l)) : bindF (.ok (.nx s)) f = f s := (rfl)
@[simp] theorem bindF_rt (d : ρ) (f : τ → R (Fl τ' ρ l)) : bindF (.ok (.rt d)) f = .ok (.rt d) := (rfl)
@[simp] theorem bindF_bk (d : l) (f : τ → R (Fl τ' ρ l)) : bindF (.ok (.bk d)) f = .ok (.bk d) := (rfl)
@[simp] theorem bindF_ct (d : l) (f : τ → R (Fl τ' ρ l)) : bindF (.ok (.ct d)) f = .ok (.ct d) := (rfl)
@[simp] theorem bindF_er (x : Exn) (f : τ → R (Fl τ' ρ l)) : bindF (.er x) f = .er x := (rfl)
@[simp] theorem fin_rt (d : PyData) : fin (.ok (.rt d)) = .ok d := (rfl)
@[simp] theorem fin_nx (u : Unit) : fin (.ok (.nx u)) = .ok .none := (rfl)
@[simp] theorem fin_er (x : Exn) : fin (.er x) = .er x := (rfl)
@[simp] theorem finM_rt (r : List PyData × PyData) : finM (.ok (.rt r)) = .ok r := (rfl)
@[simp] theorem nS_is (s : σ) : nS s = .ok (s, []) := (rfl)
/-! numbers -/
@[simp] theorem vAdd_int (m n : Int) : vAdd (.int m) (.int n) = some (.int (m + n)) := (rfl)
@[simp] theorem vSub_int (m n : Int) : vSub (.int m) (.int n) = some (.int (m - n)) := (rfl)
@[simp] theorem vInc_int (m n : Int) : vInc (.int m) (.int n) = some (.int (m + n)) := (rfl)
@[simp] theorem vNeg_int (m : Int) : vNeg (.int m) = some (.int (-m)) := (rfl)
@[simp] theorem vLt_int (m n : Int) : vLt (.int m) (.int n) = some (decide (m < n)) := (rfl)
@[simp] theorem vLe_int (m n : Int) : vLe (.int m) (.int n) = some (decide (m ≤ n)) := (rfl)
@[simp] theorem vGt_int (m n : Int) : vGt (.int m) (.int n) = some (decide (n < m)) := (rfl)
@[simp] theorem vGe_int (m n : Int) : vGe (.int m) (.int n) = some (decide (n ≤ m)) := (rfl)
@[simp] theorem vEq_int (m n : Int) : vEq (.int m) (.int n) = some (decide (m = n)) := (rfl)
@[simp] theorem vNe_int (m n : Int) : vNe (.int m) (.int n) = some (!decide (m = n)) := (rfl)
@[simp] theorem vEq_str (m n : Str) : vEq (.str m) (.str n) = some (decide (m = n)) := (rfl)
@[simp] theorem vNe_str (m n : Str) : vNe (.str m) (.str n) = some (!decide (m = n)) := (rfl)
@[simp] theorem vEq_bool (m n : Bool) : vEq (.bool m) (.bool n) = some (decide (m = n)) := (rfl)
@[simp] theorem vNe_bool (m n : Bool) : vNe (.bool m) (.bool n) = some (!decide (m = n)) := (rfl)
@[simp] theorem vBand_int (m n : Int) : vBand (.int m) (.int n) = some (.int (Builtin.bitAnd m n)) := (rfl)
@[simp] theorem vBor_int (m n : Int) : vBor (.int m) (.int n) = some (.int (Builtin.bitOr m n)) := (rfl)
@[simp] theorem vXor_int (m n : Int) : vXor (.int m) (.int n) = some (.int (Builtin.bitXor m n)) := (rfl)
@[simp] theorem vInv_int (m : Int) : vInv (.int m) = some (.int (Builtin.bitNot m)) := (rfl)
@[simp] theorem vBits_int (m : Int) : vBits (.int m) = some (.int (Builtin.Int.intBits m : Nat)) := (rfl)
@[simp] theorem vNot_bool (p : Bool) : vNot (.bool p) = some (.bool (!p)) := (rfl)
@[simp] theorem vLen_list (ds : List PyData) : vLen (.list ds) = some (.int ds.length) := (rfl)
@[simp] theorem vLen_tuple (ds : List PyData) : vLen (.tuple ds) = some (.int ds.length) := (rfl)
@[simp] theorem vTru_bool (p : Bool) : vTru (.bool p) = some p := (rfl)
@[simp] theorem vTru_int (m : Int) : vTru (.int m) = some (m != 0) := (rfl)
@[simp] theorem vTru_list (ds : List PyData) : vTru (.list ds) = some (!ds.isEmpty) := (rfl)
@[simp] theorem vTru_tuple (ds : List PyData) : vTru (.tuple ds) = some (!ds.isEmpty) := (rfl)
@[simp] theorem vTru_none : vTru .none = some false := (rfl)
@[simp] theorem vMin2_int (m n : Int) : vMin2 (.int m) (.int n) = some (.int (if n < m then n else m)) := (rfl)
@[simp] theorem vMax2_int (m n : Int) : vMax2 (.int m) (.int n) = some (.int (if n > m then n else m)) := (rfl)
@[simp] theorem vAbs_int (m : Int) : vAbs (.int m) = some (.int (if m < 0 then -m else m)) := (rfl)
@[simp] theorem vGcd_int (m n : Int) : vGcd (.int m) (.int n) = some (.int ((Nat.gcd m.natAbs n.natAbs : Nat) : Int)) := (rfl)
@[simp] theorem vInt_bool (p : Bool) : vInt (.bool p) = some (.int (if p then 1 else 0)) := (rfl)
theorem vMul_ok {m n : Int} (h : CMulW m n) : vMul (.int m) (.int n) = some (.int (m * n)) := if_pos h
theorem vMod_ok {m n : Int} (h : 0 < n) : vMod (.int m) (.int n) = some (.int (m % n)) := if_pos h
theorem vFdiv_ok {m n : Int} (h : 0 < n ∧ n < 1073741824) : vFdiv (.int m) (.int n) = some (.int (m / n)) := if_pos h
theorem vShr_ok {m n : Int} (h : 0 ≤ n) : vShr (.int m) (.int n) = some (.int (m / 2 ^ n.toNat)) := if_pos h
theorem vShl_ok {n : Int} (h : 0 ≤ n ∧ n ≤ 1000000) : vShl (.int 1) (.int n) = some (.int (2 ^ n.toNat)) := if_pos ⟨rfl, h.1, h.2⟩
theorem mulw64 {m n : Int} (h : -18446744073709551616 < m ∧ m < 18446744073709551616 ∧ -18446744073709551616 < n ∧ n < 18446744073709551616) : CMulW m n := (side_mul64 h).h
theorem vMul64 {m n : Int} (h : -18446744073709551616 < m ∧ m < 18446744073709551616 ∧ -18446744073709551616 < n ∧ n < 18446744073709551616) : vMul (.int m) (.int n) = some (.int (m * n)) := vMul_ok (mulw64 h)
/-! things by their places -/
theorem vIx_list (ds : List PyData) (n : Int) : vIx (.list ds) (.int n) = atI ds n := rfl
theorem vIx_tuple (ds : List PyData) (n : Int) : vIx (.tuple ds) (.int n) = atI ds n := rfl
theorem at_nat {ds : List PyData} {i : Nat} (h : i < ds.length) : atI ds (i : Int) = ds[i]? := by
  rw [atI_pos (by omega) (by omega)]
  rw [Int.toNat_natCast]
theorem vIxL {ds : List PyData} {i : Nat} {d : PyData} (h : ds[i]? = some d) : vIx (.list ds) (.int (i : Nat)) = some d := by
  rw [vIx_list, at_nat (List.getElem?_eq_some_iff.mp h).1, h]
theorem vIxT {ds : List PyData} {i : Nat} {d : PyData} (h : ds[i]? = some d) : vIx (.tuple ds) (.int (i : Nat)) = some d := by
  rw [vIx_tuple, at_nat (List.getElem?_eq_some_iff.mp h).1, h]
@[simp] theorem vIxL0 (a : PyData) (r : List PyData) : vIx (.list (a :: r)) (.int 0) = some a := at_0.h
@[simp] theorem vIxL1 (a b : PyData) (r : List PyData) : vIx (.list (a :: b :: r)) (.int 1) = some b := at_1.h
@[simp] theorem vIxL2 (a b c : PyData) (r : List PyData) : vIx (.list (a :: b :: c :: r)) (.int 2) = some c := at_2.h
@[simp] theorem vIxT0 (a : PyData) (r : List PyData) : vIx (.tuple (a :: r)) (.int 0) = some a := at_0.h
@[simp] theorem vIxT1 (a b : PyData) (r : List PyData) : vIx (.tuple (a :: b :: r)) (.int 1) = some b := at_1.h
@[simp] theorem vIxT2 (a b c : PyData) (r : List PyData) : vIx (.tuple (a :: b :: c :: r)) (.int 2) = some c := at_2.h
theorem at_last {ds : List PyData} {d : PyData} : atI (ds ++ [d]) (-1) = some d := by
  have e : ixN (ds ++ [d]).length (-1) = some ds.length := by
    have : (ds ++ [d]).length = ds.length + 1 := by simp
    rw [this]
    unfold ixN
    rw [if_neg (by omega), if_pos (by omega)]
    congr 1
    omega
  unfold atI
  rw [e]
  simp
theorem putR_ok {ds : List PyData} {d : PyData} {i : Nat} (h : i < ds.length) : putR ds (.ok d) (.ok (.int (i : Nat))) = .ok (ds.set i d) := by
  show (match ixN ds.length (i : Int) with | some k => R.ok (ds.set k d) | none => .no) = _
  rw [ixn (by omega) (by omega), Int.toNat_natCast]
theorem appR_ok {ds : List PyData} {d : PyData} (h : ds.length < 1000000) : appR ds (.ok d) = .ok (ds ++ [d]) := if_pos h
theorem p62 : (2 : Int) ^ 62 = 4611686018427387904 := by decide +kernel
theorem rangeD_nat (n : Nat) : rangeD 0 n = (List.range n).map fun i => .int (i : Nat) := by
  unfold rangeD
  congr 1
  funext i
  simp
theorem rg_a {n : Int} : rgR (.ok (.int n)) = if -(2 ^ 62) ≤ n ∧ n < 2 ^ 62 then .ok (rangeD 0 n.toNat) else .no := rfl
theorem rg_b {n : Int} (h : 0 ≤ n ∧ n < 4611686018427387904) : -(2 ^ 62) ≤ n ∧ n < 2 ^ 62 := by
  have := p62
  omega
theorem rgR_int {n : Int} (h : 0 ≤ n ∧ n < 4611686018427387904) : rgR (.ok (.int n)) = .ok ((List.range n.toNat).map fun i => .int (i : Nat)) := by
  rw [rg_a, if_pos (rg_b h), rangeD_nat]
theorem rgR_nat {n : Nat} (h : n ≤ 1000000000) : rgR (.ok (.int (n : Nat))) = .ok ((List.range n).map fun i => .int (i : Nat)) := by
  rw [rgR_int (by omega), Int.toNat_natCast]
theorem rgS_nat {n : Nat} (h : n ≤ 1000000) : rgS (.ok (.int (n : Nat))) = .ok ((List.range n).map fun i => .int (i : Nat)) := by
  have e : rgS (.ok (.int (n : Nat))) = if 0 ≤ (n : Int) ∧ (n : Int) ≤ 1000000 then .ok (rangeD 0 (n : Int).toNat) else .no := rfl
  rw [e, if_pos (by omega), Int.toNat_natCast, rangeD_nat]
theorem rgM_ok {m : SR σ} {s s' : σ} {n : Int} (h : m s = .ok (s', .int n)) (hn : 0 ≤ n ∧ n < 4611686018427387904) : rgM m s = .ok (s', (List.range n.toNat).map fun i => .int (i : Nat)) := by
  unfold rgM
  rw [h]
  show ((rgR (.ok (.int n))).bnd fun ds => R.ok (s', ds)) = _
  rw [rgR_int hn]
  rfl
/-! comprehensions over what is told by an encoding -/
theorem lcR_map {tg : PyData → Option κ} {c : κ → R Bool} {f : κ → R PyData} (enc : α → PyData) (k : α → κ) (p : α → Bool) (g : α → PyData) : ∀ {xs : List α}, (∀ x ∈ xs, tg (enc x) = some (k x)) → (∀ x ∈ xs, c (k x) = .ok (p x)) → (∀ x ∈ xs, p x = true → f (k x) = .ok (g x)) → lcR tg c f (xs.map enc) = .ok ((xs.filter p).map g)
  | [], _, _, _ => rfl
  | x :: xs, ht, hc, hf => by
    have ih := lcR_map enc k p g (xs := xs) (fun y hy => ht y (List.mem_cons_of_mem _ hy)) (fun y hy => hc y (List.mem_cons_of_mem _ hy)) (fun y hy => hf y (List.mem_cons_of_mem _ hy))
    rw [List.map_cons, lcR, ht x List.mem_cons_self]
    simp only [ofO_some, bnd_ok', hc x List.mem_cons_self]
    cases hp : p x with
    | true =>
      rw [hf x List.mem_cons_self hp, ih, List.filter_cons, if_pos hp]
      simp only [if_true, bnd_ok', List.map_cons]
    | false =>
      have : ¬ p x = true := by rw [hp]; simp
      rw [List.filter_cons, if_neg this]
      exact ih
theorem lcM_map {tg : PyData → Option κ} {c : κ → R Bool} {f : κ → R PyData} (enc : α → PyData) (k : α → κ) (p : α → Bool) (g : α → PyData) {xs : List α} (hz : xs.length ≤ 1000000) (ht : ∀ x ∈ xs, tg (enc x) = some (k x)) (hc : ∀ x ∈ xs, c (k x) = .ok (p x)) (hf : ∀ x ∈ xs, p x = true → f (k x) = .ok (g x)) : lcM tg c f (.ok (xs.map enc)) = .ok ((xs.filter p).map g) := by
  show (if (xs.map enc).length ≤ 1000000 then lcR tg c f (xs.map enc) else .no) = _
  rw [if_pos (by rw [List.length_map]; exact hz)]
  exact lcR_map enc k p g ht hc hf
/-- without a test -/
theorem lcM_all {tg : PyData → Option κ} {f : κ → R PyData} (enc : α → PyData) (k : α → κ) (g : α → PyData) {xs : List α} (hz : xs.length ≤ 1000000) (ht : ∀ x ∈ xs, tg (enc x) = some (k x)) (hf : ∀ x ∈ xs, f (k x) = .ok (g x)) : lcM tg yes f (.ok (xs.map enc)) = .ok (xs.map g) := by
  rw [lcM_map enc k (fun _ => true) g hz ht (fun _ _ => rfl) fun x hx _ => hf x hx, List.filter_eq_self.mpr (fun _ _ => rfl)]
theorem eachR_map {tg : PyData → Option κ} {f : κ → R PyData} (enc : α → PyData) (k : α → κ) (p : α → Bool) : ∀ {xs : List α}, (∀ x ∈ xs, tg (enc x) = some (k x)) → (∀ x ∈ xs, ∃ y, f (k x) = .ok y ∧ truS y = some (p x)) → eachR tg f (xs.map enc) = .ok (xs.map p)
  | [], _, _ => rfl
  | x :: xs, ht, hf => by
    have ih := eachR_map enc k p (xs := xs) (fun y hy => ht y (List.mem_cons_of_mem _ hy)) (fun y hy => hf y (List.mem_cons_of_mem _ hy))
    obtain ⟨y, h1, h2⟩ := hf x List.mem_cons_self
    rw [List.map_cons, eachR, ht x List.mem_cons_self]
    simp only [ofO_some, bnd_ok', h1, h2, ih, List.map_cons]
theorem allR_map {tg : PyData → Option κ} {f : κ → R PyData} (enc : α → PyData) (k : α → κ) (p : α → Bool) {xs : List α} (ht : ∀ x ∈ xs, tg (enc x) = some (k x)) (hf : ∀ x ∈ xs, ∃ y, f (k x) = .ok y ∧ truS y = some (p x)) : allR tg f (.ok (xs.map enc)) = .ok (.bool (xs.all p)) := by
  show (eachR tg f (xs.map enc)).bnd _ = _
  rw [eachR_map enc k p ht hf]
  show R.ok (PyData.bool ((xs.map p).all id)) = _
  rw [List.all_map]
  rfl
theorem anyR_map {tg : PyData → Option κ} {f : κ → R PyData} (enc : α → PyData) (k : α → κ) (p : α → Bool) {xs : List α} (ht : ∀ x ∈ xs, tg (enc x) = some (k x)) (hf : ∀ x ∈ xs, ∃ y, f (k x) = .ok y ∧ truS y = some (p x)) : anyR tg f (.ok (xs.map enc)) = .ok (.bool (xs.any p)) := by
  show (eachR tg f (xs.map enc)).bnd _ = _
  rw [eachR_map enc k p ht hf]
  show R.ok (PyData.bool ((xs.map p).any id)) = _
  rw [List.any_map]
  rfl
/-! loops -/
/-- a loop by a step and what stays true -/
theorem forF_fold {tg : PyData → Option κ} {body : σ → κ → R (Fl σ ρ σ)} (enc : α → PyData) (k : α → κ) (g : σ → α → σ) (I : σ → Prop) : ∀ {xs : List α} {s : σ}, I s → (∀ x ∈ xs, tg (enc x) = some (k x)) → (∀ s x, x ∈ xs → I s → (body s (k x) = .ok (.nx (g s x)) ∨ body s (k x) = .ok (.ct (g s x))) ∧ I (g s x)) → forF (l := l) tg body (xs.map enc) s = .ok (.nx (xs.foldl g s)) ∧ I (xs.foldl g s)
  | [], s, h, _, _ => ⟨rfl, h⟩
  | x :: xs, s, h, ht, hb => by
    obtain ⟨h1, h2⟩ := hb s x List.mem_cons_self h
    have ih := forF_fold enc k g I (xs := xs) h2 (fun y hy => ht y (List.mem_cons_of_mem _ hy)) fun s y hy => hb s y (List.mem_cons_of_mem _ hy)
    refine ⟨?_, ih.2⟩
    rw [List.map_cons, forF, ht x List.mem_cons_self]
    simp only [ofO_some, bnd_ok', List.foldl_cons]
    rcases h1 with h1 | h1
    · rw [h1]; exact ih.1
    · rw [h1]; exact ih.1
/-- a loop by what holds ahead of each turn: I i s, i turns behind -/
theorem forF_inv {tg : PyData → Option κ} {body : σ → κ → R (Fl σ ρ σ)} (I : Nat → σ → Prop) : ∀ {ds : List PyData} {n : Nat} {s : σ}, I n s → (∀ i d s, ds[i]? = some d → I (n + i) s → ∃ k s', tg d = some k ∧ (body s k = .ok (.nx s') ∨ body s k = .ok (.ct s')) ∧ I (n + i + 1) s') → ∃ s', forF (l := l) tg body ds s = .ok (.nx s') ∧ I (n + ds.length) s'
  | [], n, s, h, _ => ⟨s, rfl, h⟩
  | d :: ds, n, s, h, hb => by
    obtain ⟨k, s1, h1, h2, h3⟩ := hb 0 d s rfl h
    obtain ⟨s2, h4, h5⟩ := forF_inv I (ds := ds) (n := n + 1) (s := s1) h3 fun i d' s' hd hI => by
      obtain ⟨k, s3, e1, e2, e3⟩ := hb (i + 1) d' s' hd (by rw [show n + (i + 1) = n + 1 + i by omega]; exact hI)
      exact ⟨k, s3, e1, e2, by rw [show n + 1 + i + 1 = n + (i + 1) + 1 by omega]; exact e3⟩
    refine ⟨s2, ?_, by rw [List.length_cons, show n + (ds.length + 1) = n + 1 + ds.length by omega]; exact h5⟩
    rw [forF, h1]
    simp only [ofO_some, bnd_ok']
    rcases h2 with h2 | h2
    · rw [h2]; exact h4
    · rw [h2]; exact h4
/-- over a range -/
theorem forF_range {body : σ → PyData → R (Fl σ ρ σ)} (I : Nat → σ → Prop) {n : Nat} {s : σ} (h : I 0 s) (hb : ∀ i s, i < n → I i s → ∃ s', (body s (.int (i : Nat)) = .ok (.nx s') ∨ body s (.int (i : Nat)) = .ok (.ct s')) ∧ I (i + 1) s') : ∃ s', forF (l := l) some body ((List.range n).map fun i => PyData.int (i : Nat)) s = .ok (.nx s') ∧ I n s' := by
  obtain ⟨s', h1, h2⟩ := forF_inv (l := l) (tg := some) (body := body) I (ds := (List.range n).map fun i => PyData.int (i : Nat)) (n := 0) h fun i d s hd hI => by
    rw [List.getElem?_map] at hd
    have hi : i < n := by
      cases e : (List.range n)[i]? with
      | none => rw [e] at hd; cases hd
      | some j => have := (List.getElem?_eq_some_iff.mp e).1; rw [List.length_range] at this; exact this
    rw [List.getElem?_range hi] at hd
    cases hd
    rw [Nat.zero_add] at hI ⊢
    obtain ⟨s', e1, e2⟩ := hb i s hi hI
    exact ⟨_, s', rfl, e1, e2⟩
  refine ⟨s', h1, ?_⟩
  rw [List.length_map, List.length_range, Nat.zero_add] at h2
  exact h2
/-! while -/
variable [Tabs]
theorem whR_stop {c : σ → R Bool} {b : σ → R (Fl σ ρ σ)} {s : σ} (h : c s = .ok false) : whR (l := l) c b s = .ok (.nx s) := whR_is (n := 1) (by unfold whN; rw [h]; rfl) (fun z => nomatch z)
theorem whR_turn {c : σ → R Bool} {b : σ → R (Fl σ ρ σ)} {s s' : σ} {m : R (Fl σ ρ l)} (h : c s = .ok true) (hb : b s = .ok (.nx s')) (hm : whR c b s' = m) (hn : m ≠ .no) : whR c b s = m := by
  obtain ⟨n, e⟩ := whR_run hm hn
  refine whR_is (n := n + 1) ?_ hn
  unfold whN
  rw [h]
  simp only [bnd_ok', if_true, hb]
  exact e
end
end Dl
set_option Elab.async false
set_option linter.all false
set_option maxRecDepth 100000
set_option maxHeartbeats 2000000
set_option exponentiation.threshold 20000
/-! What the plain functions of sets and trees are. -/
namespace Th
open PySem L2 Dl Sm Fn
/-! ### bits -/
theorem isW_int (n : Int) : f_is_whole (.int n) = .ok (.bool true) := rfl
def wholeB : PyData → Bool
  | .int _ => true
  | _ => false
theorem isW (d : PyData) (h : plainD d = true) : f_is_whole d = .ok (.bool (wholeB d)) := by
  unfold f_is_whole b_is_whole vIsi
  simp only [op1_ok, if_pos h, ofO_some]
  cases d <;> rfl
theorem all_bits {m : Nat} (h : m ≤ 62) : f_all_bits (.int (m : Nat)) = .ok (.int (2 ^ m - 1)) := by
  unfold f_all_bits b_all_bits
  simp only [op2_ok]
  rw [vShl_ok (by omega)]
  simp
theorem natCast_two_pow (m : Nat) : ((2 ^ m : Nat) : Int) = 2 ^ m := by norm_cast
def bitsB (d : PyData) (m : Nat) : Bool := match d with
  | .int i => decide (0 ≤ i) && decide (i ≤ 2 ^ m - 1)
  | _ => false
theorem is_bits (d : PyData) {m : Nat} (hd : plainD d = true) (h : m ≤ 62) : f_is_bits d (.int (m : Nat)) = .ok (.bool (bitsB d m)) := by
  unfold f_is_bits b_is_bits
  simp only [c1_ok, isW d hd, all_bits h]
  cases d with
  | int i => simp [wholeB, bitsB]
  | _ => rfl
theorem bits_ok {b m : Nat} (h : b < 2 ^ m) : bitsB (.int (b : Nat)) m = true := by
  have : (b : Int) < ((2 ^ m : Nat) : Int) := by exact_mod_cast h
  have e : ((2 ^ m : Nat) : Int) = 2 ^ m := by norm_cast
  show (decide (0 ≤ (b : Int)) && decide ((b : Int) ≤ 2 ^ m - 1)) = true
  rw [decide_eq_true (by omega), decide_eq_true (by omega)]
  rfl
theorem natsD_map (L : List Nat) : natsD L = L.map fun n => PyData.int (n : Nat) := rfl
theorem tru_bitN (b k : Nat) : vTru (.int (Builtin.bitAnd ((b : Int) / 2 ^ k) 1)) = some (b.testBit k) := by
  rw [bitAt]
  by_cases h : b.testBit k = true
  · rw [if_pos h, h]; rfl
  · rw [if_neg h]
    rw [Bool.not_eq_true] at h
    rw [h]; rfl
theorem parts_in {b : Nat} (h : b < 2 ^ 62) : f_parts_in (.int (b : Nat)) = .ok (.list (natsD (partsL b))) := by
  have hz : Builtin.Int.intBits (b : Int) ≤ 62 := bits_le h
  unfold f_parts_in b_parts_in
  simp only [op1_ok, vBits_int, ofO_some]
  rw [rgR_nat (by omega), lcM_map (fun i : Nat => PyData.int (i : Nat)) (fun i => PyData.int (i : Nat)) (fun i => b.testBit i) (fun i => PyData.int (i : Nat)) (by rw [List.length_range]; omega) (fun _ _ => rfl) (fun i _ => ?_) (fun _ _ _ => rfl)]
  · rfl
  · simp only [op2_ok]
    rw [vShr_ok (by omega), Int.toNat_natCast]
    simp only [ofO_some, op2_ok, vBand_int, trR_ok, tru_bitN]
theorem many_in {b : Nat} (h : b < 2 ^ 62) : f_many_in (.int (b : Nat)) = .ok (.int (cnt b : Nat)) := by
  unfold f_many_in b_many_in
  simp only [c1_ok, parts_in h, op1_ok, vLen_list, ofO_some, bind_ok, fin_rt]
  unfold natsD cnt
  rw [List.length_map]
def crossB (sets : List Nat) (b : Nat) : Bool := sets.all fun o => decide (b &&& o ≠ 0)
theorem truS_and (b o : Nat) : truS (.int (Builtin.bitAnd (b : Int) (o : Int))) = some (decide (b &&& o ≠ 0)) := by
  rw [andN]
  show some ((((b &&& o : Nat) : Int)) != 0) = _
  congr 1
  by_cases h : b &&& o = 0
  · rw [h]; rfl
  · rw [decide_eq_true h]
    simpa using h
theorem crosses (b : Nat) (sets : List Nat) : f_crosses (.int (b : Nat)) (.tuple (natsD sets)) = .ok (.bool (crossB sets b)) := by
  unfold f_crosses b_crosses
  simp only [itR_ok, itD_tuple, ofO_some]
  rw [natsD_map, allR_map (fun o : Nat => PyData.int (o : Nat)) (fun o => PyData.int (o : Nat)) (fun o => decide (b &&& o ≠ 0)) (fun _ _ => rfl) fun o _ => ⟨.int (Builtin.bitAnd (b : Int) (o : Int)), rfl, truS_and b o⟩]
  rfl
theorem bool_at (n : Nat) (m : Nat → Bool) {k : Nat} (h : k < n) : (boolsD (meetsL n m))[k]? = some (.bool (m k)) := by
  unfold boolsD meetsL
  rw [List.getElem?_map, List.getElem?_map, List.getElem?_range h]
  rfl
theorem bools_len (n : Nat) (m : Nat → Bool) : (boolsD (meetsL n m)).length = n := by unfold boolsD meetsL; rw [List.length_map, List.length_map, List.length_range]
theorem is_least {n b : Nat} {m : Nat → Bool} (hn : n ≤ 12) (hb : b < 2 ^ n) : f_is_least (.int (b : Nat)) (.list (boolsD (meetsL (2 ^ n) m))) = .ok (.bool (leastB m b)) := by
  have hb62 : b < 2 ^ 62 := Nat.lt_of_lt_of_le hb (Nat.pow_le_pow_right (by decide) (by omega))
  unfold f_is_least b_is_least
  simp only [c1_ok, parts_in hb62, op2_ok]
  rw [vIxL (bool_at _ _ hb)]
  simp only [itR_ok, itD_list, ofO_some]
  rw [natsD_map, anyR_map (fun o : Nat => PyData.int (o : Nat)) (fun o => PyData.int (o : Nat)) (fun i => m (b - 2 ^ i)) (fun _ _ => rfl) fun i hi => ?_]
  · simp only [op1_ok, vNot_bool, ofO_some, anV_ok, bind_ok, fin_rt]
    rfl
  · have xo := xorAt (mem_parts.mp hi)
    have hi12 : i < n := parts_lt hb hi
    refine ⟨.bool (m (b - 2 ^ i)), ?_, rfl⟩
    rw [vShl_ok (by omega), Int.toNat_natCast]
    simp only [ofO_some, op2_ok, vXor_int, xo.1]
    rw [vIxL (bool_at _ _ (Nat.lt_of_le_of_lt (Nat.sub_le _ _) hb))]
    rfl
theorem keysO_nats (f : PyData → R PyData) (c : Nat → Nat) : ∀ {L : List Nat}, (∀ b ∈ L, f (.int (b : Nat)) = .ok (.int (c b : Nat))) → keysO f (natsD L) = some (L.map fun b => (PyData.int (b : Nat), (c b : Int)))
  | [], _ => rfl
  | b :: L, h => by
    have ih := keysO_nats f c (L := L) fun x hx => h x (List.mem_cons_of_mem _ hx)
    unfold natsD at ih ⊢
    rw [List.map_cons, keysO, h b List.mem_cons_self]
    simp only
    rw [ih]
    rfl
theorem mergeSort_map' {α β : Type} (f : α → β) (le : β → β → Bool) (L : List α) : (L.map f).mergeSort le = (L.mergeSort fun a b => le (f a) (f b)).map f := (List.map_mergeSort (r := fun a b => le (f a) (f b)) (s := le) (f := f) (l := L) (fun a _ b _ => rfl)).symm
theorem least_of {n : Nat} {m : Nat → Bool} (hn : n ≤ 12) : f_least_of (.list (boolsD (meetsL (2 ^ n) m))) = .ok (.tuple (natsD (leastL (2 ^ n) m))) := by
  have hp : 2 ^ n ≤ 4096 := Nat.le_trans (Nat.pow_le_pow_right (by decide) hn) (by decide)
  unfold f_least_of b_least_of
  simp only [op1_ok, vLen_list, bools_len, ofO_some]
  rw [rgR_nat (by omega), lcM_map (fun i : Nat => PyData.int (i : Nat)) (fun i => PyData.int (i : Nat)) (leastB m) (fun i => PyData.int (i : Nat)) (by rw [List.length_range]; omega) (fun _ _ => rfl) (fun i hi => ?_) (fun _ _ _ => rfl)]
  · simp only [bind_ok]
    unfold srK
    simp only [bnd_ok']
    rw [show ((List.range (2 ^ n)).filter (leastB m)).map (fun i : Nat => PyData.int (i : Nat)) = natsD ((List.range (2 ^ n)).filter (leastB m)) from rfl, keysO_nats f_many_in cnt fun b hb => many_in ?_]
    · simp only [ofO_some, bnd_ok', liR_ok, op1_ok, vTup_list, bind_ok, fin_rt]
      congr 2
      unfold natsD leastL
      rw [mergeSort_map', List.map_map]
      have : (fun a b : Nat => PySem.W.dataLe false (fun b : PyData × Int => PyData.int b.2) (PyData.int (a : Nat), (cnt a : Int)) (PyData.int (b : Nat), (cnt b : Int))) = fun x y => decide ((cnt x : Int) ≤ cnt y) := by
        funext a b
        exact congrFun (congrFun (PySem.W.dataLe_int fun b : PyData × Int => b.2) (PyData.int (a : Nat), (cnt a : Int))) (PyData.int (b : Nat), (cnt b : Int))
      rw [this]
      rfl
    · have := List.mem_range.mp (List.mem_filter.mp hb).1
      exact Nat.lt_of_lt_of_le this (Nat.pow_le_pow_right (by decide) (by omega))
  · simp only [c2_ok, is_least hn (List.mem_range.mp hi), trR_ok, vTru_bool, ofO_some]
theorem cross_ok {sets : List Nat} {m : Nat} (h : 1 ≤ m ∧ m ≤ 12) (hs : ∀ b ∈ sets, b < 2 ^ m) : f_cross (.tuple (natsD sets)) (.int (m : Nat)) = .ok (.tuple (natsD (leastL (2 ^ m) (crossB sets)))) := by
  have hp : 2 ^ m ≤ 4096 := Nat.le_trans (Nat.pow_le_pow_right (by decide) h.2) (by decide)
  unfold f_cross b_cross
  simp only [c1_ok, isW_int, trR_ok, vTru_bool, ofO_some, tNt_ok, Bool.not_true, tOo_f, cm3_ok, vLe_int, bnd_ok']
  rw [decide_eq_true (show (1 : Int) ≤ (m : Int) by omega), decide_eq_true (show (m : Int) ≤ 12 by omega)]
  simp only [Bool.and_self, Bool.not_true, iff_f, bindF_nx]
  have e1 : vIsi .tuple (.tuple (natsD sets)) = some (.bool true) := rfl
  simp only [op1_ok, e1, ofO_some, trR_ok, vTru_bool, tNt_ok, Bool.not_true, tOo_f, itR_ok, itD_tuple]
  rw [natsD_map, allR_map (fun o : Nat => PyData.int (o : Nat)) (fun o => PyData.int (o : Nat)) (fun _ => true) (fun _ _ => rfl) fun o ho => ⟨.bool true, by simp only [c2_ok, is_bits (.int (o : Nat)) rfl (show m ≤ 62 by omega), bits_ok (hs o ho)], rfl⟩]
  have e2 : sets.all (fun _ => true) = true := by simp
  simp only [e2, trR_ok, vTru_bool, ofO_some, tNt_ok, Bool.not_true, iff_f, bindF_nx, op2_ok]
  rw [vShl_ok (by omega), Int.toNat_natCast]
  simp only [ofO_some]
  rw [show (2 : Int) ^ m = ((2 ^ m : Nat) : Int) by norm_cast, rgR_nat (by omega), lcM_all (fun i : Nat => PyData.int (i : Nat)) (fun i => PyData.int (i : Nat)) (fun i => PyData.bool (crossB sets i)) (by rw [List.length_range]; omega) (fun _ _ => rfl) (fun i _ => ?_)]
  · have e3 : (List.range (2 ^ m)).map (fun i => PyData.bool (crossB sets i)) = boolsD (meetsL (2 ^ m) (crossB sets)) := by
      unfold boolsD meetsL
      rw [List.map_map]
      rfl
    rw [e3]
    simp only [liR_ok, c1_ok, least_of h.2, bind_ok, fin_rt]
  · exact crosses i sets
/-! ### trees -/
structure Tr where
  many : Nat
  gates : List (Nat × List Nat)
  brought : List Nat
def gateD (g : Nat × List Nat) : PyData := .tuple [.str (Str.ofString "least"), .int (g.1 : Nat), .tuple (natsD g.2)]
def partD (i : Nat) : PyData := .tuple [.str (Str.ofString "part"), .int (i : Nat)]
def Tr.rows (t : Tr) : List PyData := (List.range t.many).map partD ++ t.gates.map gateD
def Tr.D (t : Tr) : PyData := .tuple [.int (t.many : Nat), .tuple t.rows, .tuple (natsD t.brought)]
/-- numbers of parts and gates are within bounds, children ahead; what is brought are sets of parts -/
structure Tr.Ok (t : Tr) : Prop where
  m1 : 1 ≤ t.many
  m2 : t.many ≤ 12
  gl : t.gates.length ≤ 30
  ch : ∀ j g, t.gates[j]? = some g → ∀ c ∈ g.2, c < t.many + j
  cl : ∀ g ∈ t.gates, g.2.length ≤ 1000
  bl : t.brought.length = t.many
  bb : ∀ b ∈ t.brought, b < 2 ^ t.many
/-- the parts that fail -/
def Tr.all (t : Tr) (b : Nat) : Nat := (partsL b).foldl (fun a i => a ||| t.brought.getD i 0) 0
def gateF (fs : List Bool) (g : Nat × List Nat) : Bool := decide (g.1 ≤ (g.2.map fun c => fs.getD c false).count true)
/-- of each row whether it fails -/
def Tr.fails (t : Tr) (b : Nat) : List Bool := t.gates.foldl (fun fs g => fs ++ [gateF fs g]) ((List.range t.many).map fun i => (t.all b).testBit i)
def Tr.falls (t : Tr) (b : Nat) : Bool := (t.fails b).getLastD false
theorem getD_brought {t : Tr} (h : t.Ok) {i : Nat} (hi : i < t.many) : (natsD t.brought)[i]? = some (.int (t.brought.getD i 0 : Nat)) := by
  have hl := h.bl
  unfold natsD
  rw [List.getElem?_map, List.getD_eq_getElem?_getD, List.getElem?_eq_getElem (show i < t.brought.length by omega)]
  rfl
theorem brought_lt {t : Tr} (h : t.Ok) (i : Nat) : t.brought.getD i 0 < 2 ^ t.many := by
  rw [List.getD_eq_getElem?_getD]
  by_cases hi : i < t.brought.length
  · rw [List.getElem?_eq_getElem hi]
    exact h.bb _ (List.getElem_mem hi)
  · rw [List.getElem?_eq_none (by omega)]
    exact Nat.two_pow_pos _
theorem all_lt {t : Tr} (h : t.Ok) (b : Nat) : t.all b < 2 ^ t.many := by
  unfold Tr.all
  have : ∀ (L : List Nat) (a : Nat), a < 2 ^ t.many → L.foldl (fun a i => a ||| t.brought.getD i 0) a < 2 ^ t.many := fun L => by
    induction L with
    | nil => intro a ha; exact ha
    | cons i L ih => intro a ha; exact ih _ (Nat.or_lt_two_pow ha (brought_lt h i))
  exact this _ 0 (Nat.two_pow_pos _)
theorem treeD_2 (t : Tr) : vIx t.D (.int 2) = some (.tuple (natsD t.brought)) := vIxT2 _ _ _ _
theorem treeD_1 (t : Tr) : vIx t.D (.int 1) = some (.tuple t.rows) := vIxT1 _ _ _
theorem treeD_0 (t : Tr) : vIx t.D (.int 0) = some (.int (t.many : Nat)) := vIxT0 _ _
theorem all_brought {t : Tr} (h : t.Ok) {b : Nat} (hb : b < 2 ^ t.many) : f_all_brought t.D (.int (b : Nat)) = .ok (.int (t.all b : Nat)) := by
  have hb62 : b < 2 ^ 62 := Nat.lt_of_lt_of_le hb (Nat.pow_le_pow_right (by decide) (by have := h.m2; omega))
  unfold f_all_brought b_all_brought
  simp only [c1_ok, parts_in hb62, itR_ok, itD_list, ofO_some, bind_ok, bnd_ok']
  have := (forF_fold (l := Empty) (tg := some) (body := fun (s2 k3 : PyData) => R.bind (op2 vBor (.ok s2) (op2 vIx (op2 vIx (.ok t.D) (.ok (.int 2))) (.ok k3))) fun v_found4 => (.ok (.nx v_found4) : R (Fl PyData PyData PyData))) (fun i : Nat => PyData.int (i : Nat)) (fun i => PyData.int (i : Nat)) (fun (s : PyData) i => match s with | .int a => .int ((a.toNat ||| t.brought.getD i 0 : Nat)) | _ => .none) (fun s => ∃ a : Nat, s = .int (a : Nat)) (xs := partsL b) (s := .int 0) ⟨0, rfl⟩ (fun _ _ => rfl) fun s i hi ⟨a, e⟩ => by
    subst e
    refine ⟨.inl ?_, _, rfl⟩
    simp only [op2_ok, treeD_2, ofO_some]
    rw [vIxT (getD_brought h (parts_lt hb hi))]
    simp only [ofO_some, op2_ok, vBor_int, orN, bind_ok, Int.toNat_natCast]).1
  rw [natsD_map, this]
  simp only [bindF_nx, bind_ok, fin_rt]
  congr 1
  have fo : ∀ (L : List Nat) (a : Nat), L.foldl (fun (s : PyData) i => match s with | .int a => .int ((a.toNat ||| t.brought.getD i 0 : Nat)) | _ => .none) (.int (a : Nat)) = .int ((L.foldl (fun a i => a ||| t.brought.getD i 0) a : Nat)) := fun L => by
    induction L with
    | nil => intro a; rfl
    | cons i L ih => intro a; exact ih _
  exact fo _ 0
end Th
set_option Elab.async false
set_option linter.all false
set_option maxRecDepth 100000
set_option maxHeartbeats 2000000
set_option exponentiation.threshold 20000
/-! Trees: whether they fall, and least sets. -/
namespace Th
open PySem L2 Dl Sm Fn
abbrev Row := Nat ⊕ (Nat × List Nat)
def rowD : Row → PyData
  | .inl i => partD i
  | .inr g => gateD g
def Tr.rws (t : Tr) : List Row := (List.range t.many).map .inl ++ t.gates.map .inr
theorem Tr.rows_is (t : Tr) : t.rows = t.rws.map rowD := by
  unfold Tr.rows Tr.rws
  rw [List.map_append, List.map_map, List.map_map]
  rfl
theorem Tr.rws_len (t : Tr) : t.rws.length = t.many + t.gates.length := by
  unfold Tr.rws
  rw [List.length_append, List.length_map, List.length_map, List.length_range]
def rowB (a : Nat) (fs : List Bool) : Row → Bool
  | .inl i => a.testBit i
  | .inr g => gateF fs g
def foldB (a : Nat) (rs : List Row) : List Bool := rs.foldl (fun fs r => fs ++ [rowB a fs r]) []
theorem foldB_snoc (a : Nat) (rs : List Row) (r : Row) : foldB a (rs ++ [r]) = foldB a rs ++ [rowB a (foldB a rs) r] := by
  unfold foldB
  rw [List.foldl_append]
  rfl
theorem foldB_take (a : Nat) {rs : List Row} {i : Nat} {r : Row} (h : rs[i]? = some r) : foldB a (rs.take (i + 1)) = foldB a (rs.take i) ++ [rowB a (foldB a (rs.take i)) r] := by
  rw [List.take_succ, h]
  exact foldB_snoc a _ r
theorem foldl_len (a : Nat) : ∀ (rs : List Row) (fs : List Bool), (rs.foldl (fun fs r => fs ++ [rowB a fs r]) fs).length = fs.length + rs.length
  | [], fs => rfl
  | r :: rs, fs => by
    rw [List.foldl_cons, foldl_len a rs, List.length_append]
    simp only [List.length_cons, List.length_nil]
    omega
theorem foldB_len (a : Nat) (rs : List Row) : (foldB a rs).length = rs.length := by
  unfold foldB
  rw [foldl_len]
  simp
def fallsB (t : Tr) (b : Nat) : Bool := (foldB (t.all b) t.rws).getLastD false
/-- what a row asks of the place where it stands -/
def rowOk (many : Nat) (i : Nat) : Row → Prop
  | .inl k => k < many
  | .inr g => (∀ c ∈ g.2, c < i) ∧ g.2.length ≤ 1000
theorem row_at {t : Tr} (h : t.Ok) {i : Nat} {r : Row} (hr : t.rws[i]? = some r) : rowOk t.many i r := by
  unfold Tr.rws at hr
  by_cases hi : i < t.many
  · rw [List.getElem?_append_left (by rw [List.length_map, List.length_range]; exact hi), List.getElem?_map, List.getElem?_range hi] at hr
    cases hr
    exact hi
  · rw [List.getElem?_append_right (by rw [List.length_map, List.length_range]; omega), List.length_map, List.length_range, List.getElem?_map] at hr
    cases e : t.gates[i - t.many]? with
    | none => rw [e] at hr; cases hr
    | some g =>
      rw [e] at hr
      cases hr
      exact ⟨fun c hc => by have := h.ch _ _ e c hc; omega, h.cl _ (List.mem_of_getElem? e)⟩
theorem bols_bools : ∀ fs : List Bool, bolsO (boolsD fs) = some fs
  | [] => rfl
  | f :: fs => by
    show (bolsO (boolsD fs)).map (f :: ·) = _
    rw [bols_bools fs]
    rfl
theorem bools_get {fs : List Bool} {c : Nat} (h : c < fs.length) : (boolsD fs)[c]? = some (.bool (fs.getD c false)) := by
  unfold boolsD
  rw [List.getElem?_map, List.getD_eq_getElem?_getD, List.getElem?_eq_getElem h]
  rfl
theorem part_ne : decide (Str.ofString "least" = Str.ofString "part") = false := by decide +kernel
theorem bolsD_map (fs : List Bool) : (fs.map PyData.bool) = boolsD fs := rfl
/-- how many of the children fail -/
theorem kids {fs : List Bool} {g : Nat × List Nat} (h : ∀ c ∈ g.2, c < fs.length) (hl : g.2.length ≤ 1000) : op2 vCount (liR (lcM (some : PyData → Option (PyData)) yes (fun k2 => (op2 vIx (.ok (.list (boolsD fs))) (.ok k2))) (.ok (natsD g.2)))) (.ok (.bool true)) = .ok (.int ((g.2.map fun c => fs.getD c false).count true : Nat)) := by
  rw [natsD_map, lcM_all (fun n : Nat => PyData.int (n : Nat)) (fun n => PyData.int (n : Nat)) (fun c => .bool (fs.getD c false)) (by omega) (fun _ _ => rfl) fun c hc => ?_]
  · simp only [liR_ok, op2_ok]
    have : (g.2.map fun c => PyData.bool (fs.getD c false)) = boolsD (g.2.map fun c => fs.getD c false) := by unfold boolsD; rw [List.map_map]; rfl
    rw [this]
    show R.ofO ((bolsO _).map _) = _
    rw [bols_bools]
    rfl
  · simp only [op2_ok]
    rw [vIxL (bools_get (h c hc))]
    rfl
theorem row_fails {a i many : Nat} {fs : List Bool} {r : Row} (hr : rowOk many i r) (hf : fs.length = i) (hm : many ≤ 12) : f_row_fails (rowD r) (.int (a : Nat)) (.list (boolsD fs)) = .ok (.bool (rowB a fs r)) := by
  unfold f_row_fails b_row_fails
  cases r with
  | inl k =>
    unfold rowD partD
    simp only [op2_ok, vIxT0, vIxT1, ofO_some, cm2_ok, vEq_str, decide_true, iff_t]
    have hk : k < many := hr
    rw [vShr_ok (by omega), Int.toNat_natCast]
    simp only [ofO_some, op2_ok, vBand_int, cm2_ok, vEq_int, bitAt, blR_ok, bind_ok, bindF_rt, fin_rt]
    show R.ok (PyData.bool _) = R.ok (PyData.bool (a.testBit k))
    cases Nat.testBit a k <;> simp
  | inr g =>
    unfold rowD gateD
    simp only [op2_ok, vIxT0, vIxT1, vIxT2, ofO_some, cm2_ok, vEq_str, part_ne, iff_f, bindF_nx, itR_ok, itD_tuple]
    have hr : (∀ c ∈ g.2, c < i) ∧ g.2.length ≤ 1000 := hr
    have k := kids (fs := fs) (g := g) (fun c hc => by have := hr.1 c hc; omega) hr.2
    simp only [op2_ok] at k
    rw [k]
    simp only [ofO_some, cm2_ok, vGe_int, blR_ok, bind_ok, fin_rt]
    congr 2
    unfold rowB gateF
    simp only [Int.ofNat_le]
/-- a loop over the rows that tells of each whether it fails -/
theorem rows_loop {t : Tr} (h : t.Ok) (a : Nat) {body : List PyData → PyData → R (Fl (List PyData) PyData (List PyData))} (hb : ∀ i r fs, t.rws[i]? = some r → rowOk t.many i r → fs.length = i → i < 1000000 → body (boolsD fs) (rowD r) = .ok (.nx (boolsD (fs ++ [rowB a fs r])))) : forF (l := Empty) some body t.rows [] = .ok (.nx (boolsD (foldB a t.rws))) := by
  obtain ⟨s', h1, h2⟩ := forF_inv (l := Empty) (tg := some) (body := body) (fun i s => s = boolsD (foldB a (t.rws.take i))) (ds := t.rows) (n := 0) (s := []) rfl fun i d s hd hI => by
    rw [Nat.zero_add] at hI ⊢
    subst hI
    rw [t.rows_is, List.getElem?_map] at hd
    cases e : t.rws[i]? with
    | none => rw [e] at hd; cases hd
    | some r =>
      rw [e] at hd
      cases hd
      have hi := (List.getElem?_eq_some_iff.mp e).1
      have hl := t.rws_len
      have := h.m2
      have := h.gl
      refine ⟨_, _, rfl, .inl (hb i r _ e (row_at h e) ?_ (by omega)), ?_⟩
      · rw [foldB_len, List.length_take]; omega
      · rw [foldB_take a e]
  rw [h1, h2]
  congr 2
  rw [Nat.zero_add, t.rows_is, List.length_map, List.take_length]
theorem last_at {t : Tr} (h : t.Ok) (a : Nat) : vIx (.list (boolsD (foldB a t.rws))) (.int (-1)) = some (.bool ((foldB a t.rws).getLastD false)) := by
  have hl : (foldB a t.rws) ≠ [] := fun z => by
    have := foldB_len a t.rws
    rw [z, t.rws_len] at this
    have := h.m1
    simp at *
    omega
  obtain ⟨fs, x, e⟩ : ∃ fs x, foldB a t.rws = fs ++ [x] := ⟨_, _, (List.dropLast_concat_getLast hl).symm⟩
  rw [e, vIx_list]
  have : boolsD (fs ++ [x]) = boolsD fs ++ [.bool x] := by unfold boolsD; rw [List.map_append]; rfl
  rw [this, at_last]
  simp
theorem bools_snoc (fs : List Bool) (x : Bool) : boolsD (fs ++ [x]) = boolsD fs ++ [.bool x] := by unfold boolsD; rw [List.map_append]; rfl
theorem bools_length (fs : List Bool) : (boolsD fs).length = fs.length := by unfold boolsD; rw [List.length_map]
theorem falls {t : Tr} (h : t.Ok) {b : Nat} (hb : b < 2 ^ t.many) : f_falls t.D (.int (b : Nat)) = .ok (.bool (fallsB t b)) := by
  unfold f_falls b_falls
  simp only [c2_ok, all_brought h hb, bind_ok, rnil_is, op2_ok, treeD_1, ofO_some, itR_ok, itD_tuple, bnd_ok']
  rw [rows_loop h (t.all b) fun i r fs hr ho hl hi => ?_]
  · simp only [bindF_nx, op1_ok, vNeg_int, ofO_some, op2_ok]
    rw [last_at h]
    rfl
  · simp only [c3_ok, row_fails ho hl h.m2, lnR_ok]
    rw [if_pos (show noLi (.bool (rowB (t.all b) fs r)) = true from rfl), appR_ok (by rw [bools_length]; omega), bools_snoc]
    rfl
theorem pow_many {t : Tr} (h : t.Ok) : 2 ^ t.many ≤ 4096 := Nat.le_trans (Nat.pow_le_pow_right (by decide) h.m2) (by decide)
/-- a list of 2 ^ many truths -/
theorem mapB {m : Nat} (hm : m ≤ 12) {f : PyData → R PyData} {p : Nat → Bool} (hf : ∀ b, b < 2 ^ m → f (.int (b : Nat)) = .ok (.bool (p b))) : lcM (some : PyData → Option PyData) yes f (rgR (op2 vShl (.ok (.int 1)) (.ok (.int (m : Nat))))) = .ok (boolsD (meetsL (2 ^ m) p)) := by
  have hp : 2 ^ m ≤ 4096 := Nat.le_trans (Nat.pow_le_pow_right (by decide) hm) (by decide)
  simp only [op2_ok]
  rw [vShl_ok (by omega), Int.toNat_natCast]
  simp only [ofO_some]
  rw [← natCast_two_pow, rgR_nat (by omega), lcM_all (fun n : Nat => PyData.int (n : Nat)) (fun n => PyData.int (n : Nat)) (fun b => .bool (p b)) (by rw [List.length_range]; omega) (fun _ _ => rfl) fun b hb => hf b (List.mem_range.mp hb)]
  congr 1
  unfold boolsD meetsL
  rw [List.map_map]
  rfl
theorem cuts {t : Tr} (h : t.Ok) : f_cuts t.D = .ok (.tuple (natsD (leastL (2 ^ t.many) (fallsB t)))) := by
  unfold f_cuts b_cuts
  simp only [op2_ok, treeD_0, ofO_some]
  have := mapB h.m2 (f := fun k1 => c2 f_falls (.ok t.D) (.ok k1)) (p := fallsB t) fun b hb => by simp only [c2_ok, falls h hb]
  simp only [op2_ok] at this
  rw [this]
  simp only [liR_ok, c1_ok, least_of h.m2, bind_ok, fin_rt]
def holdsB (t : Tr) (b : Nat) : Bool := !fallsB t (2 ^ t.many - 1 - b)
theorem sub_all {m b : Nat} (hb : b < 2 ^ m) : ((2 : Int) ^ m - 1) - (b : Int) = ((2 ^ m - 1 - b : Nat) : Int) := by
  rw [← natCast_two_pow]
  omega
theorem keeps {t : Tr} (h : t.Ok) : f_keeps t.D = .ok (.tuple (natsD (leastL (2 ^ t.many) (holdsB t)))) := by
  unfold f_keeps b_keeps
  have hm := h.m2
  simp only [op2_ok, treeD_0, ofO_some, c1_ok, all_bits (show t.many ≤ 62 by omega), bind_ok]
  have := mapB h.m2 (f := fun k2 => op1 vNot (c2 f_falls (.ok t.D) (op2 vSub (.ok (.int (2 ^ t.many - 1))) (.ok k2)))) (p := holdsB t) fun b hb => by
    simp only [op2_ok, vSub_int, ofO_some, sub_all hb, c2_ok]
    rw [falls h (by have := Nat.two_pow_pos t.many; omega)]
    simp only [op1_ok, vNot_bool, ofO_some]
    rfl
  simp only [op2_ok] at this
  rw [this]
  simp only [liR_ok, c1_ok, least_of h.m2, bind_ok, fin_rt]
end Th
set_option Elab.async false
set_option linter.all false
set_option maxRecDepth 100000
set_option maxHeartbeats 2000000
set_option exponentiation.threshold 20000
/-! What is shown of things; draws. -/
namespace Th
open PySem L2 Dl Sm Fn
/-! ### repr -/
structure Shw (n B : Nat) (d : PyData) : Prop where
  lay : d.canLay0 = true
  shw : d.showable = true
  dep : d.depth ≤ n
  len : d.shown.length ≤ B
theorem Shw.mono {n m B C : Nat} {d : PyData} (h : Shw n B d) (a : n ≤ m) (b : B ≤ C) : Shw m C d := ⟨h.lay, h.shw, Nat.le_trans h.dep a, Nat.le_trans h.len b⟩
theorem shw_nat {n : Nat} (h : n < 2 ^ 62) : Shw 0 100 (.int (n : Nat)) where
  lay := by simp [PyData.canLay0]
  shw := by
    simp only [PyData.showable, decide_eq_true_eq]
    have hlt : n < 2 ^ 1920 := Nat.lt_of_lt_of_le h (Nat.pow_le_pow_right (by decide) (by decide))
    exact PySem.Flt.log2_lt_of (by decide) (by simpa using hlt)
  dep := by simp [PyData.depth]
  len := by
    have := num_len h
    simpa only [PyData.shown] using this
theorem shw_bool (b : Bool) : Shw 0 5 (.bool b) where
  lay := by simp [PyData.canLay0]
  shw := by simp [PyData.showable]
  dep := by simp [PyData.depth]
  len := by cases b <;> decide +kernel
theorem shw_none : Shw 0 4 .none where
  lay := by simp [PyData.canLay0]
  shw := by simp [PyData.showable]
  dep := by simp [PyData.depth]
  len := by decide +kernel
theorem lay_all {n B : Nat} : ∀ {ds : List PyData}, (∀ d ∈ ds, Shw n B d) → PyData.canLayAll0 ds = true ∧ PyData.showableAll ds = true ∧ PyData.depthAll ds ≤ n
  | [], _ => ⟨by simp [PyData.canLayAll0], by simp [PyData.showableAll], by simp [PyData.depthAll]⟩
  | d :: ds, h => by
    obtain ⟨a, b, c⟩ := lay_all (ds := ds) fun x hx => h x (List.mem_cons_of_mem _ hx)
    have k := h d List.mem_cons_self
    refine ⟨?_, ?_, ?_⟩
    · simp only [PyData.canLayAll0, k.lay, a, Bool.and_self]
    · simp only [PyData.showableAll, k.shw, b, Bool.and_self]
    · simp only [PyData.depthAll]
      exact Nat.max_le.mpr ⟨k.dep, c⟩
theorem mem_shownAll : ∀ {ds : List PyData} {t : Str}, t ∈ PyData.shownAll ds → ∃ d ∈ ds, d.shown = t
  | [], t, h => by simp [PyData.shownAll] at h
  | d :: ds, t, h => by
    simp only [PyData.shownAll, List.mem_cons] at h
    rcases h with h | h
    · exact ⟨d, List.mem_cons_self, h.symm⟩
    · obtain ⟨x, hx, e⟩ := mem_shownAll h
      exact ⟨x, List.mem_cons_of_mem _ hx, e⟩
theorem joined {n B : Nat} {ds : List PyData} (h : ∀ d ∈ ds, Shw n B d) : (Str.join ", " (PyData.shownAll ds)).length ≤ (B + 2) * ds.length := by
  have := join_le (k := B) (ts := PyData.shownAll ds) fun t ht => by
    obtain ⟨d, hd, rfl⟩ := mem_shownAll ht
    exact (h d hd).len
  rwa [PyData.shownAll_length] at this
theorem shw_tup {n B : Nat} {ds : List PyData} (h : ∀ d ∈ ds, Shw n B d) : Shw (n + 1) ((B + 2) * ds.length + 4) (.tuple ds) where
  lay := by simp only [PyData.canLay0]; exact (lay_all h).1
  shw := by simp only [PyData.showable]; exact (lay_all h).2.1
  dep := by simp only [PyData.depth]; have := (lay_all h).2.2; omega
  len := by
    have j := joined h
    rw [PyData.shown_tuple, Str.length_append, Str.length_append]
    have l1 : (Str.ofString "(").length = 1 := by decide +kernel
    have l2 : ∀ b : Bool, (Str.ofString (if b = true then ",)" else ")")).length ≤ 2 := fun b => by cases b <;> decide +kernel
    have l3 := l2 (ds.length == 1)
    have e : (Str.ofString ", ").join (PyData.shownAll ds) = Str.join ", " (PyData.shownAll ds) := rfl
    rw [e]
    omega
theorem shw_list {n B : Nat} {ds : List PyData} (h : ∀ d ∈ ds, Shw n B d) : Shw (n + 1) ((B + 2) * ds.length + 4) (.list ds) where
  lay := by simp only [PyData.canLay0]; exact (lay_all h).1
  shw := by simp only [PyData.showable]; exact (lay_all h).2.1
  dep := by simp only [PyData.depth]; have := (lay_all h).2.2; omega
  len := by
    have j := joined h
    rw [PyData.shown_list, Str.length_append, Str.length_append]
    have l1 : (Str.ofString "[").length = 1 := by decide +kernel
    have l2 : (Str.ofString "]").length = 1 := by decide +kernel
    have e : (Str.ofString ", ").join (PyData.shownAll ds) = Str.join ", " (PyData.shownAll ds) := rfl
    rw [e]
    omega
theorem size_is : sizeLine = 16777216 := by decide +kernel
theorem repr_tup {n B : Nat} {ds : List PyData} (h : Shw n B (.tuple ds)) (hn : n ≤ 60) (hB : B ≤ 16777216) : vRepr (.tuple ds) = some (.str (PyData.tuple ds).shown) := by
  unfold vRepr
  rw [if_pos]
  refine ⟨?_, by rw [size_is]; exact Nat.le_trans h.len hB⟩
  unfold reprB
  rw [h.lay, h.shw, PyData.hasDict_of_canLay _ h.lay, decide_eq_true (Nat.le_trans h.dep hn)]
  rfl
theorem repr_list {n B : Nat} {ds : List PyData} (h : Shw n B (.list ds)) (hn : n ≤ 60) (hB : B ≤ 16777216) : vRepr (.list ds) = some (.str (PyData.list ds).shown) := by
  unfold vRepr
  rw [if_pos]
  refine ⟨?_, by rw [size_is]; exact Nat.le_trans h.len hB⟩
  unfold reprB
  rw [h.lay, h.shw, PyData.hasDict_of_canLay _ h.lay, decide_eq_true (Nat.le_trans h.dep hn)]
  rfl
theorem shw_nats {L : List Nat} (h : ∀ n ∈ L, n < 2 ^ 62) : Shw 1 (102 * L.length + 4) (.tuple (natsD L)) := by
  have := shw_tup (n := 0) (B := 100) (ds := natsD L) fun d hd => by
    obtain ⟨n, hn, rfl⟩ := List.mem_map.mp hd
    exact shw_nat (h n hn)
  rwa [natsD, List.length_map] at this
theorem reprN {L : List Nat} (h : ∀ n ∈ L, n < 2 ^ 62) (hl : L.length ≤ 10000) : vRepr (.tuple (natsD L)) = some (.str (PyData.tuple (natsD L)).shown) := repr_tup (shw_nats h) (by decide) (by omega)
theorem shw_part {i : Nat} (h : i < 2 ^ 62) : Shw 1 310 (partD i) := by
  have := shw_tup (n := 0) (B := 100) (ds := [.str (Str.ofString "part"), .int (i : Nat)]) fun d hd => by
    rcases List.mem_cons.mp hd with rfl | hd
    · exact ⟨by decide +kernel, by decide +kernel, by decide +kernel, by decide +kernel⟩
    · rcases List.mem_cons.mp hd with rfl | hd
      · exact shw_nat h
      · cases hd
  exact this.mono (by omega) (by simp)
theorem shw_gate {g : Nat × List Nat} {B : Nat} (h : g.1 < 2 ^ 62) (hs : ∀ c ∈ g.2, c < 2 ^ 62) (hl : 102 * g.2.length + 4 ≤ B) (hB : 100 ≤ B) : Shw 2 ((B + 2) * 3 + 4) (gateD g) := shw_tup (n := 1) (B := B) (ds := [.str (Str.ofString "least"), .int (g.1 : Nat), .tuple (natsD g.2)]) fun d hd => by
  rcases List.mem_cons.mp hd with rfl | hd
  · exact ⟨by decide +kernel, by decide +kernel, by decide +kernel, Nat.le_trans (show _ ≤ 100 by decide +kernel) hB⟩
  · rcases List.mem_cons.mp hd with rfl | hd
    · exact (shw_nat h).mono (by decide) hB
    · rcases List.mem_cons.mp hd with rfl | hd
      · exact (shw_nats hs).mono (by decide) hl
      · cases hd
/-! ### draws -/
def cellI (ns : List Int) (k : Int) : Int := ((if ns.length > 0 then ns.getD (k % ns.length).toNat 0 % 2147483647 else 17) + 7919 * k * k + 31 * k) * 48271 % 2147483647 * 69621 % 2147483629 / 64
theorem cell_ok (ns : List Int) (k : Int) : 0 ≤ cellI ns k ∧ cellI ns k < 33554432 := by
  unfold cellI
  omega
abbrev dr (ns : List Int) (k : Int) : List PyData := [.list (ns.map .int), .int k]
theorem script_at {ns : List Int} {k : Int} (hk : 0 ≤ k) (hn : ns.length > 0) : vIx (.list (ns.map .int)) (.int (k % (ns.length : Int))) = some (.int (ns.getD (k % ns.length).toNat 0)) := by
  have h1 : 0 ≤ k % (ns.length : Int) := Int.emod_nonneg _ (by omega)
  have h2 : k % (ns.length : Int) < ns.length := Int.emod_lt_of_pos _ (by omega)
  have e : k % (ns.length : Int) = ((k % (ns.length : Int)).toNat : Nat) := by omega
  rw [e]
  refine vIxL ?_
  rw [List.getElem?_map, Int.toNat_natCast, List.getD_eq_getElem?_getD, List.getElem?_eq_getElem (show (k % (ns.length : Int)).toNat < ns.length by omega)]
  rfl
theorem sq_le {k : Int} (h0 : 0 ≤ k) (h1 : k ≤ 1000000) : 0 ≤ 7919 * k * k ∧ 7919 * k * k ≤ 7919000000000000 := by
  have a : 0 ≤ 7919 * k := by omega
  have b : 7919 * k ≤ 7919000000 := by omega
  exact ⟨Int.mul_nonneg a h0, Int.le_trans (Int.mul_le_mul_of_nonneg_right b h0) (by omega)⟩
theorem law_cell (ns : List Int) {k : Int} (h0 : 0 ≤ k) (h1 : k ≤ 1000000) : f_law_cell_k11 (.list (ns.map .int)) (.int k) = .ok (.int (cellI ns k)) := by
  have sq := sq_le h0 h1
  have key : ∀ x : Int, 0 ≤ x → x < 2147483647 → (R.bind (op2 vFdiv (op2 vMod (op2 vMul (op2 vMod (op2 vMul (op2 vAdd (op2 vAdd (.ok (.int x)) (op2 vMul (op2 vMul (.ok (.int 7919)) (.ok (.int k))) (.ok (.int k)))) (op2 vMul (.ok (.int 31)) (.ok (.int k)))) (.ok (.int 48271))) (.ok (.int 2147483647))) (.ok (.int 69621))) (.ok (.int 2147483629))) (.ok (.int 64))) fun d => (.ok (.rt d) : R (Fl Unit PyData Empty))) = .ok (.rt (.int ((x + 7919 * k * k + 31 * k) * 48271 % 2147483647 * 69621 % 2147483629 / 64))) := fun x hx0 hx1 => by
    simp only [op2_ok]
    rw [vMul64 (by omega)]
    simp only [ofO_some, op2_ok]
    rw [vMul64 (by omega)]
    simp only [ofO_some, op2_ok, vAdd_int]
    rw [vMul64 (by omega)]
    simp only [ofO_some, op2_ok, vAdd_int]
    rw [vMul64 (by omega)]
    simp only [ofO_some, op2_ok]
    rw [vMod_ok (by omega)]
    simp only [ofO_some, op2_ok]
    rw [vMul64 (by omega)]
    simp only [ofO_some, op2_ok]
    rw [vMod_ok (by omega)]
    simp only [ofO_some, op2_ok]
    rw [vFdiv_ok (by omega)]
    rfl
  unfold f_law_cell_k11 b_law_cell_k11
  simp only [bind_ok, op1_ok, vLen_list, List.length_map, ofO_some, cm2_ok, vGt_int]
  by_cases hn : ns.length > 0
  · rw [decide_eq_true (show (0 : Int) < (ns.length : Int) by omega)]
    simp only [iff_t, op2_ok]
    rw [vMod_ok (by omega)]
    simp only [ofO_some, op2_ok]
    rw [script_at h0 hn]
    simp only [ofO_some, op2_ok]
    rw [vMod_ok (by omega)]
    simp only [ofO_some, bind_ok, bindF_nx]
    have := key (ns.getD (k % ns.length).toNat 0 % 2147483647) (by omega) (by omega)
    simp only [op2_ok] at this ⊢
    rw [this]
    unfold cellI
    rw [if_pos hn]
    rfl
  · rw [decide_eq_false (show ¬ (0 : Int) < (ns.length : Int) by omega)]
    simp only [iff_f, bindF_nx]
    have := key 17 (by omega) (by omega)
    simp only [op2_ok] at this ⊢
    rw [this]
    unfold cellI
    rw [if_neg hn]
    rfl
theorem law_next (ns : List Int) {k : Int} (h0 : 0 ≤ k) (h1 : k ≤ 900000) : f_law_next (dr ns k) = .ok (dr ns (k + 1), .int (cellI ns (k + 1))) := by
  unfold f_law_next b_law_next
  simp only [op2_ok, vIxL1, ofO_some, vAdd_int]
  rw [show putR (dr ns k) (.ok (.int (k + 1))) (.ok (.int 1)) = .ok (dr ns (k + 1)) from rfl]
  simp only [bind_ok, pS, op2_ok, vIxL0, vIxL1, ofO_some, c2_ok, law_cell ns (show 0 ≤ k + 1 by omega) (show k + 1 ≤ 1000000 by omega), bnd_ok', finM_rt]
/-- a draw, at its caller: the state's list is told by pr, put back by up -/
theorem draw {σ : Type} {pr : σ → List PyData} {up : σ → List PyData → σ} {s : σ} {ns : List Int} {k : Int} (hp : pr s = dr ns k) (h0 : 0 ≤ k) (h1 : k ≤ 900000) : gS (w0 f_law_next) pr up nS s = .ok (up s (dr ns (k + 1)), .int (cellI ns (k + 1))) := by
  unfold gS
  simp only [nS_is, bnd_ok', w0, hp, law_next ns h0 h1]
end Th
set_option Elab.async false
set_option linter.all false
set_option maxRecDepth 100000
set_option maxHeartbeats 2000000
set_option exponentiation.threshold 20000
/-! The law's own look at trees and sets. -/
namespace Th
open PySem L2 Dl Sm Fn
open PySem.W (AllAlike Sortable dataLe)
/-! ### bits by division -/
theorem bit_dm (b j : Nat) : decide ((b : Int) / 2 ^ j % 2 = 1) = b.testBit j := by
  rw [Nat.testBit_eq_decide_div_mod_eq, shrN]
  have : (((b / 2 ^ j : Nat) : Int) % 2 = 1) = (b / 2 ^ j % 2 = 1) := by
    apply propext
    omega
  simp only [this]
theorem bit_at {b j : Nat} (hj : j ≤ 12) : cm2 vEq (op2 vMod (op2 vFdiv (.ok (.int (b : Nat))) (op2 vShl (.ok (.int 1)) (.ok (.int (j : Nat))))) (.ok (.int 2))) (.ok (.int 1)) = .ok (b.testBit j) := by
  have hp : 2 ^ j ≤ 4096 := Nat.le_trans (Nat.pow_le_pow_right (by decide) hj) (by decide)
  have hp0 := Nat.two_pow_pos j
  simp only [op2_ok]
  rw [vShl_ok (by omega), Int.toNat_natCast]
  simp only [ofO_some, op2_ok]
  rw [vFdiv_ok (by rw [← natCast_two_pow]; omega)]
  simp only [ofO_some, op2_ok]
  rw [vMod_ok (by omega)]
  simp only [ofO_some, cm2_ok, vEq_int, bit_dm]
theorem ne_nil (L : List Nat) : cm2 vNe (.ok (.list (natsD L))) (liR rnil) = .ok (!L.isEmpty) := by
  simp only [rnil_is, liR_ok, cm2_ok]
  have : vNe (.list (natsD L)) (.list []) = some (!L.isEmpty) := by
    show Option.map _ (if SeqAt.shaped (.list (natsD L)) = true ∧ SeqAt.shaped (.list []) = true then some (PyData.eqv (.list (natsD L)) (.list [])) else none) = _
    rw [if_pos ⟨shaped_nats L, shaped_nil⟩, eqv_nil]
    show some (!(natsD L).isEmpty) = _
    unfold natsD
    rw [List.isEmpty_map]
  rw [this]
  rfl
theorem eq_nil (L : List Nat) : cm2 vEq (.ok (.list (natsD L))) (liR rnil) = .ok (L.isEmpty) := by
  simp only [rnil_is, liR_ok, cm2_ok]
  have : vEq (.list (natsD L)) (.list []) = some (L.isEmpty) := by
    show (if SeqAt.shaped (.list (natsD L)) = true ∧ SeqAt.shaped (.list []) = true then some (PyData.eqv (.list (natsD L)) (.list [])) else none) = _
    rw [if_pos ⟨shaped_nats L, shaped_nil⟩, eqv_nil]
    show some ((natsD L).isEmpty) = _
    unfold natsD
    rw [List.isEmpty_map]
  rw [this]
  rfl
theorem or_bits (f : Nat → Nat) (k : Nat) : ∀ (L : List Nat) (a : Nat), (L.foldl (fun a i => a ||| f i) a).testBit k = (a.testBit k || L.any fun i => (f i).testBit k)
  | [], a => by simp
  | i :: L, a => by
    rw [List.foldl_cons, or_bits f k L, Nat.testBit_or, List.any_cons, Bool.or_assoc]
theorem any_filter' (p q : Nat → Bool) (L : List Nat) : (L.filter p).any q = !(L.filter fun x => p x && q x).isEmpty := by
  induction L with
  | nil => rfl
  | cons a L ih =>
    rw [List.filter_cons, List.filter_cons]
    cases hp : p a <;> cases hq : q a <;> simp [ih, hq]
theorem all_bit {t : Tr} (h : t.Ok) {b : Nat} (hb : b < 2 ^ t.many) (k : Nat) : (t.all b).testBit k = !((List.range t.many).filter fun j => b.testBit j && (t.brought.getD j 0).testBit k).isEmpty := by
  unfold Tr.all
  rw [or_bits, Nat.zero_testBit, Bool.false_or, ← parts_of hb, any_filter']
theorem law_falls {t : Tr} (h : t.Ok) {b : Nat} (hb : b < 2 ^ t.many) : f_law_falls t.D (.int (b : Nat)) = .ok (.bool (fallsB t b)) := by
  unfold f_law_falls b_law_falls
  have hm := h.m2
  simp only [bind_ok, rnil_is, op2_ok, treeD_1, treeD_0, ofO_some, itR_ok, itD_tuple, bnd_ok']
  rw [rows_loop h (t.all b) fun i r fs hr ho hl hi => ?_]
  · simp only [bindF_nx, op1_ok, vNeg_int, ofO_some, op2_ok]
    rw [last_at h]
    rfl
  · have al : (boolsD fs).length < 1000000 := by rw [bools_length]; omega
    cases r with
    | inl k =>
      have hk : k < t.many := ho
      unfold rowD partD
      simp only [vIxT0, vIxT1, ofO_some, cm2_ok, vEq_str, decide_true, iff_t]
      rw [rgR_nat (by omega), lcM_map (fun i : Nat => PyData.int (i : Nat)) (fun i => PyData.int (i : Nat)) (fun j => b.testBit j && (t.brought.getD j 0).testBit k) (fun i => PyData.int (i : Nat)) (by rw [List.length_range]; omega) (fun _ _ => rfl) (fun j hj => ?_) (fun _ _ _ => rfl)]
      · rw [← natsD_map]
        simp only [bind_ok]
        have e := ne_nil ((List.range t.many).filter fun j => b.testBit j && (t.brought.getD j 0).testBit k)
        simp only [rnil_is] at e
        rw [e, ← all_bit h hb]
        simp only [blR_ok]
        rw [appR_ok al]
        simp only [bind_ok, bindF_nx]
        rw [bools_snoc]
        rfl
      · have hj' := List.mem_range.mp hj
        have e1 := bit_at (b := b) (j := j) (by omega)
        have e2 := bit_at (b := t.brought.getD j 0) (j := k) (by omega)
        simp only [op2_ok] at e1 e2
        rw [e1, treeD_2]
        simp only [ofO_some, op2_ok]
        rw [vIxT (getD_brought h hj')]
        simp only [ofO_some, op2_ok]
        rw [e2, tAn_ok]
    | inr g =>
      have ho : (∀ c ∈ g.2, c < i) ∧ g.2.length ≤ 1000 := ho
      unfold rowD gateD
      simp only [vIxT0, vIxT1, vIxT2, ofO_some, cm2_ok, vEq_str, part_ne, iff_f, itR_ok, itD_tuple]
      have k := kids (fs := fs) (g := g) (fun c hc => by have := ho.1 c hc; omega) ho.2
      simp only [op2_ok] at k
      rw [k]
      simp only [cm2_ok, vGe_int, ofO_some, blR_ok]
      rw [appR_ok al]
      simp only [bind_ok, bindF_nx]
      rw [bools_snoc]
      congr 4
      unfold rowB gateF
      simp only [Int.ofNat_le]
/-! ### known sets, in a dict -/
theorem keys_put {es : List (PyData × PyData)} {k v : PyData} {e : PyData × PyData} (h : e ∈ putD es k v) : e.1 = k ∨ ∃ x ∈ es, x.1 = e.1 := by
  unfold putD at h
  split at h
  · obtain ⟨x, hx, rfl⟩ := List.mem_map.mp h
    refine .inr ⟨x, hx, ?_⟩
    split <;> rfl
  · rcases List.mem_append.mp h with h | h
    · exact .inr ⟨e, h, rfl⟩
    · rw [List.mem_singleton] at h
      exact .inl (by rw [h])
theorem keys_merge {e : PyData × PyData} : ∀ {ms es : List (PyData × PyData)}, e ∈ mergeD es ms → (∃ x ∈ ms, x.1 = e.1) ∨ ∃ x ∈ es, x.1 = e.1
  | [], es, h => .inr ⟨e, h, rfl⟩
  | m :: ms, es, h => by
    rcases keys_merge (ms := ms) (es := putD es m.1 m.2) h with ⟨x, hx, e1⟩ | ⟨x, hx, e1⟩
    · exact .inl ⟨x, List.mem_cons_of_mem _ hx, e1⟩
    · rcases keys_put hx with k | ⟨y, hy, e2⟩
      · exact .inl ⟨m, List.mem_cons_self, by rw [← e1, k]⟩
      · exact .inr ⟨y, hy, by rw [e2, e1]⟩
theorem plain_known (S : List Nat) : plainD (.dict (knownD S)) = true := by
  have h : ∀ e ∈ knownD S, ∃ n : Nat, e.1 = .int (n : Nat) := fun e he => by
    rcases keys_merge he with ⟨x, hx, e1⟩ | ⟨x, hx, e1⟩
    · obtain ⟨b, _, rfl⟩ := List.mem_map.mp hx
      exact ⟨b, e1.symm⟩
    · cases hx
  cases hk : knownD S with
  | nil => rfl
  | cons e es =>
    obtain ⟨n, hn⟩ := h e (by rw [hk]; exact List.mem_cons_self)
    obtain ⟨k, v⟩ := e
    cases hn
    rfl
theorem pairs_of (S : List Nat) : pairsO (S.map fun b => PyData.tuple [.int (b : Nat), .bool true]) = some (S.map fun b => (.int (b : Nat), .bool true)) := by
  induction S with
  | nil => rfl
  | cons b S ih =>
    rw [List.map_cons, List.map_cons]
    show (if _ then (pairsO _).map _ else _) = _
    rw [ih, if_pos (show (Dl.keyOf (PyData.int (b : Nat))).isSome = true from rfl)]
    rfl
/-- dict([(b, True) for b in S]) -/
theorem dict_of {S : List Nat} (hS : S.length ≤ 1000000) : op1 vDict (liR (lcM (some : PyData → Option (PyData)) yes (fun k2 => (tuR (rcons (.ok k2) (rcons (.ok (.bool true)) rnil)))) (.ok (natsD S)))) = .ok (.dict (knownD S)) := by
  rw [natsD_map, lcM_all (fun n : Nat => PyData.int (n : Nat)) (fun n => PyData.int (n : Nat)) (fun b => PyData.tuple [.int (b : Nat), .bool true]) hS (fun _ _ => rfl) fun b _ => rfl]
  simp only [liR_ok, op1_ok]
  show R.ofO ((pairsO _).map _) = _
  rw [pairs_of]
  rfl
theorem in_known (S : List Nat) (x : Nat) : vInD (.int (x : Nat)) (.dict (knownD S)) = some (decide (x ∈ S)) := by
  show (if (Dl.keyOf (PyData.int (x : Nat))).isSome = true ∧ plainD (.dict (knownD S)) = true then some (inKeys (.int (x : Nat)) (knownD S)) else none) = _
  rw [if_pos ⟨rfl, plain_known S⟩, known_in]
theorem nin_known (S : List Nat) (x : Nat) : vNinD (.int (x : Nat)) (.dict (knownD S)) = some (!decide (x ∈ S)) := by
  unfold vNinD
  rw [in_known]
  rfl
/-! ### sorting -/
theorem srR_map {α : Type} (f : α → PyData) {L : List α} (h1 : ∀ a ∈ L, (f a).canLay0 = true) (h2 : AllAlike (L.map f)) (h3 : Sortable (L.map f)) (h4 : ∀ a ∈ L, (f a).depth ≤ 60) : srR (.ok (.list (L.map f))) = .ok ((L.mergeSort (dataLe false f)).map f) := by
  have a1 : ∀ b ∈ L.map f, b.canLay0 = true := fun b hb => by
    obtain ⟨a, ha, rfl⟩ := List.mem_map.mp hb
    exact h1 a ha
  have a4 : ∀ b ∈ L.map f, b.depth ≤ 60 := fun b hb => by
    obtain ⟨a, ha, rfl⟩ := List.mem_map.mp hb
    exact h4 a ha
  unfold srR
  rw [bnd_ok']
  dsimp only
  rw [if_pos ⟨a1, h2, h3, a4⟩, mergeSort_map']
  rfl
def pairD (b : Nat) : PyData := .tuple [.int (cnt b : Nat), .int (b : Nat)]
theorem sort_pairs (L : List Nat) : srR (.ok (.list (L.map pairD))) = .ok ((L.mergeSort (lexB cnt)).map pairD) := by
  rw [srR_map pairD (fun _ _ => rfl) (AllAlike.of fun x y => by simp [pairD, PySem.W.alike, PySem.W.alikeAll]) (Sortable.tuples fun b => ⟨_, _, rfl⟩) fun b _ => by simp [pairD, PyData.depth, PyData.depthAll]]
  congr 2
  congr 1
  exact PySem.W.dataLe_ii (fun b : Nat => (cnt b : Int)) (fun b : Nat => (b : Int))
/-! ### the law's least sets -/
theorem isEmpty_filter (p : Nat → Bool) (L : List Nat) : (L.filter p).isEmpty = L.all fun x => !p x := by
  induction L with
  | nil => rfl
  | cons a L ih =>
    rw [List.filter_cons, List.all_cons, ← ih]
    cases p a <;> simp
/-- a loop by what stands ahead of each turn -/
theorem forF_seq {α σ ρ l : Type} {body : σ → PyData → R (Fl σ ρ σ)} (enc : α → PyData) (F : Nat → σ) {xs : List α} {s : σ} (h0 : s = F 0) (hb : ∀ i x, xs[i]? = some x → body (F i) (enc x) = .ok (.nx (F (i + 1)))) : forF (l := l) some body (xs.map enc) s = .ok (.nx (F xs.length)) := by
  obtain ⟨s', h1, h2⟩ := forF_inv (l := l) (tg := some) (body := body) (fun i s => s = F i) (ds := xs.map enc) (n := 0) (s := s) h0 fun i d s hd hI => by
    rw [Nat.zero_add] at hI ⊢
    subst hI
    rw [List.getElem?_map] at hd
    cases e : xs[i]? with
    | none => rw [e] at hd; cases hd
    | some x =>
      rw [e] at hd
      cases hd
      exact ⟨_, _, rfl, .inl (hb i x e), rfl⟩
  rw [h1, h2, List.length_map, Nat.zero_add]
theorem law_least {n : Nat} {m : Nat → Bool} (hn : n ≤ 12) : f_law_least_k11 (.list (natsD ((List.range (2 ^ n)).filter m))) = .ok (.tuple (natsD (leastL (2 ^ n) m))) := by
  have hp : 2 ^ n ≤ 4096 := Nat.le_trans (Nat.pow_le_pow_right (by decide) hn) (by decide)
  have hS : ((List.range (2 ^ n)).filter m).length ≤ 4096 := Nat.le_trans (List.length_filter_le _ _) (by rw [List.length_range]; exact hp)
  unfold f_law_least_k11 b_law_least_k11
  simp only [itR_ok, itD_list, ofO_some]
  rw [dict_of (by omega)]
  simp only [bind_ok, rnil_is]
  rw [bnd_ok']
  have lt : ∀ b ∈ (List.range (2 ^ n)).filter m, b < 4096 := fun b hb => by
    have := List.mem_range.mp (List.mem_filter.mp hb).1
    omega
  generalize hG : (List.range (2 ^ n)).filter m = S at *
  rw [natsD_map, forF_seq (s := []) (fun b : Nat => PyData.int (b : Nat)) (fun i => ((S.take i).filter (goodB S)).map pairD) rfl fun i b e => ?_]
  rotate_left
  · show _ = R.ok (Fl.nx (((S.take (i + 1)).filter (goodB S)).map pairD))
    · skip
      have hb := lt b (List.mem_of_getElem? e)
      rw [show rgR (.ok (.int 12)) = .ok ((List.range 12).map fun i => .int (i : Nat)) from rgR_nat (n := 12) (by decide), lcM_map (fun i : Nat => PyData.int (i : Nat)) (fun i => PyData.int (i : Nat)) (fun j => b.testBit j) (fun i => PyData.int (i : Nat)) (by rw [List.length_range]; omega) (fun _ _ => rfl) (fun j hj => ?_) (fun _ _ _ => rfl)]
      · have hb12 : b < 2 ^ 12 := hb
        rw [parts_of hb12, ← natsD_map]
        simp only [bind_ok, itR_ok, itD_list, ofO_some]
        rw [natsD_map, lcM_map (fun i : Nat => PyData.int (i : Nat)) (fun i => PyData.int (i : Nat)) (fun j => decide (b - 2 ^ j ∈ S)) (fun i => PyData.int (i : Nat)) (by have : (partsL b).length ≤ 12 := cnt_le hb12; omega) (fun _ _ => rfl) (fun j hj => ?_) (fun _ _ _ => rfl)]
        · rw [← natsD_map, ← natsD_map]
          have e0 := eq_nil ((partsL b).filter fun j => decide (b - 2 ^ j ∈ S))
          simp only [rnil_is, liR_ok] at e0
          simp only [liR_ok]
          rw [e0, isEmpty_filter]
          have tk : S.take (i + 1) = S.take i ++ [b] := by rw [List.take_add_one, e]; rfl
          have eg : ((partsL b).all fun x => !decide (b - 2 ^ x ∈ S)) = goodB S b := rfl
          rw [eg, tk, List.filter_append, List.map_append, List.filter_cons]
          cases hg : goodB S b with
          | true =>
            simp only [iff_t, op1_ok, vLen_list, ofO_some, rcons_ok, tuR_ok, if_true]
            rw [appR_ok]
            · have el : (natsD (partsL b)).length = cnt b := by unfold natsD cnt; rw [List.length_map]
              rw [el]
              rfl
            · rw [List.length_map]
              refine Nat.lt_of_le_of_lt (List.length_filter_le _ _) ?_
              rw [List.length_take]
              omega
          | false =>
            simp only [iff_f, bindF_nx]
            simp
        · have hj' := xorAt (mem_parts.mp hj)
          simp only [op2_ok]
          rw [vShl_ok (by have := parts_lt hb12 hj; omega), Int.toNat_natCast]
          simp only [ofO_some, op2_ok, vSub_int]
          rw [← natCast_two_pow, ← Int.ofNat_sub hj'.2]
          simp only [cm2_ok]
          rw [in_known]
          rfl
      · simp only [op2_ok]
        rw [vShr_ok (by omega), Int.toNat_natCast]
        simp only [ofO_some, op2_ok, vBand_int, cm2_ok, vEq_int, bitAt]
        cases b.testBit j <;> simp
  rw [List.take_length, ← hG, law_found]
  simp only [bindF_nx]
  rw [sort_pairs, law_order]
  have hle : (leastL (2 ^ n) m).length ≤ 4096 := by
    unfold leastL
    rw [List.length_mergeSort]
    exact Nat.le_trans (List.length_filter_le _ _) (by rw [List.length_range]; exact hp)
  simp only [liR_ok, itR_ok, itD_list, ofO_some]
  rw [lcM_all pairD (fun b => (.int (cnt b : Nat), .int (b : Nat))) (fun b => .int (b : Nat)) (by omega) (fun _ _ => rfl) fun _ _ => rfl]
  simp only [liR_ok, op1_ok, vTup_list, ofO_some, bind_ok, fin_rt]
  rfl
end Th
set_option Elab.async false
set_option linter.all false
set_option maxRecDepth 100000
set_option maxHeartbeats 2000000
set_option exponentiation.threshold 20000
/-! Least sets cross one another. -/
namespace Th
open PySem L2 Dl Sm Fn
theorem sub_bit {b i : Nat} (h : b.testBit i = true) : b - 2 ^ i = b ^^^ 2 ^ i := by
  have o : (b ^^^ 2 ^ i) ||| 2 ^ i = b := Nat.eq_of_testBit_eq fun j => by
    rw [Nat.testBit_or, Nat.testBit_xor, Nat.testBit_two_pow]
    by_cases e : i = j
    · subst e; simp [h]
    · simp [e]
  have a : (b ^^^ 2 ^ i) &&& 2 ^ i = 0 := Nat.eq_of_testBit_eq fun j => by
    rw [Nat.testBit_and, Nat.testBit_xor, Nat.testBit_two_pow, Nat.zero_testBit]
    by_cases e : i = j
    · subst e; simp [h]
    · simp [e]
  have k : Builtin.bitXor ((b ^^^ 2 ^ i : Nat) : Int) ((2 ^ i : Nat) : Int) = Builtin.bitOr ((b ^^^ 2 ^ i : Nat) : Int) ((2 ^ i : Nat) : Int) - Builtin.bitAnd ((b ^^^ 2 ^ i : Nat) : Int) ((2 ^ i : Nat) : Int) := rfl
  rw [PyProof.Rows.bitXor_and, orN, andN, o, a] at k
  omega
theorem sub_bits {b i j : Nat} (h : b.testBit i = true) : (b - 2 ^ i).testBit j = (b.testBit j && !decide (i = j)) := by
  rw [sub_bit h, Nat.testBit_xor, Nat.testBit_two_pow]
  by_cases e : i = j
  · subst e; simp [h]
  · simp [e]
/-- the more fail, the more it is so -/
def Mono (m : Nat) (f : Nat → Bool) : Prop := ∀ a b, a < 2 ^ m → b < 2 ^ m → (∀ i, a.testBit i = true → b.testBit i = true) → f a = true → f b = true
theorem has_least {f : Nat → Bool} : ∀ (b : Nat), f b = true → ∃ o, o ≤ b ∧ leastB f o = true ∧ ∀ i, o.testBit i = true → b.testBit i = true := fun b => by
  induction b using Nat.strongRecOn with
  | ind b ih =>
    intro h
    cases hl : leastB f b with
    | true => exact ⟨b, Nat.le_refl _, hl, fun _ h => h⟩
    | false =>
      unfold leastB at hl
      rw [h, Bool.true_and, Bool.not_eq_false', List.any_eq_true] at hl
      obtain ⟨i, hi, hf⟩ := hl
      have hb := mem_parts.mp hi
      have hle := (xorAt hb).2
      have hp := Nat.two_pow_pos i
      obtain ⟨o, o1, o2, o3⟩ := ih (b - 2 ^ i) (by omega) hf
      refine ⟨o, by omega, o2, fun j hj => ?_⟩
      have := o3 j hj
      rw [sub_bits hb] at this
      simp only [Bool.and_eq_true] at this
      exact this.1
theorem mem_least {n o : Nat} {f : Nat → Bool} : o ∈ leastL n f ↔ o < n ∧ leastB f o = true := by
  unfold leastL
  rw [List.mem_mergeSort, List.mem_filter, List.mem_range]
theorem all_sub {m b : Nat} (hb : b < 2 ^ m) (i : Nat) : (2 ^ m - 1 - b).testBit i = (decide (i < m) && !b.testBit i) := by
  rw [show 2 ^ m - 1 - b = 2 ^ m - (b + 1) by omega]
  exact Nat.testBit_two_pow_sub_succ hb i
theorem leastB_true {f : Nat → Bool} {o : Nat} (h : leastB f o = true) : f o = true := by
  unfold leastB at h
  simp only [Bool.and_eq_true] at h
  exact h.1
theorem dual {m b : Nat} {f : Nat → Bool} (hf : Mono m f) (hb : b < 2 ^ m) : crossB (leastL (2 ^ m) f) b = !f (2 ^ m - 1 - b) := by
  have hp := Nat.two_pow_pos m
  cases hc : f (2 ^ m - 1 - b) with
  | true =>
    obtain ⟨o, o1, o2, o3⟩ := has_least _ hc
    unfold crossB
    rw [Bool.not_true, List.all_eq_false]
    refine ⟨o, mem_least.mpr ⟨by omega, o2⟩, ?_⟩
    have : b &&& o = 0 := Nat.eq_of_testBit_eq fun j => by
      rw [Nat.testBit_and, Nat.zero_testBit]
      cases ho : o.testBit j with
      | false => simp
      | true =>
        have := o3 j ho
        rw [all_sub hb] at this
        simp only [Bool.and_eq_true, Bool.not_eq_true'] at this
        rw [this.2]; rfl
    simp [this]
  | false =>
    unfold crossB
    rw [Bool.not_false, List.all_eq_true]
    intro o ho
    obtain ⟨o1, o2⟩ := mem_least.mp ho
    rw [decide_eq_true_eq]
    intro z
    have : f (2 ^ m - 1 - b) = true := hf o _ o1 (by omega) (fun i hi => by
      rw [all_sub hb]
      have h1 : i < m := Decidable.byContradiction fun z => by
        rw [Nat.testBit_lt_two_pow (Nat.lt_of_lt_of_le o1 (Nat.pow_le_pow_right (by decide) (Nat.le_of_not_lt z)))] at hi
        cases hi
      have h2 : (b &&& o).testBit i = false := by rw [z]; exact Nat.zero_testBit i
      rw [Nat.testBit_and, hi, Bool.and_true] at h2
      rw [h2, decide_eq_true h1]; rfl) (leastB_true o2)
    rw [hc] at this
    cases this
theorem least_congr {n : Nat} {p q : Nat → Bool} (h : ∀ b, b < n → p b = q b) : leastL n p = leastL n q := by
  unfold leastL
  congr 1
  refine List.filter_congr fun b hb => ?_
  have hb := List.mem_range.mp hb
  unfold leastB
  rw [h b hb]
  congr 2
  have : ∀ L : List Nat, (L.any fun i => p (b - 2 ^ i)) = L.any fun i => q (b - 2 ^ i) := fun L => by
    induction L with
    | nil => rfl
    | cons i L ih => rw [List.any_cons, List.any_cons, ih, h _ (Nat.lt_of_le_of_lt (Nat.sub_le _ _) hb)]
  exact this _
/-! ### the more parts fail, the more rows -/
theorem any_mono {f g : Nat → Bool} {L M : List Nat} (hL : ∀ i ∈ L, i ∈ M) (h : ∀ i, f i = true → g i = true) (a : L.any f = true) : M.any g = true := by
  obtain ⟨i, hi, hf⟩ := List.any_eq_true.mp a
  exact List.any_eq_true.mpr ⟨i, hL i hi, h i hf⟩
theorem all_mono (t : Tr) {a b : Nat} (h : ∀ i, a.testBit i = true → b.testBit i = true) (k : Nat) (hk : (t.all a).testBit k = true) : (t.all b).testBit k = true := by
  unfold Tr.all at *
  rw [or_bits, Nat.zero_testBit, Bool.false_or] at *
  exact any_mono (fun i hi => mem_parts.mpr (h i (mem_parts.mp hi))) (fun _ h => h) hk
def LeB (x y : List Bool) : Prop := x.length = y.length ∧ ∀ i, x.getD i false = true → y.getD i false = true
theorem count_mono {x y : List Bool} (h : LeB x y) : ∀ (L : List Nat), (L.map fun c => x.getD c false).count true ≤ (L.map fun c => y.getD c false).count true
  | [] => Nat.le_refl _
  | c :: L => by
    have ih := count_mono h L
    rw [List.map_cons, List.map_cons, List.count_cons, List.count_cons]
    cases hx : x.getD c false with
    | true => rw [h.2 c hx]; simp only [beq_self_eq_true, if_true]; omega
    | false => exact Nat.le_trans (by rw [if_neg (by decide)]; exact ih) (Nat.le_add_right _ _)
theorem row_mono {a b : Nat} {x y : List Bool} (h : LeB x y) (hab : ∀ k, a.testBit k = true → b.testBit k = true) (r : Row) (hr : rowB a x r = true) : rowB b y r = true := by
  cases r with
  | inl i => exact hab i hr
  | inr g =>
    unfold rowB gateF at *
    simp only [decide_eq_true_eq] at *
    exact Nat.le_trans hr (count_mono h g.2)
theorem fold_mono {a b : Nat} (hab : ∀ k, a.testBit k = true → b.testBit k = true) (rs : List Row) : ∀ n, n ≤ rs.length → LeB (foldB a (rs.take n)) (foldB b (rs.take n))
  | 0, _ => ⟨rfl, fun i h => h⟩
  | n + 1, hn => by
    have ih := fold_mono hab rs n (by omega)
    have e : rs[n]? = some rs[n] := List.getElem?_eq_getElem (by omega)
    rw [foldB_take a e, foldB_take b e]
    refine ⟨by rw [List.length_append, List.length_append, ih.1]; rfl, fun i hi => ?_⟩
    rw [List.getD_eq_getElem?_getD] at hi ⊢
    by_cases hl : i < (foldB a (rs.take n)).length
    · rw [List.getElem?_append_left hl, ← List.getD_eq_getElem?_getD] at hi
      rw [List.getElem?_append_left (by rw [← ih.1]; exact hl), ← List.getD_eq_getElem?_getD]
      exact ih.2 i hi
    · rw [List.getElem?_append_right (by omega)] at hi
      rw [List.getElem?_append_right (by rw [← ih.1]; omega), ← ih.1]
      by_cases e2 : i - (foldB a (rs.take n)).length = 0
      · rw [e2] at hi ⊢
        exact row_mono ih hab _ hi
      · rw [List.getElem?_eq_none (by simp only [List.length_cons, List.length_nil]; omega)] at hi
        cases hi
theorem getLastD_getD (x : List Bool) : x.getLastD false = x.getD (x.length - 1) false := by
  rw [List.getLastD_eq_getLast?, List.getLast?_eq_getElem?, List.getD_eq_getElem?_getD]
theorem falls_mono (t : Tr) (m : Nat) : Mono m (fallsB t) := fun a b ha hb h hf => by
  unfold fallsB at *
  have := fold_mono (all_mono t h) t.rws t.rws.length (Nat.le_refl _)
  rw [List.take_length] at this
  rw [getLastD_getD] at *
  rw [← this.1]
  exact this.2 _ hf
theorem holds_mono (t : Tr) : Mono t.many (holdsB t) := fun a b ha hb h hf => by
  unfold holdsB at *
  cases hc : fallsB t (2 ^ t.many - 1 - b) with
  | false => rfl
  | true =>
    have := falls_mono t t.many (2 ^ t.many - 1 - b) (2 ^ t.many - 1 - a) (by omega) (by omega) (fun i hi => by
      rw [all_sub hb] at hi
      rw [all_sub ha]
      simp only [Bool.and_eq_true, Bool.not_eq_true'] at *
      refine ⟨hi.1, ?_⟩
      cases e : a.testBit i with
      | false => rfl
      | true => rw [h i e] at hi; exact hi.2) hc
    rw [this] at hf
    cases hf
theorem cross_falls (t : Tr) : leastL (2 ^ t.many) (crossB (leastL (2 ^ t.many) (fallsB t))) = leastL (2 ^ t.many) (holdsB t) := least_congr fun b hb => dual (falls_mono t t.many) hb
theorem cross_holds (t : Tr) : leastL (2 ^ t.many) (crossB (leastL (2 ^ t.many) (holdsB t))) = leastL (2 ^ t.many) (fallsB t) := least_congr fun b hb => by
  rw [dual (holds_mono t) hb]
  unfold holdsB
  rw [Bool.not_not, show 2 ^ t.many - 1 - (2 ^ t.many - 1 - b) = b by omega]
end Th
set_option Elab.async false
set_option linter.all false
set_option maxRecDepth 100000
set_option maxHeartbeats 2000000
set_option exponentiation.threshold 20000
/-! Drawn trees. -/
namespace Th
open PySem L2 Dl Sm Fn
/-! ### operations on numbers that are not negative -/
theorem nMod {a b : Nat} {n : Int} (e : n = (b : Nat)) (h : 0 < b) : vMod (.int (a : Nat)) (.int n) = some (.int (a % b : Nat)) := by
  subst e
  rw [vMod_ok (by omega)]
  rfl
theorem nDiv {a b : Nat} {n : Int} (e : n = (b : Nat)) (h : 0 < b ∧ b < 1073741824) : vFdiv (.int (a : Nat)) (.int n) = some (.int (a / b : Nat)) := by
  subst e
  rw [vFdiv_ok (by omega)]
  rfl
theorem nShl {a : Nat} (h : a ≤ 1000000) : vShl (.int 1) (.int (a : Nat)) = some (.int (2 ^ a : Nat)) := by
  rw [vShl_ok (by omega), Int.toNat_natCast, ← natCast_two_pow]
theorem nBor {a b : Nat} : vBor (.int (a : Nat)) (.int (b : Nat)) = some (.int (a ||| b : Nat)) := by
  rw [vBor_int, orN]
theorem nAdd1 {a b : Nat} {n : Int} (e : n = (b : Nat)) : vAdd (.int n) (.int (a : Nat)) = some (.int (b + a : Nat)) := by
  subst e; rfl
theorem nSub {a b : Nat} {n : Int} (e : n = (b : Nat)) (h : b ≤ a) : vSub (.int (a : Nat)) (.int n) = some (.int (a - b : Nat)) := by
  subst e
  rw [vSub_int, Int.ofNat_sub h]
theorem nMin {a b : Nat} {n : Int} (e : n = (b : Nat)) : vMin2 (.int n) (.int (a : Nat)) = some (.int (min b a : Nat)) := by
  subst e
  rw [vMin2_int]
  congr 2
  split <;> omega
/-! ### loops told by what holds -/
theorem forR {σ ρ l : Type} {body : σ → PyData → R (Fl σ ρ σ)} {n : Nat} {s : σ} {r : R (Fl σ ρ l)} (hF : forF (l := l) some body ((List.range n).map fun i => PyData.int (i : Nat)) s = r) (I : Nat → σ → Prop) (h0 : I 0 s) (hb : ∀ i s, i < n → I i s → ∃ s', body s (.int (i : Nat)) = .ok (.nx s') ∧ I (i + 1) s') : ∃ s', r = .ok (.nx s') ∧ I n s' := by
  subst hF
  exact forF_range I h0 fun i s hi hI => by
    obtain ⟨s', e, h⟩ := hb i s hi hI
    exact ⟨s', .inl e, h⟩
theorem cellN (ns : List Int) (k : Int) : ∃ c : Nat, cellI ns k = (c : Int) ∧ c < 33554432 := by
  have := cell_ok ns k
  exact ⟨(cellI ns k).toNat, by omega, by omega⟩
/-- a draw as a number from zero on -/
theorem drawN {σ : Type} {pr : σ → List PyData} {up : σ → List PyData → σ} {s : σ} {ns : List Int} {k : Int} (hp : pr s = dr ns k) (h0 : 0 ≤ k) (h1 : k ≤ 900000) : ∃ c : Nat, gS (w0 f_law_next) pr up nS s = .ok (up s (dr ns (k + 1)), .int (c : Nat)) ∧ c < 33554432 := by
  obtain ⟨c, e, hc⟩ := cellN ns (k + 1)
  exact ⟨c, by rw [draw hp h0 h1, e], hc⟩
/-! ### what is brought -/
def BrOk (m : Nat) (bs : List Nat) : Prop := bs.length = m ∧ ∀ b ∈ bs, b < 2 ^ m
theorem BrOk.set {m i v : Nat} {bs : List Nat} (h : BrOk m bs) (hv : v < 2 ^ m) : BrOk m (bs.set i v) := ⟨by rw [List.length_set]; exact h.1, fun b hb => by
  rcases List.mem_or_eq_of_mem_set hb with hb | rfl
  · exact h.2 b hb
  · exact hv⟩
theorem BrOk.at {m i : Nat} {bs : List Nat} (h : BrOk m bs) (hi : i < m) : ∃ b, (natsD bs)[i]? = some (.int (b : Nat)) ∧ b < 2 ^ m := by
  have : i < bs.length := by rw [h.1]; exact hi
  refine ⟨bs[i], ?_, h.2 _ (List.getElem_mem this)⟩
  unfold natsD
  rw [List.getElem?_map, List.getElem?_eq_getElem this]
  rfl
theorem nats_set (bs : List Nat) (i v : Nat) : (natsD bs).set i (.int (v : Nat)) = natsD (bs.set i v) := by
  unfold natsD
  rw [List.map_set]
theorem nats_length (bs : List Nat) : (natsD bs).length = bs.length := by unfold natsD; rw [List.length_map]
theorem two_pow_lt {i m : Nat} (h : i < m) : 2 ^ i < 2 ^ m := Nat.pow_lt_pow_right (by decide) h
theorem law_brought (ns : List Int) {k : Int} {m : Nat} (h0 : 0 ≤ k) (h1 : k ≤ 800000) (m1 : 1 ≤ m) (m2 : m ≤ 12) : ∃ bs k', f_law_brought_k11 (.int (m : Nat)) (dr ns k) = .ok (dr ns k', .tuple (natsD bs)) ∧ BrOk m bs ∧ k ≤ k' ∧ k' ≤ k + 10 := by
  unfold f_law_brought_k11 b_law_brought_k11
  rw [rgR_nat (by omega), lcM_all (fun n : Nat => PyData.int (n : Nat)) (fun n => PyData.int (n : Nat)) (fun i => .int (2 ^ i : Nat)) (by rw [List.length_range]; omega) (fun _ _ => rfl) fun i hi => by simp only [op2_ok]; rw [nShl (by have := List.mem_range.mp hi; omega)]; rfl]
  rw [show ((List.range m).map fun i => PyData.int (2 ^ i : Nat)) = natsD ((List.range m).map fun i => 2 ^ i) by unfold natsD; rw [List.map_map]; rfl]
  simp only [bind_ok]
  obtain ⟨c, e, hc⟩ := drawN (pr := fun s : List PyData => s) (up := fun (s : List PyData) ds => ds) (s := dr ns k) rfl h0 (show k ≤ 900000 by omega)
  have e2 : (rgM (o2S vMod (gS (w0 f_law_next) (fun (s : List PyData) => s) (fun (s : List PyData) ds => ds) nS) (pS fun (s : List PyData) => (.ok (.int 4))))) (dr ns k) = .ok (dr ns (k + 1), (List.range (c % 4)).map fun i => .int (i : Nat)) := by
    rw [rgM_ok (s' := dr ns (k + 1)) (n := ((c % 4 : Nat) : Int)) ?_ (by omega), Int.toNat_natCast]
    unfold o2S
    rw [e]
    simp only [bnd_ok', pS]
    rw [nMod (n := 4) (b := 4) rfl (by decide)]
    rfl
  rw [e2]
  simp only [bnd_ok']
  generalize hF : forF some _ _ _ = r
  obtain ⟨s1, rfl, bs1, k1, rfl, b1, k11, k12⟩ := forR hF (fun i s => ∃ bs k', s = (dr ns k', natsD bs) ∧ BrOk m bs ∧ k + 1 ≤ k' ∧ k' ≤ k + 1 + i) ⟨_, _, rfl, ⟨by rw [List.length_map, List.length_range], fun b hb => by
    obtain ⟨i, hi, rfl⟩ := List.mem_map.mp hb
    exact two_pow_lt (List.mem_range.mp hi)⟩, by omega, by omega⟩ fun i s hi ⟨bs, kk, es, hB, ha, hb⟩ => by
    subst es
    have hc4 : c % 4 < 4 := Nat.mod_lt _ (by decide)
    obtain ⟨c2, e3, _⟩ := drawN (pr := fun s : List PyData => s) (up := fun (s : List PyData) ds => ds) (s := dr ns kk) rfl (by omega) (by omega)
    rw [e3]
    simp only [bnd_ok', op2_ok]
    rw [nMod (b := m) rfl (by omega), nDiv (n := 16) (b := 16) rfl (by decide)]
    simp only [ofO_some, op2_ok]
    rw [nMod (b := m) rfl (by omega)]
    simp only [ofO_some, op2_ok]
    have l1 : c2 % m < m := Nat.mod_lt _ (by omega)
    have l2 : c2 / 16 % m < m := Nat.mod_lt _ (by omega)
    obtain ⟨b, hb1, hb2⟩ := hB.at l1
    rw [nShl (by omega), vIxL hb1]
    simp only [ofO_some, op2_ok]
    rw [nBor]
    simp only [ofO_some]
    rw [putR_ok (by rw [nats_length, hB.1]; exact l1), nats_set]
    exact ⟨_, rfl, _, _, rfl, hB.set (Nat.or_lt_two_pow hb2 (two_pow_lt l2)), by omega, by omega⟩
  clear hF
  simp only [bindF_nx]
  generalize hF : forF some _ _ _ = r
  obtain ⟨s2, rfl, bs2, rfl, b2⟩ := forR hF (fun i s => ∃ bs, s = natsD bs ∧ BrOk m bs) ⟨_, rfl, b1⟩ fun i s hi ⟨bs, es, hB⟩ => by
    subst es
    generalize hF2 : forF some _ _ _ = r
    obtain ⟨s3, rfl, bs3, rfl, b3⟩ := forR hF2 (fun i s => ∃ bs, s = natsD bs ∧ BrOk m bs) ⟨_, rfl, hB⟩ fun i2 s hi2 ⟨bs, es, hB⟩ => by
      subst es
      generalize hF3 : forF some _ _ _ = r
      obtain ⟨s4, rfl, bs4, rfl, b4⟩ := forR hF3 (fun i s => ∃ bs, s = natsD bs ∧ BrOk m bs) ⟨_, rfl, hB⟩ fun i3 s hi3 ⟨bs, es, hB⟩ => by
        subst es
        obtain ⟨b, hb1, hb2⟩ := hB.at hi2
        obtain ⟨b', hb3, hb4⟩ := hB.at hi3
        simp only [op2_ok]
        rw [vIxL hb1, vIxL hb3]
        simp only [ofO_some, op2_ok]
        rw [vShr_ok (by omega), Int.toNat_natCast]
        simp only [ofO_some, op2_ok, vBand_int, cm2_ok, vEq_int, bitAt]
        rw [nBor]
        simp only [ofO_some]
        rw [putR_ok (by rw [nats_length, hB.1]; exact hi2), nats_set]
        cases b.testBit i3 with
        | true =>
          refine ⟨_, rfl, _, rfl, hB.set (Nat.or_lt_two_pow hb2 hb4)⟩
        | false => exact ⟨_, rfl, _, rfl, hB⟩
      exact ⟨_, rfl, _, rfl, b4⟩
    exact ⟨_, rfl, _, rfl, b3⟩
  simp only [bindF_nx, pS, op1_ok, vTup_list, ofO_some, bnd_ok', finM_rt]
  exact ⟨_, _, rfl, b2, by omega, by have := Nat.mod_lt c (show 4 > 0 by decide); omega⟩
end Th
set_option Elab.async false
set_option linter.all false
set_option maxRecDepth 100000
set_option maxHeartbeats 2000000
set_option exponentiation.threshold 20000
/-! Drawn trees, in whole. -/
namespace Th
open PySem L2 Dl Sm Fn
structure GsOk (many n : Nat) (gs : List (Nat × List Nat)) : Prop where
  len : gs.length = n
  at' : ∀ (j : Nat) (g : Nat × List Nat), gs[j]? = some g → (∀ c ∈ g.2, c < many + j) ∧ g.2.length ≤ 8 ∧ g.1 ≤ 8
theorem GsOk.nil {many : Nat} : GsOk many 0 [] := ⟨rfl, fun j g h => by simp at h⟩
theorem GsOk.snoc {many n : Nat} {gs : List (Nat × List Nat)} {g : Nat × List Nat} (h : GsOk many n gs) (h1 : ∀ c ∈ g.2, c < many + n) (h2 : g.2.length ≤ 8) (h3 : g.1 ≤ 8) : GsOk many (n + 1) (gs ++ [g]) := by
  refine ⟨by rw [List.length_append, h.len]; rfl, fun j x hx => ?_⟩
  by_cases hj : j < gs.length
  · rw [List.getElem?_append_left hj] at hx
    exact h.at' j x hx
  · rw [List.getElem?_append_right (by omega)] at hx
    by_cases e : j - gs.length = 0
    · rw [e] at hx
      cases hx
      have := h.len
      exact ⟨fun c hc => by have := h1 c hc; omega, h2, h3⟩
    · rw [List.getElem?_eq_none (by simp only [List.length_cons, List.length_nil]; omega)] at hx
      cases hx
def rowsL (many : Nat) (gs : List (Nat × List Nat)) : List PyData := (List.range many).map partD ++ gs.map gateD
theorem rowsL_len (many : Nat) (gs : List (Nat × List Nat)) : (rowsL many gs).length = many + gs.length := by
  unfold rowsL
  rw [List.length_append, List.length_map, List.length_map, List.length_range]
theorem rowsL_snoc (many : Nat) (gs : List (Nat × List Nat)) (g : Nat × List Nat) : rowsL many gs ++ [gateD g] = rowsL many (gs ++ [g]) := by
  unfold rowsL
  rw [List.map_append, List.append_assoc]
  rfl
theorem noLi_nats : ∀ L : List Nat, noLiA (natsD L) = true
  | [] => rfl
  | n :: L => by
    show (noLi (.int (n : Nat)) && noLiA (natsD L)) = true
    rw [noLi_nats L]
    rfl
theorem nats_erase : ∀ (L : List Nat) (i : Nat), (natsD L).eraseIdx i = natsD (L.eraseIdx i)
  | [], i => rfl
  | a :: L, 0 => rfl
  | a :: L, i + 1 => by
    show PyData.int (a : Nat) :: (natsD L).eraseIdx i = _
    rw [nats_erase L i]
    rfl
theorem seq_at {i n : Nat} (h : i < n) : seqIndex? (i : Nat) n = some i := by
  have h1 : ¬ ((i : Nat) : Int) < 0 := by omega
  unfold seqIndex?
  simp [h1, h]
theorem pop_nat {σ : Type} {pr : σ → List PyData} {up : σ → List PyData → σ} {m : SR σ} {s s1 : σ} {L : List Nat} {i : Nat} (h : m s = .ok (s1, .int (i : Nat))) (hp : pr s1 = natsD L) (hi : i < L.length) (hL : L.length ≤ 1000000) : popS pr up m s = .ok (up s1 (natsD (L.eraseIdx i)), .int (L[i] : Nat)) := by
  unfold popS
  rw [h]
  simp only [bnd_ok']
  rw [hp, nats_length, seq_at hi]
  simp only
  rw [if_pos (by omega)]
  have e : (natsD L)[i]? = some (.int (L[i] : Nat)) := by
    unfold natsD
    rw [List.getElem?_map, List.getElem?_eq_getElem hi]
    rfl
  rw [e, nats_erase]
theorem erase_len {L : List Nat} {i : Nat} (h : i < L.length) : (L.eraseIdx i).length = L.length - 1 := by
  rw [List.length_eraseIdx, if_pos h]
/-- a tree as drawn, with what its repr needs -/
structure Tr.Sm (t : Tr) : Prop where
  ok : t.Ok
  gl : t.gates.length ≤ 8
  ch : ∀ g ∈ t.gates, g.2.length ≤ 8 ∧ g.1 ≤ 8
theorem sm_of {many n : Nat} {gs : List (Nat × List Nat)} {bs : List Nat} (h : GsOk many n gs) (hb : BrOk many bs) (m1 : 1 ≤ many) (m2 : many ≤ 12) (hn : n ≤ 8) : Tr.Sm ⟨many, gs, bs⟩ where
  ok := {
    m1 := m1
    m2 := m2
    gl := by have := h.len; show gs.length ≤ 30; omega
    ch := fun j g hg => (h.at' j g hg).1
    cl := fun g hg => by
      obtain ⟨j, hj⟩ := List.mem_iff_getElem?.mp hg
      have := (h.at' j g hj).2.1
      omega
    bl := hb.1
    bb := hb.2 }
  gl := by have := h.len; show gs.length ≤ 8; omega
  ch := fun g hg => by
    obtain ⟨j, hj⟩ := List.mem_iff_getElem?.mp hg
    exact (h.at' j g hj).2
theorem D_of {many : Nat} {gs : List (Nat × List Nat)} {bs : List Nat} : PyData.tuple [.int (many : Nat), .tuple (rowsL many gs), .tuple (natsD bs)] = (Tr.mk many gs bs).D := rfl
theorem draw_mod {ns : List Int} {k : Int} {n : Int} {b : Nat} (e : n = (b : Nat)) (hb : 0 < b) (h0 : 0 ≤ k) (h1 : k ≤ 900000) : ∃ c : Nat, o2S vMod (gS (w0 f_law_next) (fun (s : List PyData) => s) (fun (s : List PyData) ds => ds) nS) (pS fun (s : List PyData) => (.ok (.int n))) (dr ns k) = .ok (dr ns (k + 1), .int (c : Nat)) ∧ c < b := by
  obtain ⟨c, e1, _⟩ := drawN (pr := fun s : List PyData => s) (up := fun (s : List PyData) ds => ds) (s := dr ns k) rfl h0 h1
  refine ⟨c % b, ?_, Nat.mod_lt _ hb⟩
  unfold o2S
  rw [e1]
  simp only [bnd_ok', pS]
  rw [nMod e hb]
  rfl
theorem rg_nat {ns : List Int} {k k' : Int} {c : Nat} {m : SR (List PyData)} (h : m (dr ns k) = .ok (dr ns k', .int (c : Nat))) (hc : c ≤ 1000000000) : rgM m (dr ns k) = .ok (dr ns k', (List.range c).map fun i => .int (i : Nat)) := by
  rw [rgM_ok h (by omega), Int.toNat_natCast]
/-- the rows of the parts alone -/
theorem parts_rows (m : Nat) (h : m ≤ 1000000) : lcM (some : PyData → Option (PyData)) yes (fun k2 => (tuR (rcons (.ok (.str (Str.ofString "part"))) (rcons (.ok k2) rnil)))) (rgR (.ok (.int (m : Nat)))) = .ok (rowsL m []) := by
  rw [rgR_nat (by omega), lcM_all (fun n : Nat => PyData.int (n : Nat)) (fun n => PyData.int (n : Nat)) partD (by rw [List.length_range]; omega) (fun _ _ => rfl) fun i hi => rfl]
  unfold rowsL
  rw [List.map_nil, List.append_nil]
/-- the end of a drawn tree -/
theorem tree_end {ns : List Int} {k : Int} {many : Nat} {gs : List (Nat × List Nat)} (h0 : 0 ≤ k) (h1 : k ≤ 800000) (m1 : 1 ≤ many) (m2 : many ≤ 12) : ∃ bs k', (tS (cS (pS fun (s : List PyData) => (.ok (.int (many : Nat)))) (cS (pS fun (s : List PyData) => (op1 vTup (.ok (.list (rowsL many gs))))) (cS (gS (w1 f_law_brought_k11) (fun (s : List PyData) => s) (fun (s : List PyData) ds => ds) (cS (pS fun (s : List PyData) => (.ok (.int (many : Nat)))) nS)) nS)))) (dr ns k) = .ok (dr ns k', (Tr.mk many gs bs).D) ∧ BrOk many bs ∧ k ≤ k' ∧ k' ≤ k + 10 := by
  obtain ⟨bs, k', e, hb, ka, kb⟩ := law_brought ns (k := k) (m := many) h0 h1 m1 m2
  refine ⟨bs, k', ?_, hb, ka, kb⟩
  simp only [tS, cS, pS, gS, nS_is, w1, bnd_ok', op1_ok, vTup_list, ofO_some, e]
  rfl
theorem law_tree (ns : List Int) {k : Int} {most : Nat} (h0 : 0 ≤ k) (h1 : k ≤ 700000) (m1 : 1 ≤ most) (m2 : most ≤ 12) : ∃ (t : Tr) (k' : Int), f_law_tree_k11 (.int (most : Nat)) (dr ns k) = .ok (dr ns k', t.D) ∧ t.Sm ∧ k ≤ k' ∧ k' ≤ k + 100 := by
  unfold f_law_tree_k11 b_law_tree_k11
  obtain ⟨c, e1, hc⟩ := draw_mod (ns := ns) (k := k) (n := (most : Nat)) rfl (show 0 < most by omega) h0 (by omega)
  have e2 : (o2S vAdd (pS fun (s : List PyData) => (.ok (.int 1))) (o2S vMod (gS (w0 f_law_next) (fun (s : List PyData) => s) (fun (s : List PyData) ds => ds) nS) (pS fun (s : List PyData) => (.ok (.int (most : Nat)))))) (dr ns k) = .ok (dr ns (k + 1), .int (1 + c : Nat)) := by
    show (R.bnd (pS (fun (s : List PyData) => (.ok (.int 1))) (dr ns k)) _) = _
    simp only [pS, bnd_ok', e1]
    rw [nAdd1 (n := 1) (b := 1) rfl]
    rfl
  rw [e2]
  simp only [bnd_ok']
  generalize hm : 1 + c = many
  rw [parts_rows many (by omega)]
  simp only [bind_ok]
  obtain ⟨c8, e3, hc8⟩ := draw_mod (ns := ns) (k := k + 1) (n := 8) (b := 8) rfl (by decide) (by omega) (by omega)
  rw [rg_nat e3 (by omega)]
  simp only [bnd_ok']
  generalize hF : forF some _ _ _ = r
  obtain ⟨s1, rfl, gs, k1, rfl, g1, k11, k12⟩ := forR hF (fun i s => ∃ gs kk, s = (dr ns kk, rowsL many gs) ∧ GsOk many i gs ∧ k + 2 ≤ kk ∧ kk ≤ k + 2 + 6 * i) ⟨[], _, rfl, .nil, by omega, by omega⟩ fun i s hi ⟨gs, kk, es, hG, ka, kb⟩ => by
    subst es
    obtain ⟨number, e4, _⟩ := drawN (pr := fun s : List PyData => s) (up := fun (s : List PyData) ds => ds) (s := dr ns kk) rfl (by omega) (by omega)
    rw [e4]
    simp only [bnd_ok']
    have hlen := hG.len
    rw [rowsL_len, hlen, rgS_nat (by omega)]
    simp only [bind_ok, rnil_is, List.length_map, List.length_range, op2_ok]
    rw [nMin (n := 4) (b := 4) rfl]
    simp only [ofO_some, op2_ok]
    rw [nMod (b := min 4 (many + i)) rfl (by omega)]
    simp only [ofO_some, op2_ok]
    rw [nAdd1 (n := 1) (b := 1) rfl]
    simp only [ofO_some]
    have hcm : number % min 4 (many + i) < min 4 (many + i) := Nat.mod_lt _ (by omega)
    generalize hq : 1 + number % min 4 (many + i) = q
    rw [rgR_nat (by omega)]
    simp only [bnd_ok']
    generalize hF2 : forF some _ _ _ = r
    obtain ⟨s2, rfl, L, C, k2, rfl, hLC, hC, hL, hCm, k21, k22⟩ := forR hF2 (fun j s => ∃ L C k2, s = (dr ns k2, natsD L, natsD C) ∧ L.length + C.length = many + i ∧ C.length = j ∧ (∀ c ∈ L, c < many + i) ∧ (∀ c ∈ C, c < many + i) ∧ kk + 1 ≤ k2 ∧ k2 ≤ kk + 1 + j) ⟨List.range (many + i), [], kk + 1, rfl, by rw [List.length_range]; rfl, rfl, fun c hc => List.mem_range.mp hc, fun c hc => absurd hc List.not_mem_nil, by omega, by omega⟩ fun j s hj ⟨L, C, k2, es, hLC, hC, hL, hCm, k21, k22⟩ => by
      subst es
      obtain ⟨more, e5, _⟩ := drawN (pr := fun s : List PyData => s) (up := fun (s : List PyData) ds => ds) (s := dr ns k2) rfl (by omega) (by omega)
      rw [e5]
      simp only [bnd_ok', nats_length, op2_ok]
      have hLp : 0 < L.length := by omega
      rw [nMod (n := 2) (b := 2) rfl (by decide), nDiv (n := 2) (b := 2) rfl (by decide)]
      simp only [ofO_some, op2_ok, cm2_ok]
      rw [nMin (n := 4) (b := 4) rfl]
      simp only [ofO_some, op2_ok]
      rw [nMod (b := min 4 L.length) rfl (by omega), nMod (b := L.length) rfl (by omega), nSub (n := 1) (b := 1) rfl (by omega)]
      simp only [ofO_some, op2_ok]
      have l1 : more / 2 % min 4 L.length < min 4 L.length := Nat.mod_lt _ (by omega)
      have l2 : more / 2 % L.length < L.length := Nat.mod_lt _ (by omega)
      rw [nSub (b := more / 2 % min 4 L.length) rfl (by omega)]
      simp only [vEq_int, ofO_some]
      have fin2 : ∀ at' : Nat, at' < L.length → ∃ s', (R.bnd (apS (natsD C) (popS (fun (s : List PyData) => s) (fun (s : List PyData) ds => ds) (pS fun (s : List PyData) => (.ok (.int (at' : Nat))))) (natsD L)) fun p15 => (.ok (.nx (dr ns (k2 + 1), p15.1, p15.2)) : R (Fl (List PyData × List PyData × List PyData) (List PyData × PyData) (List PyData × List PyData × List PyData)))) = .ok (.nx s') ∧ ∃ L C k2, s' = (dr ns k2, natsD L, natsD C) ∧ L.length + C.length = many + i ∧ C.length = j + 1 ∧ (∀ c ∈ L, c < many + i) ∧ (∀ c ∈ C, c < many + i) ∧ kk + 1 ≤ k2 ∧ k2 ≤ kk + 1 + ((j + 1 : Nat) : Int) := fun at' ha => by
        unfold apS
        rw [pop_nat (s1 := natsD L) (L := L) (i := at') rfl rfl ha (by omega)]
        simp only [bnd_ok']
        rw [if_pos (by rw [nats_length]; omega)]
        simp only [bnd_ok']
        refine ⟨_, rfl, L.eraseIdx at', C ++ [L[at']], k2 + 1, ?_, ?_, ?_, ?_, ?_, by omega, by omega⟩
        · congr 2
          unfold natsD
          rw [List.map_append]
          rfl
        · rw [erase_len ha, List.length_append]
          simp only [List.length_cons, List.length_nil]
          omega
        · rw [List.length_append, hC]; rfl
        · exact fun c hc => hL c (List.mem_of_mem_eraseIdx hc)
        · intro c hc
          rcases List.mem_append.mp hc with hc | hc
          · exact hCm c hc
          · rw [List.mem_singleton] at hc
            subst hc
            exact hL _ (List.getElem_mem ha)
      by_cases hp : ((more % 2 : Nat) : Int) = 1
      · rw [decide_eq_true hp]
        simp only [iff_t, bind_ok]
        exact fin2 _ (by omega)
      · rw [decide_eq_false hp]
        simp only [iff_f, bind_ok]
        exact fin2 _ (by omega)
    clear hF2
    simp only [bindF_nx, nats_length]
    rw [nDiv (n := 8) (b := 8) rfl (by decide)]
    simp only [ofO_some, op2_ok]
    rw [nMod (b := C.length) rfl (by omega)]
    simp only [ofO_some, op2_ok]
    rw [nAdd1 (n := 1) (b := 1) rfl]
    simp only [ofO_some, op1_ok, vTup_list, lnR_ok]
    have lm : number / 8 % C.length < C.length := Nat.mod_lt _ (by omega)
    rw [if_pos (show noLi (.tuple (natsD C)) = true from noLi_nats C)]
    simp only [rcons_ok, tuR_ok]
    rw [appR_ok (by rw [rowsL_len, hlen]; omega)]
    simp only [bind_ok]
    have eg := rowsL_snoc many gs (1 + number / 8 % C.length, C)
    unfold gateD at eg
    rw [eg]
    exact ⟨_, rfl, _, _, rfl, hG.snoc (fun c hc => hCm c hc) (by show C.length ≤ 8; omega) (by show 1 + number / 8 % C.length ≤ 8; omega), by omega, by omega⟩
  clear hF
  simp only [bindF_nx]
  obtain ⟨bs, k3, e6, hb, k31, k32⟩ := tree_end (ns := ns) (k := k1) (many := many) (gs := gs) (by omega) (by omega) (by omega) (by omega)
  rw [e6]
  simp only [bnd_ok', finM_rt]
  exact ⟨_, _, rfl, sm_of g1 hb (by omega) (by omega) (by omega), by omega, by omega⟩
end Th
set_option Elab.async false
set_option linter.all false
set_option maxRecDepth 100000
set_option maxHeartbeats 2000000
set_option exponentiation.threshold 20000
/-! Wide trees, and the law of least sets. -/
namespace Th
open PySem L2 Dl Sm Fn
theorem lcS_inv {σ : Type} {f : PyData → SR σ} (I : Nat → σ → List Nat → Prop) (N : Nat) (hb : ∀ i s ys x, i < N → I i s ys → ∃ s' y, f (.int (x : Nat)) s = .ok (s', .int (y : Nat)) ∧ I (i + 1) s' (ys ++ [y])) : ∀ {xs : List Nat} {n : Nat} {s : σ} {ys : List Nat}, n + xs.length = N → I n s ys → ∃ s' zs, lcS (some : PyData → Option PyData) f (xs.map fun i => .int (i : Nat)) s = .ok (s', natsD zs) ∧ I N s' (ys ++ zs)
  | [], n, s, ys, hn, h => ⟨s, [], rfl, by rw [List.append_nil]; have : n = N := by simpa using hn
                                           subst this; exact h⟩
  | x :: xs, n, s, ys, hn, h => by
    simp only [List.length_cons] at hn
    obtain ⟨s1, y, e1, h1⟩ := hb n s ys x (by omega) h
    obtain ⟨s2, zs, e2, h2⟩ := lcS_inv I N hb (xs := xs) (n := n + 1) (s := s1) (ys := ys ++ [y]) (by omega) h1
    refine ⟨s2, y :: zs, ?_, by rw [List.append_assoc] at h2; exact h2⟩
    rw [List.map_cons, lcS]
    simp only [ofO_some, bnd_ok', e1, e2]
    rfl
theorem law_wide (ns : List Int) {k : Int} (h0 : 0 ≤ k) (h1 : k ≤ 700000) : ∃ (t : Tr) (k' : Int), f_law_wide_tree (.int 12) (dr ns k) = .ok (dr ns k', t.D) ∧ t.Sm ∧ k ≤ k' ∧ k' ≤ k + 100 := by
  unfold f_law_wide_tree b_law_wide_tree
  obtain ⟨c0, e0, hc0⟩ := drawN (pr := fun s : List PyData => s) (up := fun (s : List PyData) ds => ds) (s := dr ns k) rfl h0 (show k ≤ 900000 by omega)
  obtain ⟨many, hm1, hm2, e2⟩ : ∃ many : Nat, 9 ≤ many ∧ many ≤ 12 ∧ (o2S vAdd (pS fun (s : List PyData) => (.ok (.int 9))) (o2S vMod (gS (w0 f_law_next) (fun (s : List PyData) => s) (fun (s : List PyData) ds => ds) nS) (pS fun (s : List PyData) => (op2 vSub (.ok (.int 12)) (.ok (.int 8)))))) (dr ns k) = .ok (dr ns (k + 1), .int (many : Nat)) := by
    refine ⟨9 + c0 % 4, by omega, by have := Nat.mod_lt c0 (show 4 > 0 by decide); omega, ?_⟩
    show (R.bnd (pS (fun (s : List PyData) => (.ok (.int 9))) (dr ns k)) _) = _
    simp only [pS, bnd_ok', o2S, e0, op2_ok, vSub_int, ofO_some]
    rw [show (12 : Int) - 8 = 4 from rfl, nMod (n := 4) (b := 4) rfl (by decide)]
    simp only [ofO_some, bnd_ok']
    rw [nAdd1 (n := 9) (b := 9) rfl]
    rfl
  rw [e2]
  simp only [bnd_ok']
  rw [parts_rows many (by omega)]
  simp only [bind_ok]
  obtain ⟨c3, e3, hc3⟩ := draw_mod (ns := ns) (k := k + 1) (n := 3) (b := 3) rfl (by decide) (by omega) (by omega)
  have e3' : (o2S vAdd (pS fun (s : List PyData) => (.ok (.int 1))) (o2S vMod (gS (w0 f_law_next) (fun (s : List PyData) => s) (fun (s : List PyData) ds => ds) nS) (pS fun (s : List PyData) => (.ok (.int 3))))) (dr ns (k + 1)) = .ok (dr ns (k + 1 + 1), .int (1 + c3 : Nat)) := by
    show (R.bnd (pS (fun (s : List PyData) => (.ok (.int 1))) (dr ns (k + 1))) _) = _
    simp only [pS, bnd_ok', e3]
    rw [nAdd1 (n := 1) (b := 1) rfl]
    rfl
  rw [rg_nat e3' (by omega)]
  simp only [bnd_ok']
  generalize hF : forF some _ _ _ = r
  obtain ⟨s1, rfl, gs, k1, rfl, g1, k11, k12⟩ := forR hF (fun i s => ∃ gs kk, s = (dr ns kk, rowsL many gs) ∧ GsOk many i gs ∧ k + 2 ≤ kk ∧ kk ≤ k + 2 + 10 * i) ⟨[], _, rfl, .nil, by omega, by omega⟩ fun i s hi ⟨gs, kk, es, hG, ka, kb⟩ => by
    subst es
    obtain ⟨number, e4, _⟩ := drawN (pr := fun s : List PyData => s) (up := fun (s : List PyData) ds => ds) (s := dr ns kk) rfl (by omega) (by omega)
    rw [e4]
    simp only [bnd_ok']
    have hlen := hG.len
    rw [rowsL_len, hlen, rgS_nat (by omega)]
    simp only [bind_ok, op2_ok]
    rw [nMod (n := 6) (b := 6) rfl (by decide)]
    simp only [ofO_some, op2_ok]
    rw [nAdd1 (n := 3) (b := 3) rfl]
    simp only [ofO_some]
    have hq1 : number % 6 < 6 := Nat.mod_lt _ (by decide)
    generalize hq : 3 + number % 6 = q
    rw [rgR_nat (by omega)]
    simp only [bnd_ok', List.length_map, List.length_range]
    rw [if_pos (by omega)]
    obtain ⟨s2, C, e5, L, k2, rfl, hLC, hC, hL, hCm, k21, k22⟩ := lcS_inv (f := fun k9 => (popS (fun (s : List PyData × List PyData) => s.2) (fun (s : List PyData × List PyData) ds => (s.1, ds)) (o2S vMod (gS (w0 f_law_next) (fun (s : List PyData × List PyData) => s.1) (fun (s : List PyData × List PyData) ds => (ds, s.2)) nS) (pS fun (s : List PyData × List PyData) => (.ok (.int s.2.length)))))) (fun j s C => ∃ L k2, s = (dr ns k2, natsD L) ∧ L.length + C.length = many + i ∧ C.length = j ∧ (∀ c ∈ L, c < many + i) ∧ (∀ c ∈ C, c < many + i) ∧ kk + 1 ≤ k2 ∧ k2 ≤ kk + 1 + j) q (fun j s C x hj ⟨L, k2, es, hLC, hC, hL, hCm, k21, k22⟩ => by
      subst es
      obtain ⟨more, e6, _⟩ := drawN (pr := fun s : List PyData × List PyData => s.1) (up := fun (s : List PyData × List PyData) ds => (ds, s.2)) (s := (dr ns k2, natsD L)) rfl (by omega) (by omega)
      have hLp : 0 < L.length := by omega
      have lm : more % L.length < L.length := Nat.mod_lt _ hLp
      rw [pop_nat (s1 := (dr ns (k2 + 1), natsD L)) (L := L) (i := more % L.length) ?_ rfl lm (by omega)]
      · refine ⟨_, _, rfl, L.eraseIdx (more % L.length), k2 + 1, rfl, ?_, ?_, ?_, ?_, by omega, by omega⟩
        · rw [erase_len lm, List.length_append]
          simp only [List.length_cons, List.length_nil]
          omega
        · rw [List.length_append, hC]; rfl
        · exact fun c hc => hL c (List.mem_of_mem_eraseIdx hc)
        · intro c hc
          rcases List.mem_append.mp hc with hc | hc
          · exact hCm c hc
          · rw [List.mem_singleton] at hc
            subst hc
            exact hL _ (List.getElem_mem lm)
      · unfold o2S
        rw [e6]
        simp only [bnd_ok', pS, nats_length]
        rw [nMod (b := L.length) rfl hLp]
        rfl) (xs := List.range q) (n := 0) (s := (dr ns (kk + 1), natsD (List.range (many + i)))) (ys := []) (by rw [List.length_range]; omega) ⟨List.range (many + i), kk + 1, rfl, by rw [List.length_range]; rfl, rfl, fun c hc => List.mem_range.mp hc, fun c hc => absurd hc List.not_mem_nil, by omega, by omega⟩
    rw [List.nil_append] at hLC hC hCm
    rw [show ((List.range (many + i)).map fun i => PyData.int (i : Nat)) = natsD (List.range (many + i)) from rfl, e5]
    simp only [bnd_ok', op1_ok, vLen_list, nats_length, ofO_some, op2_ok]
    rw [nDiv (n := 8) (b := 8) rfl (by decide)]
    simp only [ofO_some, op2_ok]
    rw [nMod (b := C.length) rfl (by omega)]
    simp only [ofO_some, op2_ok]
    rw [nAdd1 (n := 1) (b := 1) rfl]
    simp only [ofO_some, op1_ok, vTup_list]
    have lm : number / 8 % C.length < C.length := Nat.mod_lt _ (by omega)
    simp only [rnil_is, rcons_ok, tuR_ok]
    rw [appR_ok (by rw [rowsL_len, hlen]; omega)]
    simp only [bind_ok]
    have eg := rowsL_snoc many gs (1 + number / 8 % C.length, C)
    unfold gateD at eg
    rw [eg]
    exact ⟨_, rfl, _, _, rfl, hG.snoc (fun c hc => hCm c hc) (by show C.length ≤ 8; omega) (by show 1 + number / 8 % C.length ≤ 8; omega), by omega, by omega⟩
  clear hF
  simp only [bindF_nx]
  obtain ⟨bs, k3, e6, hb, k31, k32⟩ := tree_end (ns := ns) (k := k1) (many := many) (gs := gs) (by omega) (by omega) (by omega) (by omega)
  rw [e6]
  simp only [bnd_ok', finM_rt]
  exact ⟨_, _, rfl, sm_of g1 hb (by omega) (by omega) (by omega), by omega, by omega⟩
/-! ### what a drawn tree shows -/
theorem lt62 {n m : Nat} (h : n < m) (hm : m ≤ 4611686018427387904) : n < 2 ^ 62 := Nat.lt_of_lt_of_le h (Nat.le_trans hm (by decide))
theorem repr_tree {t : Tr} (h : t.Sm) : vRepr t.D = some (.str t.D.shown) := by
  have m2 := h.ok.m2
  have gl := h.gl
  have hrows : Shw 3 67852 (.tuple t.rows) := by
    have := shw_tup (n := 2) (B := 3082) (ds := t.rows) fun d hd => by
      rcases List.mem_append.mp hd with hd | hd
      · obtain ⟨i, hi, rfl⟩ := List.mem_map.mp hd
        exact (shw_part (lt62 (List.mem_range.mp hi) (by omega))).mono (by decide) (by decide)
      · obtain ⟨g, hg, rfl⟩ := List.mem_map.mp hd
        obtain ⟨j, hj⟩ := List.mem_iff_getElem?.mp hg
        have hj' := (List.getElem?_eq_some_iff.mp hj).1
        have hc := h.ch g hg
        have := shw_gate (g := g) (B := 1024) (lt62 (show g.1 < 9 by omega) (by decide)) (fun c hcc => lt62 (h.ok.ch j g hj c hcc) (by omega)) (by omega) (by decide)
        exact this.mono (by decide) (by decide)
    refine this.mono (by decide) ?_
    have : t.rows.length = t.many + t.gates.length := by unfold Tr.rows; rw [List.length_append, List.length_map, List.length_map, List.length_range]
    omega
  have hD : Shw 4 203566 t.D := shw_tup (n := 3) (B := 67852) (ds := [.int (t.many : Nat), .tuple t.rows, .tuple (natsD t.brought)]) fun d hd => by
    rcases List.mem_cons.mp hd with rfl | hd
    · exact (shw_nat (lt62 (show t.many < 13 by omega) (by decide))).mono (by decide) (by decide)
    · rcases List.mem_cons.mp hd with rfl | hd
      · exact hrows
      · rcases List.mem_cons.mp hd with rfl | hd
        · refine (shw_nats fun n hn => lt62 (h.ok.bb n hn) (Nat.le_trans (pow_many h.ok) (by decide))).mono (by decide) ?_
          have := h.ok.bl
          omega
        · cases hd
  exact repr_tup hD (by decide) (by decide)
theorem least_len {n : Nat} {m : Nat → Bool} : (leastL n m).length ≤ n := by
  unfold leastL
  rw [List.length_mergeSort]
  exact Nat.le_trans (List.length_filter_le _ _) (by rw [List.length_range]; exact Nat.le_refl _)
theorem repr_least {n : Nat} {m : Nat → Bool} (h : n ≤ 4096) : vRepr (.tuple (natsD (leastL n m))) = some (.str (PyData.tuple (natsD (leastL n m))).shown) := reprN (fun b hb => lt62 (mem_least.mp hb).1 (by omega)) (Nat.le_trans least_len (by omega))
end Th
set_option Elab.async false
set_option linter.all false
set_option maxRecDepth 100000
set_option maxHeartbeats 2000000
set_option exponentiation.threshold 20000
/-! The law of least sets is true. -/
open PySem L2 Dl Sm Fn Th
theorem Th.cut_len (ds : List PyData) (l h : Option Int) : (cutD ds l h).length ≤ ds.length := by
  unfold cutD
  rw [List.length_take, List.length_drop]
  omega
theorem Th.fails_list {t : Tr} (h : t.Ok) : lcM (some : PyData → Option (PyData)) (fun k8 => (trR (c2 f_law_falls (.ok t.D) (.ok k8)))) (fun k8 => (.ok k8)) (rgR (op2 vShl (.ok (.int 1)) (.ok (.int (t.many : Nat))))) = .ok (natsD ((List.range (2 ^ t.many)).filter (fallsB t))) := by
  have hp := pow_many h
  have hm := h.m2
  simp only [op2_ok]
  rw [nShl (by omega)]
  simp only [ofO_some]
  rw [rgR_nat (by omega), lcM_map (fun i : Nat => PyData.int (i : Nat)) (fun i => PyData.int (i : Nat)) (fallsB t) (fun i => PyData.int (i : Nat)) (by rw [List.length_range]; omega) (fun _ _ => rfl) (fun b hb => ?_) (fun _ _ _ => rfl)]
  · rfl
  · simp only [c2_ok, Th.law_falls h (List.mem_range.mp hb), trR_ok, vTru_bool, ofO_some]
theorem Th.holds_list {t : Tr} (h : t.Ok) : lcM (some : PyData → Option (PyData)) (fun k14 => (cm2 vNinD (op2 vSub (op2 vSub (op2 vShl (.ok (.int 1)) (.ok (.int (t.many : Nat)))) (.ok (.int 1))) (.ok k14)) (.ok (.dict (knownD ((List.range (2 ^ t.many)).filter (fallsB t))))))) (fun k14 => (.ok k14)) (rgR (op2 vShl (.ok (.int 1)) (.ok (.int (t.many : Nat))))) = .ok (natsD ((List.range (2 ^ t.many)).filter (holdsB t))) := by
  have hp := pow_many h
  have hm := h.m2
  have hp0 := Nat.two_pow_pos t.many
  simp only [op2_ok]
  rw [nShl (by omega)]
  simp only [ofO_some]
  rw [rgR_nat (by omega), lcM_map (fun i : Nat => PyData.int (i : Nat)) (fun i => PyData.int (i : Nat)) (holdsB t) (fun i => PyData.int (i : Nat)) (by rw [List.length_range]; omega) (fun _ _ => rfl) (fun b hb => ?_) (fun _ _ _ => rfl)]
  · rfl
  · have hb' := List.mem_range.mp hb
    simp only [op2_ok]
    rw [nSub (n := 1) (b := 1) rfl (by omega)]
    simp only [ofO_some, op2_ok]
    rw [nSub (b := b) rfl (by omega)]
    simp only [ofO_some, cm2_ok]
    rw [nin_known]
    simp only [ofO_some]
    congr 1
    unfold holdsB
    congr 1
    have hl : 2 ^ t.many - 1 - b < 2 ^ t.many := by omega
    simp only [List.mem_filter, List.mem_range, hl, true_and]
    cases fallsB t (2 ^ t.many - 1 - b) <;> simp
theorem K11.law_true (ns : List Int) (h : ns.length ≤ 63) : fin (b_law_k11 (.list (ns.map .int))) = .ok (.bool true) := by
  unfold b_law_k11
  simp only [rnil_is, rcons_ok, bind_ok, noI_is, inR_int, slR_ok]
  have e1 : vSl (.list (ns.map .int)) none (some 63) = some (.list (cutD (ns.map .int) none (some 63))) := rfl
  rw [e1]
  simp only [ofO_some, op1_ok, vLen_list, op2_ok]
  have hl := Th.cut_len (ns.map PyData.int) none (some 63)
  rw [List.length_map] at hl
  rw [nDiv (n := 16) (b := 16) rfl (by decide)]
  simp only [ofO_some, op2_ok]
  rw [nAdd1 (n := 1) (b := 1) rfl]
  simp only [ofO_some]
  have hq : 1 + (cutD (ns.map PyData.int) none (some 63)).length / 16 ≤ 4 := by omega
  generalize 1 + (cutD (ns.map PyData.int) none (some 63)).length / 16 = q at hq
  rw [rgR_nat (by omega), bnd_ok']
  generalize hF : forF some _ _ _ = r
  obtain ⟨s1, rfl, _⟩ := forR hF (fun i s => ∃ k : Int, s = dr ns k ∧ 0 ≤ k ∧ k ≤ 100 * i) ⟨0, rfl, by omega, by omega⟩ fun i s hi ⟨k, es, k0, k1⟩ => by
    subst es
    have hw : anV (blR (cm2 vEq (.ok (.int (i : Nat))) (.ok (.int 0)))) (blR (cm2 vEq (op2 vMod (c2 f_law_cell_k11 (.ok (.list (ns.map .int))) (.ok (.int 70))) (.ok (.int 8))) (.ok (.int 1)))) = .ok (.bool (decide ((i : Int) = 0) && decide (cellI ns 70 % 8 = 1))) := by
      simp only [c2_ok, law_cell ns (show (0 : Int) ≤ 70 by decide) (show (70 : Int) ≤ 1000000 by decide), op2_ok]
      rw [vMod_ok (by decide)]
      simp only [ofO_some, cm2_ok, vEq_int, blR_ok, anV_ok]
    rw [hw]
    simp only [bind_ok]
    obtain ⟨t, k', et, hS, ka, kb⟩ : ∃ (t : Tr) (k' : Int), (iS (fun (s : List PyData) => (trR (.ok (.bool (decide ((i : Int) = 0) && decide (cellI ns 70 % 8 = 1)))))) (gS (w1 f_law_wide_tree) (fun (s : List PyData) => s) (fun (s : List PyData) ds => ds) (cS (pS fun (s : List PyData) => (.ok (.int 12))) nS)) (gS (w1 f_law_tree_k11) (fun (s : List PyData) => s) (fun (s : List PyData) ds => ds) (cS (pS fun (s : List PyData) => (.ok (.int 6))) nS))) (dr ns k) = .ok (dr ns k', t.D) ∧ t.Sm ∧ k ≤ k' ∧ k' ≤ k + 100 := by
      unfold iS
      simp only [trR_ok, vTru_bool, ofO_some, bnd_ok']
      cases decide ((i : Int) = 0) && decide (cellI ns 70 % 8 = 1) with
      | true =>
        obtain ⟨t, k', et, hS, ka, kb⟩ := law_wide ns k0 (show k ≤ 700000 by omega)
        refine ⟨t, k', ?_, hS, ka, kb⟩
        rw [if_pos rfl]
        simp only [gS, cS, pS, nS_is, w1, bnd_ok', et]
      | false =>
        obtain ⟨t, k', et, hS, ka, kb⟩ := law_tree ns (most := 6) k0 (show k ≤ 700000 by omega) (by decide) (by decide)
        refine ⟨t, k', ?_, hS, ka, kb⟩
        rw [if_neg (by decide)]
        have et' : f_law_tree_k11 (.int 6) (dr ns k) = .ok (dr ns k', t.D) := et
        simp only [gS, cS, pS, nS_is, w1, bnd_ok', et']
    rw [et]
    have ho := hS.ok
    have hp := pow_many ho
    rw [bnd_ok']
    simp only [op1_ok, repr_tree hS, ofO_some, bind_ok, op2_ok, treeD_0]
    have f1 := Th.fails_list ho
    have f2 := Th.holds_list ho
    simp only [op2_ok] at f1 f2
    rw [f1]
    simp only [bind_ok, itR_ok, itD_list, ofO_some]
    have dk := dict_of (S := (List.range (2 ^ t.many)).filter (fallsB t)) (Nat.le_trans (List.length_filter_le _ _) (by rw [List.length_range]; omega))
    simp only [rnil_is, rcons_ok] at dk
    rw [dk]
    simp only [bind_ok]
    rw [f2]
    simp only [bind_ok, c1_ok, Th.law_least ho.m2, bnd_ok', cuts ho, keeps ho, op1_ok, repr_least hp, ofO_some, cm2_ok, vNe_str, decide_true, Bool.not_true, tOo_f, iff_f, bindF_nx]
    have ho1 := ho.m1
    rw [show rgR (.ok (.int 2)) = .ok ((List.range 2).map fun i => .int (i : Nat)) from rgR_nat (n := 2) (by decide)]
    have mem : ∀ m : Nat → Bool, ∀ b ∈ leastL (2 ^ t.many) m, b < 2 ^ t.many := fun m b hb => (mem_least.mp hb).1
    simp only [c2_ok, cross_ok ⟨ho1, ho.m2⟩ (mem _), cross_falls, cross_holds, op1_ok, repr_least hp, ofO_some, cm2_ok, vNe_str, decide_true, Bool.not_true, tOo_f, iff_f, bindF_nx, bnd_ok']
    refine ⟨_, rfl, k', rfl, by omega, by omega⟩
  simp only [bindF_nx, bind_ok, fin_rt]
set_option Elab.async false
set_option linter.all false
set_option maxRecDepth 100000
set_option maxHeartbeats 4000000
set_option exponentiation.threshold 20000

namespace K11
open PySem L2 Dl Fn
def topS (i : Nat) : Stmt := PySem.Challenge.pw_faultwood_k11_whole_least_sets.main.body.getD i (.Pass ⟨0, 0, 0, 0⟩)
abbrev s_is_whole : Stmt := topS 1
abbrev n_is_whole : List Str := ["thing"]
theorem sf_is_whole : scF2 n_is_whole ["thing"] ["isinstance", "int", "bool"] s_is_whole = true := by decide +kernel
theorem c_is_whole : FnScope n_is_whole ["thing"] (defScope s_is_whole) := ⟨rfl, rfl, rfl, by decide +kernel, rfl, by decide +kernel, by decide +kernel⟩
abbrev s_all_bits : Stmt := topS 3
abbrev n_all_bits : List Str := ["many"]
theorem sf_all_bits : scF2 n_all_bits ["many"] [] s_all_bits = true := by decide +kernel
theorem c_all_bits : FnScope n_all_bits ["many"] (defScope s_all_bits) := ⟨rfl, rfl, rfl, by decide +kernel, rfl, by decide +kernel, by decide +kernel⟩
abbrev s_is_bits : Stmt := topS 4
abbrev n_is_bits : List Str := ["thing", "many"]
theorem sf_is_bits : scF2 n_is_bits ["thing", "many"] ["is_whole", "all_bits"] s_is_bits = true := by decide +kernel
theorem c_is_bits : FnScope n_is_bits ["thing", "many"] (defScope s_is_bits) := ⟨rfl, rfl, rfl, by decide +kernel, rfl, by decide +kernel, by decide +kernel⟩
abbrev s_parts_in : Stmt := topS 5
abbrev n_parts_in : List Str := ["bits", "i"]
theorem sf_parts_in : scF2 n_parts_in ["bits"] ["range"] s_parts_in = true := by decide +kernel
theorem c_parts_in : FnScope n_parts_in ["bits"] (defScope s_parts_in) := ⟨rfl, rfl, rfl, by decide +kernel, rfl, by decide +kernel, by decide +kernel⟩
abbrev s_many_in : Stmt := topS 6
abbrev n_many_in : List Str := ["bits"]
theorem sf_many_in : scF2 n_many_in ["bits"] ["len", "parts_in"] s_many_in = true := by decide +kernel
theorem c_many_in : FnScope n_many_in ["bits"] (defScope s_many_in) := ⟨rfl, rfl, rfl, by decide +kernel, rfl, by decide +kernel, by decide +kernel⟩
abbrev s_all_brought : Stmt := topS 11
abbrev n_all_brought : List Str := ["tree", "bits", "found", "i"]
theorem sf_all_brought : scF2 n_all_brought ["tree", "bits", "found", "i"] ["parts_in"] s_all_brought = true := by decide +kernel
theorem c_all_brought : FnScope n_all_brought ["tree", "bits"] (defScope s_all_brought) := ⟨rfl, rfl, rfl, by decide +kernel, rfl, by decide +kernel, by decide +kernel⟩
abbrev s_falls : Stmt := topS 12
abbrev n_falls : List Str := ["tree", "bits", "failing", "fails", "row"]
theorem sf_falls : scF2 n_falls ["tree", "bits", "failing", "fails", "row"] ["all_brought", "row_fails"] s_falls = true := by decide +kernel
theorem c_falls : FnScope n_falls ["tree", "bits"] (defScope s_falls) := ⟨rfl, rfl, rfl, by decide +kernel, rfl, by decide +kernel, by decide +kernel⟩
abbrev s_row_fails : Stmt := topS 13
abbrev n_row_fails : List Str := ["row", "failing", "fails", "child"]
theorem sf_row_fails : scF2 n_row_fails ["row", "failing", "fails"] [] s_row_fails = true := by decide +kernel
theorem c_row_fails : FnScope n_row_fails ["row", "failing", "fails"] (defScope s_row_fails) := ⟨rfl, rfl, rfl, by decide +kernel, rfl, by decide +kernel, by decide +kernel⟩
abbrev s_cuts : Stmt := topS 16
abbrev n_cuts : List Str := ["tree", "bits"]
theorem sf_cuts : scF2 n_cuts ["tree"] ["least_of", "range"] s_cuts = true := by decide +kernel
theorem c_cuts : FnScope n_cuts ["tree"] (defScope s_cuts) := ⟨rfl, rfl, rfl, by decide +kernel, rfl, by decide +kernel, by decide +kernel⟩
abbrev s_keeps : Stmt := topS 17
abbrev n_keeps : List Str := ["tree", "every", "bits"]
theorem sf_keeps : scF2 n_keeps ["tree", "every"] ["all_bits", "least_of", "range"] s_keeps = true := by decide +kernel
theorem c_keeps : FnScope n_keeps ["tree"] (defScope s_keeps) := ⟨rfl, rfl, rfl, by decide +kernel, rfl, by decide +kernel, by decide +kernel⟩
abbrev s_cross : Stmt := topS 18
abbrev n_cross : List Str := ["sets", "many", "bits"]
theorem sf_cross : scF2 n_cross ["sets", "many"] ["is_whole", "MOST_PARTS", "BadSets", "isinstance", "tuple", "all", "least_of", "range"] s_cross = true := by decide +kernel
theorem c_cross : FnScope n_cross ["sets", "many"] (defScope s_cross) := ⟨rfl, rfl, rfl, by decide +kernel, rfl, by decide +kernel, by decide +kernel⟩
abbrev s_crosses : Stmt := topS 19
abbrev n_crosses : List Str := ["bits", "sets", "other"]
theorem sf_crosses : scF2 n_crosses ["bits", "sets"] ["all"] s_crosses = true := by decide +kernel
theorem c_crosses : FnScope n_crosses ["bits", "sets"] (defScope s_crosses) := ⟨rfl, rfl, rfl, by decide +kernel, rfl, by decide +kernel, by decide +kernel⟩
abbrev s_least_of : Stmt := topS 20
abbrev n_least_of : List Str := ["meets", "found", "bits"]
theorem sf_least_of : scF2 n_least_of ["meets", "found"] ["range", "len", "tuple", "sorted", "many_in"] s_least_of = true := by decide +kernel
theorem c_least_of : FnScope n_least_of ["meets"] (defScope s_least_of) := ⟨rfl, rfl, rfl, by decide +kernel, rfl, by decide +kernel, by decide +kernel⟩
abbrev s_is_least : Stmt := topS 21
abbrev n_is_least : List Str := ["bits", "meets", "i"]
theorem sf_is_least : scF2 n_is_least ["bits", "meets"] ["any", "parts_in"] s_is_least = true := by decide +kernel
theorem c_is_least : FnScope n_is_least ["bits", "meets"] (defScope s_is_least) := ⟨rfl, rfl, rfl, by decide +kernel, rfl, by decide +kernel, by decide +kernel⟩
abbrev s_law_cell : Stmt := topS 23
abbrev n_law_cell : List Str := ["_law_script", "_law_k", "_law_cell_here"]
theorem sf_law_cell : scF2 n_law_cell ["_law_script", "_law_k", "_law_cell_here"] ["len"] s_law_cell = true := by decide +kernel
theorem c_law_cell : FnScope n_law_cell ["_law_script", "_law_k"] (defScope s_law_cell) := ⟨rfl, rfl, rfl, by decide +kernel, rfl, by decide +kernel, by decide +kernel⟩
abbrev s_law_next : Stmt := topS 25
abbrev n_law_next : List Str := ["_law_draw"]
theorem sf_law_next : scF2 n_law_next ["_law_draw"] ["_law_cell"] s_law_next = true := by decide +kernel
theorem c_law_next : FnScope n_law_next ["_law_draw"] (defScope s_law_next) := ⟨rfl, rfl, rfl, by decide +kernel, rfl, by decide +kernel, by decide +kernel⟩
abbrev s_law_brought : Stmt := topS 26
abbrev n_law_brought : List Str := ["_law_draw", "_law_many", "_law_i", "_law_found", "_law_turn", "_law_number", "_law_j"]
theorem sf_law_brought : scF2 n_law_brought ["_law_draw", "_law_many", "_law_i", "_law_found", "_law_turn", "_law_number", "_law_j"] ["range", "_law_next", "tuple"] s_law_brought = true := by decide +kernel
theorem c_law_brought : FnScope n_law_brought ["_law_draw", "_law_many"] (defScope s_law_brought) := ⟨rfl, rfl, rfl, by decide +kernel, rfl, by decide +kernel, by decide +kernel⟩
abbrev s_law_tree : Stmt := topS 27
abbrev n_law_tree : List Str := ["_law_draw", "_law_most", "_law_many", "_law_rows", "_law_turn", "_law_number", "_law_left", "_law_children", "_law_k", "_law_more", "_law_at", "_law_i"]
theorem sf_law_tree : scF2 n_law_tree ["_law_draw", "_law_most", "_law_many", "_law_rows", "_law_turn", "_law_number", "_law_left", "_law_children", "_law_k", "_law_more", "_law_at"] ["_law_next", "range", "list", "len", "min", "tuple", "_law_brought"] s_law_tree = true := by decide +kernel
theorem c_law_tree : FnScope n_law_tree ["_law_draw", "_law_most"] (defScope s_law_tree) := ⟨rfl, rfl, rfl, by decide +kernel, rfl, by decide +kernel, by decide +kernel⟩
abbrev s_law_wide_tree : Stmt := topS 28
abbrev n_law_wide_tree : List Str := ["_law_draw", "_law_most", "_law_many", "_law_rows", "_law_turn", "_law_number", "_law_left", "_law_children", "_law_i", "_law_k"]
theorem sf_law_wide_tree : scF2 n_law_wide_tree ["_law_draw", "_law_most", "_law_many", "_law_rows", "_law_turn", "_law_number", "_law_left", "_law_children"] ["_law_next", "range", "list", "len", "tuple", "_law_brought"] s_law_wide_tree = true := by decide +kernel
theorem c_law_wide_tree : FnScope n_law_wide_tree ["_law_draw", "_law_most"] (defScope s_law_wide_tree) := ⟨rfl, rfl, rfl, by decide +kernel, rfl, by decide +kernel, by decide +kernel⟩
abbrev s_law_falls : Stmt := topS 29
abbrev n_law_falls : List Str := ["_law_tree_here", "_law_bits", "_law_failed", "_law_row", "_law_by", "_law_j", "_law_child"]
theorem sf_law_falls : scF2 n_law_falls ["_law_tree_here", "_law_bits", "_law_failed", "_law_row", "_law_by"] ["range"] s_law_falls = true := by decide +kernel
theorem c_law_falls : FnScope n_law_falls ["_law_tree_here", "_law_bits"] (defScope s_law_falls) := ⟨rfl, rfl, rfl, by decide +kernel, rfl, by decide +kernel, by decide +kernel⟩
abbrev s_law_least : Stmt := topS 30
abbrev n_law_least : List Str := ["_law_some", "_law_bits", "_law_known", "_law_found", "_law_own", "_law_k", "_law_count"]
theorem sf_law_least : scF2 n_law_least ["_law_some", "_law_bits", "_law_known", "_law_found", "_law_own"] ["dict", "range", "len", "tuple", "sorted"] s_law_least = true := by decide +kernel
theorem c_law_least : FnScope n_law_least ["_law_some"] (defScope s_law_least) := ⟨rfl, rfl, rfl, by decide +kernel, rfl, by decide +kernel, by decide +kernel⟩
abbrev s_law : Stmt := topS 31
abbrev n_law : List Str := ["_law_script", "_law_draw", "_law_turn", "_law_is_wide", "_law_tree_here", "_law_kept", "_law_many", "_law_fails", "_law_known", "_law_holds", "_law_one", "_law_other", "_law_again", "_law_bits"]
theorem sf_law : scF2 n_law ["_law_script", "_law_draw", "_law_turn", "_law_is_wide", "_law_tree_here", "_law_kept", "_law_many", "_law_fails", "_law_known", "_law_holds", "_law_one", "_law_other", "_law_again"] ["range", "len", "_law_cell", "_law_wide_tree", "_law_tree", "repr", "dict", "_law_least", "cuts", "keeps", "cross"] s_law = true := by decide +kernel
theorem c_law : FnScope n_law ["_law_script"] (defScope s_law) := ⟨rfl, rfl, rfl, by decide +kernel, rfl, by decide +kernel, by decide +kernel⟩
structure Mg (mg : Str → Option Value) : Prop where
  m_isinstance : mg "isinstance" = none
  m_int : mg "int" = none
  m_bool : mg "bool" = none
  m_range : mg "range" = none
  m_len : mg "len" = none
  m_tuple : mg "tuple" = none
  m_all : mg "all" = none
  m_sorted : mg "sorted" = none
  m_any : mg "any" = none
  m_list : mg "list" = none
  m_min : mg "min" = none
  m_dict : mg "dict" = none
  m_repr : mg "repr" = none
variable [Tabs] {P : Program} {w : World} {K : PySem.W.Frag} {mg : Str → Option Value} {base : Heap}
abbrev veB : List Value := [.type "ValueError", .type "Exception", .type "BaseException", .type "object"]
abbrev veN : String := "ValueError.__new__"
theorem ok_is_whole {f : Addr} {fd : FuncData} (F : Fun K "is_whole" "is_whole" s_is_whole f fd) (hm : mg "is_whole" = some (.ref f)) (T : Mg mg) : DnF P w K mg base 1 "is_whole" (u1 f_is_whole) := by
  refine dn_ofF F hm (F.binds (ps := ["thing"]) fun _ _ _ _ _ _ us hl => match us, hl with | [_], _ => rfl) ?_
  refine fn_okF F c_is_whole (fun ds hn => ?_) fun cdv A outer s H E B ds hr hn => ?_
  · obtain ⟨_, e⟩ := u1_inv hn; rw [e]; rfl
  obtain ⟨v_thing0, rfl⟩ := u1_inv hn
  clear hn
  have r0 : Rk (Xe P w K mg base n_is_whole "is_whole" s_is_whole f cdv A outer s H E) 0 "thing" := like_xe.rk (rk_of2 sf_is_whole rfl (by decide +kernel))
  have g_isinstance : Gl (Xe P w K mg base n_is_whole "is_whole" s_is_whole f cdv A outer s H E) "isinstance" := like_xe.gl (gl_of2 sf_is_whole (by decide +kernel))
  have b_isinstance : Bi (Xe P w K mg base n_is_whole "is_whole" s_is_whole f cdv A outer s H E) "isinstance" := ⟨g_isinstance, T.m_isinstance⟩
  have g_bool : Gl (Xe P w K mg base n_is_whole "is_whole" s_is_whole f cdv A outer s H E) "bool" := like_xe.gl (gl_of2 sf_is_whole (by decide +kernel))
  have b_bool : Bi (Xe P w K mg base n_is_whole "is_whole" s_is_whole f cdv A outer s H E) "bool" := ⟨g_bool, T.m_bool⟩
  have t_bool : Ty (Xe P w K mg base n_is_whole "is_whole" s_is_whole f cdv A outer s H E) "bool" .bool := ⟨b_bool, by decide +kernel, by decide +kernel, by decide +kernel⟩
  have g_int : Gl (Xe P w K mg base n_is_whole "is_whole" s_is_whole f cdv A outer s H E) "int" := like_xe.gl (gl_of2 sf_is_whole (by decide +kernel))
  have b_int : Bi (Xe P w K mg base n_is_whole "is_whole" s_is_whole f cdv A outer s H E) "int" := ⟨g_int, T.m_int⟩
  have t_int : Ty (Xe P w K mg base n_is_whole "is_whole" s_is_whole f cdv A outer s H E) "int" .int := ⟨b_int, by decide +kernel, by decide +kernel, by decide +kernel⟩
  replace hr : Room 0 (Xe P w K mg base n_is_whole "is_whole" s_is_whole f cdv A outer s H E).A := hr
  refine body_run (L := noL) (G := fun _ => []) (m := b_is_whole v_thing0) ?_
  unfold b_is_whole
  exact st_le (Γ1 := [.sh v_thing0]) (GmLe.refl _) (st_ret (ev_and (eb_isi b_isinstance t_int (ev_var r0)) (ev_one (ev_not (eb_isi b_isinstance t_bool (ev_var r0))))))
theorem ok_all_bits {f : Addr} {fd : FuncData} (F : Fun K "all_bits" "all_bits" s_all_bits f fd) (hm : mg "all_bits" = some (.ref f)) (T : Mg mg) : DnF P w K mg base 1 "all_bits" (u1 f_all_bits) := by
  refine dn_ofF F hm (F.binds (ps := ["many"]) fun _ _ _ _ _ _ us hl => match us, hl with | [_], _ => rfl) ?_
  refine fn_okF F c_all_bits (fun ds hn => ?_) fun cdv A outer s H E B ds hr hn => ?_
  · obtain ⟨_, e⟩ := u1_inv hn; rw [e]; rfl
  obtain ⟨v_many0, rfl⟩ := u1_inv hn
  clear hn
  have r0 : Rk (Xe P w K mg base n_all_bits "all_bits" s_all_bits f cdv A outer s H E) 0 "many" := like_xe.rk (rk_of2 sf_all_bits rfl (by decide +kernel))
  replace hr : Room 0 (Xe P w K mg base n_all_bits "all_bits" s_all_bits f cdv A outer s H E).A := hr
  refine body_run (L := noL) (G := fun _ => []) (m := b_all_bits v_many0) ?_
  unfold b_all_bits
  exact st_le (Γ1 := [.sh v_many0]) (GmLe.refl _) (st_ret (ev_sub (ev_shl ev_int (ev_var r0)) ev_int))
theorem ok_is_bits {f : Addr} {fd : FuncData} (F : Fun K "is_bits" "is_bits" s_is_bits f fd) (hm : mg "is_bits" = some (.ref f)) (T : Mg mg) (D_is_whole : DnF P w K mg base 1 "is_whole" (u1 f_is_whole)) (D_all_bits : DnF P w K mg base 1 "all_bits" (u1 f_all_bits)) : DnF P w K mg base 2 "is_bits" (u2 f_is_bits) := by
  refine dn_ofF F hm (F.binds (ps := ["thing", "many"]) fun _ _ _ _ _ _ us hl => match us, hl with | [_, _], _ => rfl) ?_
  refine fn_okF F c_is_bits (fun ds hn => ?_) fun cdv A outer s H E B ds hr hn => ?_
  · obtain ⟨_, _, e⟩ := u2_inv hn; rw [e]; rfl
  obtain ⟨v_thing0, v_many0, rfl⟩ := u2_inv hn
  clear hn
  have r0 : Rk (Xe P w K mg base n_is_bits "is_bits" s_is_bits f cdv A outer s H E) 0 "thing" := like_xe.rk (rk_of2 sf_is_bits rfl (by decide +kernel))
  have r1 : Rk (Xe P w K mg base n_is_bits "is_bits" s_is_bits f cdv A outer s H E) 1 "many" := like_xe.rk (rk_of2 sf_is_bits rfl (by decide +kernel))
  have c_all_bits : CeF (Xe P w K mg base n_is_bits "is_bits" s_is_bits f cdv A outer s H E) "all_bits" (u1 f_all_bits) := like_xe.ceF (ce_ofF D_all_bits hr (by decide) (by decide +kernel))
  have c_is_whole : CeF (Xe P w K mg base n_is_bits "is_bits" s_is_bits f cdv A outer s H E) "is_whole" (u1 f_is_whole) := like_xe.ceF (ce_ofF D_is_whole hr (by decide) (by decide +kernel))
  have g_all_bits : Gl (Xe P w K mg base n_is_bits "is_bits" s_is_bits f cdv A outer s H E) "all_bits" := like_xe.gl (gl_of2 sf_is_bits (by decide +kernel))
  have g_is_whole : Gl (Xe P w K mg base n_is_bits "is_bits" s_is_bits f cdv A outer s H E) "is_whole" := like_xe.gl (gl_of2 sf_is_bits (by decide +kernel))
  replace hr : Room 1 (Xe P w K mg base n_is_bits "is_bits" s_is_bits f cdv A outer s H E).A := hr
  refine body_run (L := noL) (G := fun _ => []) (m := b_is_bits v_thing0 v_many0) ?_
  unfold b_is_bits
  exact st_le (Γ1 := [.sh v_thing0, .sh v_many0]) (GmLe.refl _) (st_ret (ev_and (ev_call1 c_is_whole g_is_whole (ev_var r0)) (ev_one (ev_chain ck_le' ck_le' ev_int (ev_var r0) (ev_call1 c_all_bits g_all_bits (ev_var r1))))))
theorem ok_parts_in {f : Addr} {fd : FuncData} (F : Fun K "parts_in" "parts_in" s_parts_in f fd) (hm : mg "parts_in" = some (.ref f)) (T : Mg mg) : DnF P w K mg base 1 "parts_in" (u1 f_parts_in) := by
  refine dn_ofF F hm (F.binds (ps := ["bits"]) fun _ _ _ _ _ _ us hl => match us, hl with | [_], _ => rfl) ?_
  refine fn_okF F c_parts_in (fun ds hn => ?_) fun cdv A outer s H E B ds hr hn => ?_
  · obtain ⟨_, e⟩ := u1_inv hn; rw [e]; rfl
  obtain ⟨v_bits0, rfl⟩ := u1_inv hn
  clear hn
  have r0 : Rk (Xe P w K mg base n_parts_in "parts_in" s_parts_in f cdv A outer s H E) 0 "bits" := like_xe.rk (rk_of2 sf_parts_in rfl (by decide +kernel))
  have g_range : Gl (Xe P w K mg base n_parts_in "parts_in" s_parts_in f cdv A outer s H E) "range" := like_xe.gl (gl_of2 sf_parts_in (by decide +kernel))
  have b_range : Bi (Xe P w K mg base n_parts_in "parts_in" s_parts_in f cdv A outer s H E) "range" := ⟨g_range, T.m_range⟩
  replace hr : Room 0 (Xe P w K mg base n_parts_in "parts_in" s_parts_in f cdv A outer s H E).A := hr
  refine body_run (L := noL) (G := fun _ => []) (m := b_parts_in v_bits0) ?_
  unfold b_parts_in
  exact st_le (Γ1 := [.sh v_bits0, .un]) (GmLe.refl _) (st_ret (ev_liR (el_lc (own := [("i", 1)]) (G := fun (k1 : PyData) => [.sh v_bits0, .sh k1]) hr c_parts_in.nd (blkOk_by (N := n_parts_in) (sc := defScope s_parts_in) (by decide +kernel)) (ei_rng1 b_range (ev_bits (ev_var r0))) (fun _ b2 => (tg_name (b2.lk c_parts_in.nd (i := 1) rfl rfl) fun _ => rfl)) (fun _ b2 _ k1 => ⟨(eq_one (et_tru (ev_band (ev_shr (ev_var (b2.rk (i := 0) rfl rfl)) (ev_var (b2.rk (i := 1) rfl rfl))) ev_int))), (ev_var (b2.rk (i := 1) rfl rfl))⟩))))
theorem ok_many_in {f : Addr} {fd : FuncData} (F : Fun K "many_in" "many_in" s_many_in f fd) (hm : mg "many_in" = some (.ref f)) (T : Mg mg) (D_parts_in : DnF P w K mg base 1 "parts_in" (u1 f_parts_in)) : DnF P w K mg base 2 "many_in" (u1 f_many_in) := by
  refine dn_ofF F hm (F.binds (ps := ["bits"]) fun _ _ _ _ _ _ us hl => match us, hl with | [_], _ => rfl) ?_
  refine fn_okF F c_many_in (fun ds hn => ?_) fun cdv A outer s H E B ds hr hn => ?_
  · obtain ⟨_, e⟩ := u1_inv hn; rw [e]; rfl
  obtain ⟨v_bits0, rfl⟩ := u1_inv hn
  clear hn
  have r0 : Rk (Xe P w K mg base n_many_in "many_in" s_many_in f cdv A outer s H E) 0 "bits" := like_xe.rk (rk_of2 sf_many_in rfl (by decide +kernel))
  have g_len : Gl (Xe P w K mg base n_many_in "many_in" s_many_in f cdv A outer s H E) "len" := like_xe.gl (gl_of2 sf_many_in (by decide +kernel))
  have b_len : Bi (Xe P w K mg base n_many_in "many_in" s_many_in f cdv A outer s H E) "len" := ⟨g_len, T.m_len⟩
  have c_parts_in : CeF (Xe P w K mg base n_many_in "many_in" s_many_in f cdv A outer s H E) "parts_in" (u1 f_parts_in) := like_xe.ceF (ce_ofF D_parts_in hr (by decide) (by decide +kernel))
  have g_parts_in : Gl (Xe P w K mg base n_many_in "many_in" s_many_in f cdv A outer s H E) "parts_in" := like_xe.gl (gl_of2 sf_many_in (by decide +kernel))
  replace hr : Room 1 (Xe P w K mg base n_many_in "many_in" s_many_in f cdv A outer s H E).A := hr
  refine body_run (L := noL) (G := fun _ => []) (m := b_many_in v_bits0) ?_
  unfold b_many_in
  exact st_le (Γ1 := [.sh v_bits0]) (GmLe.refl _) (st_ret (eb_len b_len (ev_call1 c_parts_in g_parts_in (ev_var r0))))
theorem ok_all_brought {f : Addr} {fd : FuncData} (F : Fun K "all_brought" "all_brought" s_all_brought f fd) (hm : mg "all_brought" = some (.ref f)) (T : Mg mg) (D_parts_in : DnF P w K mg base 1 "parts_in" (u1 f_parts_in)) : DnF P w K mg base 2 "all_brought" (u2 f_all_brought) := by
  refine dn_ofF F hm (F.binds (ps := ["tree", "bits"]) fun _ _ _ _ _ _ us hl => match us, hl with | [_, _], _ => rfl) ?_
  refine fn_okF F c_all_brought (fun ds hn => ?_) fun cdv A outer s H E B ds hr hn => ?_
  · obtain ⟨_, _, e⟩ := u2_inv hn; rw [e]; rfl
  obtain ⟨v_tree0, v_bits0, rfl⟩ := u2_inv hn
  clear hn
  have l2 : Lk (Xe P w K mg base n_all_brought "all_brought" s_all_brought f cdv A outer s H E) 2 "found" := like_xe.lk (lk_of2 sf_all_brought rfl (by decide +kernel))
  have l3 : Lk (Xe P w K mg base n_all_brought "all_brought" s_all_brought f cdv A outer s H E) 3 "i" := like_xe.lk (lk_of2 sf_all_brought rfl (by decide +kernel))
  have r0 : Rk (Xe P w K mg base n_all_brought "all_brought" s_all_brought f cdv A outer s H E) 0 "tree" := like_xe.rk (rk_of2 sf_all_brought rfl (by decide +kernel))
  have r1 : Rk (Xe P w K mg base n_all_brought "all_brought" s_all_brought f cdv A outer s H E) 1 "bits" := like_xe.rk (rk_of2 sf_all_brought rfl (by decide +kernel))
  have r2 : Rk (Xe P w K mg base n_all_brought "all_brought" s_all_brought f cdv A outer s H E) 2 "found" := like_xe.rk (rk_of2 sf_all_brought rfl (by decide +kernel))
  have r3 : Rk (Xe P w K mg base n_all_brought "all_brought" s_all_brought f cdv A outer s H E) 3 "i" := like_xe.rk (rk_of2 sf_all_brought rfl (by decide +kernel))
  have c_parts_in : CeF (Xe P w K mg base n_all_brought "all_brought" s_all_brought f cdv A outer s H E) "parts_in" (u1 f_parts_in) := like_xe.ceF (ce_ofF D_parts_in hr (by decide) (by decide +kernel))
  have g_parts_in : Gl (Xe P w K mg base n_all_brought "all_brought" s_all_brought f cdv A outer s H E) "parts_in" := like_xe.gl (gl_of2 sf_all_brought (by decide +kernel))
  have po : PassesOwn (model (Xe P w K mg base n_all_brought "all_brought" s_all_brought f cdv A outer s H E).prog (Xe P w K mg base n_all_brought "all_brought" s_all_brought f cdv A outer s H E).w) (Xe P w K mg base n_all_brought "all_brought" s_all_brought f cdv A outer s H E).A (Xe P w K mg base n_all_brought "all_brought" s_all_brought f cdv A outer s H E).env (Xe P w K mg base n_all_brought "all_brought" s_all_brought f cdv A outer s H E).xe := pass_e
  replace hr : Room 1 (Xe P w K mg base n_all_brought "all_brought" s_all_brought f cdv A outer s H E).A := hr
  refine body_run (L := noL) (G := fun _ => []) (m := b_all_brought v_tree0 v_bits0) ?_
  unfold b_all_brought
  exact st_le (Γ1 := [.sh v_tree0, .sh v_bits0, .un, .un]) (GmLe.refl _) (st_set l2 ev_int (fun (v_found1 : PyData) => [.sh v_tree0, .sh v_bits0, .sh v_found1, .un]) (fun v_found1 => (st_for po (ei_any (ev_call1 c_parts_in g_parts_in (ev_var r1))) (fun (s2 : PyData) => [.sh v_tree0, .sh v_bits0, .sh s2, .un]) (fun (s2 : PyData) (k3 : PyData) => [.sh v_tree0, .sh v_bits0, .sh s2, .sh k3]) (fun s2 => (tg_name l3 fun _ => rfl)) (fun _ s2 k3 => (st_set l2 (ev_bor (ev_var r2) (ev_ix (ev_ix (ev_var r0) ev_int) (ev_var r3))) (fun (v_found4 : PyData) => [.sh v_tree0, .sh v_bits0, .sh v_found4, .sh k3]) (fun v_found4 => (st_nil (.eq (.eq (.eq (.un .nil)))))))) (.eq (.eq (.eq (.eq .nil)))) (fun s2 => (st_ret (ev_var r2))))))
theorem ok_row_fails {f : Addr} {fd : FuncData} (F : Fun K "row_fails" "row_fails" s_row_fails f fd) (hm : mg "row_fails" = some (.ref f)) (T : Mg mg) : DnF P w K mg base 1 "row_fails" (u3 f_row_fails) := by
  refine dn_ofF F hm (F.binds (ps := ["row", "failing", "fails"]) fun _ _ _ _ _ _ us hl => match us, hl with | [_, _, _], _ => rfl) ?_
  refine fn_okF F c_row_fails (fun ds hn => ?_) fun cdv A outer s H E B ds hr hn => ?_
  · obtain ⟨_, _, _, e⟩ := u3_inv hn; rw [e]; rfl
  obtain ⟨v_row0, v_failing0, v_fails0, rfl⟩ := u3_inv hn
  clear hn
  have r0 : Rk (Xe P w K mg base n_row_fails "row_fails" s_row_fails f cdv A outer s H E) 0 "row" := like_xe.rk (rk_of2 sf_row_fails rfl (by decide +kernel))
  have r1 : Rk (Xe P w K mg base n_row_fails "row_fails" s_row_fails f cdv A outer s H E) 1 "failing" := like_xe.rk (rk_of2 sf_row_fails rfl (by decide +kernel))
  have rm : Rm (Xe P w K mg base n_row_fails "row_fails" s_row_fails f cdv A outer s H E) := ⟨hr.units⟩
  replace hr : Room 0 (Xe P w K mg base n_row_fails "row_fails" s_row_fails f cdv A outer s H E).A := hr
  refine body_run (L := noL) (G := fun _ => []) (m := b_row_fails v_row0 v_failing0 v_fails0) ?_
  unfold b_row_fails
  exact st_le (Γ1 := [.sh v_row0, .sh v_failing0, .sh v_fails0, .un]) (GmLe.refl _) (st_if (et_cmp (ck_eq' rm) (ev_ix (ev_var r0) ev_int) ev_str) (fun (t1 : Unit) => [.sh v_row0, .sh v_failing0, .sh v_fails0, .un]) (st_ret (ev_cmp (ck_eq' rm) (ev_band (ev_shr (ev_var r1) (ev_ix (ev_var r0) ev_int)) ev_int) ev_int)) (st_nil (.eq (.eq (.eq (.eq .nil))))) (fun t1 => (st_ret (ev_cmp ck_ge' (ev_count (ev_liR (el_lc (own := [("child", 3)]) (G := fun (k2 : PyData) => [.sh v_row0, .sh v_failing0, .sh v_fails0, .sh k2]) hr c_row_fails.nd (blkOk_by (N := n_row_fails) (sc := defScope s_row_fails) (by decide +kernel)) (ei_any (ev_ix (ev_var r0) ev_int)) (fun _ b3 => (tg_name (b3.lk c_row_fails.nd (i := 3) rfl rfl) fun _ => rfl)) (fun _ b3 _ k2 => ⟨eq_nil, (ev_ix (ev_var (b3.rk (i := 2) rfl rfl)) (ev_var (b3.rk (i := 3) rfl rfl)))⟩))) ev_bl) (ev_ix (ev_var r0) ev_int)))))
theorem ok_falls {f : Addr} {fd : FuncData} (F : Fun K "falls" "falls" s_falls f fd) (hm : mg "falls" = some (.ref f)) (T : Mg mg) (D_all_brought : DnF P w K mg base 2 "all_brought" (u2 f_all_brought)) (D_row_fails : DnF P w K mg base 1 "row_fails" (u3 f_row_fails)) : DnF P w K mg base 3 "falls" (u2 f_falls) := by
  refine dn_ofF F hm (F.binds (ps := ["tree", "bits"]) fun _ _ _ _ _ _ us hl => match us, hl with | [_, _], _ => rfl) ?_
  refine fn_okF F c_falls (fun ds hn => ?_) fun cdv A outer s H E B ds hr hn => ?_
  · obtain ⟨_, _, e⟩ := u2_inv hn; rw [e]; rfl
  obtain ⟨v_tree0, v_bits0, rfl⟩ := u2_inv hn
  clear hn
  have l2 : Lk (Xe P w K mg base n_falls "falls" s_falls f cdv A outer s H E) 2 "failing" := like_xe.lk (lk_of2 sf_falls rfl (by decide +kernel))
  have l3 : Lk (Xe P w K mg base n_falls "falls" s_falls f cdv A outer s H E) 3 "fails" := like_xe.lk (lk_of2 sf_falls rfl (by decide +kernel))
  have l4 : Lk (Xe P w K mg base n_falls "falls" s_falls f cdv A outer s H E) 4 "row" := like_xe.lk (lk_of2 sf_falls rfl (by decide +kernel))
  have r0 : Rk (Xe P w K mg base n_falls "falls" s_falls f cdv A outer s H E) 0 "tree" := like_xe.rk (rk_of2 sf_falls rfl (by decide +kernel))
  have r1 : Rk (Xe P w K mg base n_falls "falls" s_falls f cdv A outer s H E) 1 "bits" := like_xe.rk (rk_of2 sf_falls rfl (by decide +kernel))
  have r2 : Rk (Xe P w K mg base n_falls "falls" s_falls f cdv A outer s H E) 2 "failing" := like_xe.rk (rk_of2 sf_falls rfl (by decide +kernel))
  have r3 : Rk (Xe P w K mg base n_falls "falls" s_falls f cdv A outer s H E) 3 "fails" := like_xe.rk (rk_of2 sf_falls rfl (by decide +kernel))
  have r4 : Rk (Xe P w K mg base n_falls "falls" s_falls f cdv A outer s H E) 4 "row" := like_xe.rk (rk_of2 sf_falls rfl (by decide +kernel))
  have c_all_brought : CeF (Xe P w K mg base n_falls "falls" s_falls f cdv A outer s H E) "all_brought" (u2 f_all_brought) := like_xe.ceF (ce_ofF D_all_brought hr (by decide) (by decide +kernel))
  have c_row_fails : CeF (Xe P w K mg base n_falls "falls" s_falls f cdv A outer s H E) "row_fails" (u3 f_row_fails) := like_xe.ceF (ce_ofF D_row_fails hr (by decide) (by decide +kernel))
  have g_all_brought : Gl (Xe P w K mg base n_falls "falls" s_falls f cdv A outer s H E) "all_brought" := like_xe.gl (gl_of2 sf_falls (by decide +kernel))
  have g_row_fails : Gl (Xe P w K mg base n_falls "falls" s_falls f cdv A outer s H E) "row_fails" := like_xe.gl (gl_of2 sf_falls (by decide +kernel))
  have po : PassesOwn (model (Xe P w K mg base n_falls "falls" s_falls f cdv A outer s H E).prog (Xe P w K mg base n_falls "falls" s_falls f cdv A outer s H E).w) (Xe P w K mg base n_falls "falls" s_falls f cdv A outer s H E).A (Xe P w K mg base n_falls "falls" s_falls f cdv A outer s H E).env (Xe P w K mg base n_falls "falls" s_falls f cdv A outer s H E).xe := pass_e
  replace hr : Room 2 (Xe P w K mg base n_falls "falls" s_falls f cdv A outer s H E).A := hr
  refine body_run (L := noL) (G := fun _ => []) (m := b_falls v_tree0 v_bits0) ?_
  unfold b_falls
  exact st_le (Γ1 := [.sh v_tree0, .sh v_bits0, .un, .un, .un]) (GmLe.refl _) (st_set l2 (ev_call2 c_all_brought g_all_brought (ev_var r0) (ev_var r1)) (fun (v_failing1 : PyData) => [.sh v_tree0, .sh v_bits0, .sh v_failing1, .un, .un]) (fun v_failing1 => (st_setO l3 (el_lst ea_nil) (fun (v_fails2 : List PyData) => [.sh v_tree0, .sh v_bits0, .sh v_failing1, .ow v_fails2, .un]) (fun v_fails2 => (st_for po (ei_any (ev_ix (ev_var r0) ev_int)) (fun (s3 : List PyData) => [.sh v_tree0, .sh v_bits0, .sh v_failing1, .ow s3, .un]) (fun (s3 : List PyData) (k4 : PyData) => [.sh v_tree0, .sh v_bits0, .sh v_failing1, .ow s3, .sh k4]) (fun s3 => (tg_name l4 fun _ => rfl)) (fun _ s3 k4 => (st_appG (i := 3) r3 (ev_loanG (i := 3) rfl (ev_call3 c_row_fails g_row_fails (ev_var r4) (ev_var r2) (ev_var r3))) (fun v_fails5 => [.sh v_tree0, .sh v_bits0, .sh v_failing1, .ow v_fails5, .sh k4]) (fun v_fails5 => (st_nil (.eq (.eq (.eq (.eq (.un .nil))))))))) (.eq (.eq (.eq (.eq (.eq .nil))))) (fun s3 => (st_freeG (i := 3) (st_ret (ev_ix (ev_var r3) (ev_neg ev_int))))))))))
theorem ok_is_least {f : Addr} {fd : FuncData} {cc tt : Addr} (F : FunC K "is_least" "is_least" s_is_least f fd (.ref cc)) (TB : GxR.TabB base mg cc tt) (tsT : Tabs.ts tt) (hm : mg "is_least" = some (.ref f)) (T : Mg mg) (D_parts_in : DnF P w K mg base 1 "parts_in" (u1 f_parts_in)) : DnF P w K mg base 2 "is_least" (u2 f_is_least) := by
  refine dn_ofF F.fn hm (F.fn.binds (ps := ["bits", "meets"]) fun _ _ _ _ _ _ us hl => match us, hl with | [_, _], _ => rfl) ?_
  refine fn_okGF F c_is_least (fun ds hn => ?_) fun A outer s H E B ds hr hn => ?_
  · obtain ⟨_, _, e⟩ := u2_inv hn; rw [e]; rfl
  obtain ⟨v_bits0, v_meets0, rfl⟩ := u2_inv hn
  clear hn
  have r0 : Rk (Xe P w K mg base n_is_least "is_least" s_is_least f (.ref cc) A outer s H E) 0 "bits" := like_xe.rk (rk_of2 sf_is_least rfl (by decide +kernel))
  have r1 : Rk (Xe P w K mg base n_is_least "is_least" s_is_least f (.ref cc) A outer s H E) 1 "meets" := like_xe.rk (rk_of2 sf_is_least rfl (by decide +kernel))
  have g_any : Gl (Xe P w K mg base n_is_least "is_least" s_is_least f (.ref cc) A outer s H E) "any" := like_xe.gl (gl_of2 sf_is_least (by decide +kernel))
  have b_any : Bi (Xe P w K mg base n_is_least "is_least" s_is_least f (.ref cc) A outer s H E) "any" := ⟨g_any, T.m_any⟩
  have c_parts_in : CeF (Xe P w K mg base n_is_least "is_least" s_is_least f (.ref cc) A outer s H E) "parts_in" (u1 f_parts_in) := like_xe.ceF (ce_ofF D_parts_in hr (by decide) (by decide +kernel))
  have g_parts_in : Gl (Xe P w K mg base n_is_least "is_least" s_is_least f (.ref cc) A outer s H E) "parts_in" := like_xe.gl (gl_of2 sf_is_least (by decide +kernel))
  have gx : Gx (Xe P w K mg base n_is_least "is_least" s_is_least f (.ref cc) A outer s H E) cc tt := ⟨TB, tsT, rfl, _, hr⟩
  replace hr : Room 1 (Xe P w K mg base n_is_least "is_least" s_is_least f (.ref cc) A outer s H E).A := hr
  refine body_run (L := noL) (G := fun _ => []) (m := b_is_least v_bits0 v_meets0) ?_
  unfold b_is_least
  exact st_le (Γ1 := [.sh v_bits0, .sh v_meets0, .un]) (GmLe.refl _) (st_ret (ev_and (ev_ix (ev_var r1) (ev_var r0)) (ev_one (ev_not (ev_any (own := [("i", 2)]) (G := fun (k1 : PyData) => [.sh v_bits0, .sh v_meets0, .sh k1]) hr (by decide : 0 + 1 ≤ 1) gx b_any (gsc_by (N := n_is_least) (sc := defScope s_is_least) (by decide +kernel)) (ei_any (ev_call1 c_parts_in g_parts_in (ev_var r0))) (fun _ b2 => (tg_name (b2.lk c_is_least.nd (i := 2) rfl rfl) fun _ => rfl)) (fun _ b2 k1 => (ev_ix (ev_var (b2.rk (i := 1) rfl rfl)) (ev_xor (ev_var (b2.rk (i := 0) rfl rfl)) (ev_shl ev_int (ev_var (b2.rk (i := 2) rfl rfl)))))))))))
theorem ok_least_of {f : Addr} {fd : FuncData} (F : Fun K "least_of" "least_of" s_least_of f fd) (hm : mg "least_of" = some (.ref f)) (T : Mg mg) (D_is_least : DnF P w K mg base 2 "is_least" (u2 f_is_least)) (D_many_in : DnF P w K mg base 2 "many_in" (u1 f_many_in)) : DnF P w K mg base 5 "least_of" (u1 f_least_of) := by
  refine dn_ofF F hm (F.binds (ps := ["meets"]) fun _ _ _ _ _ _ us hl => match us, hl with | [_], _ => rfl) ?_
  refine fn_okF F c_least_of (fun ds hn => ?_) fun cdv A outer s H E B ds hr hn => ?_
  · obtain ⟨_, e⟩ := u1_inv hn; rw [e]; rfl
  obtain ⟨v_meets0, rfl⟩ := u1_inv hn
  clear hn
  have l1 : Lk (Xe P w K mg base n_least_of "least_of" s_least_of f cdv A outer s H E) 1 "found" := like_xe.lk (lk_of2 sf_least_of rfl (by decide +kernel))
  have r0 : Rk (Xe P w K mg base n_least_of "least_of" s_least_of f cdv A outer s H E) 0 "meets" := like_xe.rk (rk_of2 sf_least_of rfl (by decide +kernel))
  have r1 : Rk (Xe P w K mg base n_least_of "least_of" s_least_of f cdv A outer s H E) 1 "found" := like_xe.rk (rk_of2 sf_least_of rfl (by decide +kernel))
  have g_len : Gl (Xe P w K mg base n_least_of "least_of" s_least_of f cdv A outer s H E) "len" := like_xe.gl (gl_of2 sf_least_of (by decide +kernel))
  have b_len : Bi (Xe P w K mg base n_least_of "least_of" s_least_of f cdv A outer s H E) "len" := ⟨g_len, T.m_len⟩
  have g_range : Gl (Xe P w K mg base n_least_of "least_of" s_least_of f cdv A outer s H E) "range" := like_xe.gl (gl_of2 sf_least_of (by decide +kernel))
  have b_range : Bi (Xe P w K mg base n_least_of "least_of" s_least_of f cdv A outer s H E) "range" := ⟨g_range, T.m_range⟩
  have g_sorted : Gl (Xe P w K mg base n_least_of "least_of" s_least_of f cdv A outer s H E) "sorted" := like_xe.gl (gl_of2 sf_least_of (by decide +kernel))
  have b_sorted : Bi (Xe P w K mg base n_least_of "least_of" s_least_of f cdv A outer s H E) "sorted" := ⟨g_sorted, T.m_sorted⟩
  have g_tuple : Gl (Xe P w K mg base n_least_of "least_of" s_least_of f cdv A outer s H E) "tuple" := like_xe.gl (gl_of2 sf_least_of (by decide +kernel))
  have b_tuple : Bi (Xe P w K mg base n_least_of "least_of" s_least_of f cdv A outer s H E) "tuple" := ⟨g_tuple, T.m_tuple⟩
  have c_many_in : CeK (Xe P w K mg base n_least_of "least_of" s_least_of f cdv A outer s H E) "many_in" (fun ds d => u1 f_many_in ds = .ok d) := like_xe.ceK (cek_ofF (X := (Xc P w K mg base n_least_of "least_of" s_least_of f cdv A outer s H E)) D_many_in hr (by decide) (by decide +kernel))
  have g_many_in : Gl (Xe P w K mg base n_least_of "least_of" s_least_of f cdv A outer s H E) "many_in" := like_xe.gl (gl_of2 sf_least_of (by decide +kernel))
  have rm : Rm (Xe P w K mg base n_least_of "least_of" s_least_of f cdv A outer s H E) := ⟨hr.units⟩
  replace hr : Room 4 (Xe P w K mg base n_least_of "least_of" s_least_of f cdv A outer s H E).A := hr
  refine body_run (L := noL) (G := fun _ => []) (m := b_least_of v_meets0) ?_
  unfold b_least_of
  exact st_le (Γ1 := [.sh v_meets0, .un, .un]) (GmLe.refl _) (st_setLc false (own := [("bits", 2)]) (Gk := fun (k1 : PyData) => [.sh v_meets0, .un, .sh k1]) hr l1 (blkOk_by (N := n_least_of) (sc := defScope s_least_of) (by decide +kernel)) (ei_rng1 b_range (eb_len b_len (ev_var r0))) (fun _ b2 => (tg_name (b2.lk c_least_of.nd (i := 2) rfl rfl) fun _ => rfl)) (fun _ b2 _ k1 => ⟨(eq_one (et_tru (ev_call2 (b2.ceF D_is_least (by decide) (by decide +kernel)) (b2.gl rfl) (ev_var (b2.rk (i := 2) rfl rfl)) (ev_var (b2.rk (i := 0) rfl rfl))))), (ev_var (b2.rk (i := 2) rfl rfl))⟩) (fun v_found3 => [.sh v_meets0, .sh (.list v_found3), .un]) (fun v_found3 => (st_ret (eb_tuple b_tuple (ev_liR (el_sortedK c_many_in g_many_in rm b_sorted (ev_var r1)))))))
theorem ok_cuts {f : Addr} {fd : FuncData} (F : Fun K "cuts" "cuts" s_cuts f fd) (hm : mg "cuts" = some (.ref f)) (T : Mg mg) (D_least_of : DnF P w K mg base 5 "least_of" (u1 f_least_of)) (D_falls : DnF P w K mg base 3 "falls" (u2 f_falls)) : DnF P w K mg base 6 "cuts" (u1 f_cuts) := by
  refine dn_ofF F hm (F.binds (ps := ["tree"]) fun _ _ _ _ _ _ us hl => match us, hl with | [_], _ => rfl) ?_
  refine fn_okF F c_cuts (fun ds hn => ?_) fun cdv A outer s H E B ds hr hn => ?_
  · obtain ⟨_, e⟩ := u1_inv hn; rw [e]; rfl
  obtain ⟨v_tree0, rfl⟩ := u1_inv hn
  clear hn
  have r0 : Rk (Xe P w K mg base n_cuts "cuts" s_cuts f cdv A outer s H E) 0 "tree" := like_xe.rk (rk_of2 sf_cuts rfl (by decide +kernel))
  have g_range : Gl (Xe P w K mg base n_cuts "cuts" s_cuts f cdv A outer s H E) "range" := like_xe.gl (gl_of2 sf_cuts (by decide +kernel))
  have b_range : Bi (Xe P w K mg base n_cuts "cuts" s_cuts f cdv A outer s H E) "range" := ⟨g_range, T.m_range⟩
  have c_least_of : CeF (Xe P w K mg base n_cuts "cuts" s_cuts f cdv A outer s H E) "least_of" (u1 f_least_of) := like_xe.ceF (ce_ofF D_least_of hr (by decide) (by decide +kernel))
  have g_least_of : Gl (Xe P w K mg base n_cuts "cuts" s_cuts f cdv A outer s H E) "least_of" := like_xe.gl (gl_of2 sf_cuts (by decide +kernel))
  replace hr : Room 5 (Xe P w K mg base n_cuts "cuts" s_cuts f cdv A outer s H E).A := hr
  refine body_run (L := noL) (G := fun _ => []) (m := b_cuts v_tree0) ?_
  unfold b_cuts
  exact st_le (Γ1 := [.sh v_tree0, .un]) (GmLe.refl _) (st_ret (ev_call1 c_least_of g_least_of (ev_liR (el_lc (own := [("bits", 1)]) (G := fun (k1 : PyData) => [.sh v_tree0, .sh k1]) hr c_cuts.nd (blkOk_by (N := n_cuts) (sc := defScope s_cuts) (by decide +kernel)) (ei_rng1 b_range (ev_shl ev_int (ev_ix (ev_var r0) ev_int))) (fun _ b2 => (tg_name (b2.lk c_cuts.nd (i := 1) rfl rfl) fun _ => rfl)) (fun _ b2 _ k1 => ⟨eq_nil, (ev_call2 (b2.ceF D_falls (by decide) (by decide +kernel)) (b2.gl rfl) (ev_var (b2.rk (i := 0) rfl rfl)) (ev_var (b2.rk (i := 1) rfl rfl)))⟩)))))
theorem ok_keeps {f : Addr} {fd : FuncData} (F : Fun K "keeps" "keeps" s_keeps f fd) (hm : mg "keeps" = some (.ref f)) (T : Mg mg) (D_all_bits : DnF P w K mg base 1 "all_bits" (u1 f_all_bits)) (D_least_of : DnF P w K mg base 5 "least_of" (u1 f_least_of)) (D_falls : DnF P w K mg base 3 "falls" (u2 f_falls)) : DnF P w K mg base 6 "keeps" (u1 f_keeps) := by
  refine dn_ofF F hm (F.binds (ps := ["tree"]) fun _ _ _ _ _ _ us hl => match us, hl with | [_], _ => rfl) ?_
  refine fn_okF F c_keeps (fun ds hn => ?_) fun cdv A outer s H E B ds hr hn => ?_
  · obtain ⟨_, e⟩ := u1_inv hn; rw [e]; rfl
  obtain ⟨v_tree0, rfl⟩ := u1_inv hn
  clear hn
  have l1 : Lk (Xe P w K mg base n_keeps "keeps" s_keeps f cdv A outer s H E) 1 "every" := like_xe.lk (lk_of2 sf_keeps rfl (by decide +kernel))
  have r0 : Rk (Xe P w K mg base n_keeps "keeps" s_keeps f cdv A outer s H E) 0 "tree" := like_xe.rk (rk_of2 sf_keeps rfl (by decide +kernel))
  have g_range : Gl (Xe P w K mg base n_keeps "keeps" s_keeps f cdv A outer s H E) "range" := like_xe.gl (gl_of2 sf_keeps (by decide +kernel))
  have b_range : Bi (Xe P w K mg base n_keeps "keeps" s_keeps f cdv A outer s H E) "range" := ⟨g_range, T.m_range⟩
  have c_all_bits : CeF (Xe P w K mg base n_keeps "keeps" s_keeps f cdv A outer s H E) "all_bits" (u1 f_all_bits) := like_xe.ceF (ce_ofF D_all_bits hr (by decide) (by decide +kernel))
  have c_least_of : CeF (Xe P w K mg base n_keeps "keeps" s_keeps f cdv A outer s H E) "least_of" (u1 f_least_of) := like_xe.ceF (ce_ofF D_least_of hr (by decide) (by decide +kernel))
  have g_all_bits : Gl (Xe P w K mg base n_keeps "keeps" s_keeps f cdv A outer s H E) "all_bits" := like_xe.gl (gl_of2 sf_keeps (by decide +kernel))
  have g_least_of : Gl (Xe P w K mg base n_keeps "keeps" s_keeps f cdv A outer s H E) "least_of" := like_xe.gl (gl_of2 sf_keeps (by decide +kernel))
  replace hr : Room 5 (Xe P w K mg base n_keeps "keeps" s_keeps f cdv A outer s H E).A := hr
  refine body_run (L := noL) (G := fun _ => []) (m := b_keeps v_tree0) ?_
  unfold b_keeps
  exact st_le (Γ1 := [.sh v_tree0, .un, .un]) (GmLe.refl _) (st_set l1 (ev_call1 c_all_bits g_all_bits (ev_ix (ev_var r0) ev_int)) (fun (v_every1 : PyData) => [.sh v_tree0, .sh v_every1, .un]) (fun v_every1 => (st_ret (ev_call1 c_least_of g_least_of (ev_liR (el_lc (own := [("bits", 2)]) (G := fun (k2 : PyData) => [.sh v_tree0, .sh v_every1, .sh k2]) hr c_keeps.nd (blkOk_by (N := n_keeps) (sc := defScope s_keeps) (by decide +kernel)) (ei_rng1 b_range (ev_shl ev_int (ev_ix (ev_var r0) ev_int))) (fun _ b3 => (tg_name (b3.lk c_keeps.nd (i := 2) rfl rfl) fun _ => rfl)) (fun _ b3 _ k2 => ⟨eq_nil, (ev_not (ev_call2 (b3.ceF D_falls (by decide) (by decide +kernel)) (b3.gl rfl) (ev_var (b3.rk (i := 0) rfl rfl)) (ev_sub (ev_var (b3.rk (i := 1) rfl rfl)) (ev_var (b3.rk (i := 2) rfl rfl)))))⟩)))))))
theorem ok_crosses {f : Addr} {fd : FuncData} {cc tt : Addr} (F : FunC K "crosses" "crosses" s_crosses f fd (.ref cc)) (TB : GxR.TabB base mg cc tt) (tsT : Tabs.ts tt) (hm : mg "crosses" = some (.ref f)) (T : Mg mg) : DnF P w K mg base 2 "crosses" (u2 f_crosses) := by
  refine dn_ofF F.fn hm (F.fn.binds (ps := ["bits", "sets"]) fun _ _ _ _ _ _ us hl => match us, hl with | [_, _], _ => rfl) ?_
  refine fn_okGF F c_crosses (fun ds hn => ?_) fun A outer s H E B ds hr hn => ?_
  · obtain ⟨_, _, e⟩ := u2_inv hn; rw [e]; rfl
  obtain ⟨v_bits0, v_sets0, rfl⟩ := u2_inv hn
  clear hn
  have r1 : Rk (Xe P w K mg base n_crosses "crosses" s_crosses f (.ref cc) A outer s H E) 1 "sets" := like_xe.rk (rk_of2 sf_crosses rfl (by decide +kernel))
  have g_all : Gl (Xe P w K mg base n_crosses "crosses" s_crosses f (.ref cc) A outer s H E) "all" := like_xe.gl (gl_of2 sf_crosses (by decide +kernel))
  have b_all : Bi (Xe P w K mg base n_crosses "crosses" s_crosses f (.ref cc) A outer s H E) "all" := ⟨g_all, T.m_all⟩
  have gx : Gx (Xe P w K mg base n_crosses "crosses" s_crosses f (.ref cc) A outer s H E) cc tt := ⟨TB, tsT, rfl, _, hr⟩
  replace hr : Room 1 (Xe P w K mg base n_crosses "crosses" s_crosses f (.ref cc) A outer s H E).A := hr
  refine body_run (L := noL) (G := fun _ => []) (m := b_crosses v_bits0 v_sets0) ?_
  unfold b_crosses
  exact st_le (Γ1 := [.sh v_bits0, .sh v_sets0, .un]) (GmLe.refl _) (st_ret (ev_all (own := [("other", 2)]) (G := fun (k1 : PyData) => [.sh v_bits0, .sh v_sets0, .sh k1]) hr (by decide : 0 + 1 ≤ 1) gx b_all (gsc_by (N := n_crosses) (sc := defScope s_crosses) (by decide +kernel)) (ei_any (ev_var r1)) (fun _ b2 => (tg_name (b2.lk c_crosses.nd (i := 2) rfl rfl) fun _ => rfl)) (fun _ b2 k1 => (ev_band (ev_var (b2.rk (i := 0) rfl rfl)) (ev_var (b2.rk (i := 2) rfl rfl))))))
theorem ok_cross {f : Addr} {fd : FuncData} {cc tt : Addr} (F : FunC K "cross" "cross" s_cross f fd (.ref cc)) (TB : GxR.TabB base mg cc tt) (tsT : Tabs.ts tt) (hm : mg "cross" = some (.ref f)) (T : Mg mg) (D_is_whole : DnF P w K mg base 1 "is_whole" (u1 f_is_whole)) (D_is_bits : DnF P w K mg base 2 "is_bits" (u2 f_is_bits)) (D_least_of : DnF P w K mg base 5 "least_of" (u1 f_least_of)) (D_crosses : DnF P w K mg base 2 "crosses" (u2 f_crosses)) (C_MOST_PARTS : CnM K mg "MOST_PARTS" d_MOST_PARTS) (x_BadSets : ExB K mg "BadSets") : DnF P w K mg base 6 "cross" (u2 f_cross) := by
  refine dn_ofF F.fn hm (F.fn.binds (ps := ["sets", "many"]) fun _ _ _ _ _ _ us hl => match us, hl with | [_, _], _ => rfl) ?_
  refine fn_okGF F c_cross (fun ds hn => ?_) fun A outer s H E B ds hr hn => ?_
  · obtain ⟨_, _, e⟩ := u2_inv hn; rw [e]; rfl
  obtain ⟨v_sets0, v_many0, rfl⟩ := u2_inv hn
  clear hn
  have r0 : Rk (Xe P w K mg base n_cross "cross" s_cross f (.ref cc) A outer s H E) 0 "sets" := like_xe.rk (rk_of2 sf_cross rfl (by decide +kernel))
  have r1 : Rk (Xe P w K mg base n_cross "cross" s_cross f (.ref cc) A outer s H E) 1 "many" := like_xe.rk (rk_of2 sf_cross rfl (by decide +kernel))
  have g_all : Gl (Xe P w K mg base n_cross "cross" s_cross f (.ref cc) A outer s H E) "all" := like_xe.gl (gl_of2 sf_cross (by decide +kernel))
  have b_all : Bi (Xe P w K mg base n_cross "cross" s_cross f (.ref cc) A outer s H E) "all" := ⟨g_all, T.m_all⟩
  have g_isinstance : Gl (Xe P w K mg base n_cross "cross" s_cross f (.ref cc) A outer s H E) "isinstance" := like_xe.gl (gl_of2 sf_cross (by decide +kernel))
  have b_isinstance : Bi (Xe P w K mg base n_cross "cross" s_cross f (.ref cc) A outer s H E) "isinstance" := ⟨g_isinstance, T.m_isinstance⟩
  have g_range : Gl (Xe P w K mg base n_cross "cross" s_cross f (.ref cc) A outer s H E) "range" := like_xe.gl (gl_of2 sf_cross (by decide +kernel))
  have b_range : Bi (Xe P w K mg base n_cross "cross" s_cross f (.ref cc) A outer s H E) "range" := ⟨g_range, T.m_range⟩
  have c_is_whole : CeF (Xe P w K mg base n_cross "cross" s_cross f (.ref cc) A outer s H E) "is_whole" (u1 f_is_whole) := like_xe.ceF (ce_ofF D_is_whole hr (by decide) (by decide +kernel))
  have c_least_of : CeF (Xe P w K mg base n_cross "cross" s_cross f (.ref cc) A outer s H E) "least_of" (u1 f_least_of) := like_xe.ceF (ce_ofF D_least_of hr (by decide) (by decide +kernel))
  have g_BadSets : Gl (Xe P w K mg base n_cross "cross" s_cross f (.ref cc) A outer s H E) "BadSets" := like_xe.gl (gl_of2 sf_cross (by decide +kernel))
  have g_MOST_PARTS : Gl (Xe P w K mg base n_cross "cross" s_cross f (.ref cc) A outer s H E) "MOST_PARTS" := like_xe.gl (gl_of2 sf_cross (by decide +kernel))
  have g_is_whole : Gl (Xe P w K mg base n_cross "cross" s_cross f (.ref cc) A outer s H E) "is_whole" := like_xe.gl (gl_of2 sf_cross (by decide +kernel))
  have g_least_of : Gl (Xe P w K mg base n_cross "cross" s_cross f (.ref cc) A outer s H E) "least_of" := like_xe.gl (gl_of2 sf_cross (by decide +kernel))
  have k_MOST_PARTS : Cn (Xe P w K mg base n_cross "cross" s_cross f (.ref cc) A outer s H E) "MOST_PARTS" d_MOST_PARTS := like_xe.cn (C_MOST_PARTS.at)
  have g_tuple : Gl (Xe P w K mg base n_cross "cross" s_cross f (.ref cc) A outer s H E) "tuple" := like_xe.gl (gl_of2 sf_cross (by decide +kernel))
  have b_tuple : Bi (Xe P w K mg base n_cross "cross" s_cross f (.ref cc) A outer s H E) "tuple" := ⟨g_tuple, T.m_tuple⟩
  have t_tuple : Ty (Xe P w K mg base n_cross "cross" s_cross f (.ref cc) A outer s H E) "tuple" .tuple := ⟨b_tuple, by decide +kernel, by decide +kernel, by decide +kernel⟩
  have gx : Gx (Xe P w K mg base n_cross "cross" s_cross f (.ref cc) A outer s H E) cc tt := ⟨TB, tsT, rfl, _, hr⟩
  replace hr : Room 5 (Xe P w K mg base n_cross "cross" s_cross f (.ref cc) A outer s H E).A := hr
  refine body_run (L := noL) (G := fun _ => []) (m := b_cross v_sets0 v_many0) ?_
  unfold b_cross
  exact st_le (Γ1 := [.sh v_sets0, .sh v_many0, .un]) (GmLe.refl _) (st_if (et_w (ew_or (et_not (et_tru (ev_call1 c_is_whole g_is_whole (ev_var r1)))) (ew_or1 (et_not (et_chain ck_le' ck_le' ev_int (ev_var r1) (ev_cn g_MOST_PARTS k_MOST_PARTS)))))) (fun (t1 : Unit) => [.sh v_sets0, .sh v_many0, .un]) (st_raise x_BadSets g_BadSets) (st_nil (.eq (.eq (.eq .nil)))) (fun t1 => (st_if (et_w (ew_or (et_not (et_tru (eb_isi b_isinstance t_tuple (ev_var r0)))) (ew_or1 (et_not (et_tru (ev_all (own := [("bits", 2)]) (G := fun (k3 : PyData) => [.sh v_sets0, .sh v_many0, .sh k3]) hr (by decide : 4 + 1 ≤ 5) gx b_all (gsc_by (N := n_cross) (sc := defScope s_cross) (by decide +kernel)) (ei_any (ev_var r0)) (fun _ b4 => (tg_name (b4.lk c_cross.nd (i := 2) rfl rfl) fun _ => rfl)) (fun _ b4 k3 => (ev_call2 (b4.ceF D_is_bits (by decide) (by decide +kernel)) (b4.gl rfl) (ev_var (b4.rk (i := 2) rfl rfl)) (ev_var (b4.rk (i := 1) rfl rfl)))))))))) (fun (t2 : Unit) => [.sh v_sets0, .sh v_many0, .un]) (st_raise x_BadSets g_BadSets) (st_nil (.eq (.eq (.eq .nil)))) (fun t2 => (st_ret (ev_call1 c_least_of g_least_of (ev_liR (el_lc (own := [("bits", 2)]) (G := fun (k5 : PyData) => [.sh v_sets0, .sh v_many0, .sh k5]) hr c_cross.nd (blkOk_by (N := n_cross) (sc := defScope s_cross) (by decide +kernel)) (ei_rng1 b_range (ev_shl ev_int (ev_var r1))) (fun _ b6 => (tg_name (b6.lk c_cross.nd (i := 2) rfl rfl) fun _ => rfl)) (fun _ b6 _ k5 => ⟨eq_nil, (ev_call2 (b6.ceF D_crosses (by decide) (by decide +kernel)) (b6.gl rfl) (ev_var (b6.rk (i := 2) rfl rfl)) (ev_var (b6.rk (i := 0) rfl rfl)))⟩)))))))))
theorem ok_law_cell {f : Addr} {fd : FuncData} (F : Fun K "_law_cell" "_law_cell" s_law_cell f fd) (hm : mg "_law_cell" = some (.ref f)) (T : Mg mg) : DnF P w K mg base 1 "_law_cell" (u2 f_law_cell_k11) := by
  refine dn_ofF F hm (F.binds (ps := ["_law_script", "_law_k"]) fun _ _ _ _ _ _ us hl => match us, hl with | [_, _], _ => rfl) ?_
  refine fn_okF F c_law_cell (fun ds hn => ?_) fun cdv A outer s H E B ds hr hn => ?_
  · obtain ⟨_, _, e⟩ := u2_inv hn; rw [e]; rfl
  obtain ⟨v_script0, v_k0, rfl⟩ := u2_inv hn
  clear hn
  have l2 : Lk (Xe P w K mg base n_law_cell "_law_cell" s_law_cell f cdv A outer s H E) 2 "_law_cell_here" := like_xe.lk (lk_of2 sf_law_cell rfl (by decide +kernel))
  have r0 : Rk (Xe P w K mg base n_law_cell "_law_cell" s_law_cell f cdv A outer s H E) 0 "_law_script" := like_xe.rk (rk_of2 sf_law_cell rfl (by decide +kernel))
  have r1 : Rk (Xe P w K mg base n_law_cell "_law_cell" s_law_cell f cdv A outer s H E) 1 "_law_k" := like_xe.rk (rk_of2 sf_law_cell rfl (by decide +kernel))
  have r2 : Rk (Xe P w K mg base n_law_cell "_law_cell" s_law_cell f cdv A outer s H E) 2 "_law_cell_here" := like_xe.rk (rk_of2 sf_law_cell rfl (by decide +kernel))
  have g_len : Gl (Xe P w K mg base n_law_cell "_law_cell" s_law_cell f cdv A outer s H E) "len" := like_xe.gl (gl_of2 sf_law_cell (by decide +kernel))
  have b_len : Bi (Xe P w K mg base n_law_cell "_law_cell" s_law_cell f cdv A outer s H E) "len" := ⟨g_len, T.m_len⟩
  replace hr : Room 0 (Xe P w K mg base n_law_cell "_law_cell" s_law_cell f cdv A outer s H E).A := hr
  refine body_run (L := noL) (G := fun _ => []) (m := b_law_cell_k11 v_script0 v_k0) ?_
  unfold b_law_cell_k11
  exact st_le (Γ1 := [.sh v_script0, .sh v_k0, .un]) (GmLe.refl _) (st_set l2 ev_int (fun (v_cell_here1 : PyData) => [.sh v_script0, .sh v_k0, .sh v_cell_here1]) (fun v_cell_here1 => (st_if (et_cmp ck_gt' (eb_len b_len (ev_var r0)) ev_int) (fun (t2 : PyData) => [.sh v_script0, .sh v_k0, .sh t2]) (st_set l2 (ev_mod (ev_ix (ev_var r0) (ev_mod (ev_var r1) (eb_len b_len (ev_var r0)))) ev_int) (fun (v_cell_here3 : PyData) => [.sh v_script0, .sh v_k0, .sh v_cell_here3]) (fun v_cell_here3 => (st_nil (.eq (.eq (.eq .nil)))))) (st_nil (.eq (.eq (.eq .nil)))) (fun t2 => (st_ret (ev_fdiv (ev_mod (ev_mul (ev_mod (ev_mul (ev_add (ev_add (ev_var r2) (ev_mul (ev_mul ev_int (ev_var r1)) (ev_var r1))) (ev_mul ev_int (ev_var r1))) ev_int) ev_int) ev_int) ev_int) ev_int))))))
theorem ok_law_next {f : Addr} {fd : FuncData} (F : Fun K "_law_next" "_law_next" s_law_next f fd) (hm : mg "_law_next" = some (.ref f)) (T : Mg mg) (D_law_cell : DnF P w K mg base 1 "_law_cell" (u2 f_law_cell_k11)) : DnG P w K mg base 2 "_law_next" 0 (w0 f_law_next) := by
  refine dn_ofM F hm (F.binds (ps := ["_law_draw"]) fun _ _ _ _ _ _ us hl => match us, hl with | [_], _ => rfl) ?_
  refine fn_okMG F c_law_next (fun as bs ds ha hn => ?_) fun cdv A outer s H E B la as bs v_draw0 hr ha hn => ?_
  · rw [w0_inv hn]; rfl
  have e := w0_inv hn
  obtain rfl : as = [] := List.length_eq_zero_iff.mp ha
  cases e
  have r0 : Rk (Xc P w K mg base n_law_next "_law_next" s_law_next f cdv A outer s H E) 0 "_law_draw" := rk_of2 sf_law_next rfl (by decide +kernel)
  have c_law_cell : CeF (Xc P w K mg base n_law_next "_law_next" s_law_next f cdv A outer s H E) "_law_cell" (u2 f_law_cell_k11) := ce_ofF D_law_cell hr (by decide) (by decide +kernel)
  have g_law_cell : Gl (Xc P w K mg base n_law_next "_law_next" s_law_next f cdv A outer s H E) "_law_cell" := gl_of2 sf_law_next (by decide +kernel)
  refine ⟨Unit, (fun _ => []), noL, b_law_next v_draw0, fun r hr => finM_ok hr, ?_⟩
  clear hn
  unfold b_law_next
  exact st_le (Γ1 := [.ol la v_draw0]) (GmLe.refl _) (st_putG (i := 0) r0 (ev_add (ev_ixG r0 ev_int) ev_int) ev_int (fun v_draw1 => [.ol la v_draw1]) (fun v_draw1 => (st_retG (i := 0) (pr := (fun (s : List PyData) => s)) (fun (s : List PyData) => [.ol la s]) rfl (es_pure fun s => (ev_call2 c_law_cell g_law_cell (ev_ixG r0 ev_int) (ev_ixG r0 ev_int))))))
theorem ok_law_brought {f : Addr} {fd : FuncData} (F : Fun K "_law_brought" "_law_brought" s_law_brought f fd) (hm : mg "_law_brought" = some (.ref f)) (T : Mg mg) (D_law_next : DnG P w K mg base 2 "_law_next" 0 (w0 f_law_next)) : DnG P w K mg base 3 "_law_brought" 0 (w1 f_law_brought_k11) := by
  refine dn_ofM F hm (F.binds (ps := ["_law_draw", "_law_many"]) fun _ _ _ _ _ _ us hl => match us, hl with | [_, _], _ => rfl) ?_
  refine fn_okMG F c_law_brought (fun as bs ds ha hn => ?_) fun cdv A outer s H E B la as bs v_draw0 hr ha hn => ?_
  · obtain ⟨_, e⟩ := w1_inv hn; rw [e]; rfl
  obtain ⟨v_many0, e⟩ := w1_inv hn
  obtain rfl : as = [] := List.length_eq_zero_iff.mp ha
  cases e
  have l2 : Lk (Xc P w K mg base n_law_brought "_law_brought" s_law_brought f cdv A outer s H E) 2 "_law_i" := lk_of2 sf_law_brought rfl (by decide +kernel)
  have l3 : Lk (Xc P w K mg base n_law_brought "_law_brought" s_law_brought f cdv A outer s H E) 3 "_law_found" := lk_of2 sf_law_brought rfl (by decide +kernel)
  have l4 : Lk (Xc P w K mg base n_law_brought "_law_brought" s_law_brought f cdv A outer s H E) 4 "_law_turn" := lk_of2 sf_law_brought rfl (by decide +kernel)
  have l5 : Lk (Xc P w K mg base n_law_brought "_law_brought" s_law_brought f cdv A outer s H E) 5 "_law_number" := lk_of2 sf_law_brought rfl (by decide +kernel)
  have l6 : Lk (Xc P w K mg base n_law_brought "_law_brought" s_law_brought f cdv A outer s H E) 6 "_law_j" := lk_of2 sf_law_brought rfl (by decide +kernel)
  have r0 : Rk (Xc P w K mg base n_law_brought "_law_brought" s_law_brought f cdv A outer s H E) 0 "_law_draw" := rk_of2 sf_law_brought rfl (by decide +kernel)
  have r1 : Rk (Xc P w K mg base n_law_brought "_law_brought" s_law_brought f cdv A outer s H E) 1 "_law_many" := rk_of2 sf_law_brought rfl (by decide +kernel)
  have r2 : Rk (Xc P w K mg base n_law_brought "_law_brought" s_law_brought f cdv A outer s H E) 2 "_law_i" := rk_of2 sf_law_brought rfl (by decide +kernel)
  have r3 : Rk (Xc P w K mg base n_law_brought "_law_brought" s_law_brought f cdv A outer s H E) 3 "_law_found" := rk_of2 sf_law_brought rfl (by decide +kernel)
  have r5 : Rk (Xc P w K mg base n_law_brought "_law_brought" s_law_brought f cdv A outer s H E) 5 "_law_number" := rk_of2 sf_law_brought rfl (by decide +kernel)
  have r6 : Rk (Xc P w K mg base n_law_brought "_law_brought" s_law_brought f cdv A outer s H E) 6 "_law_j" := rk_of2 sf_law_brought rfl (by decide +kernel)
  have g_range : Gl (Xc P w K mg base n_law_brought "_law_brought" s_law_brought f cdv A outer s H E) "range" := gl_of2 sf_law_brought (by decide +kernel)
  have b_range : Bi (Xc P w K mg base n_law_brought "_law_brought" s_law_brought f cdv A outer s H E) "range" := ⟨g_range, T.m_range⟩
  have g_tuple : Gl (Xc P w K mg base n_law_brought "_law_brought" s_law_brought f cdv A outer s H E) "tuple" := gl_of2 sf_law_brought (by decide +kernel)
  have b_tuple : Bi (Xc P w K mg base n_law_brought "_law_brought" s_law_brought f cdv A outer s H E) "tuple" := ⟨g_tuple, T.m_tuple⟩
  have c_law_next : CeG (Xc P w K mg base n_law_brought "_law_brought" s_law_brought f cdv A outer s H E) "_law_next" 0 (w0 f_law_next) := ce_ofM D_law_next hr (by decide) (by decide +kernel)
  have g_law_next : Gl (Xc P w K mg base n_law_brought "_law_brought" s_law_brought f cdv A outer s H E) "_law_next" := gl_of2 sf_law_brought (by decide +kernel)
  have rm : Rm (Xc P w K mg base n_law_brought "_law_brought" s_law_brought f cdv A outer s H E) := ⟨hr.units⟩
  have po : PassesOwn (model (Xc P w K mg base n_law_brought "_law_brought" s_law_brought f cdv A outer s H E).prog (Xc P w K mg base n_law_brought "_law_brought" s_law_brought f cdv A outer s H E).w) (Xc P w K mg base n_law_brought "_law_brought" s_law_brought f cdv A outer s H E).A (Xc P w K mg base n_law_brought "_law_brought" s_law_brought f cdv A outer s H E).env (Xc P w K mg base n_law_brought "_law_brought" s_law_brought f cdv A outer s H E).xe := PassesOwn.never
  refine ⟨Unit, (fun _ => []), noL, b_law_brought_k11 v_many0 v_draw0, fun r hr => finM_ok hr, ?_⟩
  clear hn
  unfold b_law_brought_k11
  exact st_le (Γ1 := [.ol la v_draw0, .sh v_many0, .un, .un, .un, .un, .un]) (GmLe.refl _) (st_setLc true (own := [("_law_i", 2)]) (Gk := fun (k1 : PyData) => [.ol la v_draw0, .sh v_many0, .sh k1, .un, .un, .un, .un]) hr l3 (blkOk_by (N := n_law_brought) (sc := defScope s_law_brought) (by decide +kernel)) (ei_rng1 b_range (ev_var r1)) (fun _ b2 => (tg_name (b2.lk c_law_brought.nd (i := 2) rfl rfl) fun _ => rfl)) (fun _ b2 _ k1 => ⟨eq_nil, (ev_shl ev_int (ev_var (b2.rk (i := 2) rfl rfl)))⟩) (fun v_found3 => [.ol la v_draw0, .sh v_many0, .un, .ow v_found3, .un, .un, .un]) (fun v_found3 => (st_forS (t0 := fun (s : List PyData) => (s, v_found3)) po (fun (s : List PyData) => [.ol la s, .sh v_many0, .un, .ow v_found3, .un, .un, .un]) rfl (ei_rngS b_range (es_bin bk_mod (es_callG (i := 0) c_law_next g_law_next (ep_here r0 ea_nilS)) (es_pure fun s => ev_int))) (fun (s4 : List PyData × List PyData) => [.ol la s4.1, .sh v_many0, .un, .ow s4.2, .un, .un, .un]) (fun (s4 : List PyData × List PyData) (k5 : PyData) => [.ol la s4.1, .sh v_many0, .un, .ow s4.2, .sh k5, .un, .un]) (fun s4 => (tg_name l4 fun _ => rfl)) (fun _ s4 k5 => (st_setS (fun (s : List PyData) => [.ol la s, .sh v_many0, .un, .ow s4.2, .sh k5, .un, .un]) rfl l5 (es_callG (i := 0) c_law_next g_law_next (ep_here r0 ea_nilS)) (fun (s : List PyData) (d : PyData) => [.ol la s, .sh v_many0, .un, .ow s4.2, .sh k5, .sh d, .un]) (fun p6 => (st_putG (i := 3) r3 (ev_bor (ev_ixG r3 (ev_mod (ev_var r5) (ev_var r1))) (ev_shl ev_int (ev_mod (ev_fdiv (ev_var r5) ev_int) (ev_var r1)))) (ev_mod (ev_var r5) (ev_var r1)) (fun v_found7 => [.ol la p6.1, .sh v_many0, .un, .ow v_found7, .sh k5, .sh p6.2, .un]) (fun v_found7 => (st_nil (.eq (.eq (.eq (.eq (.un (.un (.eq .nil))))))))))))) (fun s => (.eq (.eq (.eq (.eq (.eq (.eq (.eq .nil)))))))) (fun s4 => (st_for po (ei_rng1 b_range (ev_var r1)) (fun (s8 : List PyData) => [.ol la s4.1, .sh v_many0, .un, .ow s8, .un, .un, .un]) (fun (s8 : List PyData) (k9 : PyData) => [.ol la s4.1, .sh v_many0, .un, .ow s8, .sh k9, .un, .un]) (fun s8 => (tg_name l4 fun _ => rfl)) (fun _ s8 k9 => (st_for po (ei_rng1 b_range (ev_var r1)) (fun (s10 : List PyData) => [.ol la s4.1, .sh v_many0, .un, .ow s10, .sh k9, .un, .un]) (fun (s10 : List PyData) (k11 : PyData) => [.ol la s4.1, .sh v_many0, .sh k11, .ow s10, .sh k9, .un, .un]) (fun s10 => (tg_name l2 fun _ => rfl)) (fun _ s10 k11 => (st_for po (ei_rng1 b_range (ev_var r1)) (fun (s12 : List PyData) => [.ol la s4.1, .sh v_many0, .sh k11, .ow s12, .sh k9, .un, .un]) (fun (s12 : List PyData) (k13 : PyData) => [.ol la s4.1, .sh v_many0, .sh k11, .ow s12, .sh k9, .un, .sh k13]) (fun s12 => (tg_name l6 fun _ => rfl)) (fun _ s12 k13 => (st_if (et_cmp (ck_eq' rm) (ev_band (ev_shr (ev_ixG r3 (ev_var r2)) (ev_var r6)) ev_int) ev_int) (fun (t14 : List PyData) => [.ol la s4.1, .sh v_many0, .sh k11, .ow t14, .sh k9, .un, .sh k13]) (st_putG (i := 3) r3 (ev_bor (ev_ixG r3 (ev_var r2)) (ev_ixG r3 (ev_var r6))) (ev_var r2) (fun v_found15 => [.ol la s4.1, .sh v_many0, .sh k11, .ow v_found15, .sh k9, .un, .sh k13]) (fun v_found15 => (st_nil (.eq (.eq (.eq (.eq (.eq (.eq (.eq .nil)))))))))) (st_nil (.eq (.eq (.eq (.eq (.eq (.eq (.eq .nil)))))))) (fun t14 => (st_nil (.eq (.eq (.eq (.eq (.eq (.eq (.un .nil))))))))))) (.eq (.eq (.eq (.eq (.eq (.eq (.eq .nil))))))) (fun s12 => (st_nil (.eq (.eq (.un (.eq (.eq (.eq (.eq .nil))))))))))) (.eq (.eq (.eq (.eq (.eq (.eq (.eq .nil))))))) (fun s10 => (st_nil (.eq (.eq (.eq (.eq (.un (.eq (.eq .nil))))))))))) (.eq (.eq (.eq (.eq (.eq (.eq (.eq .nil))))))) (fun s8 => (st_freeG (i := 3) (st_retG (i := 0) (pr := (fun (s : List PyData) => s)) (fun (s : List PyData) => [.ol la s, .sh v_many0, .un, .sh (.list s8), .un, .un, .un]) rfl (es_pure fun s => (eb_tuple b_tuple (ev_var r3)))))))))))
theorem ok_law_tree {f : Addr} {fd : FuncData} (F : Fun K "_law_tree" "_law_tree" s_law_tree f fd) (hm : mg "_law_tree" = some (.ref f)) (T : Mg mg) (D_law_next : DnG P w K mg base 2 "_law_next" 0 (w0 f_law_next)) (D_law_brought : DnG P w K mg base 3 "_law_brought" 0 (w1 f_law_brought_k11)) : DnG P w K mg base 4 "_law_tree" 0 (w1 f_law_tree_k11) := by
  refine dn_ofM F hm (F.binds (ps := ["_law_draw", "_law_most"]) fun _ _ _ _ _ _ us hl => match us, hl with | [_, _], _ => rfl) ?_
  refine fn_okMG F c_law_tree (fun as bs ds ha hn => ?_) fun cdv A outer s H E B la as bs v_draw0 hr ha hn => ?_
  · obtain ⟨_, e⟩ := w1_inv hn; rw [e]; rfl
  obtain ⟨v_most0, e⟩ := w1_inv hn
  obtain rfl : as = [] := List.length_eq_zero_iff.mp ha
  cases e
  have l10 : Lk (Xc P w K mg base n_law_tree "_law_tree" s_law_tree f cdv A outer s H E) 10 "_law_at" := lk_of2 sf_law_tree rfl (by decide +kernel)
  have l2 : Lk (Xc P w K mg base n_law_tree "_law_tree" s_law_tree f cdv A outer s H E) 2 "_law_many" := lk_of2 sf_law_tree rfl (by decide +kernel)
  have l3 : Lk (Xc P w K mg base n_law_tree "_law_tree" s_law_tree f cdv A outer s H E) 3 "_law_rows" := lk_of2 sf_law_tree rfl (by decide +kernel)
  have l4 : Lk (Xc P w K mg base n_law_tree "_law_tree" s_law_tree f cdv A outer s H E) 4 "_law_turn" := lk_of2 sf_law_tree rfl (by decide +kernel)
  have l5 : Lk (Xc P w K mg base n_law_tree "_law_tree" s_law_tree f cdv A outer s H E) 5 "_law_number" := lk_of2 sf_law_tree rfl (by decide +kernel)
  have l6 : Lk (Xc P w K mg base n_law_tree "_law_tree" s_law_tree f cdv A outer s H E) 6 "_law_left" := lk_of2 sf_law_tree rfl (by decide +kernel)
  have l7 : Lk (Xc P w K mg base n_law_tree "_law_tree" s_law_tree f cdv A outer s H E) 7 "_law_children" := lk_of2 sf_law_tree rfl (by decide +kernel)
  have l8 : Lk (Xc P w K mg base n_law_tree "_law_tree" s_law_tree f cdv A outer s H E) 8 "_law_k" := lk_of2 sf_law_tree rfl (by decide +kernel)
  have l9 : Lk (Xc P w K mg base n_law_tree "_law_tree" s_law_tree f cdv A outer s H E) 9 "_law_more" := lk_of2 sf_law_tree rfl (by decide +kernel)
  have r0 : Rk (Xc P w K mg base n_law_tree "_law_tree" s_law_tree f cdv A outer s H E) 0 "_law_draw" := rk_of2 sf_law_tree rfl (by decide +kernel)
  have r1 : Rk (Xc P w K mg base n_law_tree "_law_tree" s_law_tree f cdv A outer s H E) 1 "_law_most" := rk_of2 sf_law_tree rfl (by decide +kernel)
  have r10 : Rk (Xc P w K mg base n_law_tree "_law_tree" s_law_tree f cdv A outer s H E) 10 "_law_at" := rk_of2 sf_law_tree rfl (by decide +kernel)
  have r2 : Rk (Xc P w K mg base n_law_tree "_law_tree" s_law_tree f cdv A outer s H E) 2 "_law_many" := rk_of2 sf_law_tree rfl (by decide +kernel)
  have r3 : Rk (Xc P w K mg base n_law_tree "_law_tree" s_law_tree f cdv A outer s H E) 3 "_law_rows" := rk_of2 sf_law_tree rfl (by decide +kernel)
  have r5 : Rk (Xc P w K mg base n_law_tree "_law_tree" s_law_tree f cdv A outer s H E) 5 "_law_number" := rk_of2 sf_law_tree rfl (by decide +kernel)
  have r6 : Rk (Xc P w K mg base n_law_tree "_law_tree" s_law_tree f cdv A outer s H E) 6 "_law_left" := rk_of2 sf_law_tree rfl (by decide +kernel)
  have r7 : Rk (Xc P w K mg base n_law_tree "_law_tree" s_law_tree f cdv A outer s H E) 7 "_law_children" := rk_of2 sf_law_tree rfl (by decide +kernel)
  have r9 : Rk (Xc P w K mg base n_law_tree "_law_tree" s_law_tree f cdv A outer s H E) 9 "_law_more" := rk_of2 sf_law_tree rfl (by decide +kernel)
  have g_len : Gl (Xc P w K mg base n_law_tree "_law_tree" s_law_tree f cdv A outer s H E) "len" := gl_of2 sf_law_tree (by decide +kernel)
  have b_len : Bi (Xc P w K mg base n_law_tree "_law_tree" s_law_tree f cdv A outer s H E) "len" := ⟨g_len, T.m_len⟩
  have g_list : Gl (Xc P w K mg base n_law_tree "_law_tree" s_law_tree f cdv A outer s H E) "list" := gl_of2 sf_law_tree (by decide +kernel)
  have b_list : Bi (Xc P w K mg base n_law_tree "_law_tree" s_law_tree f cdv A outer s H E) "list" := ⟨g_list, T.m_list⟩
  have g_min : Gl (Xc P w K mg base n_law_tree "_law_tree" s_law_tree f cdv A outer s H E) "min" := gl_of2 sf_law_tree (by decide +kernel)
  have b_min : Bi (Xc P w K mg base n_law_tree "_law_tree" s_law_tree f cdv A outer s H E) "min" := ⟨g_min, T.m_min⟩
  have g_range : Gl (Xc P w K mg base n_law_tree "_law_tree" s_law_tree f cdv A outer s H E) "range" := gl_of2 sf_law_tree (by decide +kernel)
  have b_range : Bi (Xc P w K mg base n_law_tree "_law_tree" s_law_tree f cdv A outer s H E) "range" := ⟨g_range, T.m_range⟩
  have g_tuple : Gl (Xc P w K mg base n_law_tree "_law_tree" s_law_tree f cdv A outer s H E) "tuple" := gl_of2 sf_law_tree (by decide +kernel)
  have b_tuple : Bi (Xc P w K mg base n_law_tree "_law_tree" s_law_tree f cdv A outer s H E) "tuple" := ⟨g_tuple, T.m_tuple⟩
  have c_law_brought : CeG (Xc P w K mg base n_law_tree "_law_tree" s_law_tree f cdv A outer s H E) "_law_brought" 0 (w1 f_law_brought_k11) := ce_ofM D_law_brought hr (by decide) (by decide +kernel)
  have c_law_next : CeG (Xc P w K mg base n_law_tree "_law_tree" s_law_tree f cdv A outer s H E) "_law_next" 0 (w0 f_law_next) := ce_ofM D_law_next hr (by decide) (by decide +kernel)
  have g_law_brought : Gl (Xc P w K mg base n_law_tree "_law_tree" s_law_tree f cdv A outer s H E) "_law_brought" := gl_of2 sf_law_tree (by decide +kernel)
  have g_law_next : Gl (Xc P w K mg base n_law_tree "_law_tree" s_law_tree f cdv A outer s H E) "_law_next" := gl_of2 sf_law_tree (by decide +kernel)
  have rm : Rm (Xc P w K mg base n_law_tree "_law_tree" s_law_tree f cdv A outer s H E) := ⟨hr.units⟩
  have po : PassesOwn (model (Xc P w K mg base n_law_tree "_law_tree" s_law_tree f cdv A outer s H E).prog (Xc P w K mg base n_law_tree "_law_tree" s_law_tree f cdv A outer s H E).w) (Xc P w K mg base n_law_tree "_law_tree" s_law_tree f cdv A outer s H E).A (Xc P w K mg base n_law_tree "_law_tree" s_law_tree f cdv A outer s H E).env (Xc P w K mg base n_law_tree "_law_tree" s_law_tree f cdv A outer s H E).xe := PassesOwn.never
  refine ⟨Unit, (fun _ => []), noL, b_law_tree_k11 v_most0 v_draw0, fun r hr => finM_ok hr, ?_⟩
  clear hn
  unfold b_law_tree_k11
  exact st_le (Γ1 := [.ol la v_draw0, .sh v_most0, .un, .un, .un, .un, .un, .un, .un, .un, .un, .un]) (GmLe.refl _) (st_setS (fun (s : List PyData) => [.ol la s, .sh v_most0, .un, .un, .un, .un, .un, .un, .un, .un, .un, .un]) rfl l2 (es_bin bk_add (es_pure fun s => ev_int) (es_bin bk_mod (es_callG (i := 0) c_law_next g_law_next (ep_here r0 ea_nilS)) (es_pure fun s => (ev_var r1)))) (fun (s : List PyData) (d : PyData) => [.ol la s, .sh v_most0, .sh d, .un, .un, .un, .un, .un, .un, .un, .un, .un]) (fun p1 => (st_setLc true (own := [("_law_i", 11)]) (Gk := fun (k2 : PyData) => [.ol la p1.1, .sh v_most0, .sh p1.2, .un, .un, .un, .un, .un, .un, .un, .un, .sh k2]) hr l3 (blkOk_by (N := n_law_tree) (sc := defScope s_law_tree) (by decide +kernel)) (ei_rng1 b_range (ev_var r2)) (fun _ b3 => (tg_name (b3.lk c_law_tree.nd (i := 11) rfl rfl) fun _ => rfl)) (fun _ b3 _ k2 => ⟨eq_nil, (ev_tup (ea_cons ev_str (ea_cons (ev_var (b3.rk (i := 11) rfl rfl)) ea_nil)))⟩) (fun v_rows4 => [.ol la p1.1, .sh v_most0, .sh p1.2, .ow v_rows4, .un, .un, .un, .un, .un, .un, .un, .un]) (fun v_rows4 => (st_forS (t0 := fun (s : List PyData) => (s, v_rows4)) po (fun (s : List PyData) => [.ol la s, .sh v_most0, .sh p1.2, .ow v_rows4, .un, .un, .un, .un, .un, .un, .un, .un]) rfl (ei_rngS b_range (es_bin bk_mod (es_callG (i := 0) c_law_next g_law_next (ep_here r0 ea_nilS)) (es_pure fun s => ev_int))) (fun (s5 : List PyData × List PyData) => [.ol la s5.1, .sh v_most0, .sh p1.2, .ow s5.2, .un, .un, .un, .un, .un, .un, .un, .un]) (fun (s5 : List PyData × List PyData) (k6 : PyData) => [.ol la s5.1, .sh v_most0, .sh p1.2, .ow s5.2, .sh k6, .un, .un, .un, .un, .un, .un, .un]) (fun s5 => (tg_name l4 fun _ => rfl)) (fun _ s5 k6 => (st_setS (fun (s : List PyData) => [.ol la s, .sh v_most0, .sh p1.2, .ow s5.2, .sh k6, .un, .un, .un, .un, .un, .un, .un]) rfl l5 (es_callG (i := 0) c_law_next g_law_next (ep_here r0 ea_nilS)) (fun (s : List PyData) (d : PyData) => [.ol la s, .sh v_most0, .sh p1.2, .ow s5.2, .sh k6, .sh d, .un, .un, .un, .un, .un, .un]) (fun p7 => (st_setO l6 (el_listRg b_list b_range (ev_lenG b_len r3)) (fun (v_left8 : List PyData) => [.ol la p7.1, .sh v_most0, .sh p1.2, .ow s5.2, .sh k6, .sh p7.2, .ow v_left8, .un, .un, .un, .un, .un]) (fun v_left8 => (st_setO l7 (el_lst ea_nil) (fun (v_children9 : List PyData) => [.ol la p7.1, .sh v_most0, .sh p1.2, .ow s5.2, .sh k6, .sh p7.2, .ow v_left8, .ow v_children9, .un, .un, .un, .un]) (fun v_children9 => (st_for po (ei_rng1 b_range (ev_add ev_int (ev_mod (ev_var r5) (eb_min2 b_min ev_int (ev_lenG b_len r6))))) (fun (s10 : List PyData × List PyData × List PyData) => [.ol la s10.1, .sh v_most0, .sh p1.2, .ow s5.2, .sh k6, .sh p7.2, .ow s10.2.1, .ow s10.2.2, .un, .un, .un, .un]) (fun (s10 : List PyData × List PyData × List PyData) (k11 : PyData) => [.ol la s10.1, .sh v_most0, .sh p1.2, .ow s5.2, .sh k6, .sh p7.2, .ow s10.2.1, .ow s10.2.2, .sh k11, .un, .un, .un]) (fun s10 => (tg_name l8 fun _ => rfl)) (fun _ s10 k11 => (st_setS (fun (s : List PyData) => [.ol la s, .sh v_most0, .sh p1.2, .ow s5.2, .sh k6, .sh p7.2, .ow s10.2.1, .ow s10.2.2, .sh k11, .un, .un, .un]) rfl l9 (es_callG (i := 0) c_law_next g_law_next (ep_here r0 ea_nilS)) (fun (s : List PyData) (d : PyData) => [.ol la s, .sh v_most0, .sh p1.2, .ow s5.2, .sh k6, .sh p7.2, .ow s10.2.1, .ow s10.2.2, .sh k11, .sh d, .un, .un]) (fun p12 => (st_set l10 (ev_if (et_cmp (ck_eq' rm) (ev_mod (ev_var r9) ev_int) ev_int) (ev_sub (ev_sub (ev_lenG b_len r6) ev_int) (ev_mod (ev_fdiv (ev_var r9) ev_int) (eb_min2 b_min ev_int (ev_lenG b_len r6)))) (ev_mod (ev_fdiv (ev_var r9) ev_int) (ev_lenG b_len r6))) (fun (v_at13 : PyData) => [.ol la p12.1, .sh v_most0, .sh p1.2, .ow s5.2, .sh k6, .sh p7.2, .ow s10.2.1, .ow s10.2.2, .sh k11, .sh p12.2, .sh v_at13, .un]) (fun v_at13 => (st_appS (i := 7) (fun (s : List PyData) => [.ol la p12.1, .sh v_most0, .sh p1.2, .ow s5.2, .sh k6, .sh p7.2, .ow s, .ow s10.2.2, .sh k11, .sh p12.2, .sh v_at13, .un]) rfl r7 (es_pop (i := 6) r6 (es_pure fun s => (ev_var r10))) (fun (s : List PyData) (d : List PyData) => [.ol la p12.1, .sh v_most0, .sh p1.2, .ow s5.2, .sh k6, .sh p7.2, .ow s, .ow d, .sh k11, .sh p12.2, .sh v_at13, .un]) (fun p15 => (st_nil (.eq (.eq (.eq (.eq (.eq (.eq (.eq (.eq (.un (.un (.un (.eq .nil)))))))))))))))))))) (.eq (.eq (.eq (.eq (.eq (.eq (.eq (.eq (.eq (.eq (.eq (.eq .nil)))))))))))) (fun s10 => (st_appG (i := 3) r3 (ev_tup (ea_cons ev_str (ea_cons (ev_add ev_int (ev_mod (ev_fdiv (ev_var r5) ev_int) (ev_lenG b_len r7))) (ea_cons (ev_loanG (i := 7) rfl (eb_tuple b_tuple (ev_var r7))) ea_nil)))) (fun v_rows16 => [.ol la s10.1, .sh v_most0, .sh p1.2, .ow v_rows16, .sh k6, .sh p7.2, .ow s10.2.1, .ow s10.2.2, .un, .un, .un, .un]) (fun v_rows16 => (st_nil (.eq (.eq (.eq (.eq (.un (.un (.un (.un (.eq (.eq (.eq (.eq .nil)))))))))))))))))))))))) (fun s => (.eq (.eq (.eq (.eq (.eq (.eq (.eq (.eq (.eq (.eq (.eq (.eq .nil))))))))))))) (fun s5 => (st_freeG (i := 3) (st_retG (i := 0) (pr := (fun (s : List PyData) => s)) (fun (s : List PyData) => [.ol la s, .sh v_most0, .sh p1.2, .sh (.list s5.2), .un, .un, .un, .un, .un, .un, .un, .un]) rfl (es_tup (ea_consS (es_pure fun s => (ev_var r2)) (ea_consS (es_pure fun s => (eb_tuple b_tuple (ev_var r3))) (ea_consS (es_callG (i := 0) c_law_brought g_law_brought (ep_here r0 (ea_consS (es_pure fun s => (ev_var r2)) ea_nilS))) ea_nilS))))))))))))
theorem ok_law_wide_tree {f : Addr} {fd : FuncData} (F : Fun K "_law_wide_tree" "_law_wide_tree" s_law_wide_tree f fd) (hm : mg "_law_wide_tree" = some (.ref f)) (T : Mg mg) (D_law_next : DnG P w K mg base 2 "_law_next" 0 (w0 f_law_next)) (D_law_brought : DnG P w K mg base 3 "_law_brought" 0 (w1 f_law_brought_k11)) : DnG P w K mg base 4 "_law_wide_tree" 0 (w1 f_law_wide_tree) := by
  refine dn_ofM F hm (F.binds (ps := ["_law_draw", "_law_most"]) fun _ _ _ _ _ _ us hl => match us, hl with | [_, _], _ => rfl) ?_
  refine fn_okMG F c_law_wide_tree (fun as bs ds ha hn => ?_) fun cdv A outer s H E B la as bs v_draw0 hr ha hn => ?_
  · obtain ⟨_, e⟩ := w1_inv hn; rw [e]; rfl
  obtain ⟨v_most0, e⟩ := w1_inv hn
  obtain rfl : as = [] := List.length_eq_zero_iff.mp ha
  cases e
  have l2 : Lk (Xc P w K mg base n_law_wide_tree "_law_wide_tree" s_law_wide_tree f cdv A outer s H E) 2 "_law_many" := lk_of2 sf_law_wide_tree rfl (by decide +kernel)
  have l3 : Lk (Xc P w K mg base n_law_wide_tree "_law_wide_tree" s_law_wide_tree f cdv A outer s H E) 3 "_law_rows" := lk_of2 sf_law_wide_tree rfl (by decide +kernel)
  have l4 : Lk (Xc P w K mg base n_law_wide_tree "_law_wide_tree" s_law_wide_tree f cdv A outer s H E) 4 "_law_turn" := lk_of2 sf_law_wide_tree rfl (by decide +kernel)
  have l5 : Lk (Xc P w K mg base n_law_wide_tree "_law_wide_tree" s_law_wide_tree f cdv A outer s H E) 5 "_law_number" := lk_of2 sf_law_wide_tree rfl (by decide +kernel)
  have l6 : Lk (Xc P w K mg base n_law_wide_tree "_law_wide_tree" s_law_wide_tree f cdv A outer s H E) 6 "_law_left" := lk_of2 sf_law_wide_tree rfl (by decide +kernel)
  have l7 : Lk (Xc P w K mg base n_law_wide_tree "_law_wide_tree" s_law_wide_tree f cdv A outer s H E) 7 "_law_children" := lk_of2 sf_law_wide_tree rfl (by decide +kernel)
  have r0 : Rk (Xc P w K mg base n_law_wide_tree "_law_wide_tree" s_law_wide_tree f cdv A outer s H E) 0 "_law_draw" := rk_of2 sf_law_wide_tree rfl (by decide +kernel)
  have r1 : Rk (Xc P w K mg base n_law_wide_tree "_law_wide_tree" s_law_wide_tree f cdv A outer s H E) 1 "_law_most" := rk_of2 sf_law_wide_tree rfl (by decide +kernel)
  have r2 : Rk (Xc P w K mg base n_law_wide_tree "_law_wide_tree" s_law_wide_tree f cdv A outer s H E) 2 "_law_many" := rk_of2 sf_law_wide_tree rfl (by decide +kernel)
  have r3 : Rk (Xc P w K mg base n_law_wide_tree "_law_wide_tree" s_law_wide_tree f cdv A outer s H E) 3 "_law_rows" := rk_of2 sf_law_wide_tree rfl (by decide +kernel)
  have r5 : Rk (Xc P w K mg base n_law_wide_tree "_law_wide_tree" s_law_wide_tree f cdv A outer s H E) 5 "_law_number" := rk_of2 sf_law_wide_tree rfl (by decide +kernel)
  have r7 : Rk (Xc P w K mg base n_law_wide_tree "_law_wide_tree" s_law_wide_tree f cdv A outer s H E) 7 "_law_children" := rk_of2 sf_law_wide_tree rfl (by decide +kernel)
  have g_len : Gl (Xc P w K mg base n_law_wide_tree "_law_wide_tree" s_law_wide_tree f cdv A outer s H E) "len" := gl_of2 sf_law_wide_tree (by decide +kernel)
  have b_len : Bi (Xc P w K mg base n_law_wide_tree "_law_wide_tree" s_law_wide_tree f cdv A outer s H E) "len" := ⟨g_len, T.m_len⟩
  have g_list : Gl (Xc P w K mg base n_law_wide_tree "_law_wide_tree" s_law_wide_tree f cdv A outer s H E) "list" := gl_of2 sf_law_wide_tree (by decide +kernel)
  have b_list : Bi (Xc P w K mg base n_law_wide_tree "_law_wide_tree" s_law_wide_tree f cdv A outer s H E) "list" := ⟨g_list, T.m_list⟩
  have g_range : Gl (Xc P w K mg base n_law_wide_tree "_law_wide_tree" s_law_wide_tree f cdv A outer s H E) "range" := gl_of2 sf_law_wide_tree (by decide +kernel)
  have b_range : Bi (Xc P w K mg base n_law_wide_tree "_law_wide_tree" s_law_wide_tree f cdv A outer s H E) "range" := ⟨g_range, T.m_range⟩
  have g_tuple : Gl (Xc P w K mg base n_law_wide_tree "_law_wide_tree" s_law_wide_tree f cdv A outer s H E) "tuple" := gl_of2 sf_law_wide_tree (by decide +kernel)
  have b_tuple : Bi (Xc P w K mg base n_law_wide_tree "_law_wide_tree" s_law_wide_tree f cdv A outer s H E) "tuple" := ⟨g_tuple, T.m_tuple⟩
  have c_law_brought : CeG (Xc P w K mg base n_law_wide_tree "_law_wide_tree" s_law_wide_tree f cdv A outer s H E) "_law_brought" 0 (w1 f_law_brought_k11) := ce_ofM D_law_brought hr (by decide) (by decide +kernel)
  have c_law_next : CeG (Xc P w K mg base n_law_wide_tree "_law_wide_tree" s_law_wide_tree f cdv A outer s H E) "_law_next" 0 (w0 f_law_next) := ce_ofM D_law_next hr (by decide) (by decide +kernel)
  have g_law_brought : Gl (Xc P w K mg base n_law_wide_tree "_law_wide_tree" s_law_wide_tree f cdv A outer s H E) "_law_brought" := gl_of2 sf_law_wide_tree (by decide +kernel)
  have g_law_next : Gl (Xc P w K mg base n_law_wide_tree "_law_wide_tree" s_law_wide_tree f cdv A outer s H E) "_law_next" := gl_of2 sf_law_wide_tree (by decide +kernel)
  have po : PassesOwn (model (Xc P w K mg base n_law_wide_tree "_law_wide_tree" s_law_wide_tree f cdv A outer s H E).prog (Xc P w K mg base n_law_wide_tree "_law_wide_tree" s_law_wide_tree f cdv A outer s H E).w) (Xc P w K mg base n_law_wide_tree "_law_wide_tree" s_law_wide_tree f cdv A outer s H E).A (Xc P w K mg base n_law_wide_tree "_law_wide_tree" s_law_wide_tree f cdv A outer s H E).env (Xc P w K mg base n_law_wide_tree "_law_wide_tree" s_law_wide_tree f cdv A outer s H E).xe := PassesOwn.never
  refine ⟨Unit, (fun _ => []), noL, b_law_wide_tree v_most0 v_draw0, fun r hr => finM_ok hr, ?_⟩
  clear hn
  unfold b_law_wide_tree
  exact st_le (Γ1 := [.ol la v_draw0, .sh v_most0, .un, .un, .un, .un, .un, .un, .un, .un]) (GmLe.refl _) (st_setS (fun (s : List PyData) => [.ol la s, .sh v_most0, .un, .un, .un, .un, .un, .un, .un, .un]) rfl l2 (es_bin bk_add (es_pure fun s => ev_int) (es_bin bk_mod (es_callG (i := 0) c_law_next g_law_next (ep_here r0 ea_nilS)) (es_pure fun s => (ev_sub (ev_var r1) ev_int)))) (fun (s : List PyData) (d : PyData) => [.ol la s, .sh v_most0, .sh d, .un, .un, .un, .un, .un, .un, .un]) (fun p1 => (st_setLc true (own := [("_law_i", 8)]) (Gk := fun (k2 : PyData) => [.ol la p1.1, .sh v_most0, .sh p1.2, .un, .un, .un, .un, .un, .sh k2, .un]) hr l3 (blkOk_by (N := n_law_wide_tree) (sc := defScope s_law_wide_tree) (by decide +kernel)) (ei_rng1 b_range (ev_var r2)) (fun _ b3 => (tg_name (b3.lk c_law_wide_tree.nd (i := 8) rfl rfl) fun _ => rfl)) (fun _ b3 _ k2 => ⟨eq_nil, (ev_tup (ea_cons ev_str (ea_cons (ev_var (b3.rk (i := 8) rfl rfl)) ea_nil)))⟩) (fun v_rows4 => [.ol la p1.1, .sh v_most0, .sh p1.2, .ow v_rows4, .un, .un, .un, .un, .un, .un]) (fun v_rows4 => (st_forS (t0 := fun (s : List PyData) => (s, v_rows4)) po (fun (s : List PyData) => [.ol la s, .sh v_most0, .sh p1.2, .ow v_rows4, .un, .un, .un, .un, .un, .un]) rfl (ei_rngS b_range (es_bin bk_add (es_pure fun s => ev_int) (es_bin bk_mod (es_callG (i := 0) c_law_next g_law_next (ep_here r0 ea_nilS)) (es_pure fun s => ev_int)))) (fun (s5 : List PyData × List PyData) => [.ol la s5.1, .sh v_most0, .sh p1.2, .ow s5.2, .un, .un, .un, .un, .un, .un]) (fun (s5 : List PyData × List PyData) (k6 : PyData) => [.ol la s5.1, .sh v_most0, .sh p1.2, .ow s5.2, .sh k6, .un, .un, .un, .un, .un]) (fun s5 => (tg_name l4 fun _ => rfl)) (fun _ s5 k6 => (st_setS (fun (s : List PyData) => [.ol la s, .sh v_most0, .sh p1.2, .ow s5.2, .sh k6, .un, .un, .un, .un, .un]) rfl l5 (es_callG (i := 0) c_law_next g_law_next (ep_here r0 ea_nilS)) (fun (s : List PyData) (d : PyData) => [.ol la s, .sh v_most0, .sh p1.2, .ow s5.2, .sh k6, .sh d, .un, .un, .un, .un]) (fun p7 => (st_setO l6 (el_listRg b_list b_range (ev_lenG b_len r3)) (fun (v_left8 : List PyData) => [.ol la p7.1, .sh v_most0, .sh p1.2, .ow s5.2, .sh k6, .sh p7.2, .ow v_left8, .un, .un, .un]) (fun v_left8 => (st_setLcS (own := [("_law_k", 9)]) (fun (s : List PyData × List PyData) => [.ol la s.1, .sh v_most0, .sh p1.2, .ow s5.2, .sh k6, .sh p7.2, .ow s.2, .un, .un, .un]) rfl (fun (s : List PyData × List PyData) (k9 : PyData) => [.ol la s.1, .sh v_most0, .sh p1.2, .ow s5.2, .sh k6, .sh p7.2, .ow s.2, .un, .un, .sh k9]) hr l7 (blkOk_by (N := n_law_wide_tree) (sc := defScope s_law_wide_tree) (by decide +kernel)) (ei_pureS fun s => (ei_rng1 b_range (ev_add ev_int (ev_mod (ev_var r5) ev_int)))) (fun _ b10 s => (tg_name (b10.lk c_law_wide_tree.nd (i := 9) rfl rfl) fun _ => rfl)) (fun _ b10 k9 => (es_pop (i := 6) (b10.rk (i := 6) rfl rfl) (es_bin bk_mod (es_callG (i := 0) (b10.ceG D_law_next (by decide) (by decide +kernel)) (b10.gl rfl) (ep_here (b10.rk (i := 0) rfl rfl) ea_nilS)) (es_pure fun s => (ev_lenG (b10.bi T.m_len rfl) (b10.rk (i := 6) rfl rfl)))))) (fun _ _ => (.eq (.eq (.eq (.eq (.eq (.eq (.eq (.eq (.eq (.sh .nil))))))))))) (fun (s : List PyData × List PyData) (d : List PyData) => [.ol la s.1, .sh v_most0, .sh p1.2, .ow s5.2, .sh k6, .sh p7.2, .ow s.2, .ow d, .un, .un]) (fun p11 => (st_freeG (i := 7) (st_appG (i := 3) r3 (ev_tup (ea_cons ev_str (ea_cons (ev_add ev_int (ev_mod (ev_fdiv (ev_var r5) ev_int) (eb_len b_len (ev_var r7)))) (ea_cons (eb_tuple b_tuple (ev_var r7)) ea_nil)))) (fun v_rows12 => [.ol la p11.1.1, .sh v_most0, .sh p1.2, .ow v_rows12, .sh k6, .sh p7.2, .ow p11.1.2, .sh (.list p11.2), .un, .un]) (fun v_rows12 => (st_nil (.eq (.eq (.eq (.eq (.un (.un (.un (.un (.eq (.eq .nil))))))))))))))))))))) (fun s => (.eq (.eq (.eq (.eq (.eq (.eq (.eq (.eq (.eq (.eq .nil))))))))))) (fun s5 => (st_freeG (i := 3) (st_retG (i := 0) (pr := (fun (s : List PyData) => s)) (fun (s : List PyData) => [.ol la s, .sh v_most0, .sh p1.2, .sh (.list s5.2), .un, .un, .un, .un, .un, .un]) rfl (es_tup (ea_consS (es_pure fun s => (ev_var r2)) (ea_consS (es_pure fun s => (eb_tuple b_tuple (ev_var r3))) (ea_consS (es_callG (i := 0) c_law_brought g_law_brought (ep_here r0 (ea_consS (es_pure fun s => (ev_var r2)) ea_nilS))) ea_nilS))))))))))))
theorem ok_law_falls {f : Addr} {fd : FuncData} (F : Fun K "_law_falls" "_law_falls" s_law_falls f fd) (hm : mg "_law_falls" = some (.ref f)) (T : Mg mg) : DnF P w K mg base 1 "_law_falls" (u2 f_law_falls) := by
  refine dn_ofF F hm (F.binds (ps := ["_law_tree_here", "_law_bits"]) fun _ _ _ _ _ _ us hl => match us, hl with | [_, _], _ => rfl) ?_
  refine fn_okF F c_law_falls (fun ds hn => ?_) fun cdv A outer s H E B ds hr hn => ?_
  · obtain ⟨_, _, e⟩ := u2_inv hn; rw [e]; rfl
  obtain ⟨v_tree_here0, v_bits0, rfl⟩ := u2_inv hn
  clear hn
  have l2 : Lk (Xe P w K mg base n_law_falls "_law_falls" s_law_falls f cdv A outer s H E) 2 "_law_failed" := like_xe.lk (lk_of2 sf_law_falls rfl (by decide +kernel))
  have l3 : Lk (Xe P w K mg base n_law_falls "_law_falls" s_law_falls f cdv A outer s H E) 3 "_law_row" := like_xe.lk (lk_of2 sf_law_falls rfl (by decide +kernel))
  have l4 : Lk (Xe P w K mg base n_law_falls "_law_falls" s_law_falls f cdv A outer s H E) 4 "_law_by" := like_xe.lk (lk_of2 sf_law_falls rfl (by decide +kernel))
  have r0 : Rk (Xe P w K mg base n_law_falls "_law_falls" s_law_falls f cdv A outer s H E) 0 "_law_tree_here" := like_xe.rk (rk_of2 sf_law_falls rfl (by decide +kernel))
  have r2 : Rk (Xe P w K mg base n_law_falls "_law_falls" s_law_falls f cdv A outer s H E) 2 "_law_failed" := like_xe.rk (rk_of2 sf_law_falls rfl (by decide +kernel))
  have r3 : Rk (Xe P w K mg base n_law_falls "_law_falls" s_law_falls f cdv A outer s H E) 3 "_law_row" := like_xe.rk (rk_of2 sf_law_falls rfl (by decide +kernel))
  have r4 : Rk (Xe P w K mg base n_law_falls "_law_falls" s_law_falls f cdv A outer s H E) 4 "_law_by" := like_xe.rk (rk_of2 sf_law_falls rfl (by decide +kernel))
  have g_range : Gl (Xe P w K mg base n_law_falls "_law_falls" s_law_falls f cdv A outer s H E) "range" := like_xe.gl (gl_of2 sf_law_falls (by decide +kernel))
  have b_range : Bi (Xe P w K mg base n_law_falls "_law_falls" s_law_falls f cdv A outer s H E) "range" := ⟨g_range, T.m_range⟩
  have rm : Rm (Xe P w K mg base n_law_falls "_law_falls" s_law_falls f cdv A outer s H E) := ⟨hr.units⟩
  have po : PassesOwn (model (Xe P w K mg base n_law_falls "_law_falls" s_law_falls f cdv A outer s H E).prog (Xe P w K mg base n_law_falls "_law_falls" s_law_falls f cdv A outer s H E).w) (Xe P w K mg base n_law_falls "_law_falls" s_law_falls f cdv A outer s H E).A (Xe P w K mg base n_law_falls "_law_falls" s_law_falls f cdv A outer s H E).env (Xe P w K mg base n_law_falls "_law_falls" s_law_falls f cdv A outer s H E).xe := pass_e
  replace hr : Room 0 (Xe P w K mg base n_law_falls "_law_falls" s_law_falls f cdv A outer s H E).A := hr
  refine body_run (L := noL) (G := fun _ => []) (m := b_law_falls v_tree_here0 v_bits0) ?_
  unfold b_law_falls
  exact st_le (Γ1 := [.sh v_tree_here0, .sh v_bits0, .un, .un, .un, .un, .un]) (GmLe.refl _) (st_setO l2 (el_lst ea_nil) (fun (v_failed1 : List PyData) => [.sh v_tree_here0, .sh v_bits0, .ow v_failed1, .un, .un, .un, .un]) (fun v_failed1 => (st_for po (ei_any (ev_ix (ev_var r0) ev_int)) (fun (s2 : List PyData) => [.sh v_tree_here0, .sh v_bits0, .ow s2, .un, .un, .un, .un]) (fun (s2 : List PyData) (k3 : PyData) => [.sh v_tree_here0, .sh v_bits0, .ow s2, .sh k3, .un, .un, .un]) (fun s2 => (tg_name l3 fun _ => rfl)) (fun _ s2 k3 => (st_if (et_cmp (ck_eq' rm) (ev_ix (ev_var r3) ev_int) ev_str) (fun (t4 : List PyData) => [.sh v_tree_here0, .sh v_bits0, .ow t4, .sh k3, .un, .un, .un]) (st_setLc false (own := [("_law_j", 5)]) (Gk := fun (k5 : PyData) => [.sh v_tree_here0, .sh v_bits0, .ow s2, .sh k3, .un, .sh k5, .un]) hr l4 (blkOk_by (N := n_law_falls) (sc := defScope s_law_falls) (by decide +kernel)) (ei_rng1 b_range (ev_ix (ev_var r0) ev_int)) (fun _ b6 => (tg_name (b6.lk c_law_falls.nd (i := 5) rfl rfl) fun _ => rfl)) (fun _ b6 _ k5 => ⟨(eq_one (et_w (ew_and (et_cmp (ck_eq' b6.rm) (ev_mod (ev_fdiv (ev_var (b6.rk (i := 1) rfl rfl)) (ev_shl ev_int (ev_var (b6.rk (i := 5) rfl rfl)))) ev_int) ev_int) (ew_and1 (et_cmp (ck_eq' b6.rm) (ev_mod (ev_fdiv (ev_ix (ev_ix (ev_var (b6.rk (i := 0) rfl rfl)) ev_int) (ev_var (b6.rk (i := 5) rfl rfl))) (ev_shl ev_int (ev_ix (ev_var (b6.rk (i := 3) rfl rfl)) ev_int))) ev_int) ev_int))))), (ev_var (b6.rk (i := 5) rfl rfl))⟩) (fun v_by7 => [.sh v_tree_here0, .sh v_bits0, .ow s2, .sh k3, .sh (.list v_by7), .un, .un]) (fun v_by7 => (st_appG (i := 2) r2 (ev_cmp (ck_ne' rm) (ev_var r4) (ev_liR (el_lst ea_nil))) (fun v_failed8 => [.sh v_tree_here0, .sh v_bits0, .ow v_failed8, .sh k3, .sh (.list v_by7), .un, .un]) (fun v_failed8 => (st_nil (.eq (.eq (.eq (.eq (.un (.eq (.eq .nil)))))))))))) (st_appG (i := 2) r2 (ev_cmp ck_ge' (ev_count (ev_liR (el_lc (own := [("_law_child", 6)]) (G := fun (k10 : PyData) => [.sh v_tree_here0, .sh v_bits0, .ow s2, .sh k3, .un, .un, .sh k10]) hr c_law_falls.nd (blkOk_by (N := n_law_falls) (sc := defScope s_law_falls) (by decide +kernel)) (ei_any (ev_ix (ev_var r3) ev_int)) (fun _ b11 => (tg_name (b11.lk c_law_falls.nd (i := 6) rfl rfl) fun _ => rfl)) (fun _ b11 _ k10 => ⟨eq_nil, (ev_ixG (b11.rk (i := 2) rfl rfl) (ev_var (b11.rk (i := 6) rfl rfl)))⟩))) ev_bl) (ev_ix (ev_var r3) ev_int)) (fun v_failed9 => [.sh v_tree_here0, .sh v_bits0, .ow v_failed9, .sh k3, .un, .un, .un]) (fun v_failed9 => (st_nil (.eq (.eq (.eq (.eq (.eq (.eq (.eq .nil)))))))))) (fun t4 => (st_nil (.eq (.eq (.eq (.un (.eq (.eq (.eq .nil))))))))))) (.eq (.eq (.eq (.eq (.eq (.eq (.eq .nil))))))) (fun s2 => (st_freeG (i := 2) (st_ret (ev_ix (ev_var r2) (ev_neg ev_int))))))))
theorem ok_law_least {f : Addr} {fd : FuncData} (F : Fun K "_law_least" "_law_least" s_law_least f fd) (hm : mg "_law_least" = some (.ref f)) (T : Mg mg) : DnF P w K mg base 1 "_law_least" (u1 f_law_least_k11) := by
  refine dn_ofF F hm (F.binds (ps := ["_law_some"]) fun _ _ _ _ _ _ us hl => match us, hl with | [_], _ => rfl) ?_
  refine fn_okF F c_law_least (fun ds hn => ?_) fun cdv A outer s H E B ds hr hn => ?_
  · obtain ⟨_, e⟩ := u1_inv hn; rw [e]; rfl
  obtain ⟨v_some0, rfl⟩ := u1_inv hn
  clear hn
  have l1 : Lk (Xe P w K mg base n_law_least "_law_least" s_law_least f cdv A outer s H E) 1 "_law_bits" := like_xe.lk (lk_of2 sf_law_least rfl (by decide +kernel))
  have l2 : Lk (Xe P w K mg base n_law_least "_law_least" s_law_least f cdv A outer s H E) 2 "_law_known" := like_xe.lk (lk_of2 sf_law_least rfl (by decide +kernel))
  have l3 : Lk (Xe P w K mg base n_law_least "_law_least" s_law_least f cdv A outer s H E) 3 "_law_found" := like_xe.lk (lk_of2 sf_law_least rfl (by decide +kernel))
  have l4 : Lk (Xe P w K mg base n_law_least "_law_least" s_law_least f cdv A outer s H E) 4 "_law_own" := like_xe.lk (lk_of2 sf_law_least rfl (by decide +kernel))
  have r0 : Rk (Xe P w K mg base n_law_least "_law_least" s_law_least f cdv A outer s H E) 0 "_law_some" := like_xe.rk (rk_of2 sf_law_least rfl (by decide +kernel))
  have r1 : Rk (Xe P w K mg base n_law_least "_law_least" s_law_least f cdv A outer s H E) 1 "_law_bits" := like_xe.rk (rk_of2 sf_law_least rfl (by decide +kernel))
  have r3 : Rk (Xe P w K mg base n_law_least "_law_least" s_law_least f cdv A outer s H E) 3 "_law_found" := like_xe.rk (rk_of2 sf_law_least rfl (by decide +kernel))
  have r4 : Rk (Xe P w K mg base n_law_least "_law_least" s_law_least f cdv A outer s H E) 4 "_law_own" := like_xe.rk (rk_of2 sf_law_least rfl (by decide +kernel))
  have g_dict : Gl (Xe P w K mg base n_law_least "_law_least" s_law_least f cdv A outer s H E) "dict" := like_xe.gl (gl_of2 sf_law_least (by decide +kernel))
  have b_dict : Bi (Xe P w K mg base n_law_least "_law_least" s_law_least f cdv A outer s H E) "dict" := ⟨g_dict, T.m_dict⟩
  have g_len : Gl (Xe P w K mg base n_law_least "_law_least" s_law_least f cdv A outer s H E) "len" := like_xe.gl (gl_of2 sf_law_least (by decide +kernel))
  have b_len : Bi (Xe P w K mg base n_law_least "_law_least" s_law_least f cdv A outer s H E) "len" := ⟨g_len, T.m_len⟩
  have g_range : Gl (Xe P w K mg base n_law_least "_law_least" s_law_least f cdv A outer s H E) "range" := like_xe.gl (gl_of2 sf_law_least (by decide +kernel))
  have b_range : Bi (Xe P w K mg base n_law_least "_law_least" s_law_least f cdv A outer s H E) "range" := ⟨g_range, T.m_range⟩
  have g_sorted : Gl (Xe P w K mg base n_law_least "_law_least" s_law_least f cdv A outer s H E) "sorted" := like_xe.gl (gl_of2 sf_law_least (by decide +kernel))
  have b_sorted : Bi (Xe P w K mg base n_law_least "_law_least" s_law_least f cdv A outer s H E) "sorted" := ⟨g_sorted, T.m_sorted⟩
  have g_tuple : Gl (Xe P w K mg base n_law_least "_law_least" s_law_least f cdv A outer s H E) "tuple" := like_xe.gl (gl_of2 sf_law_least (by decide +kernel))
  have b_tuple : Bi (Xe P w K mg base n_law_least "_law_least" s_law_least f cdv A outer s H E) "tuple" := ⟨g_tuple, T.m_tuple⟩
  have rm : Rm (Xe P w K mg base n_law_least "_law_least" s_law_least f cdv A outer s H E) := ⟨hr.units⟩
  have po : PassesOwn (model (Xe P w K mg base n_law_least "_law_least" s_law_least f cdv A outer s H E).prog (Xe P w K mg base n_law_least "_law_least" s_law_least f cdv A outer s H E).w) (Xe P w K mg base n_law_least "_law_least" s_law_least f cdv A outer s H E).A (Xe P w K mg base n_law_least "_law_least" s_law_least f cdv A outer s H E).env (Xe P w K mg base n_law_least "_law_least" s_law_least f cdv A outer s H E).xe := pass_e
  replace hr : Room 0 (Xe P w K mg base n_law_least "_law_least" s_law_least f cdv A outer s H E).A := hr
  refine body_run (L := noL) (G := fun _ => []) (m := b_law_least_k11 v_some0) ?_
  unfold b_law_least_k11
  exact st_le (Γ1 := [.sh v_some0, .un, .un, .un, .un, .un, .un]) (GmLe.refl _) (st_set l2 (eb_dict b_dict (ev_liR (el_lc (own := [("_law_bits", 1)]) (G := fun (k2 : PyData) => [.sh v_some0, .sh k2, .un, .un, .un, .un, .un]) hr c_law_least.nd (blkOk_by (N := n_law_least) (sc := defScope s_law_least) (by decide +kernel)) (ei_any (ev_var r0)) (fun _ b3 => (tg_name (b3.lk c_law_least.nd (i := 1) rfl rfl) fun _ => rfl)) (fun _ b3 _ k2 => ⟨eq_nil, (ev_tup (ea_cons (ev_var (b3.rk (i := 1) rfl rfl)) (ea_cons ev_bl ea_nil)))⟩)))) (fun (v_known1 : PyData) => [.sh v_some0, .un, .sh v_known1, .un, .un, .un, .un]) (fun v_known1 => (st_setO l3 (el_lst ea_nil) (fun (v_found4 : List PyData) => [.sh v_some0, .un, .sh v_known1, .ow v_found4, .un, .un, .un]) (fun v_found4 => (st_for po (ei_any (ev_var r0)) (fun (s5 : List PyData) => [.sh v_some0, .un, .sh v_known1, .ow s5, .un, .un, .un]) (fun (s5 : List PyData) (k6 : PyData) => [.sh v_some0, .sh k6, .sh v_known1, .ow s5, .un, .un, .un]) (fun s5 => (tg_name l1 fun _ => rfl)) (fun _ s5 k6 => (st_setLc false (own := [("_law_k", 5)]) (Gk := fun (k7 : PyData) => [.sh v_some0, .sh k6, .sh v_known1, .ow s5, .un, .sh k7, .un]) hr l4 (blkOk_by (N := n_law_least) (sc := defScope s_law_least) (by decide +kernel)) (ei_rng1 b_range ev_int) (fun _ b8 => (tg_name (b8.lk c_law_least.nd (i := 5) rfl rfl) fun _ => rfl)) (fun _ b8 _ k7 => ⟨(eq_one (et_cmp (ck_eq' b8.rm) (ev_band (ev_shr (ev_var (b8.rk (i := 1) rfl rfl)) (ev_var (b8.rk (i := 5) rfl rfl))) ev_int) ev_int)), (ev_var (b8.rk (i := 5) rfl rfl))⟩) (fun v_own9 => [.sh v_some0, .sh k6, .sh v_known1, .ow s5, .sh (.list v_own9), .un, .un]) (fun v_own9 => (st_if (et_cmp (ck_eq' rm) (ev_liR (el_lc (own := [("_law_k", 5)]) (G := fun (k11 : PyData) => [.sh v_some0, .sh k6, .sh v_known1, .ow s5, .sh (.list v_own9), .sh k11, .un]) hr c_law_least.nd (blkOk_by (N := n_law_least) (sc := defScope s_law_least) (by decide +kernel)) (ei_any (ev_var r4)) (fun _ b12 => (tg_name (b12.lk c_law_least.nd (i := 5) rfl rfl) fun _ => rfl)) (fun _ b12 _ k11 => ⟨(eq_one (et_inD b12.rm (ev_sub (ev_var (b12.rk (i := 1) rfl rfl)) (ev_shl ev_int (ev_var (b12.rk (i := 5) rfl rfl)))) (ev_var (b12.rk (i := 2) rfl rfl)))), (ev_var (b12.rk (i := 5) rfl rfl))⟩))) (ev_liR (el_lst ea_nil))) (fun (t10 : List PyData) => [.sh v_some0, .sh k6, .sh v_known1, .ow t10, .sh (.list v_own9), .un, .un]) (st_appG (i := 3) r3 (ev_tup (ea_cons (eb_len b_len (ev_var r4)) (ea_cons (ev_var r1) ea_nil))) (fun v_found13 => [.sh v_some0, .sh k6, .sh v_known1, .ow v_found13, .sh (.list v_own9), .un, .un]) (fun v_found13 => (st_nil (.eq (.eq (.eq (.eq (.eq (.eq (.eq .nil)))))))))) (st_nil (.eq (.eq (.eq (.eq (.eq (.eq (.eq .nil)))))))) (fun t10 => (st_nil (.eq (.un (.eq (.eq (.un (.eq (.eq .nil))))))))))))) (.eq (.eq (.eq (.eq (.eq (.eq (.eq .nil))))))) (fun s5 => (st_freeG (i := 3) (st_ret (eb_tuple b_tuple (ev_liR (el_lc (own := [("_law_count", 6), ("_law_bits", 1)]) (G := fun (k14 : PyData × PyData) => [.sh v_some0, .sh k14.2, .sh v_known1, .sh (.list s5), .un, .un, .sh k14.1]) hr c_law_least.nd (blkOk_by (N := n_law_least) (sc := defScope s_law_least) (by decide +kernel)) (ei_any (ev_liR (el_sorted rm b_sorted (ev_var r3)))) (fun _ b15 => (tg_2 (G1 := fun (y16 : PyData) => [.sh v_some0, .un, .sh v_known1, .sh (.list s5), .un, .un, .sh y16]) (tg_name (b15.lk c_law_least.nd (i := 6) rfl rfl) fun _ => rfl) (fun _ => (tg_name (b15.lk c_law_least.nd (i := 1) rfl rfl) fun _ => rfl)) (hc := ⟨b15.calm rfl⟩))) (fun _ b15 _ k14 => ⟨eq_nil, (ev_var (b15.rk (i := 1) rfl rfl))⟩))))))))))))
theorem ok_law {f : Addr} {fd : FuncData} (F : Fun K "law" "law" s_law f fd) (hm : mg "law" = some (.ref f)) (T : Mg mg) (D_law_cell : DnF P w K mg base 1 "_law_cell" (u2 f_law_cell_k11)) (D_law_wide_tree : DnG P w K mg base 4 "_law_wide_tree" 0 (w1 f_law_wide_tree)) (D_law_tree : DnG P w K mg base 4 "_law_tree" 0 (w1 f_law_tree_k11)) (D_law_falls : DnF P w K mg base 1 "_law_falls" (u2 f_law_falls)) (D_law_least : DnF P w K mg base 1 "_law_least" (u1 f_law_least_k11)) (D_cuts : DnF P w K mg base 6 "cuts" (u1 f_cuts)) (D_keeps : DnF P w K mg base 6 "keeps" (u1 f_keeps)) (D_cross : DnF P w K mg base 6 "cross" (u2 f_cross)) (hrC : Room 7 callerA) : RunAt P w K mg base CX0 callerA f fd ["_law_script"] (spR K r_law) := by
  refine law_run F c_law hrC (fun ds d hR => ?_) fun cdv s H E B ds d hr gd hR => ?_
  · obtain ⟨ns, rfl, _, _⟩ := hR; rfl
  obtain ⟨ns, rfl, hl, rfl⟩ := hR
  have hF : fin (b_law_k11 (.list (ns.map .int))) = .ok (.bool true) := law_true ns hl
  generalize PyData.list (ns.map .int) = v_script0 at hF
  have l1 : Lk (Xc P w K mg base n_law "law" s_law f cdv callerA [] s H E) 1 "_law_draw" := lk_of2 sf_law rfl (by decide +kernel)
  have l10 : Lk (Xc P w K mg base n_law "law" s_law f cdv callerA [] s H E) 10 "_law_one" := lk_of2 sf_law rfl (by decide +kernel)
  have l11 : Lk (Xc P w K mg base n_law "law" s_law f cdv callerA [] s H E) 11 "_law_other" := lk_of2 sf_law rfl (by decide +kernel)
  have l12 : Lk (Xc P w K mg base n_law "law" s_law f cdv callerA [] s H E) 12 "_law_again" := lk_of2 sf_law rfl (by decide +kernel)
  have l2 : Lk (Xc P w K mg base n_law "law" s_law f cdv callerA [] s H E) 2 "_law_turn" := lk_of2 sf_law rfl (by decide +kernel)
  have l3 : Lk (Xc P w K mg base n_law "law" s_law f cdv callerA [] s H E) 3 "_law_is_wide" := lk_of2 sf_law rfl (by decide +kernel)
  have l4 : Lk (Xc P w K mg base n_law "law" s_law f cdv callerA [] s H E) 4 "_law_tree_here" := lk_of2 sf_law rfl (by decide +kernel)
  have l5 : Lk (Xc P w K mg base n_law "law" s_law f cdv callerA [] s H E) 5 "_law_kept" := lk_of2 sf_law rfl (by decide +kernel)
  have l6 : Lk (Xc P w K mg base n_law "law" s_law f cdv callerA [] s H E) 6 "_law_many" := lk_of2 sf_law rfl (by decide +kernel)
  have l7 : Lk (Xc P w K mg base n_law "law" s_law f cdv callerA [] s H E) 7 "_law_fails" := lk_of2 sf_law rfl (by decide +kernel)
  have l8 : Lk (Xc P w K mg base n_law "law" s_law f cdv callerA [] s H E) 8 "_law_known" := lk_of2 sf_law rfl (by decide +kernel)
  have l9 : Lk (Xc P w K mg base n_law "law" s_law f cdv callerA [] s H E) 9 "_law_holds" := lk_of2 sf_law rfl (by decide +kernel)
  have r0 : Rk (Xc P w K mg base n_law "law" s_law f cdv callerA [] s H E) 0 "_law_script" := rk_of2 sf_law rfl (by decide +kernel)
  have r1 : Rk (Xc P w K mg base n_law "law" s_law f cdv callerA [] s H E) 1 "_law_draw" := rk_of2 sf_law rfl (by decide +kernel)
  have r10 : Rk (Xc P w K mg base n_law "law" s_law f cdv callerA [] s H E) 10 "_law_one" := rk_of2 sf_law rfl (by decide +kernel)
  have r11 : Rk (Xc P w K mg base n_law "law" s_law f cdv callerA [] s H E) 11 "_law_other" := rk_of2 sf_law rfl (by decide +kernel)
  have r2 : Rk (Xc P w K mg base n_law "law" s_law f cdv callerA [] s H E) 2 "_law_turn" := rk_of2 sf_law rfl (by decide +kernel)
  have r3 : Rk (Xc P w K mg base n_law "law" s_law f cdv callerA [] s H E) 3 "_law_is_wide" := rk_of2 sf_law rfl (by decide +kernel)
  have r4 : Rk (Xc P w K mg base n_law "law" s_law f cdv callerA [] s H E) 4 "_law_tree_here" := rk_of2 sf_law rfl (by decide +kernel)
  have r5 : Rk (Xc P w K mg base n_law "law" s_law f cdv callerA [] s H E) 5 "_law_kept" := rk_of2 sf_law rfl (by decide +kernel)
  have r6 : Rk (Xc P w K mg base n_law "law" s_law f cdv callerA [] s H E) 6 "_law_many" := rk_of2 sf_law rfl (by decide +kernel)
  have r7 : Rk (Xc P w K mg base n_law "law" s_law f cdv callerA [] s H E) 7 "_law_fails" := rk_of2 sf_law rfl (by decide +kernel)
  have r9 : Rk (Xc P w K mg base n_law "law" s_law f cdv callerA [] s H E) 9 "_law_holds" := rk_of2 sf_law rfl (by decide +kernel)
  have g_dict : Gl (Xc P w K mg base n_law "law" s_law f cdv callerA [] s H E) "dict" := gl_of2 sf_law (by decide +kernel)
  have b_dict : Bi (Xc P w K mg base n_law "law" s_law f cdv callerA [] s H E) "dict" := ⟨g_dict, T.m_dict⟩
  have g_len : Gl (Xc P w K mg base n_law "law" s_law f cdv callerA [] s H E) "len" := gl_of2 sf_law (by decide +kernel)
  have b_len : Bi (Xc P w K mg base n_law "law" s_law f cdv callerA [] s H E) "len" := ⟨g_len, T.m_len⟩
  have g_range : Gl (Xc P w K mg base n_law "law" s_law f cdv callerA [] s H E) "range" := gl_of2 sf_law (by decide +kernel)
  have b_range : Bi (Xc P w K mg base n_law "law" s_law f cdv callerA [] s H E) "range" := ⟨g_range, T.m_range⟩
  have g_repr : Gl (Xc P w K mg base n_law "law" s_law f cdv callerA [] s H E) "repr" := gl_of2 sf_law (by decide +kernel)
  have b_repr : Bi (Xc P w K mg base n_law "law" s_law f cdv callerA [] s H E) "repr" := ⟨g_repr, T.m_repr⟩
  have c_cross : CeF (Xc P w K mg base n_law "law" s_law f cdv callerA [] s H E) "cross" (u2 f_cross) := ce_ofF D_cross hr (by decide) (by decide +kernel)
  have c_cuts : CeF (Xc P w K mg base n_law "law" s_law f cdv callerA [] s H E) "cuts" (u1 f_cuts) := ce_ofF D_cuts hr (by decide) (by decide +kernel)
  have c_keeps : CeF (Xc P w K mg base n_law "law" s_law f cdv callerA [] s H E) "keeps" (u1 f_keeps) := ce_ofF D_keeps hr (by decide) (by decide +kernel)
  have c_law_cell : CeF (Xc P w K mg base n_law "law" s_law f cdv callerA [] s H E) "_law_cell" (u2 f_law_cell_k11) := ce_ofF D_law_cell hr (by decide) (by decide +kernel)
  have c_law_least : CeF (Xc P w K mg base n_law "law" s_law f cdv callerA [] s H E) "_law_least" (u1 f_law_least_k11) := ce_ofF D_law_least hr (by decide) (by decide +kernel)
  have c_law_tree : CeG (Xc P w K mg base n_law "law" s_law f cdv callerA [] s H E) "_law_tree" 0 (w1 f_law_tree_k11) := ce_ofM D_law_tree hr (by decide) (by decide +kernel)
  have c_law_wide_tree : CeG (Xc P w K mg base n_law "law" s_law f cdv callerA [] s H E) "_law_wide_tree" 0 (w1 f_law_wide_tree) := ce_ofM D_law_wide_tree hr (by decide) (by decide +kernel)
  have g_cross : Gl (Xc P w K mg base n_law "law" s_law f cdv callerA [] s H E) "cross" := gl_of2 sf_law (by decide +kernel)
  have g_cuts : Gl (Xc P w K mg base n_law "law" s_law f cdv callerA [] s H E) "cuts" := gl_of2 sf_law (by decide +kernel)
  have g_keeps : Gl (Xc P w K mg base n_law "law" s_law f cdv callerA [] s H E) "keeps" := gl_of2 sf_law (by decide +kernel)
  have g_law_cell : Gl (Xc P w K mg base n_law "law" s_law f cdv callerA [] s H E) "_law_cell" := gl_of2 sf_law (by decide +kernel)
  have g_law_least : Gl (Xc P w K mg base n_law "law" s_law f cdv callerA [] s H E) "_law_least" := gl_of2 sf_law (by decide +kernel)
  have g_law_tree : Gl (Xc P w K mg base n_law "law" s_law f cdv callerA [] s H E) "_law_tree" := gl_of2 sf_law (by decide +kernel)
  have g_law_wide_tree : Gl (Xc P w K mg base n_law "law" s_law f cdv callerA [] s H E) "_law_wide_tree" := gl_of2 sf_law (by decide +kernel)
  have rm : Rm (Xc P w K mg base n_law "law" s_law f cdv callerA [] s H E) := ⟨hr.units⟩
  have po : PassesOwn (model (Xc P w K mg base n_law "law" s_law f cdv callerA [] s H E).prog (Xc P w K mg base n_law "law" s_law f cdv callerA [] s H E).w) (Xc P w K mg base n_law "law" s_law f cdv callerA [] s H E).A (Xc P w K mg base n_law "law" s_law f cdv callerA [] s H E).env (Xc P w K mg base n_law "law" s_law f cdv callerA [] s H E).xe := PassesOwn.never
  refine ⟨b_law_k11 v_script0, hF, (fun _ => []), noL, ?_⟩
  clear hF hl
  unfold b_law_k11
  exact st_le (Γ1 := [.sh v_script0, .un, .un, .un, .un, .un, .un, .un, .un, .un, .un, .un, .un, .un]) (GmLe.refl _) (st_setO l1 (el_lst (ea_cons (ev_var r0) (ea_cons ev_int ea_nil))) (fun (v_draw1 : List PyData) => [.sh v_script0, .ow v_draw1, .un, .un, .un, .un, .un, .un, .un, .un, .un, .un, .un, .un]) (fun v_draw1 => (st_for po (ei_rng1 b_range (ev_add ev_int (ev_fdiv (eb_len b_len (ev_sl (ev_var r0) eo_none (eo_some ev_int))) ev_int))) (fun (s2 : List PyData) => [.sh v_script0, .ow s2, .un, .un, .un, .un, .un, .un, .un, .un, .un, .un, .un, .un]) (fun (s2 : List PyData) (k3 : PyData) => [.sh v_script0, .ow s2, .sh k3, .un, .un, .un, .un, .un, .un, .un, .un, .un, .un, .un]) (fun s2 => (tg_name l2 fun _ => rfl)) (fun _ s2 k3 => (st_set l3 (ev_and (ev_cmp (ck_eq' rm) (ev_var r2) ev_int) (ev_one (ev_cmp (ck_eq' rm) (ev_mod (ev_call2 c_law_cell g_law_cell (ev_var r0) ev_int) ev_int) ev_int))) (fun (v_is_wide4 : PyData) => [.sh v_script0, .ow s2, .sh k3, .sh v_is_wide4, .un, .un, .un, .un, .un, .un, .un, .un, .un, .un]) (fun v_is_wide4 => (st_setS (fun (s : List PyData) => [.sh v_script0, .ow s, .sh k3, .sh v_is_wide4, .un, .un, .un, .un, .un, .un, .un, .un, .un, .un]) rfl l4 (es_if (fun s => (et_tru (ev_var r3))) (es_callG (i := 1) c_law_wide_tree g_law_wide_tree (ep_here r1 (ea_consS (es_pure fun s => ev_int) ea_nilS))) (es_callG (i := 1) c_law_tree g_law_tree (ep_here r1 (ea_consS (es_pure fun s => ev_int) ea_nilS)))) (fun (s : List PyData) (d : PyData) => [.sh v_script0, .ow s, .sh k3, .sh v_is_wide4, .sh d, .un, .un, .un, .un, .un, .un, .un, .un, .un]) (fun p5 => (st_set l5 (eb_repr b_repr gd rm (ev_var r4)) (fun (v_kept6 : PyData) => [.sh v_script0, .ow p5.1, .sh k3, .sh v_is_wide4, .sh p5.2, .sh v_kept6, .un, .un, .un, .un, .un, .un, .un, .un]) (fun v_kept6 => (st_set l6 (ev_ix (ev_var r4) ev_int) (fun (v_many7 : PyData) => [.sh v_script0, .ow p5.1, .sh k3, .sh v_is_wide4, .sh p5.2, .sh v_kept6, .sh v_many7, .un, .un, .un, .un, .un, .un, .un]) (fun v_many7 => (st_setLc false (own := [("_law_bits", 13)]) (Gk := fun (k8 : PyData) => [.sh v_script0, .ow p5.1, .sh k3, .sh v_is_wide4, .sh p5.2, .sh v_kept6, .sh v_many7, .un, .un, .un, .un, .un, .un, .sh k8]) hr l7 (blkOk_by (N := n_law) (sc := defScope s_law) (by decide +kernel)) (ei_rng1 b_range (ev_shl ev_int (ev_var r6))) (fun _ b9 => (tg_name (b9.lk c_law.nd (i := 13) rfl rfl) fun _ => rfl)) (fun _ b9 _ k8 => ⟨(eq_one (et_tru (ev_call2 (b9.ceF D_law_falls (by decide) (by decide +kernel)) (b9.gl rfl) (ev_var (b9.rk (i := 4) rfl rfl)) (ev_var (b9.rk (i := 13) rfl rfl))))), (ev_var (b9.rk (i := 13) rfl rfl))⟩) (fun v_fails10 => [.sh v_script0, .ow p5.1, .sh k3, .sh v_is_wide4, .sh p5.2, .sh v_kept6, .sh v_many7, .sh (.list v_fails10), .un, .un, .un, .un, .un, .un]) (fun v_fails10 => (st_set l8 (eb_dict b_dict (ev_liR (el_lc (own := [("_law_bits", 13)]) (G := fun (k12 : PyData) => [.sh v_script0, .ow p5.1, .sh k3, .sh v_is_wide4, .sh p5.2, .sh v_kept6, .sh v_many7, .sh (.list v_fails10), .un, .un, .un, .un, .un, .sh k12]) hr c_law.nd (blkOk_by (N := n_law) (sc := defScope s_law) (by decide +kernel)) (ei_any (ev_var r7)) (fun _ b13 => (tg_name (b13.lk c_law.nd (i := 13) rfl rfl) fun _ => rfl)) (fun _ b13 _ k12 => ⟨eq_nil, (ev_tup (ea_cons (ev_var (b13.rk (i := 13) rfl rfl)) (ea_cons ev_bl ea_nil)))⟩)))) (fun (v_known11 : PyData) => [.sh v_script0, .ow p5.1, .sh k3, .sh v_is_wide4, .sh p5.2, .sh v_kept6, .sh v_many7, .sh (.list v_fails10), .sh v_known11, .un, .un, .un, .un, .un]) (fun v_known11 => (st_setLc false (own := [("_law_bits", 13)]) (Gk := fun (k14 : PyData) => [.sh v_script0, .ow p5.1, .sh k3, .sh v_is_wide4, .sh p5.2, .sh v_kept6, .sh v_many7, .sh (.list v_fails10), .sh v_known11, .un, .un, .un, .un, .sh k14]) hr l9 (blkOk_by (N := n_law) (sc := defScope s_law) (by decide +kernel)) (ei_rng1 b_range (ev_shl ev_int (ev_var r6))) (fun _ b15 => (tg_name (b15.lk c_law.nd (i := 13) rfl rfl) fun _ => rfl)) (fun _ b15 _ k14 => ⟨(eq_one (et_ninD b15.rm (ev_sub (ev_sub (ev_shl ev_int (ev_var (b15.rk (i := 6) rfl rfl))) ev_int) (ev_var (b15.rk (i := 13) rfl rfl))) (ev_var (b15.rk (i := 8) rfl rfl)))), (ev_var (b15.rk (i := 13) rfl rfl))⟩) (fun v_holds16 => [.sh v_script0, .ow p5.1, .sh k3, .sh v_is_wide4, .sh p5.2, .sh v_kept6, .sh v_many7, .sh (.list v_fails10), .sh v_known11, .sh (.list v_holds16), .un, .un, .un, .un]) (fun v_holds16 => (st_par l10 l11 (ev_call1 c_law_least g_law_least (ev_var r7)) (ev_call1 c_law_least g_law_least (ev_var r9)) (fun v_one17 v_other18 => [.sh v_script0, .ow p5.1, .sh k3, .sh v_is_wide4, .sh p5.2, .sh v_kept6, .sh v_many7, .sh (.list v_fails10), .sh v_known11, .sh (.list v_holds16), .sh v_one17, .sh v_other18, .un, .un]) (fun v_one17 v_other18 => (st_for po (ei_rng1 b_range ev_int) (fun (s19 : Unit) => [.sh v_script0, .ow p5.1, .sh k3, .sh v_is_wide4, .sh p5.2, .sh v_kept6, .sh v_many7, .sh (.list v_fails10), .sh v_known11, .sh (.list v_holds16), .sh v_one17, .sh v_other18, .un, .un]) (fun (s19 : Unit) (k20 : PyData) => [.sh v_script0, .ow p5.1, .sh k3, .sh v_is_wide4, .sh p5.2, .sh v_kept6, .sh v_many7, .sh (.list v_fails10), .sh v_known11, .sh (.list v_holds16), .sh v_one17, .sh v_other18, .sh k20, .un]) (fun s19 => (tg_name l12 fun _ => rfl)) (fun _ s19 k20 => (st_if (et_w (ew_or (et_cmp (ck_ne' rm) (eb_repr b_repr gd rm (ev_call1 c_cuts g_cuts (ev_var r4))) (eb_repr b_repr gd rm (ev_var r10))) (ew_or1 (et_cmp (ck_ne' rm) (eb_repr b_repr gd rm (ev_call1 c_keeps g_keeps (ev_var r4))) (eb_repr b_repr gd rm (ev_var r11)))))) (fun (t21 : Unit) => [.sh v_script0, .ow p5.1, .sh k3, .sh v_is_wide4, .sh p5.2, .sh v_kept6, .sh v_many7, .sh (.list v_fails10), .sh v_known11, .sh (.list v_holds16), .sh v_one17, .sh v_other18, .sh k20, .un]) (st_ret ev_bl) (st_nil (.eq (.eq (.eq (.eq (.eq (.eq (.eq (.eq (.eq (.eq (.eq (.eq (.eq (.eq .nil))))))))))))))) (fun t21 => (st_nil (.eq (.eq (.eq (.eq (.eq (.eq (.eq (.eq (.eq (.eq (.eq (.eq (.un (.eq .nil)))))))))))))))))) (.eq (.eq (.eq (.eq (.eq (.eq (.eq (.eq (.eq (.eq (.eq (.eq (.eq (.eq .nil)))))))))))))) (fun s19 => (st_if (et_w (ew_or (et_cmp (ck_ne' rm) (eb_repr b_repr gd rm (ev_call2 c_cross g_cross (ev_var r10) (ev_var r6))) (eb_repr b_repr gd rm (ev_var r11))) (ew_or (et_cmp (ck_ne' rm) (eb_repr b_repr gd rm (ev_call2 c_cross g_cross (ev_var r11) (ev_var r6))) (eb_repr b_repr gd rm (ev_var r10))) (ew_or1 (et_cmp (ck_ne' rm) (eb_repr b_repr gd rm (ev_var r4)) (ev_var r5)))))) (fun (t22 : Unit) => [.sh v_script0, .ow p5.1, .sh k3, .sh v_is_wide4, .sh p5.2, .sh v_kept6, .sh v_many7, .sh (.list v_fails10), .sh v_known11, .sh (.list v_holds16), .sh v_one17, .sh v_other18, .un, .un]) (st_ret ev_bl) (st_nil (.eq (.eq (.eq (.eq (.eq (.eq (.eq (.eq (.eq (.eq (.eq (.eq (.eq (.eq .nil))))))))))))))) (fun t22 => (st_nil (.eq (.eq (.un (.un (.un (.un (.un (.un (.un (.un (.un (.un (.eq (.eq .nil)))))))))))))))))))))))))))))))))))) (.eq (.eq (.eq (.eq (.eq (.eq (.eq (.eq (.eq (.eq (.eq (.eq (.eq (.eq .nil)))))))))))))) (fun s2 => (st_ret ev_bl)))))
/-! the end -/
section
omit [Tabs] in
theorem all_mk {l : PySem.W.OpenLaw} {w : World} {q : Program} {K : PySem.W.Frag} {h : Heap} {mg : Str → Option Value} {fa : Addr} (X : K.In h) (G : h.Ns mainGlobals mg) (hfa : mg "law" = some (.ref fa)) (TH : TabsAtHead q K h)
    {f0 : Addr} {od0 an0 : Option Addr} {sl0 : Array (Option Value)} {oc0 kV0 dc0 pm0 cd0 ct0 : Value}
    (a0 : PySem.W.nsIn K mainGlobals "is_whole" = some (some (.ref f0))) (l0 : K.lookup f0 = some ⟨oc0, od0, .func (PySem.W.fnOf "is_whole" "is_whole" (defArgs s_is_whole) (defBody s_is_whole) (defScope s_is_whole) .none kV0 dc0 pm0 an0 cd0 ct0), sl0⟩) (c0 : PySem.W.codeIn K cd0 "is_whole" = true) (k0 : PySem.W.keepIn K (.ref f0) = true)
    {f1 : Addr} {od1 an1 : Option Addr} {sl1 : Array (Option Value)} {oc1 kV1 dc1 pm1 cd1 ct1 : Value}
    (a1 : PySem.W.nsIn K mainGlobals "all_bits" = some (some (.ref f1))) (l1 : K.lookup f1 = some ⟨oc1, od1, .func (PySem.W.fnOf "all_bits" "all_bits" (defArgs s_all_bits) (defBody s_all_bits) (defScope s_all_bits) .none kV1 dc1 pm1 an1 cd1 ct1), sl1⟩) (c1 : PySem.W.codeIn K cd1 "all_bits" = true) (k1 : PySem.W.keepIn K (.ref f1) = true)
    {f2 : Addr} {od2 an2 : Option Addr} {sl2 : Array (Option Value)} {oc2 kV2 dc2 pm2 cd2 ct2 : Value}
    (a2 : PySem.W.nsIn K mainGlobals "is_bits" = some (some (.ref f2))) (l2 : K.lookup f2 = some ⟨oc2, od2, .func (PySem.W.fnOf "is_bits" "is_bits" (defArgs s_is_bits) (defBody s_is_bits) (defScope s_is_bits) .none kV2 dc2 pm2 an2 cd2 ct2), sl2⟩) (c2 : PySem.W.codeIn K cd2 "is_bits" = true) (k2 : PySem.W.keepIn K (.ref f2) = true)
    {f3 : Addr} {od3 an3 : Option Addr} {sl3 : Array (Option Value)} {oc3 kV3 dc3 pm3 cd3 ct3 : Value}
    (a3 : PySem.W.nsIn K mainGlobals "parts_in" = some (some (.ref f3))) (l3 : K.lookup f3 = some ⟨oc3, od3, .func (PySem.W.fnOf "parts_in" "parts_in" (defArgs s_parts_in) (defBody s_parts_in) (defScope s_parts_in) .none kV3 dc3 pm3 an3 cd3 ct3), sl3⟩) (c3 : PySem.W.codeIn K cd3 "parts_in" = true) (k3 : PySem.W.keepIn K (.ref f3) = true)
    {f4 : Addr} {od4 an4 : Option Addr} {sl4 : Array (Option Value)} {oc4 kV4 dc4 pm4 cd4 ct4 : Value}
    (a4 : PySem.W.nsIn K mainGlobals "many_in" = some (some (.ref f4))) (l4 : K.lookup f4 = some ⟨oc4, od4, .func (PySem.W.fnOf "many_in" "many_in" (defArgs s_many_in) (defBody s_many_in) (defScope s_many_in) .none kV4 dc4 pm4 an4 cd4 ct4), sl4⟩) (c4 : PySem.W.codeIn K cd4 "many_in" = true) (k4 : PySem.W.keepIn K (.ref f4) = true)
    {f5 : Addr} {od5 an5 : Option Addr} {sl5 : Array (Option Value)} {oc5 kV5 dc5 pm5 cd5 ct5 : Value}
    (a5 : PySem.W.nsIn K mainGlobals "all_brought" = some (some (.ref f5))) (l5 : K.lookup f5 = some ⟨oc5, od5, .func (PySem.W.fnOf "all_brought" "all_brought" (defArgs s_all_brought) (defBody s_all_brought) (defScope s_all_brought) .none kV5 dc5 pm5 an5 cd5 ct5), sl5⟩) (c5 : PySem.W.codeIn K cd5 "all_brought" = true) (k5 : PySem.W.keepIn K (.ref f5) = true)
    {f6 : Addr} {od6 an6 : Option Addr} {sl6 : Array (Option Value)} {oc6 kV6 dc6 pm6 cd6 ct6 : Value}
    (a6 : PySem.W.nsIn K mainGlobals "falls" = some (some (.ref f6))) (l6 : K.lookup f6 = some ⟨oc6, od6, .func (PySem.W.fnOf "falls" "falls" (defArgs s_falls) (defBody s_falls) (defScope s_falls) .none kV6 dc6 pm6 an6 cd6 ct6), sl6⟩) (c6 : PySem.W.codeIn K cd6 "falls" = true) (k6 : PySem.W.keepIn K (.ref f6) = true)
    {f7 : Addr} {od7 an7 : Option Addr} {sl7 : Array (Option Value)} {oc7 kV7 dc7 pm7 cd7 ct7 : Value}
    (a7 : PySem.W.nsIn K mainGlobals "row_fails" = some (some (.ref f7))) (l7 : K.lookup f7 = some ⟨oc7, od7, .func (PySem.W.fnOf "row_fails" "row_fails" (defArgs s_row_fails) (defBody s_row_fails) (defScope s_row_fails) .none kV7 dc7 pm7 an7 cd7 ct7), sl7⟩) (c7 : PySem.W.codeIn K cd7 "row_fails" = true) (k7 : PySem.W.keepIn K (.ref f7) = true)
    {f8 : Addr} {od8 an8 : Option Addr} {sl8 : Array (Option Value)} {oc8 kV8 dc8 pm8 cd8 ct8 : Value}
    (a8 : PySem.W.nsIn K mainGlobals "cuts" = some (some (.ref f8))) (l8 : K.lookup f8 = some ⟨oc8, od8, .func (PySem.W.fnOf "cuts" "cuts" (defArgs s_cuts) (defBody s_cuts) (defScope s_cuts) .none kV8 dc8 pm8 an8 cd8 ct8), sl8⟩) (c8 : PySem.W.codeIn K cd8 "cuts" = true) (k8 : PySem.W.keepIn K (.ref f8) = true)
    {f9 : Addr} {od9 an9 : Option Addr} {sl9 : Array (Option Value)} {oc9 kV9 dc9 pm9 cd9 ct9 : Value}
    (a9 : PySem.W.nsIn K mainGlobals "keeps" = some (some (.ref f9))) (l9 : K.lookup f9 = some ⟨oc9, od9, .func (PySem.W.fnOf "keeps" "keeps" (defArgs s_keeps) (defBody s_keeps) (defScope s_keeps) .none kV9 dc9 pm9 an9 cd9 ct9), sl9⟩) (c9 : PySem.W.codeIn K cd9 "keeps" = true) (k9 : PySem.W.keepIn K (.ref f9) = true)
    {f10 : Addr} {od10 an10 : Option Addr} {sl10 : Array (Option Value)} {oc10 kV10 dc10 pm10 cd10 ct10 : Value}
    (a10 : PySem.W.nsIn K mainGlobals "cross" = some (some (.ref f10))) (l10 : K.lookup f10 = some ⟨oc10, od10, .func (PySem.W.fnOf "cross" "cross" (defArgs s_cross) (defBody s_cross) (defScope s_cross) .none kV10 dc10 pm10 an10 cd10 ct10), sl10⟩) (c10 : PySem.W.codeIn K cd10 "cross" = true) (k10 : PySem.W.keepIn K (.ref f10) = true)
    {x10 T10 : Addr} {ec10 : Value} {dd10 : Option Addr} {vs10 : Array Value} {sc10 : Array (Option Value)} (ce10 : cd10 = .ref x10) (lc10 : K.lookup x10 = some ⟨ec10, dd10, .fields vs10, sc10⟩) (vt10 : vs10[11]? = some (.ref T10)) (nt10 : K.lookup T10 = none) (rc10 : ((PyProof.Rows.recsOf q).find? (fun e => e.name == ("cross" : Str))).isSome = true)
    {f11 : Addr} {od11 an11 : Option Addr} {sl11 : Array (Option Value)} {oc11 kV11 dc11 pm11 cd11 ct11 : Value}
    (a11 : PySem.W.nsIn K mainGlobals "crosses" = some (some (.ref f11))) (l11 : K.lookup f11 = some ⟨oc11, od11, .func (PySem.W.fnOf "crosses" "crosses" (defArgs s_crosses) (defBody s_crosses) (defScope s_crosses) .none kV11 dc11 pm11 an11 cd11 ct11), sl11⟩) (c11 : PySem.W.codeIn K cd11 "crosses" = true) (k11 : PySem.W.keepIn K (.ref f11) = true)
    {x11 T11 : Addr} {ec11 : Value} {dd11 : Option Addr} {vs11 : Array Value} {sc11 : Array (Option Value)} (ce11 : cd11 = .ref x11) (lc11 : K.lookup x11 = some ⟨ec11, dd11, .fields vs11, sc11⟩) (vt11 : vs11[11]? = some (.ref T11)) (nt11 : K.lookup T11 = none) (rc11 : ((PyProof.Rows.recsOf q).find? (fun e => e.name == ("crosses" : Str))).isSome = true)
    {f12 : Addr} {od12 an12 : Option Addr} {sl12 : Array (Option Value)} {oc12 kV12 dc12 pm12 cd12 ct12 : Value}
    (a12 : PySem.W.nsIn K mainGlobals "least_of" = some (some (.ref f12))) (l12 : K.lookup f12 = some ⟨oc12, od12, .func (PySem.W.fnOf "least_of" "least_of" (defArgs s_least_of) (defBody s_least_of) (defScope s_least_of) .none kV12 dc12 pm12 an12 cd12 ct12), sl12⟩) (c12 : PySem.W.codeIn K cd12 "least_of" = true) (k12 : PySem.W.keepIn K (.ref f12) = true)
    {f13 : Addr} {od13 an13 : Option Addr} {sl13 : Array (Option Value)} {oc13 kV13 dc13 pm13 cd13 ct13 : Value}
    (a13 : PySem.W.nsIn K mainGlobals "is_least" = some (some (.ref f13))) (l13 : K.lookup f13 = some ⟨oc13, od13, .func (PySem.W.fnOf "is_least" "is_least" (defArgs s_is_least) (defBody s_is_least) (defScope s_is_least) .none kV13 dc13 pm13 an13 cd13 ct13), sl13⟩) (c13 : PySem.W.codeIn K cd13 "is_least" = true) (k13 : PySem.W.keepIn K (.ref f13) = true)
    {x13 T13 : Addr} {ec13 : Value} {dd13 : Option Addr} {vs13 : Array Value} {sc13 : Array (Option Value)} (ce13 : cd13 = .ref x13) (lc13 : K.lookup x13 = some ⟨ec13, dd13, .fields vs13, sc13⟩) (vt13 : vs13[11]? = some (.ref T13)) (nt13 : K.lookup T13 = none) (rc13 : ((PyProof.Rows.recsOf q).find? (fun e => e.name == ("is_least" : Str))).isSome = true)
    {f14 : Addr} {od14 an14 : Option Addr} {sl14 : Array (Option Value)} {oc14 kV14 dc14 pm14 cd14 ct14 : Value}
    (a14 : PySem.W.nsIn K mainGlobals "_law_cell" = some (some (.ref f14))) (l14 : K.lookup f14 = some ⟨oc14, od14, .func (PySem.W.fnOf "_law_cell" "_law_cell" (defArgs s_law_cell) (defBody s_law_cell) (defScope s_law_cell) .none kV14 dc14 pm14 an14 cd14 ct14), sl14⟩) (c14 : PySem.W.codeIn K cd14 "_law_cell" = true) (k14 : PySem.W.keepIn K (.ref f14) = true)
    {f15 : Addr} {od15 an15 : Option Addr} {sl15 : Array (Option Value)} {oc15 kV15 dc15 pm15 cd15 ct15 : Value}
    (a15 : PySem.W.nsIn K mainGlobals "_law_next" = some (some (.ref f15))) (l15 : K.lookup f15 = some ⟨oc15, od15, .func (PySem.W.fnOf "_law_next" "_law_next" (defArgs s_law_next) (defBody s_law_next) (defScope s_law_next) .none kV15 dc15 pm15 an15 cd15 ct15), sl15⟩) (c15 : PySem.W.codeIn K cd15 "_law_next" = true) (k15 : PySem.W.keepIn K (.ref f15) = true)
    {f16 : Addr} {od16 an16 : Option Addr} {sl16 : Array (Option Value)} {oc16 kV16 dc16 pm16 cd16 ct16 : Value}
    (a16 : PySem.W.nsIn K mainGlobals "_law_brought" = some (some (.ref f16))) (l16 : K.lookup f16 = some ⟨oc16, od16, .func (PySem.W.fnOf "_law_brought" "_law_brought" (defArgs s_law_brought) (defBody s_law_brought) (defScope s_law_brought) .none kV16 dc16 pm16 an16 cd16 ct16), sl16⟩) (c16 : PySem.W.codeIn K cd16 "_law_brought" = true) (k16 : PySem.W.keepIn K (.ref f16) = true)
    {f17 : Addr} {od17 an17 : Option Addr} {sl17 : Array (Option Value)} {oc17 kV17 dc17 pm17 cd17 ct17 : Value}
    (a17 : PySem.W.nsIn K mainGlobals "_law_tree" = some (some (.ref f17))) (l17 : K.lookup f17 = some ⟨oc17, od17, .func (PySem.W.fnOf "_law_tree" "_law_tree" (defArgs s_law_tree) (defBody s_law_tree) (defScope s_law_tree) .none kV17 dc17 pm17 an17 cd17 ct17), sl17⟩) (c17 : PySem.W.codeIn K cd17 "_law_tree" = true) (k17 : PySem.W.keepIn K (.ref f17) = true)
    {f18 : Addr} {od18 an18 : Option Addr} {sl18 : Array (Option Value)} {oc18 kV18 dc18 pm18 cd18 ct18 : Value}
    (a18 : PySem.W.nsIn K mainGlobals "_law_wide_tree" = some (some (.ref f18))) (l18 : K.lookup f18 = some ⟨oc18, od18, .func (PySem.W.fnOf "_law_wide_tree" "_law_wide_tree" (defArgs s_law_wide_tree) (defBody s_law_wide_tree) (defScope s_law_wide_tree) .none kV18 dc18 pm18 an18 cd18 ct18), sl18⟩) (c18 : PySem.W.codeIn K cd18 "_law_wide_tree" = true) (k18 : PySem.W.keepIn K (.ref f18) = true)
    {f19 : Addr} {od19 an19 : Option Addr} {sl19 : Array (Option Value)} {oc19 kV19 dc19 pm19 cd19 ct19 : Value}
    (a19 : PySem.W.nsIn K mainGlobals "_law_falls" = some (some (.ref f19))) (l19 : K.lookup f19 = some ⟨oc19, od19, .func (PySem.W.fnOf "_law_falls" "_law_falls" (defArgs s_law_falls) (defBody s_law_falls) (defScope s_law_falls) .none kV19 dc19 pm19 an19 cd19 ct19), sl19⟩) (c19 : PySem.W.codeIn K cd19 "_law_falls" = true) (k19 : PySem.W.keepIn K (.ref f19) = true)
    {f20 : Addr} {od20 an20 : Option Addr} {sl20 : Array (Option Value)} {oc20 kV20 dc20 pm20 cd20 ct20 : Value}
    (a20 : PySem.W.nsIn K mainGlobals "_law_least" = some (some (.ref f20))) (l20 : K.lookup f20 = some ⟨oc20, od20, .func (PySem.W.fnOf "_law_least" "_law_least" (defArgs s_law_least) (defBody s_law_least) (defScope s_law_least) .none kV20 dc20 pm20 an20 cd20 ct20), sl20⟩) (c20 : PySem.W.codeIn K cd20 "_law_least" = true) (k20 : PySem.W.keepIn K (.ref f20) = true)
    {f21 : Addr} {od21 an21 : Option Addr} {sl21 : Array (Option Value)} {oc21 kV21 dc21 pm21 cd21 ct21 : Value}
    (a21 : PySem.W.nsIn K mainGlobals "law" = some (some (.ref f21))) (l21 : K.lookup f21 = some ⟨oc21, od21, .func (PySem.W.fnOf "law" "law" (defArgs s_law) (defBody s_law) (defScope s_law) .none kV21 dc21 pm21 an21 cd21 ct21), sl21⟩) (c21 : PySem.W.codeIn K cd21 "law" = true) (k21 : PySem.W.keepIn K (.ref f21) = true)
    (z_isinstance : PySem.W.nsIn K mainGlobals "isinstance" = some none)
    (z_int : PySem.W.nsIn K mainGlobals "int" = some none)
    (z_bool : PySem.W.nsIn K mainGlobals "bool" = some none)
    (z_range : PySem.W.nsIn K mainGlobals "range" = some none)
    (z_len : PySem.W.nsIn K mainGlobals "len" = some none)
    (z_tuple : PySem.W.nsIn K mainGlobals "tuple" = some none)
    (z_all : PySem.W.nsIn K mainGlobals "all" = some none)
    (z_sorted : PySem.W.nsIn K mainGlobals "sorted" = some none)
    (z_any : PySem.W.nsIn K mainGlobals "any" = some none)
    (z_list : PySem.W.nsIn K mainGlobals "list" = some none)
    (z_min : PySem.W.nsIn K mainGlobals "min" = some none)
    (z_dict : PySem.W.nsIn K mainGlobals "dict" = some none)
    (z_repr : PySem.W.nsIn K mainGlobals "repr" = some none)
    {t_MOST_PARTS : _} (z_MOST_PARTS : PySem.W.nsIn K mainGlobals "MOST_PARTS" = some (some (.int 12 t_MOST_PARTS)))
    {K_BadSets : Addr} (q_BadSets : PySem.W.nsIn K mainGlobals "BadSets" = some (some (.ref K_BadSets)))
    (e1_BadSets : PySem.W.excIn K K_BadSets veB veN = true) (e2_BadSets : PySem.W.keepIn K (.ref K_BadSets) = true) (e3_BadSets : PySem.W.subIn K (.ref K_BadSets) (.type "BaseException") = some true) (e4_BadSets : PySem.W.typeIn K (.ref K_BadSets) = some (.type "type"))
    : LawAtR l w K CX0 63 "_law_script" mg fa h := by
  have e := hfa.symm.trans (PySem.W.mg_of X G a21)
  cases e
  have T : Mg mg := ⟨PySem.W.mg_none_of X G z_isinstance, PySem.W.mg_none_of X G z_int, PySem.W.mg_none_of X G z_bool, PySem.W.mg_none_of X G z_range, PySem.W.mg_none_of X G z_len, PySem.W.mg_none_of X G z_tuple, PySem.W.mg_none_of X G z_all, PySem.W.mg_none_of X G z_sorted, PySem.W.mg_none_of X G z_any, PySem.W.mg_none_of X G z_list, PySem.W.mg_none_of X G z_min, PySem.W.mg_none_of X G z_dict, PySem.W.mg_none_of X G z_repr⟩
  subst ce10
  obtain ⟨dr10, hd10⟩ := Option.isSome_iff_exists.mp rc10
  obtain ⟨hc10, ht10⟩ := TH _ _ _ _ hd10 (tab_in a10 l10 rfl lc10 vt10)
  subst ce11
  obtain ⟨dr11, hd11⟩ := Option.isSome_iff_exists.mp rc11
  obtain ⟨hc11, ht11⟩ := TH _ _ _ _ hd11 (tab_in a11 l11 rfl lc11 vt11)
  subst ce13
  obtain ⟨dr13, hd13⟩ := Option.isSome_iff_exists.mp rc13
  obtain ⟨hc13, ht13⟩ := TH _ _ _ _ hd13 (tab_in a13 l13 rfl lc13 vt13)
  letI tabs : Tabs := ⟨fun P => P ∈ ([T10, T11, T13] : List Addr), fun _ => none⟩
  have C_MOST_PARTS : CnM K mg "MOST_PARTS" d_MOST_PARTS := ⟨⟨_, (.int 12 : V), PySem.W.mg_of X G z_MOST_PARTS, ⟨_, rfl⟩, fun _ => .int _⟩, by decide +kernel⟩
  have X_BadSets : ExB K mg "BadSets" := ⟨⟨K_BadSets, _, _, _, _, PySem.W.mg_of X G q_BadSets, PySem.F.excBase_ValueError, e1_BadSets, e2_BadSets, e3_BadSets, e4_BadSets⟩, by decide +kernel⟩
  refine ⟨PySem.W.fnOf "law" "law" (defArgs s_law) (defBody s_law) (defScope s_law) .none kV21 dc21 pm21 an21 cd21 ct21, [(x10, T10), (x11, T11), (x13, T13)], spR K r_law, List.forall_mem_cons.mpr ⟨ht10, List.forall_mem_cons.mpr ⟨ht11, List.forall_mem_cons.mpr ⟨ht13, List.forall_mem_nil _⟩⟩⟩, List.forall_mem_cons.mpr ⟨nt10, List.forall_mem_cons.mpr ⟨nt11, List.forall_mem_cons.mpr ⟨nt13, List.forall_mem_nil _⟩⟩⟩, List.forall_mem_cons.mpr ⟨hc10, List.forall_mem_cons.mpr ⟨hc11, List.forall_mem_cons.mpr ⟨hc13, List.forall_mem_nil _⟩⟩⟩, fun s v => .of_eq rfl, fun H a ns hl hT hS => law_sp hl (show ∀ P ∈ ([T10, T11, T13] : List Addr), GxR.TabG H P from List.forall_mem_cons.mpr ⟨tabs_nil (hT (x10, T10) (.head _)), List.forall_mem_cons.mpr ⟨tabs_nil (hT (x11, T11) (.tail _ (.head _))), List.forall_mem_cons.mpr ⟨tabs_nil (hT (x13, T13) (.tail _ (.tail _ (.head _)))), List.forall_mem_nil _⟩⟩⟩) hS, fun base _ _ hB => ?_⟩
  have B10 : GxR.TabB base mg x10 T10 := let b := hB (x10, T10) (.head _); ⟨b.code, b.bm, b.gP⟩
  have S10 : Tabs.ts T10 := (show T10 ∈ ([T10, T11, T13] : List Addr) from .head _)
  have B11 : GxR.TabB base mg x11 T11 := let b := hB (x11, T11) (.tail _ (.head _)); ⟨b.code, b.bm, b.gP⟩
  have S11 : Tabs.ts T11 := (show T11 ∈ ([T10, T11, T13] : List Addr) from .tail _ (.head _))
  have B13 : GxR.TabB base mg x13 T13 := let b := hB (x13, T13) (.tail _ (.tail _ (.head _))); ⟨b.code, b.bm, b.gP⟩
  have S13 : Tabs.ts T13 := (show T13 ∈ ([T10, T11, T13] : List Addr) from .tail _ (.tail _ (.head _)))
  have D_is_whole : DnF l.prog w K mg base 1 "is_whole" (u1 f_is_whole) := ok_is_whole (fun_mk (st := s_is_whole) l0 c0 k0) (PySem.W.mg_of X G a0) T
  have D_all_bits : DnF l.prog w K mg base 1 "all_bits" (u1 f_all_bits) := ok_all_bits (fun_mk (st := s_all_bits) l1 c1 k1) (PySem.W.mg_of X G a1) T
  have D_is_bits : DnF l.prog w K mg base 2 "is_bits" (u2 f_is_bits) := ok_is_bits (fun_mk (st := s_is_bits) l2 c2 k2) (PySem.W.mg_of X G a2) T D_is_whole D_all_bits
  have D_parts_in : DnF l.prog w K mg base 1 "parts_in" (u1 f_parts_in) := ok_parts_in (fun_mk (st := s_parts_in) l3 c3 k3) (PySem.W.mg_of X G a3) T
  have D_many_in : DnF l.prog w K mg base 2 "many_in" (u1 f_many_in) := ok_many_in (fun_mk (st := s_many_in) l4 c4 k4) (PySem.W.mg_of X G a4) T D_parts_in
  have D_all_brought : DnF l.prog w K mg base 2 "all_brought" (u2 f_all_brought) := ok_all_brought (fun_mk (st := s_all_brought) l5 c5 k5) (PySem.W.mg_of X G a5) T D_parts_in
  have D_row_fails : DnF l.prog w K mg base 1 "row_fails" (u3 f_row_fails) := ok_row_fails (fun_mk (st := s_row_fails) l7 c7 k7) (PySem.W.mg_of X G a7) T
  have D_falls : DnF l.prog w K mg base 3 "falls" (u2 f_falls) := ok_falls (fun_mk (st := s_falls) l6 c6 k6) (PySem.W.mg_of X G a6) T D_all_brought D_row_fails
  have D_is_least : DnF l.prog w K mg base 2 "is_least" (u2 f_is_least) := ok_is_least (func_mk (st := s_is_least) l13 c13 k13) B13 S13 (PySem.W.mg_of X G a13) T D_parts_in
  have D_least_of : DnF l.prog w K mg base 5 "least_of" (u1 f_least_of) := ok_least_of (fun_mk (st := s_least_of) l12 c12 k12) (PySem.W.mg_of X G a12) T D_is_least D_many_in
  have D_cuts : DnF l.prog w K mg base 6 "cuts" (u1 f_cuts) := ok_cuts (fun_mk (st := s_cuts) l8 c8 k8) (PySem.W.mg_of X G a8) T D_least_of D_falls
  have D_keeps : DnF l.prog w K mg base 6 "keeps" (u1 f_keeps) := ok_keeps (fun_mk (st := s_keeps) l9 c9 k9) (PySem.W.mg_of X G a9) T D_all_bits D_least_of D_falls
  have D_crosses : DnF l.prog w K mg base 2 "crosses" (u2 f_crosses) := ok_crosses (func_mk (st := s_crosses) l11 c11 k11) B11 S11 (PySem.W.mg_of X G a11) T
  have D_cross : DnF l.prog w K mg base 6 "cross" (u2 f_cross) := ok_cross (func_mk (st := s_cross) l10 c10 k10) B10 S10 (PySem.W.mg_of X G a10) T D_is_whole D_is_bits D_least_of D_crosses C_MOST_PARTS X_BadSets
  have D_law_cell : DnF l.prog w K mg base 1 "_law_cell" (u2 f_law_cell_k11) := ok_law_cell (fun_mk (st := s_law_cell) l14 c14 k14) (PySem.W.mg_of X G a14) T
  have D_law_next : DnG l.prog w K mg base 2 "_law_next" 0 (w0 f_law_next) := ok_law_next (fun_mk (st := s_law_next) l15 c15 k15) (PySem.W.mg_of X G a15) T D_law_cell
  have D_law_brought : DnG l.prog w K mg base 3 "_law_brought" 0 (w1 f_law_brought_k11) := ok_law_brought (fun_mk (st := s_law_brought) l16 c16 k16) (PySem.W.mg_of X G a16) T D_law_next
  have D_law_tree : DnG l.prog w K mg base 4 "_law_tree" 0 (w1 f_law_tree_k11) := ok_law_tree (fun_mk (st := s_law_tree) l17 c17 k17) (PySem.W.mg_of X G a17) T D_law_next D_law_brought
  have D_law_wide_tree : DnG l.prog w K mg base 4 "_law_wide_tree" 0 (w1 f_law_wide_tree) := ok_law_wide_tree (fun_mk (st := s_law_wide_tree) l18 c18 k18) (PySem.W.mg_of X G a18) T D_law_next D_law_brought
  have D_law_falls : DnF l.prog w K mg base 1 "_law_falls" (u2 f_law_falls) := ok_law_falls (fun_mk (st := s_law_falls) l19 c19 k19) (PySem.W.mg_of X G a19) T
  have D_law_least : DnF l.prog w K mg base 1 "_law_least" (u1 f_law_least_k11) := ok_law_least (fun_mk (st := s_law_least) l20 c20 k20) (PySem.W.mg_of X G a20) T
  exact ok_law (fun_mk (st := s_law) l21 c21 k21) (PySem.W.mg_of X G a21) T D_law_cell D_law_wide_tree D_law_tree D_law_falls D_law_least D_cuts D_keeps D_cross ⟨rfl, by decide, by decide⟩
end
end K11
open PySem PySem.W PyProof.Rows
set_option maxRecDepth 100000 in
set_option maxHeartbeats 0 in
theorem PySem.Challenge.cw_faultwood_k11_whole_least_sets_holds : PySem.Challenge.rw_faultwood_k11_whole_least_sets.Holds := by
  w_on; o_law; k_head; (case hw => w_witness2)
  k_fill
  refine Dl.walk_ofL (l := PySem.Challenge.rw_faultwood_k11_whole_least_sets) (n := 63) (x := "_law_script") (CX := fun _ => L2.CX0) rfl (by decide) rfl (fun w h Y => PySem.W.kIn_of Y) ?F (fun _ _ _ _ _ h => h)
  case F =>
    intro w mg fa h Y KX G hmg TH
    refine' K11.all_mk KX G hmg TH ?a0 ?l0 ?c0 ?k0 ?a1 ?l1 ?c1 ?k1 ?a2 ?l2 ?c2 ?k2 ?a3 ?l3 ?c3 ?k3 ?a4 ?l4 ?c4 ?k4 ?a5 ?l5 ?c5 ?k5 ?a6 ?l6 ?c6 ?k6 ?a7 ?l7 ?c7 ?k7 ?a8 ?l8 ?c8 ?k8 ?a9 ?l9 ?c9 ?k9 ?a10 ?l10 ?c10 ?k10 ?ce10 ?lc10 ?vt10 ?nt10 ?rc10 ?a11 ?l11 ?c11 ?k11 ?ce11 ?lc11 ?vt11 ?nt11 ?rc11 ?a12 ?l12 ?c12 ?k12 ?a13 ?l13 ?c13 ?k13 ?ce13 ?lc13 ?vt13 ?nt13 ?rc13 ?a14 ?l14 ?c14 ?k14 ?a15 ?l15 ?c15 ?k15 ?a16 ?l16 ?c16 ?k16 ?a17 ?l17 ?c17 ?k17 ?a18 ?l18 ?c18 ?k18 ?a19 ?l19 ?c19 ?k19 ?a20 ?l20 ?c20 ?k20 ?a21 ?l21 ?c21 ?k21 ?z_isinstance ?z_int ?z_bool ?z_range ?z_len ?z_tuple ?z_all ?z_sorted ?z_any ?z_list ?z_min ?z_dict ?z_repr ?z_MOST_PARTS ?q_BadSets ?e1_BadSets ?e2_BadSets ?e3_BadSets ?e4_BadSets
    (case a0 => k_is)
    (case l0 => k_is)
    (case c0 => k_is)
    (case k0 => k_is)
    (case a1 => k_is)
    (case l1 => k_is)
    (case c1 => k_is)
    (case k1 => k_is)
    (case a2 => k_is)
    (case l2 => k_is)
    (case c2 => k_is)
    (case k2 => k_is)
    (case a3 => k_is)
    (case l3 => k_is)
    (case c3 => k_is)
    (case k3 => k_is)
    (case a4 => k_is)
    (case l4 => k_is)
    (case c4 => k_is)
    (case k4 => k_is)
    (case a5 => k_is)
    (case l5 => k_is)
    (case c5 => k_is)
    (case k5 => k_is)
    (case a6 => k_is)
    (case l6 => k_is)
    (case c6 => k_is)
    (case k6 => k_is)
    (case a7 => k_is)
    (case l7 => k_is)
    (case c7 => k_is)
    (case k7 => k_is)
    (case a8 => k_is)
    (case l8 => k_is)
    (case c8 => k_is)
    (case k8 => k_is)
    (case a9 => k_is)
    (case l9 => k_is)
    (case c9 => k_is)
    (case k9 => k_is)
    (case a10 => k_is)
    (case l10 => k_is)
    (case c10 => k_is)
    (case k10 => k_is)
    (case ce10 => first | rfl | decide +kernel)
    (case lc10 => k_is)
    (case vt10 => first | rfl | decide +kernel)
    (case nt10 => first | rfl | decide +kernel)
    (case rc10 => first | rfl | decide +kernel)
    (case a11 => k_is)
    (case l11 => k_is)
    (case c11 => k_is)
    (case k11 => k_is)
    (case ce11 => first | rfl | decide +kernel)
    (case lc11 => k_is)
    (case vt11 => first | rfl | decide +kernel)
    (case nt11 => first | rfl | decide +kernel)
    (case rc11 => first | rfl | decide +kernel)
    (case a12 => k_is)
    (case l12 => k_is)
    (case c12 => k_is)
    (case k12 => k_is)
    (case a13 => k_is)
    (case l13 => k_is)
    (case c13 => k_is)
    (case k13 => k_is)
    (case ce13 => first | rfl | decide +kernel)
    (case lc13 => k_is)
    (case vt13 => first | rfl | decide +kernel)
    (case nt13 => first | rfl | decide +kernel)
    (case rc13 => first | rfl | decide +kernel)
    (case a14 => k_is)
    (case l14 => k_is)
    (case c14 => k_is)
    (case k14 => k_is)
    (case a15 => k_is)
    (case l15 => k_is)
    (case c15 => k_is)
    (case k15 => k_is)
    (case a16 => k_is)
    (case l16 => k_is)
    (case c16 => k_is)
    (case k16 => k_is)
    (case a17 => k_is)
    (case l17 => k_is)
    (case c17 => k_is)
    (case k17 => k_is)
    (case a18 => k_is)
    (case l18 => k_is)
    (case c18 => k_is)
    (case k18 => k_is)
    (case a19 => k_is)
    (case l19 => k_is)
    (case c19 => k_is)
    (case k19 => k_is)
    (case a20 => k_is)
    (case l20 => k_is)
    (case c20 => k_is)
    (case k20 => k_is)
    (case a21 => k_is)
    (case l21 => k_is)
    (case c21 => k_is)
    (case k21 => k_is)
    (case z_isinstance => k_is)
    (case z_int => k_is)
    (case z_bool => k_is)
    (case z_range => k_is)
    (case z_len => k_is)
    (case z_tuple => k_is)
    (case z_all => k_is)
    (case z_sorted => k_is)
    (case z_any => k_is)
    (case z_list => k_is)
    (case z_min => k_is)
    (case z_dict => k_is)
    (case z_repr => k_is)
    (case z_MOST_PARTS => k_is)
    (case q_BadSets => k_is)
    (case e1_BadSets => first | k_is | k_exc | rfl | decide +kernel)
    (case e2_BadSets => first | k_is | k_exc | rfl | decide +kernel)
    (case e3_BadSets => first | k_is | k_exc | rfl | decide +kernel)
    (case e4_BadSets => first | k_is | k_exc | rfl | decide +kernel)
