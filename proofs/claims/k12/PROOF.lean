import PyProof.Rows.All
import Wide.All
import OpenK.AllK
import Wide.FinOn
import HandS.Base
import HandS.Call
import HandS.List
import HandS.Comp
import HandS.Ends
import HandS.Dict
import HandS.Iter
import HandS.Text
import HandS.Words
import HandS.WordsList
import HandS.AnyAll
import HandS.Exc
import HandS.ExcOwn
import HandS.ExcIs
import HandS.ExcValue
import HandS.WordsExc
import HandS.Wide
import HandS.Gcd
import HandS.FStr
import HandS.IsInst
import HandS.StrMore
import HandS.TupLe
import HandS.TupAny
import HandS.NoneIn
import HandS.Replace
import HandS.EndTab
import HandS.GenBody
import HandS.SetKeys
import HandS.WideBits
import HandS.More
import KE.SortKeyHeap
import HandS.SortKw
import KE.OsArith
import KE.BitLaws
import KE.IntBitsLaws
import KE.SortData
import PySem.Challenge.RW_faultwood_k12_sets_that_cross
set_option Elab.async false
set_option linter.all false
set_option maxRecDepth 100000
set_option maxHeartbeats 2000000
/-! A layer of our own over the hand layer: what a def does, told by plain data. -/
namespace Dl
open PySem L2

/-! ### heaps that grow -/
/-- what stood stands; tables of code objects may have grown -/
def Ext (H H' : Hp) : Prop := ∀ a o, H a = some o → H' a = some o ∨ ∃ ps ps' : Array Value, o = .tbl ps ∧ H' a = some (.tbl ps') ∧ (TriplesOk ps.toList → TriplesOk ps'.toList)
theorem Ext.refl (H : Hp) : Ext H H := fun _ _ h => .inl h
theorem Ext.trans {H H1 H2 : Hp} (a : Ext H H1) (b : Ext H1 H2) : Ext H H2 := fun x o h => by
  rcases a x o h with h1 | ⟨ps, ps', e, h1, t⟩
  · exact b x o h1
  · rcases b x _ h1 with h2 | ⟨qs, qs', e', h2, t'⟩
    · exact .inr ⟨ps, ps', e, h2, t⟩
    · cases e'
      exact .inr ⟨ps, qs', e, h2, fun z => t' (t z)⟩
theorem Ext.no {H H' : Hp} (e : Ext H H') {a : Addr} (h : H' a = none) : H a = none := by
  cases q : H a with
  | none => rfl
  | some o =>
    rcases e a o q with h1 | ⟨_, _, _, h1, _⟩
    · rw [h1] at h; cases h
    · rw [h1] at h; cases h
theorem Ext.lst {H H' : Hp} (e : Ext H H') {a : Addr} {xs : List V} (h : H a = some (.lst xs)) : H' a = some (.lst xs) := by
  rcases e a _ h with h1 | ⟨_, _, q, _, _⟩
  · exact h1
  · cases q
theorem Ext.new {H : Hp} {p : Addr} {o : HO} (h : H p = none) : Ext H (upd H p o) := fun a u e => .inl (by
  rw [upd_ne (ne_of_none e h)]
  exact e)
/-- an object that H does not know may change -/
theorem Ext.mut {H H' : Hp} {p : Addr} {o : HO} (e : Ext H H') (h : H p = none) : Ext H (upd H' p o) := fun a u ha => by
  rw [upd_ne (ne_of_none ha h)]
  exact e a u ha
theorem ext_rd {H H' : Hp} {a : Addr} {u : HO} (e : Ext H H') (nt : ∀ ps, u ≠ .tbl ps) (h : Rd H a u) : Rd H' a u := by
  rcases h with h | ⟨o, h⟩
  · rcases e a _ h with h1 | ⟨_, _, q, _, _⟩
    · exact .inl h1
    · exact absurd q (nt _)
  · rcases e a _ h with h1 | ⟨_, _, q, _, _⟩
    · exact .inr ⟨o, h1⟩
    · cases q
theorem ext_l {K : PySem.W.Frag} {H H' : Hp} {a : Addr} {xs : List V} (e : Ext H H') (h : SqL K H a xs) : SqL K H' a xs := by
  rcases h with h | h
  · exact .inl (ext_rd e (fun _ q => nomatch q) h)
  · exact .inr h
theorem ext_t {K : PySem.W.Frag} {H H' : Hp} {a : Addr} {xs : List V} (e : Ext H H') (h : SqT K H a xs) : SqT K H' a xs := by
  rcases h with h | h
  · exact .inl (ext_rd e (fun _ q => nomatch q) h)
  · exact .inr h
/-! ### tables of code objects -/
/-- the tables that a text's generator expressions write to -/
class Tabs where
  ts : Addr → Prop
def TabsIn [Tabs] (H : Hp) : Prop := ∀ P, Tabs.ts P → GxR.TabG H P
theorem TabsIn.mono [Tabs] {H H' : Hp} (t : TabsIn H) (e : Ext H H') : TabsIn H' := fun P hP => by
  obtain ⟨ps, h1, h2⟩ := t P hP
  rcases e P _ h1 with h | ⟨qs, qs', q, h, k⟩
  · exact ⟨ps, h, h2⟩
  · cases q
    exact ⟨qs', h, k h2⟩
/-! ### data -/
def keyD : Key → PyData
  | .inl i => .int i
  | .inr x => .str x
mutual
inductive Dq (K : PySem.W.Frag) (H : Hp) : V → PyData → Prop
  | non : Dq K H .non .none
  | bl (b : Bool) : Dq K H (.bl b) (.bool b)
  | int (i : Int) : Dq K H (.int i) (.int i)
  | str (x : Str) : Dq K H (.str x) (.str x)
  | lst {a : Addr} {xs : List V} {ds : List PyData} : SqL K H a xs → DqAll K H xs ds → Dq K H (.ref a) (.list ds)
  | tup {a : Addr} {xs : List V} {ds : List PyData} : SqT K H a xs → DqAll K H xs ds → Dq K H (.ref a) (.tuple ds)
  | dic {a : Addr} {kvs : List (Key × V)} {es : List (PyData × PyData)} : Rd H a (.dK kvs) → DqKV K H kvs es → Dq K H (.ref a) (.dict es)
inductive DqAll (K : PySem.W.Frag) (H : Hp) : List V → List PyData → Prop
  | nil : DqAll K H [] []
  | cons {v : V} {vs : List V} {d : PyData} {ds : List PyData} : Dq K H v d → DqAll K H vs ds → DqAll K H (v :: vs) (d :: ds)
inductive DqKV (K : PySem.W.Frag) (H : Hp) : List (Key × V) → List (PyData × PyData) → Prop
  | nil : DqKV K H [] []
  | cons {k : Key} {v : V} {vs : List (Key × V)} {d : PyData} {ds : List (PyData × PyData)} : Dq K H v d → DqKV K H vs ds → DqKV K H ((k, v) :: vs) ((keyD k, d) :: ds)
end
section
variable {K : PySem.W.Frag} {H H' : Hp}
theorem Dq.map (hl : ∀ a xs, SqL K H a xs → SqL K H' a xs) (ht : ∀ a xs, SqT K H a xs → SqT K H' a xs) (hd : ∀ a kvs, Rd H a (.dK kvs) → Rd H' a (.dK kvs)) {v : V} {d : PyData} (h : Dq K H v d) : Dq K H' v d :=
  Dq.rec (motive_1 := fun v d _ => Dq K H' v d) (motive_2 := fun vs ds _ => DqAll K H' vs ds) (motive_3 := fun vs ds _ => DqKV K H' vs ds)
    .non (fun b => .bl b) (fun i => .int i) (fun x => .str x) (fun s _ ih => .lst (hl _ _ s) ih) (fun s _ ih => .tup (ht _ _ s) ih) (fun s _ ih => .dic (hd _ _ s) ih) .nil (fun _ _ a b => .cons a b) .nil (fun _ _ a b => .cons a b) h
theorem DqAll.map (hl : ∀ a xs, SqL K H a xs → SqL K H' a xs) (ht : ∀ a xs, SqT K H a xs → SqT K H' a xs) (hd : ∀ a kvs, Rd H a (.dK kvs) → Rd H' a (.dK kvs)) : ∀ {vs : List V} {ds : List PyData}, DqAll K H vs ds → DqAll K H' vs ds
  | _, _, .nil => .nil
  | _, _, .cons h a => .cons (h.map hl ht hd) (DqAll.map hl ht hd a)
theorem Dq.mono (e : Ext H H') {v : V} {d : PyData} (h : Dq K H v d) : Dq K H' v d := h.map (fun _ _ => ext_l e) (fun _ _ => ext_t e) (fun _ _ => ext_rd e fun _ q => nomatch q)
theorem DqAll.mono (e : Ext H H') {vs : List V} {ds : List PyData} (h : DqAll K H vs ds) : DqAll K H' vs ds := h.map (fun _ _ => ext_l e) (fun _ _ => ext_t e) (fun _ _ => ext_rd e fun _ q => nomatch q)
/-- data without dicts, as the hand layer's own relation -/
theorem Dq.plain {v : V} {d : PyData} (h : Dq K H v d) : d.canLay0 = true → Dp K H v d :=
  Dq.rec (motive_1 := fun v d _ => d.canLay0 = true → Dp K H v d) (motive_2 := fun vs ds _ => PyData.canLayAll0 ds = true → DpAll K H vs ds) (motive_3 := fun _ _ _ => True)
    (fun _ => .non) (fun b _ => .bl b) (fun i _ => .int i) (fun x _ => .str x) (fun s _ ih q => .lst s (ih q)) (fun s _ ih q => .tup s (ih q)) (fun s _ ih q => nomatch q) (fun _ => .nil)
    (fun {v vs d ds} _ _ a b q => by
      have q' : (d.canLay0 && PyData.canLayAll0 ds) = true := q
      rw [Bool.and_eq_true] at q'
      exact .cons (a q'.1) (b q'.2)) trivial (fun _ _ _ _ => trivial) h
end
theorem DqAll.length {K : PySem.W.Frag} {H : Hp} : ∀ {vs : List V} {ds : List PyData}, DqAll K H vs ds → vs.length = ds.length
  | _, _, .nil => rfl
  | _, _, .cons _ a => by rw [List.length_cons, List.length_cons, DqAll.length a]
theorem DqAll.get {K : PySem.W.Frag} {H : Hp} : ∀ {vs : List V} {ds : List PyData} {i : Nat} {d : PyData}, DqAll K H vs ds → ds[i]? = some d → ∃ v, vs[i]? = some v ∧ Dq K H v d
  | _, _, _, _, .nil, h => by simp at h
  | _, _, 0, _, .cons h _, e => by
    cases e
    exact ⟨_, rfl, h⟩
  | _, _, i + 1, _, .cons _ a, e => DqAll.get (i := i) a e
theorem DqAll.getV {K : PySem.W.Frag} {H : Hp} : ∀ {vs : List V} {ds : List PyData} {i : Nat} {v : V}, DqAll K H vs ds → vs[i]? = some v → ∃ d, ds[i]? = some d ∧ Dq K H v d
  | _, _, _, _, .nil, h => by simp at h
  | _, _, 0, _, .cons h _, e => by
    cases e
    exact ⟨_, rfl, h⟩
  | _, _, i + 1, _, .cons _ a, e => DqAll.getV (i := i) a e
theorem DqAll.app {K : PySem.W.Frag} {H : Hp} : ∀ {vs ws : List V} {ds es : List PyData}, DqAll K H vs ds → DqAll K H ws es → DqAll K H (vs ++ ws) (ds ++ es)
  | _, _, _, _, .nil, b => b
  | _, _, _, _, .cons h a, b => .cons h (DqAll.app a b)
theorem DqAll.drop {K : PySem.W.Frag} {H : Hp} : ∀ {vs : List V} {ds : List PyData} (n : Nat), DqAll K H vs ds → DqAll K H (vs.drop n) (ds.drop n)
  | _, _, 0, h => h
  | _, _, _ + 1, .nil => .nil
  | _, _, n + 1, .cons _ a => DqAll.drop n a
theorem DqAll.take {K : PySem.W.Frag} {H : Hp} : ∀ {vs : List V} {ds : List PyData} (n : Nat), DqAll K H vs ds → DqAll K H (vs.take n) (ds.take n)
  | _, _, 0, _ => .nil
  | _, _, _ + 1, .nil => .nil
  | _, _, n + 1, .cons h a => .cons h (DqAll.take n a)
theorem DqAll.set {K : PySem.W.Frag} {H : Hp} {v : V} {d : PyData} (h : Dq K H v d) : ∀ {vs : List V} {ds : List PyData} (n : Nat), DqAll K H vs ds → DqAll K H (vs.set n v) (ds.set n d)
  | _, _, _, .nil => .nil
  | _, _, 0, .cons _ a => .cons h a
  | _, _, n + 1, .cons g a => .cons g (DqAll.set h n a)
theorem DqAll.ints {K : PySem.W.Frag} {H : Hp} : ∀ ns : List Int, DqAll K H (ns.map V.int) (ns.map PyData.int)
  | [] => .nil
  | n :: r => .cons (.int n) (DqAll.ints r)
theorem DqAll.ints_inv {K : PySem.W.Frag} {H : Hp} : ∀ {ns : List Int} {vs : List V}, DqAll K H vs (ns.map PyData.int) → vs = ns.map V.int
  | [], _, .nil => rfl
  | n :: r, _, .cons h a => by
    have e := DqAll.ints_inv (ns := r) a
    cases h
    rw [e]; rfl
theorem DqAll.strs_inv {K : PySem.W.Frag} {H : Hp} : ∀ {ns : List Str} {vs : List V}, DqAll K H vs (ns.map PyData.str) → vs = ns.map V.str
  | [], _, .nil => rfl
  | n :: r, _, .cons h a => by
    have e := DqAll.strs_inv (ns := r) a
    cases h
    rw [e]; rfl
theorem DqAll.strs {K : PySem.W.Frag} {H : Hp} : ∀ ns : List Str, DqAll K H (ns.map V.str) (ns.map PyData.str)
  | [] => .nil
  | n :: r => .cons (.str n) (DqAll.strs r)

/-- from (H, Hs) to (H', Hs'): Hs what the shared data lies in, a part of H -/
structure Gr (H Hs H' Hs' : Hp) : Prop where
  ext : Ext H H'
  exs : Ext Hs Hs'
  sub : ∀ a o, Hs' a = some o → H' a = some o
  new : ∀ a, Hs' a ≠ none → Hs a ≠ none ∨ H a = none
theorem Gr.refl {H Hs : Hp} (s : ∀ a o, Hs a = some o → H a = some o) : Gr H Hs H Hs := ⟨Ext.refl _, Ext.refl _, s, fun _ h => .inl h⟩
theorem Gr.trans {H Hs H1 Hs1 H2 Hs2 : Hp} (a : Gr H Hs H1 Hs1) (b : Gr H1 Hs1 H2 Hs2) : Gr H Hs H2 Hs2 :=
  ⟨a.ext.trans b.ext, a.exs.trans b.exs, b.sub, fun x h => by
    rcases b.new x h with q | q
    · exact a.new x q
    · exact .inr (a.ext.no q)⟩
/-- a new object of the shared part -/
theorem Gr.share {H Hs H1 Hs1 : Hp} {p : Addr} {o : HO} (g : Gr H Hs H1 Hs1) (h : H1 p = none) : Gr H Hs (upd H1 p o) (upd Hs1 p o) := by
  have hs : Hs1 p = none := by
    cases q : Hs1 p with
    | none => rfl
    | some u => rw [g.sub p u q] at h; cases h
  refine g.trans ⟨Ext.new h, Ext.new hs, fun a u e => ?_, fun a e => ?_⟩
  · by_cases ha : a = p
    · subst ha; rw [upd_same] at e ⊢; exact e
    · rw [upd_ne ha] at e ⊢; exact g.sub a u e
  · by_cases ha : a = p
    · subst ha; exact .inr h
    · rw [upd_ne ha] at e; exact .inl e
/-- a new object of one's own -/
theorem Gr.keep {H Hs H1 Hs1 : Hp} {p : Addr} {o : HO} (g : Gr H Hs H1 Hs1) (h : H1 p = none) : Gr H Hs (upd H1 p o) Hs1 := by
  refine g.trans ⟨Ext.new h, Ext.refl _, fun a u e => ?_, fun a e => .inl e⟩
  have := g.sub a u e
  rw [upd_ne (ne_of_none this h)]
  exact this
theorem Gr.hsn {H Hs H1 Hs1 : Hp} (g : Gr H Hs H1 Hs1) {p : Addr} (h : H1 p = none) : Hs1 p = none := by
  cases q : Hs1 p with
  | none => rfl
  | some u => rw [g.sub p u q] at h; cases h

/-! ### slots by data -/
inductive Sl where
  | un | sh (d : PyData) | ow (ds : List PyData) | vv (v : V) | ol (l : Addr) (ds : List PyData) | od (es : List (PyData × PyData)) | ex (D : Addr)
/-- an exception of the class at D -/
def ExG (cls : Value) (d : Option Addr) (a : Addr) : HO := .ext fun h => ∃ (oe : Obj) (vs : Array Value), h.get? a = some oe ∧ Zc cls d oe ∧ oe.data = .fields vs
abbrev ExI (D a : Addr) : HO := ExG (.ref D) none a
/-- an object of one's own -/
def Sl.isOwn : Sl → Bool
  | .ow _ => true
  | .ol _ _ => true
  | .od _ => true
  | _ => false
def SlOk (K : PySem.W.Frag) (H0 H Hs : Hp) : Sl → Option V → Prop
  | .un, _ => True
  | .sh d, o => ∃ v, o = some v ∧ Dq K Hs v d
  | .ow ds, o => ∃ l xs, o = some (.ref l) ∧ H l = some (.lst xs) ∧ DqAll K Hs xs ds ∧ Hs l = none ∧ H0 l = none
  | .vv v, o => o = some v
  | .ol l ds, o => ∃ xs, o = some (.ref l) ∧ H l = some (.lst xs) ∧ DqAll K Hs xs ds ∧ Hs l = none ∧ H0 l = none
  | .ex D, o => ∃ a, o = some (.ref a) ∧ Hs a = some (ExI D a)
  | .od es, o => ∃ l kvs, o = some (.ref l) ∧ H l = some (.dK kvs) ∧ DqKV K Hs kvs es ∧ Hs l = none ∧ H0 l = none
abbrev Gm := List Sl
/-- where a def stands: H0, Hs0 its entry -/
structure En [Tabs] (K : PySem.W.Frag) (H0 Hs0 : Hp) (pn : Hp) (H Hs : Hp) (σ : St) (Γ : Gm) : Prop where
  gr : Gr H0 Hs0 H Hs
  pin : Ext pn Hs
  len : σ.length = Γ.length
  at_ : ∀ (i : Nat) (s : Sl) (o : Option V), Γ[i]? = some s → σ[i]? = some o → SlOk K H0 H Hs s o
  sep : ∀ (i j : Nat) (s t : Sl) (l : Addr), Γ[i]? = some s → Γ[j]? = some t → s.isOwn = true → t.isOwn = true → σ[i]? = some (some (.ref l)) → σ[j]? = some (some (.ref l)) → i = j
  tab : TabsIn Hs
section
variable [Tabs]
variable {K : PySem.W.Frag} {H0 Hs0 H Hs H' Hs' : Hp} {pn : Hp} {σ : St} {Γ : Gm}
theorem DqKV.mono (e : Ext H H') : ∀ {kvs : List (Key × V)} {es : List (PyData × PyData)}, DqKV K H kvs es → DqKV K H' kvs es
  | _, _, .nil => .nil
  | _, _, .cons h a => .cons (h.mono e) (DqKV.mono e a)
theorem own_at {s : Sl} {o : Option V} (h : SlOk K H0 H Hs s o) (w : s.isOwn = true) : ∃ l u, o = some (.ref l) ∧ H l = some u ∧ (∀ ps, u ≠ .tbl ps) ∧ Hs l = none ∧ H0 l = none := by
  cases s with
  | ow ds =>
    obtain ⟨l, xs, e, h1, _, h3, h4⟩ := h
    exact ⟨l, _, e, h1, fun _ z => (nomatch z), h3, h4⟩
  | ol l ds =>
    obtain ⟨xs, e, h1, _, h3, h4⟩ := h
    exact ⟨l, _, e, h1, fun _ z => (nomatch z), h3, h4⟩
  | od es =>
    obtain ⟨l, xs, e, h1, _, h3, h4⟩ := h
    exact ⟨l, _, e, h1, fun _ z => (nomatch z), h3, h4⟩
  | un => cases w
  | sh d => cases w
  | vv v => cases w
  | ex D => cases w
/-- what a slot says goes over to another heap where its own object stands -/
theorem SlOk.move {s : Sl} {o : Option V} (h : SlOk K H0 H Hs s o) (x : Ext Hs Hs') (k : ∀ l u, s.isOwn = true → o = some (.ref l) → H l = some u → (∀ ps, u ≠ .tbl ps) → Hs l = none → H' l = some u ∧ Hs' l = none) : SlOk K H0 H' Hs' s o := by
  cases s with
  | un => trivial
  | sh d =>
    obtain ⟨v, e, p⟩ := h
    exact ⟨v, e, p.mono x⟩
  | vv v => exact h
  | ex D =>
    obtain ⟨a, e, h1⟩ := h
    refine ⟨a, e, ?_⟩
    rcases x a _ h1 with z | ⟨_, _, z, _, _⟩
    · exact z
    · cases z
  | ow ds =>
    obtain ⟨l, xs, e, h1, h2, h3, h4⟩ := h
    obtain ⟨k1, k2⟩ := k l _ rfl e h1 (fun _ z => nomatch z) h3
    exact ⟨l, xs, e, k1, h2.mono x, k2, h4⟩
  | ol l ds =>
    obtain ⟨xs, e, h1, h2, h3, h4⟩ := h
    obtain ⟨k1, k2⟩ := k l _ rfl e h1 (fun _ z => nomatch z) h3
    exact ⟨xs, e, k1, h2.mono x, k2, h4⟩
  | od es =>
    obtain ⟨l, xs, e, h1, h2, h3, h4⟩ := h
    obtain ⟨k1, k2⟩ := k l _ rfl e h1 (fun _ z => nomatch z) h3
    exact ⟨l, xs, e, k1, h2.mono x, k2, h4⟩
theorem ext_own {l : Addr} {u : HO} (x : Ext H H') (h : H l = some u) (nt : ∀ ps, u ≠ .tbl ps) : H' l = some u := by
  rcases x l _ h with z | ⟨_, _, z, _, _⟩
  · exact z
  · exact absurd z (nt _)
theorem SlOk.gr {s : Sl} {o : Option V} (h : SlOk K H0 H Hs s o) (g : Gr H Hs H' Hs') : SlOk K H0 H' Hs' s o := h.move g.exs fun l u _ _ h1 nt h3 => by
  refine ⟨ext_own g.ext h1 nt, ?_⟩
  cases q : Hs' l with
  | none => rfl
  | some u =>
    rcases g.new l (by rw [q]; simp) with z | z
    · exact absurd h3 z
    · rw [h1] at z; cases z
theorem En.grow (E : En K H0 Hs0 pn H Hs σ Γ) (g : Gr H Hs H' Hs') : En K H0 Hs0 pn H' Hs' σ Γ :=
  ⟨E.gr.trans g, E.pin.trans g.exs, E.len, fun i s o h1 h2 => (E.at_ i s o h1 h2).gr g, E.sep, E.tab.mono g.exs⟩
theorem En.sub (E : En K H0 Hs0 pn H Hs σ Γ) : ∀ a o, Hs a = some o → H a = some o := E.gr.sub
theorem En.get (E : En K H0 Hs0 pn H Hs σ Γ) {i : Nat} {s : Sl} (h : Γ[i]? = some s) : ∃ o, σ[i]? = some o ∧ SlOk K H0 H Hs s o := by
  have hi : i < σ.length := by
    rw [E.len]
    exact (List.getElem?_eq_some_iff.mp h).1
  exact ⟨_, List.getElem?_eq_getElem hi, E.at_ i _ _ h (List.getElem?_eq_getElem hi)⟩
theorem En.sh (E : En K H0 Hs0 pn H Hs σ Γ) {i : Nat} {d : PyData} (h : Γ[i]? = some (.sh d)) : ∃ v, σ[i]? = some (some v) ∧ Dq K Hs v d := by
  obtain ⟨o, e, v, rfl, p⟩ := E.get h
  exact ⟨v, e, p⟩
theorem En.vv (E : En K H0 Hs0 pn H Hs σ Γ) {i : Nat} {v : V} (h : Γ[i]? = some (.vv v)) : σ[i]? = some (some v) := by
  obtain ⟨o, e, rfl⟩ := E.get h
  exact e
theorem En.ow (E : En K H0 Hs0 pn H Hs σ Γ) {i : Nat} {ds : List PyData} (h : Γ[i]? = some (.ow ds)) : ∃ l xs, σ[i]? = some (some (.ref l)) ∧ H l = some (.lst xs) ∧ DqAll K Hs xs ds ∧ Hs l = none ∧ H0 l = none := by
  obtain ⟨o, e, l, xs, rfl, p⟩ := E.get h
  exact ⟨l, xs, e, p⟩
theorem En.ol (E : En K H0 Hs0 pn H Hs σ Γ) {i : Nat} {l : Addr} {ds : List PyData} (h : Γ[i]? = some (.ol l ds)) : ∃ xs, σ[i]? = some (some (.ref l)) ∧ H l = some (.lst xs) ∧ DqAll K Hs xs ds ∧ Hs l = none ∧ H0 l = none := by
  obtain ⟨o, e, xs, rfl, p⟩ := E.get h
  exact ⟨xs, e, p⟩
theorem En.od (E : En K H0 Hs0 pn H Hs σ Γ) {i : Nat} {es : List (PyData × PyData)} (h : Γ[i]? = some (.od es)) : ∃ l kvs, σ[i]? = some (some (.ref l)) ∧ H l = some (.dK kvs) ∧ DqKV K Hs kvs es ∧ Hs l = none ∧ H0 l = none := by
  obtain ⟨o, e, l, xs, rfl, p⟩ := E.get h
  exact ⟨l, xs, e, p⟩
theorem En.own (E : En K H0 Hs0 pn H Hs σ Γ) {i : Nat} {s : Sl} (h : Γ[i]? = some s) (w : s.isOwn = true) : ∃ l u, σ[i]? = some (some (.ref l)) ∧ H l = some u ∧ (∀ ps, u ≠ .tbl ps) ∧ Hs l = none ∧ H0 l = none := by
  obtain ⟨o, e, p⟩ := E.get h
  obtain ⟨l, u, rfl, q⟩ := own_at p w
  exact ⟨l, u, e, q⟩
theorem En.lt (E : En K H0 Hs0 pn H Hs σ Γ) {i : Nat} (h : i < Γ.length) : i < σ.length := by rw [E.len]; exact h
theorem set_self {α : Type} {L : List α} {i : Nat} {x y : α} (h : (L.set i x)[i]? = some y) : y = x := by
  obtain ⟨b, e⟩ := List.getElem?_eq_some_iff.mp h
  rw [List.getElem_set_self] at e
  exact e.symm
/-- a slot is stored: shared data, nothing known, a value -/
theorem En.set (E : En K H0 Hs0 pn H Hs σ Γ) (i : Nat) {s : Sl} {o : Option V} (h : SlOk K H0 H Hs s o) (hs : s.isOwn = false) : En K H0 Hs0 pn H Hs (σ.set i o) (Γ.set i s) := by
  refine ⟨E.gr, E.pin, by rw [List.length_set, List.length_set]; exact E.len, fun j t q h1 h2 => ?_, fun j k t u l h1 h2 w1 w2 h3 h4 => ?_, E.tab⟩
  · by_cases hj : i = j
    · subst hj
      cases set_self h1
      cases set_self h2
      exact h
    · rw [List.getElem?_set_ne hj] at h1 h2
      exact E.at_ j t q h1 h2
  · have nj : ∀ j t, (Γ.set i s)[j]? = some t → t.isOwn = true → i ≠ j := fun j t e w z => by
      subst z
      cases set_self e
      rw [hs] at w
      cases w
    have n1 := nj j t h1 w1
    have n2 := nj k u h2 w2
    rw [List.getElem?_set_ne n1] at h1 h3
    rw [List.getElem?_set_ne n2] at h2 h4
    exact E.sep j k t u l h1 h2 w1 w2 h3 h4
theorem En.setSh (E : En K H0 Hs0 pn H Hs σ Γ) (i : Nat) {v : V} {d : PyData} (h : Dq K Hs v d) : En K H0 Hs0 pn H Hs (σ.set i (some v)) (Γ.set i (.sh d)) := E.set i (s := .sh d) (o := some v) ⟨v, rfl, h⟩ rfl
theorem En.setUn (E : En K H0 Hs0 pn H Hs σ Γ) (i : Nat) {o : Option V} : En K H0 Hs0 pn H Hs (σ.set i o) (Γ.set i .un) := E.set i (s := .un) (o := o) trivial rfl
/-- a new object of one's own is stored -/
theorem En.setOwn (E : En K H0 Hs0 pn H Hs σ Γ) (i : Nat) {l : Addr} {s : Sl} (h : SlOk K H0 H Hs s (some (.ref l)))
    (ne : ∀ j t, Γ[j]? = some t → t.isOwn = true → j ≠ i → σ[j]? ≠ some (some (.ref l))) : En K H0 Hs0 pn H Hs (σ.set i (some (.ref l))) (Γ.set i s) := by
  refine ⟨E.gr, E.pin, by rw [List.length_set, List.length_set]; exact E.len, fun j t q h1 h2 => ?_, fun j k t u l' h1 h2 w1 w2 h3 h4 => ?_, E.tab⟩
  · by_cases hj : i = j
    · subst hj
      cases set_self h1
      cases set_self h2
      exact h
    · rw [List.getElem?_set_ne hj] at h1 h2
      exact E.at_ j t q h1 h2
  · have is_l : ∀ {m : Nat}, i = m → (σ.set i (some (.ref l)))[m]? = some (some (.ref l')) → l' = l := fun {m} e h => by
      subst e
      cases set_self h
      rfl
    by_cases hj : i = j
    · by_cases hk : i = k
      · exact hj.symm.trans hk
      · have e := is_l hj h3
        subst e
        rw [List.getElem?_set_ne hk] at h2 h4
        exact absurd h4 (ne k u h2 w2 (Ne.symm hk))
    · by_cases hk : i = k
      · have e := is_l hk h4
        subst e
        rw [List.getElem?_set_ne hj] at h1 h3
        exact absurd h3 (ne j t h1 w1 (Ne.symm hj))
      · rw [List.getElem?_set_ne hj] at h1 h3
        rw [List.getElem?_set_ne hk] at h2 h4
        exact E.sep j k t u l' h1 h2 w1 w2 h3 h4
/-- .. an object that the heap did not know just before -/
theorem En.setNew {H1 Hs1 : Hp} (E : En K H0 Hs0 pn H1 Hs1 σ Γ) (g : Gr H1 Hs1 H Hs) (i : Nat) {l : Addr} {s : Sl} (n : H1 l = none) (h : SlOk K H0 H Hs s (some (.ref l))) : En K H0 Hs0 pn H Hs (σ.set i (some (.ref l))) (Γ.set i s) :=
  (E.grow g).setOwn i h fun j t hj w _ hσ => by
    obtain ⟨l', u, e1, h1, _⟩ := E.own hj w
    rw [hσ] at e1
    cases e1
    rw [n] at h1
    cases h1
/-- the object of one's own at slot i turns into another -/
theorem En.mutOwn (E : En K H0 Hs0 pn H Hs σ Γ) {i : Nat} {l : Addr} {s s' : Sl} {o : HO} (hi : Γ[i]? = some s) (w : s.isOwn = true) (hl : σ[i]? = some (some (.ref l))) (h : SlOk K H0 (upd H l o) Hs s' (some (.ref l))) : En K H0 Hs0 pn (upd H l o) Hs σ (Γ.set i s') := by
  obtain ⟨l', u, e1, h1, nt, h3, h4⟩ := E.own hi w
  rw [hl] at e1
  cases e1
  refine ⟨⟨E.gr.ext.mut h4, E.gr.exs, fun a u e => ?_, E.gr.new⟩, E.pin, by rw [List.length_set]; exact E.len, fun j t q k1 k2 => ?_, fun j k t t' l' k1 k2 w1 w2 k3 k4 => ?_, E.tab⟩
  · rw [upd_ne (ne_of_none e h3)]
    exact E.sub a u e
  · by_cases hj : i = j
    · subst hj
      cases set_self k1
      rw [hl] at k2
      cases k2
      exact h
    · rw [List.getElem?_set_ne hj] at k1
      refine (E.at_ j t q k1 k2).move (Ext.refl _) fun m u' w' e2 g1 nt' g3 => ⟨?_, g3⟩
      have : m ≠ l := fun z => by
        subst z
        subst e2
        exact hj (E.sep i j _ _ _ hi k1 w w' hl k2)
      rw [upd_ne this]
      exact g1
  · have fix : ∀ {m : Nat} {t : Sl}, (Γ.set i s')[m]? = some t → t.isOwn = true → ∃ t', Γ[m]? = some t' ∧ t'.isOwn = true := fun {m t} e wt => by
      by_cases hm : i = m
      · subst hm
        exact ⟨_, hi, w⟩
      · rw [List.getElem?_set_ne hm] at e
        exact ⟨_, e, wt⟩
    obtain ⟨_, q1, z1⟩ := fix k1 w1
    obtain ⟨_, q2, z2⟩ := fix k2 w2
    exact E.sep j k _ _ _ q1 q2 z1 z2 k3 k4
/-- the list of one's own at slot i turns into another -/
theorem En.mut (E : En K H0 Hs0 pn H Hs σ Γ) {i : Nat} {l : Addr} {xs : List V} {ds es : List PyData} (hi : Γ[i]? = some (.ow ds)) (hl : σ[i]? = some (some (.ref l))) (hd : DqAll K Hs xs es) : En K H0 Hs0 pn (upd H l (.lst xs)) Hs σ (Γ.set i (.ow es)) := by
  obtain ⟨l', ys, e1, h1, h2, h3, h4⟩ := E.ow hi
  rw [hl] at e1
  cases e1
  exact E.mutOwn hi rfl hl ⟨l, xs, rfl, upd_same, hd, h3, h4⟩
theorem En.mutL (E : En K H0 Hs0 pn H Hs σ Γ) {i : Nat} {l : Addr} {xs : List V} {ds es : List PyData} (hi : Γ[i]? = some (.ol l ds)) (hd : DqAll K Hs xs es) : En K H0 Hs0 pn (upd H l (.lst xs)) Hs σ (Γ.set i (.ol l es)) := by
  obtain ⟨ys, e1, h1, h2, h3, h4⟩ := E.ol hi
  exact E.mutOwn hi rfl e1 ⟨xs, rfl, upd_same, hd, h3, h4⟩
theorem En.mutD (E : En K H0 Hs0 pn H Hs σ Γ) {i : Nat} {l : Addr} {kvs : List (Key × V)} {es es' : List (PyData × PyData)} (hi : Γ[i]? = some (.od es)) (hl : σ[i]? = some (some (.ref l))) (hd : DqKV K Hs kvs es') : En K H0 Hs0 pn (upd H l (.dK kvs)) Hs σ (Γ.set i (.od es')) := by
  obtain ⟨l', ys, e1, h1, h2, h3, h4⟩ := E.od hi
  rw [hl] at e1
  cases e1
  exact E.mutOwn hi rfl hl ⟨l, kvs, rfl, upd_same, hd, h3, h4⟩
/-- an object of one's own is given free: shared from now on -/
theorem En.freeOwn (E : En K H0 Hs0 pn H Hs σ Γ) {i : Nat} {l : Addr} {u : HO} {s s' : Sl} (hi : Γ[i]? = some s) (w : s.isOwn = true) (hl : σ[i]? = some (some (.ref l))) (h1 : H l = some u) (ws : s'.isOwn = false) (h : SlOk K H0 H (upd Hs l u) s' (some (.ref l))) :
    Gr H0 Hs0 H (upd Hs l u) ∧ Ext Hs (upd Hs l u) ∧ En K H0 Hs0 pn H (upd Hs l u) σ (Γ.set i s') := by
  obtain ⟨l', u', e1, h1', nt, h3, h4⟩ := E.own hi w
  rw [hl] at e1
  cases e1
  have g : Gr H0 Hs0 H (upd Hs l u) := by
    refine ⟨E.gr.ext, E.gr.exs.trans (Ext.new h3), fun a u e => ?_, fun a e => ?_⟩
    · by_cases ha : a = l
      · subst ha; rw [upd_same] at e; rw [h1]; exact e
      · rw [upd_ne ha] at e; exact E.sub a u e
    · by_cases ha : a = l
      · subst ha; exact .inr h4
      · rw [upd_ne ha] at e; exact E.gr.new a e
  refine ⟨g, Ext.new h3, g, E.pin.trans (Ext.new h3), by rw [List.length_set]; exact E.len, fun j t q k1 k2 => ?_, fun j k t t' l' k1 k2 w1 w2 k3 k4 => ?_, E.tab.mono (Ext.new h3)⟩
  · by_cases hj : i = j
    · subst hj
      cases set_self k1
      rw [hl] at k2
      cases k2
      exact h
    · rw [List.getElem?_set_ne hj] at k1
      refine (E.at_ j t q k1 k2).move (Ext.new h3) fun m u' w' e2 g1 nt' g3 => ⟨g1, ?_⟩
      have : m ≠ l := fun z => by
        subst z
        subst e2
        exact hj (E.sep i j _ _ _ hi k1 w w' hl k2)
      rw [upd_ne this]
      exact g3
  · have fix : ∀ {m : Nat} {t : Sl}, (Γ.set i s')[m]? = some t → t.isOwn = true → Γ[m]? = some t := fun {m t} e wt => by
      by_cases hm : i = m
      · subst hm
        cases set_self e
        rw [ws] at wt
        cases wt
      · rw [List.getElem?_set_ne hm] at e
        exact e
    exact E.sep j k _ _ _ (fix k1 w1) (fix k2 w2) w1 w2 k3 k4
theorem En.free (E : En K H0 Hs0 pn H Hs σ Γ) {i : Nat} {ds : List PyData} (hi : Γ[i]? = some (.ow ds)) : ∃ Hs', Gr H0 Hs0 H Hs' ∧ Ext Hs Hs' ∧ En K H0 Hs0 pn H Hs' σ (Γ.set i (.sh (.list ds))) := by
  obtain ⟨l, xs, hl, h1, h2, h3, h4⟩ := E.ow hi
  exact ⟨_, E.freeOwn hi rfl hl h1 rfl ⟨.ref l, rfl, .lst (SqL.of upd_same) (h2.mono (Ext.new h3))⟩⟩
theorem En.freeD (E : En K H0 Hs0 pn H Hs σ Γ) {i : Nat} {es : List (PyData × PyData)} (hi : Γ[i]? = some (.od es)) : ∃ Hs', Gr H0 Hs0 H Hs' ∧ Ext Hs Hs' ∧ En K H0 Hs0 pn H Hs' σ (Γ.set i (.sh (.dict es))) := by
  obtain ⟨l, xs, hl, h1, h2, h3, h4⟩ := E.od hi
  exact ⟨_, E.freeOwn hi rfl hl h1 rfl ⟨.ref l, rfl, .dic (.inl upd_same) (h2.mono (Ext.new h3))⟩⟩
/-! ### an own list lent to a call that may change it -/
def del (H : Hp) (l : Addr) : Hp := fun a => if a = l then none else H a
theorem del_same {l : Addr} : del H l l = none := if_pos rfl
theorem del_ne {l a : Addr} (h : a ≠ l) : del H l a = H a := if_neg h
theorem En.call (E : En K H0 Hs0 pn H Hs σ Γ) {i : Nat} {l : Addr} {ds es : List PyData} {ys : List V} (hi : Γ[i]? = some (.ol l ds)) (g : Gr (del H l) Hs H' Hs') (hl : H' l = some (.lst ys)) (hn : Hs' l = none) (hd : DqAll K Hs' ys es) : En K H0 Hs0 pn H' Hs' σ (Γ.set i (.ol l es)) := by
  obtain ⟨xs, e1, h1, h2, h3, h4⟩ := E.ol hi
  have x0 : Ext H0 (del H l) := fun a o h => by
    have ha : a ≠ l := ne_of_none h h4
    rw [del_ne ha]
    exact E.gr.ext a o h
  refine ⟨⟨x0.trans g.ext, E.gr.exs.trans g.exs, g.sub, fun a h => ?_⟩, E.pin.trans g.exs, by rw [List.length_set]; exact E.len, fun j t q k1 k2 => ?_, fun j k t t' l' k1 k2 w1 w2 k3 k4 => ?_, E.tab.mono g.exs⟩
  · have ha : a ≠ l := fun z => by subst z; exact h hn
    rcases g.new a h with z | z
    · exact E.gr.new a z
    · rw [del_ne ha] at z
      exact .inr (E.gr.ext.no z)
  · by_cases hj : i = j
    · subst hj
      cases set_self k1
      rw [e1] at k2
      cases k2
      exact ⟨ys, rfl, hl, hd, hn, h4⟩
    · rw [List.getElem?_set_ne hj] at k1
      refine (E.at_ j t q k1 k2).move g.exs fun m u' w' e2 g1 nt' g3 => ?_
      have hm : m ≠ l := fun z => by
        subst z
        subst e2
        exact hj (E.sep i j _ _ _ hi k1 rfl w' e1 k2)
      refine ⟨ext_own g.ext (by rw [del_ne hm]; exact g1) nt', ?_⟩
      cases q' : Hs' m with
      | none => rfl
      | some u2 =>
        rcases g.new m (by rw [q']; simp) with z | z
        · exact absurd g3 z
        · rw [del_ne hm, g1] at z; cases z
  · have fix : ∀ {m : Nat} {t : Sl}, (Γ.set i (.ol l es))[m]? = some t → t.isOwn = true → ∃ t', Γ[m]? = some t' ∧ t'.isOwn = true := fun {m t} e wt => by
      by_cases hm : i = m
      · subst hm
        exact ⟨_, hi, rfl⟩
      · rw [List.getElem?_set_ne hm] at e
        exact ⟨_, e, wt⟩
    obtain ⟨_, q1, z1⟩ := fix k1 w1
    obtain ⟨_, q2, z2⟩ := fix k2 w2
    exact E.sep j k _ _ _ q1 q2 z1 z2 k3 k4
end
end Dl
set_option Elab.async false
set_option linter.all false
set_option maxRecDepth 100000
set_option maxHeartbeats 2000000
namespace Dl
open PySem L2
variable [Tabs]
/-- a def's entry: the heap, the part of it in which its arguments lie -/
structure Bs where
  H0 : Hp
  Hs0 : Hp
  low : Hp
abbrev Enb (K : PySem.W.Frag) (B : Bs) (H Hs : Hp) (σ : St) (Γ : Gm) : Prop := En K B.H0 B.Hs0 B.low H Hs σ Γ
def DE (K : PySem.W.Frag) (B : Bs) (t : TE) (Γ : Gm) (d : PyData) : Prop := ∀ H Hs σ, Enb K B H Hs σ Γ → ∀ Q : VK, (∀ v H' Hs', Gr H Hs H' Hs' → Dq K Hs' v d → Q v H') → t σ H Q
def DT (K : PySem.W.Frag) (B : Bs) (t : TT) (Γ : Gm) (b : Bool) : Prop := ∀ H Hs σ, Enb K B H Hs σ Γ → ∀ Q : Bool → Hp → Prop, (∀ H' Hs', Gr H Hs H' Hs' → Q b H') → t σ H Q
def DA (K : PySem.W.Frag) (B : Bs) (t : TA) (Γ : Gm) (ds : List PyData) : Prop := ∀ H Hs σ, Enb K B H Hs σ Γ → ∀ Q : List V → Hp → Prop, (∀ vs H' Hs', Gr H Hs H' Hs' → DqAll K Hs' vs ds → Q vs H') → t σ H Q
/-- a new list -/
def DL (K : PySem.W.Frag) (B : Bs) (t : TE) (Γ : Gm) (ds : List PyData) : Prop := ∀ H Hs σ, Enb K B H Hs σ Γ → ∀ Q : VK, (∀ p xs H' Hs', Gr H Hs H' Hs' → H p = none → H' p = some (.lst xs) → Hs' p = none → DqAll K Hs' xs ds → Q (.ref p) H') → t σ H Q
/-- a list or a tuple to be read, shared or one's own -/
def DV (K : PySem.W.Frag) (B : Bs) (t : TE) (Γ : Gm) (ds : List PyData) : Prop := ∀ H Hs σ, Enb K B H Hs σ Γ → ∀ Q : VK, (∀ a xs H' Hs', Gr H Hs H' Hs' → (SqL K H' a xs ∨ SqT K H' a xs) → DqAll K Hs' xs ds → Q (.ref a) H') → t σ H Q
section
variable {K : PySem.W.Frag} {B : Bs} {H Hs H' Hs' : Hp} {σ : St} {Γ : Gm} {t ta tb te : TE} {d : PyData} {ds : List PyData}
theorem sub_l {a : Addr} {xs : List V} (s : ∀ a o, Hs a = some o → H a = some o) (h : SqL K Hs a xs) : SqL K H a xs := by
  rcases h with (h | ⟨o, h⟩) | h
  · exact .inl (.inl (s _ _ h))
  · exact .inl (.inr ⟨o, s _ _ h⟩)
  · exact .inr h
theorem sub_t {a : Addr} {xs : List V} (s : ∀ a o, Hs a = some o → H a = some o) (h : SqT K Hs a xs) : SqT K H a xs := by
  rcases h with (h | ⟨o, h⟩) | h
  · exact .inl (.inl (s _ _ h))
  · exact .inl (.inr ⟨o, s _ _ h⟩)
  · exact .inr h
theorem sub_rd {a : Addr} {u : HO} (s : ∀ a o, Hs a = some o → H a = some o) (h : Rd Hs a u) : Rd H a u := by
  rcases h with h | ⟨o, h⟩
  · exact .inl (s _ _ h)
  · exact .inr ⟨o, s _ _ h⟩
theorem dp_sub (s : ∀ a o, Hs a = some o → H a = some o) {v : V} {d : PyData} (h : Dq K Hs v d) : Dq K H v d := h.map (fun _ _ => sub_l s) (fun _ _ => sub_t s) (fun _ _ => sub_rd s)
theorem dpAll_sub (s : ∀ a o, Hs a = some o → H a = some o) {vs : List V} {ds : List PyData} (h : DqAll K Hs vs ds) : DqAll K H vs ds := h.map (fun _ _ => sub_l s) (fun _ _ => sub_t s) (fun _ _ => sub_rd s)
/-! ### expressions -/
theorem de_var {i : Nat} (h : Γ[i]? = some (.sh d)) : DE K B (tVar i) Γ d := fun H Hs σ E Q q => by
  obtain ⟨v, e, p⟩ := E.sh h
  exact ⟨v, e, q v H Hs (Gr.refl E.sub) p⟩
theorem de_int {i : Int} : DE K B (tC (.int i)) Γ (.int i) := fun H Hs σ E Q q => q _ H Hs (Gr.refl E.sub) (.int i)
theorem de_str {x : Str} : DE K B (tC (.str x)) Γ (.str x) := fun H Hs σ E Q q => q _ H Hs (Gr.refl E.sub) (.str x)
theorem de_bl {b : Bool} : DE K B (tC (.bl b)) Γ (.bool b) := fun H Hs σ E Q q => q _ H Hs (Gr.refl E.sub) (.bl b)
theorem de_non : DE K B (tC .non) Γ .none := fun H Hs σ E Q q => q _ H Hs (Gr.refl E.sub) .non
theorem de_of_dl (h : DL K B t Γ ds) : DE K B t Γ (.list ds) := fun H Hs σ E Q q => h H Hs σ E _ fun p xs H' Hs' g n e s a => by
  have x : Ext Hs' (upd Hs' p (.lst xs)) := Ext.new s
  refine q (.ref p) H' (upd Hs' p (.lst xs)) ⟨g.ext, g.exs.trans x, fun b u z => ?_, fun b z => ?_⟩ (.lst (SqL.of upd_same) (a.mono x))
  · by_cases hb : b = p
    · subst hb; rw [upd_same] at z; rw [e]; exact z
    · rw [upd_ne hb] at z; exact g.sub b u z
  · by_cases hb : b = p
    · subst hb; exact .inr n
    · rw [upd_ne hb] at z; exact g.new b z
theorem dv_l (h : DE K B t Γ (.list ds)) : DV K B t Γ ds := fun H Hs σ E Q q => h H Hs σ E _ fun v H' Hs' g p => by
  cases p with
  | lst h a => exact q _ _ H' Hs' g (.inl (sub_l g.sub h)) a
theorem dv_t (h : DE K B t Γ (.tuple ds)) : DV K B t Γ ds := fun H Hs σ E Q q => h H Hs σ E _ fun v H' Hs' g p => by
  cases p with
  | tup h a => exact q _ _ H' Hs' g (.inr (sub_t g.sub h)) a
theorem dv_o {i : Nat} (h : Γ[i]? = some (.ow ds)) : DV K B (tVar i) Γ ds := fun H Hs σ E Q q => by
  obtain ⟨l, xs, e, h1, h2, _, _⟩ := E.ow h
  exact ⟨.ref l, e, q l xs H Hs (Gr.refl E.sub) (.inl (SqL.of h1)) h2⟩
/-- what a two-place operation on values is worth on data -/
def OpD (K : PySem.W.Frag) (r : R2) (a b d : PyData) : Prop := ∀ H Hs x y, (∀ a o, Hs a = some o → H a = some o) → Dq K Hs x a → Dq K Hs y b → ∀ Q : VK, (∀ v H' Hs', Gr H Hs H' Hs' → Dq K Hs' v d → Q v H') → r x y H Q
theorem de_op {r : R2} {a b : PyData} (ha : DE K B ta Γ a) (hb : DE K B tb Γ b) (hr : OpD K r a b d) : DE K B (tOp r ta tb) Γ d := fun H Hs σ E Q q =>
  ha H Hs σ E _ fun v H1 Hs1 g1 p1 => hb H1 Hs1 σ (E.grow g1) _ fun u H2 Hs2 g2 p2 => hr H2 Hs2 v u g2.sub (p1.mono g2.exs) p2 Q fun w H3 Hs3 g3 p3 => q w H3 Hs3 ((g1.trans g2).trans g3) p3
def UnD (K : PySem.W.Frag) (r : V → Hp → VK → Prop) (a d : PyData) : Prop := ∀ H Hs x, (∀ a o, Hs a = some o → H a = some o) → Dq K Hs x a → ∀ Q : VK, (∀ v H' Hs', Gr H Hs H' Hs' → Dq K Hs' v d → Q v H') → r x H Q
theorem de_un {r : V → Hp → VK → Prop} {a : PyData} (ha : DE K B ta Γ a) (hr : UnD K r a d) : DE K B (tUn r ta) Γ d := fun H Hs σ E Q q =>
  ha H Hs σ E _ fun v H1 Hs1 g1 p1 => hr H1 Hs1 v g1.sub p1 Q fun w H2 Hs2 g2 p2 => q w H2 Hs2 (g1.trans g2) p2
/-- a call of a built-in, on its arguments -/
def CbD (K : PySem.W.Frag) (r : List V → Hp → VK → Prop) (as : List PyData) (d : PyData) : Prop := ∀ H Hs xs, (∀ a o, Hs a = some o → H a = some o) → DqAll K Hs xs as → ∀ Q : VK, (∀ v H' Hs', Gr H Hs H' Hs' → Dq K Hs' v d → Q v H') → r xs H Q
theorem de_cb {r : List V → Hp → VK → Prop} {ta : TA} {as : List PyData} (ha : DA K B ta Γ as) (hr : CbD K r as d) : DE K B (tCB r ta) Γ d := fun H Hs σ E Q q =>
  ha H Hs σ E _ fun v H1 Hs1 g1 p1 => hr H1 Hs1 v g1.sub p1 Q fun w H2 Hs2 g2 p2 => q w H2 Hs2 (g1.trans g2) p2
/-- .. that makes a new list -/
def CbL (K : PySem.W.Frag) (r : List V → Hp → VK → Prop) (as ds : List PyData) : Prop := ∀ H Hs xs, (∀ a o, Hs a = some o → H a = some o) → DqAll K Hs xs as → ∀ Q : VK, (∀ p zs, H p = none → DqAll K Hs zs ds → Q (.ref p) (upd H p (.lst zs))) → r xs H Q
theorem dl_new {H1 Hs1 : Hp} {Q : VK} {p : Addr} {zs : List V} (g : Gr H Hs H1 Hs1) (q : ∀ p xs H' Hs', Gr H Hs H' Hs' → H p = none → H' p = some (.lst xs) → Hs' p = none → DqAll K Hs' xs ds → Q (.ref p) H')
    (n : H1 p = none) (a : DqAll K Hs1 zs ds) : Q (.ref p) (upd H1 p (.lst zs)) := q p zs _ Hs1 (g.keep n) (g.ext.no n) upd_same (g.hsn n) a
theorem dl_cb {r : List V → Hp → VK → Prop} {ta : TA} {as : List PyData} (ha : DA K B ta Γ as) (hr : CbL K r as ds) : DL K B (tCB r ta) Γ ds := fun H Hs σ E Q q =>
  ha H Hs σ E _ fun v H1 Hs1 g1 p1 => hr H1 Hs1 v g1.sub p1 Q fun p zs n a => dl_new g1 q n a
theorem da_nil : DA K B tNil Γ [] := fun H Hs σ E Q q => q [] H Hs (Gr.refl E.sub) .nil
theorem da_cons {ta : TA} (h : DE K B te Γ d) (hr : DA K B ta Γ ds) : DA K B (tCons te ta) Γ (d :: ds) := fun H Hs σ E Q q =>
  h H Hs σ E _ fun v H1 Hs1 g1 p1 => hr H1 Hs1 σ (E.grow g1) _ fun vs H2 Hs2 g2 p2 => q (v :: vs) H2 Hs2 (g1.trans g2) (.cons (p1.mono g2.exs) p2)
theorem de_tup {ta : TA} (h : DA K B ta Γ ds) (hl : ds.length ≤ sizeLine) : DE K B (tTup ta) Γ (.tuple ds) := fun H Hs σ E Q q =>
  h H Hs σ E _ fun vs H1 Hs1 g1 p1 => ⟨by rw [p1.length]; exact hl, fun p n => q (.ref p) _ (upd Hs1 p (.tup vs)) (g1.share n) (.tup (SqT.of upd_same) (p1.mono (Ext.new (g1.hsn n))))⟩
theorem dl_lst {ta : TA} (h : DA K B ta Γ ds) (hl : ds.length ≤ sizeLine) : DL K B (tLst ta) Γ ds := fun H Hs σ E Q q =>
  h H Hs σ E _ fun vs H1 Hs1 g1 p1 => ⟨by rw [p1.length]; exact hl, fun p n => dl_new g1 q n p1⟩
/-! ### tests -/
variable {tt tu : TT} {b c : Bool}
theorem dt_B (h : DE K B t Γ (.bool b)) : DT K B (tB t) Γ b := fun H Hs σ E Q q => h H Hs σ E _ fun v H' Hs' g p => by
  cases p
  exact ⟨b, rfl, q H' Hs' g⟩
theorem dt_not (h : DT K B tt Γ b) : DT K B (tNot tt) Γ (!b) := fun H Hs σ E Q q => h H Hs σ E _ fun H' Hs' g => q H' Hs' g
theorem dt_and (h1 : DT K B tt Γ b) (h2 : b = true → DT K B tu Γ c) : DT K B (tAnd tt tu) Γ (b && c) := fun H Hs σ E Q q => h1 H Hs σ E _ fun H1 Hs1 g1 => by
  cases b with
  | true =>
    show tu σ H1 Q
    exact h2 rfl H1 Hs1 σ (E.grow g1) Q fun H2 Hs2 g2 => q H2 Hs2 (g1.trans g2)
  | false =>
    show Q false H1
    exact q H1 Hs1 g1
theorem dt_or (h1 : DT K B tt Γ b) (h2 : b = false → DT K B tu Γ c) : DT K B (tOr tt tu) Γ (b || c) := fun H Hs σ E Q q => h1 H Hs σ E _ fun H1 Hs1 g1 => by
  cases b with
  | true =>
    show Q true H1
    exact q H1 Hs1 g1
  | false =>
    show tu σ H1 Q
    exact h2 rfl H1 Hs1 σ (E.grow g1) Q fun H2 Hs2 g2 => q H2 Hs2 (g1.trans g2)
theorem de_andV {x y : Bool} (h1 : DE K B ta Γ (.bool x)) (h2 : x = true → DE K B tb Γ (.bool y)) : DE K B (tAndV ta tb) Γ (.bool (x && y)) := fun H Hs σ E Q q => h1 H Hs σ E _ fun v H1 Hs1 g1 p1 => by
  cases p1
  refine ⟨x, rfl, ?_⟩
  cases x with
  | true =>
    show tb σ H1 Q
    exact h2 rfl H1 Hs1 σ (E.grow g1) Q fun u H2 Hs2 g2 p2 => q u H2 Hs2 (g1.trans g2) p2
  | false =>
    show Q (.bl false) H1
    exact q _ H1 Hs1 g1 (.bl _)
theorem de_orV {x y : Bool} (h1 : DE K B ta Γ (.bool x)) (h2 : x = false → DE K B tb Γ (.bool y)) : DE K B (tOrV ta tb) Γ (.bool (x || y)) := fun H Hs σ E Q q => h1 H Hs σ E _ fun v H1 Hs1 g1 p1 => by
  cases p1
  refine ⟨x, rfl, ?_⟩
  cases x with
  | true =>
    show Q (.bl true) H1
    exact q _ H1 Hs1 g1 (.bl _)
  | false =>
    show tb σ H1 Q
    exact h2 rfl H1 Hs1 σ (E.grow g1) Q fun u H2 Hs2 g2 p2 => q u H2 Hs2 (g1.trans g2) p2
theorem de_notV {x : Bool} (h1 : DE K B ta Γ (.bool x)) : DE K B (tNotV ta) Γ (.bool (!x)) := fun H Hs σ E Q q => h1 H Hs σ E _ fun v H1 Hs1 g1 p1 => by
  cases p1
  exact ⟨x, rfl, q _ H1 Hs1 g1 (.bl _)⟩
theorem de_if (h : DT K B tt Γ b) (h1 : b = true → DE K B ta Γ d) (h2 : b = false → DE K B tb Γ d) : DE K B (tIf tt ta tb) Γ d := fun H Hs σ E Q q => h H Hs σ E _ fun H1 Hs1 g1 => by
  cases b with
  | true =>
    show ta σ H1 Q
    exact h1 rfl H1 Hs1 σ (E.grow g1) Q fun u H2 Hs2 g2 p2 => q u H2 Hs2 (g1.trans g2) p2
  | false =>
    show tb σ H1 Q
    exact h2 rfl H1 Hs1 σ (E.grow g1) Q fun u H2 Hs2 g2 p2 => q u H2 Hs2 (g1.trans g2) p2
/-! ### calls of own defs -/
/-- a def by a relation of data: arguments, value -/
def spR (K : PySem.W.Frag) (R : List PyData → PyData → Prop) : Sp := fun vs H Q _ => ∃ ds d Hs, (∀ a o, Hs a = some o → H a = some o) ∧ TabsIn Hs ∧ DqAll K Hs vs ds ∧ R ds d ∧ ∀ v H' Hs', Gr H Hs H' Hs' → Dq K Hs' v d → Q v H'
theorem de_call {R : List PyData → PyData → Prop} {E0 : XK} {ta : TA} {as : List PyData} (ha : DA K B ta Γ as) (hr : R as d) : DE K B (tCall (spR K R) [] E0 ta) Γ d := fun H Hs σ E Q q =>
  ha H Hs σ E _ fun vs H1 Hs1 g1 p1 => ⟨as, d, Hs1, g1.sub, E.tab.mono g1.exs, by rw [List.append_nil]; exact p1, hr, fun v H2 Hs2 g2 p2 => q v H2 Hs2 (g1.trans g2) p2⟩
/-- a def that gives a fresh list -/
def spRO (K : PySem.W.Frag) (R : List PyData → PyData → Prop) : Sp := fun vs H Q _ => ∃ ds es Hs, (∀ a o, Hs a = some o → H a = some o) ∧ TabsIn Hs ∧ DqAll K Hs vs ds ∧ R ds (.list es) ∧ ∀ p xs H' Hs', Gr H Hs H' Hs' → H p = none → H' p = some (.lst xs) → Hs' p = none → DqAll K Hs' xs es → Q (.ref p) H'
theorem dl_call {R : List PyData → PyData → Prop} {E0 : XK} {ta : TA} {as : List PyData} (ha : DA K B ta Γ as) (hr : R as (.list ds)) : DL K B (tCall (spRO K R) [] E0 ta) Γ ds := fun H Hs σ E Q q =>
  ha H Hs σ E _ fun vs H1 Hs1 g1 p1 => ⟨as, ds, Hs1, g1.sub, E.tab.mono g1.exs, by rw [List.append_nil]; exact p1, hr, fun p xs H2 Hs2 g2 n e s a => q p xs H2 Hs2 (g1.trans g2) (g1.ext.no n) e s a⟩
/-! ### statements -/
inductive Out where
  | nx (Γ : Gm) | rt (d : PyData) | bk (Γ : Gm) | ct (Γ : Gm) | ro (ds : List PyData) | rm (l : Addr) (es : List PyData) (d : PyData)
def Fits (K : PySem.W.Frag) (B : Bs) (D : Ends) : Out → Prop
  | .nx Γ => ∀ H Hs σ, Enb K B H Hs σ Γ → D.nx σ H
  | .bk Γ => ∀ H Hs σ, Enb K B H Hs σ Γ → D.bk σ H
  | .ct Γ => ∀ H Hs σ, Enb K B H Hs σ Γ → D.ct σ H
  | .rt d => ∀ v H Hs, Gr B.H0 B.Hs0 H Hs → Dq K Hs v d → D.rt v H
  | .ro ds => ∀ p xs H Hs, Gr B.H0 B.Hs0 H Hs → B.H0 p = none → H p = some (.lst xs) → Hs p = none → DqAll K Hs xs ds → D.rt (.ref p) H
  | .rm l es d => ∀ v ys H Hs, Gr B.H0 B.Hs0 H Hs → H l = some (.lst ys) → Hs l = none → DqAll K Hs ys es → Dq K Hs v d → D.rt v H
def DS (K : PySem.W.Frag) (B : Bs) (t : TS) (Γ : Gm) (P : Out → Prop) : Prop := ∀ (D : Ends) H Hs σ, Enb K B H Hs σ Γ → (∀ o, P o → Fits K B D o) → t D σ H
/-- what follows a statement -/
def thenS (K : PySem.W.Frag) (B : Bs) (u : TS) (P : Out → Prop) : Out → Prop
  | .nx Γ => DS K B u Γ P
  | o => P o
variable {P : Out → Prop} {u ts : TS}
theorem ds_seq (h : DS K B ts Γ (thenS K B u P)) : DS K B (tSeq ts u) Γ P := fun D H Hs σ E q => h { D with nx := u D } H Hs σ E fun o ho => by
  cases o with
  | nx Γ' => exact fun H' Hs' σ' E' => ho D H' Hs' σ' E' q
  | rt d => exact q _ ho
  | bk Γ' => exact q _ ho
  | ct Γ' => exact q _ ho
  | ro ds => exact q _ ho
  | rm l es d => exact q _ ho
theorem ds_next (h : P (.nx Γ)) : DS K B tNext Γ P := fun D H Hs σ E q => q _ h H Hs σ E
theorem ds_brk (h : P (.bk Γ)) : DS K B tBreak Γ P := fun D H Hs σ E q => q _ h H Hs σ E
theorem ds_cont (h : P (.ct Γ)) : DS K B tCont Γ P := fun D H Hs σ E q => q _ h H Hs σ E
theorem ds_asg {i : Nat} (h : DE K B te Γ d) (k : P (.nx (Γ.set i (.sh d)))) : DS K B (tAsg te (gName i)) Γ P := fun D H Hs σ E q => h H Hs σ E _ fun v H1 Hs1 g1 p1 =>
  q _ k H1 Hs1 _ ((E.grow g1).setSh i p1)
theorem ds_asgO {i : Nat} (h : DL K B te Γ ds) (k : P (.nx (Γ.set i (.ow ds)))) : DS K B (tAsg te (gName i)) Γ P := fun D H Hs σ E q => h H Hs σ E _ fun p xs H1 Hs1 g1 n e s a =>
  q _ k H1 Hs1 _ (E.setNew g1 i n ⟨p, xs, rfl, e, a, s, E.gr.ext.no n⟩)
/-- .. whose place is kept in mind -/
theorem ds_asgL {i : Nat} (h : DL K B te Γ ds) (k : ∀ l, P (.nx (Γ.set i (.ol l ds)))) : DS K B (tAsg te (gName i)) Γ P := fun D H Hs σ E q => h H Hs σ E _ fun p xs H1 Hs1 g1 n e s a =>
  q _ (k p) H1 Hs1 _ (E.setNew g1 i n ⟨xs, rfl, e, a, s, E.gr.ext.no n⟩)
theorem ds_ret (h : DE K B te Γ d) (k : P (.rt d)) : DS K B (tRet te) Γ P := fun D H Hs σ E q => h H Hs σ E _ fun v H1 Hs1 g1 p1 => q _ k v H1 Hs1 (E.gr.trans g1) p1
theorem ds_retO (h : DL K B te Γ ds) (k : P (.ro ds)) : DS K B (tRet te) Γ P := fun D H Hs σ E q => h H Hs σ E _ fun p xs H1 Hs1 g1 n e s a => q _ k p xs H1 Hs1 (E.gr.trans g1) (E.gr.ext.no n) e s a
theorem ds_retN (k : P (.rt .none)) : DS K B tRetN Γ P := fun D H Hs σ E q => q _ k _ H Hs E.gr .non
/-- a list of one's own is free from here on -/
theorem ds_free {i : Nat} (hi : Γ[i]? = some (.ow ds)) (h : DS K B ts (Γ.set i (.sh (.list ds))) P) : DS K B ts Γ P := fun D H Hs σ E q => by
  obtain ⟨Hs', g, x, E'⟩ := E.free hi
  exact h D H Hs' σ E' q
theorem ds_drop (h : DE K B te Γ d) (k : P (.nx Γ)) : DS K B (tDrop te) Γ P := fun D H Hs σ E q => h H Hs σ E _ fun v H1 Hs1 g1 _ => q _ k H1 Hs1 σ (E.grow g1)
theorem ds_if {tw : TS} (h : DT K B tt Γ b) (h1 : b = true → DS K B u Γ P) (h2 : b = false → DS K B tw Γ P) : DS K B (tIfS tt u tw) Γ P := fun D H Hs σ E q => h H Hs σ E _ fun H1 Hs1 g1 => by
  cases b with
  | true =>
    show u D σ H1
    exact h1 rfl D H1 Hs1 σ (E.grow g1) q
  | false =>
    show tw D σ H1
    exact h2 rfl D H1 Hs1 σ (E.grow g1) q
theorem ds_imp {P' : Out → Prop} (h : DS K B ts Γ P') (k : ∀ o, P' o → P o) : DS K B ts Γ P := fun D H Hs σ E q => h D H Hs σ E fun o ho => q o (k o ho)
/-- two names at once -/
theorem ds_par {i j : Nat} {ta : TA} {a b : PyData} (h : DA K B ta Γ [a, b]) (k : P (.nx ((Γ.set i (.sh a)).set j (.sh b)))) : DS K B (tPar i j ta) Γ P := fun D H Hs σ E q => h H Hs σ E _ fun vs H1 Hs1 g1 p1 => by
  cases p1 with
  | cons p1 p2 =>
    cases p2 with
    | cons p2 p3 =>
      cases p3
      exact ⟨_, _, rfl, q _ k H1 Hs1 _ (((E.grow g1).setSh i p1).setSh j p2)⟩
/-- out.append(e), out one's own -/
theorem ds_app {i : Nat} (hi : Γ[i]? = some (.ow ds)) (h : DE K B te Γ d) (hz : ds.length < sizeLine) (k : P (.nx (Γ.set i (.ow (ds ++ [d]))))) : DS K B (tDrop (tBM K "list" rAppend (tVar i) (tCons te tNil))) Γ P := fun D H Hs σ E q => by
  obtain ⟨l, xs, e, h1, h2, h3, h4⟩ := E.ow hi
  refine ⟨.ref l, e, .inl ⟨rfl, xs, SqL.of h1⟩, h H Hs σ E _ fun v H1 Hs1 g1 p1 => ?_⟩
  have E1 := E.grow g1
  refine ⟨l, xs, v, rfl, rfl, g1.ext.lst h1, by rw [h2.length]; exact hz, q _ k _ Hs1 σ (E1.mut hi e ((h2.mono g1.exs).app (.cons p1 .nil)))⟩
/-- a, b = e: a tuple told apart -/
theorem ds_tup2 {i j n : Nat} {a b : PyData} (h : DE K B te Γ (.tuple [a, b])) (hn : n = 2) (k : P (.nx ((Γ.set i (.sh a)).set j (.sh b)))) : DS K B (tAsg te (gTup K n (gCons (gName i) (gCons (gName j) gNil)))) Γ P := fun D H Hs σ E q => h H Hs σ E _ fun v H1 Hs1 g1 p1 => by
  subst hn
  cases p1 with
  | tup hq ha =>
    cases ha with
    | cons a1 ha =>
      cases ha with
      | cons a2 ha =>
        cases ha
        exact ⟨_, _, rfl, sub_t g1.sub hq, rfl, _, _, rfl, _, _, rfl, rfl, q _ k H1 Hs1 _ (((E.grow g1).setSh i a1).setSh j a2)⟩
theorem ds_tup3 {i j l n : Nat} {a b c : PyData} (h : DE K B te Γ (.tuple [a, b, c])) (hn : n = 3) (k : P (.nx (((Γ.set i (.sh a)).set j (.sh b)).set l (.sh c)))) : DS K B (tAsg te (gTup K n (gCons (gName i) (gCons (gName j) (gCons (gName l) gNil))))) Γ P := fun D H Hs σ E q => h H Hs σ E _ fun v H1 Hs1 g1 p1 => by
  subst hn
  cases p1 with
  | tup hq ha =>
    cases ha with
    | cons a1 ha =>
      cases ha with
      | cons a2 ha =>
        cases ha with
        | cons a3 ha =>
          cases ha
          exact ⟨_, _, rfl, sub_t g1.sub hq, rfl, _, _, rfl, _, _, rfl, _, _, rfl, rfl, q _ k H1 Hs1 _ ((((E.grow g1).setSh i a1).setSh j a2).setSh l a3)⟩
/-! ### loops -/
def Bs.at (B : Bs) (L : Hp) : Bs := { B with low := L }
theorem low_in {L : Hp} (E : Enb K B H Hs σ Γ) (x : Ext L Hs) : Enb K (B.at L) H Hs σ Γ := ⟨E.gr, x, E.len, E.at_, E.sep, E.tab⟩
theorem low_out {L : Hp} (E : Enb K (B.at L) H Hs σ Γ) (x : Ext B.low L) : Enb K B H Hs σ Γ := ⟨E.gr, x.trans E.pin, E.len, E.at_, E.sep, E.tab⟩
/-- what a turn leaves -/
def turnS (I : Nat → Gm → Prop) (k : Nat) (P : Out → Prop) : Out → Prop
  | .nx Γ => I (k + 1) Γ
  | .ct Γ => I (k + 1) Γ
  | .bk Γ => P (.nx Γ)
  | .rt v => P (.rt v)
  | .ro v => P (.ro v)
  | .rm l es v => P (.rm l es v)
theorem turn_fits {I : Nat → Gm → Prop} {k : Nat} {L : Hp} {D : Ends} {o : Out} (ho : turnS I k P o) (q : ∀ o, P o → Fits K B D o) (x : Ext B.low L) {W : St → Hp → Prop}
    (hw : ∀ Γ' H' Hs' σ', I (k + 1) Γ' → Enb K (B.at L) H' Hs' σ' Γ' → W σ' H') : Fits K (B.at L) { D with nx := W, ct := W, bk := D.nx } o := by
  cases o with
  | nx Γ' => exact fun H' Hs' σ' E' => hw Γ' H' Hs' σ' ho E'
  | ct Γ' => exact fun H' Hs' σ' E' => hw Γ' H' Hs' σ' ho E'
  | bk Γ' => exact fun H' Hs' σ' E' => q _ ho H' Hs' σ' (low_out E' x)
  | rt d => exact q _ ho
  | ro ds => exact q _ ho
  | rm l es d => exact q _ ho
/-- an iterator that gives data -/
def ItD (K : PySem.W.Frag) (J : It) (L : Hp) (ds : List PyData) : Prop := ∀ H2 Hs2, (∀ a o, Hs2 a = some o → H2 a = some o) → Ext L Hs2 →
  J.stop ds.length H2 ∧ ∀ i d, ds[i]? = some d → J.go i H2 ∧ ∀ x H3, J.yld i H2 x H3 → ∃ Hs3, Gr H2 Hs2 H3 Hs3 ∧ Dq K Hs3 x d
/-- what is walked -/
def DI (K : PySem.W.Frag) (B : Bs) (wi : TI) (Γ : Gm) (ds : List PyData) : Prop := ∀ H Hs σ, Enb K B H Hs σ Γ → ∀ R : It → Hp → Prop, (∀ J H' Hs', Gr H Hs H' Hs' → ItD K J Hs' ds → R J H') → wi σ H R
theorem itd_list {a : Addr} {xs : List V} {L : Hp} (hq : SqL K L a xs) (ha : DqAll K L xs ds) : ItD K (Itl K a) L ds := fun H2 Hs2 s x => by
  have q2 := sub_l s (ext_l x hq)
  refine ⟨⟨xs, q2, by rw [ha.length]; exact Nat.le_refl _⟩, fun i d hd => ?_⟩
  obtain ⟨v, hv, pv⟩ := ha.get hd
  refine ⟨⟨xs, v, q2, hv⟩, fun y H3 ⟨e, f⟩ => ?_⟩
  subst e
  cases (f xs q2).symm.trans hv
  exact ⟨Hs2, Gr.refl s, pv.mono x⟩
theorem itd_tup {a : Addr} {xs : List V} {L : Hp} (hq : SqT K L a xs) (ha : DqAll K L xs ds) : ItD K (Itt K a) L ds := fun H2 Hs2 s x => by
  have q2 := sub_t s (ext_t x hq)
  refine ⟨⟨xs, q2, by rw [ha.length]; exact Nat.le_refl _⟩, fun i d hd => ?_⟩
  obtain ⟨v, hv, pv⟩ := ha.get hd
  refine ⟨⟨xs, v, q2, hv⟩, fun y H3 ⟨e, f⟩ => ?_⟩
  subst e
  cases (f xs q2).symm.trans hv
  exact ⟨Hs2, Gr.refl s, pv.mono x⟩
theorem di_list {te : TE} (h : DE K B te Γ (.list ds)) : DI K B (iList K te) Γ ds := fun H Hs σ E R q => h H Hs σ E _ fun v H1 Hs1 g1 p1 => by
  cases p1 with
  | lst hq ha => exact ⟨_, rfl, ⟨_, sub_l g1.sub hq⟩, q _ H1 Hs1 g1 (itd_list hq ha)⟩
theorem di_tup {te : TE} (h : DE K B te Γ (.tuple ds)) : DI K B (iTup K te) Γ ds := fun H Hs σ E R q => h H Hs σ E _ fun v H1 Hs1 g1 p1 => by
  cases p1 with
  | tup hq ha => exact ⟨_, rfl, ⟨_, sub_t g1.sub hq⟩, q _ H1 Hs1 g1 (itd_tup hq ha)⟩
def rangeD (lo : Int) (n : Nat) : List PyData := (List.range n).map fun i => .int (lo + (i : Nat))
theorem rangeD_get {lo : Int} {n i : Nat} {d : PyData} (h : (rangeD lo n)[i]? = some d) : i < n ∧ d = .int (lo + (i : Nat)) := by
  unfold rangeD at h
  rw [List.getElem?_map] at h
  cases e : (List.range n)[i]? with
  | none => rw [e] at h; cases h
  | some j =>
    rw [e] at h
    obtain ⟨h1, h2⟩ := List.getElem?_eq_some_iff.mp e
    rw [List.getElem_range] at h2
    rw [List.length_range] at h1
    subst h2
    exact ⟨h1, (Option.some.inj h).symm⟩
theorem rangeD_len {lo : Int} {n : Nat} : (rangeD lo n).length = n := by unfold rangeD; rw [List.length_map, List.length_range]
theorem itd_rng {lo : Int} {n : Nat} {L : Hp} : ItD K (Itr lo n) L (rangeD lo n) := fun H2 Hs2 s x => by
  refine ⟨by rw [rangeD_len]; exact Nat.le_refl _, fun i d hd => ?_⟩
  obtain ⟨h1, rfl⟩ := rangeD_get hd
  refine ⟨h1, fun y H3 ⟨e, f⟩ => ?_⟩
  subst e; subst f
  exact ⟨Hs2, Gr.refl s, .int _⟩
theorem di_rng1 {ta : TA} {n : Int} (h : DA K B ta Γ [.int n]) (hn : -(2 ^ 62) ≤ n ∧ n < 2 ^ 62) : DI K B (iRng1 ta) Γ (rangeD 0 n.toNat) := fun H Hs σ E R q => h H Hs σ E _ fun vs H1 Hs1 g1 p1 => by
  cases p1 with
  | cons p1 p2 =>
    cases p2; cases p1
    exact ⟨n, rfl, hn.1, hn.2, q _ H1 Hs1 g1 itd_rng⟩
theorem di_rng2 {ta : TA} {m n : Int} (h : DA K B ta Γ [.int m, .int n]) (hm : -(2 ^ 62) ≤ m ∧ m < 2 ^ 62) (hn : -(2 ^ 62) ≤ n ∧ n < 2 ^ 62) : DI K B (iRng2 ta) Γ (rangeD m (n - m).toNat) := fun H Hs σ E R q => h H Hs σ E _ fun vs H1 Hs1 g1 p1 => by
  cases p1 with
  | cons p1 p2 =>
    cases p2 with
    | cons p2 p3 =>
      cases p3; cases p1; cases p2
      exact ⟨m, n, rfl, ⟨hm.1, hm.2, hn.1, hn.2⟩, q _ H1 Hs1 g1 itd_rng⟩
/-- a text's signs -/
def signsD (x : Str) : List PyData := x.cps.toList.map fun c => .str ⟨#[c]⟩
theorem itd_str {x : Str} {L : Hp} : ItD K (Its x) L (signsD x) := fun H2 Hs2 s _ => by
  refine ⟨by unfold signsD; rw [List.length_map, Array.length_toList]; exact Nat.le_refl _, fun i d hd => ?_⟩
  unfold signsD at hd
  rw [List.getElem?_map, Array.getElem?_toList] at hd
  cases e : x.cps[i]? with
  | none => rw [e] at hd; cases hd
  | some c =>
    rw [e] at hd
    refine ⟨(Array.getElem?_eq_some_iff.mp e).1, fun y H3 ⟨e3, c', hc, f⟩ => ?_⟩
    subst e3; subst f
    cases hc.symm.trans e
    cases hd
    exact ⟨Hs2, Gr.refl s, .str _⟩
theorem di_str {te : TE} {x : Str} (h : DE K B te Γ (.str x)) : DI K B (iStr te) Γ (signsD x) := fun H Hs σ E R q => h H Hs σ E _ fun v H1 Hs1 g1 p1 => by
  cases p1
  exact ⟨x, rfl, q _ H1 Hs1 g1 itd_str⟩
def enumD (k : Nat) : List PyData → List PyData
  | [] => []
  | d :: r => .tuple [.int k, d] :: enumD (k + 1) r
theorem enumD_len : ∀ (k : Nat) (ds : List PyData), (enumD k ds).length = ds.length
  | _, [] => rfl
  | k, d :: r => by show (enumD (k + 1) r).length + 1 = _; rw [enumD_len]; rfl
theorem enumD_get : ∀ {k : Nat} {ds : List PyData} {i : Nat} {e : PyData}, (enumD k ds)[i]? = some e → ∃ d, ds[i]? = some d ∧ e = .tuple [.int ((k + i : Nat) : Int), d]
  | _, [], _, _, h => by simp [enumD] at h
  | k, d :: r, 0, e, h => ⟨d, rfl, (Option.some.inj h).symm⟩
  | k, d :: r, i + 1, e, h => by
    obtain ⟨d', h1, h2⟩ := enumD_get (k := k + 1) (ds := r) (i := i) h
    exact ⟨d', h1, by rw [h2, show k + 1 + i = k + (i + 1) by omega]⟩
theorem itd_enum {a : Addr} {xs : List V} {L : Hp} (hq : SqL K L a xs) (ha : DqAll K L xs ds) : ItD K (Ite K a) L (enumD 0 ds) := fun H2 Hs2 s x => by
  have q2 := sub_l s (ext_l x hq)
  refine ⟨⟨xs, q2, by rw [enumD_len, ha.length]; exact Nat.le_refl _⟩, fun i e he => ?_⟩
  obtain ⟨d, hd, rfl⟩ := enumD_get he
  obtain ⟨v, hv, pv⟩ := ha.get hd
  refine ⟨⟨xs, v, q2, hv⟩, fun y H3 ⟨T, z, e1, nT, e2, f⟩ => ?_⟩
  subst e1; subst e2
  cases (f xs q2).symm.trans hv
  rw [Nat.zero_add]
  have nS : Hs2 T = none := by
    cases q : Hs2 T with
    | none => rfl
    | some u => rw [s T u q] at nT; cases nT
  exact ⟨_, (Gr.refl s).share nT, .tup (SqT.of upd_same) (.cons (.int _) (.cons ((pv.mono x).mono (Ext.new nS)) .nil))⟩
theorem di_enum {ta : TA} (h : DA K B ta Γ [.list ds]) : DI K B (iEnum K ta) Γ (enumD 0 ds) := fun H Hs σ E R q => h H Hs σ E _ fun vs H1 Hs1 g1 p1 => by
  cases p1 with
  | cons p1 p2 =>
    cases p2
    cases p1 with
    | lst hq ha => exact ⟨_, _, rfl, sub_l g1.sub hq, q _ H1 Hs1 g1 (itd_enum hq ha)⟩
/-! ### targets -/
theorem wipe_set {σ : St} {k : Nat} {o : Option V} : ∀ {vs : List Nat}, k ∈ vs → wipe (σ.set k o) vs = wipe σ vs
  | v :: vs, h => by
    show (wipe (σ.set k o) vs).set v none = (wipe σ vs).set v none
    by_cases hk : k ∈ vs
    · rw [wipe_set hk]
    · have e : k = v := by
        rcases List.mem_cons.mp h with e | e
        · exact e
        · exact absurd e hk
      subst e
      have c : ∀ ws : List Nat, k ∉ ws → wipe (σ.set k o) ws = (wipe σ ws).set k o := fun ws => by
        induction ws with
        | nil => intro _; rfl
        | cons w ws ih =>
          intro hn
          have h1 : k ≠ w := fun z => hn (by rw [z]; exact List.mem_cons_self)
          have h2 : k ∉ ws := fun z => hn (List.mem_cons_of_mem _ z)
          show (wipe (σ.set k o) ws).set w none = ((wipe σ ws).set w none).set k o
          rw [ih h2, List.set_comm _ _ h1]
      rw [c vs hk, List.set_set]
/-- a target, bound to a datum -/
def DG (K : PySem.W.Frag) (g : TG) (js : List Nat) (d : PyData) (Γ Γ' : Gm) : Prop := ∀ (B : Bs) H Hs σ v, Enb K B H Hs σ Γ → Dq K Hs v d → ∀ Q : St → Hp → Prop, (∀ σ', Enb K B H Hs σ' Γ' → (∀ vs, (∀ j ∈ js, j ∈ vs) → wipe σ' vs = wipe σ vs) → Q σ' H) → g v σ H Q
def DGs (K : PySem.W.Frag) (g : TGs) (js : List Nat) (ds : List PyData) (Γ Γ' : Gm) : Prop := ∀ (B : Bs) H Hs σ vs, Enb K B H Hs σ Γ → DqAll K Hs vs ds → ∀ Q : St → Hp → Prop, (∀ σ', Enb K B H Hs σ' Γ' → (∀ ws, (∀ j ∈ js, j ∈ ws) → wipe σ' ws = wipe σ ws) → Q σ' H) → g vs σ H Q
theorem dg_name {i : Nat} : DG K (gName i) [i] d Γ (Γ.set i (.sh d)) := fun B H Hs σ v E p Q q => q _ (E.setSh i p) fun vs h => wipe_set (h i List.mem_cons_self)
theorem dgs_nil : DGs K gNil [] [] Γ Γ := fun B H Hs σ vs E p Q q => by
  cases p
  exact ⟨rfl, q σ E fun _ _ => rfl⟩
theorem dgs_cons {g : TG} {gs : TGs} {js ks : List Nat} {Γ1 Γ2 : Gm} (h : DG K g js d Γ Γ1) (hs : DGs K gs ks ds Γ1 Γ2) : DGs K (gCons g gs) (js ++ ks) (d :: ds) Γ Γ2 := fun B H Hs σ vs E p Q q => by
  cases p with
  | cons p1 p2 =>
    exact ⟨_, _, rfl, h B H Hs σ _ E p1 _ fun σ1 E1 w1 => hs B H Hs σ1 _ E1 p2 _ fun σ2 E2 w2 => q σ2 E2 fun ws hw => (w2 ws fun j hj => hw j (List.mem_append_right _ hj)).trans (w1 ws fun j hj => hw j (List.mem_append_left _ hj))⟩
theorem dg_tup {gs : TGs} {js : List Nat} {n : Nat} {Γ1 : Gm} (h : DGs K gs js ds Γ Γ1) (hn : ds.length = n) : DG K (gTup K n gs) js (.tuple ds) Γ Γ1 := fun B H Hs σ v E p Q q => by
  cases p with
  | tup hq ha => exact ⟨_, _, rfl, sub_t E.sub hq, by rw [ha.length]; exact hn, h B H Hs σ _ E ha Q q⟩
theorem ds_asgG {g : TG} {js : List Nat} {Γ1 : Gm} (h : DE K B te Γ d) (hg : DG K g js d Γ Γ1) (k : P (.nx Γ1)) : DS K B (tAsg te g) Γ P := fun D H Hs σ E q => h H Hs σ E _ fun v H1 Hs1 g1 p1 =>
  hg B H1 Hs1 σ v (E.grow g1) p1 _ fun σ' E' _ => q _ k H1 Hs1 σ' E'
/-- a for -/
theorem ds_for {wi : TI} {g : TG} {tb : TS} (h : DI K B wi Γ ds) (I : Nat → Gm → Prop) (h0 : I 0 Γ)
    (hs : ∀ B' k d Γ', ds[k]? = some d → I k Γ' → ∃ js Γ2, DG K g js d Γ' Γ2 ∧ DS K B' tb Γ2 (turnS I k P)) (hd : ∀ Γ', I ds.length Γ' → P (.nx Γ')) : DS K B (tFor wi g tb) Γ P := fun D H Hs σ E q => h H Hs σ E _ fun J H1 Hs1 g1 hJ => by
  have E1 := E.grow g1
  refine ⟨fun i m σ' H' => m = ds.length - i ∧ i ≤ ds.length ∧ ∃ Γ' Hs', I i Γ' ∧ Enb K (B.at Hs1) H' Hs' σ' Γ', ⟨ds.length, rfl, Nat.zero_le _, Γ, Hs1, h0, low_in E1 (Ext.refl _)⟩, ?_⟩
  rintro i m σ' H' ⟨rfl, hi, Γ', Hs', hI, E'⟩
  obtain ⟨j1, j2⟩ := hJ H' Hs' E'.sub E'.pin
  by_cases hlt : i < ds.length
  · have hd' : ds[i]? = some ds[i] := List.getElem?_eq_getElem hlt
    obtain ⟨j3, j4⟩ := j2 i _ hd'
    refine .inr ⟨j3, fun σ2 H2 => ∃ Γ2 Hs2, I (i + 1) Γ2 ∧ Enb K (B.at Hs1) H2 Hs2 σ2 Γ2, fun σ2 H2 ⟨Γ2, Hs2, hI2, E2⟩ => ⟨ds.length - (i + 1), by omega, rfl, by omega, Γ2, Hs2, hI2, E2⟩, fun x H2 hy => ?_⟩
    obtain ⟨Hs2, g2, p2⟩ := j4 x H2 hy
    obtain ⟨js, Γ2, hg, hb⟩ := hs (B.at Hs1) i _ Γ' hd' hI
    refine hg (B.at Hs1) H2 Hs2 σ' x (E'.grow g2) p2 _ fun σ3 E3 _ => hb _ H2 Hs2 σ3 E3 fun o ho => turn_fits ho q E1.pin fun Γ4 H4 Hs4 σ4 hI4 E4 => ⟨Γ4, Hs4, hI4, E4⟩
  · have e : i = ds.length := by omega
    subst e
    exact .inl ⟨j1, q _ (hd Γ' hI) H' Hs' σ' (low_out E' E1.pin)⟩
/-! ### comprehensions -/
def wipeG (Γ : Gm) : List Nat → Gm
  | [] => Γ
  | v :: vs => (wipeG Γ vs).set v .un
theorem En.wiped (E : Enb K B H Hs σ Γ) : ∀ vs : List Nat, Enb K B H Hs (wipe σ vs) (wipeG Γ vs)
  | [] => E
  | v :: vs => (En.wiped E vs).setUn v
theorem dl_lc {wi : TI} {g : TG} {vs js : List Nat} (h : DI K B wi Γ ds) (p : PyData → Bool) (e : PyData → PyData) (hz : ds.length ≤ 1000000) (hv : ∀ j ∈ js, j ∈ vs)
    (hs : ∀ B' d, d ∈ ds → ∃ Γ2, DG K g js d (wipeG Γ vs) Γ2 ∧ DT K B' tt Γ2 (p d) ∧ (p d = true → DE K B' te Γ2 (e d))) : DL K B (tLc wi g tt te vs) Γ ((ds.filter p).map e) := fun H Hs σ E Q q => h H Hs σ E _ fun J H1 Hs1 g1 hJ Dl hD => by
  have E1 := E.grow g1
  have hsD : Hs1 Dl = none := g1.hsn hD
  -- what holds behind i turns
  refine ⟨fun i m H' => m = ds.length - i ∧ i ≤ ds.length ∧ ∃ Hs' acc, H' Dl = some (.lst acc) ∧ Hs' Dl = none ∧ DqAll K Hs' acc (((ds.take i).filter p).map e) ∧ Gr H1 Hs1 H' Hs', ⟨ds.length, rfl, Nat.zero_le _, Hs1, [], upd_same, hsD, .nil, (Gr.refl g1.sub).keep hD⟩, ?_⟩
  rintro i m H' ⟨rfl, hi, Hs', acc, hA, hN, pA, gA⟩
  have E' := E1.grow gA
  obtain ⟨j1, j2⟩ := hJ H' Hs' gA.sub gA.exs
  by_cases hlt : i < ds.length
  · have hd' : ds[i]? = some ds[i] := List.getElem?_eq_getElem hlt
    obtain ⟨j3, j4⟩ := j2 i _ hd'
    have et : ds.take (i + 1) = ds.take i ++ [ds[i]] := by rw [List.take_add_one, hd']; rfl
    have lz : (((ds.take i).filter p).map e).length < sizeLine := by
      rw [List.length_map]
      refine Nat.lt_of_le_of_lt (List.length_filter_le _ _) ?_
      rw [List.length_take]
      exact Nat.lt_of_le_of_lt (Nat.min_le_right _ _) (Nat.lt_of_le_of_lt hz (by decide))
    refine .inr ⟨j3, fun H2 => ∃ Hs2 acc2, H2 Dl = some (.lst acc2) ∧ Hs2 Dl = none ∧ DqAll K Hs2 acc2 (((ds.take (i + 1)).filter p).map e) ∧ Gr H1 Hs1 H2 Hs2, fun H2 z => ⟨ds.length - (i + 1), by omega, rfl, by omega, z⟩, fun x H2 hy => ?_⟩
    obtain ⟨Hs2, g2, p2⟩ := j4 x H2 hy
    obtain ⟨Γ2, hg, ht, he⟩ := hs B ds[i] (List.getElem_mem hlt)
    have notin : ∀ {H3 Hs3 : Hp}, Gr H' Hs' H3 Hs3 → Hs3 Dl = none := fun {H3 Hs3} g3 => by
      cases z : Hs3 Dl with
      | none => rfl
      | some u =>
        rcases g3.new Dl (by rw [z]; simp) with w | w
        · exact absurd hN w
        · rw [hA] at w; cases w
    refine hg B H2 Hs2 _ x (En.wiped (E'.grow g2) vs) p2 _ fun σ3 E3 w3 => ⟨?_, ht H2 Hs2 σ3 E3 _ fun H3 Hs3 g3 => ?_⟩
    · have w := w3 vs hv
      rw [w]
      have ww : ∀ us : List Nat, (∀ u ∈ us, u ∈ vs) → wipe (wipe σ us) vs = wipe σ vs := fun us => by
        induction us with
        | nil => intro _; rfl
        | cons u us ih =>
          intro hu
          show wipe ((wipe σ us).set u none) vs = _
          rw [wipe_set (hu u List.mem_cons_self)]
          exact ih fun w hw => hu w (List.mem_cons_of_mem _ hw)
      exact ww vs fun _ h => h
    · have g23 := g2.trans g3
      cases hp : p ds[i] with
      | true =>
        show te σ3 H3 _
        refine he hp H3 Hs3 σ3 (E3.grow g3) _ fun y H4 Hs4 g4 p4 => ?_
        have g24 := g23.trans g4
        refine ⟨acc, g24.ext.lst hA, by rw [pA.length]; exact lz, Hs4, acc ++ [y], upd_same, notin g24, ?_, ?_⟩
        · rw [et, List.filter_append, List.map_append, List.filter_cons, if_pos hp]
          exact (pA.mono g24.exs).app (.cons p4 .nil)
        · have gt := gA.trans g24
          exact ⟨gt.ext.mut hD, gt.exs, fun a u z => by rw [upd_ne (ne_of_none z (notin g24))]; exact gt.sub a u z, gt.new⟩
      | false =>
        refine ⟨Hs3, acc, g23.ext.lst hA, notin g23, ?_, gA.trans g23⟩
        rw [et, List.filter_append, List.map_append, List.filter_cons, if_neg (by rw [hp]; simp)]
        show DqAll K Hs3 acc (_ ++ [])
        rw [List.append_nil]
        exact pA.mono g23.exs
  · have e2 : i = ds.length := by omega
    subst e2
    rw [List.take_length] at pA
    exact .inl ⟨j1, q Dl acc H' Hs' (g1.trans gA) (g1.ext.no hD) hA hN pA⟩
/-- a while, by a word and a number that falls -/
theorem ds_while {tc : TT} {tb : TS} (I : Nat → Gm → Prop) (m0 : Nat) (h0 : I m0 Γ)
    (hs : ∀ m Γ', I m Γ' → ∃ b, DT K B tc Γ' b ∧ (b = true → DS K B tb Γ' fun o => match o with | .nx Γ2 => ∃ m', m' < m ∧ I m' Γ2 | .ct Γ2 => ∃ m', m' < m ∧ I m' Γ2 | .bk Γ2 => P (.nx Γ2) | .rt v => P (.rt v) | .ro v => P (.ro v) | .rm l es v => P (.rm l es v)) ∧ (b = false → P (.nx Γ'))) : DS K B (tWhile tc tb) Γ P := fun D H Hs σ E q =>
  ⟨fun m σ' H' => ∃ Γ' Hs', I m Γ' ∧ Enb K B H' Hs' σ' Γ', ⟨m0, Γ, Hs, h0, E⟩, fun m σ' H' ⟨Γ', Hs', hI, E'⟩ => by
    obtain ⟨b, hb, h1, h2⟩ := hs m Γ' hI
    refine hb H' Hs' σ' E' _ fun H2 Hs2 g2 => ?_
    have E2 := E'.grow g2
    cases b with
    | true =>
      refine ⟨fun σ3 H3 => ∃ m', m' < m ∧ ∃ Γ3 Hs3, I m' Γ3 ∧ Enb K B H3 Hs3 σ3 Γ3, fun _ _ n => n, ?_⟩
      refine h1 rfl _ H2 Hs2 σ' E2 fun o ho => ?_
      cases o with
      | nx Γ3 =>
        obtain ⟨m', l, hI'⟩ := ho
        exact fun H3 Hs3 σ3 E3 => ⟨m', l, Γ3, Hs3, hI', E3⟩
      | ct Γ3 =>
        obtain ⟨m', l, hI'⟩ := ho
        exact fun H3 Hs3 σ3 E3 => ⟨m', l, Γ3, Hs3, hI', E3⟩
      | bk Γ3 => exact q _ ho
      | rt d => exact q _ ho
      | ro ds => exact q _ ho
      | rm l es d => exact q _ ho
    | false => exact q _ (h2 rfl) H2 Hs2 σ' E2⟩
end
end Dl
set_option Elab.async false
set_option linter.all false
set_option maxRecDepth 100000
set_option maxHeartbeats 2000000
namespace Dl
open PySem L2 PyProof.Rows
variable [Tabs]
/-! ### a piece of the text, whatever its reading -/
def uE (X : Cx) (e : Expr) : TE := fun σ H Q => ∃ t, PE X e t ∧ t σ H Q
def uT (X : Cx) (e : Expr) : TT := fun σ H Q => ∃ t, PT X e t ∧ t σ H Q
def uW (X : Cx) (e : Expr) : TT := fun σ H Q => ∃ t, PW X e t ∧ t σ H Q
def uA (X : Cx) (es : List Expr) : TA := fun σ H Q => ∃ t, PA X es t ∧ t σ H Q
def uS (X : Cx) (s : Stmt) : TS := fun D σ H => ∃ t, PS X s t ∧ t D σ H
def uB (X : Cx) (s : List Stmt) : TS := fun D σ H => ∃ t, PSs X s t ∧ t D σ H
def uI (X : Cx) (tg e : Expr) : TI := fun σ H R => ∃ t, PI X tg e t ∧ t σ H R
theorem pe_u {X : Cx} {e : Expr} : PE X e (uE X e) := ⟨fun pins s σ H Q I ⟨_, p, h⟩ => p.run pins s σ H Q I h⟩
theorem pt_u {X : Cx} {e : Expr} : PT X e (uT X e) := ⟨fun pins s σ H Q I ⟨_, p, h⟩ => p.run pins s σ H Q I h⟩
theorem pw_u {X : Cx} {e : Expr} : PW X e (uW X e) := ⟨fun w pins s σ H Q I ⟨_, p, h⟩ => p.run w pins s σ H Q I h⟩
theorem pa_u {X : Cx} {es : List Expr} : PA X es (uA X es) := ⟨fun pos pins s σ H Q I ⟨_, p, h⟩ => p.run pos pins s σ H Q I h⟩
theorem ps_u {X : Cx} {s : Stmt} : PS X s (uS X s) := ⟨fun pins s σ H D I ⟨_, p, h⟩ => p.run pins s σ H D I h⟩
theorem pb_u {X : Cx} {s : List Stmt} : PSs X s (uB X s) := ⟨fun pins s σ H D I ⟨_, p, h⟩ => p.run pins s σ H D I h⟩
theorem pi_u {X : Cx} {tg e : Expr} : PI X tg e (uI X tg e) := ⟨fun pins s σ H R I ⟨_, p, h⟩ => p.run pins s σ H R I h⟩
/-! ### the judgements on the text -/
def Xp (X : Cx) (B : Bs) (Γ : Gm) (e : Expr) (d : PyData) : Prop := DE X.K B (uE X e) Γ d
def Xl (X : Cx) (B : Bs) (Γ : Gm) (e : Expr) (ds : List PyData) : Prop := DL X.K B (uE X e) Γ ds
def Xt (X : Cx) (B : Bs) (Γ : Gm) (e : Expr) (b : Bool) : Prop := DT X.K B (uT X e) Γ b
def Xw (X : Cx) (B : Bs) (Γ : Gm) (e : Expr) (b : Bool) : Prop := DT X.K B (uW X e) Γ b
def Xa (X : Cx) (B : Bs) (Γ : Gm) (es : List Expr) (ds : List PyData) : Prop := DA X.K B (uA X es) Γ ds
def Xs (X : Cx) (B : Bs) (Γ : Gm) (s : Stmt) (P : Out → Prop) : Prop := DS X.K B (uS X s) Γ P
def Xb (X : Cx) (B : Bs) (Γ : Gm) (s : List Stmt) (P : Out → Prop) : Prop := DS X.K B (uB X s) Γ P
def Xi (X : Cx) (B : Bs) (Γ : Gm) (tg e : Expr) (ds : List PyData) : Prop := DI X.K B (uI X tg e) Γ ds
section
variable {X : Cx} {B : Bs} {Γ : Gm} {e a b c : Expr} {es : List Expr} {s st : Stmt} {ss rest : List Stmt} {d d1 d2 : PyData} {ds : List PyData} {P : Out → Prop} {pos : Pos} {x : Str} {i : Nat} {p q r : Bool}
theorem xp_of {t : TE} (h : PE X e t) (k : DE X.K B t Γ d) : Xp X B Γ e d := fun H Hs σ E Q q => ⟨t, h, k H Hs σ E Q q⟩
theorem xl_of {t : TE} (h : PE X e t) (k : DL X.K B t Γ ds) : Xl X B Γ e ds := fun H Hs σ E Q q => ⟨t, h, k H Hs σ E Q q⟩
theorem xt_of {t : TT} (h : PT X e t) (k : DT X.K B t Γ p) : Xt X B Γ e p := fun H Hs σ E Q q => ⟨t, h, k H Hs σ E Q q⟩
theorem xw_of {t : TT} (h : PW X e t) (k : DT X.K B t Γ p) : Xw X B Γ e p := fun H Hs σ E Q q => ⟨t, h, k H Hs σ E Q q⟩
theorem xa_of {t : TA} (h : PA X es t) (k : DA X.K B t Γ ds) : Xa X B Γ es ds := fun H Hs σ E Q q => ⟨t, h, k H Hs σ E Q q⟩
theorem xs_of {t : TS} (h : PS X s t) (k : DS X.K B t Γ P) : Xs X B Γ s P := fun D H Hs σ E q => ⟨t, h, k D H Hs σ E q⟩
theorem xb_of {t : TS} (h : PSs X ss t) (k : DS X.K B t Γ P) : Xb X B Γ ss P := fun D H Hs σ E q => ⟨t, h, k D H Hs σ E q⟩
theorem xi_of {t : TI} {tg : Expr} (h : PI X tg e t) (k : DI X.K B t Γ ds) : Xi X B Γ tg e ds := fun H Hs σ E R q => ⟨t, h, k H Hs σ E R q⟩
/-! ### names -/
/-- x may be read, at slot i -/
structure Rk (X : Cx) (i : Nat) (x : Str) : Prop where
  ix : X.N[i]? = some x
  vis : Vis X.env.scope x
  d1 : (x == ("__debug__" : Str)) = false
  d2 : (x == ("__classdict__" : Str)) = false
/-- x may be stored, at slot i -/
structure Lk (X : Cx) (i : Nat) (x : Str) : Prop where
  nd : X.N.Nodup
  ix : X.N[i]? = some x
  loc : Loc X.env.scope x
  fn : X.fn x = true ∨ X.env.scope.names.lookup x = some .local
/-- a built-in's name -/
structure Bi (X : Cx) (x : Str) : Prop where
  gl : Gl X x
  no : X.mg x = none
/-- a module's own def: a relation of data -/
structure Ce (X : Cx) (x : Str) (R : List PyData → PyData → Prop) : Prop where
  ex : ∃ (k : Nat) (f : Addr) (fd : FuncData) (ps : List Str), X.mg x = some (.ref f) ∧ FnOk X.prog X.w X.K X.mg X.base CX0 k f fd ps (spR X.K R) ∧ PySem.W.keepIn X.K (.ref f) = true ∧ Binds X.K fd ps [] ∧ Room k X.A
  db : (x == ("__debug__" : Str)) = false
/-- a module's constant -/
structure Cn (X : Cx) (x : Str) (d : PyData) : Prop where
  ex : ∃ u v, X.mg x = some u ∧ RelV v u ∧ ∀ H, Dq X.K H v d
  db : (x == ("__debug__" : Str)) = false
theorem xp_var (h : Rk X i x) (k : Γ[i]? = some (.sh d)) : Xp X B Γ (.Name x pos) d := xp_of (pe_var h.ix h.vis h.d1 h.d2) (de_var k)
theorem xp_cn (h : Gl X x) (k : Cn X x d) : Xp X B Γ (.Name x pos) d := by
  obtain ⟨u, v, hm, r, p⟩ := k.ex
  exact xp_of (pe_glob h hm r k.db) fun H Hs σ E Q q => q v H Hs (Gr.refl E.sub) (p Hs)
theorem xp_int {j : Int} {k} : Xp X B Γ (.Constant (.int j) k pos) (.int j) := xp_of pe_int de_int
theorem xp_str {z : Str} {k} : Xp X B Γ (.Constant (.str z) k pos) (.str z) := xp_of pe_str de_str
theorem xp_bl {z : Bool} {k} : Xp X B Γ (.Constant (.bool z) k pos) (.bool z) := xp_of pe_bl de_bl
theorem xp_non {k} : Xp X B Γ (.Constant .none k pos) .none := xp_of pe_non de_non
theorem xp_l (h : Xl X B Γ e ds) : Xp X B Γ e (.list ds) := de_of_dl h
/-! ### operators -/
theorem xp_bin {op : Operator} {rr : R2} (ho : OpR X (binaryOp op) rr) (hr : OpD X.K rr d1 d2 d) (ha : Xp X B Γ a d1) (hb : Xp X B Γ b d2) : Xp X B Γ (.BinOp a op b pos) d := xp_of (pe_op ho pe_u pe_u) (de_op ha hb hr)
theorem xp_cmp {op : CmpOp} {rr : R2} (ho : OpR X (compareOp op) rr) (hr : OpD X.K rr d1 d2 d) (ha : Xp X B Γ a d1) (hb : Xp X B Γ b d2) (hm : behindInMarks op b = false) : Xp X B Γ (.Compare a [op] [b] pos) d := xp_of (pe_cmpR ho pe_u pe_u hm) (de_op ha hb hr)
theorem xt_cmp {op : CmpOp} {rr : R2} (ho : OpR X (compareOp op) rr) (hr : OpD X.K rr d1 d2 (.bool p)) (ha : Xp X B Γ a d1) (hb : Xp X B Γ b d2) (hm : behindInMarks op b = false) : Xt X B Γ (.Compare a [op] [b] pos) p := xt_of (pt_cmpR ho pe_u pe_u hm) (dt_B (de_op ha hb hr))
theorem opd_I {C : Int → Int → Prop} {g : Int → Int → V} {m n : Int} {K : PySem.W.Frag} (hc : C m n) (hg : ∀ H, Dq K H (g m n) d) : OpD K (rI C g) (.int m) (.int n) d := fun H Hs x y s hx hy Q q => by
  cases hx; cases hy
  exact ⟨m, n, rfl, rfl, hc, q _ H Hs (Gr.refl s) (hg Hs)⟩
theorem opd_I0 {g : Int → Int → V} {m n : Int} {K : PySem.W.Frag} (hg : ∀ H, Dq K H (g m n) d) : OpD K (rI0 g) (.int m) (.int n) d := fun H Hs x y s hx hy Q q => by
  cases hx; cases hy
  exact ⟨m, n, rfl, rfl, q _ H Hs (Gr.refl s) (hg Hs)⟩
variable {m n : Int} {y z : Str}
theorem xp_add (ha : Xp X B Γ a (.int m)) (hb : Xp X B Γ b (.int n)) : Xp X B Γ (.BinOp a .Add b pos) (.int (m + n)) := xp_bin op_add (opd_I0 fun _ => .int _) ha hb
theorem xp_sub (ha : Xp X B Γ a (.int m)) (hb : Xp X B Γ b (.int n)) : Xp X B Γ (.BinOp a .Sub b pos) (.int (m - n)) := xp_bin op_sub (opd_I0 fun _ => .int _) ha hb
theorem xp_mul (ha : Xp X B Γ a (.int m)) (hb : Xp X B Γ b (.int n)) (hc : CMulW m n) : Xp X B Γ (.BinOp a .Mult b pos) (.int (m * n)) := xp_bin op_mulW (opd_I hc fun _ => .int _) ha hb
/-- // by what is not nought -/
def CDivG (_ j : Int) : Prop := j ≠ 0 ∧ j.natAbs.log2 < 9000
theorem op_fdivG : OpR X (binaryOp .FloorDiv) (rI CDivG fun i j => .int (i.fdiv j)) := opI fun i j _ _ _ _ _ hc q => floordiv_int hc.1 q (.inl (PyProof.noPylong_of_log2 hc.2))
theorem xp_fdiv (ha : Xp X B Γ a (.int m)) (hb : Xp X B Γ b (.int n)) (hc : CDivG m n) : Xp X B Γ (.BinOp a .FloorDiv b pos) (.int (m.fdiv n)) := xp_bin op_fdivG (opd_I hc fun _ => .int _) ha hb
theorem xp_mod (ha : Xp X B Γ a (.int m)) (hb : Xp X B Γ b (.int n)) (hc : 0 < n) : Xp X B Γ (.BinOp a .Mod b pos) (.int (m % n)) := xp_bin op_mod (opd_I hc fun _ => .int _) ha hb
theorem xp_pow (ha : Xp X B Γ a (.int m)) (hb : Xp X B Γ b (.int n)) (hc : CPow m n) : Xp X B Γ (.BinOp a .Pow b pos) (.int (m ^ n.toNat)) := xp_bin op_pow (opd_I hc fun _ => .int _) ha hb
theorem xp_adds (ha : Xp X B Γ a (.str y)) (hb : Xp X B Γ b (.str z)) (hc : y.length + z.length ≤ sizeLine) : Xp X B Γ (.BinOp a .Add b pos) (.str (y ++ z)) :=
  xp_bin op_add_str (fun H Hs u v s hx hy Q q => by
    cases hx; cases hy
    exact ⟨y, z, rfl, rfl, hc, q _ H Hs (Gr.refl s) (.str _)⟩) ha hb
theorem xp_neg (ha : Xp X B Γ a (.int m)) : Xp X B Γ (.UnaryOp .USub a pos) (.int (-m)) := xp_of (pe_un un_neg pe_u) (de_un ha fun H Hs u s hx Q q => by
  cases hx
  exact ⟨m, rfl, q _ H Hs (Gr.refl s) (.int _)⟩)
theorem xp_not (ha : Xp X B Γ a (.bool p)) : Xp X B Γ (.UnaryOp .Not a pos) (.bool (!p)) := xp_of (pe_not pe_u) (de_notV ha)
/-! comparisons -/
theorem xp_lt (ha : Xp X B Γ a (.int m)) (hb : Xp X B Γ b (.int n)) : Xp X B Γ (.Compare a [.Lt] [b] pos) (.bool (decide (m < n))) := xp_cmp op_lt (opd_I0 fun _ => .bl _) ha hb (nomark _)
theorem xp_le (ha : Xp X B Γ a (.int m)) (hb : Xp X B Γ b (.int n)) : Xp X B Γ (.Compare a [.LtE] [b] pos) (.bool (decide (m ≤ n))) := xp_cmp op_le (opd_I0 fun _ => .bl _) ha hb (nomark _)
theorem xp_gt (ha : Xp X B Γ a (.int m)) (hb : Xp X B Γ b (.int n)) : Xp X B Γ (.Compare a [.Gt] [b] pos) (.bool (decide (n < m))) := xp_cmp op_gt (opd_I0 fun _ => .bl _) ha hb (nomark _)
theorem xp_ge (ha : Xp X B Γ a (.int m)) (hb : Xp X B Γ b (.int n)) : Xp X B Γ (.Compare a [.GtE] [b] pos) (.bool (decide (n ≤ m))) := xp_cmp op_ge (opd_I0 fun _ => .bl _) ha hb (nomark _)
theorem opd_sc {K : PySem.W.Frag} {rr : R2} {f : V → V → Bool} (hr : ∀ x y H (Q : VK), scal x y = true → Q (.bl (f x y)) H → rr x y H Q) {u v : V} (hs : scal u v = true) (h1 : ∀ H x, Dq K H x d1 → x = u) (h2 : ∀ H x, Dq K H x d2 → x = v) : OpD K rr d1 d2 (.bool (f u v)) :=
  fun H Hs x y s hx hy Q q => by
    cases h1 Hs x hx; cases h2 Hs y hy
    exact hr _ _ H Q hs (q _ H Hs (Gr.refl s) (.bl _))
theorem dq_int {K : PySem.W.Frag} : ∀ H x, Dq K H x (.int m) → x = .int m := fun _ _ h => by cases h; rfl
theorem dq_str {K : PySem.W.Frag} : ∀ H x, Dq K H x (.str y) → x = .str y := fun _ _ h => by cases h; rfl
theorem dq_bl {K : PySem.W.Frag} : ∀ H x, Dq K H x (.bool p) → x = .bl p := fun _ _ h => by cases h; rfl
theorem dq_non {K : PySem.W.Frag} : ∀ H x, Dq K H x .none → x = .non := fun _ _ h => by cases h; rfl
theorem dec_int {i j : Int} : decide (V.int i = V.int j) = decide (i = j) := by by_cases h : i = j <;> simp [h]
theorem dec_str {i j : Str} : decide (V.str i = V.str j) = decide (i = j) := by by_cases h : i = j <;> simp [h]
theorem dec_bl {i j : Bool} : decide (V.bl i = V.bl j) = decide (i = j) := by by_cases h : i = j <;> simp [h]
theorem xp_eqi (ha : Xp X B Γ a (.int m)) (hb : Xp X B Γ b (.int n)) : Xp X B Γ (.Compare a [.Eq] [b] pos) (.bool (decide (m = n))) := by
  rw [← dec_int]
  exact xp_cmp op_eq (opd_sc (f := fun x y => decide (x = y)) (fun _ _ _ _ h q => ⟨h, q⟩) rfl dq_int dq_int) ha hb (nomark _)
theorem xp_nei (ha : Xp X B Γ a (.int m)) (hb : Xp X B Γ b (.int n)) : Xp X B Γ (.Compare a [.NotEq] [b] pos) (.bool (!decide (m = n))) := by
  rw [← dec_int]
  exact xp_cmp op_ne (opd_sc (f := fun x y => !decide (x = y)) (fun _ _ _ _ h q => ⟨h, q⟩) rfl dq_int dq_int) ha hb (nomark _)
theorem xp_eqs (ha : Xp X B Γ a (.str y)) (hb : Xp X B Γ b (.str z)) : Xp X B Γ (.Compare a [.Eq] [b] pos) (.bool (decide (y = z))) := by
  rw [← dec_str]
  exact xp_cmp op_eq (opd_sc (f := fun x y => decide (x = y)) (fun _ _ _ _ h q => ⟨h, q⟩) rfl dq_str dq_str) ha hb (nomark _)
theorem xp_nes (ha : Xp X B Γ a (.str y)) (hb : Xp X B Γ b (.str z)) : Xp X B Γ (.Compare a [.NotEq] [b] pos) (.bool (!decide (y = z))) := by
  rw [← dec_str]
  exact xp_cmp op_ne (opd_sc (f := fun x y => !decide (x = y)) (fun _ _ _ _ h q => ⟨h, q⟩) rfl dq_str dq_str) ha hb (nomark _)
theorem xp_eqb (ha : Xp X B Γ a (.bool p)) (hb : Xp X B Γ b (.bool q)) : Xp X B Γ (.Compare a [.Eq] [b] pos) (.bool (decide (p = q))) := by
  rw [← dec_bl]
  exact xp_cmp op_eq (opd_sc (f := fun x y => decide (x = y)) (fun _ _ _ _ h q => ⟨h, q⟩) rfl dq_bl dq_bl) ha hb (nomark _)
theorem xp_neb (ha : Xp X B Γ a (.bool p)) (hb : Xp X B Γ b (.bool q)) : Xp X B Γ (.Compare a [.NotEq] [b] pos) (.bool (!decide (p = q))) := by
  rw [← dec_bl]
  exact xp_cmp op_ne (opd_sc (f := fun x y => !decide (x = y)) (fun _ _ _ _ h q => ⟨h, q⟩) rfl dq_bl dq_bl) ha hb (nomark _)
/-- what may be compared as data -/
theorem shaped_plain (h : SeqAt.shaped d = true) : d.canLay0 = true := (Bool.and_eq_true_iff.mp h).1
theorem xp_eqd (hu : X.A.units + 64 < cLine) (ha : Xp X B Γ a d1) (hb : Xp X B Γ b d2) (h1 : SeqAt.shaped d1 = true) (h2 : SeqAt.shaped d2 = true) : Xp X B Γ (.Compare a [.Eq] [b] pos) (.bool (PyData.eqv d1 d2)) :=
  xp_cmp (op_eqD hu) (fun H Hs u v s hx hy Q q => ⟨d1, d2, (dp_sub s hx).plain (shaped_plain h1), (dp_sub s hy).plain (shaped_plain h2), h1, h2, q _ H Hs (Gr.refl s) (.bl _)⟩) ha hb (nomark _)
theorem xp_ned (hu : X.A.units + 64 < cLine) (ha : Xp X B Γ a d1) (hb : Xp X B Γ b d2) (h1 : SeqAt.shaped d1 = true) (h2 : SeqAt.shaped d2 = true) : Xp X B Γ (.Compare a [.NotEq] [b] pos) (.bool (!PyData.eqv d1 d2)) :=
  xp_cmp (op_neD hu) (fun H Hs u v s hx hy Q q => ⟨d1, d2, (dp_sub s hx).plain (shaped_plain h1), (dp_sub s hy).plain (shaped_plain h2), h1, h2, q _ H Hs (Gr.refl s) (.bl _)⟩) ha hb (nomark _)
def isNone : PyData → Bool
  | .none => true
  | _ => false
theorem isNone_v {K : PySem.W.Frag} {H : Hp} {v : V} (h : Dq K H v d) : decide (v = .non) = isNone d := by cases h <;> rfl
theorem xp_isN {k p2} (ha : Xp X B Γ a d) : Xp X B Γ (.Compare a [.Is] [.Constant .none k p2] pos) (.bool (isNone d)) :=
  xp_cmp (d2 := .none) op_isN (fun H Hs u v s hx hy Q q => by
    cases hy
    refine ⟨rfl, ?_⟩
    rw [isNone_v hx]
    exact q _ H Hs (Gr.refl s) (.bl _)) ha xp_non (nomark _)
theorem xp_notN {k p2} (ha : Xp X B Γ a d) : Xp X B Γ (.Compare a [.IsNot] [.Constant .none k p2] pos) (.bool (!isNone d)) :=
  xp_cmp (d2 := .none) op_notN (fun H Hs u v s hx hy Q q => by
    cases hy
    refine ⟨rfl, ?_⟩
    rw [isNone_v hx]
    exact q _ H Hs (Gr.refl s) (.bl _)) ha xp_non (nomark _)
theorem xp_isB (ha : Xp X B Γ a (.bool p)) (hb : Xp X B Γ b (.bool q)) : Xp X B Γ (.Compare a [.Is] [b] pos) (.bool (decide (p = q))) :=
  xp_cmp op_is_bl (fun H Hs u v s hx hy Q q => by
    cases hx; cases hy
    exact ⟨_, _, rfl, rfl, q _ H Hs (Gr.refl s) (.bl _)⟩) ha hb (nomark _)
theorem xp_notB (ha : Xp X B Γ a (.bool p)) (hb : Xp X B Γ b (.bool q)) : Xp X B Γ (.Compare a [.IsNot] [b] pos) (.bool (!decide (p = q))) :=
  xp_cmp op_isnot_bl (fun H Hs u v s hx hy Q q => by
    cases hx; cases hy
    exact ⟨_, _, rfl, rfl, q _ H Hs (Gr.refl s) (.bl _)⟩) ha hb (nomark _)
/-- x in (..), x flat, among flat things -/
def flatD : PyData → Bool
  | .none => true
  | .bool _ => true
  | .int _ => true
  | .str _ => true
  | _ => false
def vOf : PyData → V
  | .bool b => .bl b
  | .int i => .int i
  | .str s => .str s
  | _ => .non
theorem vOf_eq {K : PySem.W.Frag} {H : Hp} {v : V} (h : Dq K H v d) (f : flatD d = true) : v = vOf d := by
  cases h <;> first | rfl | cases f
theorem vOf_all {K : PySem.W.Frag} {H : Hp} : ∀ {vs : List V} {ds : List PyData}, DqAll K H vs ds → ds.all flatD = true → vs = ds.map vOf
  | _, _, .nil, _ => rfl
  | _, _, @DqAll.cons _ _ v vs d ds h a, f => by
    rw [List.all_cons, Bool.and_eq_true] at f
    rw [vOf_eq h f.1, vOf_all a f.2]; rfl
theorem flatV_of : ∀ {d : PyData}, flatD d = true → flatV (vOf d) = true
  | .none, _ => rfl
  | .bool _, _ => rfl
  | .int _, _ => rfl
  | .str _, _ => rfl
  | .list _, h => nomatch h
  | .tuple _, h => nomatch h
  | .dict _, h => nomatch h
theorem flatV_all {ds : List PyData} (h : ds.all flatD = true) : (ds.map vOf).all flatV = true := by
  rw [List.all_eq_true] at h ⊢
  intro v hv
  obtain ⟨d, hd, rfl⟩ := List.mem_map.mp hv
  exact flatV_of (h d hd)
def inD (d : PyData) (ds : List PyData) : Bool := inV (vOf d) (ds.map vOf)
theorem opd_in {K : PySem.W.Frag} {neg : Bool} (f : flatD d1 = true) (g : ds.all flatD = true) (hd : d2 = .list ds ∨ d2 = .tuple ds) : OpD K (rIn K neg) d1 d2 (.bool (if neg then !inD d1 ds else inD d1 ds)) := fun H Hs u v s hx hy Q q => by
  rcases hd with rfl | rfl
  · cases hy with
    | lst hq ha =>
      cases vOf_eq hx f
      cases vOf_all ha g
      exact ⟨_, _, rfl, .inl (sub_l s hq), flatV_of f, flatV_all g, q _ H Hs (Gr.refl s) (.bl _)⟩
  · cases hy with
    | tup hq ha =>
      cases vOf_eq hx f
      cases vOf_all ha g
      exact ⟨_, _, rfl, .inr (sub_t s hq), flatV_of f, flatV_all g, q _ H Hs (Gr.refl s) (.bl _)⟩
theorem xp_inL (hm : behindInMarks .In b = false) (ha : Xp X B Γ a d) (hb : Xp X B Γ b (.list ds)) (f : flatD d = true) (g : ds.all flatD = true) : Xp X B Γ (.Compare a [.In] [b] pos) (.bool (inD d ds)) := xp_cmp op_in_seq (opd_in (neg := false) f g (.inl rfl)) ha hb hm
theorem xp_inT (hm : behindInMarks .In b = false) (ha : Xp X B Γ a d) (hb : Xp X B Γ b (.tuple ds)) (f : flatD d = true) (g : ds.all flatD = true) : Xp X B Γ (.Compare a [.In] [b] pos) (.bool (inD d ds)) := xp_cmp op_in_seq (opd_in (neg := false) f g (.inr rfl)) ha hb hm
theorem xp_ninL (hm : behindInMarks .NotIn b = false) (ha : Xp X B Γ a d) (hb : Xp X B Γ b (.list ds)) (f : flatD d = true) (g : ds.all flatD = true) : Xp X B Γ (.Compare a [.NotIn] [b] pos) (.bool (!inD d ds)) := xp_cmp op_notIn_seq (opd_in (neg := true) f g (.inl rfl)) ha hb hm
theorem xp_ninT (hm : behindInMarks .NotIn b = false) (ha : Xp X B Γ a d) (hb : Xp X B Γ b (.tuple ds)) (f : flatD d = true) (g : ds.all flatD = true) : Xp X B Γ (.Compare a [.NotIn] [b] pos) (.bool (!inD d ds)) := xp_cmp op_notIn_seq (opd_in (neg := true) f g (.inr rfl)) ha hb hm
theorem xp_inS {k : Nat} (hm : behindInMarks .In b = false) (ha : Xp X B Γ a (.str ⟨#[k]⟩)) (hb : Xp X B Γ b (.str z)) : Xp X B Γ (.Compare a [.In] [b] pos) (.bool (decide (k ∈ z.cps.toList))) := xp_cmp op_in_sign (fun H Hs u v s hx hy Q q => by
  cases hx; cases hy
  exact ⟨k, z, rfl, rfl, q _ H Hs (Gr.refl s) (.bl _)⟩) ha hb hm
theorem xp_ninS {k : Nat} (hm : behindInMarks .NotIn b = false) (ha : Xp X B Γ a (.str ⟨#[k]⟩)) (hb : Xp X B Γ b (.str z)) : Xp X B Γ (.Compare a [.NotIn] [b] pos) (.bool (!decide (k ∈ z.cps.toList))) := xp_cmp op_notIn_sign (fun H Hs u v s hx hy Q q => by
  cases hx; cases hy
  exact ⟨k, z, rfl, rfl, q _ H Hs (Gr.refl s) (.bl _)⟩) ha hb hm
/-! ### and, or, if -/
theorem xp_one {op} (h : Xp X B Γ a d) : Xp X B Γ (.BoolOp op [a] pos) d := xp_of (pe_one pe_u) h
theorem xp_and (h1 : Xp X B Γ a (.bool p)) (h2 : p = true → Xp X B Γ (.BoolOp .And (b :: es) pos) (.bool q)) : Xp X B Γ (.BoolOp .And (a :: b :: es) pos) (.bool (p && q)) := xp_of (pe_and pe_u pe_u) (de_andV h1 h2)
theorem xp_or (h1 : Xp X B Γ a (.bool p)) (h2 : p = false → Xp X B Γ (.BoolOp .Or (b :: es) pos) (.bool q)) : Xp X B Γ (.BoolOp .Or (a :: b :: es) pos) (.bool (p || q)) := xp_of (pe_or pe_u pe_u) (de_orV h1 h2)
theorem xt_val (he : ∀ whole, isTrue e X.env whole = (do let v ← whole; standAt e.pos; holding [v] (truthy v))) (h : Xp X B Γ e (.bool p)) : Xt X B Γ e p := xt_of (pt_val pe_u he) (dt_B h)
theorem xt_not (h : Xt X B Γ a p) : Xt X B Γ (.UnaryOp .Not a pos) (!p) := xt_of (pt_not pt_u) (dt_not h)
theorem xw_and1 (h : Xt X B Γ a p) : Xw X B Γ (.BoolOp .And [a] pos) p := xw_of (pw_and1 pt_u) h
theorem xw_or1 (h : Xt X B Γ a p) : Xw X B Γ (.BoolOp .Or [a] pos) p := xw_of (pw_or1 pt_u) h
theorem xw_and (h1 : Xt X B Γ a p) (h2 : p = true → Xw X B Γ (.BoolOp .And (b :: es) pos) q) : Xw X B Γ (.BoolOp .And (a :: b :: es) pos) (p && q) := xw_of (pw_and pt_u pw_u) (dt_and h1 h2)
theorem xw_or (h1 : Xt X B Γ a p) (h2 : p = false → Xw X B Γ (.BoolOp .Or (b :: es) pos) q) : Xw X B Γ (.BoolOp .Or (a :: b :: es) pos) (p || q) := xw_of (pw_or pt_u pw_u) (dt_or h1 h2)
theorem xt_w {op} (h : Xw X B Γ (.BoolOp op es pos) p) : Xt X B Γ (.BoolOp op es pos) p := xt_of pw_u.pt h
/-- the truth of data -/
def truD : PyData → Bool
  | .none => false
  | .bool b => b
  | .int i => i != 0
  | .str y => (y.length : Int) != 0
  | .list xs => !xs.isEmpty
  | .tuple xs => !xs.isEmpty
  | .dict kvs => !kvs.isEmpty
def truOk : PyData → Prop
  | .str y => y.length ≤ sizeLine
  | .dict _ => False
  | _ => True
theorem isEmpty_dq {K : PySem.W.Frag} {H : Hp} {vs : List V} (h : DqAll K H vs ds) : vs.isEmpty = ds.isEmpty := by cases h <;> rfl
theorem xt_tru (he : ∀ whole, isTrue e X.env whole = (do let v ← whole; standAt e.pos; holding [v] (truthy v))) (h : Xp X B Γ e d) (ok : truOk d) : Xt X B Γ e (truD d) := xt_of (pt_truth pe_u he) fun H Hs σ E Q q => h H Hs σ E _ fun v H1 Hs1 g1 p1 => by
  refine ⟨truD d, ?_, q H1 Hs1 g1⟩
  cases p1 with
  | non => exact rfl
  | bl b => exact rfl
  | int i => exact rfl
  | str y => exact ⟨ok, rfl⟩
  | lst hq ha => exact .inl ⟨_, sub_l g1.sub hq, by rw [isEmpty_dq ha]; rfl⟩
  | tup hq ha => exact .inr (.inl ⟨_, sub_t g1.sub hq, by rw [isEmpty_dq ha]; rfl⟩)
  | dic _ _ => exact False.elim ok
theorem xp_if (h : Xt X B Γ c p) (h1 : p = true → Xp X B Γ a d) (h2 : p = false → Xp X B Γ b d) : Xp X B Γ (.IfExp c a b pos) d := xp_of (pe_ifExp pt_u pe_u pe_u) (de_if h h1 h2)
/-! ### arguments, displays -/
theorem xa_nil : Xa X B Γ [] [] := xa_of pa_nil da_nil
theorem xa_cons (hs : starEach (e :: es) X.env = (false, eval e X.env) :: starEach es X.env) (h : Xp X B Γ e d) (hr : Xa X B Γ es ds) : Xa X B Γ (e :: es) (d :: ds) := xa_of (pa_cons pe_u pa_u hs) (da_cons h hr)
theorem xp_tup {x1} (h : Xa X B Γ es ds) (hl : ds.length ≤ sizeLine) : Xp X B Γ (.Tuple es x1 pos) (.tuple ds) := xp_of (pe_tup pa_u) (de_tup h hl)
theorem xl_lst (h : Xa X B Γ es ds) (hl : ds.length ≤ sizeLine) : Xl X B Γ (.List es pos) ds := xl_of (pe_lst pa_u) (dl_lst h hl)
/-! ### subscripts -/
theorem opd_ixL {K : PySem.W.Frag} {i : Int} (h : atI ds i = some d) : OpD K (rIxL K) (.list ds) (.int i) d := fun H Hs x y s hx hy Q q => by
  cases hy
  cases hx with
  | lst hq ha =>
    unfold atI at h
    cases e : ixN ds.length i with
    | none => rw [e] at h; cases h
    | some j =>
      rw [e] at h
      obtain ⟨v, hv, pv⟩ := ha.get h
      exact ⟨_, _, i, v, rfl, rfl, sub_l s hq, by unfold atI; rw [ha.length, e]; exact hv, q v H Hs (Gr.refl s) pv⟩
theorem opd_ixT {K : PySem.W.Frag} {i : Int} (h : atI ds i = some d) : OpD K (rIxT K) (.tuple ds) (.int i) d := fun H Hs x y s hx hy Q q => by
  cases hy
  cases hx with
  | tup hq ha =>
    unfold atI at h
    cases e : ixN ds.length i with
    | none => rw [e] at h; cases h
    | some j =>
      rw [e] at h
      obtain ⟨v, hv, pv⟩ := ha.get h
      exact ⟨_, _, i, v, rfl, rfl, sub_t s hq, by unfold atI; rw [ha.length, e]; exact hv, q v H Hs (Gr.refl s) pv⟩
theorem xp_ixL {i : Int} (hs : PlainIx b) (ha : Xp X B Γ a (.list ds)) (hb : Xp X B Γ b (.int i)) (h : atI ds i = some d) : Xp X B Γ (.Subscript a b pos) d := xp_of (pe_ix ix_list pe_u pe_u hs) (de_op ha hb (opd_ixL h))
theorem xp_ixT {i : Int} (hs : PlainIx b) (ha : Xp X B Γ a (.tuple ds)) (hb : Xp X B Γ b (.int i)) (h : atI ds i = some d) : Xp X B Γ (.Subscript a b pos) d := xp_of (pe_ix ix_tup pe_u pe_u hs) (de_op ha hb (opd_ixT h))
theorem xp_ixS {i : Int} {k : Nat} (hs : PlainIx b) (ha : Xp X B Γ a (.str y)) (hb : Xp X B Γ b (.int i)) (hz : y.length ≤ sizeLine) (h : atI y.cps.toList i = some k) : Xp X B Γ (.Subscript a b pos) (.str ⟨#[k]⟩) :=
  xp_of (pe_ix ix_str pe_u pe_u hs) (de_op ha hb fun H Hs u v s hx hy Q q => by
    cases hx; cases hy
    exact ⟨y, i, k, rfl, rfl, hz, h, q _ H Hs (Gr.refl s) (.str _)⟩)
/-- the part of a slice -/
def DO (K : PySem.W.Frag) (B : Bs) (t : TO) (Γ : Gm) (o : Option Int) : Prop := ∀ H Hs σ, Enb K B H Hs σ Γ → ∀ Q : Option Int → Hp → Prop, (∀ H' Hs', Gr H Hs H' Hs' → Q o H') → t σ H Q
def uO (X : Cx) (e : Option Expr) : TO := fun σ H Q => ∃ t, PO X e t ∧ t σ H Q
theorem po_u {X : Cx} {e : Option Expr} : PO X e (uO X e) := ⟨fun pins s σ H Q I ⟨_, p, h⟩ => p.run pins s σ H Q I h⟩
def Xo (X : Cx) (B : Bs) (Γ : Gm) (e : Option Expr) (o : Option Int) : Prop := DO X.K B (uO X e) Γ o
theorem xo_none : Xo X B Γ none none := fun H Hs σ E Q q => ⟨_, po_none, q H Hs (Gr.refl E.sub)⟩
theorem xo_some {i : Int} (h : Xp X B Γ e (.int i)) : Xo X B Γ (some e) (some i) := fun H Hs σ E Q q => ⟨_, po_some pe_u, h H Hs σ E _ fun v H1 Hs1 g1 p1 => by
  cases p1
  exact ⟨i, rfl, q H1 Hs1 g1⟩⟩
def cutD (xs : List PyData) (lo hi : Option Int) : List PyData := (xs.drop (HT.sIx xs.length 0 lo)).take (HT.sIx xs.length xs.length hi - HT.sIx xs.length 0 lo)
theorem xl_sl {lo hi : Option Expr} {l h : Option Int} {p2 : Pos} (he : Xp X B Γ e (.list ds)) (hl : Xo X B Γ lo l) (hh : Xo X B Γ hi h) : Xl X B Γ (.Subscript e (.Slice lo hi none p2) pos) (cutD ds l h) :=
  xl_of (pe_slice sl_list pe_u po_u po_u) fun H Hs σ E Q q => he H Hs σ E _ fun v H1 Hs1 g1 p1 => hl H1 Hs1 σ (E.grow g1) _ fun H2 Hs2 g2 => hh H2 Hs2 σ ((E.grow g1).grow g2) _ fun H3 Hs3 g3 => by
    have gg := (g1.trans g2).trans g3
    cases p1 with
    | lst hq ha =>
      refine ⟨_, _, rfl, sub_l gg.sub (ext_l g3.exs (ext_l g2.exs hq)), fun p n => dl_new gg q n ?_⟩
      have a3 := (ha.mono g2.exs).mono g3.exs
      unfold cutV cutD
      rw [ha.length]
      exact (a3.drop _).take _
theorem xp_slS {lo hi : Option Expr} {l h : Option Int} {p2 : Pos} (he : Xp X B Γ e (.str y)) (hz : y.length ≤ sizeLine) (hl : Xo X B Γ lo l) (hh : Xo X B Γ hi h) : Xp X B Γ (.Subscript e (.Slice lo hi none p2) pos) (.str (cutS y l h)) :=
  xp_of (pe_slice sl_str pe_u po_u po_u) fun H Hs σ E Q q => he H Hs σ E _ fun v H1 Hs1 g1 p1 => hl H1 Hs1 σ (E.grow g1) _ fun H2 Hs2 g2 => hh H2 Hs2 σ ((E.grow g1).grow g2) _ fun H3 Hs3 g3 => by
    cases p1
    exact ⟨y, rfl, hz, q _ H3 Hs3 ((g1.trans g2).trans g3) (.str _)⟩
end
end Dl
set_option Elab.async false
set_option linter.all false
set_option maxRecDepth 100000
set_option maxHeartbeats 2000000
namespace Dl
open PySem L2 PyProof.Rows
variable [Tabs]
section
variable {X : Cx} {B : Bs} {Γ : Gm} {e a b c : Expr} {es : List Expr} {s st : Stmt} {ss rest : List Stmt} {d d1 d2 : PyData} {ds : List PyData} {P : Out → Prop} {pos : Pos} {x : Str} {i : Nat} {p q r : Bool} {m n : Int} {y z : Str}
/-! ### list + list, tuple + tuple -/
def rCatG (K : PySem.W.Frag) : R2 := fun x y H Q => ∃ l b xs zs, x = .ref l ∧ y = .ref b ∧ SqL K H l xs ∧ SqL K H b zs ∧ xs.length + zs.length ≤ sizeLine ∧ ∀ p, H p = none → Q (.ref p) (upd H p (.lst (xs ++ zs)))
theorem op_catG : OpR X (binaryOp .Add) (rCatG X.K) := by
  intro pins s σ H x y v u Q I rx ry h
  obtain ⟨l, b, xs, zs, rfl, rfl, hH, hB, hz, q⟩ := h
  cases rx
  cases ry
  obtain ⟨its, r, ⟨⟨cls, dd, data, sl⟩, n, ho, hc, hdd, hd⟩, z1⟩ := I.list hH
  obtain ⟨its2, r2, ⟨⟨cls2, dd2, data2, sl2⟩, n2, ho2, hc2, hdd2, hd2⟩, z2⟩ := I.list hB
  simp only at hc hd hc2 hd2 hdd hdd2
  subst hc hd hc2 hd2 hdd hdd2
  have e : its.toArray ++ its2.toArray = (its ++ its2).toArray := by simp
  refine concat_meets ⟨_, ho, rfl⟩ ⟨_, ho2, rfl⟩ noFill_list_add seq_list_add PySem.F.slot_list_add PySem.F.entry_list_add (PySem.F.args_list_add_2 _ _) (list_addW l b its.toArray its2.toArray n n2 none none sl sl2 (by rw [List.size_toArray, List.size_toArray, ← r.length, ← r2.length]; exact hz)) ⟨ho, ho2, ?_⟩
  rw [e]
  exact ⟨.ref _, _, I.lnew (t' := s.toks) (r.append r2) (by rw [List.length_append]; omega), rfl, q _ I.fresh⟩
theorem xl_cat {es1 es2 : List PyData} (ha : Xp X B Γ a (.list es1)) (hb : Xp X B Γ b (.list es2)) (hz : es1.length + es2.length ≤ sizeLine) : Xl X B Γ (.BinOp a .Add b pos) (es1 ++ es2) :=
  xl_of (pe_op op_catG pe_u pe_u) fun H Hs σ E Q q => ha H Hs σ E _ fun v H1 Hs1 g1 p1 => hb H1 Hs1 σ (E.grow g1) _ fun u H2 Hs2 g2 p2 => by
    cases p1.mono g2.exs with
    | lst h1 a1 =>
      cases p2 with
      | lst h2 a2 => exact ⟨_, _, _, _, rfl, rfl, sub_l g2.sub h1, sub_l g2.sub h2, by rw [a1.length, a2.length]; exact hz, fun p n => dl_new (g1.trans g2) q n (a1.app a2)⟩
theorem xp_catT {es1 es2 : List PyData} (ha : Xp X B Γ a (.tuple es1)) (hb : Xp X B Γ b (.tuple es2)) (hz : es1.length + es2.length ≤ sizeLine) : Xp X B Γ (.BinOp a .Add b pos) (.tuple (es1 ++ es2)) :=
  xp_of (pe_op op_catA pe_u pe_u) (de_op ha hb fun H Hs u v s hx hy Q q => by
    cases hx with
    | @tup a1 xs _ h1 a1' =>
      cases hy with
      | @tup a2 ys _ h2 a2' =>
        refine ⟨_, _, _, _, rfl, rfl, sub_t s h1, sub_t s h2, by rw [a1'.length, a2'.length]; exact hz, fun e1 => ?_, fun e1 e2 => ?_, fun e1 e2 p n => ?_⟩
        · subst e1
          cases a1'
          exact q _ H Hs (Gr.refl s) (.tup h2 a2')
        · subst e2
          cases a2'
          rw [List.append_nil] at q
          exact q _ H Hs (Gr.refl s) (.tup h1 a1')
        · exact q _ _ _ ((Gr.refl s).share n) (.tup (SqT.of upd_same) ((a1'.app a2').mono (Ext.new ((Gr.refl s).hsn n)))))
/-! ### calls of built-ins -/
theorem boot_len' : bootBuiltins ("len" : Str) = some (.builtin "len") := PySem.boot_len
theorem xp_cb {id : String} {rr : List V → Hp → VK → Prop} {p' : Pos} (hc : CallR X (.builtin id) rr) (hb : Bi X x) (hv : bootBuiltins x = some (.builtin id)) (hn : x ≠ "__name__") (hd : (x == ("__debug__" : Str)) = false) (he : starEach (e :: es) X.env = (false, eval e X.env) :: starEach es X.env) (hpl : (backTo pos (starEach es X.env)).any (·.1) = false)
    (ha : Xa X B Γ (e :: es) ds) (hr : CbD X.K rr ds d) : Xp X B Γ (.Call (.Name x p') (e :: es) [] pos) d := xp_of (pe_callB hc hb.gl hb.no hv pa_u hn hd he hpl) (de_cb ha hr)
theorem xl_cb {id : String} {rr : List V → Hp → VK → Prop} {p' : Pos} {es' : List PyData} (hc : CallR X (.builtin id) rr) (hb : Bi X x) (hv : bootBuiltins x = some (.builtin id)) (hn : x ≠ "__name__") (hd : (x == ("__debug__" : Str)) = false) (he : starEach (e :: es) X.env = (false, eval e X.env) :: starEach es X.env) (hpl : (backTo pos (starEach es X.env)).any (·.1) = false)
    (ha : Xa X B Γ (e :: es) es') (hr : CbL X.K rr es' ds) : Xl X B Γ (.Call (.Name x p') (e :: es) [] pos) ds := xl_of (pe_callB hc hb.gl hb.no hv pa_u hn hd he hpl) (dl_cb ha hr)
theorem xp_ct {id : String} {rr : List V → Hp → VK → Prop} {p' : Pos} (hc : CallR X (.type id) rr) (hb : Bi X x) (hv : bootBuiltins x = some (.type id)) (hn : x ≠ "__name__") (hd : (x == ("__debug__" : Str)) = false) (he : starEach (e :: es) X.env = (false, eval e X.env) :: starEach es X.env) (hpl : (backTo pos (starEach es X.env)).any (·.1) = false)
    (ha : Xa X B Γ (e :: es) ds) (hr : CbD X.K rr ds d) : Xp X B Γ (.Call (.Name x p') (e :: es) [] pos) d := xp_of (pe_callTy hc hb.gl hb.no hv pa_u hn hd he hpl) (de_cb ha hr)
theorem xl_ct {id : String} {rr : List V → Hp → VK → Prop} {p' : Pos} {es' : List PyData} (hc : CallR X (.type id) rr) (hb : Bi X x) (hv : bootBuiltins x = some (.type id)) (hn : x ≠ "__name__") (hd : (x == ("__debug__" : Str)) = false) (he : starEach (e :: es) X.env = (false, eval e X.env) :: starEach es X.env) (hpl : (backTo pos (starEach es X.env)).any (·.1) = false)
    (ha : Xa X B Γ (e :: es) es') (hr : CbL X.K rr es' ds) : Xl X B Γ (.Call (.Name x p') (e :: es) [] pos) ds := xl_of (pe_callTy hc hb.gl hb.no hv pa_u hn hd he hpl) (dl_cb ha hr)
theorem cb1 {K : PySem.W.Frag} {rr : List V → Hp → VK → Prop} (h : ∀ H Hs x, (∀ a o, Hs a = some o → H a = some o) → Dq K Hs x d1 → ∀ Q : VK, (∀ v H' Hs', Gr H Hs H' Hs' → Dq K Hs' v d → Q v H') → rr [x] H Q) : CbD K rr [d1] d := fun H Hs xs s a Q q => by
  cases a with
  | cons a1 a2 => cases a2; exact h H Hs _ s a1 Q q
theorem cb2 {K : PySem.W.Frag} {rr : List V → Hp → VK → Prop} (h : ∀ H Hs x y, (∀ a o, Hs a = some o → H a = some o) → Dq K Hs x d1 → Dq K Hs y d2 → ∀ Q : VK, (∀ v H' Hs', Gr H Hs H' Hs' → Dq K Hs' v d → Q v H') → rr [x, y] H Q) : CbD K rr [d1, d2] d := fun H Hs xs s a Q q => by
  cases a with
  | cons a1 a2 =>
    cases a2 with
    | cons a2 a3 => cases a3; exact h H Hs _ _ s a1 a2 Q q
/-- what the call rules ask of the written arguments -/
abbrev St1 (X : Cx) (e : Expr) (es : List Expr) : Prop := starEach (e :: es) X.env = (false, eval e X.env) :: starEach es X.env
abbrev Pl1 (X : Cx) (pos : Pos) (es : List Expr) : Prop := (backTo pos (starEach es X.env)).any (·.1) = false
variable {p' : Pos}
theorem xp_lenL (hb : Bi X "len") (he : St1 X e []) (hp : Pl1 X pos []) (h : Xp X B Γ e (.list ds)) : Xp X B Γ (.Call (.Name "len" p') [e] [] pos) (.int ds.length) :=
  xp_cb call_len_seq hb PySem.boot_len (by decide) (by decide) he hp (xa_cons he h xa_nil) (cb1 fun H Hs x s hx Q q => by
    cases hx with
    | lst hq ha => exact ⟨_, _, rfl, .inl (sub_l s hq), by rw [ha.length]; exact q _ H Hs (Gr.refl s) (.int _)⟩)
theorem xp_lenT (hb : Bi X "len") (he : St1 X e []) (hp : Pl1 X pos []) (h : Xp X B Γ e (.tuple ds)) : Xp X B Γ (.Call (.Name "len" p') [e] [] pos) (.int ds.length) :=
  xp_cb call_len_seq hb PySem.boot_len (by decide) (by decide) he hp (xa_cons he h xa_nil) (cb1 fun H Hs x s hx Q q => by
    cases hx with
    | tup hq ha => exact ⟨_, _, rfl, .inr (sub_t s hq), by rw [ha.length]; exact q _ H Hs (Gr.refl s) (.int _)⟩)
theorem xp_lenS (hb : Bi X "len") (he : St1 X e []) (hp : Pl1 X pos []) (h : Xp X B Γ e (.str y)) (hz : y.length ≤ sizeLine) : Xp X B Γ (.Call (.Name "len" p') [e] [] pos) (.int y.length) :=
  xp_cb call_len_str hb PySem.boot_len (by decide) (by decide) he hp (xa_cons he h xa_nil) (cb1 fun H Hs x s hx Q q => by
    cases hx
    exact ⟨y, rfl, hz, q _ H Hs (Gr.refl s) (.int _)⟩)
/-- len of one's own list -/
theorem xp_lenO (hb : Bi X "len") {p2 : Pos} (he : St1 X (.Name x p2) []) (hp : Pl1 X pos []) (h : Rk X i x) (k : Γ[i]? = some (.ow ds)) : Xp X B Γ (.Call (.Name "len" p') [.Name x p2] [] pos) (.int ds.length) :=
  xp_of (pe_callB call_len_seq hb.gl hb.no PySem.boot_len (pa_cons (pe_var h.ix h.vis h.d1 h.d2) pa_nil he) (by decide) (by decide) he hp) fun H Hs σ E Q q => by
    obtain ⟨l, xs, e1, h1, h2, _, _⟩ := E.ow k
    exact ⟨.ref l, e1, l, xs, rfl, .inl (SqL.of h1), by rw [h2.length]; exact q _ H Hs (Gr.refl E.sub) (.int _)⟩
theorem xp_abs (hb : Bi X "abs") (he : St1 X e []) (hp : Pl1 X pos []) (h : Xp X B Γ e (.int m)) : Xp X B Γ (.Call (.Name "abs" p') [e] [] pos) (.int (if m < 0 then -m else m)) :=
  xp_cb call_abs hb (by decide +kernel) (by decide) (by decide) he hp (xa_cons he h xa_nil) (cb1 fun H Hs x s hx Q q => by
    cases hx
    exact ⟨m, rfl, q _ H Hs (Gr.refl s) (.int _)⟩)
theorem xp_min (hc : X.calm = true) (hb : Bi X "min") (he : St1 X e [a]) (he2 : St1 X a []) (hp : Pl1 X pos [a]) (h : Xp X B Γ e (.int m)) (h2 : Xp X B Γ a (.int n)) : Xp X B Γ (.Call (.Name "min" p') [e, a] [] pos) (.int (if n < m then n else m)) :=
  xp_cb (call_min2 hc) hb (by decide +kernel) (by decide) (by decide) he hp (xa_cons he h (xa_cons he2 h2 xa_nil)) (cb2 fun H Hs x y s hx hy Q q => by
    cases hx; cases hy
    exact ⟨m, n, rfl, q _ H Hs (Gr.refl s) (.int _)⟩)
theorem xp_max (hc : X.calm = true) (hb : Bi X "max") (he : St1 X e [a]) (he2 : St1 X a []) (hp : Pl1 X pos [a]) (h : Xp X B Γ e (.int m)) (h2 : Xp X B Γ a (.int n)) : Xp X B Γ (.Call (.Name "max" p') [e, a] [] pos) (.int (if n > m then n else m)) :=
  xp_cb (call_max2 hc) hb (by decide +kernel) (by decide) (by decide) he hp (xa_cons he h (xa_cons he2 h2 xa_nil)) (cb2 fun H Hs x y s hx hy Q q => by
    cases hx; cases hy
    exact ⟨m, n, rfl, q _ H Hs (Gr.refl s) (.int _)⟩)
theorem xp_strI (hb : Bi X "str") (he : St1 X e []) (hp : Pl1 X pos []) (h : Xp X B Γ e (.int m)) (hz : m.natAbs.log2 < 1920) : Xp X B Γ (.Call (.Name "str" p') [e] [] pos) (.str (toString m)) :=
  xp_ct call_str_int hb (by decide +kernel) (by decide) (by decide) he hp (xa_cons he h xa_nil) (cb1 fun H Hs x s hx Q q => by
    cases hx
    exact ⟨m, rfl, hz, q _ H Hs (Gr.refl s) (.str _)⟩)
theorem xp_intS (hb : Bi X "int") (he : St1 X e []) (hp : Pl1 X pos []) (h : Xp X B Γ e (.str y)) (hn : PySem.intText? y = some m) (hz : y.length ≤ 640) : Xp X B Γ (.Call (.Name "int" p') [e] [] pos) (.int m) :=
  xp_ct call_int_str hb (by decide +kernel) (by decide) (by decide) he hp (xa_cons he h xa_nil) (cb1 fun H Hs x s hx Q q => by
    cases hx
    exact ⟨y, m, rfl, hn, hz, q _ H Hs (Gr.refl s) (.int _)⟩)
theorem xp_intB (hb : Bi X "int") (he : St1 X e []) (hp : Pl1 X pos []) (h : Xp X B Γ e (.bool p)) : Xp X B Γ (.Call (.Name "int" p') [e] [] pos) (.int (if p then 1 else 0)) :=
  xp_ct call_int1 hb (by decide +kernel) (by decide) (by decide) he hp (xa_cons he h xa_nil) (cb1 fun H Hs x s hx Q q => by
    cases hx
    exact .inr ⟨p, rfl, q _ H Hs (Gr.refl s) (.int _)⟩)
/-- sorted of ints: the one list in order -/
theorem perm_sorted {l l' : List Int} (h : l.Perm l') (h1 : l.Pairwise (· ≤ ·)) (h2 : l'.Pairwise (· ≤ ·)) : l = l' := h.eq_of_pairwise (fun a b _ _ h1 h2 => Int.le_antisymm h1 h2) h1 h2
theorem xl_sortI {ns ms : List Int} (hb : Bi X "sorted") (he : St1 X e []) (hp : Pl1 X pos []) (h : Xp X B Γ e (.list (ns.map .int))) (hz : ns.length < 64) (hm : ms.Perm ns) (hs : ms.Pairwise (· ≤ ·)) : Xl X B Γ (.Call (.Name "sorted" p') [e] [] pos) (ms.map .int) :=
  xl_cb cr_sorted hb (by decide +kernel) (by decide) (by decide) he hp (xa_cons he h xa_nil) fun H Hs xs s a Q q => by
    cases a with
    | cons a1 a2 =>
      cases a2
      cases a1 with
      | lst hq ha =>
        have e1 := ha.ints_inv
        subst e1
        refine ⟨_, ns, rfl, sub_l s hq, hz, fun ns' p hp' hs' n => ?_⟩
        cases perm_sorted (hp'.trans hm.symm) hs' hs
        exact q p _ n (.ints _)
theorem xp_gcd (hg : Gl X x) (hm : X.mg x = some (.builtin "math.gcd")) (hd : (x == ("__debug__" : Str)) = false) (he : St1 X e [a]) (he2 : St1 X a []) (hp : Pl1 X pos [a]) (h : Xp X B Γ e (.int m)) (h2 : Xp X B Γ a (.int n)) : Xp X B Γ (.Call (.Name x p') [e, a] [] pos) (.int ((Nat.gcd m.natAbs n.natAbs : Nat) : Int)) :=
  xp_of (pe_callBfun cr_gcd hg hm pa_u hd he hp) (de_cb (xa_cons he h (xa_cons he2 h2 xa_nil)) (cb2 fun H Hs x y s hx hy Q q => by
    cases hx; cases hy
    exact ⟨m, n, rfl, q _ H Hs (Gr.refl s) (.int _)⟩))
/-! isinstance -/
def tyD : PyData → String
  | .none => "NoneType"
  | .bool _ => "bool"
  | .int _ => "int"
  | .str _ => "str"
  | .list _ => "list"
  | .tuple _ => "tuple"
  | .dict _ => "dict"
theorem tyX_of {K : PySem.W.Frag} {H Hs : Hp} {v : V} (s : ∀ a o, Hs a = some o → H a = some o) (h : Dq K Hs v d) : TyX K H v (.type (tyD d)) := by
  cases h with
  | non => exact .base .non
  | bl b => exact .base (.bl b)
  | int i => exact .base (.int i)
  | str x => exact .base (.str x)
  | lst hq ha =>
    rcases sub_l s hq with (h | ⟨o, h⟩) | ⟨o, _, _, hk, hc, _⟩
    · exact .base (.lst h)
    · exact .base (.frz h)
    · exact .kList hk hc
  | tup hq ha =>
    rcases sub_t s hq with (h | ⟨o, h⟩) | ⟨o, _, _, hk, hc, _⟩
    · exact .base (.tup h)
    · exact .fTuple h
    · exact .kTuple hk hc
  | dic hq ha =>
    rcases sub_rd s hq with h | ⟨o, h⟩
    · exact .base (.dK h)
    · exact .fDict h
/-- a built-in class, as a value -/
theorem pe_ty {T : String} (hb : Bi X x) (hv : bootBuiltins x = some (.type T)) (hn : x ≠ "__name__") (hd : (x == ("__debug__" : Str)) = false) : PE X (.Name x pos) (tC (.ty T)) := pe_bltn hb.gl hb.no hv rfl hn hd
theorem xp_isi {T : String} {p2 : Pos} (hb : Bi X "isinstance") (ht : Bi X x) (hv : bootBuiltins x = some (.type T)) (hn : x ≠ "__name__") (hd : (x == ("__debug__" : Str)) = false) (he : St1 X e [.Name x p2]) (he2 : St1 X (.Name x p2) []) (hp : Pl1 X pos [.Name x p2])
    (h : Xp X B Γ e d) (hr : kitB (tyD d) T = some p) : Xp X B Γ (.Call (.Name "isinstance" p') [e, .Name x p2] [] pos) (.bool p) :=
  xp_of (pe_callB call_isi hb.gl hb.no (by decide +kernel) (pa_cons pe_u (pa_cons (pe_ty ht hv hn hd) pa_nil he2) he) (by decide) (by decide) he hp) fun H Hs σ E Q q => h H Hs σ E _ fun v H1 Hs1 g1 p1 =>
    ⟨v, .ty T, _, _, p, rfl, .ty T, tyX_of g1.sub p1, kit_ty hr, q _ H1 Hs1 g1 (.bl _)⟩
/-! ### methods of texts -/
def MtD (K : PySem.W.Frag) (rr : V → List V → Hp → VK → Prop) (y : Str) (as : List PyData) (d : PyData) : Prop := ∀ H Hs xs, (∀ a o, Hs a = some o → H a = some o) → DqAll K Hs xs as → ∀ Q : VK, (∀ v H' Hs', Gr H Hs H' Hs' → Dq K Hs' v d → Q v H') → rr (.str y) xs H Q
/-- what the rule of a method asks of its place in the text -/
abbrev Mb (X : Cx) (o : Expr) (name : Str) : Prop := attributeBase o name X.env (eval o X.env) = eval o X.env
abbrev Mf (X : Cx) (cpos : Pos) (e : Expr) (es : List Expr) : Prop := ((backTo cpos (starEach (e :: es) X.env)).all (fun x => !x.1) && (backToKw cpos (keywordEach [] X.env)).all (fun x => x.1.isSome)
      && decide ((e :: es).length + ([] : List Keyword).length + (if ([] : List Keyword).isEmpty then 0 else 1) < 30)) = true
variable {o : Expr} {ap : Pos} {name : Str} {id : String} {rr : V → List V → Hp → VK → Prop}
theorem xp_m0 (slot : Slot "str" name id) (hty : typeOf (.builtin id) = pure (.type "method_descriptor")) (hm : MtR X id rr) (hb : Mb X o name) (hl : (ap.endLine == pos.line) = true) (ho : Xp X B Γ o (.str y)) (hr : MtD X.K rr y [] d) : Xp X B Γ (.Call (.Attribute o name ap) [] [] pos) d :=
  xp_of (pe_bm0 PySem.F.plainAttrs_str slot hty hm pe_u hb hl) fun H Hs σ E Q q => ho H Hs σ E _ fun v H1 Hs1 g1 p1 => by
    cases p1
    exact ⟨rfl, hr H1 Hs1 [] g1.sub .nil Q fun w H2 Hs2 g2 p2 => q w H2 Hs2 (g1.trans g2) p2⟩
theorem xp_m {as : List PyData} (slot : Slot "str" name id) (hty : typeOf (.builtin id) = pure (.type "method_descriptor")) (hm : MtR X id rr) (hb : Mb X o name) (hf : Mf X pos e es) (hl : (ap.endLine == pos.line) = true) (he : St1 X e es) (hp : Pl1 X pos es) (ho : Xp X B Γ o (.str y)) (ha : Xa X B Γ (e :: es) as) (hr : MtD X.K rr y as d) : Xp X B Γ (.Call (.Attribute o name ap) (e :: es) [] pos) d :=
  xp_of (pe_bm PySem.F.plainAttrs_str slot hty hm pe_u pa_u hb hf hl he hp) fun H Hs σ E Q q => ho H Hs σ E _ fun v H1 Hs1 g1 p1 => by
    cases p1
    exact ⟨rfl, ha H1 Hs1 σ (E.grow g1) _ fun vs H2 Hs2 g2 p2 => hr H2 Hs2 vs g2.sub p2 Q fun w H3 Hs3 g3 p3 => q w H3 Hs3 ((g1.trans g2).trans g3) p3⟩
theorem xl_m {as : List PyData} (slot : Slot "str" name id) (hty : typeOf (.builtin id) = pure (.type "method_descriptor")) (hm : MtR X id rr) (hb : Mb X o name) (hf : Mf X pos e es) (hl : (ap.endLine == pos.line) = true) (he : St1 X e es) (hp : Pl1 X pos es) (ho : Xp X B Γ o (.str y)) (ha : Xa X B Γ (e :: es) as)
    (hr : ∀ H Hs xs, (∀ a o, Hs a = some o → H a = some o) → DqAll X.K Hs xs as → ∀ Q : VK, (∀ p zs, H p = none → DqAll X.K Hs zs ds → Q (.ref p) (upd H p (.lst zs))) → rr (.str y) xs H Q) : Xl X B Γ (.Call (.Attribute o name ap) (e :: es) [] pos) ds :=
  xl_of (pe_bm PySem.F.plainAttrs_str slot hty hm pe_u pa_u hb hf hl he hp) fun H Hs σ E Q q => ho H Hs σ E _ fun v H1 Hs1 g1 p1 => by
    cases p1
    exact ⟨rfl, ha H1 Hs1 σ (E.grow g1) _ fun vs H2 Hs2 g2 p2 => hr H2 Hs2 vs g2.sub p2 Q fun p zs n a => dl_new (g1.trans g2) q n a⟩
theorem xp_partition (hb : Mb X o "partition") (hf : Mf X pos e []) (hl : (ap.endLine == pos.line) = true) (he : St1 X e []) (hp : Pl1 X pos []) (ho : Xp X B Γ o (.str y)) (ha : Xp X B Γ e (.str z)) (h1 : (z.length == 0) = false) (h2 : y.length ≤ sizeLine) :
    Xp X B Γ (.Call (.Attribute o "partition" ap) [e] [] pos) (.tuple [.str (Txt.partition y z).1, .str (Txt.partition y z).2.1, .str (Txt.partition y z).2.2]) :=
  xp_m PySem.F.slot_str_partition PySem.F.type_str_partition mt_partition hb hf hl he hp ho (xa_cons he ha xa_nil) fun H Hs xs s a Q q => by
    cases a with
    | cons a1 a2 =>
      cases a2; cases a1
      exact ⟨y, z, rfl, rfl, h1, h2, fun p n => q _ _ _ ((Gr.refl s).share n) (.tup (SqT.of upd_same) (.cons (.str _) (.cons (.str _) (.cons (.str _) .nil))))⟩
theorem xl_split (hb : Mb X o "split") (hf : Mf X pos e []) (hl : (ap.endLine == pos.line) = true) (he : St1 X e []) (hp : Pl1 X pos []) (ho : Xp X B Γ o (.str y)) (ha : Xp X B Γ e (.str z)) (h1 : (z.length == 0) = false) (h2 : y.length + 2 ≤ sizeLine) :
    Xl X B Γ (.Call (.Attribute o "split" ap) [e] [] pos) ((Txt.split y z).map .str) :=
  xl_m PySem.F.slot_str_split PySem.F.type_str_split mt_split hb hf hl he hp ho (xa_cons he ha xa_nil) fun H Hs xs s a Q q => by
    cases a with
    | cons a1 a2 =>
      cases a2; cases a1
      exact ⟨y, z, rfl, rfl, h1, h2, fun p n => q p _ n (.strs _)⟩
theorem xp_join {ys : List Str} (hb : Mb X o "join") (hf : Mf X pos e []) (hl : (ap.endLine == pos.line) = true) (he : St1 X e []) (hp : Pl1 X pos []) (ho : Xp X B Γ o (.str y)) (ha : Xp X B Γ e (.list (ys.map .str))) (hz : (ys.map (·.length)).sum + ys.length * y.length ≤ 16777216) :
    Xp X B Γ (.Call (.Attribute o "join" ap) [e] [] pos) (.str (Txt.join y ys)) :=
  xp_m PySem.F.slot_str_join PySem.F.type_str_join mt_join hb hf hl he hp ho (xa_cons he ha xa_nil) fun H Hs xs s a Q q => by
    cases a with
    | cons a1 a2 =>
      cases a2
      cases a1 with
      | lst hq ha =>
        have e1 := ha.strs_inv
        subst e1
        exact ⟨y, _, ys, rfl, rfl, .inl (sub_l s hq), hz, q _ H Hs (Gr.refl s) (.str _)⟩
theorem xp_isdigit (hb : Mb X o "isdigit") (hl : (ap.endLine == pos.line) = true) (ho : Xp X B Γ o (.str y)) : Xp X B Γ (.Call (.Attribute o "isdigit" ap) [] [] pos) (.bool (Txt.isdigit y)) :=
  xp_m0 PySem.F.slot_str_isdigit PySem.F.type_str_isdigit mt_isdigit hb hl ho fun H Hs xs s a Q q => by
    cases a
    exact ⟨y, rfl, rfl, trivial, q _ H Hs (Gr.refl s) (.bl _)⟩
theorem xp_isascii (hb : Mb X o "isascii") (hl : (ap.endLine == pos.line) = true) (ho : Xp X B Γ o (.str y)) : Xp X B Γ (.Call (.Attribute o "isascii" ap) [] [] pos) (.bool (Txt.isascii y)) :=
  xp_m0 PySem.F.slot_str_isascii PySem.F.type_str_isascii mt_isascii hb hl ho fun H Hs xs s a Q q => by
    cases a
    exact ⟨y, rfl, rfl, trivial, q _ H Hs (Gr.refl s) (.bl _)⟩
theorem xp_upper (hb : Mb X o "upper") (hl : (ap.endLine == pos.line) = true) (ho : Xp X B Γ o (.str y)) (hz : y.length ≤ 5592405) : Xp X B Γ (.Call (.Attribute o "upper" ap) [] [] pos) (.str (Txt.upper y)) :=
  xp_m0 PySem.F.slot_str_upper PySem.F.type_str_upper mt_upper hb hl ho fun H Hs xs s a Q q => by
    cases a
    exact ⟨y, rfl, rfl, hz, q _ H Hs (Gr.refl s) (.str _)⟩
/-! ### own defs -/
theorem xp_call {R : List PyData → PyData → Prop} (hg : Gl X x) (c : Ce X x R) (he : St1 X e es) (hp : Pl1 X pos es) (ha : Xa X B Γ (e :: es) ds) (hr : R ds d) : Xp X B Γ (.Call (.Name x p') (e :: es) [] pos) d := by
  obtain ⟨k, f, fd, ps, hm, F, kp, bi, hr'⟩ := c.ex
  exact xp_of (pe_call F hr' hg hm kp bi .nil (E := E0) pass0 pa_u c.db he hp) (de_call ha hr)
theorem xp_call0 {R : List PyData → PyData → Prop} (hg : Gl X x) (c : Ce X x R) (hr : R [] d) : Xp X B Γ (.Call (.Name x p') [] [] pos) d := by
  obtain ⟨k, f, fd, ps, hm, F, kp, bi, hr'⟩ := c.ex
  exact xp_of (pe_call0 F hr' hg hm kp bi .nil (E := E0) pass0 c.db) (de_call da_nil hr)
/-! ### statements -/
theorem xb_nil (h : P (.nx Γ)) : Xb X B Γ [] P := xb_of pss_nil (ds_next h)
theorem xb_cons (h : Xs X B Γ st fun o => match o with | .nx Γ' => Xb X B Γ' ss P | o => P o) : Xb X B Γ (st :: ss) P := xb_of (pss_cons ps_u pb_u) (ds_seq (ds_imp h fun o ho => by cases o <;> exact ho))
theorem xs_set {p2 : Pos} (k : Lk X i x) (hs : swapsWith e (some (.Name x p2)) pos.line X.env = pure false) (h : Xp X B Γ e d) (hP : P (.nx (Γ.set i (.sh d)))) : Xs X B Γ (.Assign [.Name x p2] e pos) P := xs_of (ps_set k.nd k.ix k.loc pe_u hs k.fn) (ds_asg h hP)
theorem xs_setO {p2 : Pos} (k : Lk X i x) (hs : swapsWith e (some (.Name x p2)) pos.line X.env = pure false) (h : Xl X B Γ e ds) (hP : P (.nx (Γ.set i (.ow ds)))) : Xs X B Γ (.Assign [.Name x p2] e pos) P := xs_of (ps_set k.nd k.ix k.loc pe_u hs k.fn) (ds_asgO h hP)
theorem xs_ret (h : Xp X B Γ e d) (hP : P (.rt d)) : Xs X B Γ (.Return (some e) pos) P := xs_of (ps_ret pe_u) (ds_ret h hP)
theorem xs_retN (hP : P (.rt .none)) : Xs X B Γ (.Return none pos) P := xs_of ps_retN (ds_retN hP)
theorem xs_if {ss2 : List Stmt} (h : Xt X B Γ c p) (h1 : p = true → Xb X B Γ ss P) (h2 : p = false → Xb X B Γ ss2 P) : Xs X B Γ (.If c ss ss2 pos) P := xs_of (ps_if pt_u pb_u pb_u) (ds_if h h1 h2)
theorem xs_pass (hP : P (.nx Γ)) : Xs X B Γ (.Pass pos) P := xs_of ps_pass (ds_next hP)
theorem xs_brk (hP : P (.bk Γ)) : Xs X B Γ (.Break pos) P := xs_of ps_break (ds_brk hP)
theorem xs_cont (hP : P (.ct Γ)) : Xs X B Γ (.Continue pos) P := xs_of ps_continue (ds_cont hP)
theorem xs_free {st : Stmt} (hi : Γ[i]? = some (.ow ds)) (h : Xs X B (Γ.set i (.sh (.list ds))) st P) : Xs X B Γ st P := ds_free hi h
theorem xb_free (hi : Γ[i]? = some (.ow ds)) (h : Xb X B (Γ.set i (.sh (.list ds))) ss P) : Xb X B Γ ss P := ds_free hi h
theorem xs_app {p2 : Pos} (k : Rk X i x) (hs : swapsWith (.Call (.Attribute (.Name x p2) "append" ap) [e] [] p') none pos.line X.env = pure false) (hb : Mb X (.Name x p2) "append") (hf : Mf X p' e []) (hl : (ap.endLine == p'.line) = true) (he : St1 X e []) (hp : Pl1 X p' [])
    (hi : Γ[i]? = some (.ow ds)) (h : Xp X B Γ e d) (hz : ds.length < sizeLine) (hP : P (.nx (Γ.set i (.ow (ds ++ [d]))))) : Xs X B Γ (.Expr (.Call (.Attribute (.Name x p2) "append" ap) [e] [] p') pos) P :=
  xs_of (ps_expr (pe_bm PySem.F.plainAttrs_list PySem.F.slot_list_append PySem.F.type_list_append mt_append (pe_var k.ix k.vis k.d1 k.d2) (pa_cons pe_u pa_nil he) hb hf hl he hp) hs) (ds_app hi h hz hP)
/-- targets -/
def uG (X : Cx) (tg : Expr) : TG := fun v σ H Q => ∃ t, PG X tg t ∧ t v σ H Q
theorem pg_u {tg : Expr} : PG X tg (uG X tg) := ⟨fun pins s σ H v u Q I r ⟨_, p, h⟩ => p.run pins s σ H v u Q I r h⟩
def Xg (X : Cx) (tg : Expr) (js : List Nat) (d : PyData) (Γ Γ' : Gm) : Prop := DG X.K (uG X tg) js d Γ Γ'
theorem xg_of {tg : Expr} {t : TG} {js : List Nat} {Γ' : Gm} (h : PG X tg t) (k : DG X.K t js d Γ Γ') : Xg X tg js d Γ Γ' := fun B H Hs σ v E p Q q => ⟨t, h, k B H Hs σ v E p Q q⟩
theorem xg_name {p2 : Pos} (k : Lk X i x) : Xg X (.Name x p2) [i] d Γ (Γ.set i (.sh d)) := xg_of (pg_name k.nd k.ix k.loc k.fn) dg_name
def uGs (X : Cx) (tg : List Expr) : TGs := fun v σ H Q => ∃ t, PGs X tg t ∧ t v σ H Q
theorem pgs_u {tg : List Expr} : PGs X tg (uGs X tg) := ⟨fun pins s σ H v u Q I r ⟨_, p, h⟩ => p.run pins s σ H v u Q I r h⟩
def Xgs (X : Cx) (tg : List Expr) (js : List Nat) (ds : List PyData) (Γ Γ' : Gm) : Prop := DGs X.K (uGs X tg) js ds Γ Γ'
theorem xgs_nil : Xgs X [] [] [] Γ Γ := fun B H Hs σ v E p Q q => ⟨_, pgs_nil, dgs_nil B H Hs σ v E p Q q⟩
end
end Dl
set_option Elab.async false
set_option linter.all false
set_option maxRecDepth 100000
set_option maxHeartbeats 2000000
namespace Dl
open PySem L2 PyProof.Rows
variable [Tabs]
section
variable {X : Cx} {B : Bs} {Γ : Gm} {e a b c : Expr} {es : List Expr} {s st : Stmt} {ss rest : List Stmt} {d d1 d2 : PyData} {ds : List PyData} {P : Out → Prop} {pos p' : Pos} {x : Str} {i : Nat} {p q r : Bool} {m n : Int} {y z : Str}
/-! ### targets -/
theorem xgs_cons {tg : Expr} {tgs : List Expr} {js ks : List Nat} {Γ1 Γ2 : Gm} (hs : (assignEach (tg :: tgs) X.env).map (·.2) = assign tg X.env :: (assignEach tgs X.env).map (·.2)) (h : Xg X tg js d Γ Γ1) (hr : Xgs X tgs ks ds Γ1 Γ2) : Xgs X (tg :: tgs) (js ++ ks) (d :: ds) Γ Γ2 :=
  fun B H Hs σ v E p Q q => ⟨_, pgs_cons pg_u pgs_u hs, dgs_cons h hr B H Hs σ v E p Q q⟩
theorem xg_tup {tgs : List Expr} {kk n : Nat} {js : List Nat} {Γ1 : Gm} (hc : X.calm = true) (hn : (assignEach tgs X.env).length = n) (hst : (assignEach tgs X.env).findIdx? (·.1) = none) (hl : ds.length = n) (h : Xgs X tgs js ds Γ Γ1) : Xg X (.Tuple tgs kk pos) js (.tuple ds) Γ Γ1 :=
  xg_of (pg_tup hc pgs_u hn hst) (dg_tup h hl)
theorem xg_unl {tgs : List Expr} {kk n : Nat} {js : List Nat} {Γ1 : Gm} (hc : X.calm = true) (hn : (assignEach tgs X.env).length = n) (hst : (assignEach tgs X.env).findIdx? (·.1) = none) (hl : ds.length = n) (h : Xgs X tgs js ds Γ Γ1) : Xg X (.Tuple tgs kk pos) js (.list ds) Γ Γ1 :=
  xg_of (pg_unl hc pgs_u hn hst) fun B H Hs σ v E p Q q => by
    cases p with
    | lst hq ha => exact ⟨_, _, rfl, sub_l E.sub hq, by rw [ha.length]; exact hl, h B H Hs σ _ E ha Q q⟩
theorem xs_asg {tg : Expr} {js : List Nat} {Γ1 : Gm} (hs : swapsWithSole [tg] e pos.line X.env = pure false) (hw : swappedStores [tg] e X.env = pure none) (h1 : (assignEach [tg] X.env).map (·.2) = [assign tg X.env]) (h : Xp X B Γ e d) (hg : Xg X tg js d Γ Γ1) (hP : P (.nx Γ1)) : Xs X B Γ (.Assign [tg] e pos) P :=
  xs_of (ps_asg pe_u pg_u hs hw h1) (ds_asgG h hg hP)
theorem xs_par {i j : Nat} {x y : Str} {a b : Expr} {px py pt : Pos} {kt k2 pt2} (hc : X.calm = true) (ki : Lk X i x) (kj : Lk X j y) (hij : i ≠ j) (hx : X.env.scope.names.lookup x = some .local) (hy : X.env.scope.names.lookup y = some .local)
    (hw : swappedStores [.Tuple [.Name x px, .Name y py] kt pt] (.Tuple [a, b] k2 pt2) X.env = pure (some [x, y])) (hs : swapsWithSole [.Tuple [.Name x px, .Name y py] kt pt] (.Tuple [a, b] k2 pt2) pos.line X.env = pure false)
    (ha : Xa X B Γ [a, b] [d1, d2]) (hP : P (.nx ((Γ.set i (.sh d1)).set j (.sh d2)))) : Xs X B Γ (.Assign [.Tuple [.Name x px, .Name y py] kt pt] (.Tuple [a, b] k2 pt2) pos) P :=
  xs_of (ps_par hc ki.nd ki.ix kj.ix hij hx hy pa_u hw hs) (ds_par ha hP)
theorem ds_aug {K : PySem.W.Frag} {i : Nat} {te : TE} {f : Int → Int → Int} (hi : Γ[i]? = some (.sh (.int m))) (h : DE K B te Γ (.int n)) (hP : P (.nx (Γ.set i (.sh (.int (f m n)))))) : DS K B (tAug i te (ipI f)) Γ P := fun D H Hs σ E q => by
  obtain ⟨v, e, p⟩ := E.sh hi
  cases p
  refine ⟨_, e, h H Hs σ E _ fun u H1 Hs1 g1 p1 => ?_⟩
  cases p1
  exact ⟨m, n, rfl, rfl, q _ hP H1 Hs1 _ ((E.grow g1).setSh i (.int _))⟩
theorem xs_augA {p2 : Pos} (k : Lk X i x) (hi : Γ[i]? = some (.sh (.int m))) (h : Xp X B Γ e (.int n)) (hP : P (.nx (Γ.set i (.sh (.int (m + n)))))) : Xs X B Γ (.AugAssign (.Name x p2) .Add e pos) P := xs_of (ps_aug k.nd k.ix k.loc pe_u ip_add k.fn) (ds_aug hi h hP)
theorem xs_augS {p2 : Pos} (k : Lk X i x) (hi : Γ[i]? = some (.sh (.int m))) (h : Xp X B Γ e (.int n)) (hP : P (.nx (Γ.set i (.sh (.int (m - n)))))) : Xs X B Γ (.AugAssign (.Name x p2) .Sub e pos) P := xs_of (ps_aug k.nd k.ix k.loc pe_u ip_sub k.fn) (ds_aug hi h hP)
/-! ### what is walked -/
theorem xi_list {tg : Expr} (h : Xp X B Γ e (.list ds)) : Xi X B Γ tg e ds := xi_of (pi_list pe_u) (di_list h)
theorem xi_tup {tg : Expr} (h : Xp X B Γ e (.tuple ds)) : Xi X B Γ tg e ds := xi_of (pi_tup pe_u) (di_tup h)
theorem xi_str {tg : Expr} (h : Xp X B Γ e (.str y)) : Xi X B Γ tg e (signsD y) := xi_of (pi_str pe_u) (di_str h)
theorem xi_rng1 {tg : Expr} (hb : Bi X "range") (he : St1 X e []) (h : Xp X B Γ e (.int n)) (hn : -(2 ^ 62) ≤ n ∧ n < 2 ^ 62) : Xi X B Γ tg (.Call (.Name "range" p') [e] [] pos) (rangeD 0 n.toNat) := xi_of (pi_range1 hb.gl hb.no pa_u he) (di_rng1 (xa_cons he h xa_nil) hn)
theorem xi_rng2 {tg : Expr} (hb : Bi X "range") (he : starEach [e, a] X.env = [(false, eval e X.env), (false, eval a X.env)]) (he1 : St1 X e [a]) (he2 : St1 X a []) (h : Xp X B Γ e (.int m)) (h2 : Xp X B Γ a (.int n)) (hm : -(2 ^ 62) ≤ m ∧ m < 2 ^ 62) (hn : -(2 ^ 62) ≤ n ∧ n < 2 ^ 62) : Xi X B Γ tg (.Call (.Name "range" p') [e, a] [] pos) (rangeD m (n - m).toNat) :=
  xi_of (pi_range2 hb.gl hb.no pa_u he he2) (di_rng2 (xa_cons he1 h (xa_cons he2 h2 xa_nil)) hm hn)
theorem xi_enum {tgs : List Expr} {kk : Nat} {p3 : Pos} (hb : Bi X "enumerate") (he : starEach [e] X.env = [(false, eval e X.env)]) (he1 : St1 X e []) (h : Xp X B Γ e (.list ds)) : Xi X B Γ (.Tuple tgs kk p3) (.Call (.Name "enumerate" p') [e] [] pos) (enumD 0 ds) := xi_of (pi_enum hb.gl hb.no pa_u he) (di_enum (xa_cons he1 h xa_nil))
/-! ### loops -/
theorem xs_for {tg iter : Expr} {body : List Stmt} (hp : PassesOwn (model X.prog X.w) X.A X.env X.xe) (hc : X.calm = true) (hs : ∀ x, foldedSetIterable iter X.env x = pure x) (h : Xi X B Γ tg iter ds) (I : Nat → Gm → Prop) (h0 : I 0 Γ)
    (hb : ∀ B' k d Γ', ds[k]? = some d → I k Γ' → ∃ js Γ2, Xg X tg js d Γ' Γ2 ∧ Xb X B' Γ2 body (turnS I k P)) (hd : ∀ Γ', I ds.length Γ' → P (.nx Γ')) : Xs X B Γ (.For tg iter body [] pos) P :=
  xs_of (ps_for hp hc pi_u pg_u pb_u hs) (ds_for h I h0 hb hd)
/-- what a while's turn leaves -/
def whS (I : Nat → Gm → Prop) (m : Nat) (P : Out → Prop) : Out → Prop
  | .nx Γ => ∃ m', m' < m ∧ I m' Γ
  | .ct Γ => ∃ m', m' < m ∧ I m' Γ
  | .bk Γ => P (.nx Γ)
  | .rt v => P (.rt v)
  | .ro v => P (.ro v)
  | .rm l es v => P (.rm l es v)
theorem xs_while {body : List Stmt} (hp : PassesOwn (model X.prog X.w) X.A X.env X.xe) (I : Nat → Gm → Prop) (m0 : Nat) (h0 : I m0 Γ)
    (hs : ∀ m Γ', I m Γ' → ∃ b, Xt X B Γ' c b ∧ (b = true → Xb X B Γ' body (whS I m P)) ∧ (b = false → P (.nx Γ'))) : Xs X B Γ (.While c body [] pos) P :=
  xs_of (ps_while hp pt_u pb_u) (ds_while I m0 h0 fun m Γ' hI => by
    obtain ⟨b, h1, h2, h3⟩ := hs m Γ' hI
    exact ⟨b, h1, fun hb => ds_imp (h2 hb) fun o ho => by cases o <;> exact ho, h3⟩)
/-! ### comprehensions -/
def uQ (X : Cx) (ifs : List Expr) : TT := fun σ H Q => ∃ t, PTs X ifs t ∧ t σ H Q
theorem pq_u {ifs : List Expr} : PTs X ifs (uQ X ifs) := ⟨fun pins s σ H Q I ⟨_, p, h⟩ => p.run pins s σ H Q I h⟩
def Xq (X : Cx) (B : Bs) (Γ : Gm) (ifs : List Expr) (b : Bool) : Prop := DT X.K B (uQ X ifs) Γ b
theorem xq_nil : Xq X B Γ [] true := fun H Hs σ E Q q => ⟨_, pts_nil, q H Hs (Gr.refl E.sub)⟩
theorem xq_one (h : Xt X B Γ c p) : Xq X B Γ [c] p := fun H Hs σ E Q q => ⟨_, pts_one pt_u, h H Hs σ E Q q⟩
/-- all blocks that such a comprehension may run in -/
def Blk (X : Cx) (scope : Scope) (X' : Cx) : Prop := ∃ s H C cl fp, X' = X.blk s H scope (compEnvC scope cl C X.env) fp
/-- the readings of a comprehension's block, and what they are worth -/
theorem lc_pieces {elt tg : Expr} {ifs : List Expr} {scope : Scope} {vs js : List Nat} (pr : PyData → Bool) (ev : PyData → PyData) (G2 : PyData → Gm)
    (hb : ∀ X', Blk X scope X' → ∀ B' d, d ∈ ds → Xg X' tg js d (wipeG Γ vs) (G2 d) ∧ Xq X' B' (G2 d) ifs (pr d) ∧ (pr d = true → Xp X' B' (G2 d) elt (ev d))) :
    ∃ (g : TG) (tt : TT) (te : TE), (∀ s H C cl fp, PG (X.blk s H scope (compEnvC scope cl C X.env) fp) tg g) ∧ (∀ s H C cl fp, PTs (X.blk s H scope (compEnvC scope cl C X.env) fp) ifs tt) ∧ (∀ s H C cl fp, PE (X.blk s H scope (compEnvC scope cl C X.env) fp) elt te) ∧
      ∀ wi, DI X.K B wi Γ ds → ds.length ≤ 1000000 → (∀ j ∈ js, j ∈ vs) → DL X.K B (tLc wi g tt te vs) Γ ((ds.filter pr).map ev) := by
  have bk : ∀ s H C cl fp, Blk X scope (X.blk s H scope (compEnvC scope cl C X.env) fp) := fun s H C cl fp => ⟨s, H, C, cl, fp, rfl⟩
  have hK : ∀ X', Blk X scope X' → X'.K = X.K := fun X' ⟨s, H, C, cl, fp, e⟩ => by rw [e]; all_goals rfl
  refine ⟨fun v σ H Q => ∀ X', Blk X scope X' → uG X' tg v σ H Q, fun σ H Q => ∀ X', Blk X scope X' → uQ X' ifs σ H Q, fun σ H Q => ∀ X', Blk X scope X' → uE X' elt σ H Q, fun s H C cl fp => ⟨fun pins s' σ H' v u Q I r h => pg_u.run pins s' σ H' v u Q I r (h _ (bk s H C cl fp))⟩,
    fun s H C cl fp => ⟨fun pins s' σ H' Q I h => pq_u.run pins s' σ H' Q I (h _ (bk s H C cl fp))⟩, fun s H C cl fp => ⟨fun pins s' σ H' Q I h => pe_u.run pins s' σ H' Q I (h _ (bk s H C cl fp))⟩, fun wi hi hz hv => dl_lc (js := js) hi pr ev hz hv fun B' d hd => ⟨G2 d, ?_, ?_, fun hp => ?_⟩⟩
  · intro B1 H Hs σ v E p Q q X' hX
    have := (hb X' hX B' d hd).1
    unfold Xg at this
    rw [hK X' hX] at this
    exact this B1 H Hs σ v E p Q q
  · intro H Hs σ E Q q X' hX
    have := (hb X' hX B' d hd).2.1
    unfold Xq at this
    rw [hK X' hX] at this
    exact this H Hs σ E Q q
  · intro H Hs σ E Q q X' hX
    have := (hb X' hX B' d hd).2.2 hp
    unfold Xp at this
    rw [hK X' hX] at this
    exact this H Hs σ E Q q
theorem xl_lc {elt tg iter : Expr} {ifs : List Expr} {scope : Scope} {own : List (Str × Nat)} {js : List Nat} (pr : PyData → Bool) (ev : PyData → PyData) (G2 : PyData → Gm) (hc : X.calm = true) (hN : X.N.Nodup) (ok : BlkOk X.N X.env.scope scope own) (hs : ∀ x, foldedSetIterable iter X.env x = pure x)
    (hi : Xi X B Γ tg iter ds) (hz : ds.length ≤ 1000000) (hv : ∀ j ∈ js, j ∈ own.map (·.2))
    (hb : ∀ X', Blk X scope X' → ∀ B' d, d ∈ ds → Xg X' tg js d (wipeG Γ (own.map (·.2))) (G2 d) ∧ Xq X' B' (G2 d) ifs (pr d) ∧ (pr d = true → Xp X' B' (G2 d) elt (ev d))) : Xl X B Γ (.ListComp elt [⟨tg, iter, ifs, 0⟩] scope pos) ((ds.filter pr).map ev) := by
  obtain ⟨g, tt, te, h1, h2, h3, h4⟩ := lc_pieces (B := B) pr ev G2 hb
  exact xl_of (pe_lc (own := own) (g := g) (tt := tt) (te := te) hc hN pi_u ok h1 h2 h3 hs) (h4 _ hi hz hv)
/-- y = [..] on one line; y one's own list, or shared -/
theorem xs_setLc {elt tg iter : Expr} {ifs : List Expr} {scope : Scope} {own : List (Str × Nat)} {js : List Nat} {py spos : Pos} (sl : Bool) (pr : PyData → Bool) (ev : PyData → PyData) (G2 : PyData → Gm) (k : Lk X i x) (hyl : X.env.scope.names.lookup x = some .local) (hc : X.calm = true) (ok : BlkOk X.N X.env.scope scope own)
    (hsw : swapsWith (.ListComp elt [⟨tg, iter, ifs, 0⟩] scope pos) (some (.Name x py)) spos.line X.env = pure true) (hs : ∀ x, foldedSetIterable iter X.env x = pure x)
    (hi : Xi X B Γ tg iter ds) (hz : ds.length ≤ 1000000) (hv : ∀ j ∈ js, j ∈ own.map (·.2))
    (hb : ∀ X', Blk X scope X' → ∀ B' d, d ∈ ds → Xg X' tg js d (wipeG Γ (own.map (·.2))) (G2 d) ∧ Xq X' B' (G2 d) ifs (pr d) ∧ (pr d = true → Xp X' B' (G2 d) elt (ev d)))
    (hP : P (.nx (Γ.set i (if sl then .ow ((ds.filter pr).map ev) else .sh (.list ((ds.filter pr).map ev)))))) : Xs X B Γ (.Assign [.Name x py] (.ListComp elt [⟨tg, iter, ifs, 0⟩] scope pos) spos) P := by
  obtain ⟨g, tt, te, h1, h2, h3, h4⟩ := lc_pieces (B := B) pr ev G2 hb
  refine xs_of (ps_setLc (i := i) (own := own) (g := g) (tt := tt) (te := te) hc k.nd k.ix hyl hsw pi_u ok h1 h2 h3 hs) ?_
  cases sl with
  | true => exact ds_asgO (h4 _ hi hz hv) hP
  | false => exact ds_asg (de_of_dl (h4 _ hi hz hv)) hP
/-! ### f-strings -/
theorem dj_nil {K : PySem.W.Frag} {acc : Str} : ∀ H Hs σ, Enb K B H Hs σ Γ → ∀ Q : Str → Hp → Prop, (∀ H' Hs', Gr H Hs H' Hs' → Q acc H') → tJs [] acc σ H Q := fun H Hs σ E Q q => q H Hs (Gr.refl E.sub)
theorem dj_cons {K : PySem.W.Frag} {t : TE} {ts : List TE} {acc out : Str} (h : DE K B t Γ (.str y)) (hz : (acc ++ y).length ≤ sizeLine) (hr : ∀ H Hs σ, Enb K B H Hs σ Γ → ∀ Q : Str → Hp → Prop, (∀ H' Hs', Gr H Hs H' Hs' → Q out H') → tJs ts (acc ++ y) σ H Q) :
    ∀ H Hs σ, Enb K B H Hs σ Γ → ∀ Q : Str → Hp → Prop, (∀ H' Hs', Gr H Hs H' Hs' → Q out H') → tJs (t :: ts) acc σ H Q := fun H Hs σ E Q q => h H Hs σ E _ fun v H1 Hs1 g1 p1 => by
  cases p1
  exact ⟨y, rfl, hz, hr H1 Hs1 σ (E.grow g1) Q fun H2 Hs2 g2 => q H2 Hs2 (g1.trans g2)⟩
/-- a part: {e} of a text, of an int; a written text -/
theorem xp_fmtS (h : Xp X B Γ e (.str y)) (hz : y.length ≤ sizeLine) : Xp X B Γ (.FormattedValue e (-1) none pos) (.str y) := xp_of (pe_fmt pe_u) fun H Hs σ E Q q => h H Hs σ E _ fun v H1 Hs1 g1 p1 => by
  cases p1
  exact .inl ⟨y, rfl, hz, q _ H1 Hs1 g1 (.str _)⟩
theorem xp_fmtI (h : Xp X B Γ e (.int m)) (hz : m.natAbs.log2 < 1920) : Xp X B Γ (.FormattedValue e (-1) none pos) (.str (toString m)) := xp_of (pe_fmt pe_u) fun H Hs σ E Q q => h H Hs σ E _ fun v H1 Hs1 g1 p1 => by
  cases p1
  exact .inr ⟨m, rfl, hz, q _ H1 Hs1 g1 (.str _)⟩
def uJ (X : Cx) (es : List Expr) : List TE := es.map (uE X)
theorem pj_u : ∀ es : List Expr, PJ X es (uJ X es)
  | [] => .nil
  | e :: es => .cons pe_u (pj_u es)
def Xj (X : Cx) (B : Bs) (Γ : Gm) (es : List Expr) (acc out : Str) : Prop := ∀ H Hs σ, Enb X.K B H Hs σ Γ → ∀ Q : Str → Hp → Prop, (∀ H' Hs', Gr H Hs H' Hs' → Q out H') → tJs (uJ X es) acc σ H Q
theorem xj_nil {acc : Str} : Xj X B Γ [] acc acc := dj_nil
theorem xj_cons {acc out : Str} (h : Xp X B Γ e (.str y)) (hz : (acc ++ y).length ≤ sizeLine) (hr : Xj X B Γ es (acc ++ y) out) : Xj X B Γ (e :: es) acc out := dj_cons h hz hr
theorem xp_joined {e1 e2 : Expr} {out : Str} (h : Xj X B Γ (e1 :: e2 :: es) Str.empty out) : Xp X B Γ (.JoinedStr (e1 :: e2 :: es) pos) (.str out) := xp_of (pe_joined (pj_u _)) fun H Hs σ E Q q => h H Hs σ E _ fun H1 Hs1 g1 => q _ H1 Hs1 g1 (.str _)
end
/-! ### a def by its body -/
section
variable {P : Program} {w : World} {K : PySem.W.Frag} {mg : Str → Option Value} {base : Heap}
abbrev Xc (P : Program) (w : World) (K : PySem.W.Frag) (mg : Str → Option Value) (base : Heap) (N : List Str) (qual : Str) (st : Stmt) (f : Addr) (cdv : Value) (A : Around) (outer : List Env) (s : Shared) (H : Hp) (E : XK) : Cx := (cxOf CX0 P w K mg base N qual (defScope st) f cdv A outer s H E).nox
def startG (N : List Str) (ds : List PyData) : Gm := ds.map .sh ++ List.replicate (N.length - ds.length) .un
def RetP (d : PyData) : Out → Prop := fun o => o = .rt d ∨ (d = .none ∧ ∃ Γ, o = .nx Γ)
theorem en_start {N : List Str} {vs : List V} {ds : List PyData} {H Hs : Hp} (s : ∀ a o, Hs a = some o → H a = some o) (tb : TabsIn Hs) (a : DqAll K Hs vs ds) : Enb K ⟨H, Hs, Hs⟩ H Hs (L2.start N vs) (startG N ds) := by
  refine ⟨Gr.refl s, Ext.refl _, ?_, fun i t o h1 h2 => ?_, fun i j ds' es l h1 h2 => ?_, tb⟩
  · unfold L2.start startG
    rw [List.length_append, List.length_append, List.length_map, List.length_map, List.length_replicate, List.length_replicate, a.length]
  · unfold startG at h1
    unfold L2.start at h2
    by_cases hi : i < ds.length
    · rw [List.getElem?_append_left (by rw [List.length_map]; exact hi), List.getElem?_map, List.getElem?_eq_getElem hi] at h1
      rw [List.getElem?_append_left (by rw [List.length_map, a.length]; exact hi), List.getElem?_map] at h2
      obtain ⟨v, hv, pv⟩ := a.get (List.getElem?_eq_getElem hi)
      rw [hv] at h2
      cases h1
      cases h2
      exact ⟨v, rfl, pv⟩
    · rw [List.getElem?_append_right (by rw [List.length_map]; omega), List.getElem?_replicate] at h1
      split at h1
      · cases h1; trivial
      · cases h1
  · unfold startG at h1
    by_cases hi : i < ds.length
    · rw [List.getElem?_append_left (by rw [List.length_map]; exact hi), List.getElem?_map, List.getElem?_eq_getElem hi] at h1
      cases h1
      exact fun w => nomatch w
    · rw [List.getElem?_append_right (by rw [List.length_map]; omega), List.getElem?_replicate] at h1
      split at h1
      · cases h1
        exact fun w => nomatch w
      · cases h1
/-- THE RULE: a def keeps a relation of data -/
theorem fn_ok {x qual : Str} {st : Stmt} {f : Addr} {fd : FuncData} {N ps : List Str} {k : Nat} {R : List PyData → PyData → Prop} (F : Fun K x qual st f fd) (S : FnScope N ps (defScope st)) (len : ∀ ds d, R ds d → ds.length = ps.length)
    (body : ∀ (cdv : Value) (A : Around) (outer : List Env) (s : Shared) (H : Hp) (E : XK) (B : Bs) (ds : List PyData) (d : PyData), Room k (Xc P w K mg base N qual st f cdv A outer s H E).A → R ds d → Xb (Xc P w K mg base N qual st f cdv A outer s H E) B (startG N ds) (defBody st) (RetP d)) : FnOk P w K mg base CX0 (k + 1) f fd ps (spR K R) := by
  refine F.ok S (fun vs H Q E h => ?_) (fun cdv A outer s H vs Q E hr h => ?_)
  · obtain ⟨ds, d, Hs, _, _, a, hR, _⟩ := h
    rw [a.length]
    exact len ds d hR
  · obtain ⟨ds, d, Hs, hsub, htb, a, hR, q⟩ := h
    refine ⟨_, pb_u, body cdv A outer s H E ⟨H, Hs, Hs⟩ ds d hr hR _ H Hs (L2.start N vs) (en_start hsub htb a) fun o ho => ?_⟩
    rcases ho with rfl | ⟨rfl, Γ, rfl⟩
    · exact fun v H' Hs' g p => q v H' Hs' g p
    · exact fun H' Hs' σ' E' => q .non H' Hs' E'.gr .non
/-- a def that gives a fresh list -/
def RetO (ds : List PyData) : Out → Prop := fun o => o = .ro ds
theorem fn_okO {x qual : Str} {st : Stmt} {f : Addr} {fd : FuncData} {N ps : List Str} {k : Nat} {R : List PyData → PyData → Prop} (F : Fun K x qual st f fd) (S : FnScope N ps (defScope st)) (len : ∀ ds d, R ds d → ds.length = ps.length)
    (body : ∀ (cdv : Value) (A : Around) (outer : List Env) (s : Shared) (H : Hp) (E : XK) (B : Bs) (ds es : List PyData), Room k (Xc P w K mg base N qual st f cdv A outer s H E).A → R ds (.list es) → Xb (Xc P w K mg base N qual st f cdv A outer s H E) B (startG N ds) (defBody st) (RetO es)) : FnOk P w K mg base CX0 (k + 1) f fd ps (spRO K R) := by
  refine F.ok S (fun vs H Q E h => ?_) (fun cdv A outer s H vs Q E hr h => ?_)
  · obtain ⟨ds, es, Hs, _, _, a, hR, _⟩ := h
    rw [a.length]
    exact len ds _ hR
  · obtain ⟨ds, es, Hs, hsub, htb, a, hR, q⟩ := h
    refine ⟨_, pb_u, body cdv A outer s H E ⟨H, Hs, Hs⟩ ds es hr hR _ H Hs (L2.start N vs) (en_start hsub htb a) fun o ho => ?_⟩
    cases ho
    exact fun p xs H' Hs' g n e s a => q p xs H' Hs' g n e s a
/-! ### what a def's scope says, told at once -/
/-- N: the def's names, G: the names of the module that it asks -/
def scF (N G : List Str) (st : Stmt) : Bool := (N.all fun x => ((defScope st).names.lookup x == some .local || (defScope st).names.lookup x == some .cell) && !(x == ("__debug__" : Str)) && !(x == ("__classdict__" : Str))) && decide N.Nodup && (G.all fun x => (defScope st).names.lookup x == some .globalImplicit)
section
variable {N G : List Str} {st : Stmt} {qual : Str} {f : Addr} {cdv : Value} {A : Around} {outer : List Env} {s : Shared} {H : Hp} {E : XK} {i : Nat} {x : Str}
theorem scF_loc (h : scF N G st = true) (hi : N[i]? = some x) : Loc (defScope st) x ∧ (x == ("__debug__" : Str)) = false ∧ (x == ("__classdict__" : Str)) = false := by
  unfold scF at h
  simp only [Bool.and_eq_true, List.all_eq_true, Bool.or_eq_true, Bool.not_eq_true', beq_iff_eq] at h
  obtain ⟨⟨a, b⟩, c⟩ := h.1.1 x (List.mem_of_getElem? hi)
  exact ⟨a, by simpa using b, by simpa using c⟩
theorem rk_of (h : scF N G st = true) (hi : N[i]? = some x) : Rk (Xc P w K mg base N qual st f cdv A outer s H E) i x := by
  obtain ⟨a, b, c⟩ := scF_loc h hi
  refine ⟨hi, ?_, b, c⟩
  rcases a with a | a
  · exact .inl a
  · exact .inr (.inl a)
theorem lk_of (h : scF N G st = true) (hi : N[i]? = some x) : Lk (Xc P w K mg base N qual st f cdv A outer s H E) i x := by
  obtain ⟨a, b, c⟩ := scF_loc h hi
  unfold scF at h
  simp only [Bool.and_eq_true, decide_eq_true_eq] at h
  exact ⟨h.1.2, hi, a, .inl rfl⟩
theorem gl_of (h : scF N G st = true) (hx : x ∈ G) : Gl (Xc P w K mg base N qual st f cdv A outer s H E) x := by
  unfold scF at h
  simp only [Bool.and_eq_true, List.all_eq_true, beq_iff_eq] at h
  exact h.2 x hx
theorem bi_of (h : scF N G st = true) (hx : x ∈ G) (hm : mg x = none) : Bi (Xc P w K mg base N qual st f cdv A outer s H E) x := ⟨gl_of h hx, hm⟩
end
/-- the same where some names of N are no names of the def's own scope (a comprehension's) -/
def scF2 (N Nf G : List Str) (st : Stmt) : Bool := (Nf.all fun x => ((defScope st).names.lookup x == some .local || (defScope st).names.lookup x == some .cell) && !(x == ("__debug__" : Str)) && !(x == ("__classdict__" : Str))) && decide N.Nodup && (G.all fun x => (defScope st).names.lookup x == some .globalImplicit)
section
variable {N Nf G : List Str} {st : Stmt} {qual : Str} {f : Addr} {cdv : Value} {A : Around} {outer : List Env} {s : Shared} {H : Hp} {E : XK} {i : Nat} {x : Str}
theorem scF2_loc (h : scF2 N Nf G st = true) (hi : x ∈ Nf) : Loc (defScope st) x ∧ (x == ("__debug__" : Str)) = false ∧ (x == ("__classdict__" : Str)) = false := by
  unfold scF2 at h
  simp only [Bool.and_eq_true, List.all_eq_true, Bool.or_eq_true, Bool.not_eq_true', beq_iff_eq] at h
  obtain ⟨⟨a, b⟩, c⟩ := h.1.1 x hi
  exact ⟨a, by simpa using b, by simpa using c⟩
theorem rk_of2 (h : scF2 N Nf G st = true) (hi : N[i]? = some x) (hx : x ∈ Nf) : Rk (Xc P w K mg base N qual st f cdv A outer s H E) i x := by
  obtain ⟨a, b, c⟩ := scF2_loc h hx
  refine ⟨hi, ?_, b, c⟩
  rcases a with a | a
  · exact .inl a
  · exact .inr (.inl a)
theorem lk_of2 (h : scF2 N Nf G st = true) (hi : N[i]? = some x) (hx : x ∈ Nf) : Lk (Xc P w K mg base N qual st f cdv A outer s H E) i x := by
  obtain ⟨a, b, c⟩ := scF2_loc h hx
  unfold scF2 at h
  simp only [Bool.and_eq_true, decide_eq_true_eq] at h
  exact ⟨h.1.2, hi, a, .inl rfl⟩
theorem gl_of2 (h : scF2 N Nf G st = true) (hx : x ∈ G) : Gl (Xc P w K mg base N qual st f cdv A outer s H E) x := by
  unfold scF2 at h
  simp only [Bool.and_eq_true, List.all_eq_true, beq_iff_eq] at h
  exact h.2 x hx
end
/-- a module's constant, by the module's names -/
structure CnM (K : PySem.W.Frag) (mg : Str → Option Value) (x : Str) (d : PyData) : Prop where
  ex : ∃ u v, mg x = some u ∧ RelV v u ∧ ∀ H, Dq K H v d
  db : (x == ("__debug__" : Str)) = false
theorem CnM.at {X : Cx} {x : Str} {d : PyData} (h : CnM X.K X.mg x d) : Cn X x d := ⟨h.ex, h.db⟩
/-- a def of the module by its promise -/
structure Dn (P : Program) (w : World) (K : PySem.W.Frag) (mg : Str → Option Value) (base : Heap) (k : Nat) (x : Str) (R : List PyData → PyData → Prop) : Prop where
  ex : ∃ (f : Addr) (fd : FuncData) (ps : List Str), mg x = some (.ref f) ∧ FnOk P w K mg base CX0 k f fd ps (spR K R) ∧ PySem.W.keepIn K (.ref f) = true ∧ Binds K fd ps []
theorem ce_of {N : List Str} {st : Stmt} {qual : Str} {f : Addr} {cdv : Value} {A : Around} {outer : List Env} {s : Shared} {H : Hp} {E : XK} {x : Str} {R : List PyData → PyData → Prop} {k j : Nat} (D : Dn P w K mg base k x R) (hr : Room j (Xc P w K mg base N qual st f cdv A outer s H E).A) (hk : k ≤ j) (hd : (x == ("__debug__" : Str)) = false) :
    Ce (Xc P w K mg base N qual st f cdv A outer s H E) x R := by
  obtain ⟨g, fd, ps, h1, h2, h3, h4⟩ := D.ex
  exact ⟨⟨k, g, fd, ps, h1, h2, h3, h4, hr.mono hk⟩, hd⟩
theorem dn_of {x qual : Str} {st : Stmt} {f : Addr} {fd : FuncData} {ps : List Str} {k : Nat} {R : List PyData → PyData → Prop} (F : Fun K x qual st f fd) (hm : mg x = some (.ref f)) (hb : Binds K fd ps []) (h : FnOk P w K mg base CX0 k f fd ps (spR K R)) : Dn P w K mg base k x R := ⟨f, fd, ps, hm, h, F.kp, hb⟩
structure DnO (P : Program) (w : World) (K : PySem.W.Frag) (mg : Str → Option Value) (base : Heap) (k : Nat) (x : Str) (R : List PyData → PyData → Prop) : Prop where
  ex : ∃ (f : Addr) (fd : FuncData) (ps : List Str), mg x = some (.ref f) ∧ FnOk P w K mg base CX0 k f fd ps (spRO K R) ∧ PySem.W.keepIn K (.ref f) = true ∧ Binds K fd ps []
structure CeO (X : Cx) (x : Str) (R : List PyData → PyData → Prop) : Prop where
  ex : ∃ (k : Nat) (f : Addr) (fd : FuncData) (ps : List Str), X.mg x = some (.ref f) ∧ FnOk X.prog X.w X.K X.mg X.base CX0 k f fd ps (spRO X.K R) ∧ PySem.W.keepIn X.K (.ref f) = true ∧ Binds X.K fd ps [] ∧ Room k X.A
  db : (x == ("__debug__" : Str)) = false
theorem ce_ofO {N : List Str} {st : Stmt} {qual : Str} {f : Addr} {cdv : Value} {A : Around} {outer : List Env} {s : Shared} {H : Hp} {E : XK} {x : Str} {R : List PyData → PyData → Prop} {k j : Nat} (D : DnO P w K mg base k x R) (hr : Room j (Xc P w K mg base N qual st f cdv A outer s H E).A) (hk : k ≤ j) (hd : (x == ("__debug__" : Str)) = false) :
    CeO (Xc P w K mg base N qual st f cdv A outer s H E) x R := by
  obtain ⟨g, fd, ps, h1, h2, h3, h4⟩ := D.ex
  exact ⟨⟨k, g, fd, ps, h1, h2, h3, h4, hr.mono hk⟩, hd⟩
theorem dn_ofO {x qual : Str} {st : Stmt} {f : Addr} {fd : FuncData} {ps : List Str} {k : Nat} {R : List PyData → PyData → Prop} (F : Fun K x qual st f fd) (hm : mg x = some (.ref f)) (hb : Binds K fd ps []) (h : FnOk P w K mg base CX0 k f fd ps (spRO K R)) : DnO P w K mg base k x R := ⟨f, fd, ps, hm, h, F.kp, hb⟩
theorem xl_call {X : Cx} {B : Bs} {Γ : Gm} {e : Expr} {es : List Expr} {ds ds' : List PyData} {p' pos : Pos} {x : Str} {R : List PyData → PyData → Prop} (hg : Gl X x) (c : CeO X x R) (he : St1 X e es) (hp : Pl1 X pos es) (ha : Xa X B Γ (e :: es) ds') (hr : R ds' (.list ds)) : Xl X B Γ (.Call (.Name x p') (e :: es) [] pos) ds := by
  obtain ⟨k, f, fd, ps, hm, F, kp, bi, hr'⟩ := c.ex
  exact xl_of (pe_call F hr' hg hm kp bi .nil (E := E0) pass0 pa_u c.db he hp) (dl_call ha hr)
theorem xs_retO {X : Cx} {B : Bs} {Γ : Gm} {P : Out → Prop} {e : Expr} {ds : List PyData} {pos : Pos} (h : Xl X B Γ e ds) (hP : P (.ro ds)) : Xs X B Γ (.Return (some e) pos) P := xs_of (ps_ret pe_u) (ds_retO h hP)
end
end Dl
set_option Elab.async false
set_option linter.all false
set_option maxRecDepth 100000
set_option maxHeartbeats 2000000
namespace Dl
open PySem L2 PyProof.Rows
inductive TyN where
  | int | str | bool | tuple | list | dict
def TyN.name : TyN → String
  | .int => "int"
  | .str => "str"
  | .bool => "bool"
  | .tuple => "tuple"
  | .list => "list"
  | .dict => "dict"
def isiD : PyData → TyN → Bool
  | .bool _, .bool => true
  | .bool _, .int => true
  | .int _, .int => true
  | .str _, .str => true
  | .tuple _, .tuple => true
  | .list _, .list => true
  | .dict _, .dict => true
  | _, _ => false
theorem isi_ok (d : PyData) (T : TyN) : kitB (tyD d) T.name = some (isiD d T) := by
  cases d <;> cases T <;> (simp only [tyD, TyN.name, isiD]; decide +kernel)
/-- what computing shows -/
structure Tt (p : Prop) : Prop where
  h : p
/-- the slots told anew -/
structure Sg (a b : Gm) : Prop where
  h : a = b
/-- what is left to the prover -/
structure Side (p : Prop) : Prop where
  h : p
inductive AddD : PyData → PyData → PyData → Prop where
  | int {m : Int} {n : Int} : AddD (.int m) (.int n) (.int (m + n))
  | str {y : Str} {z : Str} (hz : Side (y.length + z.length ≤ sizeLine)) : AddD (.str y) (.str z) (.str (y ++ z))
  | lst {es1 : List PyData} {es2 : List PyData} (hz : Side (es1.length + es2.length ≤ sizeLine)) : AddD (.list es1) (.list es2) (.list (es1 ++ es2))
  | tup {es1 : List PyData} {es2 : List PyData} (hz : Side (es1.length + es2.length ≤ sizeLine)) : AddD (.tuple es1) (.tuple es2) (.tuple (es1 ++ es2))
inductive MulD : PyData → PyData → PyData → Prop where
  | int {m : Int} {n : Int} (hz : Side (CMulW m n)) : MulD (.int m) (.int n) (.int (m * n))
  | str {y : Str} {n : Int} (hz : Side (MulOk y n)) : MulD (.str y) (.int n) (.str (Txt.mul y n))
inductive FdivD : Int → Int → Int → Prop where
  | lit {m n : Int} (h : 0 < n ∧ n < 1073741824) : FdivD m n (m / n)
  | gen {m n : Int} (h : Side (CDivG m n)) : FdivD m n (m.fdiv n)
inductive EqD : PyData → PyData → Bool → Prop where
  | int {m : Int} {n : Int} : EqD (.int m) (.int n) (decide (m = n))
  | str {y : Str} {z : Str} : EqD (.str y) (.str z) (decide (y = z))
  | bl {p : Bool} {q : Bool} : EqD (.bool p) (.bool q) (decide (p = q))
  | dat {d1 : PyData} {d2 : PyData} (h1 : Side (SeqAt.shaped d1 = true)) (h2 : Side (SeqAt.shaped d2 = true)) : EqD d1 d2 (PyData.eqv d1 d2)
inductive InD : PyData → PyData → Bool → Prop where
  | lst {d : PyData} {ds : List PyData} (f : Tt (flatD d = true)) (g : Tt (ds.all flatD = true)) : InD d (.list ds) (inD d ds)
  | tup {d : PyData} {ds : List PyData} (f : Tt (flatD d = true)) (g : Tt (ds.all flatD = true)) : InD d (.tuple ds) (inD d ds)
  | sgn {z : Str} {k : Nat} : InD (.str ⟨#[k]⟩) (.str z) (decide (k ∈ z.cps.toList))
inductive IxD : PyData → PyData → PyData → Prop where
  | lst {d : PyData} {ds : List PyData} {i : Int} (h : Side (atI ds i = some d)) : IxD (.list ds) (.int i) d
  | tup {d : PyData} {ds : List PyData} {i : Int} (h : Side (atI ds i = some d)) : IxD (.tuple ds) (.int i) d
  | str {y : Str} {i : Int} {k : Nat} (hz : Side (y.length ≤ sizeLine)) (h : Side (atI y.cps.toList i = some k)) : IxD (.str y) (.int i) (.str ⟨#[k]⟩)
inductive SlD : PyData → Option Int → Option Int → PyData → Prop where
  | lst {ds : List PyData} {l h : Option Int} : SlD (.list ds) l h (.list (cutD ds l h))
  | str {y : Str} {l h : Option Int} (hz : Side (y.length ≤ sizeLine)) : SlD (.str y) l h (.str (cutS y l h))
inductive LenD : PyData → Int → Prop where
  | lst {ds : List PyData} : LenD (.list ds) ds.length
  | tup {ds : List PyData} : LenD (.tuple ds) ds.length
  | str {y : Str} (hz : Side (y.length ≤ sizeLine)) : LenD (.str y) y.length
inductive IntD : PyData → Int → Prop where
  | str {m : Int} {y : Str} (hn : Side (PySem.intText? y = some m)) (hz : Side (y.length ≤ 640)) : IntD (.str y) m
  | bl {p : Bool} : IntD (.bool p) (if p then 1 else 0)
inductive SortD : PyData → List PyData → Prop where
  | ofI {ds : List PyData} {ns ms : List Int} (hm : Side (ds = ns.map .int ∧ ns.length < 64 ∧ ms.Perm ns ∧ ms.Pairwise (· ≤ ·))) : SortD (.list ds) (ms.map .int)
inductive TruD : PyData → Bool → Prop where
  | bl {p : Bool} : TruD (.bool p) p
  | int {m : Int} : TruD (.int m) (m != 0)
  | non : TruD .none false
  | str {y : Str} (hz : Side (y.length ≤ sizeLine)) : TruD (.str y) ((y.length : Int) != 0)
  | lst {ds : List PyData} : TruD (.list ds) (!ds.isEmpty)
  | tup {ds : List PyData} : TruD (.tuple ds) (!ds.isEmpty)
inductive UnpD : PyData → List PyData → Prop where
  | tup {ds : List PyData} : UnpD (.tuple ds) ds
  | lst {ds : List PyData} : UnpD (.list ds) ds
inductive ItrD : PyData → List PyData → Prop where
  | lst {ds : List PyData} : ItrD (.list ds) ds
  | tup {ds : List PyData} : ItrD (.tuple ds) ds
  | str {y : Str} : ItrD (.str y) (signsD y)
inductive FmtD : PyData → Str → Prop where
  | str {y : Str} (hz : Side (y.length ≤ sizeLine)) : FmtD (.str y) y
  | int {m : Int} (hz : Side (m.natAbs.log2 < 1920)) : FmtD (.int m) (toString m)
section
variable [Tabs]
variable {X : Cx} {B : Bs} {Γ : Gm} {e a b c o : Expr} {es : List Expr} {s st : Stmt} {ss rest : List Stmt} {d d1 d2 d3 : PyData} {ds es1 es2 : List PyData} {P : Out → Prop} {pos p' ap : Pos} {x : Str} {i : Nat} {p q r : Bool} {m n : Int} {y z : Str}
/-! ### rules by relations of data: no choice but by the text -/
theorem op_mulS : OpR X (binaryOp .Mult) (fun x y H Q => ∃ a k, x = .str a ∧ y = .int k ∧ MulOk a k ∧ Q (.str (Txt.mul a k)) H) := by
  intro pins s σ H x y v u Q I rx ry h
  obtain ⟨a, k, rfl, rfl, hk, q⟩ := h
  obtain ⟨t, rfl⟩ := rx
  obtain ⟨t', rfl⟩ := ry
  exact SB.mul hk fun t2 k2 => ⟨.str _, H, I.tok _, ⟨_, rfl⟩, q⟩
theorem xp_mulS (ha : Xp X B Γ a (.str y)) (hb : Xp X B Γ b (.int n)) (hk : MulOk y n) : Xp X B Γ (.BinOp a .Mult b pos) (.str (Txt.mul y n)) := xp_bin op_mulS (fun H Hs u v s hx hy Q q => by
  cases hx; cases hy
  exact ⟨y, n, rfl, rfl, hk, q _ H Hs (Gr.refl s) (.str _)⟩) ha hb
theorem xe_add (ha : Xp X B Γ a d1) (hb : Xp X B Γ b d2) (h : AddD d1 d2 d) : Xp X B Γ (.BinOp a .Add b pos) d := by
  cases h with
  | int => exact xp_add ha hb
  | str hz => exact xp_adds ha hb hz.h
  | lst hz => exact xp_l (xl_cat ha hb hz.h)
  | tup hz => exact xp_catT ha hb hz.h
theorem xe_sub (ha : Xp X B Γ a (.int m)) (hb : Xp X B Γ b (.int n)) : Xp X B Γ (.BinOp a .Sub b pos) (.int (m - n)) := xp_sub ha hb
theorem xe_mul (ha : Xp X B Γ a d1) (hb : Xp X B Γ b d2) (h : MulD d1 d2 d) : Xp X B Γ (.BinOp a .Mult b pos) d := by
  cases h with
  | int hz => exact xp_mul ha hb hz.h
  | str hz => exact xp_mulS ha hb hz.h
theorem xe_fdiv {k : Int} (ha : Xp X B Γ a (.int m)) (hb : Xp X B Γ b (.int n)) (hc : FdivD m n k) : Xp X B Γ (.BinOp a .FloorDiv b pos) (.int k) := by
  cases hc with
  | lit h => exact xp_bin op_fdiv (opd_I h fun _ => .int _) ha hb
  | gen h => exact xp_fdiv ha hb h.h
theorem xe_mod (ha : Xp X B Γ a (.int m)) (hb : Xp X B Γ b (.int n)) (hc : Side (0 < n)) : Xp X B Γ (.BinOp a .Mod b pos) (.int (m % n)) := xp_mod ha hb hc.h
theorem xe_pow (ha : Xp X B Γ a (.int m)) (hb : Xp X B Γ b (.int n)) (hc : Side (CPow m n)) : Xp X B Γ (.BinOp a .Pow b pos) (.int (m ^ n.toNat)) := xp_pow ha hb hc.h




/-- one comparison, as a value and as a test -/
def CmpOk (X : Cx) (op : CmpOp) (d1 d2 : PyData) (p : Bool) : Prop := ∃ rr : R2, OpR X (compareOp op) rr ∧ OpD X.K rr d1 d2 (.bool p)
theorem xe_cmp {op : CmpOp} (hm : Tt (behindInMarks op b = false)) (ha : Xp X B Γ a d1) (hb : Xp X B Γ b d2) (k : CmpOk X op d1 d2 p) : Xp X B Γ (.Compare a [op] [b] pos) (.bool p) := by
  obtain ⟨rr, ho, hr⟩ := k
  exact xp_cmp ho hr ha hb hm.h
theorem xte_cmp {op : CmpOp} (hm : Tt (behindInMarks op b = false)) (ha : Xp X B Γ a d1) (hb : Xp X B Γ b d2) (k : CmpOk X op d1 d2 p) : Xt X B Γ (.Compare a [op] [b] pos) p := by
  obtain ⟨rr, ho, hr⟩ := k
  exact xt_cmp ho hr ha hb hm.h
theorem ck_lt : CmpOk X .Lt (.int m) (.int n) (decide (m < n)) := ⟨_, op_lt, opd_I0 fun _ => .bl _⟩
theorem ck_le : CmpOk X .LtE (.int m) (.int n) (decide (m ≤ n)) := ⟨_, op_le, opd_I0 fun _ => .bl _⟩
theorem ck_gt : CmpOk X .Gt (.int m) (.int n) (decide (n < m)) := ⟨_, op_gt, opd_I0 fun _ => .bl _⟩
theorem ck_ge : CmpOk X .GtE (.int m) (.int n) (decide (n ≤ m)) := ⟨_, op_ge, opd_I0 fun _ => .bl _⟩
theorem ck_eqi : CmpOk X .Eq (.int m) (.int n) (decide (m = n)) := by
  rw [← dec_int]
  exact ⟨_, op_eq, opd_sc (f := fun x y => decide (x = y)) (fun _ _ _ _ h q => ⟨h, q⟩) rfl dq_int dq_int⟩
theorem ck_nei : CmpOk X .NotEq (.int m) (.int n) (!decide (m = n)) := by
  rw [← dec_int]
  exact ⟨_, op_ne, opd_sc (f := fun x y => !decide (x = y)) (fun _ _ _ _ h q => ⟨h, q⟩) rfl dq_int dq_int⟩
theorem ck_eqs : CmpOk X .Eq (.str y) (.str z) (decide (y = z)) := by
  rw [← dec_str]
  exact ⟨_, op_eq, opd_sc (f := fun x y => decide (x = y)) (fun _ _ _ _ h q => ⟨h, q⟩) rfl dq_str dq_str⟩
theorem ck_nes : CmpOk X .NotEq (.str y) (.str z) (!decide (y = z)) := by
  rw [← dec_str]
  exact ⟨_, op_ne, opd_sc (f := fun x y => !decide (x = y)) (fun _ _ _ _ h q => ⟨h, q⟩) rfl dq_str dq_str⟩
theorem ck_eqb : CmpOk X .Eq (.bool p) (.bool q) (decide (p = q)) := by
  rw [← dec_bl]
  exact ⟨_, op_eq, opd_sc (f := fun x y => decide (x = y)) (fun _ _ _ _ h q => ⟨h, q⟩) rfl dq_bl dq_bl⟩
theorem ck_neb : CmpOk X .NotEq (.bool p) (.bool q) (!decide (p = q)) := by
  rw [← dec_bl]
  exact ⟨_, op_ne, opd_sc (f := fun x y => !decide (x = y)) (fun _ _ _ _ h q => ⟨h, q⟩) rfl dq_bl dq_bl⟩
/-- room for a deep comparison -/
structure Rm (X : Cx) : Prop where
  h : X.A.units + 64 < cLine
theorem ck_eqd (hu : Rm X) (h1 : Side (SeqAt.shaped d1 = true)) (h2 : Side (SeqAt.shaped d2 = true)) : CmpOk X .Eq d1 d2 (PyData.eqv d1 d2) :=
  ⟨_, op_eqD hu.h, fun H Hs u v s hx hy Q q => ⟨d1, d2, (dp_sub s hx).plain (shaped_plain h1.h), (dp_sub s hy).plain (shaped_plain h2.h), h1.h, h2.h, q _ H Hs (Gr.refl s) (.bl _)⟩⟩
theorem ck_ned (hu : Rm X) (h1 : Side (SeqAt.shaped d1 = true)) (h2 : Side (SeqAt.shaped d2 = true)) : CmpOk X .NotEq d1 d2 (!PyData.eqv d1 d2) :=
  ⟨_, op_neD hu.h, fun H Hs u v s hx hy Q q => ⟨d1, d2, (dp_sub s hx).plain (shaped_plain h1.h), (dp_sub s hy).plain (shaped_plain h2.h), h1.h, h2.h, q _ H Hs (Gr.refl s) (.bl _)⟩⟩
theorem ck_isN : CmpOk X .Is d .none (isNone d) := ⟨_, op_isN, fun H Hs u v s hx hy Q q => by
  cases hy
  refine ⟨rfl, ?_⟩
  rw [isNone_v hx]
  exact q _ H Hs (Gr.refl s) (.bl _)⟩
theorem ck_notN : CmpOk X .IsNot d .none (!isNone d) := ⟨_, op_notN, fun H Hs u v s hx hy Q q => by
  cases hy
  refine ⟨rfl, ?_⟩
  rw [isNone_v hx]
  exact q _ H Hs (Gr.refl s) (.bl _)⟩
theorem ck_isB : CmpOk X .Is (.bool p) (.bool q) (decide (p = q)) := ⟨_, op_is_bl, fun H Hs u v s hx hy Q q => by
  cases hx; cases hy
  exact ⟨_, _, rfl, rfl, q _ H Hs (Gr.refl s) (.bl _)⟩⟩
theorem ck_notB : CmpOk X .IsNot (.bool p) (.bool q) (!decide (p = q)) := ⟨_, op_isnot_bl, fun H Hs u v s hx hy Q q => by
  cases hx; cases hy
  exact ⟨_, _, rfl, rfl, q _ H Hs (Gr.refl s) (.bl _)⟩⟩
theorem ck_inL (f : Tt (flatD d = true)) (g : Tt (ds.all flatD = true)) : CmpOk X .In d (.list ds) (inD d ds) := ⟨_, op_in_seq, opd_in (neg := false) f.h g.h (.inl rfl)⟩
theorem ck_inT (f : Tt (flatD d = true)) (g : Tt (ds.all flatD = true)) : CmpOk X .In d (.tuple ds) (inD d ds) := ⟨_, op_in_seq, opd_in (neg := false) f.h g.h (.inr rfl)⟩
theorem ck_ninL (f : Tt (flatD d = true)) (g : Tt (ds.all flatD = true)) : CmpOk X .NotIn d (.list ds) (!inD d ds) := ⟨_, op_notIn_seq, opd_in (neg := true) f.h g.h (.inl rfl)⟩
theorem ck_ninT (f : Tt (flatD d = true)) (g : Tt (ds.all flatD = true)) : CmpOk X .NotIn d (.tuple ds) (!inD d ds) := ⟨_, op_notIn_seq, opd_in (neg := true) f.h g.h (.inr rfl)⟩
theorem ck_inS {k : Nat} : CmpOk X .In (.str ⟨#[k]⟩) (.str z) (decide (k ∈ z.cps.toList)) := ⟨_, op_in_sign, fun H Hs u v s hx hy Q q => by
  cases hx; cases hy
  exact ⟨k, z, rfl, rfl, q _ H Hs (Gr.refl s) (.bl _)⟩⟩
theorem ck_ninS {k : Nat} : CmpOk X .NotIn (.str ⟨#[k]⟩) (.str z) (!decide (k ∈ z.cps.toList)) := ⟨_, op_notIn_sign, fun H Hs u v s hx hy Q q => by
  cases hx; cases hy
  exact ⟨k, z, rfl, rfl, q _ H Hs (Gr.refl s) (.bl _)⟩⟩
/-- a < b < c -/
theorem de_chain {K : PySem.W.Frag} {ta tb tc : TE} {rr rr' : R2} (ha : DE K B ta Γ d1) (hb : DE K B tb Γ d2) (hr : OpD K rr d1 d2 (.bool p)) (hc : DE K B tc Γ d3) (hr' : OpD K rr' d2 d3 (.bool q)) : DE K B (tChain rr rr' ta tb tc) Γ (.bool (p && q)) :=
  fun H Hs σ E Q q' => ha H Hs σ E _ fun v H1 Hs1 g1 p1 => hb H1 Hs1 σ (E.grow g1) _ fun u H2 Hs2 g2 p2 => hr H2 Hs2 v u g2.sub (p1.mono g2.exs) p2 _ fun w H3 Hs3 g3 p3 => by
    cases p3
    refine ⟨p, rfl, ?_⟩
    have E3 := ((E.grow g1).grow g2).grow g3
    cases p with
    | true =>
      show tc σ H3 _
      exact hc H3 Hs3 σ E3 _ fun z H4 Hs4 g4 p4 => hr' H4 Hs4 u z g4.sub ((p2.mono g3.exs).mono g4.exs) p4 _ fun y H5 Hs5 g5 p5 => q' y H5 Hs5 ((((g1.trans g2).trans g3).trans g4).trans g5) p5
    | false => exact q' _ H3 Hs3 ((g1.trans g2).trans g3) (.bl _)
theorem xe_chain {op op' : CmpOp} (hm : Tt (lastMarks [op, op'] [b, c] = false)) (ha : Xp X B Γ a d1) (hb : Xp X B Γ b d2) (k : CmpOk X op d1 d2 p) (hc : Xp X B Γ c d3) (k' : CmpOk X op' d2 d3 q) : Xp X B Γ (.Compare a [op, op'] [b, c] pos) (.bool (p && q)) := by
  obtain ⟨rr, ho, hr⟩ := k
  obtain ⟨rr', ho', hr'⟩ := k'
  exact xp_of (pe_chain ho ho' pe_u pe_u pe_u hm.h) (de_chain ha hb hr hc hr')
theorem xte_chain {op op' : CmpOp} (hm : Tt (lastMarks [op, op'] [b, c] = false)) (ha : Xp X B Γ a d1) (hb : Xp X B Γ b d2) (k : CmpOk X op d1 d2 p) (hc : Xp X B Γ c d3) (k' : CmpOk X op' d2 d3 q) : Xt X B Γ (.Compare a [op, op'] [b, c] pos) (p && q) := by
  obtain ⟨rr, ho, hr⟩ := k
  obtain ⟨rr', ho', hr'⟩ := k'
  exact xt_of (pt_chain ho ho' pe_u pe_u pe_u hm.h) (dt_B (de_chain ha hb hr hc hr'))
/-! ### arguments, displays, more -/
theorem xe_ix (hs : Tt (PlainIx b)) (ha : Xp X B Γ a d1) (hb : Xp X B Γ b d2) (h : IxD d1 d2 d) : Xp X B Γ (.Subscript a b pos) d := by
  cases h with
  | lst h => exact xp_ixL hs.h ha hb h.h
  | tup h => exact xp_ixT hs.h ha hb h.h
  | str hz h => exact xp_ixS hs.h ha hb hz.h h.h
theorem xe_sl {lo hi : Option Expr} {l h : Option Int} {p2 : Pos} (he : Xp X B Γ e d1) (hl : Xo X B Γ lo l) (hh : Xo X B Γ hi h) (k : SlD d1 l h d) : Xp X B Γ (.Subscript e (.Slice lo hi none p2) pos) d := by
  cases k with
  | lst => exact xp_l (xl_sl he hl hh)
  | str hz => exact xp_slS he hz.h hl hh
theorem xe_len (hb : Bi X "len") (he : Tt (St1 X e [])) (hp : Tt (Pl1 X pos [])) (h : Xp X B Γ e d) (k : LenD d n) : Xp X B Γ (.Call (.Name "len" p') [e] [] pos) (.int n) := by
  cases k with
  | lst => exact xp_lenL hb he.h hp.h h
  | tup => exact xp_lenT hb he.h hp.h h
  | str hz => exact xp_lenS hb he.h hp.h h hz.h
theorem xe_lenO (hb : Bi X "len") {p2 : Pos} (he : Tt (St1 X (.Name x p2) [])) (hp : Tt (Pl1 X pos [])) (h : Rk X i x) (k : Tt (Γ[i]? = some (.ow ds))) : Xp X B Γ (.Call (.Name "len" p') [.Name x p2] [] pos) (.int ds.length) := xp_lenO hb he.h hp.h h k.h
theorem xe_abs (hb : Bi X "abs") (he : Tt (St1 X e [])) (hp : Tt (Pl1 X pos [])) (h : Xp X B Γ e (.int m)) : Xp X B Γ (.Call (.Name "abs" p') [e] [] pos) (.int (if m < 0 then -m else m)) := xp_abs hb he.h hp.h h
theorem xe_min (hc : Tt (X.calm = true)) (hb : Bi X "min") (he : Tt (St1 X e [a])) (he2 : Tt (St1 X a [])) (hp : Tt (Pl1 X pos [a])) (h : Xp X B Γ e (.int m)) (h2 : Xp X B Γ a (.int n)) : Xp X B Γ (.Call (.Name "min" p') [e, a] [] pos) (.int (if n < m then n else m)) := xp_min hc.h hb he.h he2.h hp.h h h2
theorem xe_max (hc : Tt (X.calm = true)) (hb : Bi X "max") (he : Tt (St1 X e [a])) (he2 : Tt (St1 X a [])) (hp : Tt (Pl1 X pos [a])) (h : Xp X B Γ e (.int m)) (h2 : Xp X B Γ a (.int n)) : Xp X B Γ (.Call (.Name "max" p') [e, a] [] pos) (.int (if n > m then n else m)) := xp_max hc.h hb he.h he2.h hp.h h h2
theorem xe_str (hb : Bi X "str") (he : Tt (St1 X e [])) (hp : Tt (Pl1 X pos [])) (h : Xp X B Γ e (.int m)) (hz : Side (m.natAbs.log2 < 1920)) : Xp X B Γ (.Call (.Name "str" p') [e] [] pos) (.str (toString m)) := xp_strI hb he.h hp.h h hz.h
theorem xe_int (hb : Bi X "int") (he : Tt (St1 X e [])) (hp : Tt (Pl1 X pos [])) (h : Xp X B Γ e d) (k : IntD d m) : Xp X B Γ (.Call (.Name "int" p') [e] [] pos) (.int m) := by
  cases k with
  | str hn hz => exact xp_intS hb he.h hp.h h hn.h hz.h
  | bl => exact xp_intB hb he.h hp.h h
theorem sortD2 {m n : Int} : SortD (.list [.int m, .int n]) [.int (min m n), .int (max m n)] := by
  have := SortD.ofI (ds := [.int m, .int n]) (ns := [m, n]) (ms := [min m n, max m n]) ⟨rfl, (show 2 < 64 by decide), ?_, ?_⟩
  · exact this
  · by_cases h : m ≤ n
    · rw [Int.min_eq_left h, Int.max_eq_right h]
    · rw [Int.min_eq_right (by omega), Int.max_eq_left (by omega)]
      exact List.Perm.swap _ _ _
  · refine List.pairwise_cons.mpr ⟨fun x hx => ?_, by simp⟩
    rw [List.mem_singleton.mp hx]
    omega
theorem xe_sorted (hb : Bi X "sorted") (he : Tt (St1 X e [])) (hp : Tt (Pl1 X pos [])) (h : Xp X B Γ e d) (k : SortD d ds) : Xp X B Γ (.Call (.Name "sorted" p') [e] [] pos) (.list ds) := by
  cases k with
  | ofI hm =>
    obtain ⟨⟨rfl, h1, h2, h3⟩⟩ := hm
    exact xp_l (xl_sortI hb he.h hp.h h h1 h2 h3)
/-- math.gcd under its own name -/
structure Gc (X : Cx) (x : Str) : Prop where
  gl : Gl X x
  is : X.mg x = some (.builtin "math.gcd")
  db : (x == ("__debug__" : Str)) = false
theorem xe_gcd (g : Gc X x) (he : Tt (St1 X e [a])) (he2 : Tt (St1 X a [])) (hp : Tt (Pl1 X pos [a])) (h : Xp X B Γ e (.int m)) (h2 : Xp X B Γ a (.int n)) : Xp X B Γ (.Call (.Name x p') [e, a] [] pos) (.int ((Nat.gcd m.natAbs n.natAbs : Nat) : Int)) := xp_gcd g.gl g.is g.db he.h he2.h hp.h h h2
/-- a built-in class by its name -/
structure Ty (X : Cx) (x : Str) (T : TyN) : Prop where
  bi : Bi X x
  is : bootBuiltins x = some (.type T.name)
  nn : x ≠ "__name__"
  db : (x == ("__debug__" : Str)) = false
theorem xe_isi {T : TyN} {p2 : Pos} (hb : Bi X "isinstance") (ht : Ty X x T) (he : Tt (St1 X e [.Name x p2])) (he2 : Tt (St1 X (.Name x p2) [])) (hp : Tt (Pl1 X pos [.Name x p2])) (h : Xp X B Γ e d) : Xp X B Γ (.Call (.Name "isinstance" p') [e, .Name x p2] [] pos) (.bool (isiD d T)) :=
  xp_isi hb ht.bi ht.is ht.nn ht.db he.h he2.h hp.h h (isi_ok d T)
theorem xe_partition (hb : Tt (Mb X o "partition")) (hf : Tt (Mf X pos e [])) (hl : Tt ((ap.endLine == pos.line) = true)) (he : Tt (St1 X e [])) (hp : Tt (Pl1 X pos [])) (ho : Xp X B Γ o (.str y)) (ha : Xp X B Γ e (.str z)) (h1 : Side ((z.length == 0) = false)) (h2 : Side (y.length ≤ sizeLine)) :
    Xp X B Γ (.Call (.Attribute o "partition" ap) [e] [] pos) (.tuple [.str (Txt.partition y z).1, .str (Txt.partition y z).2.1, .str (Txt.partition y z).2.2]) := xp_partition hb.h hf.h hl.h he.h hp.h ho ha h1.h h2.h
/-- a text cut, as known -/
structure Part (y z a s b : Str) : Prop where
  h : Txt.partition y z = (a, s, b)
theorem xe_partF {u v w : Str} (k : Part y z u v w) (hb : Tt (Mb X o "partition")) (hf : Tt (Mf X pos e [])) (hl : Tt ((ap.endLine == pos.line) = true)) (he : Tt (St1 X e [])) (hp : Tt (Pl1 X pos [])) (ho : Xp X B Γ o (.str y)) (ha : Xp X B Γ e (.str z)) (h1 : Side ((z.length == 0) = false)) (h2 : Side (y.length ≤ sizeLine)) :
    Xp X B Γ (.Call (.Attribute o "partition" ap) [e] [] pos) (.tuple [.str u, .str v, .str w]) := by
  have := xp_partition hb.h hf.h hl.h he.h hp.h ho ha h1.h h2.h
  rw [k.h] at this
  exact this
theorem xe_split (hb : Tt (Mb X o "split")) (hf : Tt (Mf X pos e [])) (hl : Tt ((ap.endLine == pos.line) = true)) (he : Tt (St1 X e [])) (hp : Tt (Pl1 X pos [])) (ho : Xp X B Γ o (.str y)) (ha : Xp X B Γ e (.str z)) (h1 : Side ((z.length == 0) = false)) (h2 : Side (y.length + 2 ≤ sizeLine)) :
    Xp X B Γ (.Call (.Attribute o "split" ap) [e] [] pos) (.list ((Txt.split y z).map .str)) := xp_l (xl_split hb.h hf.h hl.h he.h hp.h ho ha h1.h h2.h)
theorem xe_join {ys : List Str} (hb : Tt (Mb X o "join")) (hf : Tt (Mf X pos e [])) (hl : Tt ((ap.endLine == pos.line) = true)) (he : Tt (St1 X e [])) (hp : Tt (Pl1 X pos [])) (ho : Xp X B Γ o (.str y)) (ha : Xp X B Γ e (.list ds)) (hy : Side (ds = ys.map .str)) (hz : Side ((ys.map (·.length)).sum + ys.length * y.length ≤ 16777216)) :
    Xp X B Γ (.Call (.Attribute o "join" ap) [e] [] pos) (.str (Txt.join y ys)) := by
  obtain ⟨rfl⟩ := hy
  exact xp_join hb.h hf.h hl.h he.h hp.h ho ha hz.h
theorem xe_isdigit (hb : Tt (Mb X o "isdigit")) (hl : Tt ((ap.endLine == pos.line) = true)) (ho : Xp X B Γ o (.str y)) : Xp X B Γ (.Call (.Attribute o "isdigit" ap) [] [] pos) (.bool (Txt.isdigit y)) := xp_isdigit hb.h hl.h ho
theorem xe_isascii (hb : Tt (Mb X o "isascii")) (hl : Tt ((ap.endLine == pos.line) = true)) (ho : Xp X B Γ o (.str y)) : Xp X B Γ (.Call (.Attribute o "isascii" ap) [] [] pos) (.bool (Txt.isascii y)) := xp_isascii hb.h hl.h ho
theorem xe_upper (hb : Tt (Mb X o "upper")) (hl : Tt ((ap.endLine == pos.line) = true)) (ho : Xp X B Γ o (.str y)) (hz : Side (y.length ≤ 5592405)) : Xp X B Γ (.Call (.Attribute o "upper" ap) [] [] pos) (.str (Txt.upper y)) := xp_upper hb.h hl.h ho hz.h
/-- what a def of the module is called with, what it gives -/
structure Cal (R : List PyData → PyData → Prop) (ds : List PyData) (d : PyData) : Prop where
  h : R ds d
theorem xe_call {R : List PyData → PyData → Prop} (c : Ce X x R) (hg : Gl X x) (he : Tt (St1 X e es)) (hp : Tt (Pl1 X pos es)) (ha : Xa X B Γ (e :: es) ds) (hr : Cal R ds d) : Xp X B Γ (.Call (.Name x p') (e :: es) [] pos) d := xp_call hg c he.h hp.h ha hr.h
theorem xe_call0 {R : List PyData → PyData → Prop} (c : Ce X x R) (hg : Gl X x) (hr : Cal R [] d) : Xp X B Γ (.Call (.Name x p') [] [] pos) d := xp_call0 hg c hr.h
theorem xe_var (h : Rk X i x) (k : Tt (Γ[i]? = some (.sh d))) : Xp X B Γ (.Name x pos) d := xp_var h k.h
theorem xe_tup {x1} (h : Xa X B Γ es ds) (hl : Tt (decide (ds.length ≤ 16777216) = true)) : Xp X B Γ (.Tuple es x1 pos) (.tuple ds) := xp_tup h (by have := of_decide_eq_true hl.h; rw [sizeLine_eq]; exact this)
theorem xe_lst (h : Xa X B Γ es ds) (hl : Tt (decide (ds.length ≤ 16777216) = true)) : Xp X B Γ (.List es pos) (.list ds) := xp_l (xl_lst h (by have := of_decide_eq_true hl.h; rw [sizeLine_eq]; exact this))
theorem xle_lst (h : Xa X B Γ es ds) (hl : Tt (decide (ds.length ≤ 16777216) = true)) : Xl X B Γ (.List es pos) ds := xl_lst h (by have := of_decide_eq_true hl.h; rw [sizeLine_eq]; exact this)
theorem xae_cons (hs : Tt (St1 X e es)) (h : Xp X B Γ e d) (hr : Xa X B Γ es ds) : Xa X B Γ (e :: es) (d :: ds) := xa_cons hs.h h hr
/-- an answer that is known or open -/
theorem xe_and (h1 : Xp X B Γ a (.bool p)) (h2 : p = true → Xp X B Γ (.BoolOp .And (b :: es) pos) (.bool q)) : Xp X B Γ (.BoolOp .And (a :: b :: es) pos) (.bool (p && q)) := xp_and h1 h2
/-! tests -/
theorem xt_any (he : Tt (∀ whole, isTrue e X.env whole = (do let v ← whole; standAt e.pos; holding [v] (truthy v)))) (h : Xp X B Γ e d) (k : TruD d p) : Xt X B Γ e p := by
  cases k with
  | bl => exact xt_val he.h h
  | int => exact xt_tru he.h h trivial
  | non => exact xt_tru he.h h trivial
  | str hz => exact xt_tru he.h h hz.h
  | lst => exact xt_tru he.h h trivial
  | tup => exact xt_tru he.h h trivial
/-! ### statements -/
/-- a block's rest -/
def seqP (X : Cx) (B : Bs) (ss : List Stmt) (P : Out → Prop) : Out → Prop
  | .nx Γ => Xb X B Γ ss P
  | o => P o
theorem seq_nx (h : Xb X B Γ ss P) : seqP X B ss P (.nx Γ) := h
theorem seq_rt (h : P (.rt d)) : seqP X B ss P (.rt d) := h
theorem seq_ro (h : P (.ro ds)) : seqP X B ss P (.ro ds) := h
theorem seq_bk (h : P (.bk Γ)) : seqP X B ss P (.bk Γ) := h
theorem seq_ct (h : P (.ct Γ)) : seqP X B ss P (.ct Γ) := h
theorem xbe_cons (h : Xs X B Γ st (seqP X B ss P)) : Xb X B Γ (st :: ss) P := xb_of (pss_cons ps_u pb_u) (ds_seq (ds_imp h fun o ho => by cases o <;> exact ho))
theorem xbe_one (h : Xs X B Γ st P) : Xb X B Γ [st] P := xb_of (pss_one ps_u) h
theorem ret_rt (h : d1 = d) : RetP d (.rt d1) := .inl (by rw [h])
theorem turn_nx {I : Nat → Gm → Prop} {k : Nat} (h : I (k + 1) Γ) : turnS I k P (.nx Γ) := h
theorem turn_ct {I : Nat → Gm → Prop} {k : Nat} (h : I (k + 1) Γ) : turnS I k P (.ct Γ) := h
theorem turn_bk {I : Nat → Gm → Prop} {k : Nat} (h : P (.nx Γ)) : turnS I k P (.bk Γ) := h
theorem wh_nx {I : Nat → Gm → Prop} {k : Nat} (h : ∃ m', m' < k ∧ I m' Γ) : whS I k P (.nx Γ) := h
theorem wh_ct {I : Nat → Gm → Prop} {k : Nat} (h : ∃ m', m' < k ∧ I m' Γ) : whS I k P (.ct Γ) := h
theorem wh_bk {I : Nat → Gm → Prop} {k : Nat} (h : P (.nx Γ)) : whS I k P (.bk Γ) := h
theorem wh_rt {I : Nat → Gm → Prop} {k : Nat} (h : P (.rt d)) : whS I k P (.rt d) := h
theorem turn_rt {I : Nat → Gm → Prop} {k : Nat} (h : P (.rt d)) : turnS I k P (.rt d) := h
theorem xse_set {p2 : Pos} {Γ' : Gm} (k : Lk X i x) (hs : Tt (swapsWith e (some (.Name x p2)) pos.line X.env = pure false)) (h : Xp X B Γ e d) (hΓ : Sg (Γ.set i (.sh d)) Γ') (hP : P (.nx Γ')) : Xs X B Γ (.Assign [.Name x p2] e pos) P := xs_set k hs.h h (by rw [hΓ.h]; exact hP)
theorem xse_setO {p2 : Pos} {Γ' : Gm} (k : Lk X i x) (hs : Tt (swapsWith e (some (.Name x p2)) pos.line X.env = pure false)) (h : Xl X B Γ e ds) (hΓ : Sg (Γ.set i (.ow ds)) Γ') (hP : P (.nx Γ')) : Xs X B Γ (.Assign [.Name x p2] e pos) P := xs_setO k hs.h h (by rw [hΓ.h]; exact hP)
theorem xse_aug {p2 : Pos} {Γ' : Gm} (k : Lk X i x) (hi : Tt (Γ[i]? = some (.sh (.int m)))) (h : Xp X B Γ e (.int n)) (hΓ : Sg (Γ.set i (.sh (.int (m + n)))) Γ') (hP : P (.nx Γ')) : Xs X B Γ (.AugAssign (.Name x p2) .Add e pos) P := xs_augA k hi.h h (by rw [hΓ.h]; exact hP)
theorem xse_par {j : Nat} {x y : Str} {px py pt : Pos} {kt k2 pt2} {Γ' : Gm} (hc : Tt (X.calm = true)) (ki : Lk X i x) (kj : Lk X j y) (hij : Tt (decide (i ≠ j) = true)) (hx : Tt (X.env.scope.names.lookup x = some .local)) (hy : Tt (X.env.scope.names.lookup y = some .local))
    (hw : Tt (swappedStores [.Tuple [.Name x px, .Name y py] kt pt] (.Tuple [a, b] k2 pt2) X.env = pure (some [x, y]))) (hs : Tt (swapsWithSole [.Tuple [.Name x px, .Name y py] kt pt] (.Tuple [a, b] k2 pt2) pos.line X.env = pure false))
    (ha : Xa X B Γ [a, b] [d1, d2]) (hΓ : Sg ((Γ.set i (.sh d1)).set j (.sh d2)) Γ') (hP : P (.nx Γ')) : Xs X B Γ (.Assign [.Tuple [.Name x px, .Name y py] kt pt] (.Tuple [a, b] k2 pt2) pos) P := xs_par hc.h ki kj (of_decide_eq_true hij.h) hx.h hy.h hw.h hs.h ha (by rw [hΓ.h]; exact hP)
/-- a, b, .. = a tuple or a list -/
theorem xse_unp {tgs : List Expr} {kk : Nat} {js : List Nat} {Γ1 : Gm} (hc : Tt (X.calm = true)) (hs : Tt (swapsWithSole [.Tuple tgs kk p'] e pos.line X.env = pure false)) (hw : Tt (swappedStores [.Tuple tgs kk p'] e X.env = pure none)) (h1 : Tt ((assignEach [.Tuple tgs kk p'] X.env).map (·.2) = [assign (.Tuple tgs kk p') X.env]))
    (hn : Tt ((assignEach tgs X.env).length = tgs.length)) (hst : Tt ((assignEach tgs X.env).findIdx? (·.1) = none)) (h : Xp X B Γ e d) (u : UnpD d ds) (hl : Tt (ds.length = tgs.length)) (hg : Xgs X tgs js ds Γ Γ1) (hP : P (.nx Γ1)) : Xs X B Γ (.Assign [.Tuple tgs kk p'] e pos) P := by
  cases u with
  | tup => exact xs_asg hs.h hw.h h1.h h (xg_tup hc.h hn.h hst.h hl.h hg) hP
  | lst => exact xs_asg hs.h hw.h h1.h h (xg_unl hc.h hn.h hst.h hl.h hg) hP
theorem xge_name {p2 : Pos} {Γ' : Gm} (k : Lk X i x) (hΓ : Sg (Γ.set i (.sh d)) Γ') : Xg X (.Name x p2) [i] d Γ Γ' := by
  obtain ⟨rfl⟩ := hΓ
  exact xg_name k
theorem xgse_cons {tg : Expr} {tgs : List Expr} {js ks : List Nat} {Γ1 Γ2 : Gm} (hs : Tt ((assignEach (tg :: tgs) X.env).map (·.2) = assign tg X.env :: (assignEach tgs X.env).map (·.2))) (h : Xg X tg js d Γ Γ1) (hr : Xgs X tgs ks ds Γ1 Γ2) : Xgs X (tg :: tgs) (js ++ ks) (d :: ds) Γ Γ2 := xgs_cons hs.h h hr
theorem xge_tup {tgs : List Expr} {kk : Nat} {js : List Nat} {Γ1 : Gm} (hc : Tt (X.calm = true)) (hn : Tt ((assignEach tgs X.env).length = tgs.length)) (hst : Tt ((assignEach tgs X.env).findIdx? (·.1) = none)) (hl : Tt (ds.length = tgs.length)) (h : Xgs X tgs js ds Γ Γ1) : Xg X (.Tuple tgs kk pos) js (.tuple ds) Γ Γ1 := xg_tup hc.h hn.h hst.h hl.h h
theorem xse_app {p2 : Pos} {Γ' : Gm} (k : Rk X i x) (hs : Tt (swapsWith (.Call (.Attribute (.Name x p2) "append" ap) [e] [] p') none pos.line X.env = pure false)) (hb : Tt (Mb X (.Name x p2) "append")) (hf : Tt (Mf X p' e [])) (hl : Tt ((ap.endLine == p'.line) = true)) (he : Tt (St1 X e [])) (hp : Tt (Pl1 X p' []))
    (hi : Tt (Γ[i]? = some (.ow ds))) (h : Xp X B Γ e d) (hz : Side (ds.length < sizeLine)) (hΓ : Sg (Γ.set i (.ow (ds ++ [d]))) Γ') (hP : P (.nx Γ')) : Xs X B Γ (.Expr (.Call (.Attribute (.Name x p2) "append" ap) [e] [] p') pos) P := xs_app k hs.h hb.h hf.h hl.h he.h hp.h hi.h h hz.h (by rw [hΓ.h]; exact hP)
/-! iterables -/
theorem xie_any {tg : Expr} (h : Xp X B Γ e d) (k : ItrD d ds) : Xi X B Γ tg e ds := by
  cases k with
  | lst => exact xi_list h
  | tup => exact xi_tup h
  | str => exact xi_str h
theorem xie_rng1 {tg : Expr} (hb : Bi X "range") (he : Tt (St1 X e [])) (h : Xp X B Γ e (.int n)) (hn : Side (-(2 ^ 62) ≤ n ∧ n < 2 ^ 62)) : Xi X B Γ tg (.Call (.Name "range" p') [e] [] pos) (rangeD 0 n.toNat) := xi_rng1 hb he.h h hn.h
theorem xie_rng2 {tg : Expr} (hb : Bi X "range") (he1 : Tt (St1 X e [a])) (he2 : Tt (St1 X a [])) (h : Xp X B Γ e (.int m)) (h2 : Xp X B Γ a (.int n)) (hm : Side (-(2 ^ 62) ≤ m ∧ m < 2 ^ 62)) (hn : Side (-(2 ^ 62) ≤ n ∧ n < 2 ^ 62)) : Xi X B Γ tg (.Call (.Name "range" p') [e, a] [] pos) (rangeD m (n - m).toNat) :=
  xi_rng2 hb (by rw [he1.h, he2.h]; all_goals rfl) he1.h he2.h h h2 hm.h hn.h
theorem xie_enum {tgs : List Expr} {kk : Nat} {p3 : Pos} (hb : Bi X "enumerate") (he1 : Tt (St1 X e [])) (h : Xp X B Γ e (.list ds)) : Xi X B Γ (.Tuple tgs kk p3) (.Call (.Name "enumerate" p') [e] [] pos) (enumD 0 ds) := xi_enum hb (by rw [he1.h]; all_goals rfl) he1.h h
theorem xje_cons {acc out : Str} (h : Xp X B Γ e (.str y)) (hz : Side ((acc ++ y).length ≤ sizeLine)) (hr : Xj X B Γ es (acc ++ y) out) : Xj X B Γ (e :: es) acc out := xj_cons h hz.h hr
theorem xe_fmt (h : Xp X B Γ e d) (k : FmtD d y) : Xp X B Γ (.FormattedValue e (-1) none pos) (.str y) := by
  cases k with
  | str hz => exact xp_fmtS h hz.h
  | int hz => exact xp_fmtI h hz.h
end
section
variable [Tabs]
variable {X : Cx} {B : Bs} {Γ : Gm} {pos : Pos}
theorem xe_dict0 : Xp X B Γ (.Dict [] [] pos) (.dict []) := xp_of pe_dnewK fun H Hs σ E Q q => fun p n => q (.ref p) _ (upd Hs p (.dK [])) ((Gr.refl E.sub).share n) (.dic (.inl upd_same) .nil)
end
/-! ### what is left, made lighter -/
inductive IntsL : List PyData → List Int → Prop where
  | nil : IntsL [] []
  | cons {a : Int} {ds : List PyData} {L : List Int} : IntsL ds L → IntsL (.int a :: ds) (a :: L)
inductive StrsL : List PyData → List Str → Prop where
  | nil : StrsL [] []
  | cons {a : Str} {ds : List PyData} {L : List Str} : StrsL ds L → StrsL (.str a :: ds) (a :: L)
theorem IntsL.eq {ds : List PyData} {L : List Int} (h : IntsL ds L) : ds = L.map .int := by
  induction h with
  | nil => rfl
  | cons _ ih => rw [ih]; rfl
theorem StrsL.eq {ds : List PyData} {L : List Str} (h : StrsL ds L) : ds = L.map .str := by
  induction h with
  | nil => rfl
  | cons _ ih => rw [ih]; rfl
theorem atI_pos {α : Type} {xs : List α} {i : Int} (h0 : 0 ≤ i) (h1 : i < xs.length) : atI xs i = xs[i.toNat]? := by
  unfold atI ixN
  rw [if_pos h0, if_pos h1]; rfl
theorem at_ints {ds : List PyData} {L : List Int} {i : Int} (h : IntsL ds L) (hi : Side (0 ≤ i ∧ i < L.length)) : Side (atI ds i = some (.int (L.getD i.toNat 0))) := by
  obtain ⟨h0, h1⟩ := hi.h
  refine ⟨?_⟩
  rw [h.eq, atI_pos h0 (by rw [List.length_map]; exact h1), List.getElem?_map, List.getD_eq_getElem?_getD, List.getElem?_eq_getElem (show i.toNat < L.length by omega)]; rfl
theorem at_any {ds : List PyData} {i : Int} (hi : Side (0 ≤ i ∧ i < ds.length)) : Side (atI ds i = some (ds.getD i.toNat .none)) := by
  obtain ⟨h0, h1⟩ := hi.h
  refine ⟨?_⟩
  rw [atI_pos h0 h1, List.getD_eq_getElem?_getD, List.getElem?_eq_getElem (show i.toNat < ds.length by omega)]; rfl
theorem getD_all {α : Type} {p : α → Prop} {L : List α} {i : Nat} {d : α} (h : ∀ x ∈ L, p x) (hi : i < L.length) : p (L.getD i d) := by
  rw [List.getD_eq_getElem?_getD, List.getElem?_eq_getElem hi]
  exact h _ (List.getElem_mem hi)
theorem at_0 {a : PyData} {r : List PyData} : Side (atI (a :: r) 0 = some a) := ⟨atI_nat (j := 0) rfl⟩
theorem at_1 {a b : PyData} {r : List PyData} : Side (atI (a :: b :: r) 1 = some b) := ⟨atI_nat (j := 1) rfl⟩
theorem at_2 {a b c : PyData} {r : List PyData} : Side (atI (a :: b :: c :: r) 2 = some c) := ⟨atI_nat (j := 2) rfl⟩
theorem at_strs {ds : List PyData} {L : List Str} {i : Int} (h : StrsL ds L) (hi : Side (0 ≤ i ∧ i < L.length)) : Side (atI ds i = some (.str (L.getD i.toNat Str.empty))) := by
  obtain ⟨h0, h1⟩ := hi.h
  refine ⟨?_⟩
  rw [h.eq, atI_pos h0 (by rw [List.length_map]; exact h1), List.getElem?_map, List.getD_eq_getElem?_getD, List.getElem?_eq_getElem (show i.toNat < L.length by omega)]; rfl
theorem side_mul {m n : Int} (a b : Nat) (ha : m.natAbs < 2 ^ a) (hb : n.natAbs < 2 ^ b) (h0 : 0 < a := by decide) (h1 : 0 < b := by decide) (h : a + b ≤ 1000000 := by decide) : Side (CMulW m n) := ⟨wide_mul ha hb h0 h1 h⟩
theorem two64 : (2 : Nat) ^ 64 = 18446744073709551616 := by decide
theorem side_mul64 {m n : Int} (h : -18446744073709551616 < m ∧ m < 18446744073709551616 ∧ -18446744073709551616 < n ∧ n < 18446744073709551616) : Side (CMulW m n) := by
  refine side_mul 64 64 ?_ ?_ <;> rw [two64] <;> omega
theorem side_fdiv {m n : Int} (a : Nat) (h : n ≠ 0) (hb : n.natAbs < 2 ^ a) (h0 : 0 < a := by decide) (h9 : a ≤ 9000 := by decide) : Side (CDivG m n) := ⟨h, Nat.lt_of_lt_of_le (PySem.Flt.log2_lt_of h0 hb) h9⟩
theorem side_fdiv64 {m n : Int} (h : n ≠ 0 ∧ -18446744073709551616 < n ∧ n < 18446744073709551616) : Side (CDivG m n) := by
  refine side_fdiv 64 h.1 ?_
  rw [two64]
  omega
theorem side_str {m : Int} (a : Nat) (hb : m.natAbs < 2 ^ a) (h0 : 0 < a := by decide) (h9 : a ≤ 1920 := by decide) : Side (m.natAbs.log2 < 1920) := ⟨Nat.lt_of_lt_of_le (PySem.Flt.log2_lt_of h0 hb) h9⟩
theorem side_size {n : Nat} (h : n ≤ 1000000) : n ≤ sizeLine := by rw [sizeLine_eq]; omega
end Dl
set_option Elab.async false
set_option linter.all false
set_option maxRecDepth 100000
set_option maxHeartbeats 2000000
namespace Sm
open PySem L2 Dl PySem.NumText TL
/-! ### sizes -/
def Bd (k : Nat) (n : Int) : Prop := n.natAbs < 2 ^ k
theorem Bd.mono {j k : Nat} {n : Int} (h : Bd j n) (e : j ≤ k := by decide) : Bd k n := Nat.lt_of_lt_of_le h (Nat.pow_le_pow_right (by decide) e)
theorem Bd.le {k : Nat} {m n : Int} (h : Bd k n) (e : m.natAbs ≤ n.natAbs) : Bd k m := Nat.lt_of_le_of_lt e h
theorem Bd.mul {j k : Nat} {m n : Int} (h : Bd j m) (h2 : Bd k n) : Bd (j + k) (m * n) := wide_lt h h2
theorem Bd.add {k : Nat} {m n : Int} (h : Bd k m) (h2 : Bd k n) : Bd (k + 1) (m + n) := by
  unfold Bd at *
  rw [Nat.pow_succ]
  omega
theorem Bd.neg {k : Nat} {m : Int} (h : Bd k m) : Bd k (-m) := by
  unfold Bd at *
  rw [Int.natAbs_neg]
  exact h
theorem Bd.sub {k : Nat} {m n : Int} (h : Bd k m) (h2 : Bd k n) : Bd (k + 1) (m - n) := by
  rw [Int.sub_eq_add_neg]
  exact h.add h2.neg
theorem Bd.of {k : Nat} {n : Int} (h : n.natAbs < 2 ^ k) : Bd k n := h
theorem Bd.of64 {n : Int} (h : -18446744073709551616 < n ∧ n < 18446744073709551616) : Bd 64 n := by
  unfold Bd
  rw [two64]
  omega
theorem side_mulB (j k : Nat) {m n : Int} (h : Bd j m) (h2 : Bd k n) (h0 : 0 < j := by decide) (h1 : 0 < k := by decide) (e : j + k ≤ 1000000 := by decide) : Side (CMulW m n) := side_mul j k h h2 h0 h1 e
theorem side_fdivB (k : Nat) {m n : Int} (h : n ≠ 0) (h2 : Bd k n) (h0 : 0 < k := by decide) (h9 : k ≤ 9000 := by decide) : Side (CDivG m n) := side_fdiv k h h2 h0 h9
theorem side_strB (k : Nat) {m : Int} (h : Bd k m) (h0 : 0 < k := by decide) (h9 : k ≤ 1920 := by decide) : Side (m.natAbs.log2 < 1920) := side_str k h h0 h9
/-! ### shares -/
abbrev pairD (z : Int × Int) : PyData := .tuple [.int z.1, .int z.2]
def gcdI (n p : Int) : Int := ((Nat.gcd n.natAbs p.natAbs : Nat) : Int)
theorem gcdI_pos {n p : Int} (h : p ≠ 0) : 0 < gcdI n p := by
  unfold gcdI
  have : 0 < Nat.gcd n.natAbs p.natAbs := Nat.gcd_pos_of_pos_right _ (by omega)
  omega
theorem gcdI_le {n p : Int} (h : p ≠ 0) : (gcdI n p).natAbs ≤ p.natAbs := by
  unfold gcdI
  rw [Int.natAbs_natCast]
  exact Nat.le_of_dvd (by omega) (Nat.gcd_dvd_right _ _)
theorem gcdI_dvd1 (n p : Int) : gcdI n p ∣ n := Int.ofNat_dvd_left.mpr (Nat.gcd_dvd_left _ _)
theorem gcdI_dvd2 (n p : Int) : gcdI n p ∣ p := Int.ofNat_dvd_left.mpr (Nat.gcd_dvd_right _ _)
/-- one parted by the other in lowest terms -/
def redI (n p : Int) : Int × Int := ((if p < 0 then -n else n) / gcdI n p, (if p < 0 then -p else p) / gcdI n p)
theorem red_neg {n p : Int} (h : p < 0) : (n.fdiv (-gcdI n p), p.fdiv (-gcdI n p)) = redI n p := by
  have g := gcdI_pos (n := n) (p := p) (by omega)
  have e : ∀ x : Int, x.fdiv (-gcdI n p) = (-x) / gcdI n p := fun x => by
    rw [← Int.fdiv_eq_ediv_of_nonneg _ (by omega), ← Int.neg_fdiv_neg, Int.neg_neg]
  unfold redI
  rw [if_pos h, if_pos h, e, e]
theorem red_pos {n p : Int} (h : ¬ p < 0) : (n.fdiv (gcdI n p), p.fdiv (gcdI n p)) = redI n p := by
  have e : ∀ x : Int, x.fdiv (gcdI n p) = x / gcdI n p := fun x => Int.fdiv_eq_ediv_of_nonneg _ (by unfold gcdI; omega)
  unfold redI
  rw [if_neg h, if_neg h, e, e]
theorem red_neg2 (n p : Int) (h : p < 0) : redI (-n) (-p) = redI n p := by
  unfold redI
  rw [if_neg (by omega), if_neg (by omega), if_pos h, if_pos h]
  unfold gcdI
  rw [Int.natAbs_neg, Int.natAbs_neg]
theorem ediv_natAbs_le (x g : Int) (h : 0 < g) : (x / g).natAbs ≤ x.natAbs := by
  by_cases hx : 0 ≤ x
  · have h1 := Int.ediv_nonneg hx (Int.le_of_lt h)
    have h2 : x / g ≤ x := Int.ediv_le_self _ hx
    omega
  · have h1 : x ≤ x / g := by
      have := Int.le_ediv_of_mul_le h (show x * g ≤ x by
        have h3 : x * g ≤ x * 1 := Int.mul_le_mul_of_nonpos_left (by omega) (by omega)
        omega)
      exact this
    have h2 : x / g < 0 := Int.ediv_neg_of_neg_of_pos (by omega) h
    omega
theorem red_le1 (n : Int) {p : Int} (h : p ≠ 0) : (redI n p).1.natAbs ≤ n.natAbs := by
  unfold redI
  have g := gcdI_pos (n := n) h
  refine Nat.le_trans (ediv_natAbs_le _ _ g) ?_
  split <;> omega
theorem red_le2 (n : Int) {p : Int} (h : p ≠ 0) : (redI n p).2.natAbs ≤ p.natAbs := by
  unfold redI
  have g := gcdI_pos (n := n) h
  refine Nat.le_trans (ediv_natAbs_le _ _ g) ?_
  split <;> omega
theorem red_pos2 (n : Int) {p : Int} (h : p ≠ 0) : 0 < (redI n p).2 := by
  unfold redI
  have g := gcdI_pos (n := n) h
  have d : gcdI n p ∣ (if p < 0 then -p else p) := by
    split
    · exact Int.dvd_neg.mpr (gcdI_dvd2 n p)
    · exact gcdI_dvd2 n p
  obtain ⟨k, hk⟩ := d
  show 0 < (if p < 0 then -p else p) / gcdI n p
  rw [hk, Int.mul_ediv_cancel_left _ (by omega)]
  have hp : 0 < (if p < 0 then -p else p) := by split <;> omega
  rw [hk] at hp
  exact Int.pos_of_mul_pos_right hp (by omega) |> fun h => by
    first
    | exact h
    | omega
theorem red_gcd (n : Int) {p : Int} (h : p ≠ 0) : gcdI (redI n p).1 (redI n p).2 = 1 := by
  have g := gcdI_pos (n := n) h
  have e : ∀ x : Int, ((if p < 0 then -x else x) / gcdI n p).natAbs = x.natAbs / (Nat.gcd n.natAbs p.natAbs) ∨ ¬ gcdI n p ∣ x := fun x => by
    by_cases hd : gcdI n p ∣ x
    · left
      obtain ⟨k, hk⟩ := hd
      have e1 : (if p < 0 then -x else x) = gcdI n p * (if p < 0 then -k else k) := by
        split
        · rw [hk, Int.mul_neg]
        · exact hk
      rw [e1, Int.mul_ediv_cancel_left _ (by omega), hk, Int.natAbs_mul]
      have e2 : (gcdI n p).natAbs = Nat.gcd n.natAbs p.natAbs := by unfold gcdI; rw [Int.natAbs_natCast]
      rw [e2, Nat.mul_div_cancel_left _ (by unfold gcdI at g; omega)]
      split <;> omega
    · exact .inr hd
  have e1 := (e n).resolve_right fun z => z (gcdI_dvd1 n p)
  have e2 := (e p).resolve_right fun z => z (gcdI_dvd2 n p)
  unfold gcdI redI
  rw [show (((if p < 0 then -n else n) / gcdI n p, (if p < 0 then -p else p) / gcdI n p) : Int × Int).1 = (if p < 0 then -n else n) / gcdI n p from rfl, show (((if p < 0 then -n else n) / gcdI n p, (if p < 0 then -p else p) / gcdI n p) : Int × Int).2 = (if p < 0 then -p else p) / gcdI n p from rfl, e1, e2,
    Nat.gcd_div (Nat.gcd_dvd_left _ _) (Nat.gcd_dvd_right _ _), Nat.div_self (by unfold gcdI at g; omega)]
  rfl
/-- a pair in lowest terms stays -/
theorem red_low {a b : Int} (hb : 0 < b) (hg : gcdI a b = 1) : redI a b = (a, b) := by
  unfold redI
  rw [if_neg (by omega), if_neg (by omega), hg, Int.ediv_one, Int.ediv_one]
def isWhole : PyData → Bool
  | .int _ => true
  | _ => false
def isShare : PyData → Bool
  | .tuple ds => match ds with
    | [a, b] => match a, b with
      | .int n, .int m => decide (1 ≤ m) && decide (gcdI n m = 1)
      | _, _ => false
    | _ => false
  | _ => false
theorem whole_is {d : PyData} (h : isWhole d = true) : ∃ n, d = .int n := by
  cases d <;> first | exact ⟨_, rfl⟩ | cases h
theorem share_red (n : Int) {p : Int} (h : p ≠ 0) : isShare (pairD (redI n p)) = true := by
  show (decide (1 ≤ (redI n p).2) && decide (gcdI (redI n p).1 (redI n p).2 = 1)) = true
  rw [decide_eq_true (by have := red_pos2 n h; omega), decide_eq_true (red_gcd n h)]; rfl
theorem isShare_no {a b : PyData} (h : isWhole a = false ∨ isWhole b = false) : isShare (.tuple [a, b]) = false := by
  cases a <;> cases b <;> first | rfl | (rcases h with h | h <;> cases h)
theorem isShare_len {ds : List PyData} (h : ds.length ≠ 2) : isShare (.tuple ds) = false := by
  match ds, h with
  | [], _ => rfl
  | [_], _ => rfl
  | [_, _], h => exact absurd rfl h
  | _ :: _ :: _ :: _, _ => rfl
theorem slash_signs : tl (Str.ofString "/") = 47 :: [] := by decide +kernel
theorem part_len (y : Str) : (Txt.partition y "/").1.length ≤ y.length ∧ (Txt.partition y "/").2.2.length ≤ y.length := by
  have g : ∀ (S l acc a b : List Nat), par S acc l = some (a, b) → a.length + b.length ≤ acc.length + l.length := fun S l => by
    induction l with
    | nil => intro acc a b h; cases h
    | cons c r ih =>
      intro acc a b h
      unfold par at h
      split at h
      · cases h
        rw [List.length_drop]
        omega
      · have := ih _ _ _ h
        rw [List.length_append, List.length_singleton] at this
        rw [List.length_cons]
        omega
  rw [partition_par y "/" (by rw [slash_signs]; simp)]
  cases h : par (tl "/") [] (tl y) with
  | none => exact ⟨Nat.le_refl _, Nat.zero_le _⟩
  | some z =>
    obtain ⟨a, b⟩ := z
    have := g _ _ _ _ _ h
    rw [List.length_nil, Nat.zero_add] at this
    have e1 : (⟨a.toArray⟩ : Str).length = a.length := by rw [len_tl]
    have e2 : (⟨b.toArray⟩ : Str).length = b.length := by rw [len_tl]
    show (⟨a.toArray⟩ : Str).length ≤ _ ∧ (⟨b.toArray⟩ : Str).length ≤ _
    rw [e1, e2, len_tl]
    exact ⟨by omega, by omega⟩
/-! ### figures -/
def digC (c : Nat) : Bool := decide (48 ≤ c) && decide (c ≤ 57)
def figOk (l : List Nat) : Bool := !l.isEmpty && l.all digC && !(l.head? == some 48 && decide (1 < l.length))
def figI (m : Nat) (y : Str) : Option Int := if decide (y.length ≤ m) && figOk y.cps.toList then some ((digitsVal y.cps.toList : Nat) : Int) else none
def optI : Option Int → PyData
  | none => .none
  | some i => .int i
def optP : Option (Int × Int) → PyData
  | none => .none
  | some z => pairD z
theorem isDigit_small : ∀ c : Nat, c < 128 → Unicode.isDigit c = digC c := by decide +kernel
theorem len_list (y : Str) : y.length = y.cps.toList.length := by simp [Str.length]
theorem ascii_digits {y : Str} : (Txt.isascii y && Txt.isdigit y) = (!y.cps.toList.isEmpty && y.cps.toList.all digC) := by
  unfold Txt.isascii Txt.isdigit
  rw [len_list, ← Array.all_toList, ← Array.all_toList]
  generalize y.cps.toList = l
  have e : ∀ l : List Nat, (l.all (fun x => decide (x < 128)) && l.all Unicode.isDigit) = l.all digC := fun l => by
    induction l with
    | nil => rfl
    | cons c r ih =>
      rw [List.all_cons, List.all_cons, List.all_cons, ← ih]
      by_cases hc : c < 128
      · rw [isDigit_small c hc, decide_eq_true hc]
        cases r.all (fun x => decide (x < 128)) <;> cases digC c <;> simp
      · rw [decide_eq_false hc]
        have : digC c = false := by
          unfold digC
          have : ¬ c ≤ 57 := by omega
          rw [decide_eq_false this, Bool.and_false]
        rw [this]
        simp
  rw [← e l]
  cases l with
  | nil => rfl
  | cons c r => simp only [List.length_cons, List.isEmpty_cons, Bool.not_false, Bool.true_and, Nat.zero_lt_succ, decide_true, gt_iff_lt]
theorem fig_text {m : Nat} {y : Str} {i : Int} (hm : m ≤ 640) (h : figI m y = some i) : PySem.intText? y = some i ∧ y.length ≤ 640 := by
  unfold figI at h
  split at h
  · rename_i hc
    rw [Bool.and_eq_true, decide_eq_true_eq] at hc
    obtain ⟨h1, h2⟩ := hc
    unfold figOk at h2
    simp only [Bool.and_eq_true, Bool.not_eq_true', List.all_eq_true] at h2
    cases h
    refine ⟨intText_digits (fun c hc => ?_) ?_ (by omega), by omega⟩
    · have := h2.1.2 c hc
      unfold digC at this
      simp only [Bool.and_eq_true, decide_eq_true_eq] at this
      exact this
    · intro e
      rw [e] at h2
      simp at h2
  · cases h
theorem digitsVal_bound : ∀ l : List Nat, (∀ c ∈ l, c ≤ 57) → digitsVal l < 10 ^ l.length := fun l => by
  have g : ∀ (l : List Nat) (acc k : Nat), (∀ c ∈ l, c ≤ 57) → acc < 10 ^ k → l.foldl (fun acc c => acc * 10 + (c - 48)) acc < 10 ^ (k + l.length) := fun l => by
    induction l with
    | nil => intro acc k _ h; simpa using h
    | cons c r ih =>
      intro acc k hl h
      have h1 := hl c List.mem_cons_self
      have := ih (acc * 10 + (c - 48)) (k + 1) (fun d hd => hl d (List.mem_cons_of_mem _ hd)) (by rw [Nat.pow_succ]; omega)
      rw [List.length_cons, show k + (r.length + 1) = k + 1 + r.length by omega]
      exact this
  intro h
  have := g l 0 0 h (by decide)
  rw [Nat.zero_add] at this
  exact this
theorem pow10_lt (k : Nat) : 10 ^ k ≤ 2 ^ (4 * k) := by
  rw [Nat.pow_mul]
  exact Nat.pow_le_pow_left (by decide) k
theorem fig_bound {m : Nat} {y : Str} {i : Int} (hm : m ≤ 640) (h : figI m y = some i) : 0 ≤ i ∧ Bd 2560 i := by
  unfold figI at h
  split at h
  · rename_i hc
    rw [Bool.and_eq_true, decide_eq_true_eq] at hc
    obtain ⟨h1, h2⟩ := hc
    unfold figOk at h2
    simp only [Bool.and_eq_true, Bool.not_eq_true', List.all_eq_true] at h2
    cases h
    have b := digitsVal_bound y.cps.toList fun c hc => by
      have := h2.1.2 c hc
      unfold digC at this
      simp only [Bool.and_eq_true, decide_eq_true_eq] at this
      exact this.2
    have l1 : y.cps.toList.length ≤ 640 := by rw [← len_list]; omega
    refine ⟨Int.natCast_nonneg _, ?_⟩
    unfold Bd
    rw [Int.natAbs_natCast]
    exact Nat.lt_of_lt_of_le b (Nat.le_trans (Nat.pow_le_pow_right (by decide) l1) (pow10_lt 640))
  · cases h
/-- the text of a share -/
def shareIn (y : Str) : Option (Int × Int) :=
  match figI 400 (Txt.partition y "/").1, figI 400 (Txt.partition y "/").2.2 with
  | some n, some p => if p = 0 then none else some (redI n p)
  | _, _ => none
theorem fig_no1 {y : Str} (h : 400 < (y.length : Int)) : figI 400 y = none := by
  unfold figI
  rw [decide_eq_false (by omega)]; rfl
theorem fig_no2 {y : Str} (h : Txt.isascii y = false ∨ Txt.isdigit y = false) : figI 400 y = none := by
  have e := ascii_digits (y := y)
  have e2 : (Txt.isascii y && Txt.isdigit y) = false := by rcases h with h | h <;> rw [h] <;> simp
  rw [e2] at e
  unfold figI figOk
  rw [← e]
  simp
theorem fig_head {y : Str} (h : Txt.isascii y = true ∧ Txt.isdigit y = true) : ∃ c r, y.cps.toList = c :: r ∧ (∀ x ∈ c :: r, 48 ≤ x ∧ x ≤ 57) := by
  have e := ascii_digits (y := y)
  rw [h.1, h.2] at e
  cases hl : y.cps.toList with
  | nil => rw [hl] at e; cases e
  | cons c r =>
    rw [hl] at e
    have e2 : (c :: r).all digC = true := by simpa using e.symm
    rw [List.all_eq_true] at e2
    refine ⟨c, r, rfl, fun x hx => ?_⟩
    have := e2 x hx
    unfold digC at this
    simpa using this
theorem fig_at {y : Str} (h : Txt.isascii y = true ∧ Txt.isdigit y = true) : Side (atI y.cps.toList 0 = some (y.cps.toList.headD 0)) := by
  obtain ⟨c, r, e, _⟩ := fig_head h
  rw [e]
  exact ⟨atI_nat (j := 0) rfl⟩
theorem fig_okd {y : Str} (h : Txt.isascii y = true ∧ Txt.isdigit y = true) : figOk y.cps.toList = !(decide (y.cps.toList.headD 0 = 48) && decide (1 < y.cps.toList.length)) := by
  obtain ⟨c, r, e, hd⟩ := fig_head h
  unfold figOk
  rw [e]
  have : (c :: r).all digC = true := by
    rw [List.all_eq_true]
    intro x hx
    unfold digC
    rw [decide_eq_true (hd x hx).1, decide_eq_true (hd x hx).2]; rfl
  rw [this]
  show (true && true && !((some c == some 48) && decide (1 < (c :: r).length))) = !(decide (c = 48) && decide (1 < (c :: r).length))
  have e1 : ((some c : Option Nat) == some 48) = decide (c = 48) := by
    by_cases hc : c = 48 <;> simp [hc]
  rw [e1]; rfl
theorem str_eq {x y : Str} (h : x.cps.toList = y.cps.toList) : x = y := ext_tl h
theorem zero_signs : (Str.ofString "0").cps.toList = [48] := by decide +kernel
theorem one_zero {y : Str} (h : Txt.isascii y = true ∧ Txt.isdigit y = true) : (y.cps.toList.headD 0 = 48 ∧ ¬ 1 < y.cps.toList.length) ↔ y = Str.ofString "0" := by
  obtain ⟨c, r, e, _⟩ := fig_head h
  rw [e]
  constructor
  · intro ⟨h1, h2⟩
    apply str_eq
    rw [e, zero_signs]
    have h3 : c = 48 := h1
    cases r with
    | nil => rw [h3]
    | cons a b => simp at h2
  · intro z
    rw [z, zero_signs] at e
    cases e
    exact ⟨rfl, by decide⟩
theorem sgn_zero {c : Nat} : (⟨#[c]⟩ : Str) = Str.ofString "0" ↔ c = 48 := by
  constructor
  · intro h
    have := congrArg (fun z : Str => z.cps.toList) h
    simp only [zero_signs] at this
    simpa using this
  · intro h
    apply str_eq
    rw [zero_signs, h]
theorem fig_no3 {y : Str} (h : Txt.isascii y = true ∧ Txt.isdigit y = true) (h1 : (⟨#[y.cps.toList.headD 0]⟩ : Str) = Str.ofString "0" ∧ ¬ y = Str.ofString "0") : figI 400 y = none := by
  have a := sgn_zero.mp h1.1
  have b : 1 < y.cps.toList.length := by
    by_cases z : 1 < y.cps.toList.length
    · exact z
    · exact absurd ((one_zero h).mp ⟨a, z⟩) h1.2
  unfold figI
  rw [fig_okd h, decide_eq_true a, decide_eq_true b]
  simp
theorem fig_yes {y : Str} (h0 : ¬ 400 < (y.length : Int)) (h : Txt.isascii y = true ∧ Txt.isdigit y = true) (h1 : ¬ (⟨#[y.cps.toList.headD 0]⟩ : Str) = Str.ofString "0" ∨ y = Str.ofString "0") : figI 400 y = some ((digitsVal y.cps.toList : Nat) : Int) := by
  have : (decide (y.cps.toList.headD 0 = 48) && decide (1 < y.cps.toList.length)) = false := by
    rcases h1 with h1 | h1
    · rw [decide_eq_false fun z => h1 (sgn_zero.mpr z)]; rfl
    · rw [decide_eq_false ((one_zero h).mpr h1).2, Bool.and_false]
  unfold figI
  rw [fig_okd h, this, decide_eq_true (by omega)]; rfl
/-! ### numbers as texts -/
theorem num_head : ∀ n : Nat, n ≠ 0 → (numL n).head? ≠ some 48 := fun n => by
  induction n using Nat.strongRecOn with
  | _ n ih =>
    intro hn
    by_cases h : n < 10
    · rw [numL_lt h]
      intro e
      have : 48 + n = 48 := Option.some.inj e
      omega
    · rw [numL_step (by omega)]
      have hne := numL_ne (n / 10)
      have := ih (n / 10) (by omega) (by omega)
      cases hl : numL (n / 10) with
      | nil => exact absurd hl hne
      | cons c r =>
        rw [hl] at this
        exact this
theorem num_ok (n : Nat) : figOk (numL n) = true := by
  unfold figOk
  have h1 : (numL n).all digC = true := by
    rw [List.all_eq_true]
    intro c hc
    have := numL_digits n c hc
    unfold digC
    rw [decide_eq_true this.1, decide_eq_true this.2]; rfl
  have h2 : (numL n).isEmpty = false := by
    cases h : numL n with
    | nil => exact absurd h (numL_ne n)
    | cons c r => rfl
  rw [h1, h2]
  by_cases h0 : n = 0
  · subst h0
    rw [numL_lt (by decide)]; rfl
  · have h3 := num_head n h0
    have : ((numL n).head? == some 48) = false := by
      cases h : (numL n).head? == some 48 with
      | false => rfl
      | true => exact absurd (eq_of_beq h) h3
    rw [this]; rfl
/-- the text of a number that isn't below nought -/
theorem fig_num {m k : Nat} {a : Int} (h0 : 0 ≤ a) (hk : 0 < k) (h : a.natAbs < 10 ^ k) (hm : k ≤ m) : figI m (Str.ofString (toString a)) = some a := by
  obtain ⟨n, rfl⟩ := Int.eq_ofNat_of_zero_le h0
  rw [Int.natAbs_natCast] at h
  have e : (Str.ofString (toString ((n : Nat) : Int))).cps.toList = numL n := tl_num n
  unfold figI
  rw [e, num_ok, Bool.and_true, decide_eq_true (by rw [len_list, e]; exact Nat.le_trans (numL_len hk h) hm), if_pos rfl, numL_val]
theorem num_slash (a : Int) (h0 : 0 ≤ a) : (47 : Nat) ∉ (Str.ofString (toString a)).cps.toList := by
  obtain ⟨n, rfl⟩ := Int.eq_ofNat_of_zero_le h0
  have e : (Str.ofString (toString ((n : Nat) : Int))).cps.toList = numL n := tl_num n
  rw [e]
  exact numL_free (.inl (by decide))
def shareText (a b : Int) : Str := Str.ofString (toString a) ++ Str.ofString "/" ++ Str.ofString (toString b)
theorem share_back {a b : Int} (ha : 0 ≤ a) (hb : 0 < b) (h1 : a.natAbs < 10 ^ 100) (h2 : b.natAbs < 10 ^ 100) (hg : gcdI a b = 1) : shareIn (shareText a b) = some (a, b) := by
  unfold shareIn shareText
  rw [partition_app slash_signs (num_slash a ha)]
  show (match figI 400 (Str.ofString (toString a)), figI 400 (Str.ofString (toString b)) with
    | some n, some p => if p = 0 then none else some (redI n p)
    | _, _ => none) = _
  rw [fig_num ha (by decide) h1 (by decide), fig_num (by omega) (by decide) h2 (by decide)]
  show (if b = 0 then none else some (redI a b)) = _
  rw [if_neg (by omega), red_low hb hg]
theorem len_num {a : Int} (h0 : 0 ≤ a) (h : Bd 100 a) : (Str.ofString (toString a)).length ≤ 100 := by
  obtain ⟨n, rfl⟩ := Int.eq_ofNat_of_zero_le h0
  unfold Bd at h
  rw [Int.natAbs_natCast] at h
  rw [len_list, show (Str.ofString (toString ((n : Nat) : Int))).cps.toList = numL n from tl_num n]
  exact numL_len (by decide) (Nat.lt_of_lt_of_le h (Nat.pow_le_pow_left (by decide) 100))
theorem len_slash : (Str.ofString "/").length = 1 := by decide +kernel
end Sm
set_option Elab.async false
set_option linter.all false
set_option maxRecDepth 100000
set_option maxHeartbeats 2000000
namespace Dl
open PySem L2 PyProof.Rows
section
variable [Tabs]
variable {X : Cx} {B : Bs} {Γ : Gm} {e a b c o : Expr} {ap pos : Pos} {es : List Expr} {d d1 d2 : PyData} {ds : List PyData} {P : Out → Prop} {y z : Str}
/-! ### where a text stands in another -/
structure Ind (y z : Str) (i : Nat) : Prop where
  h : ∃ rest, Builtin.Str.occurrences y z 0 y.length 1 = i :: rest
theorem xe_index {i : Nat} (hb : Tt (Mb X o "index")) (hf : Tt (Mf X pos e [])) (hl : Tt ((ap.endLine == pos.line) = true)) (he : Tt (St1 X e [])) (hp : Tt (Pl1 X pos [])) (ho : Xp X B Γ o (.str y)) (ha : Xp X B Γ e (.str z)) (k : Ind y z i) :
    Xp X B Γ (.Call (.Attribute o "index" ap) [e] [] pos) (.int (i : Nat)) := by
  obtain ⟨rest, hk⟩ := k.h
  exact xp_m PySem.F.slot_str_index PySem.F.type_str_index mt_sindex hb.h hf.h hl.h he.h hp.h ho (xa_cons he.h ha xa_nil) fun H Hs xs s a Q q => by
    cases a with
    | cons a1 a2 =>
      cases a2; cases a1
      exact ⟨y, z, i, rest, rfl, rfl, hk, q _ H Hs (Gr.refl s) (.int _)⟩
/-! ### a list so many times -/
theorem DqAll.rep {K : PySem.W.Frag} {H : Hp} {xs : List V} (a : DqAll K H xs ds) : ∀ n : Nat, DqAll K H (List.replicate n xs).flatten (List.replicate n ds).flatten
  | 0 => .nil
  | n + 1 => by
    rw [List.replicate_succ, List.replicate_succ, List.flatten_cons, List.flatten_cons]
    exact a.app (DqAll.rep a n)
theorem xe_rep {n : Int} {p2 : Pos} (h : Xa X B Γ es ds) (hl : Tt (decide (ds.length ≤ 16777216) = true)) (hb : Xp X B Γ b (.int n)) (hn : Side (-1 ≤ n ∧ n ≤ 1000000)) (hz : Side (ds.length * n.toNat ≤ sizeLine)) :
    Xp X B Γ (.BinOp (.List es p2) .Mult b pos) (.list (List.replicate n.toNat ds).flatten) :=
  xp_l (xl_of (pe_op op_rep pe_u pe_u) fun H Hs σ E Q q => (xle_lst h hl) H Hs σ E _ fun p xs H1 Hs1 g1 n1 e1 s1 a1 => hb H1 Hs1 σ (E.grow g1) _ fun u H2 Hs2 g2 p2 => by
    have hn' := hn.h
    cases p2
    exact ⟨p, n, xs, rfl, rfl, g2.ext.lst e1, by omega, by omega, by rw [a1.length]; exact hz.h, fun r nr => dl_new (g1.trans g2) q nr (DqAll.rep (a1.mono g2.exs) _)⟩)
/-! a conditional expression whose side is known: hints for the walk -/
structure IfT : Prop where
  h : True
structure IfF : Prop where
  h : True
theorem xe_ifT {p : Bool} (_ : IfT) (h : Xt X B Γ c p) (hp : Side (p = true)) (ha : Xp X B Γ a d) : Xp X B Γ (.IfExp c a b pos) d := xp_if h (fun _ => ha) (fun z => absurd (hp.h.symm.trans z) (by decide))
theorem xe_ifF {p : Bool} (_ : IfF) (h : Xt X B Γ c p) (hp : Side (p = false)) (hb : Xp X B Γ b d) : Xp X B Γ (.IfExp c a b pos) d := xp_if h (fun z => absurd (hp.h.symm.trans z) (by decide)) (fun _ => hb)
end
end Dl
set_option Elab.async false
set_option linter.all false
set_option maxRecDepth 100000
set_option maxHeartbeats 2000000
/-! generator expressions under any, all: over texts, lists, tuples; the element read where the generator runs -/
namespace Dl
open PySem PySem.Spec PyProof.Rows L2
/-- a flat value's truth -/
def TruV (b : Bool) (y : Value) : Prop := y = .bool b ∨ ∃ (n : Int) (t : Tok), y = .int n t ∧ (n != 0) = b
theorem truthy_of {prog : Program} {w : World} {A : Around} {s : Shared} {b : Bool} {y : Value} {Q : Bool → Shared → Prop} {E : Value → Shared → Prop} (h : TruV b y) (q : Q b s) : wpAny (model prog w) A (truthy y) Q E s := by
  rcases h with rfl | ⟨n, t, rfl, rfl⟩
  · exact wpAny_truthy_bool q
  · exact PySem.P.truthy_int q
/-- what a value hands out, item by item, from the heap h on -/
def Src (P : Program) (w : World) (h : Heap) (xv : Value) (n : Nat) (F : Nat → Value → Prop) : Prop :=
  ∀ (A : Around) (s : Shared) (Q : Value → Shared → Prop) (E : Value → Shared → Prop), s.heap = h → A.handled = none →
    (∀ (o : Obj) (fp : List Addr) (St : Nat → Heap → Prop), (∀ b ∈ fp, b = h.objs.size ∨ ∃ (n : String) (o : Obj), h.get? b = some o ∧ o.cls = .type n) → (∀ A2 : Around, A2.handled = none → Walks P w A2 h.objs.size fp [h.objs.size] n F St) → St 0 (h.push o) →
      Q (.ref h.objs.size) { s with heap := h.push o }) → wpAny (model P w) A (pyIter xv) Q E s
section
variable {P : Program} {w : World} {h : Heap}
theorem src_str {x : Str} {t : Tok} : Src P w h (.str x t) x.cps.size (SignAt x) := by
  intro A s Q E e hA k
  subst e
  exact wpAny_pyIter_str fun o St W z => k o _ St (fun b hb => .inl (List.mem_singleton.mp hb)) W z
theorem src_list {l : Addr} {its : Array Value} (hl : h.IsList l its) : Src P w h (.ref l) its.size (fun i v => its[i]? = some v) := by
  intro A s Q E e hA k
  subst e
  have lt : l < s.heap.objs.size := let ⟨_, q, _⟩ := hl; Heap.lt_size q
  refine wpAny_pyIter_list hl (k _ [s.heap.objs.size, l] _ (fun b hb => ?_) (fun A2 h2 => Walks.list h2 _ l (Nat.ne_of_lt lt) its) ⟨⟨_, Heap.get?_push_size _ rfl, rfl, rfl⟩, ?_⟩)
  · simp only [List.mem_cons, List.not_mem_nil, or_false] at hb
    rcases hb with z | z
    · exact .inl z
    · obtain ⟨o, q, c, _⟩ := hl
      exact .inr ⟨_, o, by rw [z]; exact q, c⟩
  · obtain ⟨o, q, r⟩ := hl
    exact ⟨o, Heap.get?_push_of_some _ q, r⟩
theorem src_tup {l : Addr} {its : Array Value} (hl : h.IsTuple l its) : Src P w h (.ref l) its.size (fun i v => its[i]? = some v) := by
  intro A s Q E e hA k
  subst e
  have lt : l < s.heap.objs.size := let ⟨_, q, _⟩ := hl; Heap.lt_size q
  refine wpAny_pyIter_tuple hl (k _ [s.heap.objs.size, l] _ (fun b hb => ?_) (fun A2 h2 => Walks.tuple h2 _ l (Nat.ne_of_lt lt) its) ⟨⟨_, Heap.get?_push_size _ rfl, rfl, rfl⟩, ?_⟩)
  · simp only [List.mem_cons, List.not_mem_nil, or_false] at hb
    rcases hb with z | z
    · exact .inl z
    · obtain ⟨o, q, c, _⟩ := hl
      exact .inr ⟨_, o, by rw [z]; exact q, c⟩
  · obtain ⟨o, q, r⟩ := hl
    exact ⟨o, Heap.get?_push_of_some _ q, r⟩
end
/-- the element, where the generator runs: h1 the heap in which it was made, T the table -/
def GElt (X : Cx) (scope : Scope) (x : Str) (elt : Expr) (h1 : Heap) (T : Addr) (u : Value) (b : Bool) : Prop :=
  ∀ (C bi : Addr) (code : Value) (A2 : Around) (E2 : Value → Shared → Prop) (s2 : Shared) (m2 : Str → Option Value), A2.handled = none → A2.depth ≤ X.A.depth + 1 → A2.units ≤ X.A.units + 8 →
    s2.heap.Ns C m2 → m2 x = some u → (∀ a o, h1.get? a = some o → a ≠ T → s2.heap.get? a = some o) →
    wpAny (model X.prog X.w) A2 (eval elt (genEnv scope (cloFrom X.env.cells scope.names []) C code bi X.env)) (fun y s3 => TruV b y ∧ Keeps s2 s3) E2 s2
section
variable {X : Cx} {pins : List (Addr × Obj)} {σ : L2.St} {H : Hp} {s : Shared}
/-- the generator g, ready to be walked: n truths pb -/
def GRdy (X : Cx) (pins : List (Addr × Obj)) (σ : L2.St) (H1 : Hp) (T : Addr) (n : Nat) (pb : Nat → Bool) (g : Addr) (s5 : Shared) : Prop :=
  ∃ (fp wr : List Addr) (G : Array GenState → Array GenState → Prop) (F : Nat → Value → Prop) (St : Nat → Shared → Prop),
    WalksS X.prog X.w X.A.in1 g fp wr G n F St ∧ St 0 s5 ∧ TruthOf X.prog X.w X.A.in1 F pb ∧ ∀ s', Moved wr G s5 s' → ∃ H2, GxR.Tabbed T H1 H2 ∧ Inv X pins σ H2 s'
/-- the code object of the expression, from the table or new; then the built-ins -/
theorem gen_head {c T : Addr} {gpos : Pos} {scope : Scope} {ps : Array Value} {ob : Obj} {Q2 : Value → Addr → Shared → Prop} (TB : GxR.TabB X.base X.mg c T) (hcode : X.env.code = .ref c)
    (I : Inv X pins σ H s) (hT : H T = some (.tbl ps)) (ht : TriplesOk ps.toList)
    (k : ∀ (code : Value) (bi : Addr) (h3 : Heap) (tk : Nat) (more : Array Value), Heap.ExtBut T (s.heap.push ob) h3 → (s.heap.push ob).objs.size ≤ h3.objs.size → h3.get? T = some { cls := .none, data := .fields (ps ++ more) } → TriplesOk (ps ++ more).toList →
      Q2 code bi { s with heap := h3, toks := tk }) :
    wpAny (model X.prog X.w) X.A (genexprCode X.env gpos (X.env.qual ++ "<genexpr>") scope) (fun code s₃ => wpAny (model X.prog X.w) X.A (builtinsFor X.env.globals X.env.builtins) (fun bi s₄ => Q2 code bi s₄) X.xe s₃) X.xe { s with heap := s.heap.push ob } := by
  have tAt : s.heap.get? T = some { cls := .none, data := .fields ps } := I.hok T _ hT
  have tP : (s.heap.push ob).get? T = some { cls := .none, data := .fields ps } := Heap.get?_push_of_some _ tAt
  have head : PySem.W.CodeHd (s.heap.push ob) c T := TB.code.keeps fun b u e => Heap.get?_push_of_some _ (I.bk b u e)
  have blt : ∀ (code : Value) (h3 : Heap) (tk : Nat) (more : Array Value), Heap.ExtBut T (s.heap.push ob) h3 → (s.heap.push ob).objs.size ≤ h3.objs.size → h3.get? T = some { cls := .none, data := .fields (ps ++ more) } → TriplesOk (ps ++ more).toList →
      wpAny (model X.prog X.w) X.A (builtinsFor X.env.globals X.env.builtins) (fun bi s₄ => Q2 code bi s₄) X.xe { s with heap := h3, toks := tk } := by
    intro code h3 tk more hx hz h3T h3t
    obtain ⟨bm, ob2, b1, b2, b3, b4, b5, b6, b7, b8⟩ := TB.bm
    have gl : (s.heap.push ob).Ns mainGlobals X.mg := (I.mod.glob.keeps I.bk).push ob
    refine wpAny_builtinsFor (m := X.mg) ?_ b1 b2 (hx _ _ b4 (Heap.get?_push_of_some _ (I.bk _ _ b5))) b6 b7 b8 (k code _ h3 tk more hx hz h3T h3t)
    rw [I.ok.glob]
    exact gl.extBut hx TB.gP
  cases hf : codeAmong gpos ps.toList with
  | some cv =>
    refine wpAny_genexprCode_hit hcode (head.code tP ht) hf (blt cv (s.heap.push ob) s.toks #[] (Heap.ExtBut.refl _ _) (Nat.le_refl _) ?_ ?_)
    · rw [Array.append_empty]; exact tP
    · rw [Array.append_empty]; exact ht
  | none =>
    refine wpAny_genexprCodeX hcode (head.code tP ht) (head.tab tP) hf fun c2 h3 tk hx hge hlt hco _ htab _ => blt _ h3 tk _ hx (Nat.le_trans hge (Nat.le_of_lt hlt)) htab.2 ?_
    obtain ⟨_, _, _, _, _, _, _, _, _, _, _, _, _, _, _, _, _, _, _, trip, _⟩ := hco
    exact trip
/-- the generator made: what was held is held, but for the table that may have grown -/
theorem gen_mk {c T : Addr} {elt iter : Expr} {x : Str} {px gpos : Pos} {scope : Scope} {te : TE} {k : Nat} {Q2 : Value → Shared → Prop} {R : Nat → (Nat → Bool) → Hp → Prop} (hr : Room k X.A) (TB : GxR.TabB X.base X.mg c T) (hcode : X.env.code = .ref c)
    (S : GxR.GenS X.env scope x) (hi : PE X iter te) (hs : ∀ v, genFold iter X.env v = pure v) (I : Inv X pins σ H s)
    (h : te σ H fun v H1 => GxR.TabG H1 T ∧ ∀ (pins : List (Addr × Obj)) (u : Value) (s1 : Shared), RelV v u → Inv X pins σ H1 s1 → ∃ (n : Nat) (F : Nat → Value → Prop) (pb : Nat → Bool), Src X.prog X.w s1.heap u n F ∧ (∀ i y, F i y → GElt X scope x elt s1.heap T y (pb i)) ∧ R n pb H1)
    (hQ : ∀ n pb H1 g s5, R n pb H1 → GRdy X pins σ H1 T n pb g s5 → Q2 (.ref g) s5) :
    wpAny (model X.prog X.w) X.A (eval (.GeneratorExp elt [⟨.Name x px, iter, [], 0⟩] scope gpos) X.env) Q2 X.xe s := by
  have hd := hr.hd
  have dp := hr.dp
  refine wpAny_GeneratorExp_walksQD hd S.co (closure_ok S.free) S.cell S.dot S.loc S.kind (by omega) ?_ hs
  refine thn (hi.run pins s σ H _ I h) fun u s1 ⟨v, H1, I1, rv, ⟨ps, hT, ht⟩, q⟩ => ?_
  obtain ⟨n, F, pb, hsrc, hel, hR⟩ := q pins u s1 rv I1
  refine hsrc _ s1 _ _ rfl hd fun ob fp St hfp W hst => ?_
  have tAt : s1.heap.get? T = some { cls := .none, data := .fields ps } := I1.hok T _ hT
  have tlt : T < s1.heap.objs.size := Heap.lt_size tAt
  have lim : (s1.heap.push ob).NoLimit := I1.nolimit.push ob
  have slt : cStatics < s1.heap.objs.size := let ⟨_, z, _⟩ := I1.nolimit; z.lt
  have psz : (s1.heap.push ob).objs.size = s1.heap.objs.size + 1 := Heap.size_push ..
  have sT : cStatics ≠ T := fun e => by
    obtain ⟨_, ⟨o, _, _, ho, hdt, _⟩, _⟩ := I1.nolimit
    rw [e, tAt] at ho
    cases ho
    cases hdt
  refine ⟨lim, gen_head TB hcode I1 hT ht fun code bi h3 tk more hx hz h3T h3t => ?_⟩
  have k3 : ∀ b o, b ≠ T → s1.heap.get? b = some o → h3.get? b = some o := fun b o hb e => hx b o hb (Heap.get?_push_of_some _ e)
  have big : s1.heap.objs.size < h3.objs.size := Nat.lt_of_lt_of_le (by rw [psz]; exact Nat.lt_succ_self _) hz
  have below : ∀ b ∈ fp, b < h3.objs.size := fun b hb => by
    rcases hfp b hb with z | ⟨_, o, z, _⟩
    · rw [z]; exact big
    · exact Nat.lt_trans (Heap.lt_size z) big
  -- the iterator's own facts don't hang on the table
  have it0 : St 0 h3 := (W X.A hd).frame _ _ _ hst fun b hb o e => hx b o (fun z => by
    rcases hfp b hb with y | ⟨_, o2, y, cy⟩
    · rw [z] at y; exact absurd tlt (by rw [y]; exact Nat.lt_irrefl _)
    · rw [z, tAt] at y; cases y; cases cy) e
  refine ⟨s1.heap.objs.size, fp, [s1.heap.objs.size], n, F, St, fun _ => true, fun i y => TruV (pb i) y, rfl, W, it0, below, lim.extBut hx sT, ?_, fun href keeps => ⟨?_, ?_⟩, fun g h5 tk5 gs bare5 ltg sz5 keep5 W5 at5 => ?_⟩
  · intro z
    exact Nat.ne_of_lt slt (List.mem_singleton.mp z)
  · intro A2 E2 i v s2 m2 hA2 hD2 hU2 hF hn hm hk
    simp only [List.forIn_nil]
    exact wpAny_pure ⟨rfl, GxR.keeps_refl _⟩
  · intro A2 E2 i v s2 m2 hA2 hD2 hU2 hF htr hn hm hk
    refine wpAny_mono (hel i v hF _ bi code A2 E2 s2 m2 hA2 hD2 hU2 hn hm fun a o ha hne => ?_) (fun y s3 r => r) fun _ _ e => e
    have e3 := k3 a o hne ha
    refine hk a (List.mem_range.mpr (Heap.lt_size e3)) (fun z => ?_) o (keeps a o e3)
    rw [List.mem_singleton.mp z] at ha
    exact absurd (Heap.lt_size ha) (Nat.lt_irrefl _)
  · simp only [GxR.passing_true, List.length_range] at W5
    refine hQ n pb H1 g _ hR ⟨_, _, _, _, _, W5.in4_1, at5, fun j y sj Qj Ej hy hq => ?_, fun s' mv => ?_⟩
    · obtain ⟨i, hij, hv⟩ := hy
      obtain ⟨hj, ej⟩ := List.getElem?_eq_some_iff.mp hij
      rw [List.getElem_range] at ej
      subst ej
      exact truthy_of hv hq
    · have out : ∀ b o, s1.heap.get? b = some o → b ∉ h3.objs.size :: [s1.heap.objs.size] := fun b o e z => by
        have lb := Heap.lt_size e
        rcases List.mem_cons.mp z with z | z
        · rw [z] at lb; exact absurd (Nat.lt_trans lb big) (Nat.lt_irrefl _)
        · rw [List.mem_singleton.mp z] at lb; exact absurd lb (Nat.lt_irrefl _)
      have J := GxR.inv_tab (more := more) (h' := s'.heap) (g' := s'.gens) (d' := s'.drawn) (t' := s'.toks) I1 hT (fun b o hb e => mv.heap b o (out b o e) (keep5 b o (k3 b o hb e))) (mv.heap T _ (out T _ tAt) (keep5 T _ h3T)) (AllBare.movedS (I1.bare.push bare5) mv)
      rw [GxR.sh_eta s1 s' mv.os] at J
      exact ⟨_, ⟨⟨_, upd_same, h3t⟩, fun b hb => upd_ne hb⟩, J⟩
/-- any, all over a generator expression; f: what the truths come to -/
def tGen (X : Cx) (scope : Scope) (x : Str) (elt : Expr) (T : Addr) (f : List Nat → (Nat → Bool) → Bool) (te : TE) : TE := fun σ H Q => te σ H fun v H1 => GxR.TabG H1 T ∧ ∀ (pins : List (Addr × Obj)) (u : Value) (s1 : Shared), RelV v u → Inv X pins σ H1 s1 →
  ∃ (n : Nat) (F : Nat → Value → Prop) (pb : Nat → Bool), Src X.prog X.w s1.heap u n F ∧ (∀ i y, F i y → GElt X scope x elt s1.heap T y (pb i)) ∧ ∀ H2, GxR.Tabbed T H1 H2 → Q (.bl (f (List.range n) pb)) H2
theorem pe_gen {nm : Str} {f : List Nat → (Nat → Bool) → Bool} {c T : Addr} {elt iter : Expr} {x : Str} {px p pos gpos : Pos} {scope : Scope} {te : TE} {k : Nat} {bn : Value}
    (hr : Room k X.A) (hg : Gl X nm) (hm : X.mg nm = none) (hbn : bootBuiltins nm = some bn)
    (cw : ∀ (g : Addr) (s5 : Shared) (Q : Value → Shared → Prop), (∃ (fp wr : List Addr) (G : Array GenState → Array GenState → Prop) (n : Nat) (F : Nat → Value → Prop) (St : Nat → Shared → Prop) (pb : Nat → Bool),
      WalksS X.prog X.w X.A.in1 g fp wr G n F St ∧ St 0 s5 ∧ TruthOf X.prog X.w X.A.in1 F pb ∧ ∀ s', Moved wr G s5 s' → Q (.bool (f (List.range n) pb)) s') → wpAny (model X.prog X.w) X.A (call bn [.ref g]) Q X.xe s5)
    (TB : GxR.TabB X.base X.mg c T) (hcode : X.env.code = .ref c) (S : GxR.GenS X.env scope x) (hi : PE X iter te) (hs : ∀ v, genFold iter X.env v = pure v) (hn : nm ≠ "__name__") (hdb : (nm == ("__debug__" : Str)) = false)
    (hbb : ∃ id, bn = .builtin id)
    (he : starEach [.GeneratorExp elt [⟨.Name x px, iter, [], 0⟩] scope gpos] X.env = (false, eval (.GeneratorExp elt [⟨.Name x px, iter, [], 0⟩] scope gpos) X.env) :: starEach [] X.env) :
    PE X (.Call (.Name nm p) [.GeneratorExp elt [⟨.Name x px, iter, [], 0⟩] scope gpos] [] pos) (tGen X scope x elt T f te) := by
  obtain ⟨id, rfl⟩ := hbb
  refine ⟨fun pins s σ H Q I h => ?_⟩
  refine wpAny_Call_Name_kw (ld_blt I hg hm hbn ?_ hn hdb); refine PyProof.Rows.callWith_builtin1 ?_ he (by rfl)
  rw [he]
  show wpAny _ _ (spliced ((false, eval (.GeneratorExp elt [⟨.Name x px, iter, [], 0⟩] scope gpos) X.env) :: backTo pos (starEach [] X.env))) _ _ s
  refine Calls.spliced_cons (gen_mk (R := fun n pb H1 => ∀ H2, GxR.Tabbed T H1 H2 → Q (.bl (f (List.range n) pb)) H2) hr TB hcode S hi hs I h fun n pb H1 g s5 hR rdy => Calls.spliced_nil (cw g s5 _ ?_))
  obtain ⟨fp, wr, G, F, St, W, hst, htr, hI⟩ := rdy
  refine ⟨fp, wr, G, n, F, St, pb, W, hst, htr, fun s' mv => ?_⟩
  obtain ⟨H2, hT, J⟩ := hI s' mv
  exact ⟨.bl _, H2, J, rfl, hR H2 hT⟩
theorem boot_all : bootBuiltins "all" = some (.builtin "all") := by decide +kernel
/-- the truths of a list of data -/
def tabP (ds : List PyData) (p : PyData → Bool) (i : Nat) : Bool := (ds[i]?.map p).getD false
theorem range_tab (ds : List PyData) (p : PyData → Bool) : (List.range ds.length).map (tabP ds p) = ds.map p := by
  refine List.ext_getElem (by simp) fun i h1 h2 => ?_
  rw [List.length_map, List.length_range] at h1
  rw [List.getElem_map, List.getElem_map, List.getElem_range]
  unfold tabP
  rw [List.getElem?_eq_getElem h1]; rfl
theorem all_tab (ds : List PyData) (p : PyData → Bool) : (List.range ds.length).all (tabP ds p) = ds.all p := by
  have := congrArg (fun l => l.all id) (range_tab ds p)
  simpa [List.all_map] using this
theorem any_tab (ds : List PyData) (p : PyData → Bool) : (List.range ds.length).any (tabP ds p) = ds.any p := by
  have := congrArg (fun l => l.any id) (range_tab ds p)
  simpa [List.any_map] using this
theorem vals_at : ∀ {xs : List V} {us : List Value} {i : Nat} {u : Value}, Vals xs us → us[i]? = some u → ∃ x, xs[i]? = some x ∧ RelV x u
  | _, _, _, _, .nil, e => by simp at e
  | _, _, 0, _, .cons r _, e => by simp at e; subst e; exact ⟨_, rfl, r⟩
  | _, _, i + 1, u, .cons _ t, e => by
    obtain ⟨x, h1, h2⟩ := vals_at (i := i) (u := u) t (by simpa using e)
    exact ⟨x, by simpa using h1, h2⟩
end
section
variable [Tabs] {X : Cx} {B : Bs} {Γ : Gm}
/-- a table that has grown -/
theorem gr_tab {T : Addr} {H Hs H2 : Hp} (s : ∀ a o, Hs a = some o → H a = some o) (t : GxR.TabG Hs T) (g : GxR.Tabbed T H H2) : ∃ Hs2, Gr H Hs H2 Hs2 := by
  obtain ⟨ps, h1, h2⟩ := t
  obtain ⟨⟨qs, q1, q2⟩, r⟩ := g
  have hT := s T _ h1
  have ex : ∀ {A A2 : Hp}, A T = some (.tbl ps) → A2 T = some (.tbl qs) → (∀ b, b ≠ T → A2 b = A b) → Ext A A2 := fun {A A2} e1 e2 e3 a o ha => by
    by_cases hb : a = T
    · subst hb
      rw [e1] at ha
      cases ha
      exact .inr ⟨ps, qs, rfl, e2, fun _ => q2⟩
    · exact .inl (by rw [e3 a hb]; exact ha)
  refine ⟨upd Hs T (.tbl qs), ex hT q1 r, ex h1 upd_same fun b hb => upd_ne hb, fun a o ha => ?_, fun a ha => .inl fun z => ?_⟩
  · by_cases hb : a = T
    · subst hb; rw [upd_same] at ha; rw [q1]; exact ha
    · rw [upd_ne hb] at ha; rw [r a hb]; exact s a o ha
  · by_cases hb : a = T
    · subst hb; rw [h1] at z; cases z
    · rw [upd_ne hb] at ha; exact ha z
/-- the element's truth, for each datum -/
def XElt (X : Cx) (B : Bs) (Γ : Gm) (scope : Scope) (x : Str) (elt : Expr) (T : Addr) (ds : List PyData) (p : PyData → Bool) : Prop :=
  ∀ (pins : List (Addr × Obj)) (σ : L2.St) (H Hs : Hp) (s1 : Shared), Inv X pins σ H s1 → Enb X.K B H Hs σ Γ → ∀ (d : PyData) (v : V) (u : Value), d ∈ ds → Dq X.K Hs v d → RelV v u → GElt X scope x elt s1.heap T u (p d)
theorem xp_gen {nm : Str} {f : List Nat → (Nat → Bool) → Bool} {T : Addr} {elt iter : Expr} {x : Str} {px q pos gpos : Pos} {scope : Scope} {d : PyData} {ds : List PyData} {p : PyData → Bool}
    (ts : Tabs.ts T) (pe : ∀ te, PE X iter te → PE X (.Call (.Name nm q) [.GeneratorExp elt [⟨.Name x px, iter, [], 0⟩] scope gpos] [] pos) (tGen X scope x elt T f te))
    (h : Xp X B Γ iter d) (k : ItrD d ds) (hel : XElt X B Γ scope x elt T ds p) : Xp X B Γ (.Call (.Name nm q) [.GeneratorExp elt [⟨.Name x px, iter, [], 0⟩] scope gpos] [] pos) (.bool (f (List.range ds.length) (tabP ds p))) := fun H Hs σ E Q hQ => by
  refine ⟨_, pe _ pe_u, h H Hs σ E _ fun v H1 Hs1 g1 p1 => ?_⟩
  have E1 := E.grow g1
  have tab := E1.tab T ts
  refine ⟨let ⟨ps, a, b⟩ := tab; ⟨ps, g1.sub _ _ a, b⟩, fun pins u s1 rv I1 => ?_⟩
  have fin : ∀ n, n = ds.length → ∀ H2, GxR.Tabbed T H1 H2 → Q (.bl (f (List.range n) (tabP ds p))) H2 := fun n en H2 g => by
    subst en
    obtain ⟨Hs2, g2⟩ := gr_tab g1.sub tab g
    exact hQ _ H2 Hs2 (g1.trans g2) (.bl _)
  have at_p : ∀ {i : Nat} {e : PyData}, ds[i]? = some e → p e = tabP ds p i := fun {i e} he => by unfold tabP; rw [he]; rfl
  cases k with
  | str =>
    rename_i y
    cases p1
    obtain ⟨t, rfl⟩ := _root_.id rv
    refine ⟨_, _, _, src_str, fun i z hz => ?_, fin _ (by unfold signsD; rw [List.length_map, Array.length_toList])⟩
    obtain ⟨cc, t2, hc, rfl⟩ := hz
    have hd : (signsD y)[i]? = some (.str ⟨#[cc]⟩) := by unfold signsD; rw [List.getElem?_map, Array.getElem?_toList, hc]; rfl
    rw [← at_p hd]
    exact hel pins σ H1 Hs1 s1 I1 E1 _ (.str ⟨#[cc]⟩) _ (List.mem_of_getElem? hd) (.str _) ⟨t2, rfl⟩
  | lst =>
    cases p1 with
    | lst hq ha =>
      obtain rfl : u = _ := rv
      obtain ⟨its, vals, ⟨o, m, e1, e2, e3, e4⟩, _⟩ := I1.list (sub_l g1.sub hq)
      refine ⟨_, _, _, src_list ⟨o, e1, e2, m, e4⟩, fun i z hz => ?_, fin _ (by rw [List.size_toArray, ← vals.length, ha.length])⟩
      obtain ⟨w, hw, rw'⟩ := vals_at vals (by simpa using hz)
      obtain ⟨e, he, pe⟩ := ha.getV hw
      rw [← at_p he]
      exact hel pins σ H1 Hs1 s1 I1 E1 e w z (List.mem_of_getElem? he) pe rw'
  | tup =>
    cases p1 with
    | tup hq ha =>
      obtain rfl : u = _ := rv
      obtain ⟨its, vals, ⟨o, e1, e2, m, e4⟩, _⟩ := I1.tuple (sub_t g1.sub hq)
      refine ⟨_, _, _, src_tup ⟨o, e1, e2, m, e4⟩, fun i z hz => ?_, fin _ (by rw [List.size_toArray, ← vals.length, ha.length])⟩
      obtain ⟨w, hw, rw'⟩ := vals_at vals (by simpa using hz)
      obtain ⟨e, he, pe⟩ := ha.getV hw
      rw [← at_p he]
      exact hel pins σ H1 Hs1 s1 I1 E1 e w z (List.mem_of_getElem? he) pe rw'
/-- what a def's generator expression wants -/
structure Gx (X : Cx) (c T : Addr) : Prop where
  tb : GxR.TabB X.base X.mg c T
  ts : Tabs.ts T
  code : X.env.code = .ref c
  room : ∃ k, Room k X.A
theorem xe_all {c T : Addr} {elt iter : Expr} {x : Str} {px q pos gpos : Pos} {scope : Scope} {d : PyData} {ds : List PyData} {p : PyData → Bool} (G : Gx X c T) (hb : Bi X "all") (S : Tt (GxR.GenS X.env scope x)) (hs : Tt (∀ v, genFold iter X.env v = pure v))
    (he : Tt (St1 X (.GeneratorExp elt [⟨.Name x px, iter, [], 0⟩] scope gpos) [])) (h : Xp X B Γ iter d) (k : ItrD d ds) (hel : XElt X B Γ scope x elt T ds p) :
    Xp X B Γ (.Call (.Name "all" q) [.GeneratorExp elt [⟨.Name x px, iter, [], 0⟩] scope gpos] [] pos) (.bool (ds.all p)) := by
  obtain ⟨j, hr⟩ := G.room
  rw [← all_tab]
  exact xp_gen (f := fun l q => l.all q) G.ts (fun te hi => pe_gen hr hb.gl hb.no boot_all (fun g s5 Q ⟨fp, wr, G2, n, F, Sf, pb, W, hst, htr, hI⟩ => call_all_walkS (W.self 0 _ _ _ hst ⟨g, fp, wr, G2, n, F, Sf, pb, rfl, W, hst, htr, hI⟩)) G.tb G.code S.h hi hs.h (by decide) (by decide +kernel) ⟨_, rfl⟩ he.h) h k hel
theorem xe_anyG {c T : Addr} {elt iter : Expr} {x : Str} {px q pos gpos : Pos} {scope : Scope} {d : PyData} {ds : List PyData} {p : PyData → Bool} (G : Gx X c T) (hb : Bi X "any") (S : Tt (GxR.GenS X.env scope x)) (hs : Tt (∀ v, genFold iter X.env v = pure v))
    (he : Tt (St1 X (.GeneratorExp elt [⟨.Name x px, iter, [], 0⟩] scope gpos) [])) (h : Xp X B Γ iter d) (k : ItrD d ds) (hel : XElt X B Γ scope x elt T ds p) :
    Xp X B Γ (.Call (.Name "any" q) [.GeneratorExp elt [⟨.Name x px, iter, [], 0⟩] scope gpos] [] pos) (.bool (ds.any p)) := by
  obtain ⟨j, hr⟩ := G.room
  rw [← any_tab]
  exact xp_gen (f := fun l q => l.any q) G.ts (fun te hi => pe_gen hr hb.gl hb.no boot_any (fun g s5 Q ⟨fp, wr, G2, n, F, Sf, pb, W, hst, htr, hI⟩ => call_any_walkS (W.self 0 _ _ _ hst ⟨g, fp, wr, G2, n, F, Sf, pb, rfl, W, hst, htr, hI⟩)) G.tb G.code S.h hi hs.h (by decide) (by decide +kernel) ⟨_, rfl⟩ he.h) h k hel
end
/-- a generator's scope without captured names -/
def genB (scope : Scope) (x : Str) : Bool := (match scope.kind with | .function => true | _ => false) && !scope.isCoroutine && (scope.names.all fun y => match y.2 with | .cell => false | .free => false | _ => true) && scope.names.lookup (".0" : Str) == some NameKind.local && scope.names.lookup x == some NameKind.local
theorem genS_plain {env : Env} {scope : Scope} {x : Str} (h : genB scope x = true) : Tt (GxR.GenS env scope x) := by
  unfold genB at h
  simp only [Bool.and_eq_true, List.all_eq_true, beq_iff_eq, Bool.not_eq_true'] at h
  obtain ⟨⟨⟨⟨h1, h2⟩, h3⟩, h4⟩, h5⟩ := h
  refine ⟨⟨?_, h2, fun y hy e => ?_, h4, h5, fun y hy e => ?_⟩⟩
  · split at h1
    · assumption
    · cases h1
  · have := h3 y hy
    rw [e] at this
    cases this
  · have := h3 y hy
    rw [e] at this
    cases this
/-! ### what is read where the generator runs -/
theorem keeps_tr {a b c : Shared} (h : Keeps a b) (k : Keeps b c) : Keeps a c := by
  obtain ⟨h1, t1, rfl, k1⟩ := h
  obtain ⟨h2, t2, rfl, k2⟩ := k
  exact ⟨h2, t2, rfl, fun b o e => k2 b o (k1 b o e)⟩
/-- the generator's frame, at the heap h -/
structure GFr (X : Cx) (scope : Scope) (T : Addr) (h1 : Heap) (C : Addr) (m : Str → Option Value) (h : Heap) : Prop where
  ns : h.Ns C m
  keep : ∀ a o, h1.get? a = some o → a ≠ T → h.get? a = some o
theorem GFr.on {X : Cx} {scope : Scope} {T C : Addr} {h1 : Heap} {m : Str → Option Value} {s s' : Shared} (g : GFr X scope T h1 C m s.heap) (k : Keeps s s') : GFr X scope T h1 C m s'.heap := by
  obtain ⟨h2, t, rfl, k2⟩ := k
  exact ⟨g.ns.keeps k2, fun a o e n => k2 a o (g.keep a o e n)⟩
/-- an expression read in the generator's frame -/
def Ge (X : Cx) (scope : Scope) (T : Addr) (h1 : Heap) (C : Addr) (cenv : Env) (m : Str → Option Value) (A2 : Around) (e : Expr) (φ : Value → Prop) : Prop :=
  ∀ (E2 : Value → Shared → Prop) (s : Shared), GFr X scope T h1 C m s.heap → wpAny (model X.prog X.w) A2 (eval e cenv) (fun y s' => φ y ∧ Keeps s s') E2 s
section
variable {X : Cx} {scope : Scope} {T C : Addr} {h1 : Heap} {cenv : Env} {m : Str → Option Value} {A2 : Around} {e a b : Expr} {φ ψ χ : Value → Prop} {pos : Pos} {x : Str} {u : Value}
theorem ge_local (hk : cenv.scope.kind = .function) (hl : cenv.kindOf x = some .local) (hC : cenv.locals = C) (hm : m x = some u) (hd : (x == ("__debug__" : Str)) = false) : Ge X scope T h1 C cenv m A2 (.Name x pos) (· = u) := fun E2 s g => by
  refine wpAny_Name (wpAny_loadName_local hk hl ?_ hm ⟨rfl, GxR.keeps_refl s⟩) hd
  rw [hC]
  exact g.ns
theorem ge_global (hk : cenv.scope.kind = .function) (hl : cenv.kindOf x = some .globalImplicit) (hg : cenv.globals = mainGlobals) (hn : h1.Ns mainGlobals X.mg) (hT : mainGlobals ≠ T) (hm : X.mg x = some u) (hd : (x == ("__debug__" : Str)) = false) : Ge X scope T h1 C cenv m A2 (.Name x pos) (· = u) := fun E2 s g => by
  refine Calls.Name_function_global hk hl (Calls.loadGlobal_global (mg := X.mg) ?_ hm ⟨rfl, GxR.keeps_refl s⟩) hd
  rw [hg]
  exact hn.at' fun o ho => g.keep _ _ ho hT
theorem ge_free {c : Addr} (hk : cenv.scope.kind = .function) (hl : cenv.kindOf x = some .free) (hc : cenv.cells.lookup x = some c) (hv : h1.IsCell c (some u)) (hT : c ≠ T) (hn : (x == ("__classdict__" : Str)) = false) (hd : (x == ("__debug__" : Str)) = false) : Ge X scope T h1 C cenv m A2 (.Name x pos) (· = u) := fun E2 s g => by
  refine wpAny_Name (wpAny_loadName_free hk hl hc ?_ ⟨rfl, GxR.keeps_refl s⟩ hn) hd
  obtain ⟨o, q, r⟩ := hv
  exact ⟨o, g.keep _ _ q hT, r⟩
theorem ge_cmp {op : CmpOp} (ha : Ge X scope T h1 C cenv m A2 a φ) (hb : Ge X scope T h1 C cenv m A2 b ψ) (hm : behindInMarks op b = false)
    (k : ∀ (E2 : Value → Shared → Prop) u v s, φ u → ψ v → GFr X scope T h1 C m s.heap → wpAny (model X.prog X.w) A2 (compareOp op u v) (fun y s' => χ y ∧ Keeps s s') E2 s) : Ge X scope T h1 C cenv m A2 (.Compare a [op] [b] pos) χ := fun E2 s g => by
  refine wpAny_Compare1 (thn (ha E2 s g) fun u s1 ⟨hu, k1⟩ => thn (hb E2 s1 (g.on k1)) fun v s2 ⟨hv, k2⟩ => ?_) hm
  exact thn (k E2 u v s2 hu hv ((g.on k1).on k2)) fun y s3 ⟨hy, k3⟩ => ⟨hy, keeps_tr (keeps_tr k1 k2) k3⟩
theorem ge_bin {op : Operator} (ha : Ge X scope T h1 C cenv m A2 a φ) (hb : Ge X scope T h1 C cenv m A2 b ψ)
    (k : ∀ (E2 : Value → Shared → Prop) u v s, φ u → ψ v → GFr X scope T h1 C m s.heap → wpAny (model X.prog X.w) A2 (binaryOp op u v) (fun y s' => χ y ∧ Keeps s s') E2 s) : Ge X scope T h1 C cenv m A2 (.BinOp a op b pos) χ := fun E2 s g => by
  refine wpAny_BinOp (thn (ha E2 s g) fun u s1 ⟨hu, k1⟩ => thn (hb E2 s1 (g.on k1)) fun v s2 ⟨hv, k2⟩ => ?_)
  exact thn (k E2 u v s2 hu hv ((g.on k1).on k2)) fun y s3 ⟨hy, k3⟩ => ⟨hy, keeps_tr (keeps_tr k1 k2) k3⟩
end
/-- x in a text of the module, x a sign -/
theorem el_inG [Tabs] {X : Cx} {B : Bs} {Γ : Gm} {c T : Addr} {scope : Scope} {x nm z : Str} {y : Str} {p1 p2 p3 : Pos} (G : Gx X c T) (S : Tt (GxR.GenS X.env scope x)) (hx : Tt ((x == ("__debug__" : Str)) = false)) (hmk : Tt (behindInMarks .In (.Name nm p2) = false)) (hl : Tt (scope.names.lookup nm = some .globalImplicit)) (k : Cn X nm (.str z)) {p : PyData → Bool} (hp : ∀ c, c ∈ y.cps.toList → p (.str ⟨#[c]⟩) = decide (c ∈ z.cps.toList)) :
    XElt X B Γ scope x (.Compare (.Name x p1) [.In] [.Name nm p2] p3) T (signsD y) p := by
  intro pins σ H Hs s1 I E d v u hd hv ru
  obtain ⟨cc, hc, rfl⟩ : ∃ cc, cc ∈ y.cps.toList ∧ (.str ⟨#[cc]⟩ : PyData) = d := by
    unfold signsD at hd
    obtain ⟨cc, h1, h2⟩ := List.mem_map.mp hd
    exact ⟨cc, h1, h2⟩
  obtain ⟨ug, vg, hm, rg, dg⟩ := k.ex
  have z1 := dg Hs
  cases hv
  obtain ⟨t, rfl⟩ := _root_.id ru
  intro C bi code A2 E2 s2 m2 _ _ _ hn hm2 hk
  rw [hp cc hc]
  cases z1
  obtain ⟨t2, rfl⟩ := _root_.id rg
  have fr : GFr X scope T s1.heap C m2 s2.heap := ⟨hn, hk⟩
  have a1 : Ge X scope T s1.heap C (genEnv scope (cloFrom X.env.cells scope.names []) C code bi X.env) m2 A2 (.Name x p1) (· = Value.str ⟨#[cc]⟩ t) := ge_local S.h.kind S.h.loc rfl hm2 hx.h
  have a2 : Ge X scope T s1.heap C (genEnv scope (cloFrom X.env.cells scope.names []) C code bi X.env) m2 A2 (.Name nm p2) (· = Value.str z t2) := ge_global S.h.kind hl.h I.ok.glob (I.mod.glob.keeps I.bk) G.tb.gP hm k.db
  refine thn (ge_cmp (χ := (· = Value.bool (decide (cc ∈ z.cps.toList)))) a1 a2 hmk.h (fun E3 u1 v1 s h1 h2 _ => ?_) E2 s2 fr) fun w s3 ⟨h3, h4⟩ => ⟨.inl h3, h4⟩
  subst h1
  subst h2
  exact PyProof.Rows.in_str ⟨congrArg Value.bool (PySem.StrLaws.found_one z cc), GxR.keeps_refl s⟩
/-! ### a def whose code object is known -/
section
variable [Tabs] {P : Program} {w : World} {K : PySem.W.Frag} {mg : Str → Option Value} {base : Heap}
structure FunC (K : PySem.W.Frag) (x qual : Str) (st : Stmt) (f : Addr) (fd : FuncData) (cdv : Value) : Prop where
  ex : ∃ (oc : Value) (od : Option Addr) (kV doc pm : Value) (an : Option Addr) (ct : Value) (osl : Array (Option Value)),
    fd = PySem.W.fnOf x qual (defArgs st) (defBody st) (defScope st) .none kV doc pm an cdv ct ∧ K.lookup f = some ⟨oc, od, .func fd, osl⟩ ∧ PySem.W.codeIn K cdv qual = true
  kp : PySem.W.keepIn K (.ref f) = true
theorem FunC.fn {x qual : Str} {st : Stmt} {f : Addr} {fd : FuncData} {cdv : Value} (F : FunC K x qual st f fd cdv) : Fun K x qual st f fd := by
  obtain ⟨oc, od, kV, doc, pm, an, ct, osl, e, l, c⟩ := F.ex
  exact ⟨⟨oc, od, kV, doc, pm, an, cdv, ct, osl, e, l, c⟩, F.kp⟩
theorem func_mk {x qual : Str} {st : Stmt} {f : Addr} {oc : Value} {od an : Option Addr} {osl : Array (Option Value)} {kV doc pm cdv ct : Value} (l : K.lookup f = some ⟨oc, od, .func (PySem.W.fnOf x qual (defArgs st) (defBody st) (defScope st) .none kV doc pm an cdv ct), osl⟩)
    (c : PySem.W.codeIn K cdv qual = true) (k : PySem.W.keepIn K (.ref f) = true) : FunC K x qual st f (PySem.W.fnOf x qual (defArgs st) (defBody st) (defScope st) .none kV doc pm an cdv ct) cdv := ⟨⟨oc, od, kV, doc, pm, an, ct, osl, rfl, l, c⟩, k⟩
theorem fn_okG {x qual : Str} {st : Stmt} {f : Addr} {fd : FuncData} {cdv : Value} {N ps : List Str} {k : Nat} {R : List PyData → PyData → Prop} (F : FunC K x qual st f fd cdv) (S : FnScope N ps (defScope st)) (len : ∀ ds d, R ds d → ds.length = ps.length)
    (body : ∀ (A : Around) (outer : List Env) (s : Shared) (H : Hp) (E : XK) (B : Bs) (ds : List PyData) (d : PyData), Room k (Xc P w K mg base N qual st f cdv A outer s H E).A → R ds d → Xb (Xc P w K mg base N qual st f cdv A outer s H E) B (startG N ds) (defBody st) (RetP d)) :
    FnOk P w K mg base CX0 (k + 1) f fd ps (spR K R) := by
  obtain ⟨oc, od, kV, doc, pm, an, ct, osl, rfl, l, c⟩ := F.ex
  refine fn_of l c S (fun vs H Q E h => ?_) fun A outer s H vs Q E hr h => ?_
  · obtain ⟨ds, d, Hs, _, _, a, hR, _⟩ := h
    rw [a.length]
    exact len ds d hR
  · obtain ⟨ds, d, Hs, hsub, htb, a, hR, q⟩ := h
    refine ⟨_, (pb_u (X := Xc P w K mg base N qual st f cdv A outer s H E)).nox, body A outer s H E ⟨H, Hs, Hs⟩ ds d hr hR _ H Hs (L2.start N vs) (en_start hsub htb a) fun o ho => ?_⟩
    rcases ho with rfl | ⟨rfl, Γ, rfl⟩
    · exact fun v H' Hs' g p => q v H' Hs' g p
    · exact fun H' Hs' σ' E' => q .non H' Hs' E'.gr .non
end
/-! ### the end of a law whose defs hold generator expressions -/
/-- what is known at the head of the tables of the defs -/
def TabsAtHead (q : Program) (K : PySem.W.Frag) (h : Heap) : Prop := ∀ (x : Str) (d : DefRec) (c T : Addr), (recsOf q).find? (fun e => e.name == x) = some d → PySem.W.tabIn K x = some (c, T) → PySem.W.CodeHd h c T ∧ h.get? T = some { cls := .none, data := .fields #[] }
theorem walk_ofTabs {l : PySem.W.OpenLaw} {n k : Nat} {q : Program} {loose : List Str} {XP : (Str → Option Value) → Heap → Prop} {YP : World → Heap → Prop} {d : DefRec} {K : Params → PySem.W.Frag} {CX : World → CXT} {x : Str} (hn : l.most = some n) (hn2 : n ≤ sizeLine) (hdf : d.params.defaults = [])
    (hr : Room k callerA) (hY : ∀ (w : World) (h : Heap), YP w h → (K w.params).In h)
    (F : ∀ (w : World) (mg : Str → Option Value) (fa : Addr) (h : Heap), YP w h → (K w.params).In h → h.Ns mainGlobals mg → mg d.name = some (.ref fa) → TabsAtHead q (K w.params) h → LamX.LawAtS l w (K w.params) (CX w) k n x mg fa h)
    (hCX : ∀ (w : World) (H : Hp) (s : Shared) (e : Value) (s' : Shared), CX w [] H s (fun _ _ _ => False) e s' → False) : PySem.W.WalkO q loose XP YP l.row.toRowW d [] (fun f vs => PySem.call f vs) := by
  refine Att.attach_callB hn hdf fun w s₀ s₁ mg mb fa o pm cd doc a vs ns G Y ho hd hcd hmg hobj hints hlen hbits hg => ?_
  have inK := hY w _ Y
  obtain ⟨fd, cs, sp, t1, t2, t3, t4, t5, t6⟩ := F w mg fa _ Y inK G.T.g hmg fun x d c T hx ht => PySem.W.tab_of G.T inK hx ht
  exact LamX.law_callTs inK G.T.g G.T.b G.T.builtins G.T.nolimit hg t1 t2 t3 G.T.bmain hobj hints (Nat.le_trans hlen hn2) hr t6 t4 (fun H b1 b2 => t5 H a ns hlen hbits b1 b2) fun H e s' => hCX w H s₁ e s'
/-! ### a list of one's own, lent to a test -/
section
variable [Tabs] {X : Cx} {B : Bs} {Γ : Gm} {ds : List PyData} {i : Nat} {b : Bool}
theorem gr_cut {H Hs Hs1 H2 Hs2 : Hp} (x : Ext Hs Hs1) (g : Gr H Hs1 H2 Hs2) : ∃ Hs3, Gr H Hs H2 Hs3 := by
  refine ⟨fun a => if Hs a = none then none else Hs2 a, g.ext, fun a o ha => ?_, fun a o ha => ?_, fun a ha => .inl fun z => ha (if_pos z)⟩
  · have n : ¬ Hs a = none := by rw [ha]; exact Option.some_ne_none _
    rcases (x.trans g.exs) a o ha with h | ⟨ps, qs, e, h, t⟩
    · exact .inl ((if_neg n).trans h)
    · exact .inr ⟨ps, qs, e, (if_neg n).trans h, t⟩
  · have ha' : (if Hs a = none then none else Hs2 a) = some o := ha
    split at ha'
    · cases ha'
    · exact g.sub a o ha'
theorem dt_loan {K : PySem.W.Frag} {t : TT} (hi : Γ[i]? = some (.ow ds)) (h : DT K B t (Γ.set i (.sh (.list ds))) b) : DT K B t Γ b := fun H Hs σ E Q q => by
  obtain ⟨Hs1, _, x, E1⟩ := E.free hi
  exact h H Hs1 σ E1 Q fun H2 Hs2 g2 => by
    obtain ⟨Hs3, g3⟩ := gr_cut x g2
    exact q H2 Hs3 g3
theorem xt_loan {e : Expr} (hi : Tt (Γ[i]? = some (.ow ds))) (h : Xt X B (Γ.set i (.sh (.list ds))) e b) : Xt X B Γ e b := dt_loan hi.h h
end
/-! ### a module's constant that is a tuple of texts -/
def strsV : List Value → Option (List Str)
  | [] => some []
  | .str x _ :: r => (strsV r).map (x :: ·)
  | _ :: _ => none
theorem strsV_ok : ∀ {l : List Value} {ys : List Str}, strsV l = some ys → Vals (ys.map V.str) l
  | [], ys, h => by cases h; exact .nil
  | .str x t :: r, ys, h => by
    cases e : strsV r with
    | none => unfold strsV at h; rw [e] at h; cases h
    | some zs =>
      unfold strsV at h
      rw [e] at h
      cases h
      exact .cons ⟨t, rfl⟩ (strsV_ok e)
  | .none :: _, _, h => nomatch h
  | .bool _ :: _, _, h => nomatch h
  | .int _ _ :: _, _, h => nomatch h
  | .float _ _ :: _, _, h => nomatch h
  | .bytes _ _ :: _, _, h => nomatch h
  | .ref _ :: _, _, h => nomatch h
  | .type _ :: _, _, h => nomatch h
  | .builtin _ :: _, _, h => nomatch h
theorem cnm_strs {K : PySem.W.Frag} {mg : Str → Option Value} {x : Str} {a : Addr} {od : Option Addr} {its : Array Value} {n : Nat} {sl : Array (Option Value)} {ys : List Str} (hz : mg x = some (.ref a)) (lk : K.lookup a = some ⟨.type "tuple", od, .seq its n, sl⟩) (hv : strsV its.toList = some ys)
    (hs : ys.length ≤ 1000) (db : (x == ("__debug__" : Str)) = false) : CnM K mg x (.tuple (ys.map .str)) := by
  have v := strsV_ok hv
  refine ⟨⟨_, .ref a, hz, rfl, fun H => .tup (.inr ⟨_, its, n, lk, rfl, rfl, ?_, v⟩) (DqAll.strs ys)⟩, db⟩
  have e : ys.length = its.size := by simpa using v.length
  exact side_size (by omega)
theorem tabs_nil {T : Addr} {H : Hp} (h : H T = some (.tbl #[])) : GxR.TabG H T := ⟨#[], h, by trivial⟩
theorem tab_in {K : PySem.W.Frag} {x : Str} {f c T : Addr} {oc e : Value} {od dd : Option Addr} {fd : FuncData} {s1 s2 : Array (Option Value)} {vs : Array Value} (a : PySem.W.nsIn K mainGlobals x = some (some (.ref f))) (l : K.lookup f = some ⟨oc, od, .func fd, s1⟩) (ce : fd.code = .ref c)
    (lc : K.lookup c = some ⟨e, dd, .fields vs, s2⟩) (v : vs[11]? = some (.ref T)) : PySem.W.tabIn K x = some (c, T) := by
  unfold PySem.W.tabIn
  rw [a]
  show (match K.lookup f with | some ⟨_, _, .func fd, _⟩ => _ | _ => none) = _
  rw [l]
  show (match fd.code with | .ref c => _ | _ => none) = _
  rw [ce]
  show (match K.lookup c with | some ⟨_, _, .fields vs, _⟩ => _ | _ => none) = _
  rw [lc]
  show (match (vs[11]? : Option Value) with | some (.ref P) => _ | _ => none) = _
  rw [v]
end Dl
set_option Elab.async false
set_option linter.all false
set_option maxRecDepth 100000
set_option maxHeartbeats 2000000
/-! generator expressions under any, all, in full: the element is judged as any expression of a frame of its own, calls too -/
namespace Dl
open PySem PySem.Spec PyProof.Rows L2 GenW
/-! ### any, all over what hands out truths one by one -/
/-- n truths pb by the iterator at I; St j: j are out; St (n + 1): it has ended -/
structure Gw (P : Program) (w : World) (A : Around) (I : Addr) (n : Nat) (pb : Nat → Bool) (St : Nat → Shared → Prop) : Prop where
  item : ∀ (j : Nat) (s : Shared) (E : Value → Shared → Prop), j < n → St j s → wpAny (model P w) A (pyNext (.ref I)) (fun r s' => ∃ v, r = some v ∧ TruV (pb j) v ∧ St (j + 1) s') E s
  done : ∀ (s : Shared) (E : Value → Shared → Prop), St n s → wpAny (model P w) A (pyNext (.ref I)) (fun r s' => r = none ∧ St (n + 1) s') E s
  self : ∀ (j : Nat) (s : Shared) (Q : Value → Shared → Prop) (E : Value → Shared → Prop), St j s → Q (.ref I) s → wpAny (model P w) A (pyIter (.ref I)) Q E s
section
variable {P : Program} {w : World} {A : Around} {I : Addr} {n : Nat} {pb : Nat → Bool} {St : Nat → Shared → Prop} {R : Result → Shared → Prop}
theorem rest_range {j : Nat} (h : j < n) : (List.range n).drop j = j :: (List.range n).drop (j + 1) := by
  have h' : j < (List.range n).length := by rw [List.length_range]; exact h
  rw [List.drop_eq_getElem_cons h', List.getElem_range]
theorem all_loopW (W : Gw P w A.in1 I n pb St) : ∀ (k j : Nat) (s : Shared), n - j = k → j ≤ n → St j s → (∀ i s', St i s' → R (.ok (.ret (.bool (((List.range n).drop j).all pb)))) s') → codeAny (model P w) A (.builtin "all.loop" ⟨[.ref I], []⟩) R s := fun k => by
  induction k with
  | zero =>
    intro j s hk hj hs hR
    obtain rfl : j = n := by omega
    refine codeAny_builtin F.entry_all_loop ?_; rw [Around.under_plainId F.plain_all_loop _]; show wpAny _ A.in1 (pyNext (.ref I) >>= _) _ _ s
    refine wpAny_bind (thn (W.done s _ hs) fun r s' ⟨er, z⟩ => ?_)
    subst er
    have q := hR _ s' z
    rw [List.drop_of_length_le (Nat.le_of_eq List.length_range)] at q
    exact wpAny_bind (wpAny_rule (wpAny_pure q))
  | succ k ih =>
    intro j s hk hj hs hR
    have lt : j < n := by omega
    refine codeAny_builtin F.entry_all_loop ?_; rw [Around.under_plainId F.plain_all_loop _]; show wpAny _ A.in1 (pyNext (.ref I) >>= _) _ _ s
    refine wpAny_bind (thn (W.item j s _ lt hs) fun r s' ⟨v, er, tv, z⟩ => ?_)
    subst er
    refine wpAny_bind (wpAny_holding (truthy_of tv (wpAny_bind (wpAny_letGo ?_))))
    cases hb : pb j with
    | true =>
      simp only [if_true]
      refine wpAny_pure ⟨plainId_quiet F.plain_all_loop _, ih (j + 1) s' (by omega) lt z fun i s2 z2 => ?_⟩
      have q := hR i s2 z2
      rwa [rest_range lt, List.all_cons, hb, Bool.true_and] at q
    | false =>
      simp only [Bool.false_eq_true, if_false]
      have q := hR _ s' z
      rw [rest_range lt, List.all_cons, hb, Bool.false_and] at q
      exact wpAny_bind (wpAny_rule (wpAny_pure q))
theorem any_loopW (W : Gw P w A.in1 I n pb St) : ∀ (k j : Nat) (s : Shared), n - j = k → j ≤ n → St j s → (∀ i s', St i s' → R (.ok (.ret (.bool (((List.range n).drop j).any pb)))) s') → codeAny (model P w) A (.builtin "any.loop" ⟨[.ref I], []⟩) R s := fun k => by
  induction k with
  | zero =>
    intro j s hk hj hs hR
    obtain rfl : j = n := by omega
    refine codeAny_builtin F.entry_any_loop ?_; rw [Around.under_plainId F.plain_any_loop _]; show wpAny _ A.in1 (pyNext (.ref I) >>= _) _ _ s
    refine wpAny_bind (thn (W.done s _ hs) fun r s' ⟨er, z⟩ => ?_)
    subst er
    have q := hR _ s' z
    rw [List.drop_of_length_le (Nat.le_of_eq List.length_range)] at q
    exact wpAny_bind (wpAny_rule (wpAny_pure q))
  | succ k ih =>
    intro j s hk hj hs hR
    have lt : j < n := by omega
    refine codeAny_builtin F.entry_any_loop ?_; rw [Around.under_plainId F.plain_any_loop _]; show wpAny _ A.in1 (pyNext (.ref I) >>= _) _ _ s
    refine wpAny_bind (thn (W.item j s _ lt hs) fun r s' ⟨v, er, tv, z⟩ => ?_)
    subst er
    refine wpAny_bind (wpAny_holding (truthy_of tv (wpAny_bind (wpAny_letGo ?_))))
    cases hb : pb j with
    | false =>
      simp only [Bool.false_eq_true, if_false]
      refine wpAny_pure ⟨plainId_quiet F.plain_any_loop _, ih (j + 1) s' (by omega) lt z fun i s2 z2 => ?_⟩
      have q := hR i s2 z2
      rwa [rest_range lt, List.any_cons, hb, Bool.false_or] at q
    | true =>
      simp only [if_true]
      have q := hR _ s' z
      rw [rest_range lt, List.any_cons, hb, Bool.true_or] at q
      exact wpAny_bind (wpAny_rule (wpAny_pure q))
variable {s : Shared} {Q : Value → Shared → Prop} {E : Value → Shared → Prop}
theorem call_allW (W : Gw P w A.in1 I n pb St) (h0 : St 0 s) (hQ : ∀ i s', St i s' → Q (.bool ((List.range n).all pb)) s') : wpAny (model P w) A (call (.builtin "all") [.ref I]) Q E s := by
  refine call_function_tree F.kind_all F.plain_all F.entry_all (F.args_all1 _) ?_; unfold Builtin.«all»
  refine wpAny_bind (m := oneArg "all" _) (wpAny_pure ?_); refine wpAny_bind (W.self 0 s _ _ h0 ?_)
  exact wpAny_pure ⟨plainId_quiet F.plain_all_loop _, all_loopW W n 0 s rfl (Nat.zero_le _) h0 fun i s' z => by simpa using hQ i s' z⟩
theorem call_anyW (W : Gw P w A.in1 I n pb St) (h0 : St 0 s) (hQ : ∀ i s', St i s' → Q (.bool ((List.range n).any pb)) s') : wpAny (model P w) A (call (.builtin "any") [.ref I]) Q E s := by
  refine call_function_tree F.kind_any F.plain_any F.entry_any (F.args_any1 _) ?_; unfold Builtin.«any»
  refine wpAny_bind (m := oneArg "any" _) (wpAny_pure ?_); refine wpAny_bind (W.self 0 s _ _ h0 ?_)
  exact wpAny_pure ⟨plainId_quiet F.plain_any_loop _, any_loopW W n 0 s rfl (Nat.zero_le _) h0 fun i s' z => by simpa using hQ i s' z⟩
end
/-! ### the frame of a generator expression -/
/-- its context: entered at s1, H1; fp: the iterator's own objects; pn: the generator's object -/
abbrev gxOf (X : Cx) (s1 : Shared) (H1 : Hp) (cenv : Env) (A : Around) (fp : List Addr) (pn : List (Addr × Obj)) : Cx :=
  { X with A := A, s_0 := s1, H_0 := H1, env := cenv, outer := X.stack, stack := cenv :: X.stack, ex := fp, fn := fun _ => false, calm := true, pn := pn, xe := fun _ _ => False }
/-- while the generator sleeps -/
structure Wk (s s' : Shared) : Prop where
  os : s'.os = s.os
  bare : AllBare s'.gens
  keep : ∀ b o, s.heap.get? b = some o → s'.heap.get? b = some o
theorem Wk.trans {a b c : Shared} (x : Wk a b) (y : Wk b c) : Wk a c := ⟨y.os.trans x.os, y.bare, fun d o e => y.keep d o (x.keep d o e)⟩
theorem bare_set {G : Array GenState} {g : Nat} {x : GenState} (h : AllBare G) (hx : x.bare = true) : AllBare (G.setIfInBounds g x) := fun y hy => by
  obtain ⟨i, hi, e⟩ := Array.mem_iff_getElem.mp hy
  rw [Array.getElem_setIfInBounds] at e
  · split at e
    · rw [← e]; exact hx
    · rw [← e]; exact h _ (Array.getElem_mem _)
  · rwa [Array.size_setIfInBounds] at hi
section
variable {X : Cx} {s1 : Shared} {H1 : Hp} {cenv : Env} {A : Around} {fp : List Addr} {pn : List (Addr × Obj)} {σw : L2.St} {tn : Nat → Heap → Prop} {W : Nat → Hp → Prop}
/-- j truths are out -/
def GZ (X : Cx) (s1 : Shared) (H1 : Hp) (cenv : Env) (A : Around) (fp : List Addr) (pn : List (Addr × Obj)) (σw : L2.St) (tn : Nat → Heap → Prop) (W : Nat → Hp → Prop) (j : Nat) (s : Shared) : Prop :=
  ∃ H, Inv (gxOf X s1 H1 cenv A fp pn) [] σw H s ∧ tn j s.heap ∧ (∀ b ∈ fp, H b = none) ∧ W j H
theorem GZ.wake {P : Program} {w : World} {K : PySem.W.Frag} {tg : Expr} {J : It} {it : Addr} {j : Nat} {s s' : Shared} (T : Turn P w K tg J fp it tn) (z : GZ X s1 H1 cenv A fp pn σw tn W j s) (k : Wk s s') : GZ X s1 H1 cenv A fp pn σw tn W j s' := by
  obtain ⟨H, I, st, n, w⟩ := z
  exact ⟨H, I.call' (ch := []) k.os (Un.kept k.keep) (I.hok.kept k.keep) k.bare fun b hb => absurd hb (by simp), T.keep _ _ _ st fun b _ o e => k.keep b o e, n, w⟩
/-- it has ended -/
def GF (X : Cx) (s1 : Shared) (H1 : Hp) (cenv : Env) (A : Around) (fp : List Addr) (pn : List (Addr × Obj)) (σw : L2.St) (W : Nat → Hp → Prop) (n : Nat) (s : Shared) : Prop :=
  ∃ H, Inv (gxOf X s1 H1 cenv A fp pn) [] σw H s ∧ W n H
theorem GF.wake {n : Nat} {s s' : Shared} (z : GF X s1 H1 cenv A fp pn σw W n s) (k : Wk s s') : GF X s1 H1 cenv A fp pn σw W n s' := by
  obtain ⟨H, I, w⟩ := z
  exact ⟨H, I.call' (ch := []) k.os (Un.kept k.keep) (I.hok.kept k.keep) k.bare (fun b hb => absurd hb (by simp)), w⟩
/-- what is handed out -/
def GY2 (n : Nat) (pb : Nat → Bool) (Z : Nat → Shared → Prop) : Protocol := fun m s₀ v s kap => ∃ j, j < n ∧ m = n - 1 - j ∧ TruV (pb j) v ∧ Z (j + 1) s ∧ ∀ s', Wk s s' → kap (.send .none) s'
def GR2 (Fz : Shared → Prop) : GenEnd := fun m s₀ r s => r = .ok .next ∧ (m = 0 ∧ Fz s)
def truV : V → Option Bool
  | .bl b => some b
  | .int i => some (i != 0)
  | _ => none
theorem truV_ok {v : V} {u : Value} {b : Bool} (r : RelV v u) (h : truV v = some b) : TruV b u := by
  cases v with
  | bl c => cases h; exact .inl r
  | int i =>
    obtain ⟨t, rfl⟩ := _root_.id r
    cases h
    exact .inr ⟨i, t, rfl, rfl⟩
  | _ => cases h
/-- the turns -/
theorem gen_turns {elt tg iter : Expr} {scope : Scope} {pos : Pos} {J : It} {it : Addr} {n : Nat} {pb : Nat → Bool} {g : TG} {te : TE} {vs : List Nat} {σ : L2.St} (hA : (A.over (.compLoop (.GeneratorExp elt [⟨tg, iter, [], 0⟩] scope pos) 0 (.ref it) .none cenv) []) = AX)
    (hco : cenv.scope.isCoroutine = false) (T : Turn X.prog X.w X.K tg J fp it tn) (hg : PG (gxOf X s1 H1 cenv AX fp pn) tg g) (he : PE (gxOf X s1 H1 cenv AX fp pn) elt te) (hpn : ∀ p ∈ pn, p.1 ∉ fp)
    (stop : ∀ H, W n H → J.stop n H) (turn : ∀ j H, j < n → W j H → J.go j H ∧ ∀ x H', J.yld j H x H' → g x (wipe σ vs) H' fun σ2 H2 => wipe σ2 vs = wipe σ vs ∧ te σ2 H2 fun y H3 => truV y = some (pb j) ∧ W (j + 1) H3) :
    ∀ (k j : Nat) (s₀ s : Shared), n - j = k → j ≤ n → GZ X s1 H1 cenv AX fp pn (wipe σ vs) tn W j s →
      Seg (model X.prog X.w) A (GR2 (GF X s1 H1 cenv AX fp pn (wipe σ vs) W n)) (GY2 n pb (GZ X s1 H1 cenv AX fp pn (wipe σ vs) tn W)) (n - j) s₀ (.compLoop (.GeneratorExp elt [⟨tg, iter, [], 0⟩] scope pos) 0 (.ref it) .none cenv)
        ((model X.prog X.w).den (.compLoop (.GeneratorExp elt [⟨tg, iter, [], 0⟩] scope pos) 0 (.ref it) .none cenv)) [] s := fun k => by
  have stat : ∀ {σ' : L2.St} {H' : Hp} {s' : Shared}, Inv (gxOf X s1 H1 cenv AX fp pn) [] σ' H' s' → (∀ b ∈ fp, H' b = none) → ∀ b ∈ fp, FpOk (gxOf X s1 H1 cenv AX fp pn) [] H' b := fun {σ' H' s'} I' hn b hb =>
    ⟨hn b hb, (I'.ok.exf b hb).1, I'.ok.exfs b hb, .inl hb, fun x c e => (I'.ok.exf b hb).2 x c e, fun p hp z => by
      have hp' : p ∈ pn := by simpa using hp
      exact hpn p hp' (by rw [z]; exact hb)⟩
  induction k with
  | zero =>
    intro j s₀ s hk hj ⟨H, I, st, nf, w⟩
    obtain rfl : j = n := by omega
    show Seg _ A _ _ _ s₀ _ ((compTurn (.GeneratorExp elt [⟨tg, iter, [], 0⟩] scope pos) 0 (.ref it) .none cenv).onRaise (leaving cenv)) [] s
    rw [compTurn_gen, Sem.onRaise_eq_wrap]
    refine seg_bind_wrap (wpAny_standAt (seg_bind_wrap ?_))
    rw [hA]
    refine thnF (T.done (gxOf X s1 H1 cenv AX fp pn) rfl rfl rfl rfl j [] s _ H (fun _ _ => False) I (stat I nf) st (stop H w)) fun r s' ⟨er, I'⟩ => ?_
    subst er
    exact seg_end (.ok .next) ⟨rfl, Nat.sub_self _, H, I', w⟩
  | succ k ih =>
    intro j s₀ s hk hj ⟨H, I, st, nf, w⟩
    have lt : j < n := by omega
    obtain ⟨go, step⟩ := turn j H lt w
    have en : n - j = n - (j + 1) + 1 := by omega
    rw [en]
    show Seg _ A _ _ _ s₀ _ ((compTurn (.GeneratorExp elt [⟨tg, iter, [], 0⟩] scope pos) 0 (.ref it) .none cenv).onRaise (leaving cenv)) [] s
    rw [compTurn_gen, Sem.onRaise_eq_wrap]
    refine seg_bind_wrap (wpAny_standAt (seg_bind_wrap ?_))
    rw [hA]
    refine thnF (T.item (gxOf X s1 H1 cenv AX fp pn) rfl rfl rfl rfl j [] s _ H (fun _ _ => False) I (stat I nf) st go) fun r s2 ⟨u, er, h2⟩ => ?_
    subst er
    refine seg_bind_wrap ?_
    rw [hA]
    refine thnF h2 fun _ s3 ⟨x, H3, I3, rx, yx, st3, n3⟩ => ?_
    have I3' := I3.pinned (stat I3 n3) (T.obj _ _ st3)
    refine seg_bind_wrap ?_
    rw [hA]
    refine thnF (hg.run _ s3 _ H3 x u _ I3' rx (step x H3 yx)) fun _ s4 ⟨σ4, H4, I4, w4, q4⟩ => ?_
    simp only [List.forIn_nil]
    refine seg_bind_wrap (wpAny_pure ?_)
    simp only [if_true]
    have yv : ∀ v, yieldOut cenv v = yieldValue v := fun v => by simp only [yieldOut, hco, Bool.false_eq_true, if_false]
    simp only [yv]
    rw [Sem.bind_eq_wrap', Sem.bind_eq_wrap', Sem.wrap_wrap, Sem.wrap_wrap]
    refine seg_wrap ?_
    rw [hA]
    refine thnF (he.run _ s4 σ4 H4 _ I4 q4) fun y s5 ⟨v, H5, I5, rv, tv, w5⟩ => ?_
    have pinned : ∀ b ∈ fp, ∀ o, s3.heap.get? b = some o → s5.heap.get? b = some o ∧ H5 b = none := fun b hb o e =>
      let z := I5.pin (b, o) (List.mem_append_right _ (List.mem_append_right _ (mem_pinsAt hb e)))
      ⟨z.1, z.2.1⟩
    have z5 : GZ X s1 H1 cenv AX fp pn (wipe σ vs) tn W (j + 1) s5 := by
      refine ⟨H5, (I5.unpinned (pins := [])).weak (by rw [← w4, wipe_length]) (fun i v e => ?_), T.keep _ _ _ st3 fun b hb o e => (pinned b hb o e).1, fun b hb => ?_, w5⟩
      · rw [← w4] at e
        exact (wipe_some e).1
      · obtain ⟨o, e, _⟩ := T.obj _ _ st3 b hb
        exact (pinned b hb o e).2
    refine seg_at (seg_yield rfl rfl rfl ⟨j, lt, by omega, truV_ok rv tv, z5, fun s6 wk => ?_⟩)
    exact seg_again rfl (ih (j + 1) s6 s6 (by omega) lt (z5.wake T wk))
theorem wk_set {s : Shared} {g : Nat} {x : GenState} (h : AllBare s.gens) (hx : x.bare = true) : Wk s (s.setGen g x) := ⟨rfl, bare_set h hx, fun _ _ e => e⟩
/-- the generator object a, its state at g: how it stands -/
def GSt (M : Model) (A : Around) (R : GenEnd) (Y : Protocol) (n g : Nat) (Z : Nat → Shared → Prop) (Fz : Shared → Prop) (j : Nat) (s : Shared) : Prop :=
  (j ≤ n ∧ Z j s ∧ ∃ gs : GenState, gs.bare = true ∧ s.gens[g]? = some gs ∧ ∀ s', Wk s s' → gs.Goes M A R Y (n - j) (.send .none) s') ∨ (j = n + 1 ∧ Fz s)
theorem gen_gw {P : Program} {w : World} {K : PySem.W.Frag} {tg : Expr} {J : It} {it a : Addr} {n g : Nat} {pb : Nat → Bool} {go : Obj} {A0 : Around} (T : Turn P w K tg J fp it tn) (hh : A0.handled = none) (hroom : A0.depth < recursionLimit)
    (hgo : ∀ h : Heap, h.get? a = some go → h.IsGen a g) (hpn : (a, go) ∈ pn) :
    Gw X.prog X.w A0 a n pb (GSt (model X.prog X.w) A0.in1 (GR2 (GF X s1 H1 cenv A fp pn σw W n)) (GY2 n pb (GZ X s1 H1 cenv A fp pn σw tn W)) n g (GZ X s1 H1 cenv A fp pn σw tn W) (GF X s1 H1 cenv A fp pn σw W n)) := by
  have facts : ∀ {j : Nat} {s : Shared}, GZ X s1 H1 cenv A fp pn σw tn W j s → s.heap.NoLimit ∧ s.heap.IsGen a g ∧ AllBare s.gens := fun {j s} z => by
    obtain ⟨H, I, _, _, _⟩ := z
    exact ⟨I.nolimit, hgo _ (I.pin (a, go) (List.mem_append_left _ hpn)).1, I.bare⟩
  have factsF : ∀ {s : Shared}, GF X s1 H1 cenv A fp pn σw W n s → s.heap.NoLimit ∧ s.heap.IsGen a g ∧ AllBare s.gens := fun {s} z => by
    obtain ⟨H, I, _⟩ := z
    exact ⟨I.nolimit, hgo _ (I.pin (a, go) (List.mem_append_left _ hpn)).1, I.bare⟩
  refine ⟨fun j s E lt st => ?_, fun s E st => ?_, fun j s Q E st q => ?_⟩
  · rcases st with ⟨_, z, gs, gb, eg, goes⟩ | ⟨e, _⟩
    · obtain ⟨lim, isg, bare⟩ := facts z
      have glt : g + 1 ≤ s.gens.size := (Array.getElem?_eq_some_iff.mp eg).1
      obtain ⟨m, em⟩ : ∃ m, n - j = m + 1 := ⟨n - j - 1, by omega⟩
      rw [em] at goes
      refine wpAny_gsz glt ?_
      refine wpAny_pyNext_genexpQ (P := fun m _ s₁ => m = 0 ∧ GF X s1 H1 cenv A fp pn σw W n s₁) hh lim hroom isg eg (goes _ (wk_set bare rfl)) (fun v s2 gs' gb' hy => fun gz => ?_) fun s2 hp => absurd hp.1 (Nat.succ_ne_zero m)
      obtain ⟨j', lt', ej, tv, z', kap⟩ := hy
      obtain rfl : j' = j := by omega
      have wk' : Wk s2 (s2.setGen g gs') := wk_set (facts z').2.2 gb'
      refine ⟨v, rfl, tv, .inl ⟨lt, z'.wake T wk', gs', gb', ?_, fun s3 wk3 => ?_⟩⟩
      · have sz : g < s2.gens.size := by
          have gz' : g + 1 ≤ (s2.setGen g gs').gens.size := gz
          rw [setGen_size] at gz'
          exact gz'
        show (s2.gens.setIfInBounds g gs')[g]? = some gs'
        rw [Array.getElem?_setIfInBounds_self, if_pos sz]
      · rw [show n - (j' + 1) = m by omega]
        exact kap s3 (wk'.trans wk3)
    · omega
  · rcases st with ⟨_, z, gs, gb, eg, goes⟩ | ⟨e, _⟩
    · obtain ⟨lim, isg, bare⟩ := facts z
      rw [Nat.sub_self] at goes
      refine wpAny_pyNext_genexpQ (P := fun m _ s₁ => m = 0 ∧ GF X s1 H1 cenv A fp pn σw W n s₁) hh lim hroom isg eg (goes _ (wk_set bare rfl)) (fun v s2 gs' gb' hy => ?_) fun s2 hp h' hk => ?_
      · obtain ⟨j', lt', ej, tv, z', kap⟩ := hy
        exact (kap s2 ⟨rfl, (facts z').2.2, fun _ _ e => e⟩).elim
      · have fb := (factsF hp.2).2.2
        exact ⟨rfl, .inr ⟨rfl, hp.2.wake ⟨rfl, bare_set fb rfl, hk⟩⟩⟩
    · omega
  · rcases st with ⟨_, z, _⟩ | ⟨_, z⟩
    · exact wpAny_pyIter_gen (facts z).2.1 q
    · exact wpAny_pyIter_gen (factsF z).2.1 q
/-- from its start to the first turn -/
theorem gen_begin {P : Program} {w : World} {K : PySem.W.Frag} {elt tg iter : Expr} {scope : Scope} {pos : Pos} {J : It} {it : Addr} {R : GenEnd} {Y : Protocol} {n : Nat} {s₀ s : Shared} {A : Around} (T : Turn P w K tg J fp it tn) (st : tn 0 s.heap)
    (loop : Seg (model P w) A R Y n s₀ (.compLoop (.GeneratorExp elt [⟨tg, iter, [], 0⟩] scope pos) 0 (.ref it) .none cenv) ((model P w).den (.compLoop (.GeneratorExp elt [⟨tg, iter, [], 0⟩] scope pos) 0 (.ref it) .none cenv)) [] s) :
    Seg (model P w) A R Y n s₀ (.compStart (.GeneratorExp elt [⟨tg, iter, [], 0⟩] scope pos) 0 (.ref it) .none cenv) ((model P w).den (.compStart (.GeneratorExp elt [⟨tg, iter, [], 0⟩] scope pos) 0 (.ref it) .none cenv)) [] s := by
  show Seg _ A _ _ _ s₀ _ ((compStart (.GeneratorExp elt [⟨tg, iter, [], 0⟩] scope pos) 0 (.ref it) .none cenv).onRaise (leaving cenv)) [] s
  unfold compStart; rw [Sem.onRaise_eq_wrap]
  show Seg _ A _ _ _ s₀ _ ((ask >>= _).wrap _ _ _ _) [] s; refine seg_bind_wrap (wpAny_askSetting ?_)
  split
  · exact seg_again rfl loop
  · refine seg_bind_wrap (wpAny_rule (seg_bind_wrap (wpAny_standAt (seg_bind_wrap (T.self _ 0 s _ _ st ?_)))))
    exact seg_again rfl loop
end
/-- the names of a generator expression's scope: own: the targets, by their slots -/
structure GScp (N : List Str) (sc scope : Scope) (own : List (Str × Nat)) : Prop where
  kind : scope.kind = .function
  co : scope.isCoroutine = false
  cell : ∀ y ∈ scope.names, y.2 ≠ .cell
  dot : scope.names.lookup (".0" : Str) = some NameKind.local
  free : ∀ y ∈ scope.names, y.2 = .free → sc.names.lookup y.1 = some .cell ∨ sc.names.lookup y.1 = some .free
  loc : ∀ (i : Nat) (x : Str), N[i]? = some x → scope.names.lookup x = some .local → i ∈ own.map (·.2)
section
variable {X : Cx} {pins : List (Addr × Obj)} {σ : L2.St} {H1 : Hp} {s1 : Shared}
theorem clo_at {cells : List (Str × Addr)} {scope : Scope} {y : Str} {c : Addr} (free : ∀ y ∈ scope.names, y.2 = .free → ∃ c, cells.lookup y.1 = some c) (h : (cloFrom cells scope.names []).lookup y = some c) : cells.lookup y = some c := by
  rcases cloFrom_mem (PySem.mem_of_lookup h) with hm | ⟨h1, h2⟩
  · cases hm
  · obtain ⟨d, hd⟩ := free _ h1 rfl
    rw [hd]
    rw [hd] at h2
    exact congrArg some (by simpa using h2.symm)
/-- the invariant, where the generator has been made: s6 holds all of s1 but for the table at T -/
theorem gen_inv {scope : Scope} {own : List (Str × Nat)} {fp : List Addr} {T C a : Addr} {go : Obj} {code : Value} {A : Around} {H2 : Hp} {s6 : Shared} {ps more : Array Value} {it : Value} (I : Inv X pins σ H1 s1) (S : GScp X.N X.env.scope scope own) (hA : A.frames = some (genEnv scope (cloFrom X.env.cells scope.names []) C code builtinsNs X.env :: X.stack)) (hh : A.handled = none)
    (hfp : ∀ b ∈ fp, FpOk X pins H1 b ∧ b < s1.heap.objs.size) (hT : H1 T = some (.tbl ps)) (hT2 : H2 = upd H1 T (.tbl (ps ++ more))) (os : s6.os = s1.os) (bare : AllBare s6.gens) (keep : ∀ b o, b ≠ T → s1.heap.get? b = some o → s6.heap.get? b = some o) (hok : HOk X.prog X.w H2 s6.heap)
    (ns : s6.heap.Ns C (fun y => if y = ".0" then some it else none)) (hC : s1.heap.objs.size ≤ C) (ha : s6.heap.get? a = some go) (haC : a ≠ C) (haz : s1.heap.objs.size ≤ a) (hgo : ∀ v, go.data ≠ .cell v) (atT : ∃ o, s6.heap.get? T = some o) :
    Inv (gxOf X s1 H1 (genEnv scope (cloFrom X.env.cells scope.names []) C code builtinsNs X.env) A fp [(a, go)]) [] (wipe σ (own.map (·.2))) H2 s6 := by
  have hfree : ∀ y ∈ scope.names, y.2 = .free → ∃ c, X.env.cells.lookup y.1 = some c := fun y hy e => by
    rcases S.free y hy e with k | k
    · exact I.ok.has _ (.inl k)
    · exact I.ok.has _ (.inr k)
  have young : ∀ b, s1.heap.objs.size ≤ b → H1 b = none := fun b hb => I.hok.fresh hb
  have neT : ∀ b, H1 b = none → b ≠ T := fun b n z => by rw [z, hT] at n; cases n
  have at2 : ∀ b, b ≠ T → H2 b = H1 b := fun b h => by rw [hT2, upd_ne h]
  have cellT : ∀ {y c}, X.env.cells.lookup y = some c → c ≠ T := fun {y c} h => neT c (I.freeC y c h)
  have cellC : ∀ {y c}, X.env.cells.lookup y = some c → c < s1.heap.objs.size := fun {y c} h => by
    obtain ⟨v, z⟩ := I.cell y c h
    exact z.lt
  have fsub : ∀ b ∈ frs X.stack, b < s1.heap.objs.size := fun b hb => by
    rcases List.mem_cons.mp (I.stkSub b hb) with z | z
    · rw [z]; exact I.lt
    · obtain ⟨_, o, ho, _⟩ := I.ok.funs.mem z
      exact Nat.lt_of_lt_of_le (Heap.lt_size ho) I.sz
  refine ⟨⟨I.ok.mod, S.kind, I.ok.glob, rfl, hC, fun x y c h1 h2 => ?_, fun x hx => ?_, fun x c z => absurd (show false = true from z) Bool.false_ne_true, fun _ => hh, hA, .inr ⟨rfl, rfl⟩, fun b hb => ⟨?_, fun x c h z => ?_⟩, I.bs, Nat.le_trans I.ok.bsz I.sz, fun b o e hb => ?_, fun b hb z => ?_, I.stack, I.stkFree⟩,
    os, bare, ⟨fun b o e n _ _ => ?_, fun b o e n _ _ => ?_, fun b o e n _ => ?_, fun b o e _ => ?_, fun b xs e => ?_, fun b o u e => ?_, fun b qs e => ?_⟩, ⟨_, ns, fun i x v h1 h2 h3 => ?_⟩, fun x c h => ?_, ?_, fun x c h => ?_, fun p hp => ?_, hok, ?_⟩
  · exact I.ok.inj x y c (clo_at hfree h1) (clo_at hfree h2)
  · rcases hx with hx | hx
    · exact absurd rfl (S.cell _ (PySem.mem_of_lookup hx))
    · exact mem_lookup (cloFrom_has (cells := X.env.cells) (acc := []) (PySem.mem_of_lookup hx))
  · exact Nat.ne_of_lt (Nat.lt_of_lt_of_le (hfp b hb).2 hC)
  · exact (hfp b hb).1.2.2.2.2.1 x c (clo_at hfree h) z
  · rcases (hfp b hb).1.2.2.2.1 with z | z
    · exact I.ok.noex b o e z
    · exact absurd (Nat.lt_of_lt_of_le (Heap.lt_size e) (Nat.le_trans I.ok.bsz z)) (Nat.lt_irrefl _)
  · rcases List.mem_cons.mp (I.stkSub b z) with y | y
    · exact (hfp b hb).1.2.1 y
    · exact (hfp b hb).1.2.2.1 y
  · exact keep b o (neT b n) e
  · exact ⟨o.slots, keep b o (neT b n) e⟩
  · rw [at2 b (neT b n)]; exact n
  · by_cases z : b = T
    · rw [z]; exact atT
    · exact ⟨o, keep b o z e⟩
  · have ne : b ≠ T := fun z => by
      have e' : H1 b = some (.tup xs) := e
      rw [z, hT] at e'; cases e'
    rw [at2 b ne]; exact e
  · have ne : b ≠ T := fun z => by
      have e' : H1 b = some (.frz o u) := e
      rw [z, hT] at e'; cases e'
    rw [at2 b ne]; exact e
  · by_cases z : b = T
    · have e' : H1 b = some (.tbl qs) := e
      rw [z, hT] at e'; cases e'
      exact ⟨more, by rw [z, hT2, upd_same]⟩
    · refine ⟨#[], ?_⟩
      rw [at2 b z, Array.append_empty]; exact e
  · have w2 := wipe_some h2
    rcases h3 with h3 | h3 | h3
    · exact absurd (S.loc i x h1 h3) w2.2
    · exact absurd rfl (S.cell _ (PySem.mem_of_lookup h3))
    · have hm := PySem.mem_of_lookup h3
      obtain ⟨m, hn, look⟩ := I.loc
      have vis : X.env.scope.names.lookup x = some .cell ∨ X.env.scope.names.lookup x = some .free := S.free _ hm rfl
      obtain ⟨u, ru, lk⟩ := look i x v h1 w2.1 (.inr vis)
      rcases lk with ⟨k, _⟩ | ⟨_, c, hc, hv⟩
      · exfalso
        have k : X.env.scope.names.lookup x = some .local := k
        rcases vis with y | y <;> rw [k] at y <;> cases y
      · obtain ⟨c', hc'⟩ := mem_lookup (cloFrom_has (cells := X.env.cells) (acc := []) hm)
        have e : c' = c := by
          have := clo_at hfree hc'
          rw [hc] at this
          exact (Option.some.inj this).symm
        rw [e] at hc'
        obtain ⟨o, ho, r⟩ := hv
        exact ⟨u, ru, .inr ⟨.inr h3, c, hc', o, keep c o (cellT hc) ho, r⟩⟩
  · obtain ⟨v, o, ho, r⟩ := I.cell x c (clo_at hfree h)
    exact ⟨v, o, keep c o (cellT (clo_at hfree h)) ho, r⟩
  · show H2 C = none
    rw [at2 C (neT C (young C hC))]; exact young C hC
  · rw [at2 c (cellT (clo_at hfree h))]; exact I.freeC x c (clo_at hfree h)
  · have hp' : p = (a, go) := by simpa using hp
    subst hp'
    refine ⟨ha, ?_, haC, fun z => absurd (fsub a z) (Nat.not_lt.mpr haz), hgo⟩
    rw [at2 a (neT a (young a haz))]; exact young a haz
  · rw [wipe_length]; exact I.len
/-- the code object of the expression, from the table or new; then the built-ins -/
theorem gen_head2 {c T : Addr} {gpos : Pos} {scope : Scope} {s : Shared} {H : Hp} {ps : Array Value} {Q2 : Value → Addr → Shared → Prop} (TB : GxR.TabB X.base X.mg c T) (hcode : X.env.code = .ref c) (I : Inv X pins σ H s) (hT : H T = some (.tbl ps)) (ht : TriplesOk ps.toList)
    (k : ∀ (code : Value) (h3 : Heap) (tk : Nat) (more : Array Value), Heap.ExtBut T s.heap h3 → s.heap.objs.size ≤ h3.objs.size → h3.get? T = some { cls := .none, data := .fields (ps ++ more) } → TriplesOk (ps ++ more).toList → Q2 code builtinsNs { s with heap := h3, toks := tk }) :
    wpAny (model X.prog X.w) X.A (genexprCode X.env gpos (X.env.qual ++ "<genexpr>") scope) (fun code s₃ => wpAny (model X.prog X.w) X.A (builtinsFor X.env.globals X.env.builtins) (fun bi s₄ => Q2 code bi s₄) X.xe s₃) X.xe s := by
  have tAt : s.heap.get? T = some { cls := .none, data := .fields ps } := I.hok T _ hT
  have head : PySem.W.CodeHd s.heap c T := TB.code.keeps I.bk
  have blt : ∀ (code : Value) (h3 : Heap) (tk : Nat) (more : Array Value), Heap.ExtBut T s.heap h3 → s.heap.objs.size ≤ h3.objs.size → h3.get? T = some { cls := .none, data := .fields (ps ++ more) } → TriplesOk (ps ++ more).toList →
      wpAny (model X.prog X.w) X.A (builtinsFor X.env.globals X.env.builtins) (fun bi s₄ => Q2 code bi s₄) X.xe { s with heap := h3, toks := tk } := by
    intro code h3 tk more hx hz h3T h3t
    obtain ⟨bm, ob2, b1, b2, b3, b4, b5, b6, b7, b8⟩ := TB.bm
    have gl : s.heap.Ns mainGlobals X.mg := I.mod.glob.keeps I.bk
    refine wpAny_builtinsFor (m := X.mg) ?_ b1 b2 (hx _ _ b4 (I.bk _ _ b5)) b6 b7 b8 (k code h3 tk more hx hz h3T h3t)
    rw [I.ok.glob]
    exact gl.extBut hx TB.gP
  cases hf : codeAmong gpos ps.toList with
  | some cv =>
    refine wpAny_genexprCode_hit hcode (head.code tAt ht) hf (blt cv s.heap s.toks #[] (Heap.ExtBut.refl _ _) (Nat.le_refl _) ?_ ?_)
    · rw [Array.append_empty]; exact tAt
    · rw [Array.append_empty]; exact ht
  | none =>
    refine wpAny_genexprCodeX hcode (head.code tAt ht) (head.tab tAt) hf fun c2 h3 tk hx hge hlt hco _ htab _ => blt _ h3 tk _ hx (Nat.le_trans hge (Nat.le_of_lt hlt)) htab.2 ?_
    obtain ⟨_, _, _, _, _, _, _, _, _, _, _, _, _, _, _, _, _, _, _, trip, _⟩ := hco
    exact trip
def tGenF (T : Addr) (wi : TI) (g : TG) (te : TE) (vs : List Nat) (f : List Nat → (Nat → Bool) → Bool) : TE := fun σ H Q => wi σ H fun J H1 => GxR.TabG H1 T ∧ ∃ (n : Nat) (pb : Nat → Bool) (W : Nat → Hp → Prop), (∀ H2, GxR.Tabbed T H1 H2 → W 0 H2) ∧ (∀ H, W n H → J.stop n H) ∧
  (∀ j H, j < n → W j H → J.go j H ∧ ∀ x H', J.yld j H x H' → g x (wipe σ vs) H' fun σ2 H2 => wipe σ2 vs = wipe σ vs ∧ te σ2 H2 fun y H3 => truV y = some (pb j) ∧ W (j + 1) H3) ∧ ∀ j H, W j H → Q (.bl (f (List.range n) pb)) H
/-- a generator expression's frame over X -/
def IsGx (X : Cx) (scope : Scope) (j : Nat) (X' : Cx) : Prop := ∃ (s : Shared) (H : Hp) (C : Addr) (code : Value) (A : Around) (fp : List Addr) (pn : List (Addr × Obj)), X' = gxOf X s H (genEnv scope (cloFrom X.env.cells scope.names []) C code builtinsNs X.env) A fp pn ∧ Room j A
theorem pe_genF {nm : Str} {f : List Nat → (Nat → Bool) → Bool} {c T : Addr} {elt tg iter : Expr} {own : List (Str × Nat)} {p pos gpos : Pos} {scope : Scope} {wi : TI} {g : TG} {te : TE} {k j : Nat} {bn : Value} (hr : Room k X.A) (hj : j + 1 ≤ k) (hg : Gl X nm) (hm : X.mg nm = none) (hbn : bootBuiltins nm = some bn) (hbb : ∃ id, bn = .builtin id)
    (cw : ∀ (a : Addr) (s5 : Shared) (Q : Value → Shared → Prop) (n : Nat) (pb : Nat → Bool) (St : Nat → Shared → Prop), Gw X.prog X.w X.A.in1 a n pb St → St 0 s5 → (∀ i s', St i s' → Q (.bool (f (List.range n) pb)) s') → wpAny (model X.prog X.w) X.A (call bn [.ref a]) Q X.xe s5)
    (TB : GxR.TabB X.base X.mg c T) (hcode : X.env.code = .ref c) (S : GScp X.N X.env.scope scope own) (hi : PI X tg iter wi) (hs : ∀ v, genFold iter X.env v = pure v) (hn : nm ≠ "__name__") (hdb : (nm == ("__debug__" : Str)) = false)
    (hG : ∀ X', IsGx X scope j X' → PG X' tg g) (hE : ∀ X', IsGx X scope j X' → PE X' elt te)
    (he : starEach [.GeneratorExp elt [⟨tg, iter, [], 0⟩] scope gpos] X.env = (false, eval (.GeneratorExp elt [⟨tg, iter, [], 0⟩] scope gpos) X.env) :: starEach [] X.env) :
    PE X (.Call (.Name nm p) [.GeneratorExp elt [⟨tg, iter, [], 0⟩] scope gpos] [] pos) (tGenF T wi g te (own.map (·.2)) f) := by
  obtain ⟨id, rfl⟩ := hbb
  refine ⟨fun pins s σ H Q I h => ?_⟩
  have hd := hr.hd
  have dp := hr.dp
  have un := hr.un
  have hfree : ∀ y ∈ scope.names, y.2 = .free → ∃ c, X.env.cells.lookup y.1 = some c := fun y hy e => by
    rcases S.free y hy e with k | k
    · exact I.ok.has _ (.inl k)
    · exact I.ok.has _ (.inr k)
  refine wpAny_Call_Name_kw (ld_blt I hg hm hbn ?_ hn hdb); refine PyProof.Rows.callWith_builtin1 ?_ he (by rfl)
  rw [he]
  show wpAny _ _ (spliced ((false, eval (.GeneratorExp elt [⟨tg, iter, [], 0⟩] scope gpos) X.env) :: backTo pos (starEach [] X.env))) _ _ s
  refine Calls.spliced_cons (wpAny_GeneratorExp_make S.co (closure_ok hfree) S.cell S.dot S.kind (by omega) ?_ hs)
  refine thn (hi.run pins s σ H _ I h) fun v s1 h1 => thn h1 fun itv s2 ⟨it, fp, tn, J, H1, ei, I2, TT, st, hfp, ⟨ps, hT, ht⟩, n, pb, W, w0, hstop, hturn, hQ⟩ => ?_
  subst ei
  refine ⟨I2.nolimit, gen_head2 TB hcode I2 hT ht fun code h3 tk more hx hz h3T h3t => fun h' ns sb => ?_⟩
  have tAt : s2.heap.get? T = some { cls := .none, data := .fields ps } := I2.hok T _ hT
  have sz : ∀ b ∈ fp, b < s2.heap.objs.size := fun b hb => by
    obtain ⟨o, e, _⟩ := TT.obj _ _ st b hb
    exact Heap.lt_size e
  have hsz : h'.objs.size = h3.objs.size + 1 := by rw [sb.1, Heap.size_push]
  have k3 : ∀ b o, h3.get? b = some o → h'.get? b = some o := fun b o e => sb.extBut b o (Nat.ne_of_lt (Heap.lt_size e)) (Heap.get?_push_of_some _ e)
  generalize hgo : ({ cls := .type "generator", data := .fields #[.int s2.gens.size 0, .str "<genexpr>" (tk + 1), .str (X.env.qual ++ "<genexpr>") (tk + 1 + 1)] } : Obj) = go
  have isg : ∀ h : Heap, h.get? h'.objs.size = some go → h.IsGen h'.objs.size s2.gens.size := fun h e => ⟨go, _, _, e, by rw [← hgo], by rw [← hgo], by rw [← hgo]⟩
  have gofree : ∀ v, go.data ≠ .cell v := fun v e => by rw [← hgo] at e; cases e
  have live : go.isFreed = false := by rw [← hgo]; rfl
  generalize h6 : ({ s2 with heap := h'.push go, gens := s2.gens.push (.fresh (.compStart (.GeneratorExp elt [⟨tg, iter, [], 0⟩] scope gpos) 0 (.ref it) .none (genEnv scope (cloFrom X.env.cells scope.names []) h3.objs.size code builtinsNs X.env))), toks := tk + 1 + 1 + 1 } : Shared) = s6
  have heap6 : s6.heap = h'.push go := by rw [← h6]
  have gens6 : s6.gens = s2.gens.push (.fresh (.compStart (.GeneratorExp elt [⟨tg, iter, [], 0⟩] scope gpos) 0 (.ref it) .none (genEnv scope (cloFrom X.env.cells scope.names []) h3.objs.size code builtinsNs X.env))) := by rw [← h6]
  have up3 : ∀ b o, h3.get? b = some o → s6.heap.get? b = some o := fun b o e => by rw [heap6]; exact Heap.get?_push_of_some _ (k3 b o e)
  have keep : ∀ b o, b ≠ T → s2.heap.get? b = some o → s6.heap.get? b = some o := fun b o hb e => up3 b o (hx b o hb e)
  have atT := up3 T _ h3T
  have at_a : s6.heap.get? h'.objs.size = some go := by rw [heap6]; exact Heap.get?_push_size _ live
  have bare6 : AllBare s6.gens := by rw [gens6]; exact AllBare.push I2.bare rfl
  have J6 : Inv X pins σ (upd H1 T (.tbl (ps ++ more))) s6 := by
    have := GxR.inv_tab (more := more) (h' := s6.heap) (g' := s6.gens) (d' := s6.drawn) (t' := s6.toks) I2 hT keep atT bare6
    rw [GxR.sh_eta s2 s6 (by rw [← h6])] at this
    exact this
  have neT : ∀ b, H1 b = none → b ≠ T := fun b z y => by rw [y, hT] at z; cases z
  have fr : X.A.frames = some X.stack := I2.ok.frames
  generalize hAX : (X.A.in1.in1.over (.compLoop (.GeneratorExp elt [⟨tg, iter, [], 0⟩] scope gpos) 0 (.ref it) .none (genEnv scope (cloFrom X.env.cells scope.names []) h3.objs.size code builtinsNs X.env)) []) = AX
  have hhA : AX.handled = none := by rw [← hAX]; exact hd
  have hfr : AX.frames = some (genEnv scope (cloFrom X.env.cells scope.names []) h3.objs.size code builtinsNs X.env :: X.stack) := by
    rw [← hAX]
    have e : ∀ (B : Around) (c : Code) (cv : Env), c.envs = [cv] → B.frames = some X.stack → (B.over c []).frames = some (cv :: X.stack) := fun B c cv h1 h2 => by
      obtain ⟨b1, b2, b3, b4, b5⟩ := B
      simp only at h2
      subst h2
      simp [Around.over, envsOf, pushEnvs, h1]
    exact e _ _ _ rfl fr
  have hdp : AX.depth ≤ X.A.depth + 1 := by rw [← hAX]; exact Nat.le_of_eq rfl
  have hun : AX.units ≤ X.A.units + 8 := by
    rw [← hAX]
    exact Nat.le_trans (Nat.le_of_eq rfl) (show X.A.units + 5 ≤ X.A.units + 8 by omega)
  have hrA : Room j AX := ⟨hhA, by omega, by omega⟩
  have ns6 : s6.heap.Ns h3.objs.size (fun y => if y = ".0" then some (.ref it) else none) := by rw [heap6]; exact ns.push _
  have I6 := gen_inv (A := AX) (go := go) (a := h'.objs.size) I2 S hfr hhA (fun b hb => ⟨hfp b hb, sz b hb⟩) hT rfl (by rw [← h6]) bare6 keep J6.hok ns6 hz at_a (by rw [hsz]; exact Nat.succ_ne_self _) (by rw [hsz]; exact Nat.le_succ_of_le hz) gofree ⟨_, atT⟩
  have st6 : tn 0 s6.heap := TT.keep _ _ _ st fun b hb o e => keep b o (neT b (hfp b hb).1) e
  have nf6 : ∀ b ∈ fp, (upd H1 T (.tbl (ps ++ more))) b = none := fun b hb => by rw [upd_ne (neT b (hfp b hb).1)]; exact (hfp b hb).1
  have w6 := w0 (upd H1 T (.tbl (ps ++ more))) ⟨⟨_, upd_same, h3t⟩, fun b hb => upd_ne hb⟩
  have hpn : ∀ q ∈ [(h'.objs.size, go)], q.1 ∉ fp := fun q hq hb => by
    rw [List.mem_singleton.mp hq] at hb
    have := sz _ hb
    rw [hsz] at this
    exact absurd (Nat.lt_of_lt_of_le this (Nat.le_trans hz (Nat.le_succ _))) (Nat.lt_irrefl _)
  have isX : IsGx X scope j (gxOf X s2 H1 (genEnv scope (cloFrom X.env.cells scope.names []) h3.objs.size code builtinsNs X.env) AX fp [(h'.objs.size, go)]) := ⟨_, _, _, _, _, _, _, rfl, hrA⟩
  have z6 : GZ X s2 H1 (genEnv scope (cloFrom X.env.cells scope.names []) h3.objs.size code builtinsNs X.env) AX fp [(h'.objs.size, go)] (wipe σ (own.map (·.2))) tn W 0 s6 := ⟨_, I6, st6, nf6, w6⟩
  have turns := gen_turns (pos := gpos) (iter := iter) (tg := tg) (elt := elt) (pb := pb) hAX S.co TT (hG _ isX) (hE _ isX) hpn hstop hturn
  have gw := gen_gw (A0 := X.A.in1) (X := X) (s1 := s2) (H1 := H1) (cenv := genEnv scope (cloFrom X.env.cells scope.names []) h3.objs.size code builtinsNs X.env) (A := AX) (fp := fp) (pn := [(h'.objs.size, go)]) (σw := wipe σ (own.map (·.2))) (W := W) (n := n) (pb := pb) TT hd (show X.A.depth < recursionLimit by omega) isg (List.mem_singleton.mpr rfl)
  refine Calls.spliced_nil (cw h'.objs.size s6 _ n pb _ gw (.inl ⟨Nat.zero_le _, z6, .fresh (.compStart (.GeneratorExp elt [⟨tg, iter, [], 0⟩] scope gpos) 0 (.ref it) .none (genEnv scope (cloFrom X.env.cells scope.names []) h3.objs.size code builtinsNs X.env)), rfl, by rw [gens6]; exact Array.getElem?_push_size .., fun s7 wk => And.intro rfl ?_⟩) fun i s7 st7 => ?_)
  · have z7 := z6.wake TT wk
    exact gen_begin TT (let ⟨_, _, q, _⟩ := z7; q) (turns n 0 s7 s7 (Nat.sub_zero _) (Nat.zero_le _) z7)
  · have back : ∀ {H : Hp}, Inv (gxOf X s2 H1 (genEnv scope (cloFrom X.env.cells scope.names []) h3.objs.size code builtinsNs X.env) AX fp [(h'.objs.size, go)]) [] (wipe σ (own.map (·.2))) H s7 → Inv X pins σ H s7 := fun {H} I7 =>
      I2.call' (ch := fp) I7.os I7.base I7.hok I7.bare fun b hb => ⟨(hfp b hb).2.2.2.1, (hfp b hb).2.1, (hfp b hb).2.2.2.2.1, (hfp b hb).2.2.2.2.2⟩
    rcases st7 with ⟨_, ⟨H, I7, _, _, w7⟩, _⟩ | ⟨_, H, I7, w7⟩
    · exact ⟨.bl _, H, back I7, rfl, hQ _ _ w7⟩
    · exact ⟨.bl _, H, back I7, rfl, hQ _ _ w7⟩
end
/-! ### the rule, by data -/
def truS : PyData → Option Bool
  | .bool b => some b
  | .int i => some (i != 0)
  | _ => none
theorem truS_v {K : PySem.W.Frag} {H : Hp} {v : V} {e : PyData} {b : Bool} (h : Dq K H v e) (t : truS e = some b) : truV v = some b := by
  cases h <;> first | exact t | cases t
theorem wipe_wipe [Tabs] (σ : L2.St) (vs : List Nat) : wipe (wipe σ vs) vs = wipe σ vs := by
  have ww : ∀ us : List Nat, (∀ u ∈ us, u ∈ vs) → wipe (wipe σ us) vs = wipe σ vs := fun us => by
    induction us with
    | nil => intro _; rfl
    | cons u us ih =>
      intro hu
      show wipe ((wipe σ us).set u none) vs = _
      rw [wipe_set (hu u List.mem_cons_self)]
      exact ih fun w hw => hu w (List.mem_cons_of_mem _ hw)
  exact ww vs fun _ h => h
section
variable [Tabs] {K : PySem.W.Frag} {B : Bs} {Γ : Gm} {ds : List PyData}
theorem de_genF {T : Addr} {wi : TI} {g : TG} {te : TE} {vs js : List Nat} {f : List Nat → (Nat → Bool) → Bool} (ts : Tabs.ts T) (p : PyData → Bool) (G2 : PyData → Gm) (ev : PyData → PyData) (h : DI K B wi Γ ds) (hv : ∀ j ∈ js, j ∈ vs)
    (hs : ∀ d, d ∈ ds → DG K g js d (wipeG Γ vs) (G2 d) ∧ DE K B te (G2 d) (ev d) ∧ truS (ev d) = some (p d)) : DE K B (tGenF T wi g te vs f) Γ (.bool (f (List.range ds.length) (tabP ds p))) := fun H Hs σ E Q q => h H Hs σ E _ fun J H1 Hs1 g1 hJ => by
  have E1 := E.grow g1
  have tab := E1.tab T ts
  refine ⟨let ⟨ps, a, b⟩ := tab; ⟨ps, g1.sub _ _ a, b⟩, ds.length, tabP ds p, fun _ H => ∃ Hs', Gr H1 Hs1 H Hs', fun H2 tb => gr_tab g1.sub tab tb, fun H ⟨Hs', gA⟩ => (hJ H Hs' gA.sub gA.exs).1, fun j H lt ⟨Hs', gA⟩ => ?_, fun j H ⟨Hs', gA⟩ => q _ H Hs' (g1.trans gA) (.bl _)⟩
  have hd' : ds[j]? = some ds[j] := List.getElem?_eq_getElem lt
  obtain ⟨_, j2⟩ := hJ H Hs' gA.sub gA.exs
  obtain ⟨j3, j4⟩ := j2 j _ hd'
  refine ⟨j3, fun x H2 hy => ?_⟩
  obtain ⟨Hs2, g2, p2⟩ := j4 x H2 hy
  obtain ⟨hg, he, ht⟩ := hs ds[j] (List.getElem_mem lt)
  refine hg B H2 Hs2 _ x (En.wiped ((E1.grow gA).grow g2) vs) p2 _ fun σ3 E3 w3 => ⟨(w3 vs hv).trans (wipe_wipe σ vs), he H2 Hs2 σ3 E3 _ fun y H3 Hs3 g3 p3 => ⟨?_, Hs3, (gA.trans g2).trans g3⟩⟩
  have e : tabP ds p j = p ds[j] := by unfold tabP; rw [hd']; rfl
  rw [e]
  exact truS_v p3 ht
variable {X : Cx}
theorem xp_genF {nm : Str} {f : List Nat → (Nat → Bool) → Bool} {c T : Addr} {elt tg iter : Expr} {own : List (Str × Nat)} {js : List Nat} {q pos gpos : Pos} {scope : Scope} {k j : Nat} {bn : Value} (hr : Room k X.A) (hj : j + 1 ≤ k) (hb : Bi X nm) (hbn : bootBuiltins nm = some bn) (hbb : ∃ id, bn = .builtin id)
    (cw : ∀ (a : Addr) (s5 : Shared) (Q : Value → Shared → Prop) (n : Nat) (pb : Nat → Bool) (St : Nat → Shared → Prop), Gw X.prog X.w X.A.in1 a n pb St → St 0 s5 → (∀ i s', St i s' → Q (.bool (f (List.range n) pb)) s') → wpAny (model X.prog X.w) X.A (call bn [.ref a]) Q X.xe s5)
    (G : Gx X c T) (S : GScp X.N X.env.scope scope own) (hs : ∀ v, genFold iter X.env v = pure v) (hn : nm ≠ "__name__") (hdb : (nm == ("__debug__" : Str)) = false)
    (he : starEach [.GeneratorExp elt [⟨tg, iter, [], 0⟩] scope gpos] X.env = (false, eval (.GeneratorExp elt [⟨tg, iter, [], 0⟩] scope gpos) X.env) :: starEach [] X.env)
    (p : PyData → Bool) (G2 : PyData → Gm) (ev : PyData → PyData) (hi : Xi X B Γ tg iter ds) (hv : ∀ j ∈ js, j ∈ own.map (·.2))
    (hel : ∀ X', IsGx X scope j X' → ∀ d, d ∈ ds → Xg X' tg js d (wipeG Γ (own.map (·.2))) (G2 d) ∧ Xp X' B (G2 d) elt (ev d)) (ht : ∀ d, d ∈ ds → truS (ev d) = some (p d)) :
    Xp X B Γ (.Call (.Name nm q) [.GeneratorExp elt [⟨tg, iter, [], 0⟩] scope gpos] [] pos) (.bool (f (List.range ds.length) (tabP ds p))) := by
  refine xp_of (pe_genF (g := fun v σ H Q => ∀ X', IsGx X scope j X' → uG X' tg v σ H Q) (te := fun σ H Q => ∀ X', IsGx X scope j X' → uE X' elt σ H Q) hr hj hb.gl hb.no hbn hbb cw G.tb G.code S pi_u hs hn hdb (fun X' hX => ⟨fun pins s σ H v u Q I r h => ?_⟩) (fun X' hX => ⟨fun pins s σ H Q I h => ?_⟩) he) (de_genF G.ts p G2 ev hi hv fun d hd => ⟨fun B1 H Hs σ v E pv Q qq X' hX => ?_, fun H Hs σ E Q qq X' hX => ?_, ht d hd⟩)
  · obtain ⟨t, h1, h2⟩ := h X' hX
    exact h1.run pins s σ H v u Q I r h2
  · exact pe_u.run pins s σ H Q I (h X' hX)
  · have := (hel X' hX d hd).1
    obtain ⟨_, _, _, _, _, _, _, rfl, _⟩ := hX
    exact this B1 H Hs σ v E pv Q qq
  · have := (hel X' hX d hd).2
    obtain ⟨_, _, _, _, _, _, _, rfl, _⟩ := hX
    exact this H Hs σ E Q qq
theorem xe_allF {c T : Addr} {elt tg iter : Expr} {own : List (Str × Nat)} {js : List Nat} {q pos gpos : Pos} {scope : Scope} {k j : Nat} (hr : Room k X.A) (hj : j + 1 ≤ k) (hb : Bi X "all") (G : Gx X c T) (S : GScp X.N X.env.scope scope own) (hs : ∀ v, genFold iter X.env v = pure v)
    (he : St1 X (.GeneratorExp elt [⟨tg, iter, [], 0⟩] scope gpos) []) (p : PyData → Bool) (G2 : PyData → Gm) (ev : PyData → PyData) (hi : Xi X B Γ tg iter ds) (hv : ∀ j ∈ js, j ∈ own.map (·.2))
    (hel : ∀ X', IsGx X scope j X' → ∀ d, d ∈ ds → Xg X' tg js d (wipeG Γ (own.map (·.2))) (G2 d) ∧ Xp X' B (G2 d) elt (ev d)) (ht : ∀ d, d ∈ ds → truS (ev d) = some (p d)) :
    Xp X B Γ (.Call (.Name "all" q) [.GeneratorExp elt [⟨tg, iter, [], 0⟩] scope gpos] [] pos) (.bool (ds.all p)) := by
  rw [← all_tab]
  exact xp_genF (f := fun l q => l.all q) hr hj hb boot_all ⟨_, rfl⟩ (fun a s5 Q n pb Sf W h0 hQ => call_allW W h0 hQ) G S hs (by decide) (by decide +kernel) he p G2 ev hi hv hel ht
theorem xe_anyF {c T : Addr} {elt tg iter : Expr} {own : List (Str × Nat)} {js : List Nat} {q pos gpos : Pos} {scope : Scope} {k j : Nat} (hr : Room k X.A) (hj : j + 1 ≤ k) (hb : Bi X "any") (G : Gx X c T) (S : GScp X.N X.env.scope scope own) (hs : ∀ v, genFold iter X.env v = pure v)
    (he : St1 X (.GeneratorExp elt [⟨tg, iter, [], 0⟩] scope gpos) []) (p : PyData → Bool) (G2 : PyData → Gm) (ev : PyData → PyData) (hi : Xi X B Γ tg iter ds) (hv : ∀ j ∈ js, j ∈ own.map (·.2))
    (hel : ∀ X', IsGx X scope j X' → ∀ d, d ∈ ds → Xg X' tg js d (wipeG Γ (own.map (·.2))) (G2 d) ∧ Xp X' B (G2 d) elt (ev d)) (ht : ∀ d, d ∈ ds → truS (ev d) = some (p d)) :
    Xp X B Γ (.Call (.Name "any" q) [.GeneratorExp elt [⟨tg, iter, [], 0⟩] scope gpos] [] pos) (.bool (ds.any p)) := by
  rw [← any_tab]
  exact xp_genF (f := fun l q => l.any q) hr hj hb boot_any ⟨_, rfl⟩ (fun a s5 Q n pb Sf W h0 hQ => call_anyW W h0 hQ) G S hs (by decide) (by decide +kernel) he p G2 ev hi hv hel ht
end
/-- a generator expression's scope, by computing -/
def gscB (N : List Str) (sc scope : Scope) (own : List (Str × Nat)) : Bool := (match scope.kind with | .function => true | _ => false) && !scope.isCoroutine && (scope.names.all fun y => match y.2 with | .cell => false | .free => sc.names.lookup y.1 == some .cell || sc.names.lookup y.1 == some .free | _ => true) &&
  scope.names.lookup (".0" : Str) == some NameKind.local && ((List.range N.length).all fun i => match N[i]? with | some x => !(scope.names.lookup x == some .local) || (own.map (·.2)).contains i | none => true)
theorem gsc_by {N : List Str} {sc scope : Scope} {own : List (Str × Nat)} (h : gscB N sc scope own = true) : GScp N sc scope own := by
  unfold gscB at h
  simp only [Bool.and_eq_true, List.all_eq_true, beq_iff_eq, Bool.not_eq_true'] at h
  obtain ⟨⟨⟨⟨h1, h2⟩, h3⟩, h4⟩, h5⟩ := h
  refine ⟨?_, h2, fun y hy e => ?_, h4, fun y hy e => ?_, fun i x hx hl => ?_⟩
  · split at h1
    · assumption
    · cases h1
  · have := h3 y hy
    rw [e] at this
    cases this
  · have := h3 y hy
    rw [e] at this
    simpa using this
  · have := h5 i (List.mem_range.mpr (List.getElem?_eq_some_iff.mp hx).1)
    rw [hx] at this
    simpa [hl] using this
end Dl
set_option Elab.async false
set_option linter.all false
set_option maxRecDepth 100000
set_option maxHeartbeats 2000000
/-! repr of data; the law's own run, at the caller alone -/
namespace Dl
open PySem PySem.Spec PyProof.Rows L2
/-- nothing is being shown around the def -/
structure Gd (X : Cx) : Prop where
  h : X.A.guards = some []
/-- what repr takes: a list or a tuple of ints, texts, truths and such -/
def reprB (d : PyData) : Bool := (match d with | .list _ => true | .tuple _ => true | _ => false) && d.canLay0 && d.showable && !d.hasDict && decide (d.depth ≤ 60)
theorem call_reprD {X : Cx} (g : Gd X) (hu : X.A.units + 64 < cLine) : CallR X (.builtin "repr") (fun xs H Q => ∃ a d, xs = [.ref a] ∧ Dp X.K H (.ref a) d ∧ reprB d = true ∧ d.shown.length ≤ sizeLine ∧ Q (.str d.shown) H) := by
  intro pins s σ H xs us Q I r h
  obtain ⟨a, d, rfl, dp, rb, sz, q⟩ := h
  unfold reprB at rb
  simp only [Bool.and_eq_true, Bool.not_eq_true', decide_eq_true_eq] at rb
  obtain ⟨⟨⟨⟨_, r2⟩, r3⟩, r4⟩, r5⟩ := rb
  cases r with
  | cons r1 r0 =>
    cases r0
    obtain ⟨as, rd⟩ := Dp.reads I d _ _ dp r1
    obtain rfl : _ = Value.ref a := r1
    exact repr_of_reads' rd r3 (fun z => by rw [r4] at z; cases z) g.h (by omega) (fun _ _ e => e) (fun h' u tk hk => ⟨.str _, H, I.kept hk, ⟨u, rfl⟩, q⟩) sz
theorem boot_repr : bootBuiltins "repr" = some (.builtin "repr") := by decide +kernel
section
variable [Tabs] {X : Cx} {B : Bs} {Γ : Gm} {e : Expr} {d : PyData} {p' pos : Pos}
theorem xe_repr (hb : Bi X "repr") (g : Gd X) (rm : Rm X) (he : Tt (St1 X e [])) (hp : Tt (Pl1 X pos [])) (h : Xp X B Γ e d) (k : Side (reprB d = true)) (sz : Side (d.shown.length ≤ sizeLine)) : Xp X B Γ (.Call (.Name "repr" p') [e] [] pos) (.str d.shown) :=
  xp_cb (call_reprD g rm.h) hb boot_repr (by decide) (by decide +kernel) he.h hp.h (xa_cons he.h h xa_nil) fun H Hs xs s a Q q => by
    cases a with
    | cons a1 a2 =>
      cases a2
      have k2 := k.h
      unfold reprB at k2
      simp only [Bool.and_eq_true, Bool.not_eq_true', decide_eq_true_eq] at k2
      obtain ⟨⟨⟨⟨r1, r2⟩, r3⟩, r4⟩, r5⟩ := k2
      have dp := (dp_sub s a1).plain r2
      cases a1 with
      | lst h1 h2 => exact ⟨_, _, rfl, dp, k.h, sz.h, q _ H Hs (Gr.refl s) (.str _)⟩
      | tup h1 h2 => exact ⟨_, _, rfl, dp, k.h, sz.h, q _ H Hs (Gr.refl s) (.str _)⟩
      | _ => cases r1
end
/-! ### a def's run, at one place -/
/-- as FnOk, but where it is called from A alone, and by nobody in a def of ours -/
def RunAt (P : Program) (w : World) (K : PySem.W.Frag) (mg : Str → Option Value) (base : Heap) (CX : CXT) (A : Around) (f : Addr) (fd : FuncData) (ps : List Str) (sp : Sp) : Prop :=
  ∀ (s : Shared) (H : Hp) (args : Args) (us : List Value) (vs : List V) (Q : VK) (E : XK), Env0 P w K mg base A [] s H → BindsTo s fd args (ps.zip us) → Vals vs us → sp vs H Q E → codeAny (model P w) A (.call (.ref f) args) (CR CX [] P w H s Q E) s
section
variable [Tabs] {P : Program} {w : World} {K : PySem.W.Frag} {mg : Str → Option Value} {base : Heap}
theorem fn_okL {x qual : Str} {st : Stmt} {f : Addr} {fd : FuncData} {N ps : List Str} {k : Nat} {R : List PyData → PyData → Prop} (F : Fun K x qual st f fd) (S : FnScope N ps (defScope st)) (hrC : Room (k + 1) callerA) (len : ∀ ds d, R ds d → ds.length = ps.length)
    (body : ∀ (cdv : Value) (s : Shared) (H : Hp) (E : XK) (B : Bs) (ds : List PyData) (d : PyData), Room k (Xc P w K mg base N qual st f cdv callerA [] s H E).A → Gd (Xc P w K mg base N qual st f cdv callerA [] s H E) → R ds d → Xb (Xc P w K mg base N qual st f cdv callerA [] s H E) B (startG N ds) (defBody st) (RetP d)) :
    RunAt P w K mg base CX0 callerA f fd ps (spR K R) := by
  obtain ⟨oc, od, kV, doc, pm, an, cdv, ct, osl, rfl, l, c⟩ := F.ex
  intro s H args us vs Q E e0 hb r h
  obtain ⟨ds, d, Hs, hsub, htb, a, hR, q⟩ := h
  refine LamX.run_ofS (CX := CX0) l c S hrC e0 hb r (by rw [a.length]; exact len ds d hR) fun hr => ?_
  refine ⟨_, (pb_u (X := Xc P w K mg base N qual st f cdv callerA [] s H E)).nox, body cdv s H E ⟨H, Hs, Hs⟩ ds d hr ⟨rfl⟩ hR _ H Hs (L2.start N vs) (en_start hsub htb a) fun o ho => ?_⟩
  rcases ho with rfl | ⟨rfl, Γ, rfl⟩
  · exact fun v H' Hs' g p => q v H' Hs' g p
  · exact fun H' Hs' σ' E' => q .non H' Hs' E'.gr .non
end
/-! ### the law's call -/
section
variable {P : Program} {w : World} {K : PySem.W.Frag} {mg mb : Str → Option Value} {fa a : Addr} {cs : List (Addr × Addr)} {s1 : Shared} {vs : List Value} {ns : List Int}
abbrev emptyT : Obj := { cls := .none, data := .fields #[] }
abbrev scriptO (vs : List Value) : Obj := { cls := .type "list", data := .seq vs.toArray }
/-- what is tracked at the law's entry: the tables, the script (where the written part does not hold it) -/
def entryH (K : PySem.W.Frag) (a : Addr) (cs : List (Addr × Addr)) (vs : List Value) (ns : List Int) : Hp := fun b =>
  if b ∈ cs.map (·.2) then some (.tbl #[]) else if b = a then (match K.lookup a with | some _ => none | none => some (.frz (scriptO vs) (.lst (ns.map V.int)))) else none
theorem entry_tab {p : Addr × Addr} (hp : p ∈ cs) : entryH K a cs vs ns p.2 = some (.tbl #[]) := if_pos (List.mem_map.mpr ⟨p, hp, rfl⟩)
theorem entry_cases (b : Addr) (u : HO) (h : entryH K a cs vs ns b = some u) : (b ∈ cs.map (·.2) ∧ u = .tbl #[]) ∨ (b = a ∧ K.lookup a = none ∧ u = .frz (scriptO vs) (.lst (ns.map V.int))) := by
  unfold entryH at h
  split at h
  · rename_i hm
    cases h
    exact .inl ⟨hm, rfl⟩
  · split at h
    · rename_i hb
      cases k : K.lookup a with
      | some o => rw [k] at h; cases h
      | none => rw [k] at h; cases h; exact .inr ⟨hb, rfl, rfl⟩
    · cases h
theorem law_callR {CX : CXT} {fd : FuncData} {x : Str} {sp : Sp} (KX : K.In s1.heap) (gl : s1.heap.Ns mainGlobals mg) (bl : s1.heap.Ns builtinsNs mb) (bb : ∀ x : Str, x ≠ "__name__" → mb x = bootBuiltins x) (lim : s1.heap.NoLimit) (g0 : s1.gens = #[])
    (hT : ∀ p ∈ cs, s1.heap.get? p.2 = some emptyT) (nT : ∀ p ∈ cs, K.lookup p.2 = none) (hC : ∀ p ∈ cs, PySem.W.CodeHd s1.heap p.1 p.2)
    (bm : ∃ (m : Addr) (ob : Obj), mg "__builtins__" = some (.ref m) ∧ m ≠ builtinsNs ∧ s1.heap.get? m = some ob ∧ ob.cls = .type "module" ∧ ob.dict = some builtinsNs ∧ ob.data = .plain)
    (ha : s1.heap.get? a = some (scriptO vs)) (hi : IntsAre vs ns) (hl : ns.length ≤ sizeLine)
    (F : ∀ base : Heap, K.In base → base.Ns mainGlobals mg → (∀ p ∈ cs, LamX.TabB base mg p.1 p.2) → RunAt P w K mg base CX callerA fa fd [x] sp) (hbind : ∀ (s : Shared) (u : Value), BindsTo s fd ⟨[u], []⟩ [(x, u)])
    (hsp : ∀ H : Hp, (∀ p ∈ cs, H p.2 = some (.tbl #[])) → SqL K H a (ns.map V.int) → sp [.ref a] H (fun v _ => v = .bl true) fun _ _ _ => False) (hCX : ∀ H e s', CX [] H s1 (fun _ _ _ => False) e s' → False) :
    codeAny (model P w) callerA (.call (.ref fa) ⟨[.ref a], []⟩) (fun r s' => r = .ok (.ret (.bool true)) ∧ OldK s1.heap s'.heap ∧ s'.os = s1.os ∧ AllBare s'.gens) s1 := by
  have vals := vals_ints hi
  have lenV := hi.length
  have tabAt : ∀ b ∈ cs.map (·.2), s1.heap.get? b = some emptyT := fun b hb => by
    obtain ⟨p, hp, rfl⟩ := List.mem_map.mp hb
    exact hT p hp
  have aT : a ∉ cs.map (·.2) := fun z => by
    have q := tabAt a z
    rw [ha] at q
    exact nomatch congrArg Obj.cls (Option.some.inj q)
  generalize hH : entryH K a cs vs ns = H
  have cas : ∀ b u, H b = some u → (b ∈ cs.map (·.2) ∧ u = .tbl #[]) ∨ (b = a ∧ K.lookup a = none ∧ u = .frz (scriptO vs) (.lst (ns.map V.int))) := fun b u e => entry_cases b u (by rw [hH]; exact e)
  have tab : ∀ p ∈ cs, H p.2 = some (.tbl #[]) := fun p hp => by rw [← hH]; exact entry_tab hp
  have seq : SqL K H a (ns.map V.int) := by
    cases k : K.lookup a with
    | some o =>
      have e := KX a o k
      rw [ha] at e
      cases e
      exact .inr ⟨_, vs.toArray, _, k, rfl, rfl, rfl, by rw [List.size_toArray, lenV]; exact hl, by simpa using vals⟩
    | none =>
      refine .inl (.inr ⟨scriptO vs, ?_⟩)
      rw [← hH]
      unfold entryH
      rw [if_neg aT, if_pos rfl, k]
  have hok : HOk P w H s1.heap := fun b u e => by
    rcases cas b u e with ⟨hm, rfl⟩ | ⟨rfl, _, rfl⟩
    · exact tabAt b hm
    · exact ⟨ha, by rw [List.length_map]; exact hl, vs, _, vals, ha⟩
  -- what is neither the script nor a table is not tracked
  have off : ∀ {b : Addr} {o : Obj}, s1.heap.get? b = some o → o ≠ emptyT → (∀ vs n, o.data ≠ .seq vs n) → H b = none := fun {b o} e n1 n2 => by
    cases q : H b with
    | none => rfl
    | some u =>
      rcases cas b u q with ⟨hm, _⟩ | ⟨rfl, _, _⟩
      · rw [tabAt b hm] at e
        exact absurd (Option.some.inj e).symm n1
      · rw [ha] at e
        cases e
        exact absurd rfl (n2 _ _)
  have offD : ∀ {b : Addr} {o : Obj} {es : Array DictEntry} {ep : Nat}, s1.heap.get? b = some o → o.data = .dict es ep → H b = none := fun {b o es ep} e d => off e (fun z => by rw [z] at d; cases d) fun _ _ z => by rw [d] at z; cases z
  have nsB : ∀ {b : Addr} {m : Str → Option Value}, s1.heap.Ns b m → (hidT s1.heap H).Ns b m := fun ⟨o, es, ep, e, d, r⟩ => ⟨o, es, ep, hidT_get e (offD e d), d, r⟩
  have inB : K.In (hidT s1.heap H) := fun b o e => hidT_get (KX b o e) (by
    cases q : H b with
    | none => rfl
    | some u =>
      rcases cas b u q with ⟨hm, _⟩ | ⟨rfl, k, _⟩
      · obtain ⟨p, hp, rfl⟩ := List.mem_map.mp hm
        rw [nT p hp] at e
        cases e
      · rw [k] at e
        cases e)
  have tbB : ∀ p ∈ cs, LamX.TabB (hidT s1.heap H) mg p.1 p.2 := fun p hp => by
    have tp := hT p hp
    refine ⟨?_, ?_, fun z => ?_⟩
    · obtain ⟨o, us, fl, tf, fg, tg, inF, tx, tt, e1, r1, r2, rest⟩ := hC p hp
      exact ⟨o, us, fl, tf, fg, tg, inF, tx, tt, hidT_get e1 (off e1 (fun z => by rw [z] at r1; cases r1) fun _ _ z => by rw [r2] at z; cases z), r1, r2, rest⟩
    · obtain ⟨m, ob, c1, c2, c3, c4, c5, c6⟩ := bm
      have m1 : m ≠ mainGlobals := fun z => by
        obtain ⟨o, es, ep, e, d, _⟩ := gl
        rw [z, e] at c3
        cases c3
        rw [d] at c6
        cases c6
      have m2 : m ≠ p.2 := fun z => by
        rw [z, tp] at c3
        cases c3
        cases c6
      exact ⟨m, ob, c1, c2, m1, m2, hidT_get c3 (off c3 (fun z => by rw [z] at c6; cases c6) fun _ _ z => by rw [c6] at z; cases z), c4, c5, c6⟩
    · obtain ⟨o, es, ep, e, d, _⟩ := gl
      rw [z, tp] at e
      cases e
      cases d
  have env0 : Env0 P w K mg (hidT s1.heap H) callerA [] s1 H := by
    refine ⟨rfl, ⟨inB, nsB gl, ⟨mb, nsB bl, bb⟩, ?_⟩, fun b o e => of_hidT e, Nat.le_of_eq (hidT_size _ _), trivial, fun b hb => absurd (show b ∈ ([] : List Addr) from hb) List.not_mem_nil, hok, .of_eq g0⟩
    obtain ⟨mc, h1, h2⟩ := lim
    exact ⟨mc, nsB h1, h2⟩
  refine codeAny_mono (F _ inB (nsB gl) tbB s1 H ⟨[.ref a], []⟩ [.ref a] [.ref a] _ _ env0 (hbind s1 (.ref a)) (.cons rfl .nil) (hsp H tab seq)) fun r s' h => ?_
  match r, h with
  | .error e, h => exact (hCX H e s' h).elim
  | .ok (.ret u), ⟨v, H', os, bare, un, hok', rv, q⟩ =>
    obtain rfl : v = .bl true := q
    obtain rfl : u = Value.bool true := rv
    have none_in : ∀ b : Addr, b ∉ frs ([] : List Env) := fun b z => absurd (show b ∈ ([] : List Addr) from z) List.not_mem_nil
    have same : ∀ b o, b ∉ cs.map (·.2) → s1.heap.get? b = some o → s'.heap.get? b = some o := fun b o nb e => by
      cases q : H b with
      | none => exact un.keep b o e q (none_in b) List.not_mem_nil
      | some u =>
        rcases cas b u q with ⟨hm, _⟩ | ⟨rfl, _, rfl⟩
        · exact absurd hm nb
        · have e2 := (hok' b _ (un.frzs b _ _ q)).1
          rw [ha] at e
          cases e
          exact e2
    have grew : ∀ b, b ∈ cs.map (·.2) → ∃ more : Array Value, s'.heap.get? b = some { cls := .none, data := .fields more } := fun b hb => by
      obtain ⟨p, hp, rfl⟩ := List.mem_map.mp hb
      obtain ⟨more, z⟩ := un.tbls p.2 #[] (tab p hp)
      exact ⟨_, hok' p.2 _ z⟩
    refine ⟨rfl, ⟨fun b o e => ?_, fun b o e => ?_⟩, os, bare⟩
    · by_cases hb : b ∈ cs.map (·.2)
      · obtain ⟨more, hm⟩ := grew b hb
        obtain ⟨p, hp, rfl⟩ := List.mem_map.mp hb
        rw [hT p hp] at e
        cases e
        exact .inr (.inl ⟨((hC p hp).tab (hT p hp)).isCodeTable, rfl, #[], more, rfl, by rw [Array.empty_append]; exact hm⟩)
      · exact .inl (same b o hb e)
    · by_cases hb : b ∈ cs.map (·.2)
      · obtain ⟨more, hm⟩ := grew b hb
        exact ⟨_, hm⟩
      · exact ⟨o, same b o hb e⟩
  | .ok .next, h => exact False.elim h
  | .ok .brk, h => exact False.elim h
  | .ok .cont, h => exact False.elim h
end
/-- what is known of the law's promise at the head's heap h -/
def LawAtR (l : PySem.W.OpenLaw) (w : World) (K : PySem.W.Frag) (CX : CXT) (n : Nat) (x : Str) (mg : Str → Option Value) (fa : Addr) (h : Heap) : Prop :=
  ∃ (fd : FuncData) (cs : List (Addr × Addr)) (sp : Sp), (∀ p ∈ cs, h.get? p.2 = some emptyT) ∧ (∀ p ∈ cs, K.lookup p.2 = none) ∧ (∀ p ∈ cs, PySem.W.CodeHd h p.1 p.2) ∧ (∀ (s : Shared) (u : Value), BindsTo s fd ⟨[u], []⟩ [(x, u)]) ∧
    (∀ (H : Hp) (a : Addr) (ns : List Int), ns.length ≤ n → (∀ p ∈ cs, H p.2 = some (.tbl #[])) → SqL K H a (ns.map V.int) → sp [.ref a] H (fun v _ => v = .bl true) fun _ _ _ => False) ∧
    ∀ base : Heap, K.In base → base.Ns mainGlobals mg → (∀ p ∈ cs, LamX.TabB base mg p.1 p.2) → RunAt l.prog w K mg base CX callerA fa fd [x] sp
theorem walk_ofL {l : PySem.W.OpenLaw} {n : Nat} {q : Program} {loose : List Str} {XP : (Str → Option Value) → Heap → Prop} {YP : World → Heap → Prop} {d : DefRec} {K : Params → PySem.W.Frag} {CX : World → CXT} {x : Str} (hn : l.most = some n) (hn2 : n ≤ sizeLine) (hdf : d.params.defaults = [])
    (hY : ∀ (w : World) (h : Heap), YP w h → (K w.params).In h)
    (F : ∀ (w : World) (mg : Str → Option Value) (fa : Addr) (h : Heap), YP w h → (K w.params).In h → h.Ns mainGlobals mg → mg d.name = some (.ref fa) → TabsAtHead q (K w.params) h → LawAtR l w (K w.params) (CX w) n x mg fa h)
    (hCX : ∀ (w : World) (H : Hp) (s : Shared) (e : Value) (s' : Shared), CX w [] H s (fun _ _ _ => False) e s' → False) : PySem.W.WalkO q loose XP YP l.row.toRowW d [] (fun f vs => PySem.call f vs) := by
  refine Att.attach_callB hn hdf fun w s₀ s₁ mg mb fa o pm cd doc a vs ns G Y ho hd hcd hmg hobj hints hlen hbits hg => ?_
  have inK := hY w _ Y
  obtain ⟨fd, cs, sp, t1, t2, t3, t4, t5, t6⟩ := F w mg fa _ Y inK G.T.g hmg fun x d c T hx ht => PySem.W.tab_of G.T inK hx ht
  exact law_callR inK G.T.g G.T.b G.T.builtins G.T.nolimit hg t1 t2 t3 G.T.bmain hobj hints (Nat.le_trans hlen hn2) t6 t4 (fun H b1 b2 => t5 H a ns hlen b1 b2) fun H e s' => hCX w H s₁ e s'
end Dl
set_option Elab.async false
set_option linter.all false
set_option maxRecDepth 100000
set_option maxHeartbeats 2000000
/-! Expressions that change an own list by a call (a list of draws). -/
namespace Dl
open PySem L2 PyProof.Rows
variable [Tabs]
/-! ### effects -/
def DM (K : PySem.W.Frag) (B : Bs) (t : TE) (Γ : Gm) (d : PyData) (Γ' : Gm) : Prop := ∀ H Hs σ, Enb K B H Hs σ Γ → ∀ Q : VK, (∀ v H' Hs', Enb K B H' Hs' σ Γ' → Ext Hs Hs' → Dq K Hs' v d → Q v H') → t σ H Q
def DMT (K : PySem.W.Frag) (B : Bs) (t : TT) (Γ : Gm) (b : Bool) (Γ' : Gm) : Prop := ∀ H Hs σ, Enb K B H Hs σ Γ → ∀ Q : Bool → Hp → Prop, (∀ H' Hs', Enb K B H' Hs' σ Γ' → Ext Hs Hs' → Q b H') → t σ H Q
/-- an argument: data, or the own list at l -/
inductive Ag where
  | d (x : PyData) | p (l : Addr)
def AgOk (K : PySem.W.Frag) (H : Hp) (v : V) : Ag → Prop
  | .d x => Dq K H v x
  | .p l => v = .ref l
inductive AgAll (K : PySem.W.Frag) (H : Hp) : List V → List Ag → Prop
  | nil : AgAll K H [] []
  | cons {v : V} {g : Ag} {vs : List V} {gs : List Ag} : AgOk K H v g → AgAll K H vs gs → AgAll K H (v :: vs) (g :: gs)
def DMA (K : PySem.W.Frag) (B : Bs) (t : TA) (Γ : Gm) (gs : List Ag) (Γ' : Gm) : Prop := ∀ H Hs σ, Enb K B H Hs σ Γ → ∀ Q : List V → Hp → Prop, (∀ vs H' Hs', Enb K B H' Hs' σ Γ' → Ext Hs Hs' → AgAll K Hs' vs gs → Q vs H') → t σ H Q
section
variable {K : PySem.W.Frag} {B : Bs} {H Hs H' Hs' : Hp} {σ : L2.St} {Γ Γ1 Γ2 Γ3 : Gm} {t ta tb te : TE} {d a b c : PyData} {ds es : List PyData} {gs : List Ag} {P : Out → Prop} {p : Bool}
theorem AgOk.mono (e : Ext H H') {v : V} : ∀ {g : Ag}, AgOk K H v g → AgOk K H' v g
  | .d _, h => Dq.mono e h
  | .p _, h => h
theorem AgAll.mono (e : Ext H H') : ∀ {vs : List V} {gs : List Ag}, AgAll K H vs gs → AgAll K H' vs gs
  | _, _, .nil => .nil
  | _, _, .cons h r => .cons (h.mono e) (AgAll.mono e r)
theorem AgAll.len : ∀ {vs : List V} {gs : List Ag}, AgAll K H vs gs → vs.length = gs.length
  | _, _, .nil => rfl
  | _, _, .cons _ r => by rw [List.length_cons, List.length_cons, AgAll.len r]
theorem AgAll.data : ∀ {vs : List V} {ds : List PyData}, AgAll K H vs (ds.map .d) → DqAll K H vs ds
  | _, [], .nil => .nil
  | _, _ :: _, .cons h r => .cons h (AgAll.data r)
theorem AgAll.get : ∀ {vs : List V} {gs : List Ag} {i : Nat} {g : Ag}, AgAll K H vs gs → gs[i]? = some g → ∃ v, vs[i]? = some v ∧ AgOk K H v g
  | _, _, _, _, .nil, e => by simp at e
  | _, _, 0, _, .cons h _, e => by
    cases e
    exact ⟨_, rfl, h⟩
  | _, _, i + 1, _, .cons _ r, e => AgAll.get (i := i) r e
theorem dm_of (h : DE K B t Γ d) : DM K B t Γ d Γ := fun H Hs σ E Q q => h H Hs σ E Q fun v H' Hs' g p => q v H' Hs' (E.grow g) g.exs p
theorem dm_op {r : R2} (ha : DM K B ta Γ a Γ1) (hb : DM K B tb Γ1 b Γ2) (hr : OpD K r a b d) : DM K B (tOp r ta tb) Γ d Γ2 := fun H Hs σ E Q q =>
  ha H Hs σ E _ fun v H1 Hs1 E1 x1 p1 => hb H1 Hs1 σ E1 _ fun u H2 Hs2 E2 x2 p2 => hr H2 Hs2 v u E2.sub (p1.mono x2) p2 Q fun w H3 Hs3 g3 p3 => q w H3 Hs3 (E2.grow g3) ((x1.trans x2).trans g3.exs) p3
theorem dma_nil : DMA K B tNil Γ [] Γ := fun H Hs σ E Q q => q [] H Hs E (Ext.refl _) .nil
theorem dma_cons {ta : TA} (h : DM K B te Γ d Γ1) (hr : DMA K B ta Γ1 gs Γ2) : DMA K B (tCons te ta) Γ (.d d :: gs) Γ2 := fun H Hs σ E Q q =>
  h H Hs σ E _ fun v H1 Hs1 E1 x1 p1 => hr H1 Hs1 σ E1 _ fun vs H2 Hs2 E2 x2 p2 => q (v :: vs) H2 Hs2 E2 (x1.trans x2) (.cons (p1.mono x2) p2)
theorem dma_ptr {ta : TA} {i : Nat} {l : Addr} (hi : Γ[i]? = some (.ol l ds)) (hr : DMA K B ta Γ gs Γ2) : DMA K B (tCons (tVar i) ta) Γ (.p l :: gs) Γ2 := fun H Hs σ E Q q => by
  obtain ⟨xs, e, _⟩ := E.ol hi
  exact ⟨.ref l, e, hr H Hs σ E _ fun vs H2 Hs2 E2 x2 p2 => q (.ref l :: vs) H2 Hs2 E2 x2 (.cons rfl p2)⟩
/-- a def that may change the own list handed in at l -/
def spM (K : PySem.W.Frag) (R : Addr → List Ag → List PyData → List PyData → PyData → Prop) : Sp := fun vs H Q _ => ∃ gs l xs ds es d Hs, AgAll K Hs vs gs ∧ H l = some (.lst xs) ∧ Hs l = none ∧ (∀ a o, Hs a = some o → H a = some o) ∧ TabsIn Hs ∧ DqAll K Hs xs ds ∧ R l gs ds es d ∧
  ∀ v H' Hs' ys, Gr (del H l) Hs H' Hs' → H' l = some (.lst ys) → Hs' l = none → DqAll K Hs' ys es → Dq K Hs' v d → Q v H'
theorem agAll_append_nil {vs : List V} (h : AgAll K H vs gs) : AgAll K H (vs ++ []) gs := by rw [List.append_nil]; exact h
theorem dm_call {R : Addr → List Ag → List PyData → List PyData → PyData → Prop} {E0 : XK} {ta : TA} {i : Nat} {l : Addr} (ha : DMA K B ta Γ gs Γ1) (hi : Γ1[i]? = some (.ol l ds)) (hr : R l gs ds es d) : DM K B (tCall (spM K R) [] E0 ta) Γ d (Γ1.set i (.ol l es)) := fun H Hs σ E Q q =>
  ha H Hs σ E _ fun vs H1 Hs1 E1 x1 p1 => by
    obtain ⟨xs, e1, h1, h2, h3, h4⟩ := E1.ol hi
    exact ⟨gs, l, xs, ds, es, d, Hs1, agAll_append_nil p1, h1, h3, E1.sub, E1.tab, h2, hr, fun v H2 Hs2 ys g k1 k2 k3 k4 => q v H2 Hs2 (E1.call hi g k1 k2 k3) (x1.trans g.exs) k4⟩
/-- a call of a plain def with arguments that have effects -/
theorem dm_callP {R : List PyData → PyData → Prop} {E0 : XK} {ta : TA} (ha : DMA K B ta Γ (ds.map .d) Γ1) (hr : R ds d) : DM K B (tCall (spR K R) [] E0 ta) Γ d Γ1 := fun H Hs σ E Q q =>
  ha H Hs σ E _ fun vs H1 Hs1 E1 x1 p1 => ⟨ds, d, Hs1, E1.sub, E1.tab, by rw [List.append_nil]; exact p1.data, hr, fun v H2 Hs2 g2 p2 => q v H2 Hs2 (E1.grow g2) (x1.trans g2.exs) p2⟩
theorem dm_cb {r : List V → Hp → VK → Prop} {ta : TA} (ha : DMA K B ta Γ (ds.map .d) Γ1) (hr : CbD K r ds d) : DM K B (tCB r ta) Γ d Γ1 := fun H Hs σ E Q q =>
  ha H Hs σ E _ fun v H1 Hs1 E1 x1 p1 => hr H1 Hs1 v E1.sub p1.data Q fun w H2 Hs2 g2 p2 => q w H2 Hs2 (E1.grow g2) (x1.trans g2.exs) p2
theorem dm_tup {ta : TA} (h : DMA K B ta Γ (ds.map .d) Γ1) (hl : ds.length ≤ sizeLine) : DM K B (tTup ta) Γ (.tuple ds) Γ1 := fun H Hs σ E Q q =>
  h H Hs σ E _ fun vs H1 Hs1 E1 x1 p1 => by
    have p2 := p1.data
    exact ⟨by rw [p2.length]; exact hl, fun p n => q (.ref p) _ (upd Hs1 p (.tup vs)) (E1.grow ((Gr.refl E1.sub).share n)) (x1.trans (Ext.new ((Gr.refl E1.sub).hsn n))) (.tup (SqT.of upd_same) (p2.mono (Ext.new ((Gr.refl E1.sub).hsn n))))⟩
theorem dmt_B (h : DM K B t Γ (.bool p) Γ1) : DMT K B (tB t) Γ p Γ1 := fun H Hs σ E Q q => h H Hs σ E _ fun v H' Hs' E' x' p' => by
  cases p'
  exact ⟨p, rfl, q H' Hs' E' x'⟩
theorem dmt_of {tt : TT} (h : DT K B tt Γ p) : DMT K B tt Γ p Γ := fun H Hs σ E Q q => h H Hs σ E Q fun H' Hs' g => q H' Hs' (E.grow g) g.exs
theorem dmt_not {tt : TT} (h : DMT K B tt Γ p Γ1) : DMT K B (tNot tt) Γ (!p) Γ1 := fun H Hs σ E Q q => h H Hs σ E _ fun H' Hs' E' x' => q H' Hs' E' x'
theorem dm_if {tt : TT} (h : DMT K B tt Γ p Γ1) (h1 : p = true → DM K B ta Γ1 d Γ2) (h2 : p = false → DM K B tb Γ1 d Γ2) : DM K B (tIf tt ta tb) Γ d Γ2 := fun H Hs σ E Q q => h H Hs σ E _ fun H1 Hs1 E1 x1 => by
  cases p with
  | true =>
    show ta σ H1 Q
    exact h1 rfl H1 Hs1 σ E1 Q fun u H2 Hs2 E2 x2 p2 => q u H2 Hs2 E2 (x1.trans x2) p2
  | false =>
    show tb σ H1 Q
    exact h2 rfl H1 Hs1 σ E1 Q fun u H2 Hs2 E2 x2 p2 => q u H2 Hs2 E2 (x1.trans x2) p2
/-! statements -/
theorem ds_asgM {i : Nat} (h : DM K B te Γ d Γ1) (k : P (.nx (Γ1.set i (.sh d)))) : DS K B (tAsg te (gName i)) Γ P := fun D H Hs σ E q => h H Hs σ E _ fun v H1 Hs1 E1 _ p1 => q _ k H1 Hs1 _ (E1.setSh i p1)
theorem ds_retL {i : Nat} {l : Addr} (h : DM K B te Γ d Γ1) (hi : Γ1[i]? = some (.ol l es)) (k : P (.rm l es d)) : DS K B (tRet te) Γ P := fun D H Hs σ E q => h H Hs σ E _ fun v H1 Hs1 E1 _ p1 => by
  obtain ⟨xs, e1, h1, h2, h3, h4⟩ := E1.ol hi
  exact q _ k v xs H1 Hs1 E1.gr h1 h3 h2 p1
theorem ds_ifM {tt : TT} {tw u : TS} (h : DMT K B tt Γ p Γ1) (h1 : p = true → DS K B u Γ1 P) (h2 : p = false → DS K B tw Γ1 P) : DS K B (tIfS tt u tw) Γ P := fun D H Hs σ E q => h H Hs σ E _ fun H1 Hs1 E1 _ => by
  cases p with
  | true =>
    show u D σ H1
    exact h1 rfl D H1 Hs1 σ E1 q
  | false =>
    show tw D σ H1
    exact h2 rfl D H1 Hs1 σ E1 q
/-- what is walked, with an effect ahead -/
def DMI (K : PySem.W.Frag) (B : Bs) (wi : TI) (Γ : Gm) (ds : List PyData) (Γ' : Gm) : Prop := ∀ H Hs σ, Enb K B H Hs σ Γ → ∀ R : It → Hp → Prop, (∀ J H' Hs', Enb K B H' Hs' σ Γ' → ItD K J Hs' ds → R J H') → wi σ H R
theorem dmi_of {wi : TI} (h : DI K B wi Γ ds) : DMI K B wi Γ ds Γ := fun H Hs σ E R q => h H Hs σ E R fun J H' Hs' g i => q J H' Hs' (E.grow g) i
theorem dmi_rng1 {ta : TA} {n : Int} (h : DMA K B ta Γ [.d (.int n)] Γ1) (hn : -(2 ^ 62) ≤ n ∧ n < 2 ^ 62) : DMI K B (iRng1 ta) Γ (rangeD 0 n.toNat) Γ1 := fun H Hs σ E R q => h H Hs σ E _ fun vs H1 Hs1 E1 _ p1 => by
  cases p1 with
  | cons p1 p2 =>
    cases p2
    cases p1
    exact ⟨n, rfl, hn.1, hn.2, q _ H1 Hs1 E1 itd_rng⟩
theorem dmi_list {te : TE} (h : DM K B te Γ (.list ds) Γ1) : DMI K B (iList K te) Γ ds Γ1 := fun H Hs σ E R q => h H Hs σ E _ fun v H1 Hs1 E1 x1 p1 => by
  cases p1 with
  | lst hq ha => exact ⟨_, rfl, ⟨_, sub_l E1.sub hq⟩, q _ H1 Hs1 E1 (itd_list hq ha)⟩
theorem dmi_tup {te : TE} (h : DM K B te Γ (.tuple ds) Γ1) : DMI K B (iTup K te) Γ ds Γ1 := fun H Hs σ E R q => h H Hs σ E _ fun v H1 Hs1 E1 x1 p1 => by
  cases p1 with
  | tup hq ha => exact ⟨_, rfl, ⟨_, sub_t E1.sub hq⟩, q _ H1 Hs1 E1 (itd_tup hq ha)⟩
theorem ds_forM {wi : TI} {g : TG} {tb : TS} (h : DMI K B wi Γ ds Γ1) (I : Nat → Gm → Prop) (h0 : I 0 Γ1)
    (hs : ∀ B' k d Γ', ds[k]? = some d → I k Γ' → ∃ js Γ2, DG K g js d Γ' Γ2 ∧ DS K B' tb Γ2 (turnS I k P)) (hd : ∀ Γ', I ds.length Γ' → P (.nx Γ')) : DS K B (tFor wi g tb) Γ P := fun D H Hs σ E q => h H Hs σ E _ fun J H1 Hs1 E1 hJ => by
  refine ⟨fun i m σ' H' => m = ds.length - i ∧ i ≤ ds.length ∧ ∃ Γ' Hs', I i Γ' ∧ Enb K (B.at Hs1) H' Hs' σ' Γ', ⟨ds.length, rfl, Nat.zero_le _, Γ1, Hs1, h0, low_in E1 (Ext.refl _)⟩, ?_⟩
  rintro i m σ' H' ⟨rfl, hi, Γ', Hs', hI, E'⟩
  obtain ⟨j1, j2⟩ := hJ H' Hs' E'.sub E'.pin
  by_cases hlt : i < ds.length
  · have hd' : ds[i]? = some ds[i] := List.getElem?_eq_getElem hlt
    obtain ⟨j3, j4⟩ := j2 i _ hd'
    refine .inr ⟨j3, fun σ2 H2 => ∃ Γ2 Hs2, I (i + 1) Γ2 ∧ Enb K (B.at Hs1) H2 Hs2 σ2 Γ2, fun σ2 H2 ⟨Γ2, Hs2, hI2, E2⟩ => ⟨ds.length - (i + 1), by omega, rfl, by omega, Γ2, Hs2, hI2, E2⟩, fun x H2 hy => ?_⟩
    obtain ⟨Hs2, g2, p2⟩ := j4 x H2 hy
    obtain ⟨js, Γ2, hg, hb⟩ := hs (B.at Hs1) i _ Γ' hd' hI
    refine hg (B.at Hs1) H2 Hs2 σ' x (E'.grow g2) p2 _ fun σ3 E3 _ => hb _ H2 Hs2 σ3 E3 fun o ho => turn_fits ho q E1.pin fun Γ4 H4 Hs4 σ4 hI4 E4 => ⟨Γ4, Hs4, hI4, E4⟩
  · have e : i = ds.length := by omega
    subst e
    exact .inl ⟨j1, q _ (hd Γ' hI) H' Hs' σ' (low_out E' E1.pin)⟩
/-! an own list at a known place: read, written -/
theorem de_ixOl {i : Nat} {l : Addr} {j : Int} (hi : Γ[i]? = some (.ol l ds)) (hb : DE K B tb Γ (.int j)) (h : atI ds j = some d) : DE K B (tOp (rIxL K) (tVar i) tb) Γ d := fun H Hs σ E Q q => by
  obtain ⟨xs, e1, h1, h2, h3, h4⟩ := E.ol hi
  refine ⟨.ref l, e1, hb H Hs σ E _ fun u H2 Hs2 g2 p2 => ?_⟩
  cases p2
  unfold atI at h
  cases e : ixN ds.length j with
  | none => rw [e] at h; cases h
  | some k =>
    rw [e] at h
    obtain ⟨v, hv, pv⟩ := (h2.mono g2.exs).get h
    exact ⟨l, xs, j, v, rfl, rfl, SqL.of (g2.ext.lst h1), by unfold atI; rw [h2.length, e]; exact hv, q v H2 Hs2 g2 pv⟩
theorem de_ixOw {i : Nat} {j : Int} (hi : Γ[i]? = some (.ow ds)) (hb : DE K B tb Γ (.int j)) (h : atI ds j = some d) : DE K B (tOp (rIxL K) (tVar i) tb) Γ d := fun H Hs σ E Q q => by
  obtain ⟨l, xs, e1, h1, h2, h3, h4⟩ := E.ow hi
  refine ⟨.ref l, e1, hb H Hs σ E _ fun u H2 Hs2 g2 p2 => ?_⟩
  cases p2
  unfold atI at h
  cases e : ixN ds.length j with
  | none => rw [e] at h; cases h
  | some k =>
    rw [e] at h
    obtain ⟨v, hv, pv⟩ := (h2.mono g2.exs).get h
    exact ⟨l, xs, j, v, rfl, rfl, SqL.of (g2.ext.lst h1), by unfold atI; rw [h2.length, e]; exact hv, q v H2 Hs2 g2 pv⟩
theorem ds_putOl {i k : Nat} {l : Addr} {j : Int} (hi : Γ[i]? = some (.ol l ds)) (h : DE K B te Γ d) (hb : DE K B tb Γ (.int j)) (hj : ixN ds.length j = some k) (hP : P (.nx (Γ.set i (.ol l (ds.set k d))))) : DS K B (tAsg te (gSub (tVar i) tb rSetL)) Γ P := fun D H Hs σ E q =>
  h H Hs σ E _ fun v H1 Hs1 g1 p1 => by
    obtain ⟨xs, e1, h1, h2, h3, h4⟩ := (E.grow g1).ol hi
    refine ⟨.ref l, e1, hb H1 Hs1 σ (E.grow g1) _ fun u H2 Hs2 g2 p2 => ?_⟩
    cases p2
    have E2 := (E.grow g1).grow g2
    exact ⟨l, xs, j, k, rfl, rfl, g2.ext.lst h1, by rw [h2.length]; exact hj, q _ hP _ Hs2 σ (E2.mutL hi (DqAll.set (p1.mono g2.exs) k (h2.mono g2.exs)))⟩
theorem ds_putOw {i k : Nat} {j : Int} (hi : Γ[i]? = some (.ow ds)) (h : DE K B te Γ d) (hb : DE K B tb Γ (.int j)) (hj : ixN ds.length j = some k) (hP : P (.nx (Γ.set i (.ow (ds.set k d))))) : DS K B (tAsg te (gSub (tVar i) tb rSetL)) Γ P := fun D H Hs σ E q =>
  h H Hs σ E _ fun v H1 Hs1 g1 p1 => by
    obtain ⟨l, xs, e1, h1, h2, h3, h4⟩ := (E.grow g1).ow hi
    refine ⟨.ref l, e1, hb H1 Hs1 σ (E.grow g1) _ fun u H2 Hs2 g2 p2 => ?_⟩
    cases p2
    have E2 := (E.grow g1).grow g2
    exact ⟨l, xs, j, k, rfl, rfl, g2.ext.lst h1, by rw [h2.length]; exact hj, q _ hP _ Hs2 σ (E2.mut hi e1 (DqAll.set (p1.mono g2.exs) k (h2.mono g2.exs)))⟩
end
/-! ### on the text -/
def Xm (X : Cx) (B : Bs) (Γ : Gm) (e : Expr) (d : PyData) (Γ' : Gm) : Prop := DM X.K B (uE X e) Γ d Γ'
def Xmt (X : Cx) (B : Bs) (Γ : Gm) (e : Expr) (b : Bool) (Γ' : Gm) : Prop := DMT X.K B (uT X e) Γ b Γ'
def Xma (X : Cx) (B : Bs) (Γ : Gm) (es : List Expr) (gs : List Ag) (Γ' : Gm) : Prop := DMA X.K B (uA X es) Γ gs Γ'
def Xmi (X : Cx) (B : Bs) (Γ : Gm) (tg e : Expr) (ds : List PyData) (Γ' : Gm) : Prop := DMI X.K B (uI X tg e) Γ ds Γ'
section
variable {X : Cx} {B : Bs} {Γ Γ1 Γ2 : Gm} {e a b c : Expr} {es : List Expr} {st : Stmt} {ss ss2 rest : List Stmt} {d d1 d2 : PyData} {ds ds' : List PyData} {gs : List Ag} {P : Out → Prop} {pos p' : Pos} {x : Str} {i : Nat} {p q : Bool} {m n : Int} {l : Addr}
theorem xm_of' {t : TE} (h : PE X e t) (k : DM X.K B t Γ d Γ1) : Xm X B Γ e d Γ1 := fun H Hs σ E Q q => ⟨t, h, k H Hs σ E Q q⟩
theorem xmt_of' {t : TT} (h : PT X e t) (k : DMT X.K B t Γ p Γ1) : Xmt X B Γ e p Γ1 := fun H Hs σ E Q q => ⟨t, h, k H Hs σ E Q q⟩
theorem xma_of' {t : TA} (h : PA X es t) (k : DMA X.K B t Γ gs Γ1) : Xma X B Γ es gs Γ1 := fun H Hs σ E Q q => ⟨t, h, k H Hs σ E Q q⟩
theorem xmi_of' {t : TI} {tg : Expr} (h : PI X tg e t) (k : DMI X.K B t Γ ds Γ1) : Xmi X B Γ tg e ds Γ1 := fun H Hs σ E R q => ⟨t, h, k H Hs σ E R q⟩
/-- no effect -/
theorem xm_pure (h : Xp X B Γ e d) : Xm X B Γ e d Γ := dm_of h
theorem xm_bin {op : Operator} {rr : R2} (ho : OpR X (binaryOp op) rr) (hr : OpD X.K rr d1 d2 d) (ha : Xm X B Γ a d1 Γ1) (hb : Xm X B Γ1 b d2 Γ2) : Xm X B Γ (.BinOp a op b pos) d Γ2 := xm_of' (pe_op ho pe_u pe_u) (dm_op ha hb hr)
theorem xm_add (ha : Xm X B Γ a (.int m) Γ1) (hb : Xm X B Γ1 b (.int n) Γ2) : Xm X B Γ (.BinOp a .Add b pos) (.int (m + n)) Γ2 := xm_bin op_add (opd_I0 fun _ => .int _) ha hb
theorem xm_sub (ha : Xm X B Γ a (.int m) Γ1) (hb : Xm X B Γ1 b (.int n) Γ2) : Xm X B Γ (.BinOp a .Sub b pos) (.int (m - n)) Γ2 := xm_bin op_sub (opd_I0 fun _ => .int _) ha hb
theorem xm_mod (ha : Xm X B Γ a (.int m) Γ1) (hb : Xm X B Γ1 b (.int n) Γ2) (hc : Side (0 < n)) : Xm X B Γ (.BinOp a .Mod b pos) (.int (m % n)) Γ2 := xm_bin op_mod (opd_I hc.h fun _ => .int _) ha hb
theorem xma_nil : Xma X B Γ [] [] Γ := xma_of' pa_nil dma_nil
theorem xma_cons (hs : Tt (St1 X e es)) (h : Xm X B Γ e d Γ1) (hr : Xma X B Γ1 es gs Γ2) : Xma X B Γ (e :: es) (.d d :: gs) Γ2 := xma_of' (pa_cons pe_u pa_u hs.h) (dma_cons h hr)
theorem xma_ptr {p2 : Pos} (hs : Tt (St1 X (.Name x p2) es)) (k : Rk X i x) (hi : Tt (Γ[i]? = some (.ol l ds))) (hr : Xma X B Γ es gs Γ2) : Xma X B Γ (.Name x p2 :: es) (.p l :: gs) Γ2 := xma_of' (pa_cons (pe_var k.ix k.vis k.d1 k.d2) pa_u hs.h) (dma_ptr hi.h hr)
/-- a def that changes an own list -/
structure CeM (X : Cx) (x : Str) (R : Addr → List Ag → List PyData → List PyData → PyData → Prop) : Prop where
  ex : ∃ (k : Nat) (f : Addr) (fd : FuncData) (ps : List Str), X.mg x = some (.ref f) ∧ FnOk X.prog X.w X.K X.mg X.base CX0 k f fd ps (spM X.K R) ∧ PySem.W.keepIn X.K (.ref f) = true ∧ Binds X.K fd ps [] ∧ Room k X.A
  db : (x == ("__debug__" : Str)) = false
structure CalM (R : Addr → List Ag → List PyData → List PyData → PyData → Prop) (l : Addr) (gs : List Ag) (ds es : List PyData) (d : PyData) : Prop where
  h : R l gs ds es d
theorem xm_call {R : Addr → List Ag → List PyData → List PyData → PyData → Prop} (c : CeM X x R) (hg : Gl X x) (he : Tt (St1 X e es)) (hp : Tt (Pl1 X pos es)) (ha : Xma X B Γ (e :: es) gs Γ1) (hi : Tt (Γ1[i]? = some (.ol l ds))) (hr : CalM R l gs ds ds' d) (hΓ : Sg (Γ1.set i (.ol l ds')) Γ2) : Xm X B Γ (.Call (.Name x p') (e :: es) [] pos) d Γ2 := by
  obtain ⟨rfl⟩ := hΓ
  obtain ⟨k, f, fd, ps, hm, F, kp, bi, hr'⟩ := c.ex
  exact xm_of' (pe_call F hr' hg hm kp bi .nil (E := E0) pass0 pa_u c.db he.h hp.h) (dm_call ha hi.h hr.h)
theorem xm_callP {R : List PyData → PyData → Prop} (c : Ce X x R) (hg : Gl X x) (he : Tt (St1 X e es)) (hp : Tt (Pl1 X pos es)) (ha : Xma X B Γ (e :: es) gs Γ1) (hgs : Tt (gs = ds.map .d)) (hr : Cal R ds d) : Xm X B Γ (.Call (.Name x p') (e :: es) [] pos) d Γ1 := by
  obtain ⟨rfl⟩ := hgs
  obtain ⟨k, f, fd, ps, hm, F, kp, bi, hr'⟩ := c.ex
  exact xm_of' (pe_call F hr' hg hm kp bi .nil (E := E0) pass0 pa_u c.db he.h hp.h) (dm_callP ha hr.h)
theorem xm_tup {x1} (h : Xma X B Γ es gs Γ1) (hgs : Tt (gs = ds.map .d)) (hl : Tt (decide (ds.length ≤ 16777216) = true)) : Xm X B Γ (.Tuple es x1 pos) (.tuple ds) Γ1 := by
  obtain ⟨rfl⟩ := hgs
  exact xm_of' (pe_tup pa_u) (dm_tup h (by have := of_decide_eq_true hl.h; rw [sizeLine_eq]; exact this))
theorem xm_if (h : Xmt X B Γ c p Γ1) (h1 : p = true → Xm X B Γ1 a d Γ2) (h2 : p = false → Xm X B Γ1 b d Γ2) : Xm X B Γ (.IfExp c a b pos) d Γ2 := xm_of' (pe_ifExp pt_u pe_u pe_u) (dm_if h h1 h2)
theorem xm_cmp {op : CmpOp} (hm : Tt (behindInMarks op b = false)) (ha : Xm X B Γ a d1 Γ1) (hb : Xm X B Γ1 b d2 Γ2) (k : CmpOk X op d1 d2 p) : Xm X B Γ (.Compare a [op] [b] pos) (.bool p) Γ2 := by
  obtain ⟨rr, ho, hr⟩ := k
  exact xm_of' (pe_cmpR ho pe_u pe_u hm.h) (dm_op ha hb hr)
theorem xmt_cmp {op : CmpOp} (hm : Tt (behindInMarks op b = false)) (ha : Xm X B Γ a d1 Γ1) (hb : Xm X B Γ1 b d2 Γ2) (k : CmpOk X op d1 d2 p) : Xmt X B Γ (.Compare a [op] [b] pos) p Γ2 := by
  obtain ⟨rr, ho, hr⟩ := k
  exact xmt_of' (pt_cmpR ho pe_u pe_u hm.h) (dmt_B (dm_op ha hb hr))
theorem xmt_pure (h : Xt X B Γ e p) : Xmt X B Γ e p Γ := dmt_of h
theorem xmt_not (h : Xmt X B Γ a p Γ1) : Xmt X B Γ (.UnaryOp .Not a pos) (!p) Γ1 := xmt_of' (pt_not pt_u) (dmt_not h)
theorem xmt_val (he : Tt (∀ whole, isTrue e X.env whole = (do let v ← whole; standAt e.pos; holding [v] (truthy v)))) (h : Xm X B Γ e (.bool p) Γ1) : Xmt X B Γ e p Γ1 := xmt_of' (pt_val pe_u he.h) (dmt_B h)
/-! statements -/
theorem xsm_set {p2 : Pos} (k : Lk X i x) (hs : Tt (swapsWith e (some (.Name x p2)) pos.line X.env = pure false)) (h : Xm X B Γ e d Γ1) (hΓ : Sg (Γ1.set i (.sh d)) Γ2) (hP : P (.nx Γ2)) : Xs X B Γ (.Assign [.Name x p2] e pos) P := by
  obtain ⟨rfl⟩ := hΓ
  exact xs_of (ps_set k.nd k.ix k.loc pe_u hs.h k.fn) (ds_asgM h hP)
theorem xsm_ret (h : Xm X B Γ e d Γ1) (hi : Tt (Γ1[i]? = some (.ol l ds))) (hP : P (.rm l ds d)) : Xs X B Γ (.Return (some e) pos) P := xs_of (ps_ret pe_u) (ds_retL h hi.h hP)
theorem xsm_if {ss2 : List Stmt} (h : Xmt X B Γ c p Γ1) (h1 : p = true → Xb X B Γ1 ss P) (h2 : p = false → Xb X B Γ1 ss2 P) : Xs X B Γ (.If c ss ss2 pos) P := xs_of (ps_if pt_u pb_u pb_u) (ds_ifM h h1 h2)
theorem xmi_pure {tg : Expr} (h : Xi X B Γ tg e ds) : Xmi X B Γ tg e ds Γ := dmi_of h
theorem xmi_rng1 {tg : Expr} (hb : Bi X "range") (he : Tt (St1 X e [])) (h : Xm X B Γ e (.int n) Γ1) (hn : Side (-(2 ^ 62) ≤ n ∧ n < 2 ^ 62)) : Xmi X B Γ tg (.Call (.Name "range" p') [e] [] pos) (rangeD 0 n.toNat) Γ1 := xmi_of' (pi_range1 hb.gl hb.no pa_u he.h) (dmi_rng1 (xma_cons he h xma_nil) hn.h)
theorem xsm_for {tg iter : Expr} {body : List Stmt} (hp : PassesOwn (model X.prog X.w) X.A X.env X.xe) (hc : X.calm = true) (hs : ∀ x, foldedSetIterable iter X.env x = pure x) (h : Xmi X B Γ tg iter ds Γ1) (I : Nat → Gm → Prop) (h0 : I 0 Γ1)
    (hb : ∀ B' k d Γ', ds[k]? = some d → I k Γ' → ∃ js Γ2, Xg X tg js d Γ' Γ2 ∧ Xb X B' Γ2 body (turnS I k P)) (hd : ∀ Γ', I ds.length Γ' → P (.nx Γ')) : Xs X B Γ (.For tg iter body [] pos) P :=
  xs_of (ps_for hp hc pi_u pg_u pb_u hs) (ds_forM h I h0 hb hd)
/-- x = [..], whose place is kept in mind -/
theorem xsm_new {p2 : Pos} (k : Lk X i x) (hs : Tt (swapsWith e (some (.Name x p2)) pos.line X.env = pure false)) (h : Xl X B Γ e ds) (hP : ∀ l Γ', Γ' = Γ.set i (.ol l ds) → P (.nx Γ')) : Xs X B Γ (.Assign [.Name x p2] e pos) P := xs_of (ps_set k.nd k.ix k.loc pe_u hs.h k.fn) (ds_asgL h fun l => hP l _ rfl)
/-- x[j], x = .. at a place that is kept in mind -/
theorem xe_ixOl {j : Int} {p2 : Pos} (hs : Tt (PlainIx b)) (k : Rk X i x) (hi : Tt (Γ[i]? = some (.ol l ds))) (hb : Xp X B Γ b (.int j)) (h : Side (atI ds j = some d)) : Xp X B Γ (.Subscript (.Name x p2) b pos) d := xp_of (pe_ix ix_list (pe_var k.ix k.vis k.d1 k.d2) pe_u hs.h) (de_ixOl hi.h hb h.h)
theorem xe_ixOw {j : Int} {p2 : Pos} (hs : Tt (PlainIx b)) (k : Rk X i x) (hi : Tt (Γ[i]? = some (.ow ds))) (hb : Xp X B Γ b (.int j)) (h : Side (atI ds j = some d)) : Xp X B Γ (.Subscript (.Name x p2) b pos) d := xp_of (pe_ix ix_list (pe_var k.ix k.vis k.d1 k.d2) pe_u hs.h) (de_ixOw hi.h hb h.h)
/-- x[j] = e -/
theorem xs_putOl {j : Int} {kk : Nat} {p2 ps : Pos} {Γ' : Gm} (k : Rk X i x) (ha : Tt (∀ v, assign (.Subscript (.Name x p2) b ps) X.env v = (do
      let ov ← holding [v] (eval (.Name x p2) X.env)
      let iv ← holding [v, ov] (eval b X.env)
      standAt ps
      holding [v, ov, iv] (setItem ov iv v)
      release [v, ov, iv] []))) (hs : Tt (swapsWithSole [.Subscript (.Name x p2) b ps] e pos.line X.env = pure false)) (hw : Tt (swappedStores [.Subscript (.Name x p2) b ps] e X.env = pure none)) (h1 : Tt ((assignEach [.Subscript (.Name x p2) b ps] X.env).map (·.2) = [assign (.Subscript (.Name x p2) b ps) X.env]))
    (hi : Tt (Γ[i]? = some (.ol l ds))) (h : Xp X B Γ e d) (hb : Xp X B Γ b (.int j)) (hj : Side (ixN ds.length j = some kk)) (hΓ : Sg (Γ.set i (.ol l (ds.set kk d))) Γ') (hP : P (.nx Γ')) : Xs X B Γ (.Assign [.Subscript (.Name x p2) b ps] e pos) P := by
  obtain ⟨rfl⟩ := hΓ
  exact xs_of (ps_asg pe_u (pg_sub (pe_var k.ix k.vis k.d1 k.d2) pe_u set_list ha.h) hs.h hw.h h1.h) (ds_putOl hi.h h hb hj.h hP)
theorem xs_putOw {j : Int} {kk : Nat} {p2 ps : Pos} {Γ' : Gm} (k : Rk X i x) (ha : Tt (∀ v, assign (.Subscript (.Name x p2) b ps) X.env v = (do
      let ov ← holding [v] (eval (.Name x p2) X.env)
      let iv ← holding [v, ov] (eval b X.env)
      standAt ps
      holding [v, ov, iv] (setItem ov iv v)
      release [v, ov, iv] []))) (hs : Tt (swapsWithSole [.Subscript (.Name x p2) b ps] e pos.line X.env = pure false)) (hw : Tt (swappedStores [.Subscript (.Name x p2) b ps] e X.env = pure none)) (h1 : Tt ((assignEach [.Subscript (.Name x p2) b ps] X.env).map (·.2) = [assign (.Subscript (.Name x p2) b ps) X.env]))
    (hi : Tt (Γ[i]? = some (.ow ds))) (h : Xp X B Γ e d) (hb : Xp X B Γ b (.int j)) (hj : Side (ixN ds.length j = some kk)) (hΓ : Sg (Γ.set i (.ow (ds.set kk d))) Γ') (hP : P (.nx Γ')) : Xs X B Γ (.Assign [.Subscript (.Name x p2) b ps] e pos) P := by
  obtain ⟨rfl⟩ := hΓ
  exact xs_of (ps_asg pe_u (pg_sub (pe_var k.ix k.vis k.d1 k.d2) pe_u set_list ha.h) hs.h hw.h h1.h) (ds_putOw hi.h h hb hj.h hP)
end
/-! ### a def that changes the own list handed in -/
/-- l stands once among the arguments -/
structure OnceAt (l : Addr) (gs : List Ag) : Prop where
  ex : ∃ n : Nat, ∀ (i : Nat) (m : Addr), gs[i]? = some (Ag.p m) → i = n ∧ m = l
theorem noP {ds : List PyData} {i : Nat} {m : Addr} (h : (ds.map Ag.d)[i]? = some (.p m)) : False := by
  rw [List.getElem?_map] at h
  cases e : ds[i]? with
  | none => rw [e] at h; cases h
  | some x => rw [e] at h; cases h
theorem one_of (as : List PyData) (l : Addr) (bs : List PyData) : OnceAt l (as.map Ag.d ++ Ag.p l :: bs.map Ag.d) := ⟨as.length, fun i m h => by
  by_cases hi : i < as.length
  · rw [List.getElem?_append_left (by rw [List.length_map]; exact hi)] at h
    exact (noP h).elim
  · rw [List.getElem?_append_right (by rw [List.length_map]; omega), List.length_map] at h
    cases e : i - as.length with
    | zero =>
      rw [e] at h
      cases h
      exact ⟨by omega, rfl⟩
    | succ j =>
      rw [e] at h
      exact (noP h).elim⟩
def slG (ds : List PyData) : Ag → Sl
  | .d x => .sh x
  | .p l => .ol l ds
def startM (N : List Str) (gs : List Ag) (ds : List PyData) : Gm := gs.map (slG ds) ++ List.replicate (N.length - gs.length) .un
theorem en_startM {K : PySem.W.Frag} {N : List Str} {vs xs : List V} {gs : List Ag} {ds : List PyData} {H Hs : Hp} {l : Addr} (o : OnceAt l gs) (s : ∀ a o, Hs a = some o → H a = some o) (tb : TabsIn Hs) (a : AgAll K Hs vs gs) (hl : H l = some (.lst xs)) (hn : Hs l = none) (hd : DqAll K Hs xs ds) : Enb K ⟨del H l, Hs, Hs⟩ H Hs (L2.start N vs) (startM N gs ds) := by
  refine ⟨⟨fun a o h => .inl ?_, Ext.refl _, s, fun a h => .inl h⟩, Ext.refl _, ?_, fun i t o h1 h2 => ?_, fun i j u t m h1 h2 w1 w2 _ _ => ?_, tb⟩
  · by_cases ha : a = l
    · subst ha
      exact absurd (h.symm.trans (show del H a a = none from del_same)) (by simp)
    · exact (show del H l a = H a from del_ne ha).symm.trans h
  · unfold L2.start startM
    rw [List.length_append, List.length_append, List.length_map, List.length_map, List.length_replicate, List.length_replicate, a.len]
  · unfold startM at h1
    unfold L2.start at h2
    by_cases hi : i < gs.length
    · rw [List.getElem?_append_left (by rw [List.length_map]; exact hi), List.getElem?_map, List.getElem?_eq_getElem hi] at h1
      rw [List.getElem?_append_left (by rw [List.length_map, a.len]; exact hi), List.getElem?_map] at h2
      have hg := List.getElem?_eq_getElem hi
      obtain ⟨v, hv, pv⟩ := a.get hg
      rw [hv] at h2
      cases h1
      cases h2
      cases e : gs[i] with
      | d x =>
        rw [e] at pv
        exact ⟨v, rfl, pv⟩
      | p m =>
        rw [e] at pv hg
        obtain ⟨n, hon⟩ := o.ex
        obtain ⟨_, rfl⟩ := hon i m hg
        exact ⟨xs, by rw [show v = .ref m from pv], hl, hd, hn, del_same⟩
    · rw [List.getElem?_append_right (by rw [List.length_map]; omega), List.getElem?_replicate] at h1
      split at h1
      · cases h1; trivial
      · cases h1
  · have at_n : ∀ {i : Nat} {u : Sl}, (startM N gs ds)[i]? = some u → u.isOwn = true → ∃ m, gs[i]? = some (.p m) := fun {i u} h w => by
      unfold startM at h
      by_cases hi : i < gs.length
      · rw [List.getElem?_append_left (by rw [List.length_map]; exact hi), List.getElem?_map, List.getElem?_eq_getElem hi] at h
        cases h
        cases e : gs[i] with
        | d x =>
          rw [e] at w
          cases w
        | p m => exact ⟨m, by rw [List.getElem?_eq_getElem hi, e]⟩
      · rw [List.getElem?_append_right (by rw [List.length_map]; omega), List.getElem?_replicate] at h
        split at h
        · cases h
          cases w
        · cases h
    obtain ⟨m1, k1⟩ := at_n h1 w1
    obtain ⟨m2, k2⟩ := at_n h2 w2
    obtain ⟨n, hon⟩ := o.ex
    exact (hon _ _ k1).1.trans (hon _ _ k2).1.symm
section
variable {P : Program} {w : World} {K : PySem.W.Frag} {mg : Str → Option Value} {base : Heap}
def RetM (l : Addr) (es : List PyData) (d : PyData) : Out → Prop := fun o => o = .rm l es d
theorem ret_rm {l : Addr} {es es' : List PyData} {d d' : PyData} (h : es' = es) (k : d' = d) : RetM l es d (.rm l es' d') := by rw [h, k]; rfl
theorem fn_okM {x qual : Str} {st : Stmt} {f : Addr} {fd : FuncData} {N ps : List Str} {k : Nat} {R : Addr → List Ag → List PyData → List PyData → PyData → Prop} (F : Fun K x qual st f fd) (S : FnScope N ps (defScope st)) (len : ∀ l gs ds es d, R l gs ds es d → gs.length = ps.length ∧ OnceAt l gs)
    (body : ∀ (cdv : Value) (A : Around) (outer : List Env) (s : Shared) (H : Hp) (E : XK) (B : Bs) (l : Addr) (gs : List Ag) (ds es : List PyData) (d : PyData), Room k (Xc P w K mg base N qual st f cdv A outer s H E).A → R l gs ds es d → Xb (Xc P w K mg base N qual st f cdv A outer s H E) B (startM N gs ds) (defBody st) (RetM l es d)) : FnOk P w K mg base CX0 (k + 1) f fd ps (spM K R) := by
  refine F.ok S (fun vs H Q E h => ?_) (fun cdv A outer s H vs Q E hr h => ?_)
  · obtain ⟨gs, l, xs, ds, es, d, Hs, a, _, _, _, _, _, hR, _⟩ := h
    rw [a.len]
    exact (len l gs ds es d hR).1
  · obtain ⟨gs, l, xs, ds, es, d, Hs, a, hl, hn, hsub, htb, hd, hR, q⟩ := h
    refine ⟨_, pb_u, body cdv A outer s H E ⟨del H l, Hs, Hs⟩ l gs ds es d hr hR _ H Hs (L2.start N vs) (en_startM (len l gs ds es d hR).2 hsub htb a hl hn hd) fun o ho => ?_⟩
    cases ho
    exact fun v ys H' Hs' g k1 k2 k3 k4 => q v H' Hs' ys g k1 k2 k3 k4
structure DnM (P : Program) (w : World) (K : PySem.W.Frag) (mg : Str → Option Value) (base : Heap) (k : Nat) (x : Str) (R : Addr → List Ag → List PyData → List PyData → PyData → Prop) : Prop where
  ex : ∃ (f : Addr) (fd : FuncData) (ps : List Str), mg x = some (.ref f) ∧ FnOk P w K mg base CX0 k f fd ps (spM K R) ∧ PySem.W.keepIn K (.ref f) = true ∧ Binds K fd ps []
theorem ce_ofM {N : List Str} {st : Stmt} {qual : Str} {f : Addr} {cdv : Value} {A : Around} {outer : List Env} {s : Shared} {H : Hp} {E : XK} {x : Str} {R : Addr → List Ag → List PyData → List PyData → PyData → Prop} {k j : Nat} (D : DnM P w K mg base k x R) (hr : Room j (Xc P w K mg base N qual st f cdv A outer s H E).A) (hk : k ≤ j) (hd : (x == ("__debug__" : Str)) = false) :
    CeM (Xc P w K mg base N qual st f cdv A outer s H E) x R := by
  obtain ⟨g, fd, ps, h1, h2, h3, h4⟩ := D.ex
  exact ⟨⟨k, g, fd, ps, h1, h2, h3, h4, hr.mono hk⟩, hd⟩
theorem dn_ofM {x qual : Str} {st : Stmt} {f : Addr} {fd : FuncData} {ps : List Str} {k : Nat} {R : Addr → List Ag → List PyData → List PyData → PyData → Prop} (F : Fun K x qual st f fd) (hm : mg x = some (.ref f)) (hb : Binds K fd ps []) (h : FnOk P w K mg base CX0 k f fd ps (spM K R)) : DnM P w K mg base k x R := ⟨f, fd, ps, hm, h, F.kp, hb⟩
end
end Dl
set_option Elab.async false
set_option linter.all false
set_option maxRecDepth 100000
set_option maxHeartbeats 2000000
/-! Exceptions: defs that raise, calls of them, a try whose exception is kept. -/
namespace Dl
open PySem L2 PyProof.Rows
section
variable {X : Cx} {pins : List (Addr × Obj)} {σ : L2.St} {H : Hp} {s : Shared}
/-- a pinned object, new since the def's entry, is told by the heap from now on -/
theorem trackX {a : Addr} {oe : Obj} {o : HO} (I : Inv X (pins ++ [(a, oe)]) σ H s) (n0 : X.s_0.heap.get? a = none) (hp : ∀ p ∈ X.pn ++ pins, p.1 ≠ a) (new : ObjOk X.prog X.w (upd H a o) s.heap a o) : Inv X pins σ (upd H a o) s := by
  obtain ⟨e0, na, nL, nF, nc⟩ := I.pin (a, oe) (List.mem_append_right _ (List.mem_append_right _ List.mem_cons_self))
  have na' : H a = none := na
  have e0' : s.heap.get? a = some oe := e0
  have old : ∀ b u, X.s_0.heap.get? b = some u → b ≠ a := fun b u e z => by
    rw [z, n0] at e
    cases e
  refine ⟨I.ok, I.os, I.bare, ⟨I.base.keep, I.base.slot, fun b u e n hx => ?_, I.base.there, fun b xs e => ?_, fun b u xs e => ?_, fun b ps e => ?_⟩, I.loc, I.cell, ?_, fun x c e => ?_, fun p hpn => ?_, fun b u e => ?_, I.len⟩
  · rw [upd_ne (old b u e)]
    exact I.base.free b u e n hx
  · have q := I.base.tups b xs e
    rw [upd_ne (ne_of_none q na')]
    exact q
  · have q := I.base.frzs b u xs e
    rw [upd_ne (ne_of_none q na')]
    exact q
  · obtain ⟨more, q⟩ := I.base.tbls b ps e
    exact ⟨more, by rw [upd_ne (ne_of_none q na')]; exact q⟩
  · rw [upd_ne (Ne.symm nL)]
    exact I.free
  · have hc : c ≠ a := fun z => by
      obtain ⟨v, oc, hoc, hdc⟩ := I.cell x c e
      rw [z, e0'] at hoc
      cases hoc
      exact nc v hdc
    rw [upd_ne hc]
    exact I.freeC x c e
  · obtain ⟨q1, q2, q3, q4, q5⟩ := I.pin p (by
      rcases List.mem_append.mp hpn with z | z
      · exact List.mem_append_left _ z
      · exact List.mem_append_right _ (List.mem_append_left _ z))
    exact ⟨q1, by rw [upd_ne (hp p hpn)]; exact q2, q3, q4, q5⟩
  · by_cases hb : b = a
    · subst hb
      rw [upd_same] at e
      cases e
      exact new
    · rw [upd_ne hb] at e
      exact (I.hok b u e).stay (fun _ _ _ q => q) (fun c q => by rw [upd_ne (ne_of_none q na')]; exact q) fun c xs q => by rw [upd_ne (ne_of_none q na')]; exact q
end
/-- what the clause does with an exception: the suite, its name gone, the exception kept in the heap -/
def keptD (D : Ends) (i : Nat) (a : Addr) (cls : Value) (d : Option Addr) : Ends := { nx := fun σ' H' => D.nx (σ'.set i none) (upd H' a (ExG cls d a)), rt := fun _ _ => False }
def wKeep (K : PySem.W.Frag) (c : Value) (i : Nat) (ts : Addr → Value → Option Addr → TS) (D : Ends) : WX := fun cls d σ H => PySem.W.exmOne K cls c = some true ∧ ∀ a, H a = none → ts a cls d (keptD D i a cls d) (σ.set i (some (.ref a))) H
theorem ps_tryKeep {X : Cx} {x n : Str} {c : Value} {i : Nat} {body suite : List Stmt} {b1 : Stmt} {np pos pos' : Pos} {tb : WX → TS} {ts : Addr → Value → Option Addr → TS} (stk : X.stack = X.env :: X.outer) (fr : X.env.frame = some X.env.locals) (xex : X.ex = []) (nd : X.N.Nodup) (ix : X.N[i]? = some n) (lc : X.env.kindOf n = some .local) (nm : Names X x c)
    (hb : ∀ (W : WX) (pn : List (Addr × Obj)) (xe : Value → Shared → Prop), Takes (X.tr pn xe) W → PassesOwn (model X.prog X.w) X.A X.env xe → PSs (X.tr pn xe) body (tb W))
    (hsu : ∀ (a : Addr) (oe : Obj) (cls : Value) (d : Option Addr) (pn : List (Addr × Obj)), PSs (X.suite a ((a, oe) :: pn)) (b1 :: suite) (ts a cls d)) :
    PS X (.Try body [.ExceptHandler (some (.Name x np)) (some n) (b1 :: suite) pos'] [] [] pos) (fun D σ H => tb (wKeep X.K c i ts D) D σ H) := by
  constructor
  intro pins s σ H D I start
  have ok := I.ok
  have frames : X.A.frames = some (X.env :: X.outer) := ok.frames.trans (congrArg some stk)
  let xe' : Value → Shared → Prop := fun e u1 => wpAny (model X.prog X.w) X.A (noteFrame e X.env) (fun _ u2 => wpAny (model X.prog X.w) X.A (setFlight e none) (fun _ u3 => wpAny (model X.prog X.w) X.A (handleBy e X.env [.ExceptHandler (some (.Name x np)) (some n) (b1 :: suite) pos']) (SP X pins D) X.xe u3) X.xe u2) X.xe u1
  have caught : Takes (X.tr (X.pn ++ pins) xe') (wKeep X.K c i ts D) := by
    rintro u s' ⟨a, G, sI, pins', σ', H', cls, d, rfl, J', ground, ups, sky, na, os, bare, match1, run⟩
    have J : Inv X pins σ' H' sI := J'.ofTry ok
    have sky1 : Sky G (X.env :: X.outer) a (Zc cls d) X.env.locals s'.heap := stk ▸ sky
    refine Sky.land Zc.steady frames fr sky1 fun h3 f3 up3 => ?_
    have J3 : Inv X pins σ' H' { s' with heap := h3 } := J.landed ground f3.1 (ups.trans up3) os bare
    obtain ⟨o3, v3, at3, z3, d3⟩ := f3.there
    have noFrame : a ∉ frs (X.env :: X.outer) := fun hm => by
      obtain ⟨_, o', at', notF⟩ := f3.2.2.1.mem hm
      cases at3.symm.trans at'
      exact notF _ d3
    have nL : a ≠ X.env.locals := fun z => noFrame (List.mem_filterMap.mpr ⟨X.env, List.mem_cons_self, fr.trans (congrArg some z.symm)⟩)
    have nF : a ∉ X.fs := fun hm => by
      obtain ⟨e, me, q⟩ := List.mem_filterMap.mp hm
      exact noFrame (List.mem_filterMap.mpr ⟨e, List.mem_cons_of_mem _ me, q⟩)
    have nI : sI.heap.get? a = none := by
      cases q : sI.heap.get? a with
      | none => rfl
      | some u =>
        have z := ground a u q (by rw [show (X.tr (X.pn ++ pins) xe').stack = X.env :: X.outer from stk]; exact noFrame)
        rw [f3.2.1] at z
        cases z
    have n0 : X.s_0.heap.get? a = none := by
      cases q : X.s_0.heap.get? a with
      | none => rfl
      | some u =>
        obtain ⟨u', z⟩ := J.base.there a u q (by rw [xex]; simp)
        rw [nI] at z
        cases z
    have npin : ∀ p ∈ X.pn ++ pins, p.1 ≠ a := fun p hp z => by
      have q := (J.pin p hp).1
      rw [z, nI] at q
      cases q
    have S3 := J3.suite at3 d3 na nL nF
    refine wpAny_handleBy_cons (codeAny_handlers_test ?_) (by intro q; cases q)
    have lt : PySem.W.Looks (model X.prog X.w) h3 (typeOf (.ref a)) cls := fun A Q E s k q => wpAny_typeOf_ref (k _ _ at3) (by rw [z3.1]; exact q)
    have lm := PySem.W.exm_one (M := model X.prog X.w) (J3.kIn) lt match1
    have named : ∀ {Q : Value → Shared → Prop} {E : Value → Shared → Prop}, Q c { s' with heap := h3 } → wpAny (model X.prog X.w) (X.A.mark (some (.ref a))) (eval (.Name x np) X.env) Q E { s' with heap := h3 } := fun {Q E} q => by
      obtain ⟨g1, g2, g3 | ⟨g3, g4, g5⟩⟩ := nm
      · exact ld_glob (X := X.suite a ((a, o3) :: (X.pn ++ pins))) S3 g1 g3 q g2
      · exact ld_blt (X := X.suite a ((a, o3) :: (X.pn ++ pins))) S3 g1 g3 g4 q g5 g2
    refine named (lm.here (codeAny_handlers_suite_as (HandSPX.lands_againZ f3 fun h4 f4 up4 => ?_)))
    have J4 : Inv X pins σ' H' { s' with heap := h4 } := J.landed ground f4.1 ((ups.trans up3).trans up4) os bare
    obtain ⟨o4, v4, at4, z4, d4⟩ := f4.there
    have S4 := J4.suite at4 d4 na nL nF
    refine store_ok (X := X.suite a ((a, o4) :: (X.pn ++ pins))) (v := .ref a) S4 nd ix (.inl lc) rfl (fun s5 S5 => ?_) (.inr lc)
    refine wpAny_mono ((hsu a o4 cls d (X.pn ++ pins)).run [] s5 _ H' _ S5 (run a na)) (fun f s6 hsp => ?_) (fun _ _ z => z.elim)
    cases f with
    | next =>
      obtain ⟨σ6, H6, S6, q6⟩ := hsp
      have P6 : Inv X (pins ++ [(a, o4)]) σ6 H6 s6 := (S6.unsuite ok).pins_of fun p hp => by
        refine S6.pin p (List.mem_append_left _ ?_)
        rcases List.mem_append.mp hp with z | z
        · exact List.mem_cons_of_mem _ (List.mem_append_right _ z)
        · rw [List.mem_singleton.mp z]
          exact List.mem_cons_self
      refine gone_ok P6 nd ix lc fun s7 J7 => ⟨_, _, trackX J7 n0 npin ?_, q6⟩
      have at7 := (J7.pin (a, o4) (List.mem_append_right _ (List.mem_append_right _ List.mem_cons_self))).1
      exact ⟨⟨o4, v4, at7, z4, d4⟩, ⟨o4, at7⟩, fun _ _ ⟨oo, vv, w1, w2⟩ k => ⟨oo, vv, k oo w1, w2⟩⟩
    | brk =>
      obtain ⟨_, _, _, q6⟩ := hsp
      exact q6.elim
    | cont =>
      obtain ⟨_, _, _, q6⟩ := hsp
      exact q6.elim
    | ret u =>
      obtain ⟨_, _, _, _, _, q6⟩ := hsp
      exact q6.elim
  refine wpAny_Try_except (wpAny_mono ((hb (wKeep X.K c i ts D) (X.pn ++ pins) xe' caught PassesOwn.looking).run [] s σ H D (I.toTry _) start) (fun f s1 hsp => ?_) (fun _ _ he => he))
  cases f with
  | next =>
    obtain ⟨σ', H', J', q⟩ := hsp
    exact wpAny_execs_nil ⟨σ', H', J'.ofTry ok, q⟩
  | brk =>
    obtain ⟨σ', H', J', q⟩ := hsp
    exact ⟨σ', H', J'.ofTry ok, q⟩
  | cont =>
    obtain ⟨σ', H', J', q⟩ := hsp
    exact ⟨σ', H', J'.ofTry ok, q⟩
  | ret u =>
    obtain ⟨v, σ', H', J', r, q⟩ := hsp
    exact ⟨v, σ', H', J'.ofTry ok, r, q⟩
section
variable [Tabs]
/-! ### defs that may raise -/
/-- what a def gives: an answer, or an exception of a class by its name -/
inductive Rs where
  | ok (d : PyData) | er (nm : Str)
def spX (K : PySem.W.Frag) (mg : Str → Option Value) (R : List PyData → Rs → Prop) : Sp := fun vs H Q E => ∃ ds res Hs, (∀ a o, Hs a = some o → H a = some o) ∧ TabsIn Hs ∧ DqAll K Hs vs ds ∧ R ds res ∧
  (∀ d, res = .ok d → ∀ v H' Hs', Gr H Hs H' Hs' → Dq K Hs' v d → Q v H') ∧ (∀ nm, res = .er nm → ∃ D, mg nm = some (.ref D) ∧ ∀ H' Hs', Gr H Hs H' Hs' → E (.ref D) none H')
/-- an exception of this class may be let out here -/
structure AX (X : Cx) (B : Bs) (Γ : Gm) (nm : Str) : Prop where
  ex : ∃ W D, X.mg nm = some (.ref D) ∧ Takes X W ∧ ∀ σ H Hs, Enb X.K B H Hs σ Γ → W (.ref D) none σ H
structure CeX (X : Cx) (x : Str) (R : List PyData → Rs → Prop) : Prop where
  ex : ∃ (k : Nat) (f : Addr) (fd : FuncData) (ps : List Str), X.mg x = some (.ref f) ∧ FnOk X.prog X.w X.K X.mg X.base (L2.CX X.prog X.w) k f fd ps (spX X.K X.mg R) ∧ PySem.W.keepIn X.K (.ref f) = true ∧ Binds X.K fd ps [] ∧ Room k X.A
  db : (x == ("__debug__" : Str)) = false
structure CalX (R : List PyData → Rs → Prop) (ds : List PyData) (r : Rs) : Prop where
  h : R ds r
section
variable {X X' : Cx} {B : Bs} {Γ : Gm} {e : Expr} {es : List Expr} {d : PyData} {ds : List PyData} {P : Out → Prop} {pos p' : Pos} {x y n nm : Str} {i j : Nat} {b : Bool} {R : List PyData → Rs → Prop}
theorem xe_callX (c : CeX X x R) (hg : Gl X x) (he : Tt (St1 X e es)) (hp : Tt (Pl1 X pos es)) (ha : Xa X B Γ (e :: es) ds) (hr : CalX R ds (.ok d)) : Xp X B Γ (.Call (.Name x p') (e :: es) [] pos) d := by
  obtain ⟨k, f, fd, ps, hm, F, kp, bi, hr'⟩ := c.ex
  exact xp_of (pe_callS F hr' hg hm kp bi (passAt takes0) pa_u c.db he.h hp.h) fun H Hs σ E Q q => ha H Hs σ E _ fun vs H1 Hs1 g1 p1 =>
    ⟨ds, .ok d, Hs1, g1.sub, E.tab.mono g1.exs, p1, hr.h, fun d' e v H2 Hs2 g2 p2 => by
      cases e
      exact q v H2 Hs2 (g1.trans g2) p2, fun nm e => nomatch e⟩
theorem xe_callE (c : CeX X x R) (ax : AX X B Γ nm) (hg : Gl X x) (he : Tt (St1 X e es)) (hp : Tt (Pl1 X pos es)) (ha : Xa X B Γ (e :: es) ds) (hr : CalX R ds (.er nm)) : Xp X B Γ (.Call (.Name x p') (e :: es) [] pos) d := by
  obtain ⟨k, f, fd, ps, hm, F, kp, bi, hr'⟩ := c.ex
  obtain ⟨W, D, hD, tk, hW⟩ := ax.ex
  exact xp_of (pe_callS F hr' hg hm kp bi (passAt tk) pa_u c.db he.h hp.h) fun H Hs σ E Q q => ha H Hs σ E _ fun vs H1 Hs1 g1 p1 =>
    ⟨ds, .er nm, Hs1, g1.sub, E.tab.mono g1.exs, p1, hr.h, ⟨fun d' e => (nomatch e), fun nm' e => by
      cases e
      exact ⟨D, hD, fun H2 Hs2 g2 => hW σ H2 Hs2 (E.grow (g1.trans g2))⟩⟩⟩
/-- a class whose instances may be made and raised -/
structure ExB (K : PySem.W.Frag) (mg : Str → Option Value) (x : Str) : Prop where
  ex : ∃ (C : Addr) (bmB : List Value) (N newId initId : String), mg x = some (.ref C) ∧ ExcBaseFacts N newId initId bmB ∧ PySem.W.excIn K C bmB newId = true ∧ PySem.W.keepIn K (.ref C) = true ∧ PySem.W.subIn K (.ref C) (.type "BaseException") = some true ∧ PySem.W.typeIn K (.ref C) = some (.type "type")
  db : (x == ("__debug__" : Str)) = false
theorem xs_raise {m : Str} {jj : _} {p p2 cpos : Pos} (k : ExB X.K X.mg x) (hg : Gl X x) (ax : AX X B Γ x) (hc : Tt (X.calm = true)) : Xs X B Γ (.Raise (some (.Call (.Name x p) [.Constant (.str m) jj p2] [] cpos)) none pos) P := by
  obtain ⟨C, bmB, N, newId, initId, h1, h2, h3, h4, h5, h6⟩ := k.ex
  obtain ⟨W, D, hD, tk, hW⟩ := ax.ex
  rw [h1] at hD
  cases hD
  exact xs_of (ps_raise hc.h tk (pmk_own h2 h3 h1 h4 (raises_own h5 h6) hg k.db)) fun Dd H Hs σ E q => hW σ H Hs E
/-! contexts alike but for exceptions -/
structure Like (X X' : Cx) : Prop where
  prog : X'.prog = X.prog
  w : X'.w = X.w
  K : X'.K = X.K
  mg : X'.mg = X.mg
  base : X'.base = X.base
  N : X'.N = X.N
  env : X'.env = X.env
  fn : X'.fn = X.fn
  A : X'.A = X.A
  calm : X'.calm = X.calm
theorem Like.rk (h : Like X X') (k : Rk X i x) : Rk X' i x := ⟨by rw [h.N]; exact k.ix, by rw [h.env]; exact k.vis, k.d1, k.d2⟩
theorem Like.lk (h : Like X X') (k : Lk X i x) : Lk X' i x := ⟨by rw [h.N]; exact k.nd, by rw [h.N]; exact k.ix, by rw [h.env]; exact k.loc, by rw [h.fn, h.env]; exact k.fn⟩
theorem Like.gl (h : Like X X') (k : Gl X x) : Gl X' x := by
  unfold Gl at k ⊢
  rw [h.env]
  exact k
theorem Like.bi (h : Like X X') (k : Bi X x) : Bi X' x := ⟨h.gl k.gl, by rw [h.mg]; exact k.no⟩
theorem Like.ty {T : TyN} (h : Like X X') (k : Ty X x T) : Ty X' x T := ⟨h.bi k.bi, k.is, k.nn, k.db⟩
theorem Like.rm (h : Like X X') (k : Rm X) : Rm X' := ⟨by rw [h.A]; exact k.h⟩
theorem Like.cn {d : PyData} (h : Like X X') (k : Cn X x d) : Cn X' x d := ⟨by rw [h.mg, h.K]; exact k.ex, k.db⟩
theorem Like.ce {R : List PyData → PyData → Prop} (h : Like X X') (k : Ce X x R) : Ce X' x R := ⟨by rw [h.mg, h.prog, h.w, h.K, h.base, h.A]; exact k.ex, k.db⟩
theorem Like.ceO {R : List PyData → PyData → Prop} (h : Like X X') (k : CeO X x R) : CeO X' x R := ⟨by rw [h.mg, h.prog, h.w, h.K, h.base, h.A]; exact k.ex, k.db⟩
theorem Like.ceX (h : Like X X') (k : CeX X x R) : CeX X' x R := ⟨by rw [h.mg, h.prog, h.w, h.K, h.base, h.A]; exact k.ex, k.db⟩
theorem Like.gx {c T : Addr} (h : Like X X') (k : Gx X c T) : Gx X' c T := ⟨by rw [h.base, h.mg]; exact k.tb, k.ts, by rw [h.env]; exact k.code, by rw [h.A]; exact k.room⟩
theorem Like.exb (h : Like X X') (k : ExB X.K X.mg x) : ExB X'.K X'.mg x := by rw [h.K, h.mg]; exact k
theorem like_tr {X : Cx} {pn : List (Addr × Obj)} {xe : Value → Shared → Prop} : Like X (X.tr pn xe) := ⟨rfl, rfl, rfl, rfl, rfl, rfl, rfl, rfl, rfl, rfl⟩
/-- try: body / except C as n: y = n -/
theorem xs_tryKeep {c : Value} {D : Addr} {body : List Stmt} {np yp ep ap pos' : Pos} {Γ' : Gm} (stk : X.stack = X.env :: X.outer) (fr : X.env.frame = some X.env.locals) (xex : X.ex = []) (kn : Lk X i n) (rn : Rk X i n) (lc : X.env.kindOf n = some .local) (hi : i < Γ.length) (ky : Lk X j y) (hij : i ≠ j) (nmC : Names X x c)
    (hex : X.mg nm = some (.ref D)) (hm : PySem.W.exmOne X.K (.ref D) c = some true) (hs : ∀ a oe pn, swapsWith (.Name n ep) (some (.Name y yp)) ap.line (X.suite a ((a, oe) :: pn)).env = pure false)
    (hb : ∀ X', Like X X' → AX X' B Γ nm → Xb X' B Γ body P) (hΓ : Γ' = (Γ.set j (.ex D)).set i .un) (hP : P (.nx Γ')) :
    Xs X B Γ (.Try body [.ExceptHandler (some (.Name x np)) (some n) [.Assign [.Name y yp] (.Name n ep) ap] pos'] [] [] pos) P := by
  subst hΓ
  let tb : WX → TS := fun W D' σ H => ∀ pn xe, Takes (X.tr pn xe) W → uB (X.tr pn xe) body D' σ H
  let ts : Addr → Value → Option Addr → TS := fun a _ _ D' σ H => ∀ oe pn, uB (X.suite a ((a, oe) :: pn)) [.Assign [.Name y yp] (.Name n ep) ap] D' σ H
  refine xs_of (ps_tryKeep (tb := tb) (ts := ts) stk fr xex kn.nd kn.ix lc nmC (fun W pn xe tk po => ⟨fun pins s σ H D' I h => pb_u.run pins s σ H D' I (h pn xe tk)⟩) (fun a oe cls d pn => ⟨fun pins s σ H D' I h => pb_u.run pins s σ H D' I (h oe pn)⟩)) ?_
  intro Dd H Hs σ E q pn xe tk
  refine hb (X.tr pn xe) like_tr ⟨_, D, hex, tk, fun σ1 H1 Hs1 E1 => ⟨hm, fun a na => ?_⟩⟩ Dd H Hs σ E q
  intro oe pn2
  have li : i < σ1.length := by
    rw [E1.len]
    exact hi
  have E2 : Enb X.K B (upd H1 a (ExG (.ref D) none a)) (upd Hs1 a (ExG (.ref D) none a)) σ1 Γ := E1.grow ((Gr.refl E1.sub).share na)
  have E3 := ((E2.set i (s := .vv (.ref a)) (o := some (.ref a)) rfl rfl).set j (s := .ex D) (o := some (.ref a)) ⟨a, rfl, upd_same⟩ rfl).setUn i (o := none)
  have eΓ : ((Γ.set i (.vv (.ref a))).set j (.ex D)).set i .un = (Γ.set j (.ex D)).set i .un := by
    rw [List.set_comm _ _ hij.symm, List.set_set, List.set_comm _ _ hij.symm]
  rw [eΓ] at E3
  exact ⟨_, pss_one (ps_set (X := X.suite a ((a, oe) :: pn2)) kn.nd ky.ix ky.loc (pe_var rn.ix rn.vis rn.d1 rn.d2) (hs a oe pn2) ky.fn), .ref a, List.getElem?_set_self li, q _ hP _ _ _ E3⟩
/-! ### an exception looked at -/
def rIsX (K : PySem.W.Frag) (D : Addr) : List V → Hp → VK → Prop := fun xs H Q => ∃ (a : Addr) (c : V) (cv : Value) (b : Bool), xs = [.ref a, c] ∧ H a = some (ExI D a) ∧ (∀ u, RelV c u → u = cv) ∧ PySem.W.kitOne K (.ref D) cv = some b ∧ Q (.bl b) H
theorem call_isX {D : Addr} (C : ExcC X.K D) : CallR X (.builtin "isinstance") (rIsX X.K D) := by
  intro pins s σ H xs us Q I r h
  obtain ⟨a, c, cv, b, rfl, ha, hcv, e, q⟩ := h
  obtain ⟨u1, u2, rfl, r1, r2⟩ := vals2 r
  cases (show u1 = Value.ref a from r1)
  have ec := hcv _ r2
  subst ec
  obtain ⟨⟨oe, vs, hget, hz, hv⟩, _⟩ := (show ObjOk X.prog X.w H s.heap a (ExI D a) from I.hok a _ ha)
  have J : PySem.W.InstAt s.heap a oe D none := by
    obtain ⟨oc, od, oda, osl⟩ := oe
    obtain ⟨h1, h2⟩ := hz
    dsimp only at h1 h2 hv
    subst h1 h2 hv
    exact ⟨hget, rfl, rfl, trivial⟩
  exact PySem.W.kia_one (PySem.W.handS_kitx_exc C.hg C.hk C.hs C.hd C.ha C.hn C.ht C.hm) I.kIn J e (fun z => nomatch z) fun tk => ⟨.bl b, H, I.tok tk, rfl, q⟩
/-- the class under the name y, and whether an exception of the class at D is one of it -/
structure IsC (X : Cx) (D : Addr) (y : Str) (b : Bool) : Prop where
  gl : Gl X y
  db : (y == ("__debug__" : Str)) = false
  ex : (∃ C : Addr, X.mg y = some (.ref C) ∧ PySem.W.kitOne X.K (.ref D) (.ref C) = some b) ∨ ∃ T : String, X.mg y = none ∧ bootBuiltins y = some (.type T) ∧ y ≠ "__name__" ∧ PySem.W.kitOne X.K (.ref D) (.type T) = some b
theorem xe_isX {D : Addr} {p1 p2 : Pos} (C : ExcC X.K D) (hb : Bi X "isinstance") (k : Rk X i x) (hi : Tt (Γ[i]? = some (.ex D))) (hc : IsC X D y b) (he : Tt (St1 X (.Name x p1) [.Name y p2])) (he2 : Tt (St1 X (.Name y p2) [])) (hp : Tt (Pl1 X pos [.Name y p2])) : Xp X B Γ (.Call (.Name "isinstance" p') [.Name x p1, .Name y p2] [] pos) (.bool b) := by
  have fin : ∀ (c : V) (cv : Value), PE X (.Name y p2) (tC c) → (∀ u, RelV c u → u = cv) → PySem.W.kitOne X.K (.ref D) cv = some b → Xp X B Γ (.Call (.Name "isinstance" p') [.Name x p1, .Name y p2] [] pos) (.bool b) := fun c cv pc hcv hk =>
    xp_of (pe_callB (call_isX C) hb.gl hb.no (by decide +kernel) (pa_cons (pe_var k.ix k.vis k.d1 k.d2) (pa_cons pc pa_nil he2.h) he.h) (by decide) (by decide) he.h hp.h) fun H Hs σ E Q q => by
      obtain ⟨o, e1, a, rfl, ha⟩ := E.get hi.h
      exact ⟨.ref a, e1, a, c, cv, b, rfl, E.sub _ _ ha, hcv, hk, q _ H Hs (Gr.refl E.sub) (.bl _)⟩
  obtain ⟨g, db, ⟨Ca, hm, hk⟩ | ⟨T, hm, hv, hn, hk⟩⟩ := hc
  · exact fin (.ref Ca) (.ref Ca) (pe_glob g hm (show RelV (.ref Ca) (.ref Ca) from rfl) db) (fun u h => h) hk
  · exact fin (.ty T) (.type T) (pe_bltn g hm hv rfl hn db) (fun u h => h) hk
theorem Like.isc {D : Addr} (h : Like X X') (k : IsC X D y b) : IsC X' D y b := ⟨h.gl k.gl, k.db, by rw [h.mg, h.K]; exact k.ex⟩
/-- y is None, y an exception -/
theorem xte_isXN {D : Addr} {p1 p2 : Pos} {kk} (k : Rk X i x) (hi : Tt (Γ[i]? = some (.ex D))) : Xt X B Γ (.Compare (.Name x p1) [.Is] [.Constant .none kk p2] pos) false :=
  xt_of (pt_cmpR op_isN (pe_var k.ix k.vis k.d1 k.d2) pe_non (nomark _)) fun H Hs σ E Q q => by
    obtain ⟨o, e1, a, rfl, ha⟩ := E.get hi.h
    exact ⟨.ref a, e1, rfl, false, by simp, q H Hs (Gr.refl E.sub)⟩
end
/-! ### the body of a def that may raise -/
section
variable {P : Program} {w : World} {K : PySem.W.Frag} {mg : Str → Option Value} {base : Heap}
abbrev Xe (P : Program) (w : World) (K : PySem.W.Frag) (mg : Str → Option Value) (base : Heap) (N : List Str) (qual : Str) (st : Stmt) (f : Addr) (cdv : Value) (A : Around) (outer : List Env) (s : Shared) (H : Hp) (E : XK) : Cx := cxOf (L2.CX P w) P w K mg base N qual (defScope st) f cdv A outer s H E
theorem like_xe {N : List Str} {qual : Str} {st : Stmt} {f : Addr} {cdv : Value} {A : Around} {outer : List Env} {s : Shared} {H : Hp} {E : XK} : Like (Xc P w K mg base N qual st f cdv A outer s H E) (Xe P w K mg base N qual st f cdv A outer s H E) := ⟨rfl, rfl, rfl, rfl, rfl, rfl, rfl, rfl, rfl, rfl⟩
def RetX : Rs → Out → Prop
  | .ok d => RetP d
  | .er _ => fun _ => False
theorem fn_okX {x qual : Str} {st : Stmt} {f : Addr} {fd : FuncData} {N ps : List Str} {k : Nat} {R : List PyData → Rs → Prop} (F : Fun K x qual st f fd) (S : FnScope N ps (defScope st)) (len : ∀ ds r, R ds r → ds.length = ps.length)
    (body : ∀ (cdv : Value) (A : Around) (outer : List Env) (s : Shared) (H : Hp) (E : XK) (B : Bs) (ds : List PyData) (r : Rs), Room k (Xc P w K mg base N qual st f cdv A outer s H E).A → R ds r → (∀ nm, r = .er nm → ∀ Γ B', B'.H0 = B.H0 → B'.Hs0 = B.Hs0 → AX (Xe P w K mg base N qual st f cdv A outer s H E) B' Γ nm) →
      Xb (Xe P w K mg base N qual st f cdv A outer s H E) B (startG N ds) (defBody st) (RetX r)) : FnOk P w K mg base (L2.CX P w) (k + 1) f fd ps (spX K mg R) := by
  refine F.okX S (fun vs H Q E h => ?_) (fun cdv A outer s H vs Q E hr h => ?_)
  · obtain ⟨ds, r, Hs, _, _, a, hR, _⟩ := h
    rw [a.length]
    exact len ds r hR
  · obtain ⟨ds, r, Hs, hsub, htb, a, hR, q, qe⟩ := h
    refine ⟨_, pb_u, body cdv A outer s H E ⟨H, Hs, Hs⟩ ds r hr hR (fun nm e Γ B' e1 e2 => ?_) _ H Hs (L2.start N vs) (en_start hsub htb a) fun o ho => ?_⟩
    · obtain ⟨D, hD, hE⟩ := qe nm e
      refine ⟨_, D, hD, takes_of rfl rfl rfl rfl, fun σ' H' Hs' E' => hE H' Hs' ?_⟩
      have g := E'.gr
      rw [e1, e2] at g
      exact g
    · cases r with
      | ok d =>
        rcases ho with rfl | ⟨rfl, Γ, rfl⟩
        · exact fun v H' Hs' g p => q d rfl v H' Hs' g p
        · exact fun H' Hs' σ' E' => q .none rfl .non H' Hs' E'.gr .non
      | er nm => exact ho.elim
structure DnX (P : Program) (w : World) (K : PySem.W.Frag) (mg : Str → Option Value) (base : Heap) (k : Nat) (x : Str) (R : List PyData → Rs → Prop) : Prop where
  ex : ∃ (f : Addr) (fd : FuncData) (ps : List Str), mg x = some (.ref f) ∧ FnOk P w K mg base (L2.CX P w) k f fd ps (spX K mg R) ∧ PySem.W.keepIn K (.ref f) = true ∧ Binds K fd ps []
theorem ce_ofX {N : List Str} {st : Stmt} {qual : Str} {f : Addr} {cdv : Value} {A : Around} {outer : List Env} {s : Shared} {H : Hp} {E : XK} {x : Str} {R : List PyData → Rs → Prop} {k j : Nat} (D : DnX P w K mg base k x R) (hr : Room j (Xc P w K mg base N qual st f cdv A outer s H E).A) (hk : k ≤ j) (hd : (x == ("__debug__" : Str)) = false) :
    CeX (Xc P w K mg base N qual st f cdv A outer s H E) x R := by
  obtain ⟨g, fd, ps, h1, h2, h3, h4⟩ := D.ex
  exact ⟨⟨k, g, fd, ps, h1, h2, h3, h4, hr.mono hk⟩, hd⟩
theorem dn_ofX {x qual : Str} {st : Stmt} {f : Addr} {fd : FuncData} {ps : List Str} {k : Nat} {R : List PyData → Rs → Prop} (F : Fun K x qual st f fd) (hm : mg x = some (.ref f)) (hb : Binds K fd ps []) (h : FnOk P w K mg base (L2.CX P w) k f fd ps (spX K mg R)) : DnX P w K mg base k x R := ⟨f, fd, ps, hm, h, F.kp, hb⟩
theorem retx_ok {d : PyData} {o : Out} (h : RetP d o) : RetX (.ok d) o := h
end
end
end Dl
set_option Elab.async false
set_option linter.all false
set_option maxRecDepth 100000
set_option maxHeartbeats 2000000
/-! What stands in the blocks of comprehensions and generators; bits, tuples, dicts. -/
namespace Dl
open PySem L2 PyProof.Rows
variable [Tabs]
def visB (sc : Scope) (x : Str) : Bool := (sc.names.lookup x == some .local || sc.names.lookup x == some .cell || sc.names.lookup x == some .free) && !(x == ("__debug__" : Str)) && !(x == ("__classdict__" : Str))
def locB (sc : Scope) (x : Str) : Bool := sc.names.lookup x == some .local || sc.names.lookup x == some .cell
def gloB (sc : Scope) (x : Str) : Bool := sc.names.lookup x == some .globalImplicit
/-- X' is a block within X, of this scope, with so much room -/
structure Bk (X : Cx) (scope : Scope) (j : Nat) (X' : Cx) : Prop where
  prog : X'.prog = X.prog
  w : X'.w = X.w
  K : X'.K = X.K
  mg : X'.mg = X.mg
  base : X'.base = X.base
  N : X'.N = X.N
  calm : X.calm = true → X'.calm = true
  sc : ∀ x k, scope.names.lookup x = some k → ∃ k', X'.env.scope.names.lookup x = some k' ∧ (k' = k ∨ (k = .free ∧ k' = .cell))
  fn : ∀ x, scope.names.lookup x = some .cell → X'.fn x = true
  room : Room j X'.A
section
variable {X X' X2 : Cx} {scope sc2 : Scope} {i j k : Nat} {x : Str} {d : PyData}
theorem relabel_at {env : Env} {x : Str} {k : NameKind} : ∀ {names : List (Str × NameKind)}, names.lookup x = some k → ∃ k', (names.map fun (n, k) => if (k == NameKind.free && env.scope.kind == .function && env.kindOf n == some .cell) then (n, NameKind.cell) else (n, k)).lookup x = some k' ∧ (k' = k ∨ (k = .free ∧ k' = .cell))
  | [], h => by simp at h
  | (n, kn) :: r, h => by
    rw [List.map_cons]
    by_cases e : x = n
    · subst e
      rw [List.lookup_cons, beq_self_eq_true] at h
      cases h
      dsimp only
      split
      · rename_i c
        simp only [Bool.and_eq_true, beq_iff_eq] at c
        exact ⟨.cell, by rw [List.lookup_cons, beq_self_eq_true], .inr ⟨c.1.1, rfl⟩⟩
      · exact ⟨_, by rw [List.lookup_cons, beq_self_eq_true], .inl rfl⟩
    · have ne : (x == n) = false := by simpa using e
      rw [List.lookup_cons, ne] at h
      obtain ⟨k', h1, h2⟩ := relabel_at (env := env) h
      refine ⟨k', ?_, h2⟩
      dsimp only
      split
      · rw [List.lookup_cons, ne]; exact h1
      · rw [List.lookup_cons, ne]; exact h1
theorem bk_of (h : Blk X scope X') (hr : Room j X.A) : Bk X scope j X' := by
  obtain ⟨s, H, C, cl, fp, rfl⟩ := h
  exact ⟨rfl, rfl, rfl, rfl, rfl, rfl, fun h => h, fun x k e => relabel_at e, fun x e => by show (scope.names.lookup x == some .cell) = true; rw [e]; rfl, hr⟩
theorem bk_in (b : Bk X sc2 j X') (h : Blk X' scope X2) : Bk X scope j X2 := by
  obtain ⟨s, H, C, cl, fp, rfl⟩ := h
  exact ⟨b.prog, b.w, b.K, b.mg, b.base, b.N, b.calm, fun x k e => relabel_at e, fun x e => by show (scope.names.lookup x == some .cell) = true; rw [e]; rfl, b.room⟩
theorem bk_gen {N : List Str} {sc : Scope} {own : List (Str × Nat)} (h : IsGx X scope j X') (S : GScp N sc scope own) : Bk X scope j X' := by
  obtain ⟨s, H, C, code, A, fp, pn, rfl, hr⟩ := h
  exact ⟨rfl, rfl, rfl, rfl, rfl, rfl, fun _ => rfl, fun x k e => ⟨k, e, .inl rfl⟩, fun x e => absurd rfl (S.cell _ (PySem.mem_of_lookup e)), hr⟩
theorem bk_gin {N : List Str} {sc : Scope} {own : List (Str × Nat)} (b : Bk X sc2 i X') (h : IsGx X' scope j X2) (S : GScp N sc scope own) : Bk X scope j X2 := by
  obtain ⟨s, H, C, code, A, fp, pn, rfl, hr⟩ := h
  exact ⟨b.prog, b.w, b.K, b.mg, b.base, b.N, fun _ => rfl, fun x k e => ⟨k, e, .inl rfl⟩, fun x e => absurd rfl (S.cell _ (PySem.mem_of_lookup e)), hr⟩
theorem Bk.rk (b : Bk X scope j X') (hi : X.N[i]? = some x) (v : visB scope x = true) : Rk X' i x := by
  unfold visB at v
  simp only [Bool.and_eq_true, Bool.or_eq_true, Bool.not_eq_true', beq_iff_eq] at v
  obtain ⟨⟨v1, v2⟩, v3⟩ := v
  refine ⟨by rw [b.N]; exact hi, ?_, by simpa using v2, by simpa using v3⟩
  rcases v1 with (z | z) | z
  · obtain ⟨k', h1, rfl | ⟨h2, _⟩⟩ := b.sc x _ z
    · exact .inl h1
    · cases h2
  · obtain ⟨k', h1, rfl | ⟨h2, _⟩⟩ := b.sc x _ z
    · exact .inr (.inl h1)
    · cases h2
  · obtain ⟨k', h1, rfl | ⟨_, rfl⟩⟩ := b.sc x _ z
    · exact .inr (.inr h1)
    · exact .inr (.inl h1)
theorem Bk.lk (b : Bk X scope j X') (nd : X.N.Nodup) (hi : X.N[i]? = some x) (v : locB scope x = true) : Lk X' i x := by
  unfold locB at v
  simp only [Bool.or_eq_true, beq_iff_eq] at v
  refine ⟨by rw [b.N]; exact nd, by rw [b.N]; exact hi, ?_, ?_⟩
  · rcases v with z | z
    · obtain ⟨k', h1, rfl | ⟨h2, _⟩⟩ := b.sc x _ z
      · exact .inl h1
      · cases h2
    · obtain ⟨k', h1, rfl | ⟨h2, _⟩⟩ := b.sc x _ z
      · exact .inr h1
      · cases h2
  · rcases v with z | z
    · obtain ⟨k', h1, rfl | ⟨h2, _⟩⟩ := b.sc x _ z
      · exact .inr h1
      · cases h2
    · exact .inl (b.fn x z)
theorem Bk.gl (b : Bk X scope j X') (v : gloB scope x = true) : Gl X' x := by
  unfold gloB at v
  obtain ⟨k', h1, rfl | ⟨h2, _⟩⟩ := b.sc x .globalImplicit (by simpa using v)
  · exact h1
  · cases h2
theorem Bk.bi (b : Bk X scope j X') (hm : X.mg x = none) (v : gloB scope x = true) : Bi X' x := ⟨b.gl v, by rw [b.mg]; exact hm⟩
theorem Bk.ty {T : TyN} (b : Bk X scope j X') (hm : X.mg x = none) (v : gloB scope x = true) (is : bootBuiltins x = some (.type T.name)) (nn : x ≠ "__name__") (db : (x == ("__debug__" : Str)) = false) : Ty X' x T := ⟨b.bi hm v, is, nn, db⟩
theorem Bk.cn (b : Bk X scope j X') (h : CnM X.K X.mg x d) : Cn X' x d := ⟨by rw [b.mg, b.K]; exact h.ex, h.db⟩
theorem Bk.rm (b : Bk X scope j X') : Rm X' := ⟨b.room.units⟩
theorem Bk.cm (b : Bk X scope j X') (h : X.calm = true) : Tt (X'.calm = true) := ⟨b.calm h⟩
theorem Bk.ce {R : List PyData → PyData → Prop} (b : Bk X scope j X') (D : Dn X.prog X.w X.K X.mg X.base k x R) (hk : k ≤ j) (db : (x == ("__debug__" : Str)) = false) : Ce X' x R := by
  obtain ⟨f, fd, ps, h1, h2, h3, h4⟩ := D.ex
  exact ⟨by rw [b.mg, b.prog, b.w, b.K, b.base]; exact ⟨k, f, fd, ps, h1, h2, h3, h4, b.room.mono hk⟩, db⟩
theorem Bk.ceO {R : List PyData → PyData → Prop} (b : Bk X scope j X') (D : DnO X.prog X.w X.K X.mg X.base k x R) (hk : k ≤ j) (db : (x == ("__debug__" : Str)) = false) : CeO X' x R := by
  obtain ⟨f, fd, ps, h1, h2, h3, h4⟩ := D.ex
  exact ⟨by rw [b.mg, b.prog, b.w, b.K, b.base]; exact ⟨k, f, fd, ps, h1, h2, h3, h4, b.room.mono hk⟩, db⟩
end
section
variable {X : Cx} {B : Bs} {Γ : Gm} {e a b c o : Expr} {es : List Expr} {d d1 d2 d3 : PyData} {ds : List PyData} {P : Out → Prop} {pos p' ap : Pos} {x : Str} {i : Nat} {p q r : Bool} {m n : Int} {y z : Str}
/-! ### bits -/
theorem xe_shl1 (ha : Xp X B Γ a (.int 1)) (hb : Xp X B Γ b (.int n)) (hc : Side (0 ≤ n ∧ n ≤ 1000000)) : Xp X B Γ (.BinOp a .LShift b pos) (.int (2 ^ n.toNat)) := xp_bin op_oneShl (fun H Hs u v s hx hy Q q => by
  cases hx; cases hy
  have := hc.h
  exact ⟨n.toNat, rfl, by rw [Int.toNat_of_nonneg (by omega)], by omega, q _ H Hs (Gr.refl s) (.int _)⟩) ha hb
theorem xe_shr (ha : Xp X B Γ a (.int m)) (hb : Xp X B Γ b (.int n)) (hc : Side (0 ≤ n)) : Xp X B Γ (.BinOp a .RShift b pos) (.int (m / 2 ^ n.toNat)) := xp_bin op_shr (opd_I hc.h fun _ => .int _) ha hb
theorem xe_band (ha : Xp X B Γ a (.int m)) (hb : Xp X B Γ b (.int n)) : Xp X B Γ (.BinOp a .BitAnd b pos) (.int (Builtin.bitAnd m n)) := xp_bin op_and (opd_I0 fun _ => .int _) ha hb
theorem xe_bor (ha : Xp X B Γ a (.int m)) (hb : Xp X B Γ b (.int n)) : Xp X B Γ (.BinOp a .BitOr b pos) (.int (Builtin.bitOr m n)) := xp_bin op_or (opd_I0 fun _ => .int _) ha hb
theorem xe_bxor (ha : Xp X B Γ a (.int m)) (hb : Xp X B Γ b (.int n)) : Xp X B Γ (.BinOp a .BitXor b pos) (.int (Builtin.bitXor m n)) := xp_bin op_xor (opd_I0 fun _ => .int _) ha hb
theorem xe_binv (ha : Xp X B Γ a (.int m)) : Xp X B Γ (.UnaryOp .Invert a pos) (.int (Builtin.bitNot m)) := xp_of (pe_un un_inv pe_u) (de_un ha fun H Hs u s hx Q q => by
  cases hx
  exact ⟨m, rfl, q _ H Hs (Gr.refl s) (.int _)⟩)
theorem xe_bits (hb : Tt (Mb X o "bit_length")) (hl : Tt ((ap.endLine == pos.line) = true)) (ho : Xp X B Γ o (.int m)) : Xp X B Γ (.Call (.Attribute o "bit_length" ap) [] [] pos) (.int (Builtin.Int.intBits m : Nat)) :=
  xp_of (pe_bits pe_u hb.h hl.h) fun H Hs σ E Q q => ho H Hs σ E _ fun v H1 Hs1 g1 p1 => by
    cases p1
    exact ⟨m, rfl, q _ H1 Hs1 g1 (.int _)⟩
/-! ### lists, tuples -/
theorem boot_tuple : bootBuiltins ("tuple" : Str) = some (.type "tuple") := by decide +kernel
theorem boot_list : bootBuiltins ("list" : Str) = some (.type "list") := by decide +kernel
inductive SeqD : PyData → List PyData → Prop where
  | lst {ds : List PyData} : SeqD (.list ds) ds
  | tup {ds : List PyData} : SeqD (.tuple ds) ds
theorem xe_tuple (hb : Bi X "tuple") (he : Tt (St1 X e [])) (hp : Tt (Pl1 X pos [])) (h : Xp X B Γ e d) (k : SeqD d ds) : Xp X B Γ (.Call (.Name "tuple" p') [e] [] pos) (.tuple ds) :=
  xp_ct call_tuple_of hb boot_tuple (by decide) (by decide +kernel) he.h hp.h (xa_cons he.h h xa_nil) (cb1 fun H Hs u s hx Q q => by
    cases k with
    | lst =>
      cases hx with
      | lst hq ha => exact ⟨_, _, rfl, .inl ⟨sub_l s hq, fun p n => q _ _ _ ((Gr.refl s).share n) (.tup (SqT.of upd_same) (ha.mono (Ext.new ((Gr.refl s).hsn n))))⟩⟩
    | tup =>
      cases hx with
      | tup hq ha => exact ⟨_, _, rfl, .inr ⟨sub_t s hq, q _ H Hs (Gr.refl s) (.tup hq ha)⟩⟩)
theorem xl_list (hb : Bi X "list") (he : Tt (St1 X e [])) (hp : Tt (Pl1 X pos [])) (h : Xp X B Γ e d) (k : SeqD d ds) : Xl X B Γ (.Call (.Name "list" p') [e] [] pos) ds :=
  xl_ct call_list_of hb boot_list (by decide) (by decide +kernel) he.h hp.h (xa_cons he.h h xa_nil) fun H Hs xs s a Q q => by
    cases a with
    | cons hx a2 =>
      cases a2
      cases k with
      | lst =>
        cases hx with
        | lst hq ha => exact ⟨_, _, rfl, .inl (sub_l s hq), fun p n => q p _ n ha⟩
      | tup =>
        cases hx with
        | tup hq ha => exact ⟨_, _, rfl, .inr (sub_t s hq), fun p n => q p _ n ha⟩
theorem cut_all {lo hi : Option Int} {xs : List PyData} (h : HT.sIx xs.length 0 lo = 0 ∧ HT.sIx xs.length xs.length hi = xs.length) : cutD xs lo hi = xs := by
  unfold cutD
  rw [h.1, h.2, List.drop_zero, Nat.sub_zero, List.take_length]
theorem xe_slT {lo hi : Option Expr} {l h : Option Int} {p2 : Pos} (he : Xp X B Γ e (.tuple ds)) (hl : Xo X B Γ lo l) (hh : Xo X B Γ hi h) : Xp X B Γ (.Subscript e (.Slice lo hi none p2) pos) (.tuple (cutD ds l h)) :=
  xp_of (pe_slice sl_tupA pe_u po_u po_u) fun H Hs σ E Q q => he H Hs σ E _ fun v H1 Hs1 g1 p1 => hl H1 Hs1 σ (E.grow g1) _ fun H2 Hs2 g2 => hh H2 Hs2 σ ((E.grow g1).grow g2) _ fun H3 Hs3 g3 => by
    have gg := (g1.trans g2).trans g3
    cases (p1.mono g2.exs).mono g3.exs with
    | tup hq ha =>
      refine ⟨_, _, rfl, sub_t gg.sub hq, fun z => ?_, fun z p n => ?_⟩
      · rw [ha.length] at z
        rw [cut_all z] at q
        exact q _ H3 Hs3 gg (.tup hq ha)
      · refine q _ _ _ (gg.share n) (.tup (SqT.of upd_same) (DqAll.mono (Ext.new (gg.hsn n)) ?_))
        unfold cutV cutD
        rw [ha.length]
        exact (ha.drop _).take _
/-! ### dicts of pairs, looked at -/
/-- a key's data -/
def keyOf : PyData → Option Key
  | .int i => some (.inl i)
  | .str x => some (.inr x)
  | _ => none
def putD (es : List (PyData × PyData)) (k v : PyData) : List (PyData × PyData) := if (es.any fun e => decide (keyOf e.1 = keyOf k)) = true then es.map (fun e => if keyOf e.1 = keyOf k then (e.1, v) else e) else es ++ [(k, v)]
theorem keyOf_keyD (k : Key) : keyOf (keyD k) = some k := by cases k <;> rfl
theorem DqKV.any {K : PySem.W.Frag} {H : Hp} {k : Key} : ∀ {kvs : List (Key × V)} {es : List (PyData × PyData)}, DqKV K H kvs es → (kvs.any fun kv => decide (kv.1 = k)) = es.any fun e => decide (keyOf e.1 = some k)
  | _, _, .nil => rfl
  | _, _, .cons (k := k0) h a => by
    rw [List.any_cons, List.any_cons, DqKV.any a]
    show (decide (k0 = k) || _) = (decide (keyOf (keyD k0) = some k) || _)
    rw [keyOf_keyD]
    congr 1
    by_cases z : k0 = k <;> simp [z]
theorem DqKV.app {K : PySem.W.Frag} {H : Hp} {k : Key} {v : V} {d : PyData} (h : Dq K H v d) : ∀ {kvs : List (Key × V)} {es : List (PyData × PyData)}, DqKV K H kvs es → DqKV K H (kvs ++ [(k, v)]) (es ++ [(keyD k, d)])
  | _, _, .nil => .cons h .nil
  | _, _, .cons h0 a => .cons h0 (DqKV.app h a)
theorem DqKV.swap {K : PySem.W.Frag} {H : Hp} {k : Key} {v : V} {d : PyData} (h : Dq K H v d) : ∀ {kvs : List (Key × V)} {es : List (PyData × PyData)}, DqKV K H kvs es → DqKV K H (kvs.map fun kv => if kv.1 = k then (kv.1, v) else kv) (es.map fun e => if keyOf e.1 = some k then (e.1, d) else e)
  | _, _, .nil => .nil
  | _, _, .cons (k := k0) h0 a => by
    rw [List.map_cons, List.map_cons]
    show DqKV K H ((if k0 = k then (k0, v) else _) :: _) ((if keyOf (keyD k0) = some k then (keyD k0, d) else _) :: _)
    rw [keyOf_keyD]
    by_cases z : k0 = k
    · rw [if_pos z, if_pos (by rw [z])]
      exact .cons h (DqKV.swap h a)
    · rw [if_neg z, if_neg (fun w => z (Option.some.inj w))]
      exact .cons h0 (DqKV.swap h a)
theorem DqKV.put {K : PySem.W.Frag} {H : Hp} {kvs : List (Key × V)} {es : List (PyData × PyData)} {k : Key} {v : V} {d : PyData} (a : DqKV K H kvs es) (h : Dq K H v d) : DqKV K H (putK kvs k v) (putD es (keyD k) d) := by
  unfold putK putD
  rw [a.any (k := k), keyOf_keyD]
  split
  · exact a.swap h
  · exact a.app h
def mergeD (es more : List (PyData × PyData)) : List (PyData × PyData) := more.foldl (fun acc e => putD acc e.1 e.2) es
theorem DqKV.merge {K : PySem.W.Frag} {H : Hp} : ∀ {more : List (Key × V)} {ms : List (PyData × PyData)} {kvs : List (Key × V)} {es : List (PyData × PyData)}, DqKV K H more ms → DqKV K H kvs es → DqKV K H (mergeK kvs more) (mergeD es ms)
  | _, _, _, _, .nil, b => b
  | _, _, kvs, es, @DqKV.cons _ _ k v vs d ds h a, b => show DqKV K H (mergeK (putK kvs k v) vs) (mergeD (putD es (keyD k) d) ds) from DqKV.merge a (b.put h)
/-- a list of pairs of a key and a thing -/
inductive PairsD : List PyData → List (PyData × PyData) → Prop where
  | nil : PairsD [] []
  | cons {k v : PyData} {ds : List PyData} {es : List (PyData × PyData)} (hk : (keyOf k).isSome = true) : PairsD ds es → PairsD (.tuple [k, v] :: ds) ((k, v) :: es)
theorem pairs_at {K : PySem.W.Frag} {H : Hp} : ∀ {vs : List V} {ds : List PyData} {es : List (PyData × PyData)}, DqAll K H vs ds → PairsD ds es → ∃ (ps : List Addr) (kvs : List (Key × V)), vs = ps.map V.ref ∧ Paired (fun p kv => SqT K H p [kV kv.1, kv.2]) ps kvs ∧ DqKV K H kvs es
  | _, _, _, .nil, .nil => ⟨[], [], rfl, .nil, .nil⟩
  | _, _, _, .cons h a, .cons hk b => by
    obtain ⟨ps, kvs, e, pp, q⟩ := pairs_at a b
    cases h with
    | @tup ad xs _ hq ha =>
      cases ha with
      | cons h1 ha =>
        cases ha with
        | cons h2 ha =>
          cases ha
          cases h1 with
          | int i => exact ⟨ad :: ps, (.inl i, _) :: kvs, by rw [e]; rfl, .cons hq pp, .cons (k := .inl i) h2 q⟩
          | str s => exact ⟨ad :: ps, (.inr s, _) :: kvs, by rw [e]; rfl, .cons hq pp, .cons (k := .inr s) h2 q⟩
          | non => cases hk
          | bl _ => cases hk
          | lst _ _ => cases hk
          | tup _ _ => cases hk
          | dic _ _ => cases hk
theorem boot_dict : bootBuiltins ("dict" : Str) = some (.type "dict") := by decide +kernel
theorem paired_sub {K : PySem.W.Frag} {H Hs : Hp} (s : ∀ a o, Hs a = some o → H a = some o) {ps : List Addr} {kvs : List (Key × V)} (h : Paired (fun p kv => SqT K Hs p [kV kv.1, kv.2]) ps kvs) : Paired (fun p kv => SqT K H p [kV kv.1, kv.2]) ps kvs := Paired.mapP h fun _ _ => sub_t s
theorem xe_dictP {es' : List (PyData × PyData)} (hc : X.calm = true) (hb : Bi X "dict") (he : Tt (St1 X e [])) (hp : Tt (Pl1 X pos [])) (h : Xp X B Γ e (.list ds)) (k : Side (PairsD ds es')) : Xp X B Γ (.Call (.Name "dict" p') [e] [] pos) (.dict (mergeD [] es')) :=
  xp_ct (call_dictP hc) hb boot_dict (by decide) (by decide +kernel) he.h hp.h (xa_cons he.h h xa_nil) (cb1 fun H Hs u s hx Q q => by
    cases hx with
    | lst hq ha =>
      obtain ⟨ps, kvs, rfl, pp, qk⟩ := pairs_at ha k.h
      exact ⟨_, ps, kvs, rfl, sub_l s hq, paired_sub s pp, fun p n => q _ _ _ ((Gr.refl s).share n) (.dic (.inl upd_same) (DqKV.mono (Ext.new ((Gr.refl s).hsn n)) (DqKV.merge qk .nil)))⟩)
/-- k in a dict -/
def inKeys (k : PyData) (es : List (PyData × PyData)) : Bool := es.any fun e => decide (keyOf e.1 = keyOf k)
theorem xe_inDict {es' : List (PyData × PyData)} (hu : Rm X) (hm : Tt (behindInMarks .In b = false)) (ha : Xp X B Γ a d) (hb : Xp X B Γ b (.dict es')) (hk : Tt ((keyOf d).isSome = true)) : Xp X B Γ (.Compare a [.In] [b] pos) (.bool (inKeys d es')) := by
  have hk' := hk.h
  refine xp_of (pe_cmp (pc_din (by have := hu.h; omega) pe_u pe_u) hm.h) fun H Hs σ E Q q => ha H Hs σ E _ fun v H1 Hs1 g1 p1 => hb H1 Hs1 σ (E.grow g1) _ fun u H2 Hs2 g2 p2 => ?_
  cases p2 with
  | dic hr hd =>
    have fin : ∀ kk : Key, v = kV kk → keyOf d = some kk → ∃ a' o', V.ref _ = V.ref a' ∧ DGet H2 a' v o' ∧ Q (.bl o'.isSome) H2 := fun kk e1 e2 => by
      refine ⟨_, _, rfl, .inl ⟨_, kk, sub_rd g2.sub hr, e1, rfl⟩, ?_⟩
      rw [← valV_any, hd.any (k := kk)]
      have := q (.bl (inKeys d es')) H2 Hs2 (g1.trans g2) (.bl _)
      unfold inKeys at this
      rw [e2] at this
      exact this
    cases p1 with
    | int i => exact fin (.inl i) rfl rfl
    | str s => exact fin (.inr s) rfl rfl
    | non => cases hk'
    | bl _ => cases hk'
    | lst _ _ => cases hk'
    | tup _ _ => cases hk'
    | dic _ _ => cases hk'
end
end Dl
set_option Elab.async false
set_option linter.all false
set_option maxRecDepth 100000
set_option maxHeartbeats 2000000
/-! sorted: any length; by an own def. -/
namespace Dl
open PySem L2 PyProof.Rows
open PySem.W (EachIs AllAlike Sortable dataLe)
section
variable {K : PySem.W.Frag} {H : Hp} {β : Type} {D : V → β → Prop} {enc : β → PyData}
theorem each_vals : ∀ {vs : List V} {bs : List β} {us : List Value}, EachIs D vs bs → Vals vs us → EachIs (fun u b => ∃ x, RelV x u ∧ D x b) us bs
  | _, _, _, .nil, .nil => .nil
  | _, _, _, .cons h t, .cons r rs => .cons ⟨_, r, h⟩ (each_vals t rs)
theorem vals_each : ∀ {bs : List β} {us : List Value}, EachIs (fun u b => ∃ x, RelV x u ∧ D x b) us bs → ∃ vs, Vals vs us ∧ EachIs D vs bs
  | _, _, .nil => ⟨[], .nil, .nil⟩
  | _, _, .cons ⟨x, r, h⟩ t => by
    obtain ⟨vs, a, b⟩ := vals_each t
    exact ⟨x :: vs, .cons r a, .cons h b⟩
theorem EachIs.len {α γ : Type} {R : α → γ → Prop} : ∀ {as : List α} {bs : List γ}, EachIs R as bs → as.length = bs.length
  | _, _, .nil => rfl
  | _, _, .cons _ t => by rw [List.length_cons, List.length_cons, EachIs.len t]
theorem each_imp {α γ : Type} {R S : α → γ → Prop} (h : ∀ a b, R a b → S a b) : ∀ {as : List α} {bs : List γ}, EachIs R as bs → EachIs S as bs
  | _, _, .nil => .nil
  | _, _, .cons r t => .cons (h _ _ r) (each_imp h t)
theorem each_data (enc : β → PyData) : ∀ {vs : List V} {bs : List β}, DqAll K H vs (bs.map enc) → EachIs (fun v b => Dq K H v (enc b)) vs bs
  | _, [], .nil => .nil
  | _, _ :: _, .cons h t => .cons h (each_data enc t)
theorem data_each (enc : β → PyData) : ∀ {vs : List V} {bs : List β}, EachIs (fun v b => Dq K H v (enc b)) vs bs → DqAll K H vs (bs.map enc)
  | _, _, .nil => .nil
  | _, _, .cons h t => .cons h (data_each enc t)
theorem each_with {α γ : Type} {R : α → γ → Prop} {p : γ → Prop} : ∀ {as : List α} {bs : List γ}, EachIs R as bs → (∀ b ∈ bs, p b) → EachIs (fun a b => R a b ∧ p b) as bs
  | _, _, .nil, _ => .nil
  | _, _, .cons h t, k => .cons ⟨h, k _ List.mem_cons_self⟩ (each_with t fun b hb => k b (List.mem_cons_of_mem _ hb))
end
theorem call_sortedE {X : Cx} {β : Type} (enc : β → PyData) (hu : X.A.units + 64 < cLine) : CallR X (.builtin "sorted") (fun xs H Q => ∃ (a : Addr) (vs : List V) (bs : List β) (D : V → β → Prop), xs = [.ref a] ∧ SqL X.K H a vs ∧ EachIs (fun v b => Dp X.K H v (enc b) ∧ D v b) vs bs ∧ AllAlike (bs.map enc) ∧ Sortable (bs.map enc) ∧ (∀ b ∈ bs, (enc b).depth ≤ 60) ∧
    ∀ p ys, EachIs D ys (bs.mergeSort (dataLe false enc)) → H p = none → Q (.ref p) (upd H p (.lst ys))) := by
  intro pins s σ H xs us Q I r h
  obtain ⟨a, vs, bs, D, rfl, hq, e, hal, hk, hd, q⟩ := h
  obtain ⟨its, rv, hl, hz⟩ := I.list hq
  obtain ⟨u, rfl, ru⟩ := vals1 r
  cases (show u = Value.ref a from ru)
  have e1 := each_vals e rv
  have hlen : bs.length ≤ sizeLine := by rw [← EachIs.len e]; exact hz
  refine PySem.W.sorted_data (vs := its) (bs := bs) (enc := enc) (R := fun u b => ∃ x, RelV x u ∧ D x b) hl.isList (each_imp (fun u b ⟨x, h1, _, h2⟩ => ⟨x, h1, h2⟩) e1) (each_imp (fun u b ⟨x, h1, h2, _⟩ => Dp.reads I _ x u h2 h1) e1) hal hk hlen (fun b hb => by have := hd b hb; omega) fun out ho eo => ?_
  obtain ⟨ys, ry, ey⟩ := vals_each eo
  obtain ⟨n, hn⟩ := sortedAll_at s.heap its out.toArray
  refine ⟨.ref (s.heap.objs.size + 1), upd H (s.heap.objs.size + 1) (.lst ys), I.laid (t' := s.toks) (fun b o => sortedAll_old) (Nat.le_succ _) ⟨?_, out, n, ry, hn⟩, rfl, q _ ys ey (I.hok.fresh (Nat.le_succ _))⟩
  rw [ry.length, ho]
  exact hlen
/-! ### sorted(xs, key=f), f an own def that gives ints -/
section
variable {X : Cx} {pins : List (Addr × Obj)} {σ : L2.St} {β : Type}
open PySem.W (KeepsBut dataKind keyH_end SortsAt KeyedOut keyedOut_each sortVals)
/-- while the keys are made: the store of keys at kS, the emptied list at a -/
def KeyAt (X : Cx) (pins : List (Addr × Obj)) (σ : L2.St) (J : Hp → Prop) (kS a : Addr) (e1 : Nat) (kz : List Int) (old : Heap) (i : Nat) (s' : Shared) : Prop :=
  ∃ (H' : Hp) (kA : Array Value) (e : Nat), Inv X pins σ H' s' ∧ J H' ∧ H' kS = none ∧ H' a = none ∧ s'.heap.get? kS = some (seqObj "list" kA e) ∧ s'.heap.get? a = some (seqObj "list" #[] e1) ∧ EachIs (fun v k => ∃ t, v = Value.int k t) kA.toList (kz.take i)
theorem ints_alike {kz : List Int} : AllAlike (kz.map PyData.int) := PySem.W.AllAlike.of fun x y => by simp [PySem.W.alike]
theorem ints_sortable {kz : List Int} : Sortable (kz.map PyData.int) := PySem.W.Sortable.others (fun b => And.intro (fun z => by cases z) (fun xs z => by cases z))
theorem key_call {k : Nat} {f : Addr} {fd : FuncData} {ps : List Str} {sp : Sp} {J : Hp → Prop} {kS a : Addr} {e1 : Nat} {s' : Shared} {x : V} {u : Value} {c : Int} {A2 : Around} {kA : Array Value} {e : Nat} {H' : Hp}
    (F : FnOk X.prog X.w X.K X.mg X.base CX0 k f fd ps sp) (hr : Room k A2) (en : ∀ {pn : List (Addr × Obj)} {H : Hp} {s : Shared}, Inv X pn σ H s → Env0 X.prog X.w X.K X.mg X.base A2 X.stack s H) (hb : Binds X.K fd ps [])
    (I : Inv X pins σ H' s') (j : J H') (f1 : FpOk X pins H' kS) (f2 : FpOk X pins H' a) (g1 : s'.heap.get? kS = some (seqObj "list" kA e)) (g2 : s'.heap.get? a = some (seqObj "list" #[] e1)) (r : RelV x u)
    (turn : sp [x] H' (fun v H2 => v = .int c ∧ J H2) E0) :
    wpAny (model X.prog X.w) A2 (call (.ref f) [u]) (fun w s2 => ∃ (t : Tok) (H2 : Hp), w = .int c t ∧ Inv X pins σ H2 s2 ∧ J H2 ∧ H2 kS = none ∧ H2 a = none ∧ s2.heap.get? kS = some (seqObj "list" kA e) ∧ s2.heap.get? a = some (seqObj "list" #[] e1)) (fun _ _ => False) s' := by
  have I2 : Inv X (pins ++ [(kS, seqObj "list" kA e), (a, seqObj "list" #[] e1)]) σ H' s' := I.pins_of fun p hp => by
    rcases List.mem_append.mp hp with z | z
    · exact I.pin p (List.mem_append_right _ z)
    · rcases List.mem_cons.mp z with rfl | z
      · exact ⟨g1, f1.1, f1.2.1, f1.2.2.1, fun v w => nomatch w⟩
      · rw [List.mem_singleton.mp z]
        exact ⟨g2, f2.1, f2.2.1, f2.2.2.1, fun v w => nomatch w⟩
  have hl : ([u] : List Value).length = ps.length := F.len [x] H' _ _ turn
  have b := hb s' [u] I2.kIn (by rw [List.append_nil]; exact hl)
  rw [List.append_nil] at b
  refine wpAny_call (codeAny_mono (F.run A2 X.stack s' H' ⟨[u], []⟩ [u] [x] _ E0 hr (en I2) b (.cons r .nil) turn) fun w s2 hw => ?_)
  cases w with
  | error w => exact (show False from hw).elim
  | ok fl =>
    cases fl with
    | ret w =>
      obtain ⟨v, H2, I3, rw2, ev, j2⟩ := I2.after hw
      subst ev
      obtain ⟨t, rfl⟩ := rw2
      have p1 := I3.pin (kS, seqObj "list" kA e) (List.mem_append_right _ (List.mem_append_right _ List.mem_cons_self))
      have p2 := I3.pin (a, seqObj "list" #[] e1) (List.mem_append_right _ (List.mem_append_right _ (List.mem_cons_of_mem _ List.mem_cons_self)))
      exact ⟨t, H2, rfl, I3.unpinned, j2, p1.2.1, p2.2.1, p1.1, p2.1⟩
    | next => exact (show False from hw).elim
    | brk => exact (show False from hw).elim
    | cont => exact (show False from hw).elim
theorem each_snoc' {c : Int} {t : Tok} : ∀ {as : List Value} {bs : List Int}, EachIs (fun v k => ∃ t, v = Value.int k t) as bs → EachIs (fun v k => ∃ t, v = Value.int k t) (as ++ [Value.int c t]) (bs ++ [c])
  | _, _, .nil => .cons ⟨t, rfl⟩ .nil
  | _, _, .cons h r => .cons h (each_snoc' r)
theorem each_get {α γ : Type} {R : α → γ → Prop} : ∀ {as : List α} {bs : List γ} {i : Nat} {a : α}, EachIs R as bs → as[i]? = some a → ∃ b, bs[i]? = some b ∧ R a b
  | _, _, _, _, .nil, e => by simp at e
  | _, _, 0, _, .cons h _, e => by
    cases e
    exact ⟨_, rfl, h⟩
  | _, _, i + 1, _, .cons _ r, e => each_get (i := i) r e
/-- the whole: the keys, then the sort -/
theorem key_sort {k : Nat} {f : Addr} {fd : FuncData} {ps : List Str} {sp : Sp} {J : Hp → Prop} {kS a : Addr} {e1 : Nat} {s1 : Shared} {H1 : Hp} {its : List Value} {xs : List V} {bs : List β} {D : V → β → Prop} {kf : β → Int} {A2 : Around} {Q : VK} {E : Value → Shared → Prop}
    (F : FnOk X.prog X.w X.K X.mg X.base CX0 k f fd ps sp) (hr : Room k A2) (en : ∀ {pn : List (Addr × Obj)} {H : Hp} {s : Shared}, Inv X pn σ H s → Env0 X.prog X.w X.K X.mg X.base A2 X.stack s H) (hb : Binds X.K fd ps []) (hu : A2.units < cLine)
    (I : Inv X pins σ H1 s1) (j : J H1) (f1 : FpOk X pins H1 kS) (f2 : FpOk X pins H1 a) (hka : kS ≠ a) (g1 : s1.heap.get? kS = some (seqObj "list" #[] 0)) (g2 : s1.heap.get? a = some (seqObj "list" #[] e1)) (rv : Vals xs its) (ed : EachIs D xs bs) (hZ : its.length ≤ sizeLine)
    (turn : ∀ H' x b, J H' → D x b → b ∈ bs → sp [x] H' (fun v H2 => v = .int (kf b) ∧ J H2) E0)
    (q : ∀ H' ys, J H' → H' a = none → EachIs D ys (bs.mergeSort (dataLe false fun b => .int (kf b))) → Q (.ref a) (upd H' a (.lst ys))) :
    wpAny (model X.prog X.w) A2 (ksk_rest a (.ref f) false its.toArray e1 (.ref kS)) (fun r s' => r = .done (.ret .none) ∧ EP X pins σ Q (.ref a) s') E s1 := by
  have st1 : ∀ H', H' kS = none → FpOk X pins H' kS := fun H' n => ⟨n, f1.2⟩
  have st2 : ∀ H', H' a = none → FpOk X pins H' a := fun H' n => ⟨n, f2.2⟩
  have lb : xs.length = bs.length := EachIs.len ed
  have li : xs.length = its.length := rv.length
  unfold ksk_rest
  refine wpAny_bind (wpAny_rule ?_)
  first
    | rw [List.forIn_toArray]
    | (rw [← Array.forIn_toList]; simp only [List.toList_toArray])
    | rw [← Array.forIn_toList]
  refine wpAny_bind (ksk_fold (KeyAt X pins σ J kS a e1 (bs.map kf) s1.heap) its 0 s1 ⟨H1, #[], 0, I, j, f1.1, f2.1, g1, g2, by rw [List.take_zero]; exact .nil⟩ ?one ?fin)
  case one =>
    rintro i u s' hu' ⟨H', kA, e, I', j', n1, n2, c1, c2, ks⟩
    simp only [Nat.zero_add] at ks ⊢
    have hi : i < its.length := (List.getElem?_eq_some_iff.mp hu').1
    have hx : xs[i]? = some (xs[i]'(by omega)) := List.getElem?_eq_getElem (by omega)
    have rx : RelV (xs[i]'(by omega)) u := by
      obtain ⟨x', hx', r'⟩ := vals_at rv hu'
      rw [hx] at hx'
      cases hx'
      exact r'
    obtain ⟨b, hb', db⟩ := each_get ed hx
    have hc : (bs.map kf)[i]? = some (kf b) := by rw [List.getElem?_map, hb']; rfl
    have lk : kA.size ≤ its.length := by
      have z := EachIs.len ks
      rw [Array.length_toList, List.length_take] at z
      omega
    refine wpAny_bind (wpAny_attempt (wpAny_mono (key_call F hr en hb I' j' (st1 H' n1) (st2 H' n2) c1 c2 rx (turn H' _ b j' db (List.mem_of_getElem? hb'))) (fun w s2 hw => ?_) fun _ _ z => z.elim))
    obtain ⟨t, H2, rfl, I2, j2, m1, m2, d1, d2⟩ := hw
    try dsimp only
    have same := Heap.SameBut.update s2.heap kS (Obj.mapSeq (·.push (Value.int (kf b) t)))
    obtain ⟨c3, hc3⟩ : ∃ c3, (s2.heap.update kS (Obj.mapSeq (·.push (Value.int (kf b) t)))).get? kS = some (seqObj "list" (kA.push (Value.int (kf b) t)) c3) := ⟨_, get?_update_seq d1 (·.push (Value.int (kf b) t))⟩
    refine wpAny_bind (listUpdate_at d1 rfl ?_ (Nat.le_trans lk hZ) (by rw [Array.size_push]; exact Nat.succ_le_succ (Nat.le_trans lk hZ)))
    have I3 := I2.turned (t' := s2.toks) (fun b' o hb2 e' => (same.2 b' hb2).trans e') m1 f1.2.1 f1.2.2.2.1 f1.2.2.2.2.1 f1.2.2.2.2.2
    refine wpAny_pure ⟨rfl, H2, kA.push (Value.int (kf b) t), c3, I3, j2, m1, m2, hc3, (same.2 a hka.symm).trans d2, ?_⟩
    rw [Array.toList_push, List.take_add_one, hc]
    exact each_snoc' ks
  case fin =>
    rintro s' ⟨H', kA, e, I', j', n1, n2, c1, c2, ks⟩
    have ek : (bs.map kf).take (0 + its.length) = bs.map kf := List.take_of_length_le (by rw [List.length_map]; omega)
    rw [ek] at ks
    have rk : EachIs (fun v d => ∃ as, Reads s'.heap v d as) kA.toList ((bs.map kf).map PyData.int) := by
      have go : ∀ {as : List Value} {ns : List Int}, EachIs (fun v k => ∃ t, v = Value.int k t) as ns → EachIs (fun v d => ∃ as, Reads s'.heap v d as) as (ns.map PyData.int) := fun {as ns} z => by
        induction z with
        | nil => exact .nil
        | cons z1 _ ih =>
          obtain ⟨t, rfl⟩ := z1
          exact .cons ⟨[], .int _ _⟩ ih
      exact go ks
    have sz : kA.size = its.length := by
      have z := EachIs.len ks
      rw [Array.length_toList, List.length_map] at z
      omega
    obtain ⟨G, gy, gn⟩ := restrict s'.heap fun b => decide (b ≠ kS)
    have gk : KeepsBut a G s'.heap := fun b o hb2 e2 => by
      by_cases hbk : b = kS
      · rw [hbk, gn kS (decide_eq_false fun z => z rfl)] at e2
        cases e2
      · rw [← gy b (decide_eq_true hbk)]
        exact e2
    refine wpAny_bind (listItems_at c1 rfl ?_)
    refine keyH_end (κ := dataKind s'.heap ((bs.map kf).map PyData.int)) (h₁ := G) gk (gn kS (decide_eq_false fun z => z rfl)) c1 c2 hka (SortsAt.data (s := s') rk ints_alike ints_sortable (fun d hd => ?_)) sz hZ fun h3 tk c3 kp at3 => ⟨rfl, ?_⟩
    · obtain ⟨m, _, rfl⟩ := List.mem_map.mp hd
      simpa [PyData.depth] using hu
    have ko : KeyedOut false (bs.map fun b => PyData.int (kf b)) its (sortVals (dataKind s'.heap ((bs.map kf).map PyData.int)) false kA.toList its) := by
      have em : (bs.map kf).map PyData.int = bs.map fun b => PyData.int (kf b) := by rw [List.map_map]; rfl
      rw [em] at rk ⊢
      exact ⟨s'.heap, kA.toList, PySem.W.AllAlike.of fun x y => by simp [PySem.W.alike], rfl, rk⟩
    obtain ⟨ys, ry, ey⟩ := vals_each (keyedOut_each (fun b => PyData.int (kf b)) ko (each_vals ed rv))
    have len3 : (sortVals (dataKind s'.heap ((bs.map kf).map PyData.int)) false kA.toList its).length = its.length := ko.length (by rw [List.length_map]; omega)
    have stay : ∀ b o, b ≠ kS → b ≠ a → s'.heap.get? b = some o → h3.get? b = some o := fun b o z1 z2 e2 => kp b o z2 (by rw [gy b (decide_eq_true z1)]; exact e2)
    have old : ∀ b u, H' b = some u → b ≠ kS ∧ b ≠ a := fun b u e2 => ⟨fun z => (by rw [z, n1] at e2; cases e2), fun z => (by rw [z, n2] at e2; cases e2)⟩
    refine ⟨.ref a, upd H' a (.lst ys), I'.step (g' := s'.gens) (d' := s'.drawn) (t' := tk) (ch := [kS, a]) (fun b hb2 => ?_) (fun b o _ _ hc2 e2 _ => ?_) (fun b o _ _ hc2 e2 _ => ?_) (fun b o hc2 _ e2 => ?_) (fun b o hc2 e2 => ?_) (fun b zs e2 => ?_) (fun b o u e2 => ?_) (fun b zs e2 => ?_) (fun m hm => ?_) (fun b u e2 => ?_) I'.bare, rfl, q H' ys j' n2 ey⟩
    · rcases List.mem_cons.mp hb2 with rfl | z
      · exact ⟨f1.2.2.2.1, f1.2.1, f1.2.2.2.2.1, f1.2.2.2.2.2⟩
      · rw [List.mem_singleton.mp z]
        exact ⟨f2.2.2.2.1, f2.2.1, f2.2.2.2.2.1, f2.2.2.2.2.2⟩
    · simp only [List.mem_cons, List.not_mem_nil, or_false, not_or] at hc2
      exact stay b o hc2.1 hc2.2 e2
    · simp only [List.mem_cons, List.not_mem_nil, or_false, not_or] at hc2
      exact ⟨o.slots, stay b o hc2.1 hc2.2 e2⟩
    · simp only [List.mem_cons, List.not_mem_nil, or_false, not_or] at hc2
      rw [upd_ne hc2.2]
      exact e2
    · simp only [List.mem_cons, List.not_mem_nil, or_false, not_or] at hc2
      exact ⟨o, stay b o hc2.1 hc2.2 e2⟩
    · rw [upd_ne (old b _ e2).2]
      exact e2
    · rw [upd_ne (old b _ e2).2]
      exact e2
    · exact ⟨#[], by rw [upd_ne (old b _ e2).2, e2]; simp⟩
    · obtain ⟨o, es, ep, ho, rr⟩ := hm
      exact ⟨o, es, ep, stay _ o (Ne.symm f1.2.1) (Ne.symm f2.2.1) ho, rr⟩
    · by_cases hb2 : b = a
      · subst hb2
        rw [upd_same] at e2
        cases e2
        exact ⟨by rw [ry.length, len3]; exact hZ, _, c3, ry, at3⟩
      · rw [upd_ne hb2] at e2
        refine (I'.hok b u e2).stay (fun c w hc2 z => ?_) (fun c z => by rw [upd_ne (old c _ z).2]; exact z) fun c zs z => by rw [upd_ne (old c _ z).2]; exact z
        rcases hc2 with rfl | hc2
        · exact stay _ w (old _ _ e2).1 (old _ _ e2).2 z
        · exact stay _ w (old _ _ hc2).1 (old _ _ hc2).2 z
/-- sorted(xs, key=f) -/
theorem cr_sortedF {k : Nat} {f : Addr} {fd : FuncData} {ps : List Str} {sp : Sp} (F : FnOk X.prog X.w X.K X.mg X.base CX0 k f fd ps sp) (hr : Room (k + 2) X.A) (hb : Binds X.K fd ps []) (hu : X.A.units + 64 < cLine) : CallRK X (.builtin "sorted") [Str.ofString "key"] (fun xs zs H Q => ∃ (l : Addr) (vs : List V) (bs : List β) (D : V → β → Prop) (kf : β → Int) (J : Hp → Prop),
    xs = [.ref l] ∧ zs = [.ref f] ∧ SqL X.K H l vs ∧ EachIs D vs bs ∧ J H ∧ (∀ H' x b, J H' → D x b → b ∈ bs → sp [x] H' (fun v H2 => v = .int (kf b) ∧ J H2) E0) ∧
    ∀ H' p ys, J H' → H' p = none → H p = none → EachIs D ys (bs.mergeSort (dataLe false fun b => .int (kf b))) → Q (.ref p) (upd H' p (.lst ys))) := by
  intro pins s σ H xs zs us ws Q I r rz h
  obtain ⟨l, vs, bs, D, kf, J, rfl, rfl, hq, ed, j, turn, q⟩ := h
  obtain ⟨its, rv, hl, hz⟩ := I.list hq
  obtain ⟨u, rfl, ru⟩ := vals1 r
  cases (show u = Value.ref l from ru)
  obtain ⟨u2, rfl, ru2⟩ := vals1 rz
  cases (show u2 = Value.ref f from ru2)
  have hZ : its.length ≤ sizeLine := by rw [← rv.length]; exact hz
  show wpAny _ _ (call (.builtin "sorted") [.ref l] [(Str.ofString "key", .ref f)]) _ _ _
  refine PySem.W.sorted_of_sort hl.isList hZ (ksk_s1 _ _) (fun x => ksk_l1 _ _) fun E' => ?_
  rw [ksk_t1]
  unfold ksk_tree
  have lt : s.heap.objs.size + 1 < (PySem.W.copyHeap s.heap its).objs.size := Heap.lt_size (PySem.W.copyHeap_at s.heap its)
  have at0 := PySem.W.copyHeap_at s.heap its
  obtain ⟨e1, at1⟩ : ∃ e1, ((PySem.W.copyHeap s.heap its).update (s.heap.objs.size + 1) (Obj.mapSeq fun _ => (#[] : Array Value))).get? (s.heap.objs.size + 1) = some (seqObj "list" #[] e1) := ⟨_, get?_update_seq at0 fun _ => #[]⟩
  refine wpAny_bind (listItems_at at0 rfl ?_)
  refine wpAny_bind (listUpdate_at at0 rfl ?_ (by rw [List.size_toArray]; exact hZ) (Nat.zero_le _))
  refine wpAny_bind (seqEpoch_at at1 rfl ?_)
  refine wpAny_bind (wpAny_newTuple ?_ (by show its.length ≤ _; exact hZ))
  refine wpAny_bind (wpAny_newList ?_ (Nat.zero_le _))
  refine wpAny_holding ?_
  have szk : (((PySem.W.copyHeap s.heap its).update (s.heap.objs.size + 1) (Obj.mapSeq fun _ => (#[] : Array Value))).push (seqObj "tuple" its.toArray 0)).objs.size = (PySem.W.copyHeap s.heap its).objs.size + 1 := by rw [size_push', Heap.size_update]
  have k1 : s.heap.objs.size ≤ (((PySem.W.copyHeap s.heap its).update (s.heap.objs.size + 1) (Obj.mapSeq fun _ => (#[] : Array Value))).push (seqObj "tuple" its.toArray 0)).objs.size := by
    rw [szk]
    omega
  have k2 : (((PySem.W.copyHeap s.heap its).update (s.heap.objs.size + 1) (Obj.mapSeq fun _ => (#[] : Array Value))).push (seqObj "tuple" its.toArray 0)).objs.size ≠ s.heap.objs.size + 1 := by
    rw [szk]
    omega
  have keep : ∀ b o, s.heap.get? b = some o → (PySem.W.sortingHeap (PySem.W.copyHeap s.heap its) (s.heap.objs.size + 1) its).get? b = some o := fun b o e => PySem.W.sorting_copy_old e
  have I1 : Inv X pins σ H { s with heap := PySem.W.sortingHeap (PySem.W.copyHeap s.heap its) (s.heap.objs.size + 1) its } := I.kept (t' := s.toks) keep
  have ok : ∀ b, s.heap.objs.size ≤ b → FpOk X pins H b := fun b hb2 => I.fpOk hb2 (I.hok.fresh hb2)
  have r2 : Room k X.A.in1.in1 := (show Room ((k + 1) + 1) X.A from hr).in1.in1
  refine wpAny_mono (key_sort (kf := kf) (Q := Q) F r2 (fun I => I.env0.in1.in1) hb (show X.A.units + 1 + 1 < cLine by omega) I1 j (ok _ k1) (ok _ (Nat.le_succ _)) k2 (Heap.get?_push_size _ rfl) (Heap.get?_push_of_some _ (Heap.get?_push_of_some _ at1)) rv ed hZ turn fun H' ys j' n' ey => q H' _ ys j' n' (I.hok.fresh (Nat.le_succ _)) ey) (fun r s' hw => hw) fun _ _ z => z
end
section
variable [Tabs]
variable {X : Cx} {B : Bs} {Γ : Gm} {e : Expr} {pos p' : Pos} {β : Type}
theorem boot_sorted : bootBuiltins ("sorted" : Str) = some (.builtin "sorted") := by decide +kernel
theorem xl_sortedE (enc : β → PyData) {bs : List β} (hu : Rm X) (hb : Bi X "sorted") (he : Tt (St1 X e [])) (hp : Tt (Pl1 X pos [])) (h : Xp X B Γ e (.list (bs.map enc))) (pl : ∀ b ∈ bs, (enc b).canLay0 = true) (hal : AllAlike (bs.map enc)) (hk : Sortable (bs.map enc)) (hd : ∀ b ∈ bs, (enc b).depth ≤ 60) :
    Xl X B Γ (.Call (.Name "sorted" p') [e] [] pos) ((bs.mergeSort (dataLe false enc)).map enc) :=
  xl_cb (call_sortedE enc hu.h) hb boot_sorted (by decide) (by decide +kernel) he.h hp.h (xa_cons he.h h xa_nil) fun H Hs xs s a Q q => by
    cases a with
    | cons hx a2 =>
      cases a2
      cases hx with
      | lst hq ha =>
        refine ⟨_, _, bs, fun v b => Dq X.K Hs v (enc b), rfl, sub_l s hq, each_imp (fun v b ⟨h1, h2⟩ => ⟨(dp_sub s h1).plain h2, h1⟩) (each_with (each_data enc ha) pl), hal, hk, hd, fun p ys ey n => q p ys n (data_each enc ey)⟩
/-- a def that is handed to sorted as key -/
structure CeK (X : Cx) (x : Str) (R : List PyData → PyData → Prop) : Prop where
  ex : ∃ (k : Nat) (f : Addr) (fd : FuncData) (ps : List Str), X.mg x = some (.ref f) ∧ FnOk X.prog X.w X.K X.mg X.base CX0 k f fd ps (spR X.K R) ∧ PySem.W.keepIn X.K (.ref f) = true ∧ Binds X.K fd ps [] ∧ Room (k + 2) X.A
  db : (x == ("__debug__" : Str)) = false
theorem cek_of {X : Cx} {k j : Nat} {x : Str} {R : List PyData → PyData → Prop} (D : Dn X.prog X.w X.K X.mg X.base k x R) (hr : Room j X.A) (hk : k + 2 ≤ j) (db : (x == ("__debug__" : Str)) = false) : CeK X x R := by
  obtain ⟨f, fd, ps, h1, h2, h3, h4⟩ := D.ex
  exact ⟨⟨k, f, fd, ps, h1, h2, h3, h4, hr.mono hk⟩, db⟩
theorem xl_sortedF {nm : Str} {R : List PyData → PyData → Prop} (enc : β → PyData) (kf : β → Int) {bs : List β} {pn kpos : Pos} (c : CeK X nm R) (hg : Gl X nm) (hu : Rm X) (hb : Bi X "sorted") (hs : Tt (St1 X e [])) (he : Tt (backTo pos (starEach [e] X.env) = (false, eval e X.env) :: backTo pos (starEach [] X.env))) (hpl : Tt ((backTo pos (starEach [e] X.env)).any (·.1) = false))
    (hall : Tt ((backToKw pos (keywordEach [⟨some (Str.ofString "key"), .Name nm pn, kpos⟩] X.env)).all (·.1.isSome) = true)) (hno : Tt ((backToKw pos (keywordEach [⟨some (Str.ofString "key"), .Name nm pn, kpos⟩] X.env)).any (·.1.isNone) = false)) (hks : Tt ((backToKw pos (keywordEach [⟨some (Str.ofString "key"), .Name nm pn, kpos⟩] X.env)).filterMap (·.1) = [Str.ofString "key"]))
    (h : Xp X B Γ e (.list (bs.map enc))) (hR : ∀ b ∈ bs, R [enc b] (.int (kf b))) :
    Xl X B Γ (.Call (.Name "sorted" p') [e] [⟨some (Str.ofString "key"), .Name nm pn, kpos⟩] pos) ((bs.mergeSort (dataLe false fun b => .int (kf b))).map enc) := by
  obtain ⟨k, f, fd, ps, hm, F, kp, bi, hr'⟩ := c.ex
  refine xl_of (pe_callBK (cr_sortedF (β := β) F hr' bi hu.h) hb.gl hb.no boot_sorted (pa_cons pe_u pa_nil hs.h) (pk_cons (pe_glob hg hm (show RelV (.ref f) (.ref f) from rfl) c.db) pk_nil) (by decide) (by decide) he.h hpl.h hall.h hno.h hks.h) ?_
  intro H Hs σ E Q q
  refine h H Hs σ E _ fun v H1 Hs1 g1 p1 => ?_
  cases p1 with
  | lst hq ha =>
    refine ⟨_, _, bs, fun v b => Dq X.K Hs1 v (enc b), kf, fun H2 => ∃ Hs2, Gr H1 Hs1 H2 Hs2, rfl, rfl, sub_l g1.sub hq, each_data enc ha, ⟨Hs1, Gr.refl g1.sub⟩, fun H2 x b ⟨Hs2, g2⟩ hx hb2 => ?_, fun H2 p ys ⟨Hs2, g2⟩ n2 n1 ey => ?_⟩
    · exact ⟨[enc b], .int (kf b), Hs2, g2.sub, E.tab.mono (g1.exs.trans g2.exs), .cons (hx.mono g2.exs) .nil, hR b hb2, fun v H3 Hs3 g3 p3 => by
        cases p3
        exact ⟨rfl, Hs3, g2.trans g3⟩⟩
    · exact dl_new (g1.trans g2) q n2 ((data_each enc ey).mono g2.exs)
end
end Dl
set_option Elab.async false
set_option linter.all false
set_option maxRecDepth 100000
set_option maxHeartbeats 2000000
/-! More rules for the walk. -/
namespace Dl
open PySem L2 PyProof.Rows
variable [Tabs]
section
variable {X X' : Cx} {B : Bs} {Γ : Gm} {e a b c o : Expr} {es : List Expr} {d d1 d2 d3 : PyData} {ds : List PyData} {P : Out → Prop} {pos p' ap : Pos} {x : Str} {i j k : Nat} {p q r : Bool} {m n : Int} {y z : Str} {scope sc2 : Scope}
inductive SlD2 : PyData → Option Int → Option Int → PyData → Prop where
  | lst {ds : List PyData} {l h : Option Int} : SlD2 (.list ds) l h (.list (cutD ds l h))
  | str {y : Str} {l h : Option Int} (hz : Side (y.length ≤ sizeLine)) : SlD2 (.str y) l h (.str (cutS y l h))
  | tup {ds : List PyData} {l h : Option Int} : SlD2 (.tuple ds) l h (.tuple (cutD ds l h))
theorem xe_sl2 {lo hi : Option Expr} {l h : Option Int} {p2 : Pos} (he : Xp X B Γ e d1) (hl : Xo X B Γ lo l) (hh : Xo X B Γ hi h) (k : SlD2 d1 l h d) : Xp X B Γ (.Subscript e (.Slice lo hi none p2) pos) d := by
  cases k with
  | lst => exact xp_l (xl_sl he hl hh)
  | str hz => exact xp_slS he hz.h hl hh
  | tup => exact xe_slT he hl hh
theorem xe_list (hb : Bi X "list") (he : Tt (St1 X e [])) (hp : Tt (Pl1 X pos [])) (h : Xp X B Γ e d) (k : SeqD d ds) : Xp X B Γ (.Call (.Name "list" p') [e] [] pos) (.list ds) := xp_l (xl_list hb he hp h k)
theorem xte_bool (he : Tt (∀ whole, isTrue e X.env whole = (do let v ← whole; standAt e.pos; holding [v] (truthy v)))) (h : Xp X B Γ e (.bool p)) : Xt X B Γ e p := xt_val he.h h
theorem xte_inDict {es' : List (PyData × PyData)} (hu : Rm X) (hm : Tt (behindInMarks .In b = false)) (ha : Xp X B Γ a d) (hb : Xp X B Γ b (.dict es')) (hk : Tt ((keyOf d).isSome = true)) : Xt X B Γ (.Compare a [.In] [b] pos) (inKeys d es') := by
  have hk' := hk.h
  refine xt_of (pt_cmp (pc_din (by have := hu.h; omega) pe_u pe_u) hm.h) (dt_B ?_)
  intro H Hs σ E Q q
  refine ha H Hs σ E _ fun v H1 Hs1 g1 p1 => hb H1 Hs1 σ (E.grow g1) _ fun u H2 Hs2 g2 p2 => ?_
  cases p2 with
  | dic hr hd =>
    have fin : ∀ kk : Key, v = kV kk → keyOf d = some kk → ∃ a' o', V.ref _ = V.ref a' ∧ DGet H2 a' v o' ∧ Q (.bl o'.isSome) H2 := fun kk e1 e2 => by
      refine ⟨_, _, rfl, .inl ⟨_, kk, sub_rd g2.sub hr, e1, rfl⟩, ?_⟩
      rw [← valV_any, hd.any (k := kk)]
      have := q (.bl (inKeys d es')) H2 Hs2 (g1.trans g2) (.bl _)
      unfold inKeys at this
      rw [e2] at this
      exact this
    cases p1 with
    | int i => exact fin (.inl i) rfl rfl
    | str s => exact fin (.inr s) rfl rfl
    | non => cases hk'
    | bl _ => cases hk'
    | lst _ _ => cases hk'
    | tup _ _ => cases hk'
    | dic _ _ => cases hk'
/-- a block's own blocks -/
theorem Bk.blk {own : List (Str × Nat)} (b : Bk X sc2 j X') (h : BlkOk X.N sc2 scope own) : BlkOk X'.N X'.env.scope scope own := by
  refine ⟨h.kind, h.uniq, by rw [b.N]; exact h.ix, fun y hy e => ?_, by rw [b.N]; exact h.own⟩
  rcases h.free y hy e with z | z
  · obtain ⟨k', h1, rfl | ⟨h2, _⟩⟩ := b.sc _ _ z
    · exact .inl h1
    · cases h2
  · obtain ⟨k', h1, rfl | ⟨_, rfl⟩⟩ := b.sc _ _ z
    · exact .inr h1
    · exact .inl h1
theorem Bk.gs {own : List (Str × Nat)} (b : Bk X sc2 j X') (h : GScp X.N sc2 scope own) : GScp X'.N X'.env.scope scope own := by
  refine ⟨h.kind, h.co, h.cell, h.dot, fun y hy e => ?_, by rw [b.N]; exact h.loc⟩
  rcases h.free y hy e with z | z
  · obtain ⟨k', h1, rfl | ⟨h2, _⟩⟩ := b.sc _ _ z
    · exact .inl h1
    · cases h2
  · obtain ⟨k', h1, rfl | ⟨_, rfl⟩⟩ := b.sc _ _ z
    · exact .inr h1
    · exact .inl h1
theorem Bk.nd (b : Bk X scope j X') (h : X.N.Nodup) : X'.N.Nodup := by rw [b.N]; exact h
/-- a list comprehension, its block by what a block is -/
theorem xl_lcB {elt tg iter : Expr} {ifs : List Expr} {own : List (Str × Nat)} {js : List Nat} (pr : PyData → Bool) (ev : PyData → PyData) (G2 : PyData → Gm) (hr : Room j X.A) (hc : Tt (X.calm = true)) (hN : X.N.Nodup) (ok : BlkOk X.N X.env.scope scope own) (hs : Tt (∀ x, foldedSetIterable iter X.env x = pure x))
    (hi : Xi X B Γ tg iter ds) (hz : Side (ds.length ≤ 1000000)) (hv : Tt ((js.all fun j => decide (j ∈ own.map (·.2))) = true))
    (hb : ∀ X', Bk X scope j X' → ∀ B' d, d ∈ ds → Xg X' tg js d (wipeG Γ (own.map (·.2))) (G2 d) ∧ Xq X' B' (G2 d) ifs (pr d) ∧ (pr d = true → Xp X' B' (G2 d) elt (ev d))) : Xl X B Γ (.ListComp elt [⟨tg, iter, ifs, 0⟩] scope pos) ((ds.filter pr).map ev) :=
  xl_lc pr ev G2 hc.h hN ok hs.h hi hz.h (fun j hj => of_decide_eq_true (List.all_eq_true.mp hv.h j hj)) fun X' hX => hb X' (bk_of hX hr)
/-- .. nested -/
theorem xl_lcN {X0 : Cx} {elt tg iter : Expr} {ifs : List Expr} {own : List (Str × Nat)} {js : List Nat} (b0 : Bk X0 sc2 j X) (pr : PyData → Bool) (ev : PyData → PyData) (G2 : PyData → Gm) (hc : Tt (X.calm = true)) (hN : X0.N.Nodup) (ok : BlkOk X0.N sc2 scope own) (hs : Tt (∀ x, foldedSetIterable iter X.env x = pure x))
    (hi : Xi X B Γ tg iter ds) (hz : Side (ds.length ≤ 1000000)) (hv : Tt ((js.all fun j => decide (j ∈ own.map (·.2))) = true))
    (hb : ∀ X', Bk X0 scope j X' → ∀ B' d, d ∈ ds → Xg X' tg js d (wipeG Γ (own.map (·.2))) (G2 d) ∧ Xq X' B' (G2 d) ifs (pr d) ∧ (pr d = true → Xp X' B' (G2 d) elt (ev d))) : Xl X B Γ (.ListComp elt [⟨tg, iter, ifs, 0⟩] scope pos) ((ds.filter pr).map ev) :=
  xl_lc pr ev G2 hc.h (b0.nd hN) (b0.blk ok) hs.h hi hz.h (fun j hj => of_decide_eq_true (List.all_eq_true.mp hv.h j hj)) fun X' hX => hb X' (bk_in b0 hX)
/-- y = [..] -/
theorem xs_setB {elt tg iter : Expr} {ifs : List Expr} {own : List (Str × Nat)} {js : List Nat} {py spos : Pos} {Γ' : Gm} (sl : Bool) (pr : PyData → Bool) (ev : PyData → PyData) (G2 : PyData → Gm) (hr : Room j X.A) (k : Lk X i x) (hyl : Tt (X.env.scope.names.lookup x = some .local)) (hc : Tt (X.calm = true)) (ok : BlkOk X.N X.env.scope scope own)
    (hsw : Tt (swapsWith (.ListComp elt [⟨tg, iter, ifs, 0⟩] scope pos) (some (.Name x py)) spos.line X.env = pure true)) (hs : Tt (∀ x, foldedSetIterable iter X.env x = pure x))
    (hi : Xi X B Γ tg iter ds) (hz : Side (ds.length ≤ 1000000)) (hv : Tt ((js.all fun j => decide (j ∈ own.map (·.2))) = true))
    (hb : ∀ X', Bk X scope j X' → ∀ B' d, d ∈ ds → Xg X' tg js d (wipeG Γ (own.map (·.2))) (G2 d) ∧ Xq X' B' (G2 d) ifs (pr d) ∧ (pr d = true → Xp X' B' (G2 d) elt (ev d)))
    (hΓ : Sg (Γ.set i (if sl then .ow ((ds.filter pr).map ev) else .sh (.list ((ds.filter pr).map ev)))) Γ') (hP : P (.nx Γ')) : Xs X B Γ (.Assign [.Name x py] (.ListComp elt [⟨tg, iter, ifs, 0⟩] scope pos) spos) P :=
  xs_setLc sl pr ev G2 k hyl.h hc.h ok hsw.h hs.h hi hz.h (fun j hj => of_decide_eq_true (List.all_eq_true.mp hv.h j hj)) (fun X' hX => hb X' (bk_of hX hr)) (by rw [hΓ.h]; exact hP)
/-- all, any over a generator, its frame by what a block is -/
theorem xe_allB {c T : Addr} {elt tg iter : Expr} {own : List (Str × Nat)} {js : List Nat} {qq pos gpos : Pos} (p : PyData → Bool) (G2 : PyData → Gm) (ev : PyData → PyData) (hr : Room k X.A) (hj : j + 1 ≤ k) (G : Gx X c T) (hb : Bi X "all") (S : GScp X.N X.env.scope scope own) (hs : Tt (∀ v, genFold iter X.env v = pure v))
    (he : Tt (St1 X (.GeneratorExp elt [⟨tg, iter, [], 0⟩] scope gpos) [])) (hi : Xi X B Γ tg iter ds) (hv : Tt ((js.all fun j => decide (j ∈ own.map (·.2))) = true))
    (hel : ∀ X', Bk X scope j X' → ∀ d, d ∈ ds → Xg X' tg js d (wipeG Γ (own.map (·.2))) (G2 d) ∧ Xp X' B (G2 d) elt (ev d)) (ht : ∀ d, d ∈ ds → truS (ev d) = some (p d)) :
    Xp X B Γ (.Call (.Name "all" qq) [.GeneratorExp elt [⟨tg, iter, [], 0⟩] scope gpos] [] pos) (.bool (ds.all p)) :=
  xe_allF hr hj hb G S hs.h he.h p G2 ev hi (fun j hj => of_decide_eq_true (List.all_eq_true.mp hv.h j hj)) (fun X' hX => hel X' (bk_gen hX S)) ht
theorem xe_anyB {c T : Addr} {elt tg iter : Expr} {own : List (Str × Nat)} {js : List Nat} {qq pos gpos : Pos} (p : PyData → Bool) (G2 : PyData → Gm) (ev : PyData → PyData) (hr : Room k X.A) (hj : j + 1 ≤ k) (G : Gx X c T) (hb : Bi X "any") (S : GScp X.N X.env.scope scope own) (hs : Tt (∀ v, genFold iter X.env v = pure v))
    (he : Tt (St1 X (.GeneratorExp elt [⟨tg, iter, [], 0⟩] scope gpos) [])) (hi : Xi X B Γ tg iter ds) (hv : Tt ((js.all fun j => decide (j ∈ own.map (·.2))) = true))
    (hel : ∀ X', Bk X scope j X' → ∀ d, d ∈ ds → Xg X' tg js d (wipeG Γ (own.map (·.2))) (G2 d) ∧ Xp X' B (G2 d) elt (ev d)) (ht : ∀ d, d ∈ ds → truS (ev d) = some (p d)) :
    Xp X B Γ (.Call (.Name "any" qq) [.GeneratorExp elt [⟨tg, iter, [], 0⟩] scope gpos] [] pos) (.bool (ds.any p)) :=
  xe_anyF hr hj hb G S hs.h he.h p G2 ev hi (fun j hj => of_decide_eq_true (List.all_eq_true.mp hv.h j hj)) (fun X' hX => hel X' (bk_gen hX S)) ht
/-- a statement that is an expression -/
theorem xs_drop (hs : Tt (swapsWith e none pos.line X.env = pure false)) (h : Xp X B Γ e d) (hP : P (.nx Γ)) : Xs X B Γ (.Expr e pos) P := xs_of (ps_expr pe_u hs.h) (ds_drop h hP)
/-- an expression that always raises: nothing comes behind it -/
def Xz (X : Cx) (B : Bs) (Γ : Gm) (e : Expr) : Prop := ∀ H Hs σ, Enb X.K B H Hs σ Γ → ∀ Q : VK, uE X e σ H Q
theorem xz_call {R : List PyData → Rs → Prop} {nm : Str} (c : CeX X x R) (ax : AX X B Γ nm) (hg : Gl X x) (he : Tt (St1 X e es)) (hp : Tt (Pl1 X pos es)) (ha : Xa X B Γ (e :: es) ds) (hr : CalX R ds (.er nm)) : Xz X B Γ (.Call (.Name x p') (e :: es) [] pos) := by
  obtain ⟨k, f, fd, ps, hm, F, kp, bi, hr'⟩ := c.ex
  obtain ⟨W, D, hD, tk, hW⟩ := ax.ex
  exact fun H Hs σ E Q => ⟨_, pe_callS F hr' hg hm kp bi (passAt tk) pa_u c.db he.h hp.h, ha H Hs σ E _ fun vs H1 Hs1 g1 p1 =>
    ⟨ds, .er nm, Hs1, g1.sub, E.tab.mono g1.exs, p1, hr.h, ⟨fun d' e => (nomatch e), fun nm' e => by
      cases e
      exact ⟨D, hD, fun H2 Hs2 g2 => hW σ H2 Hs2 (E.grow (g1.trans g2))⟩⟩⟩⟩
theorem xs_dropZ (hs : Tt (swapsWith e none pos.line X.env = pure false)) (h : Xz X B Γ e) : Xs X B Γ (.Expr e pos) P := xs_of (ps_expr pe_u hs.h) fun D H Hs σ E q => h H Hs σ E _
theorem xs_setZ {p2 : Pos} (k : Lk X i x) (hs : Tt (swapsWith e (some (.Name x p2)) pos.line X.env = pure false)) (h : Xz X B Γ e) : Xs X B Γ (.Assign [.Name x p2] e pos) P := xs_of (ps_set k.nd k.ix k.loc pe_u hs.h k.fn) fun D H Hs σ E q => h H Hs σ E _
theorem xs_retZ (h : Xz X B Γ e) : Xs X B Γ (.Return (some e) pos) P := xs_of (ps_ret pe_u) fun D H Hs σ E q => h H Hs σ E _
/-- what the class under nm is among the others -/
structure ExF (K : PySem.W.Frag) (mg : Str → Option Value) (nm : Str) (no : List Str) (D Fa : Addr) : Prop where
  mgD : mg nm = some (.ref D)
  mgF : mg "FaultError" = some (.ref Fa)
  cat : PySem.W.exmOne K (.ref D) (.ref Fa) = some true
  exc : ExcC K D
  self : PySem.W.kitOne K (.ref D) (.ref D) = some true
  val : PySem.W.kitOne K (.ref D) (.type "ValueError") = some true
  no : ∀ y ∈ no, ∃ C, mg y = some (.ref C) ∧ PySem.W.kitOne K (.ref D) (.ref C) = some false
theorem boot_VE : bootBuiltins ("ValueError" : Str) = some (.type "ValueError") := by decide +kernel
theorem isc_no {nm : Str} {no : List Str} {D Fa : Addr} (h : ExF X.K X.mg nm no D Fa) (g : Gl X y) (hy : y ∈ no) (db : (y == ("__debug__" : Str)) = false) : IsC X D y false := ⟨g, db, .inl (h.no y hy)⟩
theorem isc_self {nm : Str} {no : List Str} {D Fa : Addr} (h : ExF X.K X.mg nm no D Fa) (g : Gl X nm) (db : (nm == ("__debug__" : Str)) = false) : IsC X D nm true := ⟨g, db, .inl ⟨D, h.mgD, h.self⟩⟩
theorem isc_val {nm : Str} {no : List Str} {D Fa : Addr} (h : ExF X.K X.mg nm no D Fa) (g : Bi X "ValueError") : IsC X D "ValueError" true := ⟨g.gl, by decide +kernel, .inr ⟨"ValueError", g.no, boot_VE, by decide +kernel, h.val⟩⟩
/-- a def with a generator expression that may raise -/
theorem fn_okGX {P : Program} {w : World} {K : PySem.W.Frag} {mg : Str → Option Value} {base : Heap} {x qual : Str} {st : Stmt} {f : Addr} {fd : FuncData} {cdv : Value} {N ps : List Str} {k : Nat} {R : List PyData → Rs → Prop} (F : FunC K x qual st f fd cdv) (S : FnScope N ps (defScope st)) (len : ∀ ds r, R ds r → ds.length = ps.length)
    (body : ∀ (A : Around) (outer : List Env) (s : Shared) (H : Hp) (E : XK) (B : Bs) (ds : List PyData) (r : Rs), Room k (Xc P w K mg base N qual st f cdv A outer s H E).A → R ds r → (∀ nm, r = .er nm → ∀ Γ B', B'.H0 = B.H0 → B'.Hs0 = B.Hs0 → AX (Xe P w K mg base N qual st f cdv A outer s H E) B' Γ nm) →
      Xb (Xe P w K mg base N qual st f cdv A outer s H E) B (startG N ds) (defBody st) (RetX r)) : FnOk P w K mg base (L2.CX P w) (k + 1) f fd ps (spX K mg R) := by
  obtain ⟨oc, od, kV, doc, pm, an, ct, osl, rfl, l, c⟩ := F.ex
  refine fn_of l c S (fun vs H Q E h => ?_) fun A outer s H vs Q E hr h => ?_
  · obtain ⟨ds, r, Hs, _, _, a, hR, _⟩ := h
    rw [a.length]
    exact len ds r hR
  · obtain ⟨ds, r, Hs, hsub, htb, a, hR, q, qe⟩ := h
    refine ⟨_, pb_u (X := Xe P w K mg base N qual st f cdv A outer s H E), body A outer s H E ⟨H, Hs, Hs⟩ ds r hr hR (fun nm e Γ B' e1 e2 => ?_) _ H Hs (L2.start N vs) (en_start hsub htb a) fun o ho => ?_⟩
    · obtain ⟨D, hD, hE⟩ := qe nm e
      refine ⟨_, D, hD, takes_of rfl rfl rfl rfl, fun σ' H' Hs' E' => hE H' Hs' ?_⟩
      have g := E'.gr
      rw [e1, e2] at g
      exact g
    · cases r with
      | ok d =>
        rcases ho with rfl | ⟨rfl, Γ, rfl⟩
        · exact fun v H' Hs' g p => q d rfl v H' Hs' g p
        · exact fun H' Hs' σ' E' => q .none rfl .non H' Hs' E'.gr .non
      | er nm => exact ho.elim
/-- a flat answer from a call to which a list of one's own is lent -/
theorem xp_loan (hi : Tt (Γ[i]? = some (.ow ds))) (h : Xp X B (Γ.set i (.sh (.list ds))) e d) (hf : Tt (flatD d = true)) : Xp X B Γ e d := fun H Hs σ E Q q => by
  obtain ⟨Hs', g, x, E'⟩ := E.free hi.h
  refine h H Hs' σ E' Q fun v H2 Hs2 g2 p2 => ?_
  obtain ⟨Hs3, g3⟩ := gr_cut x g2
  refine q v H2 Hs3 g3 ?_
  have hf' := hf.h
  cases p2 with
  | non => exact .non
  | bl b => exact .bl b
  | int i => exact .int i
  | str s => exact .str s
  | lst _ _ => cases hf'
  | tup _ _ => cases hf'
  | dic _ _ => cases hf'
end
end Dl
set_option Elab.async false
set_option linter.all false
set_option maxRecDepth 100000
set_option maxHeartbeats 2000000
namespace Sm
open PySem L2 Dl PySem.NumText TL
theorem par_none : ∀ (l acc : List Nat), 47 ∉ l → par [47] acc l = none := fun l => by
  induction l with
  | nil => intro acc _; rfl
  | cons c r ih =>
    intro acc h
    unfold par
    rw [if_neg]
    · exact ih _ fun z => h (List.mem_cons_of_mem _ z)
    · intro z
      have : c = 47 := by
        simp only [pre] at z
        simpa using z.symm
      exact h (by rw [this]; exact List.mem_cons_self)
theorem foldl_glue (g : Array Nat) : ∀ (l : List Str) (i x : Array Nat), l.foldl (fun acc (p : Str) => acc ++ g ++ p.cps) (i ++ x) = i ++ l.foldl (fun acc (p : Str) => acc ++ g ++ p.cps) x := fun l => by
  induction l with
  | nil => intro i x; rfl
  | cons c r ih =>
    intro i x
    rw [List.foldl_cons, List.foldl_cons, ← ih]
    simp only [Array.append_assoc]
theorem join_one (s a : Str) : Txt.join s [a] = a := rfl
theorem join_cons (s a b : Str) (r : List Str) : Txt.join s (a :: b :: r) = a ++ s ++ Txt.join s (b :: r) := by
  show (⟨(b :: r).foldl (fun acc (p : Str) => acc ++ s.cps ++ p.cps) a.cps⟩ : Str) = ⟨a.cps ++ s.cps ++ r.foldl (fun acc (p : Str) => acc ++ s.cps ++ p.cps) b.cps⟩
  rw [List.foldl_cons, foldl_glue]
theorem join_two (s : Str) : ∀ l : List Str, l ≠ [] → Txt.join s l = Str.join s l := fun l => by
  induction l with
  | nil => intro h; exact absurd rfl h
  | cons a t ih =>
    intro _
    cases t with
    | nil => rfl
    | cons b r =>
      rw [join_cons, ih (by simp)]
      rfl
theorem join_len (s : Str) : ∀ (r : List Str) (b : Str), (Txt.join s (b :: r)).length = ((b :: r).map (fun x => x.length)).sum + r.length * s.length := fun r => by
  induction r with
  | nil => intro b; simp [join_one]
  | cons c r ih =>
    intro b
    rw [join_cons, Str.length_append, Str.length_append, ih c]
    simp only [List.map_cons, List.sum_cons, List.length_cons, Nat.add_mul, Nat.one_mul]
    omega
theorem slash_one : Str.ofString "/" = ⟨#[47]⟩ := str_eq (show (Str.ofString "/").cps.toList = [47] by decide +kernel)
theorem split_cases (y : Str) : (Txt.split y (Str.ofString "/") = [y] ∧ Part y (Str.ofString "/") y (Str.ofString "") (Str.ofString "")) ∨
    ∃ a b r, Txt.split y (Str.ofString "/") = a :: b :: r ∧ y = a ++ Str.ofString "/" ++ Txt.join (Str.ofString "/") (b :: r) ∧ Part y (Str.ofString "/") a (Str.ofString "/") (Txt.join (Str.ofString "/") (b :: r)) := by
  have hj : Txt.join (Str.ofString "/") (Txt.split y (Str.ofString "/")) = y := (join_two _ _ (fun z => by have := PyProof.Rows.split_pos y (Str.ofString "/"); rw [z] at this; exact absurd this (by decide))).trans (StrLaws.join_split y (Str.ofString "/"))
  have hf := fun p hp => StrLaws.split_free y 47 p (by rw [← slash_one]; exact hp)
  have hp := PyProof.Rows.split_pos y (Str.ofString "/")
  cases hs : Txt.split y (Str.ofString "/") with
  | nil => rw [hs] at hp; exact absurd hp (by decide)
  | cons a t =>
    cases t with
    | nil =>
      rw [hs] at hj hf
      have ea : a = y := by
        have : Txt.join (Str.ofString "/") [a] = a := by
          exact join_one _ _
        exact this.symm.trans hj
      subst ea
      refine .inl ⟨rfl, ⟨?_⟩⟩
      rw [partition_par a "/" (by rw [slash_signs]; simp), slash_signs, par_none _ _ (hf a List.mem_cons_self)]
      rfl
    | cons b r =>
      rw [hs] at hj hf
      refine .inr ⟨a, b, r, rfl, ?_⟩
      have e : Txt.join (Str.ofString "/") (a :: b :: r) = a ++ Str.ofString "/" ++ Txt.join (Str.ofString "/") (b :: r) := by
        exact join_cons _ _ _ _
      have hj' : a ++ Str.ofString "/" ++ Txt.join (Str.ofString "/") (b :: r) = y := e.symm.trans hj
      refine ⟨hj'.symm, ⟨?_⟩⟩
      rw [← hj']
      exact partition_app slash_signs (hf a List.mem_cons_self)
theorem part_len2 (y z : Str) (hz : tl z ≠ []) : (Txt.partition y z).1.length ≤ y.length ∧ (Txt.partition y z).2.2.length ≤ y.length := by
  have g : ∀ (S l acc a b : List Nat), par S acc l = some (a, b) → a.length + b.length ≤ acc.length + l.length := fun S l => by
    induction l with
    | nil => intro acc a b h; cases h
    | cons c r ih =>
      intro acc a b h
      unfold par at h
      split at h
      · cases h
        rw [List.length_drop]
        omega
      · have := ih _ _ _ h
        rw [List.length_append, List.length_singleton] at this
        rw [List.length_cons]
        omega
  rw [partition_par y z hz]
  cases h : par (tl z) [] (tl y) with
  | none => exact ⟨Nat.le_refl _, Nat.zero_le _⟩
  | some z =>
    obtain ⟨a, b⟩ := z
    have := g _ _ _ _ _ h
    rw [List.length_nil, Nat.zero_add] at this
    have e1 : (⟨a.toArray⟩ : Str).length = a.length := by rw [len_tl]
    have e2 : (⟨b.toArray⟩ : Str).length = b.length := by rw [len_tl]
    show (⟨a.toArray⟩ : Str).length ≤ _ ∧ (⟨b.toArray⟩ : Str).length ≤ _
    rw [e1, e2, len_tl]
    exact ⟨by omega, by omega⟩
end Sm
set_option Elab.async false
set_option linter.all false
set_option maxRecDepth 100000
set_option maxHeartbeats 2000000
/-! words of a row: the machine and the split -/
namespace Sm
open PySem L2 Dl PySem.NumText TL
def tillS (m : Nat) : List Nat → List Nat
  | [] => []
  | c :: r => if c = m then [] else c :: tillS m r
theorem pre_one (m c : Nat) (r : List Nat) : pre [m] (c :: r) = decide (c = m) := by
  unfold pre
  by_cases h : c = m
  · subst h; simp
  · simp [h]
theorem par_till (m : Nat) : ∀ (l acc : List Nat), (match par [m] acc l with | some (a, _) => a | none => acc ++ l) = acc ++ tillS m l := fun l => by
  induction l with
  | nil => intro acc; simp [par, tillS]
  | cons c r ih =>
    intro acc
    unfold par tillS
    rw [pre_one]
    by_cases h : c = m
    · rw [decide_eq_true h, if_pos rfl, if_pos h]; simp
    · rw [decide_eq_false h, if_neg Bool.false_ne_true, if_neg h]
      have e := ih (acc ++ [c])
      cases hp : par [m] (acc ++ [c]) r with
      | none => simp
                rw [hp] at e
                simpa using e
      | some z =>
        obtain ⟨a, b⟩ := z
        rw [hp] at e
        simpa using e
theorem part_till (y z : Str) (m : Nat) (hz : tl z = [m]) : tl (Txt.partition y z).1 = tillS m (tl y) := by
  rw [partition_par y z (by rw [hz]; simp), hz]
  have e := par_till m (tl y) []
  cases hp : par [m] [] (tl y) with
  | none => rw [hp] at e; simpa using e
  | some z =>
    obtain ⟨a, b⟩ := z
    rw [hp] at e
    simpa using e
/-- the words, blank by blank -/
def wl (acc : List Nat) : List Nat → List (List Nat)
  | [] => if acc = [] then [] else [acc]
  | c :: r => if c = 32 then (if acc = [] then [] else [acc]) ++ wl [] r else wl (acc ++ [c]) r
theorem spl_wl : ∀ (l acc : List Nat), (spl [32] 0 acc l).filter (fun z => !z.isEmpty) = wl acc l := fun l => by
  induction l with
  | nil =>
    intro acc
    rw [spl_nil]
    unfold wl
    cases acc <;> rfl
  | cons c r ih =>
    intro acc
    unfold wl
    by_cases h : c = 32
    · rw [spl_hit (by rw [pre_one, decide_eq_true h]), if_pos h, List.filter_cons]
      rw [show ([32] : List Nat).length - 1 = 0 from rfl, ih]
      cases acc <;> rfl
    · rw [spl_miss (by rw [pre_one, decide_eq_false h]), if_neg h, ih]
theorem split_wl (s z : Str) (hz : tl z = [32]) : ((Txt.split s z).filter (fun w => (w.length : Int) != 0)).map tl = wl [] (tl s) := by
  rw [← spl_wl, ← hz, ← split_spl s z (by rw [hz]; simp) (kind_ok (by
    rw [show z = ⟨#[32]⟩ from ext_tl hz]; decide +kernel)), List.filter_map]
  congr 1
  refine List.filter_congr fun w _ => ?_
  show ((w.length : Int) != 0) = !(tl w).isEmpty
  rw [len_tl]
  cases tl w with
  | nil => rfl
  | cons a b =>
    simp only [List.length_cons, List.isEmpty_cons, Bool.not_false]
    exact bne_iff_ne.mpr (by omega)
end Sm
set_option Elab.async false
set_option linter.all false
set_option maxRecDepth 100000
set_option maxHeartbeats 2000000
/-! Sets of parts as numbers: mathematics. -/
namespace Sm
open PySem
/-! ### bits -/
theorem andN (a b : Nat) : Builtin.bitAnd (a : Int) (b : Int) = ((a &&& b : Nat) : Int) := W.os_band a b
theorem notN (a : Nat) : Builtin.bitNot (a : Int) = -(a : Int) - 1 := rfl
theorem notNot (x : Int) : Builtin.bitNot (Builtin.bitNot x) = x := by
  show -(-x - 1) - 1 = x
  omega
theorem negOf (a : Nat) : (0 ≤ -(a : Int) - 1) = False := by
  refine eq_false ?_
  omega
theorem bitAnd_nn (x y : Int) (hx : ¬ 0 ≤ x) (hy : ¬ 0 ≤ y) : Builtin.bitAnd x y = Builtin.bitNot (((Builtin.bitNot x).toNat ||| (Builtin.bitNot y).toNat : Nat) : Int) := by
  unfold Builtin.bitAnd
  simp [hx, hy]
theorem orN (a b : Nat) : Builtin.bitOr (a : Int) (b : Int) = ((a ||| b : Nat) : Int) := by
  show Builtin.bitNot (Builtin.bitAnd (Builtin.bitNot a) (Builtin.bitNot b)) = _
  rw [bitAnd_nn _ _ (by rw [notN]; omega) (by rw [notN]; omega), notNot, notNot, notNot]
  rfl
/-- whether part i is in b -/
theorem shrN (b i : Nat) : (b : Int) / 2 ^ i = ((b / 2 ^ i : Nat) : Int) := by
  rw [Int.natCast_ediv]
  norm_cast
theorem bitAt (b i : Nat) : Builtin.bitAnd ((b : Int) / 2 ^ i) 1 = if b.testBit i then 1 else 0 := by
  rw [shrN, show (1 : Int) = ((1 : Nat) : Int) from rfl, andN, Nat.and_one_is_mod, Nat.testBit_eq_decide_div_mod_eq]
  by_cases h : b / 2 ^ i % 2 = 1
  · simp [h]
  · have : b / 2 ^ i % 2 = 0 := by omega
    simp [this]
theorem xorAt {b i : Nat} (h : b.testBit i = true) : Builtin.bitXor (b : Int) (2 ^ i) = ((b - 2 ^ i : Nat) : Int) ∧ 2 ^ i ≤ b := by
  have hb : b &&& 2 ^ i = 2 ^ i := Nat.eq_of_testBit_eq fun j => by
    rw [Nat.testBit_and, Nat.testBit_two_pow]
    by_cases e : i = j
    · subst e
      rw [h]; simp
    · simp [e]
  have hl : 2 ^ i ≤ b := by
    have := Nat.and_le_left (n := b) (m := 2 ^ i)
    rw [hb] at this
    exact this
  refine ⟨?_, hl⟩
  have e : (2 : Int) ^ i = ((2 ^ i : Nat) : Int) := by norm_cast
  rw [PyProof.Rows.bitXor_and, e, andN, hb]
  omega
/-! ### the parts of a set -/
def partsL (b : Nat) : List Nat := (List.range (Builtin.Int.intBits (b : Int))).filter fun i => b.testBit i
theorem bits_lt (b : Nat) : b < 2 ^ Builtin.Int.intBits (b : Int) := by
  have := (intBits_le_iff (m := Builtin.Int.intBits (b : Int)) (x := b)).mp (Nat.le_refl _)
  simpa using this
theorem bits_le {b n : Nat} (h : b < 2 ^ n) : Builtin.Int.intBits (b : Int) ≤ n := intBits_le_iff.mpr (by simpa using h)
theorem parts_of {b n : Nat} (h : b < 2 ^ n) : (List.range n).filter (fun i => b.testBit i) = partsL b := by
  obtain ⟨k, rfl⟩ := Nat.exists_eq_add_of_le (bits_le h)
  rw [List.range_add, List.filter_append]
  have : ((List.range k).map (Builtin.Int.intBits (b : Int) + ·)).filter (fun i => b.testBit i) = [] := by
    rw [List.filter_eq_nil_iff]
    intro i hi
    obtain ⟨j, _, rfl⟩ := List.mem_map.mp hi
    rw [Nat.testBit_lt_two_pow (Nat.lt_of_lt_of_le (bits_lt b) (Nat.pow_le_pow_right (by decide) (Nat.le_add_right _ _)))]
    simp
  rw [this, List.append_nil]
  rfl
theorem mem_parts {b i : Nat} : i ∈ partsL b ↔ b.testBit i = true := by
  unfold partsL
  rw [List.mem_filter]
  refine ⟨fun h => h.2, fun h => ⟨List.mem_range.mpr ?_, h⟩⟩
  refine Decidable.byContradiction fun z => ?_
  rw [Nat.testBit_lt_two_pow (Nat.lt_of_lt_of_le (bits_lt b) (Nat.pow_le_pow_right (by decide) (Nat.le_of_not_lt z)))] at h
  cases h
theorem parts_lt {b i n : Nat} (hb : b < 2 ^ n) (h : i ∈ partsL b) : i < n := by
  have := mem_parts.mp h
  refine Decidable.byContradiction fun z => ?_
  rw [Nat.testBit_lt_two_pow (Nat.lt_of_lt_of_le hb (Nat.pow_le_pow_right (by decide) (Nat.le_of_not_lt z)))] at this
  cases this
def cnt (b : Nat) : Nat := (partsL b).length
theorem cnt_le {b n : Nat} (h : b < 2 ^ n) : cnt b ≤ n := by
  unfold cnt
  rw [← parts_of h]
  exact Nat.le_trans (List.length_filter_le _ _) (by rw [List.length_range]; exact Nat.le_refl _)
/-! ### least sets -/
def leastB (m : Nat → Bool) (b : Nat) : Bool := m b && !(partsL b).any fun i => m (b - 2 ^ i)
def leastL (n : Nat) (m : Nat → Bool) : List Nat := ((List.range n).filter (leastB m)).mergeSort fun x y => decide ((cnt x : Int) ≤ cnt y)
theorem no_swap {α : Type} {a b : α} : ∀ {r : List α}, r.Nodup → [a, b].Sublist r → [b, a].Sublist r → False
  | [], _, h, _ => by cases h
  | x :: t, nd, h, k => by
    have nx := (List.nodup_cons.mp nd).1
    have nt := (List.nodup_cons.mp nd).2
    cases h with
    | cons _ h =>
      cases k with
      | cons _ k => exact no_swap nt h k
      | cons_cons _ k => exact nx (h.subset (by simp))
    | cons_cons _ h =>
      cases k with
      | cons _ k => exact nx (k.subset (by simp))
      | cons_cons _ k => exact nx (h.subset (by simp))
theorem rising_pair {a b : Nat} : ∀ {L : List Nat}, L.Pairwise (· < ·) → a ∈ L → b ∈ L → a < b → [a, b].Sublist L
  | [], _, h, _, _ => by cases h
  | x :: t, p, ha, hb, hl => by
    obtain ⟨p1, p2⟩ := List.pairwise_cons.mp p
    by_cases ea : a = x
    · subst ea
      rcases List.mem_cons.mp hb with e | hb
      · omega
      · exact .cons_cons _ (List.singleton_sublist.mpr hb)
    · have ha' : a ∈ t := (List.mem_cons.mp ha).resolve_left ea
      rcases List.mem_cons.mp hb with e | hb
      · have := p1 a ha'
        omega
      · exact .cons _ (rising_pair p2 ha' hb hl)
def lexB (k : Nat → Nat) (x y : Nat) : Bool := decide ((k x : Int) < k y ∨ ((k x : Int) = k y ∧ (x : Int) ≤ y))
theorem stable_lex (k : Nat → Nat) {L : List Nat} (h : L.Pairwise (· < ·)) : L.mergeSort (fun x y => decide ((k x : Int) ≤ k y)) = L.mergeSort (lexB k) := by
  have nd : L.Nodup := h.imp fun h => Nat.ne_of_lt h
  have t1 : ∀ a b c : Nat, decide ((k a : Int) ≤ k b) = true → decide ((k b : Int) ≤ k c) = true → decide ((k a : Int) ≤ k c) = true := fun a b c h1 h2 => by
    simp only [decide_eq_true_eq] at *
    omega
  have o1 : ∀ a b : Nat, (decide ((k a : Int) ≤ k b) || decide ((k b : Int) ≤ k a)) = true := fun a b => by
    simp only [Bool.or_eq_true, decide_eq_true_eq]
    omega
  have t2 : ∀ a b c : Nat, lexB k a b = true → lexB k b c = true → lexB k a c = true := fun a b c h1 h2 => by
    unfold lexB at *
    simp only [decide_eq_true_eq] at *
    omega
  have o2 : ∀ a b : Nat, (lexB k a b || lexB k b a) = true := fun a b => by
    unfold lexB
    simp only [Bool.or_eq_true, decide_eq_true_eq]
    omega
  have p1 := List.mergeSort_perm L (fun x y => decide ((k x : Int) ≤ k y))
  have p2 := List.mergeSort_perm L (lexB k)
  have n1 := p1.nodup_iff.mpr nd
  refine (p1.trans p2.symm).eq_of_pairwise (le := fun a b => lexB k a b = true) (fun a b _ _ h1 h2 => ?_) ?_ (List.pairwise_mergeSort t2 o2 L)
  · unfold lexB at h1 h2
    simp only [decide_eq_true_eq] at h1 h2
    omega
  · rw [List.pairwise_iff_forall_sublist]
    intro a b hs
    have hle := (List.pairwise_iff_forall_sublist.mp (List.pairwise_mergeSort t1 o1 L)) hs
    have ha : a ∈ L := p1.mem_iff.mp (hs.subset (by simp))
    have hb : b ∈ L := p1.mem_iff.mp (hs.subset (by simp))
    unfold lexB
    simp only [decide_eq_true_eq] at hle ⊢
    by_cases hlt : (k a : Int) < k b
    · exact .inl hlt
    · have he : (k a : Int) = k b := by omega
      refine .inr ⟨he, ?_⟩
      refine Decidable.byContradiction fun z => ?_
      have hba : b < a := by omega
      have s2 := rising_pair h hb ha hba
      have s3 := List.pair_sublist_mergeSort t1 o1 (by simp only [decide_eq_true_eq]; omega) s2
      exact no_swap n1 hs s3
theorem range_rising (n : Nat) : (List.range n).Pairwise (· < ·) := List.pairwise_lt_range
/-- what the law finds: the met sets without a met one that has a part less -/
def goodB (S : List Nat) (b : Nat) : Bool := (partsL b).all fun i => !decide (b - 2 ^ i ∈ S)
theorem law_found (n : Nat) (m : Nat → Bool) : ((List.range n).filter m).filter (goodB ((List.range n).filter m)) = (List.range n).filter (leastB m) := by
  rw [List.filter_filter]
  refine List.filter_congr fun b hb => ?_
  have hb' := List.mem_range.mp hb
  unfold leastB goodB
  rw [Bool.and_comm]
  congr 1
  rw [List.all_eq_not_any_not]
  congr 1
  have anyc : ∀ (l : List Nat), (l.any fun x => !!decide (b - 2 ^ x ∈ (List.range n).filter m)) = l.any fun i => m (b - 2 ^ i) := fun l => by
    induction l with
    | nil => rfl
    | cons i t ih =>
      rw [List.any_cons, List.any_cons, ih, Bool.not_not]
      congr 1
      by_cases h : m (b - 2 ^ i) = true
      · rw [h]
        exact decide_eq_true (List.mem_filter.mpr ⟨List.mem_range.mpr (Nat.lt_of_le_of_lt (Nat.sub_le _ _) hb'), h⟩)
      · rw [Bool.not_eq_true] at h
        rw [h]
        exact decide_eq_false fun z => by
          have := (List.mem_filter.mp z).2
          rw [h] at this
          cases this
  exact anyc _
/-- the law's order, the program's order -/
theorem law_order (n : Nat) (m : Nat → Bool) : ((List.range n).filter (leastB m)).mergeSort (lexB cnt) = leastL n m := (stable_lex cnt ((range_rising n).filter _)).symm
end Sm
set_option Elab.async false
set_option linter.all false
set_option maxRecDepth 100000
set_option maxHeartbeats 2000000
/-! Data of numbers, sets, dicts: what the laws' proofs share. -/
namespace Sm
open PySem L2 Dl
def natsD (L : List Nat) : List PyData := L.map fun n => .int (n : Nat)
def boolsD (L : List Bool) : List PyData := L.map .bool
def meetsL (n : Nat) (m : Nat → Bool) : List Bool := (List.range n).map m
theorem ixn {n : Nat} {i : Int} (h0 : 0 ≤ i) (h1 : i < n) : ixN n i = some i.toNat := by
  unfold ixN
  rw [if_pos h0, if_pos h1]
theorem range_nat {n k : Nat} {d : PyData} (h : (rangeD 0 n)[k]? = some d) : k < n ∧ d = .int (k : Nat) := by
  unfold rangeD at h
  rw [List.getElem?_map] at h
  cases e : (List.range n)[k]? with
  | none => rw [e] at h; cases h
  | some j =>
    rw [e] at h
    obtain ⟨h1, h2⟩ := List.getElem?_eq_some_iff.mp e
    rw [List.getElem_range] at h2
    rw [List.length_range] at h1
    subst h2
    refine ⟨h1, ?_⟩
    have e2 : d = PyData.int (0 + (k : Int)) := (Option.some.inj h).symm
    rw [Int.zero_add] at e2
    exact e2
theorem range_mem {n : Nat} {d : PyData} (h : d ∈ rangeD 0 n) : ∃ k : Nat, k < n ∧ d = .int (k : Nat) := by
  obtain ⟨k, hk, e⟩ := List.getElem_of_mem h
  have := range_nat (show (rangeD 0 n)[k]? = some d by rw [List.getElem?_eq_getElem hk, e])
  exact ⟨k, this.1, this.2⟩
def natOf : PyData → Nat
  | .int i => i.toNat
  | _ => 0
theorem range_filter (n : Nat) (p : Nat → Bool) : (rangeD 0 n).filter (fun d => p (natOf d)) = natsD ((List.range n).filter p) := by
  unfold rangeD natsD
  rw [List.filter_map]
  have e : ((fun d => p (natOf d)) ∘ fun i : Nat => PyData.int (0 + (i : Int))) = p := by
    funext i
    show p (natOf (.int (0 + (i : Int)))) = p i
    rw [Int.zero_add]
    rfl
  rw [e]
  refine List.map_congr_left fun i _ => ?_
  show PyData.int (0 + (i : Int)) = .int i
  rw [Int.zero_add]
theorem tru_bit (b k : Nat) : TruD (.int (Builtin.bitAnd ((b : Int) / 2 ^ ((k : Nat) : Int).toNat) 1)) (b.testBit (natOf (.int (k : Nat)))) := by
  have e : b.testBit (natOf (.int (k : Nat))) = (Builtin.bitAnd ((b : Int) / 2 ^ ((k : Nat) : Int).toNat) 1 != 0) := by
    show b.testBit k = _
    rw [Int.toNat_natCast, bitAt]
    cases b.testBit k <;> rfl
  rw [e]
  exact TruD.int
theorem bools_at (n : Nat) (m : Nat → Bool) {i : Int} {k : Nat} (e : i = k) (h : k < n) : Side (atI (boolsD (meetsL n m)) i = some (.bool (m k))) := by
  subst e
  refine ⟨?_⟩
  have hl : (boolsD (meetsL n m)).length = n := by unfold boolsD meetsL; rw [List.length_map, List.length_map, List.length_range]
  rw [atI_pos (by omega) (by rw [hl]; omega), Int.toNat_natCast]
  unfold boolsD meetsL
  rw [List.getElem?_map, List.getElem?_map, List.getElem?_range h]
  rfl
theorem inKeys_put {es : List (PyData × PyData)} {k0 v k : PyData} : inKeys k (putD es k0 v) = (inKeys k es || decide (Dl.keyOf k0 = Dl.keyOf k)) := by
  unfold putD
  split
  · rename_i h
    have e : inKeys k (es.map fun e => if Dl.keyOf e.1 = Dl.keyOf k0 then (e.1, v) else e) = inKeys k es := by
      unfold inKeys
      rw [List.any_map]
      refine congrArg (fun f => List.any es f) (funext fun e => ?_)
      show decide (Dl.keyOf (if Dl.keyOf e.1 = Dl.keyOf k0 then (e.1, v) else e).1 = Dl.keyOf k) = _
      split <;> rfl
    rw [e]
    cases hk : inKeys k es with
    | true => rfl
    | false =>
      symm
      refine decide_eq_false fun z => ?_
      unfold inKeys at hk
      rw [z] at h
      rw [h] at hk
      cases hk
  · unfold inKeys
    rw [List.any_append]
    simp
theorem inKeys_merge {k : PyData} : ∀ {ms es : List (PyData × PyData)}, inKeys k (mergeD es ms) = (inKeys k es || inKeys k ms)
  | [], es => by
    show inKeys k es = (inKeys k es || false)
    rw [Bool.or_false]
  | e :: ms, es => by
    show inKeys k (mergeD (putD es e.1 e.2) ms) = _
    rw [inKeys_merge, inKeys_put]
    show _ = (inKeys k es || (decide (Dl.keyOf e.1 = Dl.keyOf k) || inKeys k ms))
    rw [Bool.or_assoc]
def knownD (S : List Nat) : List (PyData × PyData) := mergeD [] (S.map fun b => (.int (b : Nat), .bool true))
theorem known_in (S : List Nat) (x : Nat) : inKeys (.int (x : Nat)) (knownD S) = decide (x ∈ S) := by
  unfold knownD
  rw [inKeys_merge]
  show (false || inKeys _ _) = _
  rw [Bool.false_or]
  unfold inKeys
  rw [List.any_map]
  induction S with
  | nil => rfl
  | cons b S ih =>
    rw [List.any_cons, ih]
    show (decide (some (Sum.inl (b : Int)) = some (Sum.inl (x : Int) : Key)) || _) = _
    by_cases h : x = b
    · subst h; simp
    · simp [h, Ne.symm h, Int.natCast_inj, eq_comm]
theorem pairs_known (S : List Nat) : PairsD (S.map fun b => PyData.tuple [.int (b : Nat), .bool true]) (S.map fun b => (.int (b : Nat), .bool true)) := by
  induction S with
  | nil => exact .nil
  | cons b S ih => exact .cons rfl ih
theorem plain_nats : ∀ L : List Nat, PyData.canLayAll0 (natsD L) = true ∧ PyData.depthAll (natsD L) = 0
  | [] => ⟨rfl, by simp [natsD, PyData.depthAll]⟩
  | n :: L => by
    obtain ⟨h1, h2⟩ := plain_nats L
    refine ⟨?_, ?_⟩
    · show (true && PyData.canLayAll0 (natsD L)) = true
      rw [h1]; rfl
    · show PyData.depthAll (.int (n : Nat) :: natsD L) = 0
      rw [PyData.depthAll, h2]
      simp [PyData.depth]
theorem shaped_nats (L : List Nat) : SeqAt.shaped (.list (natsD L)) = true := by
  obtain ⟨h1, h2⟩ := plain_nats L
  unfold SeqAt.shaped
  show (PyData.canLayAll0 (natsD L) && decide (PyData.depthAll (natsD L) + 1 ≤ 64)) = true
  rw [h1, h2]; rfl
theorem shaped_natsT (L : List Nat) : SeqAt.shaped (.tuple (natsD L)) = true := by
  obtain ⟨h1, h2⟩ := plain_nats L
  unfold SeqAt.shaped
  show (PyData.canLayAll0 (natsD L) && decide (PyData.depthAll (natsD L) + 1 ≤ 64)) = true
  rw [h1, h2]; rfl
theorem shaped_nil : SeqAt.shaped (.list []) = true := by decide +kernel
theorem eqv_nil (L : List PyData) : PyData.eqv (.list L) (.list []) = L.isEmpty := by
  cases L with
  | nil => simp [PyData.eqv, PyData.eqvAll]
  | cons a L => simp [PyData.eqv, PyData.eqvAll]
/-! what is shown of numbers -/
theorem piled_le {k : Nat} : ∀ {ts : List Str}, (∀ t ∈ ts, t.length ≤ k) → piled ts ≤ (k + 2) * ts.length
  | [], _ => by simp [piled]
  | t :: r, h => by
    have h1 := h t List.mem_cons_self
    have h2 := piled_le (k := k) (ts := r) fun t ht => h t (List.mem_cons_of_mem _ ht)
    rw [piled_cons, List.length_cons, Nat.mul_succ]
    omega
theorem join_le {k : Nat} {ts : List Str} (h : ∀ t ∈ ts, t.length ≤ k) : (Str.join ", " ts).length ≤ (k + 2) * ts.length := by
  by_cases e : ts = []
  · subst e
    show (Str.join ", " []).length ≤ _
    exact Nat.le_trans (Nat.le_of_eq (by decide +kernel)) (Nat.zero_le _)
  · have := join_length_add ts e
    have := piled_le h
    omega
theorem num_len {n : Nat} (h : n < 2 ^ 62) : (Str.ofString (toString (n : Int))).length ≤ 100 := len_num (by omega) (Bd.of (by
  have : (n : Int).natAbs = n := by simp
  rw [this]
  exact Nat.lt_of_lt_of_le h (Nat.pow_le_pow_right (by decide) (by decide))))
theorem nats_ints (L : List Nat) : natsD L = (L.map fun n : Nat => (n : Int)).map PyData.int := by unfold natsD; rw [List.map_map]; rfl
theorem shown_nats (L : List Nat) (h : ∀ n ∈ L, n < 2 ^ 62) : (PyData.tuple (natsD L)).shown.length ≤ 102 * L.length + 4 := by
  have j := join_le (k := 100) (ts := PyData.shownAll (natsD L)) (by
    rw [nats_ints, PyData.shownAll_ints]
    intro t ht
    obtain ⟨i, hi, rfl⟩ := List.mem_map.mp ht
    obtain ⟨n, hn, rfl⟩ := List.mem_map.mp hi
    exact num_len (h n hn))
  have nl : (natsD L).length = L.length := by unfold natsD; rw [List.length_map]
  rw [PyData.shownAll_length, nl] at j
  rw [PyData.shown_tuple, Str.length_append, Str.length_append]
  have l1 : (Str.ofString "(").length = 1 := by decide +kernel
  have l2 : ∀ b : Bool, (Str.ofString (if b = true then ",)" else ")")).length ≤ 2 := fun b => by cases b <;> decide +kernel
  have l3 := l2 ((natsD L).length == 1)
  omega
theorem repr_nats (L : List Nat) (h : ∀ n ∈ L, n < 2 ^ 62) : reprB (.tuple (natsD L)) = true := by
  obtain ⟨h1, h2⟩ := plain_nats L
  have c0 : (PyData.tuple (natsD L)).canLay0 = true := h1
  have c1 : (PyData.tuple (natsD L)).showable = true := by
    simp only [PyData.showable]
    rw [nats_ints]
    refine PyData.showableAll_ints _ fun i hi => ?_
    obtain ⟨n, hn, rfl⟩ := List.mem_map.mp hi
    have hlt : n < 2 ^ 1920 := Nat.lt_of_lt_of_le (h n hn) (Nat.pow_le_pow_right (by decide) (by decide))
    exact PySem.Flt.log2_lt_of (by decide) (by simpa using hlt)
  have c2 : (PyData.tuple (natsD L)).depth ≤ 60 := by
    simp only [PyData.depth]
    omega
  unfold reprB
  rw [c0, c1, PyData.hasDict_of_canLay _ c0, decide_eq_true c2]
  rfl
end Sm
set_option Elab.async false
set_option linter.all false
set_option maxRecDepth 100000
set_option maxHeartbeats 4000000
set_option exponentiation.threshold 20000
open PySem L2 Dl
local macro_rules
  | `(tactic| ktf_call "tt") => `(tactic| ((with_reducible show Tt _); first | with_reducible assumption | ((with_reducible apply Tt.mk); first | rfl | (intro _; rfl) | (intro _ _; rfl) | decide)))
local macro_rules
  | `(tactic| ktf_call "sg") => `(tactic| ((with_reducible apply Sg.mk); first | (simp only [List.set]; exact rfl) | (simp only [List.set]; done) | exact rfl))
local macro_rules
  | `(tactic| ktf_call "xecn") => `(tactic| with_reducible first
    | refine' xe_call (by assumption) (by assumption) ?_ ?_ ?_ ?_
    | refine' xe_len (by assumption) ?_ ?_ ?_ ?_
    | refine' xe_isi (by assumption) (by assumption) ?_ ?_ ?_ ?_
    | refine' xe_isX (by assumption) (by assumption) (by assumption) ⟨rfl⟩ (by assumption) ?_ ?_ ?_
    | refine' xe_call0 (by assumption) (by assumption) ?_
    | refine' xe_abs (by assumption) ?_ ?_ ?_
    | refine' xe_str (by assumption) ?_ ?_ ?_ ?_
    | refine' xe_int (by assumption) ?_ ?_ ?_ ?_
    | refine' xe_sorted (by assumption) ?_ ?_ ?_ ?_
    | refine' xe_gcd (by assumption) ?_ ?_ ?_ ?_ ?_
    | refine' xe_repr (by assumption) (by assumption) (by assumption) ?_ ?_ ?_ ?_ ?_
    | refine' xe_tuple (by assumption) ?_ ?_ ?_ ?_
    | refine' xe_list (by assumption) ?_ ?_ ?_ ?_
    | refine' xe_callX (by assumption) (by assumption) ?_ ?_ ?_ ?_
    | refine' xe_min ?_ (by assumption) ?_ ?_ ?_ ?_ ?_
    | refine' xe_max ?_ (by assumption) ?_ ?_ ?_ ?_ ?_)
local macro_rules
  | `(tactic| ktf_call "xeca") => `(tactic| with_reducible first
    | refine' xe_partF (by assumption) ?_ ?_ ?_ ?_ ?_ ?_ ?_ ?_ ?_
    | refine' xe_partition ?_ ?_ ?_ ?_ ?_ ?_ ?_ ?_ ?_
    | refine' xe_split ?_ ?_ ?_ ?_ ?_ ?_ ?_ ?_ ?_
    | refine' xe_join ?_ ?_ ?_ ?_ ?_ ?_ ?_ ?_ ?_
    | refine' xe_isdigit ?_ ?_ ?_
    | refine' xe_bits ?_ ?_ ?_
    | refine' xe_index ?_ ?_ ?_ ?_ ?_ ?_ ?_ (by assumption)
    | refine' xe_isascii ?_ ?_ ?_
    | refine' xe_upper ?_ ?_ ?_ ?_)
local macro_rules
  | `(tactic| ktf_call "xe") => `(tactic| first
    | ((with_reducible show Xp _ _ _ (.Name _ _) _); with_reducible first | refine' xe_var (by assumption) ?_ | refine' xp_cn (by assumption) (by assumption))
    | ((with_reducible show Xp _ _ _ (.Constant _ _ _) _); with_reducible first | exact xp_int | exact xp_str | exact xp_bl | exact xp_non)
    | ((with_reducible show Xp _ _ _ (.Call (.Name _ _) _ _ _) _); ktf_call "xecn")
    | ((with_reducible show Xp _ _ _ (.Call (.Attribute _ _ _) _ _ _) _); ktf_call "xeca")
    | ((with_reducible show Xp _ _ _ (.BinOp _ _ _ _) _); with_reducible first | refine' xe_rep ?_ ?_ ?_ ?_ ?_ | refine' xe_shl1 ?_ ?_ ?_ | refine' xe_shr ?_ ?_ ?_ | refine' xe_band ?_ ?_ | refine' xe_bor ?_ ?_ | refine' xe_bxor ?_ ?_ | refine' xe_add ?_ ?_ ?_ | refine' xe_mul ?_ ?_ ?_ | refine' xe_sub ?_ ?_ | refine' xe_mod ?_ ?_ ?_ | refine' xe_fdiv ?_ ?_ ?_ | refine' xe_pow ?_ ?_ ?_)
    | with_reducible first
      | refine' xe_sl2 ?_ ?_ ?_ ?_
      | refine' xe_ixOl ?_ (by assumption) ⟨rfl⟩ ?_ ?_
      | refine' xe_ixOw ?_ (by assumption) ⟨rfl⟩ ?_ ?_
      | refine' xe_ix ?_ ?_ ?_ ?_
      | refine' xe_cmp ?_ ?_ ?_ ?_
      | refine' xe_chain ?_ ?_ ?_ ?_ ?_ ?_
      | refine' xe_tup ?_ ?_
      | refine' xp_not ?_
      | refine' xp_one ?_
      | refine' xe_and ?_ ?_
      | refine' xp_or ?_ ?_
      | refine' xe_ifT (by assumption) ?_ ?_ ?_
      | refine' xe_ifF (by assumption) ?_ ?_ ?_
      | refine' xp_if ?_ ?_ ?_
      | refine' xe_lst ?_ ?_
      | exact xe_dict0
      | refine' xe_binv ?_
      | refine' xp_neg ?_
      | refine' xp_joined ?_
      | refine' xe_fmt ?_ ?_)
local macro_rules
  | `(tactic| ktf_call "xck") => `(tactic| with_reducible first
    | exact ck_lt | exact ck_gt | exact ck_le | exact ck_ge | exact ck_eqi | exact ck_nei | exact ck_eqs | exact ck_nes | exact ck_eqb | exact ck_neb | exact ck_isN | exact ck_notN | exact ck_isB | exact ck_notB | exact ck_inS | exact ck_ninS | refine' ck_inL ?_ ?_ | refine' ck_inT ?_ ?_ | refine' ck_ninL ?_ ?_ | refine' ck_ninT ?_ ?_ | refine' ck_eqd (by assumption) ?_ ?_ | refine' ck_ned (by assumption) ?_ ?_)
local macro_rules
  | `(tactic| ktf_call "xd") => `(tactic| first
    | ((with_reducible show CmpOk _ _ _ _ _); ktf_call "xck")
    | ((with_reducible show IxD _ _ _); with_reducible first | refine' IxD.lst ?_ | refine' IxD.tup ?_ | refine' IxD.str ?_ ?_)
    | with_reducible first
      | exact AddD.int | refine' AddD.str ?_ | refine' AddD.lst ?_ | refine' AddD.tup ?_
      | refine' MulD.int ?_ | refine' MulD.str ?_ | (exact FdivD.lit (by decide)) | refine' FdivD.gen ?_ | exact sortD2
      | exact LenD.lst | exact LenD.tup | refine' LenD.str ?_
      | exact TruD.bl | exact TruD.int | exact TruD.non | refine' TruD.str ?_ | exact TruD.lst | exact TruD.tup
      | exact SlD2.lst | exact SlD2.tup | refine' SlD2.str ?_ | exact SeqD.lst | exact SeqD.tup
      | exact IntD.bl | refine' IntD.str ?_ ?_
      | exact UnpD.tup | exact UnpD.lst
      | exact ItrD.lst | exact ItrD.tup | exact ItrD.str
      | refine' FmtD.str ?_ | refine' FmtD.int ?_)
local macro_rules
  | `(tactic| ktf_call "xa") => `(tactic| first
    | ((with_reducible show Xa _ _ _ _ _); with_reducible first | exact xa_nil | refine' xae_cons ?_ ?_ ?_)
    | with_reducible first
      | exact xo_none | refine' xo_some ?_ | exact xj_nil | refine' xje_cons ?_ ?_ ?_ | exact xgs_nil | refine' xgse_cons ?_ ?_ ?_ | refine' xge_name (by assumption) ?_ | refine' xge_tup ?_ ?_ ?_ ?_ ?_ | exact xq_nil | refine' xq_one ?_
      | refine' xie_rng1 (by assumption) ?_ ?_ ?_ | refine' xie_rng2 (by assumption) ?_ ?_ ?_ ?_ ?_ ?_ | refine' xie_enum (by assumption) ?_ ?_ | refine' xie_any ?_ ?_)
local macro_rules
  | `(tactic| ktf_call "xt") => `(tactic| with_reducible first
    | refine' xte_cmp ?_ ?_ ?_ ?_ | refine' xte_chain ?_ ?_ ?_ ?_ ?_ ?_ | refine' xt_not ?_ | refine' xt_w ?_ | refine' xw_and1 ?_ | refine' xw_or1 ?_ | refine' xw_and ?_ ?_ | refine' xw_or ?_ ?_ | refine' xt_any ?_ ?_ ?_)
local macro_rules
  | `(tactic| ktf_call "xs") => `(tactic| with_reducible first
    | refine' xse_set (by assumption) ?_ ?_ ?_ ?_ | refine' xs_ret ?_ ?_ | refine' xs_if ?_ ?_ ?_ | refine' xse_aug (by assumption) ?_ ?_ ?_ ?_
    | refine' xse_par ?_ (by assumption) (by assumption) ?_ ?_ ?_ ?_ ?_ ?_ ?_ ?_ | refine' xse_unp ?_ ?_ ?_ ?_ ?_ ?_ ?_ ?_ ?_ ?_ ?_ | refine' xse_app (by assumption) ?_ ?_ ?_ ?_ ?_ ?_ ?_ ?_ ?_ ?_ ?_
    | refine' xs_brk ?_ | refine' xs_cont ?_ | refine' xs_retN ?_ | refine' xs_pass ?_)
local macro_rules
  | `(tactic| ktf_call "xo") => `(tactic| with_reducible first
    | refine' seq_nx ?_ | refine' seq_rt ?_ | refine' seq_bk ?_ | refine' seq_ct ?_ | refine' wh_nx ?_ | refine' wh_rt ?_ | refine' wh_bk ?_ | refine' wh_ct ?_ | refine' turn_nx ?_ | refine' turn_rt ?_ | refine' turn_bk ?_ | refine' turn_ct ?_ | (refine' ret_rt ?_; try with_reducible rfl))
local macro_rules
  | `(tactic| ktf_call "xb") => `(tactic| first
    | (with_reducible refine' xb_nil ?_) | (with_reducible refine' xbe_one ?_) | (with_reducible refine' xbe_cons ?_) | refine' xbe_cons ?_)
local macro_rules
  | `(tactic| ktf_call "xi") => `(tactic| first
    | ((with_reducible show decide _ = true → _); first | exact (fun h => absurd h (by decide)) | (refine fun h => absurd (of_decide_eq_true h) ?_; with_reducible assumption) | (refine fun h => (fun h' => ?_) (of_decide_eq_true h); clear h))
    | ((with_reducible show decide _ = false → _); first | exact (fun h => absurd h (by decide)) | (refine fun h => absurd ?_ (of_decide_eq_false h); with_reducible assumption) | (refine fun h => (fun h' => ?_) (of_decide_eq_false h); clear h))
    | exact (fun h => absurd (show false = true from h) Bool.false_ne_true)
    | exact (fun h => absurd (show false = true from h.symm) Bool.false_ne_true)
    | (intro h; try simp only [Bool.not_eq_true', Bool.not_eq_false', Bool.and_eq_true, Bool.or_eq_true, Bool.and_eq_false_iff, Bool.or_eq_false_iff, decide_eq_true_eq, decide_eq_false_iff_not, Bool.not_true, Bool.not_false, Bool.false_eq_true, Bool.true_eq_false, and_false, false_and, and_true, true_and, or_false, false_or, reduceCtorEq] at h))
local macro_rules
  | `(tactic| ktf_call "il") => `(tactic| first | exact IntsL.nil | exact StrsL.nil | ((with_reducible apply IntsL.cons); ktf_call "il") | ((with_reducible apply StrsL.cons); ktf_call "il"))
local macro_rules
  | `(tactic| ktf_call "at") => `(tactic| first
    | with_reducible exact at_0 | with_reducible exact at_1 | with_reducible exact at_2
    | (refine' at_ints (by ktf_call "il") ?_; (apply Side.mk; simp only [List.length_cons, List.length_nil]; omega))
    | (refine' at_strs (by ktf_call "il") ?_; (apply Side.mk; simp only [List.length_cons, List.length_nil]; omega))
    | (refine' at_any ?_; (apply Side.mk; simp only [List.length_cons, List.length_nil, List.cons_append, List.nil_append]; omega)))
local macro_rules
  | `(tactic| ktf_call "side") => `(tactic| first
    | with_reducible assumption
    | ((with_reducible show Side (atI _ _ = _)); ktf_call "at")
    | ((with_reducible show Side (CMulW _ _)); exact side_mul64 (by omega))
    | ((with_reducible show Side (CDivG _ _)); exact side_fdiv64 (by omega))
    | ((with_reducible show Side (CPow _ _)); exact ⟨⟨by decide, by decide, by decide⟩⟩)
    | ((with_reducible show Side (SeqAt.shaped _ = true)); exact ⟨rfl⟩)
    | ((with_reducible apply Side.mk); first | omega | decide))
local macro_rules
  | `(tactic| ktf_call "x1") => `(tactic| ((with_reducible show (_ : Prop)); first
    | ktf_call "tt"
    | ((with_reducible show Xp _ _ _ _ _); ktf_call "xe")
    | ((with_reducible show Xs _ _ _ _ _); ktf_call "xs")
    | ((with_reducible show Xb _ _ _ _ _); ktf_call "xb")
    | ktf_call "sg" | ktf_call "xa" | ktf_call "xt" | ktf_call "xo" | ktf_call "xd" | ktf_call "side" | ktf_call "cal" | ((with_reducible show _ = _ → _); ktf_call "xi")))
local macro_rules
  | `(tactic| ktf_call "xf") => `(tactic| all_goals first | ((with_reducible show Bool); exact false) | skip)
local macro_rules
  | `(tactic| ktf_call "x") => `(tactic| repeat' ktf_call "x1")

namespace K12
open PySem L2 Dl
def topS (i : Nat) : Stmt := PySem.Challenge.pw_faultwood_k12_sets_that_cross.main.body.getD i (.Pass ⟨0, 0, 0, 0⟩)
abbrev s_is_whole : Stmt := topS 1
abbrev n_is_whole : List Str := ["thing"]
theorem f_is_whole : scF2 n_is_whole ["thing"] ["isinstance", "int", "bool"] s_is_whole = true := by decide +kernel
theorem c_is_whole : FnScope n_is_whole ["thing"] (defScope s_is_whole) := ⟨rfl, rfl, rfl, by decide +kernel, rfl, by decide +kernel, by decide +kernel⟩
abbrev s_all_bits : Stmt := topS 3
abbrev n_all_bits : List Str := ["many"]
theorem f_all_bits : scF2 n_all_bits ["many"] [] s_all_bits = true := by decide +kernel
theorem c_all_bits : FnScope n_all_bits ["many"] (defScope s_all_bits) := ⟨rfl, rfl, rfl, by decide +kernel, rfl, by decide +kernel, by decide +kernel⟩
abbrev s_is_bits : Stmt := topS 4
abbrev n_is_bits : List Str := ["thing", "many"]
theorem f_is_bits : scF2 n_is_bits ["thing", "many"] ["is_whole", "all_bits"] s_is_bits = true := by decide +kernel
theorem c_is_bits : FnScope n_is_bits ["thing", "many"] (defScope s_is_bits) := ⟨rfl, rfl, rfl, by decide +kernel, rfl, by decide +kernel, by decide +kernel⟩
abbrev s_parts_in : Stmt := topS 5
abbrev n_parts_in : List Str := ["bits", "i"]
theorem f_parts_in : scF2 n_parts_in ["bits"] ["range"] s_parts_in = true := by decide +kernel
theorem c_parts_in : FnScope n_parts_in ["bits"] (defScope s_parts_in) := ⟨rfl, rfl, rfl, by decide +kernel, rfl, by decide +kernel, by decide +kernel⟩
abbrev s_many_in : Stmt := topS 6
abbrev n_many_in : List Str := ["bits"]
theorem f_many_in : scF2 n_many_in ["bits"] ["len", "parts_in"] s_many_in = true := by decide +kernel
theorem c_many_in : FnScope n_many_in ["bits"] (defScope s_many_in) := ⟨rfl, rfl, rfl, by decide +kernel, rfl, by decide +kernel, by decide +kernel⟩
abbrev s_cross : Stmt := topS 21
abbrev n_cross : List Str := ["sets", "many", "bits"]
theorem f_cross : scF2 n_cross ["sets", "many"] ["is_whole", "MOST_PARTS", "BadSets", "isinstance", "tuple", "all", "least_of", "range"] s_cross = true := by decide +kernel
theorem c_cross : FnScope n_cross ["sets", "many"] (defScope s_cross) := ⟨rfl, rfl, rfl, by decide +kernel, rfl, by decide +kernel, by decide +kernel⟩
abbrev s_crosses : Stmt := topS 22
abbrev n_crosses : List Str := ["bits", "sets", "other"]
theorem f_crosses : scF2 n_crosses ["bits", "sets"] ["all"] s_crosses = true := by decide +kernel
theorem c_crosses : FnScope n_crosses ["bits", "sets"] (defScope s_crosses) := ⟨rfl, rfl, rfl, by decide +kernel, rfl, by decide +kernel, by decide +kernel⟩
abbrev s_least_of : Stmt := topS 23
abbrev n_least_of : List Str := ["meets", "found", "bits"]
theorem f_least_of : scF2 n_least_of ["meets", "found"] ["range", "len", "tuple", "sorted", "many_in"] s_least_of = true := by decide +kernel
theorem c_least_of : FnScope n_least_of ["meets"] (defScope s_least_of) := ⟨rfl, rfl, rfl, by decide +kernel, rfl, by decide +kernel, by decide +kernel⟩
abbrev s_is_least : Stmt := topS 24
abbrev n_is_least : List Str := ["bits", "meets", "i"]
theorem f_is_least : scF2 n_is_least ["bits", "meets"] ["any", "parts_in"] s_is_least = true := by decide +kernel
theorem c_is_least : FnScope n_is_least ["bits", "meets"] (defScope s_is_least) := ⟨rfl, rfl, rfl, by decide +kernel, rfl, by decide +kernel, by decide +kernel⟩
abbrev s_law_cell : Stmt := topS 26
abbrev n_law_cell : List Str := ["_law_script", "_law_k", "_law_cell_here"]
theorem f_law_cell : scF2 n_law_cell ["_law_script", "_law_k", "_law_cell_here"] ["len"] s_law_cell = true := by decide +kernel
theorem c_law_cell : FnScope n_law_cell ["_law_script", "_law_k"] (defScope s_law_cell) := ⟨rfl, rfl, rfl, by decide +kernel, rfl, by decide +kernel, by decide +kernel⟩
abbrev s_law_next : Stmt := topS 28
abbrev n_law_next : List Str := ["_law_draw"]
theorem f_law_next : scF2 n_law_next ["_law_draw"] ["_law_cell"] s_law_next = true := by decide +kernel
theorem c_law_next : FnScope n_law_next ["_law_draw"] (defScope s_law_next) := ⟨rfl, rfl, rfl, by decide +kernel, rfl, by decide +kernel, by decide +kernel⟩
abbrev s_law_least : Stmt := topS 29
abbrev n_law_least : List Str := ["_law_some", "_law_bits", "_law_known", "_law_found", "_law_own", "_law_k", "_law_count"]
theorem f_law_least : scF2 n_law_least ["_law_some", "_law_bits", "_law_known", "_law_found", "_law_own"] ["dict", "range", "len", "tuple", "sorted"] s_law_least = true := by decide +kernel
theorem c_law_least : FnScope n_law_least ["_law_some"] (defScope s_law_least) := ⟨rfl, rfl, rfl, by decide +kernel, rfl, by decide +kernel, by decide +kernel⟩
abbrev s_law_sets : Stmt := topS 30
abbrev n_law_sets : List Str := ["_law_draw", "_law_many", "_law_found", "_law_k", "_law_number", "_law_bits"]
theorem f_law_sets : scF2 n_law_sets ["_law_draw", "_law_many", "_law_found", "_law_k", "_law_number", "_law_bits"] ["range", "_law_next", "tuple"] s_law_sets = true := by decide +kernel
theorem c_law_sets : FnScope n_law_sets ["_law_draw", "_law_many"] (defScope s_law_sets) := ⟨rfl, rfl, rfl, by decide +kernel, rfl, by decide +kernel, by decide +kernel⟩
abbrev s_law_refused : Stmt := topS 31
abbrev n_law_refused : List Str := ["_law_sets_here", "_law_many", "_law_error", "e", "_law_others"]
theorem f_law_refused : scF2 n_law_refused ["_law_sets_here", "_law_many", "_law_error", "e", "_law_others"] ["cross", "FaultError", "isinstance", "BadLine", "BadNumber", "BadText", "BadTree", "Lacking", "NoPlan", "TooMany", "Twice", "BadOdds", "BadSets", "ValueError"] s_law_refused = true := by decide +kernel
theorem c_law_refused : FnScope n_law_refused ["_law_sets_here", "_law_many"] (defScope s_law_refused) := ⟨rfl, rfl, rfl, by decide +kernel, rfl, by decide +kernel, by decide +kernel⟩
abbrev s_law_all_refused : Stmt := topS 32
abbrev n_law_all_refused : List Str := ["_law_sets_here", "_law_many", "_law_number", "_law_count", "_law_bad", "_law_odd", "_law_at", "_law_wrong"]
theorem f_law_all_refused : scF2 n_law_all_refused ["_law_sets_here", "_law_many", "_law_number", "_law_count", "_law_bad", "_law_odd", "_law_at", "_law_wrong"] ["list", "len", "_law_refused"] s_law_all_refused = true := by decide +kernel
theorem c_law_all_refused : FnScope n_law_all_refused ["_law_sets_here", "_law_many", "_law_number"] (defScope s_law_all_refused) := ⟨rfl, rfl, rfl, by decide +kernel, rfl, by decide +kernel, by decide +kernel⟩
abbrev s_law : Stmt := topS 33
abbrev n_law : List Str := ["_law_script", "_law_draw", "_law_turn", "_law_number", "_law_many", "_law_sets_here", "_law_met", "_law_due", "_law_again", "_law_found", "_law_bits", "_law_one"]
theorem f_law : scF2 n_law ["_law_script", "_law_draw", "_law_turn", "_law_number", "_law_many", "_law_sets_here", "_law_met", "_law_due", "_law_again", "_law_found"] ["range", "len", "_law_next", "_law_sets", "_law_least", "cross", "repr", "_law_all_refused"] s_law = true := by decide +kernel
theorem c_law : FnScope n_law ["_law_script"] (defScope s_law) := ⟨rfl, rfl, rfl, by decide +kernel, rfl, by decide +kernel, by decide +kernel⟩
/-- what the module's names hold -/
structure Mg (mg : Str → Option Value) : Prop where
  m_isinstance : mg "isinstance" = none
  m_int : mg "int" = none
  m_bool : mg "bool" = none
  m_range : mg "range" = none
  m_len : mg "len" = none
  m_tuple : mg "tuple" = none
  m_all : mg "all" = none
  m_sorted : mg "sorted" = none
  m_any : mg "any" = none
  m_dict : mg "dict" = none
  m_ValueError : mg "ValueError" = none
  m_list : mg "list" = none
  m_repr : mg "repr" = none
variable [Tabs] {P : Program} {w : World} {K : PySem.W.Frag} {mg : Str → Option Value} {base : Heap}
open Sm
/-! ### what each def promises -/
abbrev d_MOST_PARTS : PyData := .int 12
def wholeB : PyData → Bool
  | .int _ => true
  | _ => false
def bitsB (d : PyData) (m : Nat) : Bool := match d with
  | .int i => decide (0 ≤ i) && decide (i ≤ 2 ^ m - 1)
  | _ => false
def cellI (ns : List Int) (k : Int) : Int := ((if ns.length > 0 then ns.getD (k % ns.length).toNat 0 % 2147483647 else 17) + 7919 * k * k + 31 * k) * 48271 % 2147483647 * 69621 % 2147483629 / 64
def r_is_whole : List PyData → PyData → Prop := fun ds d => ∃ x, ds = [x] ∧ d = .bool (wholeB x)
def r_all_bits : List PyData → PyData → Prop := fun ds d => ∃ m : Nat, ds = [.int m] ∧ m ≤ 62 ∧ d = .int (2 ^ m - 1)
def r_is_bits : List PyData → PyData → Prop := fun ds d => ∃ (x : PyData) (m : Nat), ds = [x, .int m] ∧ m ≤ 62 ∧ d = .bool (bitsB x m)
def r_parts_in : List PyData → PyData → Prop := fun ds d => ∃ b : Nat, ds = [.int b] ∧ b < 2 ^ 62 ∧ d = .list (natsD (partsL b))
def r_many_in : List PyData → PyData → Prop := fun ds d => ∃ b : Nat, ds = [.int b] ∧ b < 2 ^ 62 ∧ d = .int (cnt b)
def crossB (sets : List Nat) (b : Nat) : Bool := sets.all fun o => decide (b &&& o ≠ 0)
def r_crosses : List PyData → PyData → Prop := fun ds d => ∃ (b : Nat) (sets : List Nat), ds = [.int b, .tuple (natsD sets)] ∧ d = .bool (crossB sets b)
def r_is_least : List PyData → PyData → Prop := fun ds d => ∃ (n b : Nat) (m : Nat → Bool), ds = [.int b, .list (boolsD (meetsL (2 ^ n) m))] ∧ n ≤ 12 ∧ b < 2 ^ n ∧ d = .bool (leastB m b)
def r_least_of : List PyData → PyData → Prop := fun ds d => ∃ (n : Nat) (m : Nat → Bool), ds = [.list (boolsD (meetsL (2 ^ n) m))] ∧ n ≤ 12 ∧ d = .tuple (natsD (leastL (2 ^ n) m))
/-- what cross gives -/
inductive crossR : PyData → PyData → Rs → Prop where
  | many {s m : PyData} (h : ¬ ∃ k : Nat, m = .int k ∧ 1 ≤ k ∧ k ≤ 12) : crossR s m (.er "BadSets")
  | sets {s : PyData} {m : Nat} (h : 1 ≤ m ∧ m ≤ 12) (hs : ¬ ∃ ds, s = .tuple ds ∧ ds.all (fun d => bitsB d m) = true) : crossR s (.int m) (.er "BadSets")
  | ok {sets : List Nat} {m : Nat} (h : 1 ≤ m ∧ m ≤ 12) (hs : ∀ b ∈ sets, b < 2 ^ m) : crossR (.tuple (natsD sets)) (.int m) (.ok (.tuple (natsD (leastL (2 ^ m) (crossB sets)))))
def r_cross : List PyData → Rs → Prop := fun ds r => ∃ s m, ds = [s, m] ∧ crossR s m r
def metL (n : Nat) (m : Nat → Bool) : List Nat := (List.range (2 ^ n)).filter m
def r_law_least : List PyData → PyData → Prop := fun ds d => ∃ (n : Nat) (m : Nat → Bool), ds = [.list (natsD (metL n m))] ∧ n ≤ 12 ∧ d = .tuple (natsD (leastL (2 ^ n) m))
def r_law_cell : List PyData → PyData → Prop := fun ds d => ∃ (ns : List Int) (k : Int), ds = [.list (ns.map .int), .int k] ∧ 0 ≤ k ∧ k ≤ 1000000 ∧ ns.length ≤ 63 ∧ d = .int (cellI ns k)
def r_law_next : Addr → List Ag → List PyData → List PyData → PyData → Prop := fun l gs ds es d => ∃ (ns : List Int) (k : Int), gs = [.p l] ∧ ds = [.list (ns.map .int), .int k] ∧ es = [.list (ns.map .int), .int (k + 1)] ∧ d = .int (cellI ns (k + 1)) ∧ 0 ≤ k ∧ k ≤ 900000 ∧ ns.length ≤ 63
def setOf (c : Int) (many : Nat) : Nat := if c % 8 < 5 then ((c / 8 % 2 ^ many).toNat &&& (c / 1024 % 2 ^ many).toNat) ||| 2 ^ (c / 64 % many).toNat else (c / 8 % 2 ^ many).toNat
def setsF (ns : List Int) (k : Int) (many n : Nat) : List Nat := (List.range n).map fun j => setOf (cellI ns (k + 1 + (j : Nat) + 1)) many
def cntF (ns : List Int) (k : Int) : Nat := (cellI ns (k + 1) % 10).toNat
def r_law_sets : Addr → List Ag → List PyData → List PyData → PyData → Prop := fun l gs ds es d => ∃ (ns : List Int) (k : Int) (many : Nat), gs = [.p l, .d (.int many)] ∧ ds = [.list (ns.map .int), .int k] ∧ es = [.list (ns.map .int), .int (k + 1 + (cntF ns k : Nat))] ∧ d = .tuple (natsD (setsF ns k many (cntF ns k))) ∧
  0 ≤ k ∧ k ≤ 800000 ∧ ns.length ≤ 63 ∧ 1 ≤ many ∧ many ≤ 12
def r_law_refused : List PyData → PyData → Prop := fun ds d => ∃ s m, ds = [s, m] ∧ crossR s m (.er "BadSets") ∧ d = .bool true
abbrev noL : List Str := ["BadLine", "BadNumber", "BadText", "BadTree", "Lacking", "NoPlan", "TooMany", "Twice", "BadOdds"]
theorem cell_ok (ns : List Int) (k : Int) : 0 ≤ cellI ns k ∧ cellI ns k < 33554432 := by
  unfold cellI
  omega
/-! ### calls -/
local macro_rules
  | `(tactic| ktf_call "cal") => `(tactic| first
    | with_reducible assumption
    | ((with_reducible show Cal r_is_whole _ _); exact ⟨⟨_, rfl, rfl⟩⟩)
    | ((with_reducible show Cal r_law_cell _ _); refine' ⟨⟨_, _, rfl, ?_, ?_, ?_, rfl⟩⟩))
/-! ### defs -/
theorem isi_int (x : PyData) : (isiD x .int && !isiD x .bool) = wholeB x := by cases x <;> rfl
theorem ok_is_whole {f : Addr} {fd : FuncData} (F : Fun K "is_whole" "is_whole" s_is_whole f fd) (hm : mg "is_whole" = some (.ref f)) (T : Mg mg) : Dn P w K mg base 1 "is_whole" r_is_whole := by
  refine dn_of F hm (F.binds (ps := ["thing"]) fun _ _ _ _ _ _ us hl => match us, hl with | [_], _ => rfl) ?_
  refine fn_ok F c_is_whole (fun ds d hR => ?_) fun cdv A outer s H E B ds d hr hR => ?_
  · obtain ⟨x, rfl, rfl⟩ := hR
    rfl
  obtain ⟨x, rfl, rfl⟩ := hR
  have r0 : Rk (Xc P w K mg base n_is_whole "is_whole" s_is_whole f cdv A outer s H E) 0 "thing" := rk_of2 f_is_whole rfl (by decide +kernel)
  have l0 : Lk (Xc P w K mg base n_is_whole "is_whole" s_is_whole f cdv A outer s H E) 0 "thing" := lk_of2 f_is_whole rfl (by decide +kernel)
  have g0 : Gl (Xc P w K mg base n_is_whole "is_whole" s_is_whole f cdv A outer s H E) "isinstance" := gl_of2 f_is_whole (by decide +kernel)
  have b0 : Bi (Xc P w K mg base n_is_whole "is_whole" s_is_whole f cdv A outer s H E) "isinstance" := ⟨g0, T.m_isinstance⟩
  have g1 : Gl (Xc P w K mg base n_is_whole "is_whole" s_is_whole f cdv A outer s H E) "int" := gl_of2 f_is_whole (by decide +kernel)
  have b1 : Bi (Xc P w K mg base n_is_whole "is_whole" s_is_whole f cdv A outer s H E) "int" := ⟨g1, T.m_int⟩
  have t1 : Ty (Xc P w K mg base n_is_whole "is_whole" s_is_whole f cdv A outer s H E) "int" .int := ⟨b1, by decide +kernel, by decide +kernel, by decide +kernel⟩
  have g2 : Gl (Xc P w K mg base n_is_whole "is_whole" s_is_whole f cdv A outer s H E) "bool" := gl_of2 f_is_whole (by decide +kernel)
  have b2 : Bi (Xc P w K mg base n_is_whole "is_whole" s_is_whole f cdv A outer s H E) "bool" := ⟨g2, T.m_bool⟩
  have t2 : Ty (Xc P w K mg base n_is_whole "is_whole" s_is_whole f cdv A outer s H E) "bool" .bool := ⟨b2, by decide +kernel, by decide +kernel, by decide +kernel⟩
  have rm : Rm (Xc P w K mg base n_is_whole "is_whole" s_is_whole f cdv A outer s H E) := ⟨hr.units⟩
  have hG : startG n_is_whole [x] = [.sh (x)] := rfl
  rw [hG]; clear hG
  ktf_call "x"
  rw [isi_int]
theorem ok_all_bits {f : Addr} {fd : FuncData} (F : Fun K "all_bits" "all_bits" s_all_bits f fd) (hm : mg "all_bits" = some (.ref f)) (T : Mg mg) : Dn P w K mg base 1 "all_bits" r_all_bits := by
  refine dn_of F hm (F.binds (ps := ["many"]) fun _ _ _ _ _ _ us hl => match us, hl with | [_], _ => rfl) ?_
  refine fn_ok F c_all_bits (fun ds d hR => ?_) fun cdv A outer s H E B ds d hr hR => ?_
  · obtain ⟨m, rfl, hm, rfl⟩ := hR
    rfl
  obtain ⟨m, rfl, hm, rfl⟩ := hR
  have r0 : Rk (Xc P w K mg base n_all_bits "all_bits" s_all_bits f cdv A outer s H E) 0 "many" := rk_of2 f_all_bits rfl (by decide +kernel)
  have l0 : Lk (Xc P w K mg base n_all_bits "all_bits" s_all_bits f cdv A outer s H E) 0 "many" := lk_of2 f_all_bits rfl (by decide +kernel)
  have rm : Rm (Xc P w K mg base n_all_bits "all_bits" s_all_bits f cdv A outer s H E) := ⟨hr.units⟩
  have hG : startG n_all_bits [.int m] = [.sh (.int m)] := rfl
  rw [hG]; clear hG
  ktf_call "x"
  rfl
theorem ok_law_cell {f : Addr} {fd : FuncData} (F : Fun K "_law_cell" "_law_cell" s_law_cell f fd) (hm : mg "_law_cell" = some (.ref f)) (T : Mg mg) : Dn P w K mg base 1 "_law_cell" r_law_cell := by
  refine dn_of F hm (F.binds (ps := ["_law_script", "_law_k"]) fun _ _ _ _ _ _ us hl => match us, hl with | [_, _], _ => rfl) ?_
  refine fn_ok F c_law_cell (fun ds d hR => ?_) fun cdv A outer s H E B ds d hr hR => ?_
  · obtain ⟨ns, k, rfl, h0, h1, hl, rfl⟩ := hR
    rfl
  obtain ⟨ns, k, rfl, h0, h1, hl, rfl⟩ := hR
  have r0 : Rk (Xc P w K mg base n_law_cell "_law_cell" s_law_cell f cdv A outer s H E) 0 "_law_script" := rk_of2 f_law_cell rfl (by decide +kernel)
  have l0 : Lk (Xc P w K mg base n_law_cell "_law_cell" s_law_cell f cdv A outer s H E) 0 "_law_script" := lk_of2 f_law_cell rfl (by decide +kernel)
  have r1 : Rk (Xc P w K mg base n_law_cell "_law_cell" s_law_cell f cdv A outer s H E) 1 "_law_k" := rk_of2 f_law_cell rfl (by decide +kernel)
  have l1 : Lk (Xc P w K mg base n_law_cell "_law_cell" s_law_cell f cdv A outer s H E) 1 "_law_k" := lk_of2 f_law_cell rfl (by decide +kernel)
  have r2 : Rk (Xc P w K mg base n_law_cell "_law_cell" s_law_cell f cdv A outer s H E) 2 "_law_cell_here" := rk_of2 f_law_cell rfl (by decide +kernel)
  have l2 : Lk (Xc P w K mg base n_law_cell "_law_cell" s_law_cell f cdv A outer s H E) 2 "_law_cell_here" := lk_of2 f_law_cell rfl (by decide +kernel)
  have g0 : Gl (Xc P w K mg base n_law_cell "_law_cell" s_law_cell f cdv A outer s H E) "len" := gl_of2 f_law_cell (by decide +kernel)
  have b0 : Bi (Xc P w K mg base n_law_cell "_law_cell" s_law_cell f cdv A outer s H E) "len" := ⟨g0, T.m_len⟩
  have rm : Rm (Xc P w K mg base n_law_cell "_law_cell" s_law_cell f cdv A outer s H E) := ⟨hr.units⟩
  have hG : startG n_law_cell [.list (ns.map .int), .int k] = [.sh (.list (ns.map .int)), .sh (.int k), .un] := rfl
  rw [hG]; clear hG
  have q1 : 0 ≤ 7919 * k * k := Int.mul_nonneg (by omega) h0
  have q2 : 7919 * k * k ≤ 7919 * 1000000 * 1000000 := Int.mul_le_mul (by omega) h1 h0 (by omega)
  have s1 : Side (CMulW (7919 * k) k) := side_mul64 (by omega)
  have e1 : ((ns.map PyData.int).length : Int) = ns.length := by rw [List.length_map]
  by_cases hn : ns.length > 0
  · have a1 : Side (atI (ns.map PyData.int) (k % ((ns.map PyData.int).length : Int)) = some (.int (ns.getD (k % ns.length).toNat 0))) := by
      have b1 := Int.emod_nonneg k (show (ns.length : Int) ≠ 0 by omega)
      have b2 := Int.emod_lt_of_pos k (show (0 : Int) < ns.length by omega)
      refine ⟨?_⟩
      rw [e1, atI_pos b1 (by rw [List.length_map]; exact b2), List.getElem?_map, List.getD_eq_getElem?_getD, List.getElem?_eq_getElem (show (k % ns.length).toNat < ns.length by omega)]; rfl
    ktf_call "x"
    · unfold cellI
      rw [if_pos hn]
    · exfalso; omega
  · ktf_call "x"
    all_goals first
      | (exfalso; omega)
      | (unfold cellI; rw [if_neg hn])
theorem ok_law_next {f : Addr} {fd : FuncData} (F : Fun K "_law_next" "_law_next" s_law_next f fd) (hm : mg "_law_next" = some (.ref f)) (T : Mg mg) (D_law_cell : Dn P w K mg base 1 "_law_cell" r_law_cell) : DnM P w K mg base 2 "_law_next" r_law_next := by
  refine dn_ofM F hm (F.binds (ps := ["_law_draw"]) fun _ _ _ _ _ _ us hl => match us, hl with | [_], _ => rfl) ?_
  refine fn_okM F c_law_next (fun l gs ds es d hR => ?_) fun cdv A outer s H E B l gs ds es d hr hR => ?_
  · obtain ⟨ns, k, rfl, rfl, rfl, rfl, h0, h1, hl⟩ := hR
    exact ⟨rfl, one_of [] l []⟩
  obtain ⟨ns, k, rfl, rfl, rfl, rfl, h0, h1, hl⟩ := hR
  have r0 : Rk (Xc P w K mg base n_law_next "_law_next" s_law_next f cdv A outer s H E) 0 "_law_draw" := rk_of2 f_law_next rfl (by decide +kernel)
  have l0 : Lk (Xc P w K mg base n_law_next "_law_next" s_law_next f cdv A outer s H E) 0 "_law_draw" := lk_of2 f_law_next rfl (by decide +kernel)
  have g0 : Gl (Xc P w K mg base n_law_next "_law_next" s_law_next f cdv A outer s H E) "_law_cell" := gl_of2 f_law_next (by decide +kernel)
  have c0 : Ce (Xc P w K mg base n_law_next "_law_next" s_law_next f cdv A outer s H E) "_law_cell" r_law_cell := ce_of D_law_cell hr (by decide) (by decide +kernel)
  have rm : Rm (Xc P w K mg base n_law_next "_law_next" s_law_next f cdv A outer s H E) := ⟨hr.units⟩
  have hG : startM n_law_next [.p l] ([.list (ns.map .int), .int k]) = [.ol l ([.list (ns.map .int), .int k])] := rfl
  rw [show startM n_law_next [.p l] ([.list (ns.map .int), .int k]) = _ from hG]; clear hG
  refine xbe_cons ?_
  refine xs_putOl (i := 0) (j := 1) (kk := 1) (Γ' := [.ol l [.list (ns.map .int), .int (k + 1)]]) r0 ?_ ?_ ?_ ?_ ⟨rfl⟩ ?_ ?_ ?ixs ⟨rfl⟩ ?_
  case ixs => exact ⟨rfl⟩
  any_goals (ktf_call "x"; done)
  refine seq_nx (xbe_one (xsm_ret (i := 0) (xm_pure ?_) ⟨rfl⟩ (ret_rm rfl rfl)))
  ktf_call "x"
  all_goals omega
theorem bits_is (x : PyData) (m : Nat) : (wholeB x && (match x with | .int i => decide (0 ≤ i) && decide (i ≤ 2 ^ m - 1) | _ => false)) = bitsB x m := by cases x <;> rfl
theorem ok_is_bits {f : Addr} {fd : FuncData} (F : Fun K "is_bits" "is_bits" s_is_bits f fd) (hm : mg "is_bits" = some (.ref f)) (T : Mg mg) (D_is_whole : Dn P w K mg base 1 "is_whole" r_is_whole) (D_all_bits : Dn P w K mg base 1 "all_bits" r_all_bits) : Dn P w K mg base 2 "is_bits" r_is_bits := by
  refine dn_of F hm (F.binds (ps := ["thing", "many"]) fun _ _ _ _ _ _ us hl => match us, hl with | [_, _], _ => rfl) ?_
  refine fn_ok F c_is_bits (fun ds d hR => ?_) fun cdv A outer s H E B ds d hr hR => ?_
  · obtain ⟨x, m, rfl, hm, rfl⟩ := hR
    rfl
  obtain ⟨x, m, rfl, hm, rfl⟩ := hR
  have r0 : Rk (Xc P w K mg base n_is_bits "is_bits" s_is_bits f cdv A outer s H E) 0 "thing" := rk_of2 f_is_bits rfl (by decide +kernel)
  have l0 : Lk (Xc P w K mg base n_is_bits "is_bits" s_is_bits f cdv A outer s H E) 0 "thing" := lk_of2 f_is_bits rfl (by decide +kernel)
  have r1 : Rk (Xc P w K mg base n_is_bits "is_bits" s_is_bits f cdv A outer s H E) 1 "many" := rk_of2 f_is_bits rfl (by decide +kernel)
  have l1 : Lk (Xc P w K mg base n_is_bits "is_bits" s_is_bits f cdv A outer s H E) 1 "many" := lk_of2 f_is_bits rfl (by decide +kernel)
  have g0 : Gl (Xc P w K mg base n_is_bits "is_bits" s_is_bits f cdv A outer s H E) "is_whole" := gl_of2 f_is_bits (by decide +kernel)
  have c0 : Ce (Xc P w K mg base n_is_bits "is_bits" s_is_bits f cdv A outer s H E) "is_whole" r_is_whole := ce_of D_is_whole hr (by decide) (by decide +kernel)
  have g1 : Gl (Xc P w K mg base n_is_bits "is_bits" s_is_bits f cdv A outer s H E) "all_bits" := gl_of2 f_is_bits (by decide +kernel)
  have c1 : Ce (Xc P w K mg base n_is_bits "is_bits" s_is_bits f cdv A outer s H E) "all_bits" r_all_bits := ce_of D_all_bits hr (by decide) (by decide +kernel)
  have rm : Rm (Xc P w K mg base n_is_bits "is_bits" s_is_bits f cdv A outer s H E) := ⟨hr.units⟩
  have hG : startG n_is_bits [x, .int m] = [.sh (x), .sh (.int m)] := rfl
  rw [hG]; clear hG
  have c1 : Cal r_all_bits [.int (m : Int)] (.int (2 ^ m - 1)) := ⟨m, rfl, hm, rfl⟩
  cases hx : wholeB x with
  | true =>
    cases x with
    | int i =>
      ktf_call "x"
      rfl
    | _ => cases hx
  | false =>
    have e : bitsB x m = false := by cases x <;> first | rfl | cases hx
    ktf_call "x"
    ktf_call "xf"
    all_goals first
      | (exfalso; rename_i h; rw [hx] at h; cases h)
      | (rw [hx, e]; rfl)
theorem ok_parts_in {f : Addr} {fd : FuncData} (F : Fun K "parts_in" "parts_in" s_parts_in f fd) (hm : mg "parts_in" = some (.ref f)) (T : Mg mg) : Dn P w K mg base 1 "parts_in" r_parts_in := by
  refine dn_of F hm (F.binds (ps := ["bits"]) fun _ _ _ _ _ _ us hl => match us, hl with | [_], _ => rfl) ?_
  refine fn_ok F c_parts_in (fun ds d hR => ?_) fun cdv A outer s H E B ds d hr hR => ?_
  · obtain ⟨b, rfl, hb, rfl⟩ := hR
    rfl
  obtain ⟨b, rfl, hb, rfl⟩ := hR
  have r0 : Rk (Xc P w K mg base n_parts_in "parts_in" s_parts_in f cdv A outer s H E) 0 "bits" := rk_of2 f_parts_in rfl (by decide +kernel)
  have l0 : Lk (Xc P w K mg base n_parts_in "parts_in" s_parts_in f cdv A outer s H E) 0 "bits" := lk_of2 f_parts_in rfl (by decide +kernel)
  have g0 : Gl (Xc P w K mg base n_parts_in "parts_in" s_parts_in f cdv A outer s H E) "range" := gl_of2 f_parts_in (by decide +kernel)
  have b0 : Bi (Xc P w K mg base n_parts_in "parts_in" s_parts_in f cdv A outer s H E) "range" := ⟨g0, T.m_range⟩
  have rm : Rm (Xc P w K mg base n_parts_in "parts_in" s_parts_in f cdv A outer s H E) := ⟨hr.units⟩
  have hG : startG n_parts_in [.int b] = [.sh (.int b), .un] := rfl
  rw [hG]; clear hG
  have hz : Builtin.Int.intBits (b : Int) ≤ 62 := bits_le hb
  refine xbe_one ?_
  refine xs_ret (xp_l (xl_lcB (own := [("i", 1)]) (js := [1]) (ds := rangeD 0 ((Builtin.Int.intBits (b : Int) : Nat) : Int).toNat) (fun d => b.testBit (natOf d)) id (fun d => [.sh (.int b), .sh d]) hr ⟨rfl⟩ l0.nd (blkOk_by (N := n_parts_in) (sc := defScope s_parts_in) (by decide +kernel)) ⟨fun _ => rfl⟩ ?_ ?_ ⟨rfl⟩ ?_)) ?_
  · ktf_call "x"
  · refine ⟨?_⟩
    rw [rangeD_len]
    omega
  · intro X1 B1 B' d hd
    obtain ⟨k, hk, rfl⟩ := range_mem hd
    have r1_X1 : Rk X1 1 "i" := B1.rk rfl rfl
    have l1_X1 : Lk X1 1 "i" := B1.lk l0.nd rfl rfl
    have r0_X1 : Rk X1 0 "bits" := B1.rk rfl rfl
    have rm_X1 : Rm X1 := B1.rm
    have cm_X1 : Tt (X1.calm = true) := B1.cm rfl
    refine ⟨?_, ?_, fun _ => ?_⟩
    · ktf_call "x"
    · refine xq_one ?_
      ktf_call "x"
      exact tru_bit b k
    · ktf_call "x"
  · show RetP _ (.rt (.list _))
    rw [Int.toNat_natCast, List.map_id, range_filter]
    exact .inl rfl
theorem ok_many_in {f : Addr} {fd : FuncData} (F : Fun K "many_in" "many_in" s_many_in f fd) (hm : mg "many_in" = some (.ref f)) (T : Mg mg) (D_parts_in : Dn P w K mg base 1 "parts_in" r_parts_in) : Dn P w K mg base 2 "many_in" r_many_in := by
  refine dn_of F hm (F.binds (ps := ["bits"]) fun _ _ _ _ _ _ us hl => match us, hl with | [_], _ => rfl) ?_
  refine fn_ok F c_many_in (fun ds d hR => ?_) fun cdv A outer s H E B ds d hr hR => ?_
  · obtain ⟨b, rfl, hb, rfl⟩ := hR
    rfl
  obtain ⟨b, rfl, hb, rfl⟩ := hR
  have r0 : Rk (Xc P w K mg base n_many_in "many_in" s_many_in f cdv A outer s H E) 0 "bits" := rk_of2 f_many_in rfl (by decide +kernel)
  have l0 : Lk (Xc P w K mg base n_many_in "many_in" s_many_in f cdv A outer s H E) 0 "bits" := lk_of2 f_many_in rfl (by decide +kernel)
  have g0 : Gl (Xc P w K mg base n_many_in "many_in" s_many_in f cdv A outer s H E) "len" := gl_of2 f_many_in (by decide +kernel)
  have b0 : Bi (Xc P w K mg base n_many_in "many_in" s_many_in f cdv A outer s H E) "len" := ⟨g0, T.m_len⟩
  have g1 : Gl (Xc P w K mg base n_many_in "many_in" s_many_in f cdv A outer s H E) "parts_in" := gl_of2 f_many_in (by decide +kernel)
  have c1 : Ce (Xc P w K mg base n_many_in "many_in" s_many_in f cdv A outer s H E) "parts_in" r_parts_in := ce_of D_parts_in hr (by decide) (by decide +kernel)
  have rm : Rm (Xc P w K mg base n_many_in "many_in" s_many_in f cdv A outer s H E) := ⟨hr.units⟩
  have hG : startG n_many_in [.int b] = [.sh (.int b)] := rfl
  rw [hG]; clear hG
  have c1 : Cal r_parts_in [.int (b : Int)] (.list (natsD (partsL b))) := ⟨b, rfl, hb, rfl⟩
  ktf_call "x"
  unfold natsD cnt
  rw [List.length_map]
theorem ok_crosses {f : Addr} {fd : FuncData} {cc tt : Addr} (F : FunC K "crosses" "crosses" s_crosses f fd (.ref cc)) (TB : GxR.TabB base mg cc tt) (tsT : Tabs.ts tt) (hm : mg "crosses" = some (.ref f)) (T : Mg mg) : Dn P w K mg base 2 "crosses" r_crosses := by
  refine dn_of F.fn hm (F.fn.binds (ps := ["bits", "sets"]) fun _ _ _ _ _ _ us hl => match us, hl with | [_, _], _ => rfl) ?_
  refine fn_okG F c_crosses (fun ds d hR => ?_) fun A outer s H E B ds d hr hR => ?_
  · obtain ⟨b, sets, rfl, rfl⟩ := hR
    rfl
  obtain ⟨b, sets, rfl, rfl⟩ := hR
  have r0 : Rk (Xc P w K mg base n_crosses "crosses" s_crosses f (.ref cc) A outer s H E) 0 "bits" := rk_of2 f_crosses rfl (by decide +kernel)
  have l0 : Lk (Xc P w K mg base n_crosses "crosses" s_crosses f (.ref cc) A outer s H E) 0 "bits" := lk_of2 f_crosses rfl (by decide +kernel)
  have r1 : Rk (Xc P w K mg base n_crosses "crosses" s_crosses f (.ref cc) A outer s H E) 1 "sets" := rk_of2 f_crosses rfl (by decide +kernel)
  have l1 : Lk (Xc P w K mg base n_crosses "crosses" s_crosses f (.ref cc) A outer s H E) 1 "sets" := lk_of2 f_crosses rfl (by decide +kernel)
  have g0 : Gl (Xc P w K mg base n_crosses "crosses" s_crosses f (.ref cc) A outer s H E) "all" := gl_of2 f_crosses (by decide +kernel)
  have b0 : Bi (Xc P w K mg base n_crosses "crosses" s_crosses f (.ref cc) A outer s H E) "all" := ⟨g0, T.m_all⟩
  have rm : Rm (Xc P w K mg base n_crosses "crosses" s_crosses f (.ref cc) A outer s H E) := ⟨hr.units⟩
  have gx : Gx (Xc P w K mg base n_crosses "crosses" s_crosses f (.ref cc) A outer s H E) cc tt := ⟨TB, tsT, rfl, _, hr⟩
  have hG : startG n_crosses [.int b, .tuple (natsD sets)] = [.sh (.int b), .sh (.tuple (natsD sets)), .un] := rfl
  rw [hG]; clear hG
  refine xbe_one ?_
  refine xs_ret (xe_allB (own := [("other", 2)]) (js := [2]) (ds := natsD sets) (fun d => decide (b &&& natOf d ≠ 0)) (fun d => [.sh (.int b), .sh (.tuple (natsD sets)), .sh d]) (fun d => .int ((b &&& natOf d : Nat) : Int)) hr (by decide : 0 + 1 ≤ 1) gx (by assumption) (gsc_by (N := n_crosses) (sc := defScope s_crosses) (by decide +kernel)) ⟨fun _ => rfl⟩ ⟨rfl⟩ ?_ ⟨rfl⟩ ?_ ?_) ?_
  · ktf_call "x"
  · intro X1 B1 d hd
    unfold natsD at hd
    obtain ⟨o, ho, rfl⟩ := List.mem_map.mp hd
    have r0_X1 : Rk X1 0 "bits" := B1.rk rfl rfl
    have r2_X1 : Rk X1 2 "other" := B1.rk rfl rfl
    have l2_X1 : Lk X1 2 "other" := B1.lk l0.nd rfl rfl
    have rm_X1 : Rm X1 := B1.rm
    have cm_X1 : Tt (X1.calm = true) := B1.cm rfl
    refine ⟨?_, ?_⟩
    · ktf_call "x"
    · rw [← andN]
      ktf_call "x"
      skip
  · intro d hd
    show some ((((b &&& natOf d : Nat) : Int)) != 0) = _
    congr 1
    by_cases h : b &&& natOf d = 0
    · rw [h]; rfl
    · rw [decide_eq_true h]
      simpa using h
  · show RetP _ (.rt (.bool _))
    refine .inl ?_
    unfold natsD crossB
    rw [List.all_map]
    rfl
theorem ok_is_least {f : Addr} {fd : FuncData} {cc tt : Addr} (F : FunC K "is_least" "is_least" s_is_least f fd (.ref cc)) (TB : GxR.TabB base mg cc tt) (tsT : Tabs.ts tt) (hm : mg "is_least" = some (.ref f)) (T : Mg mg) (D_parts_in : Dn P w K mg base 1 "parts_in" r_parts_in) : Dn P w K mg base 2 "is_least" r_is_least := by
  refine dn_of F.fn hm (F.fn.binds (ps := ["bits", "meets"]) fun _ _ _ _ _ _ us hl => match us, hl with | [_, _], _ => rfl) ?_
  refine fn_okG F c_is_least (fun ds d hR => ?_) fun A outer s H E B ds d hr hR => ?_
  · obtain ⟨n, b, m, rfl, hn, hb, rfl⟩ := hR
    rfl
  obtain ⟨n, b, m, rfl, hn, hb, rfl⟩ := hR
  have r0 : Rk (Xc P w K mg base n_is_least "is_least" s_is_least f (.ref cc) A outer s H E) 0 "bits" := rk_of2 f_is_least rfl (by decide +kernel)
  have l0 : Lk (Xc P w K mg base n_is_least "is_least" s_is_least f (.ref cc) A outer s H E) 0 "bits" := lk_of2 f_is_least rfl (by decide +kernel)
  have r1 : Rk (Xc P w K mg base n_is_least "is_least" s_is_least f (.ref cc) A outer s H E) 1 "meets" := rk_of2 f_is_least rfl (by decide +kernel)
  have l1 : Lk (Xc P w K mg base n_is_least "is_least" s_is_least f (.ref cc) A outer s H E) 1 "meets" := lk_of2 f_is_least rfl (by decide +kernel)
  have g0 : Gl (Xc P w K mg base n_is_least "is_least" s_is_least f (.ref cc) A outer s H E) "any" := gl_of2 f_is_least (by decide +kernel)
  have b0 : Bi (Xc P w K mg base n_is_least "is_least" s_is_least f (.ref cc) A outer s H E) "any" := ⟨g0, T.m_any⟩
  have g1 : Gl (Xc P w K mg base n_is_least "is_least" s_is_least f (.ref cc) A outer s H E) "parts_in" := gl_of2 f_is_least (by decide +kernel)
  have c1 : Ce (Xc P w K mg base n_is_least "is_least" s_is_least f (.ref cc) A outer s H E) "parts_in" r_parts_in := ce_of D_parts_in hr (by decide) (by decide +kernel)
  have rm : Rm (Xc P w K mg base n_is_least "is_least" s_is_least f (.ref cc) A outer s H E) := ⟨hr.units⟩
  have gx : Gx (Xc P w K mg base n_is_least "is_least" s_is_least f (.ref cc) A outer s H E) cc tt := ⟨TB, tsT, rfl, _, hr⟩
  have hG : startG n_is_least [.int b, .list (boolsD (meetsL (2 ^ n) m))] = [.sh (.int b), .sh (.list (boolsD (meetsL (2 ^ n) m))), .un] := rfl
  rw [hG]; clear hG
  have hb62 : b < 2 ^ 62 := Nat.lt_of_lt_of_le hb (Nat.pow_le_pow_right (by decide) (by omega))
  have c1 : Cal r_parts_in [.int (b : Int)] (.list (natsD (partsL b))) := ⟨b, rfl, hb62, rfl⟩
  have a1 := bools_at (2 ^ n) m (rfl : (b : Int) = (b : Nat)) hb
  refine xbe_one ?_
  refine xs_ret (d := .bool (m b && !((natsD (partsL b)).any fun d => m (b - 2 ^ natOf d)))) (xe_and ?_ fun _ => xp_one (xp_not (xe_anyB (own := [("i", 2)]) (js := [2]) (ds := natsD (partsL b)) (fun d => m (b - 2 ^ natOf d)) (fun d => [.sh (.int b), .sh (.list (boolsD (meetsL (2 ^ n) m))), .sh d]) (fun d => .bool (m (b - 2 ^ natOf d))) hr (by decide : 0 + 1 ≤ 1) gx (by assumption) (gsc_by (N := n_is_least) (sc := defScope s_is_least) (by decide +kernel)) ⟨fun _ => rfl⟩ ⟨rfl⟩ ?_ ⟨rfl⟩ ?_ ?_))) ?_
  · ktf_call "x"
  · ktf_call "x"
  · intro X1 B1 d hd
    unfold natsD at hd
    obtain ⟨i, hi, rfl⟩ := List.mem_map.mp hd
    have r1_X1 : Rk X1 1 "meets" := B1.rk rfl rfl
    have r0_X1 : Rk X1 0 "bits" := B1.rk rfl rfl
    have r2_X1 : Rk X1 2 "i" := B1.rk rfl rfl
    have l2_X1 : Lk X1 2 "i" := B1.lk l0.nd rfl rfl
    have rm_X1 : Rm X1 := B1.rm
    have cm_X1 : Tt (X1.calm = true) := B1.cm rfl
    have xo := xorAt (mem_parts.mp hi)
    have a2 : Side (atI (boolsD (meetsL (2 ^ n) m)) (Builtin.bitXor (b : Int) (2 ^ ((i : Nat) : Int).toNat)) = some (.bool (m (b - 2 ^ i)))) := by
      refine bools_at (2 ^ n) m ?_ (Nat.lt_of_le_of_lt (Nat.sub_le _ _) hb)
      rw [Int.toNat_natCast]
      exact xo.1
    have hi12 : i < n := parts_lt hb hi
    refine ⟨?_, ?_⟩
    · ktf_call "x"
    · show Xp _ _ _ _ (.bool (m (b - 2 ^ i)))
      ktf_call "x"
      skip
  · intro d hd
    rfl
  · show RetP _ (.rt (.bool _))
    refine .inl ?_
    unfold natsD leastB
    rw [List.any_map]
    rfl
theorem ok_least_of {f : Addr} {fd : FuncData} (F : Fun K "least_of" "least_of" s_least_of f fd) (hm : mg "least_of" = some (.ref f)) (T : Mg mg) (D_many_in : Dn P w K mg base 2 "many_in" r_many_in) (D_is_least : Dn P w K mg base 2 "is_least" r_is_least) : Dn P w K mg base 5 "least_of" r_least_of := by
  refine dn_of F hm (F.binds (ps := ["meets"]) fun _ _ _ _ _ _ us hl => match us, hl with | [_], _ => rfl) ?_
  refine fn_ok F c_least_of (fun ds d hR => ?_) fun cdv A outer s H E B ds d hr hR => ?_
  · obtain ⟨n, m, rfl, hn, rfl⟩ := hR
    rfl
  obtain ⟨n, m, rfl, hn, rfl⟩ := hR
  have r0 : Rk (Xc P w K mg base n_least_of "least_of" s_least_of f cdv A outer s H E) 0 "meets" := rk_of2 f_least_of rfl (by decide +kernel)
  have l0 : Lk (Xc P w K mg base n_least_of "least_of" s_least_of f cdv A outer s H E) 0 "meets" := lk_of2 f_least_of rfl (by decide +kernel)
  have r1 : Rk (Xc P w K mg base n_least_of "least_of" s_least_of f cdv A outer s H E) 1 "found" := rk_of2 f_least_of rfl (by decide +kernel)
  have l1 : Lk (Xc P w K mg base n_least_of "least_of" s_least_of f cdv A outer s H E) 1 "found" := lk_of2 f_least_of rfl (by decide +kernel)
  have g0 : Gl (Xc P w K mg base n_least_of "least_of" s_least_of f cdv A outer s H E) "range" := gl_of2 f_least_of (by decide +kernel)
  have b0 : Bi (Xc P w K mg base n_least_of "least_of" s_least_of f cdv A outer s H E) "range" := ⟨g0, T.m_range⟩
  have g1 : Gl (Xc P w K mg base n_least_of "least_of" s_least_of f cdv A outer s H E) "len" := gl_of2 f_least_of (by decide +kernel)
  have b1 : Bi (Xc P w K mg base n_least_of "least_of" s_least_of f cdv A outer s H E) "len" := ⟨g1, T.m_len⟩
  have g2 : Gl (Xc P w K mg base n_least_of "least_of" s_least_of f cdv A outer s H E) "tuple" := gl_of2 f_least_of (by decide +kernel)
  have b2 : Bi (Xc P w K mg base n_least_of "least_of" s_least_of f cdv A outer s H E) "tuple" := ⟨g2, T.m_tuple⟩
  have t2 : Ty (Xc P w K mg base n_least_of "least_of" s_least_of f cdv A outer s H E) "tuple" .tuple := ⟨b2, by decide +kernel, by decide +kernel, by decide +kernel⟩
  have g3 : Gl (Xc P w K mg base n_least_of "least_of" s_least_of f cdv A outer s H E) "sorted" := gl_of2 f_least_of (by decide +kernel)
  have b3 : Bi (Xc P w K mg base n_least_of "least_of" s_least_of f cdv A outer s H E) "sorted" := ⟨g3, T.m_sorted⟩
  have g4 : Gl (Xc P w K mg base n_least_of "least_of" s_least_of f cdv A outer s H E) "many_in" := gl_of2 f_least_of (by decide +kernel)
  have c4 : Ce (Xc P w K mg base n_least_of "least_of" s_least_of f cdv A outer s H E) "many_in" r_many_in := ce_of D_many_in hr (by decide) (by decide +kernel)
  have k4 : CeK (Xc P w K mg base n_least_of "least_of" s_least_of f cdv A outer s H E) "many_in" r_many_in := cek_of (X := (Xc P w K mg base n_least_of "least_of" s_least_of f cdv A outer s H E)) D_many_in hr (by decide) (by decide +kernel)
  have rm : Rm (Xc P w K mg base n_least_of "least_of" s_least_of f cdv A outer s H E) := ⟨hr.units⟩
  have hG : startG n_least_of [.list (boolsD (meetsL (2 ^ n) m))] = [.sh (.list (boolsD (meetsL (2 ^ n) m))), .un, .un] := rfl
  rw [hG]; clear hG
  have hp : 2 ^ n ≤ 4096 := Nat.le_trans (Nat.pow_le_pow_right (by decide) hn) (by decide)
  have hl : (boolsD (meetsL (2 ^ n) m)).length = 2 ^ n := by unfold boolsD meetsL; rw [List.length_map, List.length_map, List.length_range]
  refine xbe_cons ?_
  refine xs_setB (i := 1) (own := [("bits", 2)]) (js := [2]) (ds := rangeD 0 (((boolsD (meetsL (2 ^ n) m)).length : Nat) : Int).toNat) (Γ' := [.sh (.list (boolsD (meetsL (2 ^ n) m))), .sh (.list (natsD ((List.range (2 ^ n)).filter (leastB m)))), .un]) false (fun d => leastB m (natOf d)) id (fun d => [.sh (.list (boolsD (meetsL (2 ^ n) m))), .un, .sh d]) hr l1 ⟨rfl⟩ ⟨rfl⟩ (blkOk_by (N := n_least_of) (sc := defScope s_least_of) (by decide +kernel)) ⟨rfl⟩ ⟨fun _ => rfl⟩ ?_ ?_ ⟨rfl⟩ ?_ ?_ ?_
  · ktf_call "x"
    skip
  · refine ⟨?_⟩
    rw [rangeD_len]
    omega
  · intro X1 B1 B' d hd
    obtain ⟨k, hk, rfl⟩ := range_mem hd
    rw [Int.toNat_natCast, hl] at hk
    have r2_X1 : Rk X1 2 "bits" := B1.rk rfl rfl
    have l2_X1 : Lk X1 2 "bits" := B1.lk l0.nd rfl rfl
    have g_is_least_X1 : Gl X1 "is_least" := B1.gl rfl
    have c_is_least_X1 : Ce X1 "is_least" r_is_least := B1.ce D_is_least (by decide) (by decide +kernel)
    have r0_X1 : Rk X1 0 "meets" := B1.rk rfl rfl
    have rm_X1 : Rm X1 := B1.rm
    have cm_X1 : Tt (X1.calm = true) := B1.cm rfl
    have c2 : Cal r_is_least [.int (k : Nat), .list (boolsD (meetsL (2 ^ n) m))] (.bool (leastB m k)) := ⟨n, k, m, rfl, hn, hk, rfl⟩
    refine ⟨?_, ?_, fun _ => ?_⟩
    · ktf_call "x"
    · show Xq _ _ _ _ (leastB m k)
      refine xq_one ?_
      ktf_call "x"
    · ktf_call "x"
  · refine ⟨?_⟩
    rw [Int.toNat_natCast, hl, range_filter, List.map_id]
    rfl
  · refine seq_nx ?_
    refine xbe_one ?_
    refine xs_ret (xe_tuple (by assumption) ⟨rfl⟩ ⟨rfl⟩ (xp_l (xl_sortedF (β := Nat) (R := r_many_in) (bs := (List.range (2 ^ n)).filter (leastB m)) (fun b => .int (b : Nat)) (fun b => (cnt b : Nat)) (by assumption) (by assumption) (by assumption) (by assumption) ⟨rfl⟩ ⟨rfl⟩ ⟨rfl⟩ ⟨rfl⟩ ⟨rfl⟩ ⟨rfl⟩ ?_ ?_)) .lst) ?_
    · ktf_call "x"
    · intro b hb
      have hb' := List.mem_range.mp (List.mem_filter.mp hb).1
      exact ⟨b, rfl, Nat.lt_of_lt_of_le hb' (Nat.pow_le_pow_right (by decide) (by omega)), rfl⟩
    · refine .inl ?_
      unfold leastL natsD
      rw [PySem.W.dataLe_int]
theorem bits_ok {b m : Nat} (h : b < 2 ^ m) : bitsB (.int (b : Nat)) m = true := by
  have : (b : Int) < ((2 ^ m : Nat) : Int) := by exact_mod_cast h
  have e : ((2 ^ m : Nat) : Int) = 2 ^ m := by norm_cast
  show (decide (0 ≤ (b : Int)) && decide ((b : Int) ≤ 2 ^ m - 1)) = true
  rw [decide_eq_true (by omega), decide_eq_true (by omega)]
  rfl
theorem ok_cross {f : Addr} {fd : FuncData} {cc tt : Addr} (F : FunC K "cross" "cross" s_cross f fd (.ref cc)) (TB : GxR.TabB base mg cc tt) (tsT : Tabs.ts tt) (hm : mg "cross" = some (.ref f)) (T : Mg mg) (D_is_whole : Dn P w K mg base 1 "is_whole" r_is_whole) (D_least_of : Dn P w K mg base 5 "least_of" r_least_of) (D_is_bits : Dn P w K mg base 2 "is_bits" r_is_bits) (D_crosses : Dn P w K mg base 2 "crosses" r_crosses) (C_MOST_PARTS : CnM K mg "MOST_PARTS" d_MOST_PARTS) (X_BadSets : ExB K mg "BadSets") : DnX P w K mg base 6 "cross" r_cross := by
  refine dn_ofX F.fn hm (F.fn.binds (ps := ["sets", "many"]) fun _ _ _ _ _ _ us hl => match us, hl with | [_, _], _ => rfl) ?_
  refine fn_okGX F c_cross (fun ds r hR => ?_) fun A outer s H E B ds r hr hR ax => ?_
  · obtain ⟨sx, mx, rfl, hR⟩ := hR
    rfl
  obtain ⟨sx, mx, rfl, hR⟩ := hR
  have r0 : Rk (Xe P w K mg base n_cross "cross" s_cross f (.ref cc) A outer s H E) 0 "sets" := like_xe.rk (rk_of2 f_cross rfl (by decide +kernel))
  have l0 : Lk (Xe P w K mg base n_cross "cross" s_cross f (.ref cc) A outer s H E) 0 "sets" := like_xe.lk (lk_of2 f_cross rfl (by decide +kernel))
  have r1 : Rk (Xe P w K mg base n_cross "cross" s_cross f (.ref cc) A outer s H E) 1 "many" := like_xe.rk (rk_of2 f_cross rfl (by decide +kernel))
  have l1 : Lk (Xe P w K mg base n_cross "cross" s_cross f (.ref cc) A outer s H E) 1 "many" := like_xe.lk (lk_of2 f_cross rfl (by decide +kernel))
  have g0 : Gl (Xe P w K mg base n_cross "cross" s_cross f (.ref cc) A outer s H E) "is_whole" := like_xe.gl (gl_of2 f_cross (by decide +kernel))
  have c0 : Ce (Xe P w K mg base n_cross "cross" s_cross f (.ref cc) A outer s H E) "is_whole" r_is_whole := like_xe.ce (ce_of D_is_whole hr (by decide) (by decide +kernel))
  have g1 : Gl (Xe P w K mg base n_cross "cross" s_cross f (.ref cc) A outer s H E) "MOST_PARTS" := like_xe.gl (gl_of2 f_cross (by decide +kernel))
  have c1 : Cn (Xe P w K mg base n_cross "cross" s_cross f (.ref cc) A outer s H E) "MOST_PARTS" d_MOST_PARTS := like_xe.cn (C_MOST_PARTS.at)
  have gk_BadSets : Gl (Xe P w K mg base n_cross "cross" s_cross f (.ref cc) A outer s H E) "BadSets" := like_xe.gl (gl_of2 f_cross (by decide +kernel))
  have g3 : Gl (Xe P w K mg base n_cross "cross" s_cross f (.ref cc) A outer s H E) "isinstance" := like_xe.gl (gl_of2 f_cross (by decide +kernel))
  have b3 : Bi (Xe P w K mg base n_cross "cross" s_cross f (.ref cc) A outer s H E) "isinstance" := ⟨g3, T.m_isinstance⟩
  have g4 : Gl (Xe P w K mg base n_cross "cross" s_cross f (.ref cc) A outer s H E) "tuple" := like_xe.gl (gl_of2 f_cross (by decide +kernel))
  have b4 : Bi (Xe P w K mg base n_cross "cross" s_cross f (.ref cc) A outer s H E) "tuple" := ⟨g4, T.m_tuple⟩
  have t4 : Ty (Xe P w K mg base n_cross "cross" s_cross f (.ref cc) A outer s H E) "tuple" .tuple := ⟨b4, by decide +kernel, by decide +kernel, by decide +kernel⟩
  have g5 : Gl (Xe P w K mg base n_cross "cross" s_cross f (.ref cc) A outer s H E) "all" := like_xe.gl (gl_of2 f_cross (by decide +kernel))
  have b5 : Bi (Xe P w K mg base n_cross "cross" s_cross f (.ref cc) A outer s H E) "all" := ⟨g5, T.m_all⟩
  have g6 : Gl (Xe P w K mg base n_cross "cross" s_cross f (.ref cc) A outer s H E) "least_of" := like_xe.gl (gl_of2 f_cross (by decide +kernel))
  have c6 : Ce (Xe P w K mg base n_cross "cross" s_cross f (.ref cc) A outer s H E) "least_of" r_least_of := like_xe.ce (ce_of D_least_of hr (by decide) (by decide +kernel))
  have g7 : Gl (Xe P w K mg base n_cross "cross" s_cross f (.ref cc) A outer s H E) "range" := like_xe.gl (gl_of2 f_cross (by decide +kernel))
  have b7 : Bi (Xe P w K mg base n_cross "cross" s_cross f (.ref cc) A outer s H E) "range" := ⟨g7, T.m_range⟩
  have rm : Rm (Xe P w K mg base n_cross "cross" s_cross f (.ref cc) A outer s H E) := ⟨hr.units⟩
  have axs : ∀ nm, r = .er nm → ∀ Γ, AX (Xe P w K mg base n_cross "cross" s_cross f (.ref cc) A outer s H E) B Γ nm := fun nm e Γ => ax nm e Γ B rfl rfl
  have gx : Gx (Xe P w K mg base n_cross "cross" s_cross f (.ref cc) A outer s H E) cc tt := ⟨TB, tsT, rfl, _, hr⟩
  have hG : startG n_cross [sx, mx] = [.sh (sx), .sh (mx), .un] := rfl
  rw [hG]; clear hG
  cases hR with
  | many h =>
    have axb := axs _ rfl
    cases hw : wholeB mx with
    | false =>
      have c1 : Cal r_is_whole [mx] (.bool false) := ⟨mx, rfl, by rw [hw]⟩
      refine xbe_cons ?_
      refine xs_if (p := true) (xt_w (xw_or (p := true) (q := false) ?_ fun z => by cases z)) (fun _ => ?_) fun z => by cases z
      · refine xt_not (p := false) ?_
        ktf_call "x"
      · exact xbe_one (xs_raise X_BadSets (by assumption) (axb _) ⟨rfl⟩)
    | true =>
      obtain ⟨i, rfl⟩ : ∃ i, mx = .int i := by cases mx <;> first | exact ⟨_, rfl⟩ | cases hw
      have c1 : Cal r_is_whole [.int i] (.bool true) := ⟨_, rfl, rfl⟩
      have hq : (decide (1 ≤ i) && decide (i ≤ 12)) = false := by
        refine Bool.eq_false_iff.mpr fun z => h ⟨i.toNat, ?_⟩
        simp only [Bool.and_eq_true, decide_eq_true_eq] at z
        exact ⟨by rw [Int.toNat_of_nonneg (by omega)], by omega, by omega⟩
      refine xbe_cons ?_
      refine xs_if (p := true) (xt_w (xw_or (p := false) (q := true) ?_ fun _ => ?_)) (fun _ => ?_) fun z => by cases z
      · refine xt_not (p := true) ?_
        ktf_call "x"
      · refine xw_or1 (xt_not (p := false) ?_)
        rw [← hq]
        ktf_call "x"
        skip
      · exact xbe_one (xs_raise X_BadSets (by assumption) (axb _) ⟨rfl⟩)
  | sets h hs =>
    rename_i m
    have axb := axs _ rfl
    have c1 : Cal r_is_whole [.int (m : Int)] (.bool true) := ⟨_, rfl, rfl⟩
    have hq : (decide (1 ≤ (m : Int)) && decide ((m : Int) ≤ 12)) = true := by
      rw [decide_eq_true (by omega), decide_eq_true (by omega)]; rfl
    refine xbe_cons ?_
    refine xs_if (p := false) (xt_w (xw_or (p := false) (q := false) ?_ fun _ => ?_)) (fun z => by cases z) fun _ => xb_nil (seq_nx ?_)
    · refine xt_not (p := true) ?_
      ktf_call "x"
    · refine xw_or1 (xt_not (p := true) ?_)
      rw [← hq]
      ktf_call "x"
    refine xbe_cons ?_
    cases ht : isiD sx .tuple with
    | false =>
      refine xs_if (p := true) (xt_w (xw_or (p := true) (q := false) ?_ fun z => by cases z)) (fun _ => ?_) fun z => by cases z
      · refine xt_not (p := false) ?_
        rw [← ht]
        ktf_call "x"
      · exact xbe_one (xs_raise X_BadSets (by assumption) (axb _) ⟨rfl⟩)
    | true =>
      obtain ⟨es, rfl⟩ : ∃ es, sx = .tuple es := by cases sx <;> first | exact ⟨_, rfl⟩ | cases ht
      have hf : (es.all fun d => bitsB d m) = false := Bool.eq_false_iff.mpr fun z => hs ⟨es, rfl, z⟩
      refine xs_if (p := true) (xt_w (xw_or (p := false) (q := true) ?_ fun _ => ?_)) (fun _ => ?_) fun z => by cases z
      · refine xt_not (p := true) ?_
        rw [← ht]
        ktf_call "x"
      · refine xw_or1 (xt_not (p := false) (xte_bool ⟨fun _ => rfl⟩ ?_))
        rw [show PyData.bool false = PyData.bool (es.all fun d => bitsB d m) by rw [hf]]
        refine xe_allB (own := [("bits", 2)]) (js := [2]) (ds := es) (fun d => bitsB d m) (fun d => [.sh (.tuple es), .sh (.int (m : Int)), .sh d]) (fun d => .bool (bitsB d m)) hr (by decide : 4 + 1 ≤ 5) gx (by assumption) (gsc_by (N := n_cross) (sc := defScope s_cross) (by decide +kernel)) ⟨fun _ => rfl⟩ ⟨rfl⟩ ?_ ⟨rfl⟩ ?_ ?_
        · ktf_call "x"
        · intro X1 B1 d hd
          have g_is_bits_X1 : Gl X1 "is_bits" := B1.gl rfl
          have c_is_bits_X1 : Ce X1 "is_bits" r_is_bits := B1.ce D_is_bits (by decide) (by decide +kernel)
          have r2_X1 : Rk X1 2 "bits" := B1.rk rfl rfl
          have l2_X1 : Lk X1 2 "bits" := B1.lk l0.nd rfl rfl
          have r1_X1 : Rk X1 1 "many" := B1.rk rfl rfl
          have rm_X1 : Rm X1 := B1.rm
          have cm_X1 : Tt (X1.calm = true) := B1.cm rfl
          have c2 : Cal r_is_bits [d, .int (m : Int)] (.bool (bitsB d m)) := ⟨d, m, rfl, by omega, rfl⟩
          refine ⟨?_, ?_⟩
          · ktf_call "x"
          · ktf_call "x"
        · intro d hd
          rfl
      · exact xbe_one (xs_raise X_BadSets (by assumption) (axb _) ⟨rfl⟩)
  | ok h hs =>
    rename_i sets m
    have c1 : Cal r_is_whole [.int (m : Int)] (.bool true) := ⟨_, rfl, rfl⟩
    have hq : (decide (1 ≤ (m : Int)) && decide ((m : Int) ≤ 12)) = true := by
      rw [decide_eq_true (by omega), decide_eq_true (by omega)]; rfl
    have hp : 2 ^ m ≤ 4096 := Nat.le_trans (Nat.pow_le_pow_right (by decide) h.2) (by decide)
    have ht : (natsD sets).all (fun d => bitsB d m) = true := by
      rw [List.all_eq_true]
      intro d hd
      obtain ⟨b, hb, rfl⟩ := List.mem_map.mp hd
      exact bits_ok (hs b hb)
    refine xbe_cons ?_
    refine xs_if (p := false) (xt_w (xw_or (p := false) (q := false) ?_ fun _ => ?_)) (fun z => by cases z) fun _ => xb_nil (seq_nx ?_)
    · refine xt_not (p := true) ?_
      ktf_call "x"
    · refine xw_or1 (xt_not (p := true) ?_)
      rw [← hq]
      ktf_call "x"
    refine xbe_cons ?_
    refine xs_if (p := false) (xt_w (xw_or (p := false) (q := false) ?_ fun _ => ?_)) (fun z => by cases z) fun _ => xb_nil (seq_nx ?_)
    · refine xt_not (p := true) ?_
      rw [show true = isiD (.tuple (natsD sets)) .tuple from rfl]
      ktf_call "x"
    · refine xw_or1 (xt_not (p := true) (xte_bool ⟨fun _ => rfl⟩ ?_))
      rw [show PyData.bool true = PyData.bool ((natsD sets).all fun d => bitsB d m) by rw [ht]]
      refine xe_allB (own := [("bits", 2)]) (js := [2]) (ds := natsD sets) (fun d => bitsB d m) (fun d => [.sh (.tuple (natsD sets)), .sh (.int (m : Int)), .sh d]) (fun d => .bool (bitsB d m)) hr (by decide : 4 + 1 ≤ 5) gx (by assumption) (gsc_by (N := n_cross) (sc := defScope s_cross) (by decide +kernel)) ⟨fun _ => rfl⟩ ⟨rfl⟩ ?_ ⟨rfl⟩ ?_ ?_
      · ktf_call "x"
      · intro X1 B1 d hd
        have g_is_bits_X1 : Gl X1 "is_bits" := B1.gl rfl
        have c_is_bits_X1 : Ce X1 "is_bits" r_is_bits := B1.ce D_is_bits (by decide) (by decide +kernel)
        have r2_X1 : Rk X1 2 "bits" := B1.rk rfl rfl
        have l2_X1 : Lk X1 2 "bits" := B1.lk l0.nd rfl rfl
        have r1_X1 : Rk X1 1 "many" := B1.rk rfl rfl
        have rm_X1 : Rm X1 := B1.rm
        have cm_X1 : Tt (X1.calm = true) := B1.cm rfl
        have c2 : Cal r_is_bits [d, .int (m : Int)] (.bool (bitsB d m)) := ⟨d, m, rfl, by omega, rfl⟩
        refine ⟨?_, ?_⟩
        · ktf_call "x"
        · ktf_call "x"
      · intro d hd
        rfl
    have c3 : Cal r_least_of [.list (boolsD (meetsL (2 ^ m) (crossB sets)))] (.tuple (natsD (leastL (2 ^ m) (crossB sets)))) := ⟨m, crossB sets, rfl, h.2, rfl⟩
    have e2 : ((2 : Int) ^ ((m : Nat) : Int).toNat).toNat = 2 ^ m := by
      rw [Int.toNat_natCast]
      exact Int.toNat_natCast (2 ^ m) ▸ (by norm_cast)
    have eL : ((rangeD 0 ((2 : Int) ^ ((m : Nat) : Int).toNat).toNat).filter (fun _ => true)).map (fun d => PyData.bool (crossB sets (natOf d))) = boolsD (meetsL (2 ^ m) (crossB sets)) := by
      rw [e2, List.filter_eq_self.mpr (fun _ _ => rfl)]
      unfold rangeD boolsD meetsL
      rw [List.map_map, List.map_map]
      refine List.map_congr_left fun i _ => ?_
      show PyData.bool (crossB sets (natOf (.int (0 + (i : Int))))) = .bool (crossB sets i)
      rw [Int.zero_add]
      rfl
    refine xbe_one ?_
    refine xs_ret (xe_call (by assumption) (by assumption) ⟨rfl⟩ ⟨rfl⟩ (xae_cons ⟨rfl⟩ (xp_l ?_) xa_nil) c3) (.inl rfl)
    rw [← eL]
    refine xl_lcB (own := [("bits", 2)]) (js := [2]) (fun _ => true) (fun d => .bool (crossB sets (natOf d))) (fun d => [.sh (.tuple (natsD sets)), .sh (.int (m : Int)), .sh d]) hr ⟨rfl⟩ l0.nd (blkOk_by (N := n_cross) (sc := defScope s_cross) (by decide +kernel)) ⟨fun _ => rfl⟩ ?_ ?_ ⟨rfl⟩ ?_
    · have s2 : Side (-(2 ^ 62) ≤ (2 : Int) ^ ((m : Nat) : Int).toNat ∧ (2 : Int) ^ ((m : Nat) : Int).toNat < 2 ^ 62) := by
        refine ⟨?_⟩
        rw [Int.toNat_natCast]
        have : ((2 ^ m : Nat) : Int) = 2 ^ m := by norm_cast
        omega
      ktf_call "x"
    · refine ⟨?_⟩
      rw [rangeD_len, e2]
      omega
    · intro X1 B1 B' d hd
      obtain ⟨k, hk, rfl⟩ := range_mem hd
      have g_crosses_X1 : Gl X1 "crosses" := B1.gl rfl
      have c_crosses_X1 : Ce X1 "crosses" r_crosses := B1.ce D_crosses (by decide) (by decide +kernel)
      have r2_X1 : Rk X1 2 "bits" := B1.rk rfl rfl
      have l2_X1 : Lk X1 2 "bits" := B1.lk l0.nd rfl rfl
      have r0_X1 : Rk X1 0 "sets" := B1.rk rfl rfl
      have rm_X1 : Rm X1 := B1.rm
      have cm_X1 : Tt (X1.calm = true) := B1.cm rfl
      have c4 : Cal r_crosses [.int (k : Nat), .tuple (natsD sets)] (.bool (crossB sets k)) := ⟨k, sets, rfl, rfl⟩
      refine ⟨?_, xq_nil, fun _ => ?_⟩
      · ktf_call "x"
      · show Xp _ _ _ _ (.bool (crossB sets k))
        ktf_call "x"
def pairD (b : Nat) : PyData := .tuple [.int (cnt b : Nat), .int (b : Nat)]
def sndD : PyData → PyData
  | .tuple [_, x] => x
  | _ => .none
def fstD : PyData → PyData
  | .tuple [x, _] => x
  | _ => .none
theorem ok_law_least {f : Addr} {fd : FuncData} (F : Fun K "_law_least" "_law_least" s_law_least f fd) (hm : mg "_law_least" = some (.ref f)) (T : Mg mg) : Dn P w K mg base 1 "_law_least" r_law_least := by
  refine dn_of F hm (F.binds (ps := ["_law_some"]) fun _ _ _ _ _ _ us hl => match us, hl with | [_], _ => rfl) ?_
  refine fn_ok F c_law_least (fun ds d hR => ?_) fun cdv A outer s H E B ds d hr hR => ?_
  · obtain ⟨n, m, rfl, hn, rfl⟩ := hR
    rfl
  obtain ⟨n, m, rfl, hn, rfl⟩ := hR
  have r0 : Rk (Xc P w K mg base n_law_least "_law_least" s_law_least f cdv A outer s H E) 0 "_law_some" := rk_of2 f_law_least rfl (by decide +kernel)
  have l0 : Lk (Xc P w K mg base n_law_least "_law_least" s_law_least f cdv A outer s H E) 0 "_law_some" := lk_of2 f_law_least rfl (by decide +kernel)
  have r1 : Rk (Xc P w K mg base n_law_least "_law_least" s_law_least f cdv A outer s H E) 1 "_law_bits" := rk_of2 f_law_least rfl (by decide +kernel)
  have l1 : Lk (Xc P w K mg base n_law_least "_law_least" s_law_least f cdv A outer s H E) 1 "_law_bits" := lk_of2 f_law_least rfl (by decide +kernel)
  have r2 : Rk (Xc P w K mg base n_law_least "_law_least" s_law_least f cdv A outer s H E) 2 "_law_known" := rk_of2 f_law_least rfl (by decide +kernel)
  have l2 : Lk (Xc P w K mg base n_law_least "_law_least" s_law_least f cdv A outer s H E) 2 "_law_known" := lk_of2 f_law_least rfl (by decide +kernel)
  have r3 : Rk (Xc P w K mg base n_law_least "_law_least" s_law_least f cdv A outer s H E) 3 "_law_found" := rk_of2 f_law_least rfl (by decide +kernel)
  have l3 : Lk (Xc P w K mg base n_law_least "_law_least" s_law_least f cdv A outer s H E) 3 "_law_found" := lk_of2 f_law_least rfl (by decide +kernel)
  have r4 : Rk (Xc P w K mg base n_law_least "_law_least" s_law_least f cdv A outer s H E) 4 "_law_own" := rk_of2 f_law_least rfl (by decide +kernel)
  have l4 : Lk (Xc P w K mg base n_law_least "_law_least" s_law_least f cdv A outer s H E) 4 "_law_own" := lk_of2 f_law_least rfl (by decide +kernel)
  have g0 : Gl (Xc P w K mg base n_law_least "_law_least" s_law_least f cdv A outer s H E) "dict" := gl_of2 f_law_least (by decide +kernel)
  have b0 : Bi (Xc P w K mg base n_law_least "_law_least" s_law_least f cdv A outer s H E) "dict" := ⟨g0, T.m_dict⟩
  have t0 : Ty (Xc P w K mg base n_law_least "_law_least" s_law_least f cdv A outer s H E) "dict" .dict := ⟨b0, by decide +kernel, by decide +kernel, by decide +kernel⟩
  have g1 : Gl (Xc P w K mg base n_law_least "_law_least" s_law_least f cdv A outer s H E) "range" := gl_of2 f_law_least (by decide +kernel)
  have b1 : Bi (Xc P w K mg base n_law_least "_law_least" s_law_least f cdv A outer s H E) "range" := ⟨g1, T.m_range⟩
  have g2 : Gl (Xc P w K mg base n_law_least "_law_least" s_law_least f cdv A outer s H E) "len" := gl_of2 f_law_least (by decide +kernel)
  have b2 : Bi (Xc P w K mg base n_law_least "_law_least" s_law_least f cdv A outer s H E) "len" := ⟨g2, T.m_len⟩
  have g3 : Gl (Xc P w K mg base n_law_least "_law_least" s_law_least f cdv A outer s H E) "tuple" := gl_of2 f_law_least (by decide +kernel)
  have b3 : Bi (Xc P w K mg base n_law_least "_law_least" s_law_least f cdv A outer s H E) "tuple" := ⟨g3, T.m_tuple⟩
  have t3 : Ty (Xc P w K mg base n_law_least "_law_least" s_law_least f cdv A outer s H E) "tuple" .tuple := ⟨b3, by decide +kernel, by decide +kernel, by decide +kernel⟩
  have g4 : Gl (Xc P w K mg base n_law_least "_law_least" s_law_least f cdv A outer s H E) "sorted" := gl_of2 f_law_least (by decide +kernel)
  have b4 : Bi (Xc P w K mg base n_law_least "_law_least" s_law_least f cdv A outer s H E) "sorted" := ⟨g4, T.m_sorted⟩
  have rm : Rm (Xc P w K mg base n_law_least "_law_least" s_law_least f cdv A outer s H E) := ⟨hr.units⟩
  have hG : startG n_law_least [.list (natsD (metL n m))] = [.sh (.list (natsD (metL n m))), .un, .un, .un, .un, .un, .un] := rfl
  rw [hG]; clear hG
  have hp : 2 ^ n ≤ 4096 := Nat.le_trans (Nat.pow_le_pow_right (by decide) hn) (by decide)
  have hS : ∀ b ∈ metL n m, b < 2 ^ n := fun b hb => List.mem_range.mp (List.mem_filter.mp hb).1
  have hSl : (metL n m).length ≤ 4096 := Nat.le_trans (List.length_filter_le _ _) (by rw [List.length_range]; exact hp)
  have hdl : (natsD (metL n m)).length = (metL n m).length := by unfold natsD; rw [List.length_map]
  refine xbe_cons ?_
  refine xse_set (d := .dict (knownD (metL n m))) (Γ' := [.sh (.list (natsD (metL n m))), .un, .sh (.dict (knownD (metL n m))), .un, .un, .un, .un]) l2 ⟨rfl⟩ (xe_dictP rfl (by assumption) ⟨rfl⟩ ⟨rfl⟩ (xp_l (xl_lcB (own := [("_law_bits", 1)]) (js := [1]) (ds := natsD (metL n m)) (fun _ => true) (fun d => .tuple [d, .bool true]) (fun d => [.sh (.list (natsD (metL n m))), .sh d, .un, .un, .un, .un, .un]) hr ⟨rfl⟩ l0.nd (blkOk_by (N := n_law_least) (sc := defScope s_law_least) (by decide +kernel)) ⟨fun _ => rfl⟩ ?_ ?_ ⟨rfl⟩ ?_)) ?_) ⟨rfl⟩ ?_
  · ktf_call "x"
  · exact ⟨by omega⟩
  · intro X1 B1 B' d hd
    have r1_X1 : Rk X1 1 "_law_bits" := B1.rk rfl rfl
    have l1_X1 : Lk X1 1 "_law_bits" := B1.lk l0.nd rfl rfl
    have rm_X1 : Rm X1 := B1.rm
    have cm_X1 : Tt (X1.calm = true) := B1.cm rfl
    refine ⟨?_, xq_nil, fun _ => ?_⟩
    · ktf_call "x"
    · ktf_call "x"
  · refine ⟨?_⟩
    rw [List.filter_eq_self.mpr (fun _ _ => rfl)]
    unfold natsD
    rw [List.map_map]
    exact pairs_known _
  refine seq_nx ?_
  refine xbe_cons ?_
  refine xse_setO (Γ' := [.sh (.list (natsD (metL n m))), .un, .sh (.dict (knownD (metL n m))), .ow [], .un, .un, .un]) l3 ⟨rfl⟩ (xle_lst xa_nil ⟨rfl⟩) ⟨rfl⟩ ?_
  refine seq_nx ?_
  refine xbe_cons ?_
  generalize hPP : seqP _ _ _ _ = PP
  refine xs_for PassesOwn.never rfl (fun _ => rfl) (ds := natsD (metL n m)) ?_ (fun k Γ => ∃ (z1 z4 z5 z6 : Sl), Γ = [.sh (.list (natsD (metL n m))), z1, .sh (.dict (knownD (metL n m))), .ow ((((metL n m).take k).filter (goodB (metL n m))).map pairD), z4, z5, z6]) ⟨_, _, _, _, rfl⟩ ?_ ?_
  · ktf_call "x"
  · rintro B' k d Γ' hk ⟨z1, z4, z5, z6, rfl⟩
    obtain ⟨b, hb, rfl⟩ : ∃ b, (metL n m)[k]? = some b ∧ d = .int (b : Nat) := by
      unfold natsD at hk
      rw [List.getElem?_map] at hk
      cases hb : (metL n m)[k]? with
      | none => rw [hb] at hk; cases hk
      | some b =>
        rw [hb] at hk
        exact ⟨b, rfl, (Option.some.inj hk).symm⟩
    have hbm := List.mem_of_getElem? hb
    have hb12 : b < 2 ^ 12 := Nat.lt_of_lt_of_le (hS b hbm) (Nat.pow_le_pow_right (by decide) hn)
    have hb62 : b < 2 ^ 62 := Nat.lt_of_lt_of_le hb12 (by decide)
    have pl : (natsD (partsL b)).length ≤ 12 := by
      unfold natsD
      rw [List.length_map]
      exact cnt_le hb12
    refine' ⟨[1], [.sh (.list (natsD (metL n m))), .sh (.int (b : Nat)), .sh (.dict (knownD (metL n m))), .ow ((((metL n m).take k).filter (goodB (metL n m))).map pairD), z4, z5, z6], ?tgt, ?bdy⟩
    case tgt => ktf_call "x"
    case bdy =>
      refine xbe_cons ?_
      refine xs_setB (i := 4) (own := [("_law_k", 5)]) (js := [5]) (ds := rangeD 0 ((12 : Int)).toNat) (Γ' := [.sh (.list (natsD (metL n m))), .sh (.int (b : Nat)), .sh (.dict (knownD (metL n m))), .ow ((((metL n m).take k).filter (goodB (metL n m))).map pairD), .sh (.list (natsD (partsL b))), z5, z6]) false (fun d => b.testBit (natOf d)) id (fun d => [.sh (.list (natsD (metL n m))), .sh (.int (b : Nat)), .sh (.dict (knownD (metL n m))), .ow ((((metL n m).take k).filter (goodB (metL n m))).map pairD), z4, .sh d, z6]) hr l4 ⟨rfl⟩ ⟨rfl⟩ (blkOk_by (N := n_law_least) (sc := defScope s_law_least) (by decide +kernel)) ⟨rfl⟩ ⟨fun _ => rfl⟩ ?_ ⟨by rw [rangeD_len]; decide⟩ ⟨rfl⟩ ?_ ?_ ?_
      · ktf_call "x"
      · intro X1 B1 B2 d hd
        obtain ⟨i, hi, rfl⟩ := range_mem hd
        have r5_X1 : Rk X1 5 "_law_k" := B1.rk rfl rfl
        have l5_X1 : Lk X1 5 "_law_k" := B1.lk l0.nd rfl rfl
        have r1_X1 : Rk X1 1 "_law_bits" := B1.rk rfl rfl
        have rm_X1 : Rm X1 := B1.rm
        have cm_X1 : Tt (X1.calm = true) := B1.cm rfl
        refine ⟨?_, ?_, fun _ => ?_⟩
        · ktf_call "x"
        · refine xq_one ?_
          rw [show b.testBit (natOf (.int (i : Nat))) = decide (Builtin.bitAnd ((b : Int) / 2 ^ ((i : Nat) : Int).toNat) 1 = 1) by
            show b.testBit i = _
            rw [Int.toNat_natCast, bitAt]
            cases b.testBit i <;> rfl]
          ktf_call "x"
        · ktf_call "x"
      · refine ⟨?_⟩
        rw [show ((12 : Int)).toNat = 12 from rfl, range_filter, parts_of hb12, List.map_id]
        rfl
      refine seq_nx ?_
      refine xbe_one ?_
      have eG : PyData.eqv (.list (((natsD (partsL b)).filter fun d => decide (b - 2 ^ natOf d ∈ metL n m)).map id)) (.list []) = goodB (metL n m) b := by
        rw [eqv_nil, List.map_id]
        unfold natsD goodB
        rw [List.filter_map, List.isEmpty_map]
        generalize partsL b = L
        induction L with
        | nil => rfl
        | cons i L ih =>
          rw [List.filter_cons, List.all_cons, ← ih]
          show _ = (!decide (b - 2 ^ i ∈ metL n m) && _)
          by_cases h : b - 2 ^ i ∈ metL n m
          · rw [if_pos (by show decide (b - 2 ^ natOf (.int (i : Nat)) ∈ metL n m) = true; exact decide_eq_true h), decide_eq_true h]
            rfl
          · rw [if_neg (by show ¬ decide (b - 2 ^ i ∈ metL n m) = true; rw [decide_eq_false h]; simp), decide_eq_false h]
            rfl
      have shp : ∀ p : PyData → Bool, SeqAt.shaped (.list (((natsD (partsL b)).filter p).map id)) = true := fun p => by
        rw [List.map_id]
        unfold natsD
        rw [List.filter_map]
        exact shaped_nats _
      refine xs_if (p := goodB (metL n m) b) ?_ (fun hg => ?_) (fun hg => ?_)
      · rw [← eG]
        refine xte_cmp ⟨rfl⟩ (xp_l (xl_lcB (own := [("_law_k", 5)]) (js := [5]) (ds := natsD (partsL b)) (fun d => decide (b - 2 ^ natOf d ∈ metL n m)) id (fun d => [.sh (.list (natsD (metL n m))), .sh (.int (b : Nat)), .sh (.dict (knownD (metL n m))), .ow ((((metL n m).take k).filter (goodB (metL n m))).map pairD), .sh (.list (natsD (partsL b))), .sh d, z6]) hr ⟨rfl⟩ l0.nd (blkOk_by (N := n_law_least) (sc := defScope s_law_least) (by decide +kernel)) ⟨fun _ => rfl⟩ ?_ ⟨by omega⟩ ⟨rfl⟩ ?_)) (xe_lst xa_nil ⟨rfl⟩) (ck_eqd rm ⟨shp _⟩ ⟨shaped_nil⟩)
        · ktf_call "x"
        · intro X1 B1 B2 d hd
          unfold natsD at hd
          obtain ⟨i, hi, rfl⟩ := List.mem_map.mp hd
          have xo := xorAt (mem_parts.mp hi)
          have hi12 := parts_lt hb12 hi
          have r5_X1 : Rk X1 5 "_law_k" := B1.rk rfl rfl
          have l5_X1 : Lk X1 5 "_law_k" := B1.lk l0.nd rfl rfl
          have r1_X1 : Rk X1 1 "_law_bits" := B1.rk rfl rfl
          have r2_X1 : Rk X1 2 "_law_known" := B1.rk rfl rfl
          have rm_X1 : Rm X1 := B1.rm
          have cm_X1 : Tt (X1.calm = true) := B1.cm rfl
          refine ⟨?_, ?_, fun _ => ?_⟩
          · ktf_call "x"
          · refine xq_one ?_
            show Xt _ _ _ _ (decide (b - 2 ^ i ∈ metL n m))
            rw [← known_in]
            refine xte_inDict (by assumption) ⟨rfl⟩ ?_ ?_ ⟨rfl⟩
            · rw [show PyData.int ((b - 2 ^ i : Nat) : Int) = .int ((b : Int) - 2 ^ ((i : Nat) : Int).toNat) by
                rw [Int.toNat_natCast]
                have e2 : ((2 ^ i : Nat) : Int) = 2 ^ i := by norm_cast
                rw [← e2]
                congr 1
                have := xo.2
                omega]
              ktf_call "x"
            · ktf_call "x"
          · ktf_call "x"
      · have tk : (metL n m).take (k + 1) = (metL n m).take k ++ [b] := by rw [List.take_add_one, hb]; rfl
        have c5 : (natsD (partsL b)).length = cnt b := by unfold natsD cnt; rw [List.length_map]
        have fl : ((((metL n m).take k).filter (goodB (metL n m))).map pairD).length ≤ 4096 := by
          rw [List.length_map]
          refine Nat.le_trans (List.length_filter_le _ _) ?_
          rw [List.length_take]
          exact Nat.le_trans (Nat.min_le_right _ _) hSl
        have s5 : Side (((((metL n m).take k).filter (goodB (metL n m))).map pairD).length < sizeLine) := ⟨Nat.lt_of_le_of_lt fl (by rw [sizeLine_eq]; decide)⟩
        ktf_call "x"
        refine ⟨.sh (.int (b : Nat)), .sh (.list (natsD (partsL b))), z5, z6, ?_⟩
        rw [tk, List.filter_append, List.map_append, List.filter_cons, if_pos hg, c5]
        rfl
      · have tk : (metL n m).take (k + 1) = (metL n m).take k ++ [b] := by rw [List.take_add_one, hb]; rfl
        ktf_call "x"
        refine ⟨.sh (.int (b : Nat)), .sh (.list (natsD (partsL b))), z5, z6, ?_⟩
        rw [tk, List.filter_append, List.map_append, List.filter_cons, if_neg (by rw [hg]; simp)]
        show _ = [_, _, _, Sl.ow (_ ++ []), _, _, _]
        rw [List.append_nil]
  · rintro Γ' ⟨z1, z4, z5, z6, rfl⟩
    subst hPP
    refine seq_nx ?_
    rw [hdl, List.take_length, show metL n m = (List.range (2 ^ n)).filter m from rfl, law_found]
    generalize hL : (List.range (2 ^ n)).filter (leastB m) = L
    have hLl : L.length ≤ 4096 := by
      rw [← hL]
      exact Nat.le_trans (List.length_filter_le _ _) (by rw [List.length_range]; exact hp)
    refine xb_free (i := 3) rfl ?_
    refine xbe_one (xs_ret (xe_tuple (by assumption) ⟨rfl⟩ ⟨rfl⟩ (xp_l (xl_lcB (own := [("_law_count", 6), ("_law_bits", 1)]) (js := [6] ++ ([1] ++ [])) (ds := (L.mergeSort (PySem.W.dataLe false pairD)).map pairD) (fun _ => true) sndD (fun d => [.sh (.list (natsD ((List.range (2 ^ n)).filter m))), .sh (sndD d), .sh (.dict (knownD ((List.range (2 ^ n)).filter m))), .sh (.list (L.map pairD)), z4, z5, .sh (fstD d)]) hr ⟨rfl⟩ l0.nd (blkOk_by (N := n_law_least) (sc := defScope s_law_least) (by decide +kernel)) ⟨fun _ => rfl⟩ ?_ ?_ ⟨rfl⟩ ?_)) .lst) ?_)
    · refine xie_any (xp_l (xl_sortedE pairD rm (by assumption) ⟨rfl⟩ ⟨rfl⟩ ?_ (fun b _ => rfl) (PySem.W.AllAlike.of fun x y => by simp [pairD, PySem.W.alike, PySem.W.alikeAll]) (PySem.W.Sortable.tuples fun b => ⟨_, _, rfl⟩) (fun b _ => by simp [pairD, PyData.depth, PyData.depthAll]))) .lst
      ktf_call "x"
    · refine ⟨?_⟩
      rw [List.length_map, List.length_mergeSort]
      omega
    · intro X1 B1 B2 d hd
      obtain ⟨b, hb, rfl⟩ := List.mem_map.mp hd
      have r1_X1 : Rk X1 1 "_law_bits" := B1.rk rfl rfl
      have l1_X1 : Lk X1 1 "_law_bits" := B1.lk l0.nd rfl rfl
      have r6_X1 : Rk X1 6 "_law_count" := B1.rk rfl rfl
      have l6_X1 : Lk X1 6 "_law_count" := B1.lk l0.nd rfl rfl
      have rm_X1 : Rm X1 := B1.rm
      have cm_X1 : Tt (X1.calm = true) := B1.cm rfl
      refine ⟨?_, xq_nil, fun _ => ?_⟩
      · show Xg _ _ _ (.tuple [.int (cnt b : Nat), .int (b : Nat)]) _ _
        ktf_call "x"
        exact xgs_nil
      · ktf_call "x"
    · refine .inl ?_
      rw [List.filter_eq_self.mpr (fun _ _ => rfl), List.map_map]
      have e1 : (L.mergeSort (PySem.W.dataLe false pairD)) = leastL (2 ^ n) m := by
        rw [← law_order, hL]
        congr 1
        exact PySem.W.dataLe_ii (fun b : Nat => (cnt b : Int)) (fun b : Nat => (b : Int))
      rw [e1]
      rfl
theorem pow_nat (m : Nat) : (2 : Int) ^ m = ((2 ^ m : Nat) : Int) := by norm_cast
theorem mod_pow {c : Int} (m : Nat) : c % 2 ^ m = (((c % 2 ^ m).toNat : Nat) : Int) ∧ (c % 2 ^ m).toNat < 2 ^ m := by
  have hp : (0 : Int) < 2 ^ m := by
    rw [pow_nat]
    exact_mod_cast Nat.two_pow_pos m
  have h0 := Int.emod_nonneg c (show (2 : Int) ^ m ≠ 0 by omega)
  have h1 := Int.emod_lt_of_pos c hp
  refine ⟨(Int.toNat_of_nonneg h0).symm, ?_⟩
  have := pow_nat m
  omega
theorem set_eq {c : Int} {many : Nat} (hm : 1 ≤ many) (h5 : c % 8 < 5) : Builtin.bitOr (Builtin.bitAnd (c / 8 % 2 ^ many) (c / 1024 % 2 ^ many)) (2 ^ (c / 64 % many).toNat) = ((setOf c many : Nat) : Int) := by
  rw [(mod_pow (c := c / 8) many).1, (mod_pow (c := c / 1024) many).1, andN, pow_nat (c / 64 % many).toNat, orN]
  unfold setOf
  rw [if_pos h5]
theorem set_eq2 {c : Int} {many : Nat} (h5 : ¬ c % 8 < 5) : c / 8 % 2 ^ many = ((setOf c many : Nat) : Int) := by
  rw [(mod_pow (c := c / 8) many).1]
  unfold setOf
  rw [if_neg h5]
theorem set_lt {c : Int} {many : Nat} (hm : 1 ≤ many) : setOf c many < 2 ^ many := by
  unfold setOf
  split
  · refine Nat.or_lt_two_pow ?_ ?_
    · exact Nat.lt_of_le_of_lt Nat.and_le_left (mod_pow (c := c / 8) many).2
    · refine Nat.pow_lt_pow_right (by decide) ?_
      have h0 := Int.emod_nonneg (c / 64) (show (many : Int) ≠ 0 by omega)
      have h1 := Int.emod_lt_of_pos (c / 64) (show (0 : Int) < many by omega)
      omega
  · exact (mod_pow (c := c / 8) many).2
theorem ok_law_sets {f : Addr} {fd : FuncData} (F : Fun K "_law_sets" "_law_sets" s_law_sets f fd) (hm : mg "_law_sets" = some (.ref f)) (T : Mg mg) (D_law_next : DnM P w K mg base 2 "_law_next" r_law_next) : DnM P w K mg base 3 "_law_sets" r_law_sets := by
  refine dn_ofM F hm (F.binds (ps := ["_law_draw", "_law_many"]) fun _ _ _ _ _ _ us hl => match us, hl with | [_, _], _ => rfl) ?_
  refine fn_okM F c_law_sets (fun l gs ds es d hR => ?_) fun cdv A outer s H E B l gs ds es d hr hR => ?_
  · obtain ⟨ns, k, many, rfl, rfl, rfl, rfl, h0, h1, hl, hm1, hm2⟩ := hR
    exact ⟨rfl, one_of [] l [.int many]⟩
  obtain ⟨ns, k, many, rfl, rfl, rfl, rfl, h0, h1, hl, hm1, hm2⟩ := hR
  have r0 : Rk (Xc P w K mg base n_law_sets "_law_sets" s_law_sets f cdv A outer s H E) 0 "_law_draw" := rk_of2 f_law_sets rfl (by decide +kernel)
  have l0 : Lk (Xc P w K mg base n_law_sets "_law_sets" s_law_sets f cdv A outer s H E) 0 "_law_draw" := lk_of2 f_law_sets rfl (by decide +kernel)
  have r1 : Rk (Xc P w K mg base n_law_sets "_law_sets" s_law_sets f cdv A outer s H E) 1 "_law_many" := rk_of2 f_law_sets rfl (by decide +kernel)
  have l1 : Lk (Xc P w K mg base n_law_sets "_law_sets" s_law_sets f cdv A outer s H E) 1 "_law_many" := lk_of2 f_law_sets rfl (by decide +kernel)
  have r2 : Rk (Xc P w K mg base n_law_sets "_law_sets" s_law_sets f cdv A outer s H E) 2 "_law_found" := rk_of2 f_law_sets rfl (by decide +kernel)
  have l2 : Lk (Xc P w K mg base n_law_sets "_law_sets" s_law_sets f cdv A outer s H E) 2 "_law_found" := lk_of2 f_law_sets rfl (by decide +kernel)
  have r3 : Rk (Xc P w K mg base n_law_sets "_law_sets" s_law_sets f cdv A outer s H E) 3 "_law_k" := rk_of2 f_law_sets rfl (by decide +kernel)
  have l3 : Lk (Xc P w K mg base n_law_sets "_law_sets" s_law_sets f cdv A outer s H E) 3 "_law_k" := lk_of2 f_law_sets rfl (by decide +kernel)
  have r4 : Rk (Xc P w K mg base n_law_sets "_law_sets" s_law_sets f cdv A outer s H E) 4 "_law_number" := rk_of2 f_law_sets rfl (by decide +kernel)
  have l4 : Lk (Xc P w K mg base n_law_sets "_law_sets" s_law_sets f cdv A outer s H E) 4 "_law_number" := lk_of2 f_law_sets rfl (by decide +kernel)
  have r5 : Rk (Xc P w K mg base n_law_sets "_law_sets" s_law_sets f cdv A outer s H E) 5 "_law_bits" := rk_of2 f_law_sets rfl (by decide +kernel)
  have l5 : Lk (Xc P w K mg base n_law_sets "_law_sets" s_law_sets f cdv A outer s H E) 5 "_law_bits" := lk_of2 f_law_sets rfl (by decide +kernel)
  have g0 : Gl (Xc P w K mg base n_law_sets "_law_sets" s_law_sets f cdv A outer s H E) "range" := gl_of2 f_law_sets (by decide +kernel)
  have b0 : Bi (Xc P w K mg base n_law_sets "_law_sets" s_law_sets f cdv A outer s H E) "range" := ⟨g0, T.m_range⟩
  have g1 : Gl (Xc P w K mg base n_law_sets "_law_sets" s_law_sets f cdv A outer s H E) "_law_next" := gl_of2 f_law_sets (by decide +kernel)
  have c1 : CeM (Xc P w K mg base n_law_sets "_law_sets" s_law_sets f cdv A outer s H E) "_law_next" r_law_next := ce_ofM D_law_next hr (by decide) (by decide +kernel)
  have g2 : Gl (Xc P w K mg base n_law_sets "_law_sets" s_law_sets f cdv A outer s H E) "tuple" := gl_of2 f_law_sets (by decide +kernel)
  have b2 : Bi (Xc P w K mg base n_law_sets "_law_sets" s_law_sets f cdv A outer s H E) "tuple" := ⟨g2, T.m_tuple⟩
  have t2 : Ty (Xc P w K mg base n_law_sets "_law_sets" s_law_sets f cdv A outer s H E) "tuple" .tuple := ⟨b2, by decide +kernel, by decide +kernel, by decide +kernel⟩
  have rm : Rm (Xc P w K mg base n_law_sets "_law_sets" s_law_sets f cdv A outer s H E) := ⟨hr.units⟩
  have hG : startM n_law_sets [.p l, .d (.int many)] ([.list (ns.map .int), .int k]) = [.ol l ([.list (ns.map .int), .int k]), .sh (.int many), .un, .un, .un, .un] := rfl
  rw [show startM n_law_sets [.p l, .d (.int many)] ([.list (ns.map .int), .int k]) = _ from hG]; clear hG
  have p1 : Side (0 < (2 : Int) ^ ((many : Nat) : Int).toNat) := by
    refine ⟨?_⟩
    rw [Int.toNat_natCast, pow_nat]
    exact_mod_cast Nat.two_pow_pos many
  have hc := cell_ok ns (k + 1)
  have hcnt : cntF ns k ≤ 9 := by
    unfold cntF
    omega
  have cal : ∀ j : Nat, j ≤ 9 → CalM r_law_next l [.p l] [.list (ns.map .int), .int (k + 1 + (j : Nat))] [.list (ns.map .int), .int (k + 1 + ((j + 1 : Nat) : Int))] (.int (cellI ns (k + 1 + (j : Nat) + 1))) := fun j hj => by
    refine ⟨⟨ns, k + 1 + (j : Nat), rfl, rfl, ?_, rfl, by omega, by omega, hl⟩⟩
    rw [show k + 1 + ((j + 1 : Nat) : Int) = k + 1 + (j : Nat) + 1 by omega]
  have cal0 : CalM r_law_next l [.p l] [.list (ns.map .int), .int k] [.list (ns.map .int), .int (k + 1)] (.int (cellI ns (k + 1))) := ⟨⟨ns, k, rfl, rfl, rfl, rfl, by omega, by omega, hl⟩⟩
  refine xbe_cons ?_
  refine xse_setO (Γ' := [.ol l [.list (ns.map .int), .int k], .sh (.int (many : Nat)), .ow [], .un, .un, .un]) l2 ⟨rfl⟩ (xle_lst xa_nil ⟨rfl⟩) ⟨rfl⟩ ?_
  refine seq_nx ?_
  refine xbe_cons ?_
  generalize hPP : seqP _ _ _ _ = PP
  refine xsm_for PassesOwn.never rfl (fun _ => rfl) (Γ1 := [.ol l [.list (ns.map .int), .int (k + 1)], .sh (.int (many : Nat)), .ow [], .un, .un, .un]) (xmi_rng1 (by assumption) ⟨rfl⟩ (xm_mod (xm_call (i := 0) (by assumption) (by assumption) ⟨rfl⟩ ⟨rfl⟩ (xma_ptr ⟨rfl⟩ r0 ⟨rfl⟩ xma_nil) ⟨rfl⟩ cal0 ⟨rfl⟩) (xm_pure xp_int) ⟨by decide⟩) ⟨by omega⟩) (fun j Γ => j ≤ 9 ∧ ∃ (z3 z4 z5 : Sl), Γ = [.ol l [.list (ns.map .int), .int (k + 1 + (j : Nat))], .sh (.int (many : Nat)), .ow (natsD (setsF ns k many j)), z3, z4, z5]) ⟨by decide, .un, .un, .un, ?_⟩ ?_ ?_
  · rw [Int.natCast_zero, Int.add_zero]
    rfl
  · rintro B' j d Γ' hk ⟨hj, z3, z4, z5, rfl⟩
    have hj8 : j + 1 ≤ 9 := by
      have := (range_nat hk).1
      have h2 : (cellI ns (k + 1) % 10).toNat ≤ 9 := hcnt
      omega
    refine' ⟨[3], [.ol l [.list (ns.map .int), .int (k + 1 + (j : Nat))], .sh (.int (many : Nat)), .ow (natsD (setsF ns k many j)), .sh d, z4, z5], ?tgt, ?bdy⟩
    case tgt => ktf_call "x"
    case bdy =>
      have cj := cal j hj
      have eS : setsF ns k many (j + 1) = setsF ns k many j ++ [setOf (cellI ns (k + 1 + (j : Nat) + 1)) many] := by
        unfold setsF
        rw [List.range_succ, List.map_append]
        rfl
      have cb := cell_ok ns (k + 1 + (j : Nat) + 1)
      have sl : (natsD (setsF ns k many j)).length ≤ 9 := by
        unfold natsD setsF
        rw [List.length_map, List.length_map, List.length_range]
        exact hj
      generalize cellI ns (k + 1 + (j : Nat) + 1) = c at *
      refine xbe_cons ?_
      refine xsm_set (Γ2 := [.ol l [.list (ns.map .int), .int (k + 1 + ((j + 1 : Nat) : Int))], .sh (.int (many : Nat)), .ow (natsD (setsF ns k many j)), .sh d, .sh (.int c), z5]) l4 ⟨rfl⟩ (xm_call (i := 0) (by assumption) (by assumption) ⟨rfl⟩ ⟨rfl⟩ (xma_ptr ⟨rfl⟩ r0 ⟨rfl⟩ xma_nil) ⟨rfl⟩ cj ⟨rfl⟩) ⟨rfl⟩ ?_
      have s5 : Side ((natsD (setsF ns k many j)).length < sizeLine) := ⟨Nat.lt_of_le_of_lt sl (by rw [sizeLine_eq]; decide)⟩
      have p2 : Side (0 ≤ c / 64 % (many : Nat) ∧ c / 64 % ((many : Nat) : Int) ≤ 1000000) := by
        have h0 := Int.emod_nonneg (c / 64) (show (many : Int) ≠ 0 by omega)
        have h1 := Int.emod_lt_of_pos (c / 64) (show (0 : Int) < many by omega)
        exact ⟨by omega⟩
      ktf_call "x"
      · rename_i h5
        refine ⟨hj8, .sh d, .sh (.int c), .sh (.int (setOf c many : Nat)), ?_⟩
        rw [Int.toNat_natCast, set_eq hm1 h5, eS]
        unfold natsD
        rw [List.map_append]
        rfl
      · rename_i h5
        refine ⟨hj8, .sh d, .sh (.int c), .sh (.int (setOf c many : Nat)), ?_⟩
        rw [Int.toNat_natCast, set_eq2 h5, eS]
        unfold natsD
        rw [List.map_append]
        rfl
  · rw [rangeD_len, show (cellI ns (k + 1) % 10).toNat = cntF ns k from rfl]
    rintro Γ' ⟨hj, z3, z4, z5, rfl⟩
    subst hPP
    refine seq_nx ?_
    refine xb_free (i := 2) rfl ?_
    refine xbe_one ?_
    refine xsm_ret (i := 0) (xm_pure (xe_tuple (by assumption) ⟨rfl⟩ ⟨rfl⟩ ?_ .lst)) ⟨rfl⟩ (ret_rm rfl rfl)
    ktf_call "x"
theorem ok_law_refused {f : Addr} {fd : FuncData} (F : Fun K "_law_refused" "_law_refused" s_law_refused f fd) (hm : mg "_law_refused" = some (.ref f)) (T : Mg mg) (D_cross : DnX P w K mg base 6 "cross" r_cross) {D Fa : Addr} (EF : ExF K mg "BadSets" noL D Fa) : Dn P w K mg base 7 "_law_refused" r_law_refused := by
  refine dn_of F hm (F.binds (ps := ["_law_sets_here", "_law_many"]) fun _ _ _ _ _ _ us hl => match us, hl with | [_, _], _ => rfl) ?_
  refine fn_ok F c_law_refused (fun ds d hR => ?_) fun cdv A outer s H E B ds d hr hR => ?_
  · obtain ⟨sx, mx, rfl, hR, rfl⟩ := hR
    rfl
  obtain ⟨sx, mx, rfl, hR, rfl⟩ := hR
  have r0 : Rk (Xc P w K mg base n_law_refused "_law_refused" s_law_refused f cdv A outer s H E) 0 "_law_sets_here" := rk_of2 f_law_refused rfl (by decide +kernel)
  have l0 : Lk (Xc P w K mg base n_law_refused "_law_refused" s_law_refused f cdv A outer s H E) 0 "_law_sets_here" := lk_of2 f_law_refused rfl (by decide +kernel)
  have r1 : Rk (Xc P w K mg base n_law_refused "_law_refused" s_law_refused f cdv A outer s H E) 1 "_law_many" := rk_of2 f_law_refused rfl (by decide +kernel)
  have l1 : Lk (Xc P w K mg base n_law_refused "_law_refused" s_law_refused f cdv A outer s H E) 1 "_law_many" := lk_of2 f_law_refused rfl (by decide +kernel)
  have r2 : Rk (Xc P w K mg base n_law_refused "_law_refused" s_law_refused f cdv A outer s H E) 2 "_law_error" := rk_of2 f_law_refused rfl (by decide +kernel)
  have l2 : Lk (Xc P w K mg base n_law_refused "_law_refused" s_law_refused f cdv A outer s H E) 2 "_law_error" := lk_of2 f_law_refused rfl (by decide +kernel)
  have r3 : Rk (Xc P w K mg base n_law_refused "_law_refused" s_law_refused f cdv A outer s H E) 3 "e" := rk_of2 f_law_refused rfl (by decide +kernel)
  have l3 : Lk (Xc P w K mg base n_law_refused "_law_refused" s_law_refused f cdv A outer s H E) 3 "e" := lk_of2 f_law_refused rfl (by decide +kernel)
  have r4 : Rk (Xc P w K mg base n_law_refused "_law_refused" s_law_refused f cdv A outer s H E) 4 "_law_others" := rk_of2 f_law_refused rfl (by decide +kernel)
  have l4 : Lk (Xc P w K mg base n_law_refused "_law_refused" s_law_refused f cdv A outer s H E) 4 "_law_others" := lk_of2 f_law_refused rfl (by decide +kernel)
  have g0 : Gl (Xc P w K mg base n_law_refused "_law_refused" s_law_refused f cdv A outer s H E) "cross" := gl_of2 f_law_refused (by decide +kernel)
  have c0 : CeX (Xc P w K mg base n_law_refused "_law_refused" s_law_refused f cdv A outer s H E) "cross" r_cross := ce_ofX D_cross hr (by decide) (by decide +kernel)
  have gk_FaultError : Gl (Xc P w K mg base n_law_refused "_law_refused" s_law_refused f cdv A outer s H E) "FaultError" := gl_of2 f_law_refused (by decide +kernel)
  have g2 : Gl (Xc P w K mg base n_law_refused "_law_refused" s_law_refused f cdv A outer s H E) "isinstance" := gl_of2 f_law_refused (by decide +kernel)
  have b2 : Bi (Xc P w K mg base n_law_refused "_law_refused" s_law_refused f cdv A outer s H E) "isinstance" := ⟨g2, T.m_isinstance⟩
  have gk_BadLine : Gl (Xc P w K mg base n_law_refused "_law_refused" s_law_refused f cdv A outer s H E) "BadLine" := gl_of2 f_law_refused (by decide +kernel)
  have gk_BadNumber : Gl (Xc P w K mg base n_law_refused "_law_refused" s_law_refused f cdv A outer s H E) "BadNumber" := gl_of2 f_law_refused (by decide +kernel)
  have gk_BadText : Gl (Xc P w K mg base n_law_refused "_law_refused" s_law_refused f cdv A outer s H E) "BadText" := gl_of2 f_law_refused (by decide +kernel)
  have gk_BadTree : Gl (Xc P w K mg base n_law_refused "_law_refused" s_law_refused f cdv A outer s H E) "BadTree" := gl_of2 f_law_refused (by decide +kernel)
  have gk_Lacking : Gl (Xc P w K mg base n_law_refused "_law_refused" s_law_refused f cdv A outer s H E) "Lacking" := gl_of2 f_law_refused (by decide +kernel)
  have gk_NoPlan : Gl (Xc P w K mg base n_law_refused "_law_refused" s_law_refused f cdv A outer s H E) "NoPlan" := gl_of2 f_law_refused (by decide +kernel)
  have gk_TooMany : Gl (Xc P w K mg base n_law_refused "_law_refused" s_law_refused f cdv A outer s H E) "TooMany" := gl_of2 f_law_refused (by decide +kernel)
  have gk_Twice : Gl (Xc P w K mg base n_law_refused "_law_refused" s_law_refused f cdv A outer s H E) "Twice" := gl_of2 f_law_refused (by decide +kernel)
  have gk_BadOdds : Gl (Xc P w K mg base n_law_refused "_law_refused" s_law_refused f cdv A outer s H E) "BadOdds" := gl_of2 f_law_refused (by decide +kernel)
  have gk_BadSets : Gl (Xc P w K mg base n_law_refused "_law_refused" s_law_refused f cdv A outer s H E) "BadSets" := gl_of2 f_law_refused (by decide +kernel)
  have g13 : Gl (Xc P w K mg base n_law_refused "_law_refused" s_law_refused f cdv A outer s H E) "ValueError" := gl_of2 f_law_refused (by decide +kernel)
  have b13 : Bi (Xc P w K mg base n_law_refused "_law_refused" s_law_refused f cdv A outer s H E) "ValueError" := ⟨g13, T.m_ValueError⟩
  have rm : Rm (Xc P w K mg base n_law_refused "_law_refused" s_law_refused f cdv A outer s H E) := ⟨hr.units⟩
  have hG : startG n_law_refused [sx, mx] = [.sh (sx), .sh (mx), .un, .un, .un] := rfl
  rw [hG]; clear hG
  have cx : CalX r_cross [sx, mx] (.er "BadSets") := ⟨⟨sx, mx, rfl, hR⟩⟩
  have eC : ExcC ((Xc P w K mg base n_law_refused "_law_refused" s_law_refused f cdv A outer s H E)).K D := EF.exc
  have i1 := isc_no EF gk_BadLine (by decide +kernel) (by decide +kernel)
  have i2 := isc_no EF gk_BadNumber (by decide +kernel) (by decide +kernel)
  have i3 := isc_no EF gk_BadText (by decide +kernel) (by decide +kernel)
  have i4 := isc_no EF gk_BadTree (by decide +kernel) (by decide +kernel)
  have i5 := isc_no EF gk_Lacking (by decide +kernel) (by decide +kernel)
  have i6 := isc_no EF gk_NoPlan (by decide +kernel) (by decide +kernel)
  have i7 := isc_no EF gk_TooMany (by decide +kernel) (by decide +kernel)
  have i8 := isc_no EF gk_Twice (by decide +kernel) (by decide +kernel)
  have i9 := isc_no EF gk_BadOdds (by decide +kernel) (by decide +kernel)
  have i0 := isc_self EF gk_BadSets (by decide +kernel)
  refine xbe_cons ?_
  refine xse_set (Γ' := [.sh sx, .sh mx, .sh .none, .un, .un]) l2 ⟨rfl⟩ xp_non ⟨rfl⟩ ?_
  refine seq_nx ?_
  refine xbe_cons ?_
  refine xs_tryKeep (i := 3) (j := 2) (c := .ref Fa) (D := D) (nm := "BadSets") (Γ' := [.sh sx, .sh mx, .ex D, .un, .un]) rfl rfl rfl l3 r3 rfl (show 3 < 5 by decide) l2 (by decide) ⟨gk_FaultError, by decide +kernel, .inl EF.mgF⟩ EF.mgD EF.cat (fun _ _ _ => rfl) (fun X' lx ax => ?_) rfl ?_
  · exact xbe_one (xs_dropZ ⟨rfl⟩ (xz_call (lx.ceX (by assumption)) ax (lx.gl (by assumption)) ⟨rfl⟩ ⟨rfl⟩ (xae_cons ⟨rfl⟩ (xe_var (lx.rk r0) ⟨rfl⟩) (xae_cons ⟨rfl⟩ (xe_var (lx.rk r1) ⟨rfl⟩) xa_nil)) cx))
  · have i10 := isc_val EF (by assumption)
    ktf_call "x"
    rfl
abbrev cntL (many : Nat) (c : Int) : List PyData := [.int 0, .int 13, .bool true, .none, .str "3", .int (-(many : Int)), .int (13 + c)]
abbrev badL (many : Nat) (c : Int) : List PyData := [.int (2 ^ ((many : Nat) : Int).toNat), .int (-1), .bool true, .none, .str "1", .list [.int 1], .int (2 ^ ((many : Nat) : Int).toNat + c)]
theorem bad_count {many : Nat} {c : Int} (h1 : 1 ≤ many) (hc : 0 ≤ c) : ∀ d ∈ cntL many c, ¬ ∃ k : Nat, d = .int k ∧ 1 ≤ k ∧ k ≤ 12 := fun d hd => by
  simp only [List.mem_cons, List.not_mem_nil, or_false] at hd
  rintro ⟨k, e, k1, k2⟩
  rcases hd with rfl | rfl | rfl | rfl | rfl | rfl | rfl <;> first | (have e' := PyData.int.inj e; omega) | cases e
theorem bad_set {many : Nat} {c : Int} (hc : 0 ≤ c) : ∀ d ∈ badL many c, bitsB d many = false := fun d hd => by
  simp only [List.mem_cons, List.not_mem_nil, or_false] at hd
  rw [Int.toNat_natCast] at hd
  have hp : (0 : Int) < 2 ^ many := by
    rw [pow_nat]
    exact_mod_cast Nat.two_pow_pos many
  have two : ∀ i : Int, ¬ (0 ≤ i ∧ i ≤ 2 ^ many - 1) → bitsB (.int i) many = false := fun i h => by
    show (decide (0 ≤ i) && decide (i ≤ 2 ^ many - 1)) = false
    simp only [Bool.and_eq_false_iff, decide_eq_false_iff_not]
    omega
  rcases hd with rfl | rfl | rfl | rfl | rfl | rfl | rfl <;> first | exact two _ (by omega) | rfl
abbrev oddL (L : List PyData) : List PyData := [.list L, .none, .int 5, .str "", .dict []]
theorem no_tuple (L : List PyData) : ∀ d ∈ oddL L, ¬ ∃ ds, d = .tuple ds := fun d hd => by
  simp only [List.mem_cons, List.not_mem_nil, or_false] at hd
  rintro ⟨ds, e⟩
  rcases hd with rfl | rfl | rfl | rfl | rfl <;> cases e
theorem cut_len (L : List PyData) (a b : Option Int) : (cutD L a b).length ≤ L.length := by
  unfold cutD
  rw [List.length_take, List.length_drop]
  omega
def r_law_all_refused : List PyData → PyData → Prop := fun ds d => ∃ (sets : List Nat) (many : Nat) (c : Int), ds = [.tuple (natsD sets), .int many, .int c] ∧ 1 ≤ many ∧ many ≤ 12 ∧ sets.length ≤ 100 ∧ 0 ≤ c ∧ c ≤ 100000000 ∧ d = .bool true
theorem ok_law_all_refused {f : Addr} {fd : FuncData} (F : Fun K "_law_all_refused" "_law_all_refused" s_law_all_refused f fd) (hm : mg "_law_all_refused" = some (.ref f)) (T : Mg mg) (D_law_refused : Dn P w K mg base 7 "_law_refused" r_law_refused) : Dn P w K mg base 8 "_law_all_refused" r_law_all_refused := by
  refine dn_of F hm (F.binds (ps := ["_law_sets_here", "_law_many", "_law_number"]) fun _ _ _ _ _ _ us hl => match us, hl with | [_, _, _], _ => rfl) ?_
  refine fn_ok F c_law_all_refused (fun ds d hR => ?_) fun cdv A outer s H E B ds d hr hR => ?_
  · obtain ⟨sets, many, c, rfl, hm1, hm2, hl, hc0, hc1, rfl⟩ := hR
    rfl
  obtain ⟨sets, many, c, rfl, hm1, hm2, hl, hc0, hc1, rfl⟩ := hR
  have r0 : Rk (Xc P w K mg base n_law_all_refused "_law_all_refused" s_law_all_refused f cdv A outer s H E) 0 "_law_sets_here" := rk_of2 f_law_all_refused rfl (by decide +kernel)
  have l0 : Lk (Xc P w K mg base n_law_all_refused "_law_all_refused" s_law_all_refused f cdv A outer s H E) 0 "_law_sets_here" := lk_of2 f_law_all_refused rfl (by decide +kernel)
  have r1 : Rk (Xc P w K mg base n_law_all_refused "_law_all_refused" s_law_all_refused f cdv A outer s H E) 1 "_law_many" := rk_of2 f_law_all_refused rfl (by decide +kernel)
  have l1 : Lk (Xc P w K mg base n_law_all_refused "_law_all_refused" s_law_all_refused f cdv A outer s H E) 1 "_law_many" := lk_of2 f_law_all_refused rfl (by decide +kernel)
  have r2 : Rk (Xc P w K mg base n_law_all_refused "_law_all_refused" s_law_all_refused f cdv A outer s H E) 2 "_law_number" := rk_of2 f_law_all_refused rfl (by decide +kernel)
  have l2 : Lk (Xc P w K mg base n_law_all_refused "_law_all_refused" s_law_all_refused f cdv A outer s H E) 2 "_law_number" := lk_of2 f_law_all_refused rfl (by decide +kernel)
  have r3 : Rk (Xc P w K mg base n_law_all_refused "_law_all_refused" s_law_all_refused f cdv A outer s H E) 3 "_law_count" := rk_of2 f_law_all_refused rfl (by decide +kernel)
  have l3 : Lk (Xc P w K mg base n_law_all_refused "_law_all_refused" s_law_all_refused f cdv A outer s H E) 3 "_law_count" := lk_of2 f_law_all_refused rfl (by decide +kernel)
  have r4 : Rk (Xc P w K mg base n_law_all_refused "_law_all_refused" s_law_all_refused f cdv A outer s H E) 4 "_law_bad" := rk_of2 f_law_all_refused rfl (by decide +kernel)
  have l4 : Lk (Xc P w K mg base n_law_all_refused "_law_all_refused" s_law_all_refused f cdv A outer s H E) 4 "_law_bad" := lk_of2 f_law_all_refused rfl (by decide +kernel)
  have r5 : Rk (Xc P w K mg base n_law_all_refused "_law_all_refused" s_law_all_refused f cdv A outer s H E) 5 "_law_odd" := rk_of2 f_law_all_refused rfl (by decide +kernel)
  have l5 : Lk (Xc P w K mg base n_law_all_refused "_law_all_refused" s_law_all_refused f cdv A outer s H E) 5 "_law_odd" := lk_of2 f_law_all_refused rfl (by decide +kernel)
  have r6 : Rk (Xc P w K mg base n_law_all_refused "_law_all_refused" s_law_all_refused f cdv A outer s H E) 6 "_law_at" := rk_of2 f_law_all_refused rfl (by decide +kernel)
  have l6 : Lk (Xc P w K mg base n_law_all_refused "_law_all_refused" s_law_all_refused f cdv A outer s H E) 6 "_law_at" := lk_of2 f_law_all_refused rfl (by decide +kernel)
  have r7 : Rk (Xc P w K mg base n_law_all_refused "_law_all_refused" s_law_all_refused f cdv A outer s H E) 7 "_law_wrong" := rk_of2 f_law_all_refused rfl (by decide +kernel)
  have l7 : Lk (Xc P w K mg base n_law_all_refused "_law_all_refused" s_law_all_refused f cdv A outer s H E) 7 "_law_wrong" := lk_of2 f_law_all_refused rfl (by decide +kernel)
  have g0 : Gl (Xc P w K mg base n_law_all_refused "_law_all_refused" s_law_all_refused f cdv A outer s H E) "list" := gl_of2 f_law_all_refused (by decide +kernel)
  have b0 : Bi (Xc P w K mg base n_law_all_refused "_law_all_refused" s_law_all_refused f cdv A outer s H E) "list" := ⟨g0, T.m_list⟩
  have t0 : Ty (Xc P w K mg base n_law_all_refused "_law_all_refused" s_law_all_refused f cdv A outer s H E) "list" .list := ⟨b0, by decide +kernel, by decide +kernel, by decide +kernel⟩
  have g1 : Gl (Xc P w K mg base n_law_all_refused "_law_all_refused" s_law_all_refused f cdv A outer s H E) "len" := gl_of2 f_law_all_refused (by decide +kernel)
  have b1 : Bi (Xc P w K mg base n_law_all_refused "_law_all_refused" s_law_all_refused f cdv A outer s H E) "len" := ⟨g1, T.m_len⟩
  have g2 : Gl (Xc P w K mg base n_law_all_refused "_law_all_refused" s_law_all_refused f cdv A outer s H E) "_law_refused" := gl_of2 f_law_all_refused (by decide +kernel)
  have c2 : Ce (Xc P w K mg base n_law_all_refused "_law_all_refused" s_law_all_refused f cdv A outer s H E) "_law_refused" r_law_refused := ce_of D_law_refused hr (by decide) (by decide +kernel)
  have rm : Rm (Xc P w K mg base n_law_all_refused "_law_all_refused" s_law_all_refused f cdv A outer s H E) := ⟨hr.units⟩
  have hG : startG n_law_all_refused [.tuple (natsD sets), .int many, .int c] = [.sh (.tuple (natsD sets)), .sh (.int many), .sh (.int c), .un, .un, .un, .un, .un] := rfl
  rw [hG]; clear hG
  have p1 : Side (0 < (2 : Int) ^ ((many : Nat) : Int).toNat) := by
    refine ⟨?_⟩
    rw [Int.toNat_natCast, pow_nat]
    exact_mod_cast Nat.two_pow_pos many
  have q1 := getD_all (d := PyData.none) (bad_count hm1 hc0) (show (c % 7).toNat < 7 by omega)
  have q2 := getD_all (d := PyData.none) (bad_set (many := many) hc0) (show (c / 7 % 7).toNat < 7 by omega)
  have q3 := getD_all (d := PyData.none) (no_tuple (natsD sets)) (show (c / 49 % 5).toNat < 5 by omega)
  have a1 : Side (atI (cntL many c) (c % 7) = some ((cntL many c).getD (c % 7).toNat .none)) := at_any ⟨by show _ ∧ _ < (7 : Int); omega⟩
  have a2 : Side (atI (badL many c) (c / 7 % 7) = some ((badL many c).getD (c / 7 % 7).toNat .none)) := at_any ⟨by show _ ∧ _ < (7 : Int); omega⟩
  have a3 : Side (atI (oddL (natsD sets)) (c / 49 % 5) = some ((oddL (natsD sets)).getD (c / 49 % 5).toNat .none)) := at_any ⟨by show _ ∧ _ < (5 : Int); omega⟩
  generalize (cntL many c).getD (c % 7).toNat .none = d1 at *
  generalize (badL many c).getD (c / 7 % 7).toNat .none = d2 at *
  generalize (oddL (natsD sets)).getD (c / 49 % 5).toNat .none = d3 at *
  have nl : (natsD sets).length = sets.length := by unfold natsD; rw [List.length_map]
  have k1 : Cal r_law_refused [.tuple (natsD sets), d1] (.bool true) := ⟨_, _, rfl, .many q1, rfl⟩
  have k2 : ∀ i : Int, Cal r_law_refused [.tuple (cutD (natsD sets) none (some i) ++ [d2] ++ cutD (natsD sets) (some i) none), .int (many : Nat)] (.bool true) := fun i => ⟨_, _, rfl, .sets ⟨hm1, hm2⟩ (by
    rintro ⟨ds, e, h⟩
    cases e
    rw [List.all_append, List.all_append, List.all_cons, q2] at h
    simp at h), rfl⟩
  have k2' := k2 (c / 245 % (((natsD sets).length : Nat) + 1))
  have k3 : Cal r_law_refused [d3, .int (many : Nat)] (.bool true) := ⟨_, _, rfl, .sets ⟨hm1, hm2⟩ (fun ⟨ds, e, _⟩ => q3 ⟨ds, e⟩), rfl⟩
  have k4 : Cal r_law_refused [d3, d1] (.bool true) := ⟨_, _, rfl, .many q1, rfl⟩
  have z1 := cut_len (natsD sets)
  have s1 : ∀ x, Side ((cutD (natsD sets) none x).length + [d2].length ≤ sizeLine) := fun x => ⟨side_size (by have := z1 none x; show _ + 1 ≤ _; omega)⟩
  have s2 : ∀ x, Side ((cutD (natsD sets) none x ++ [d2]).length + (cutD (natsD sets) x none).length ≤ sizeLine) := fun x => ⟨side_size (by have h1 := z1 none x; have h2 := z1 x none; rw [List.length_append]; show _ + 1 + _ ≤ _; omega)⟩
  ktf_call "x"
  all_goals first
    | exact s1 _
    | exact s2 _
    | rfl
/-! the law -/
def r_law : List PyData → PyData → Prop := fun ds d => ∃ ns : List Int, ds = [.list (ns.map .int)] ∧ ns.length ≤ 63 ∧ d = .bool true
def manyF (t : Nat) (c : Int) : Nat := if (decide ((t : Int) = 0) && decide (c % 8 = 1)) = true then (8 + c / 8 % 5).toNat else (1 + c / 8 % 7).toNat
theorem many_ok (t : Nat) (c : Int) : 1 ≤ manyF t c ∧ manyF t c ≤ 12 := by
  unfold manyF
  split <;> omega
theorem least_lt {n : Nat} {m : Nat → Bool} {b : Nat} (h : b ∈ leastL (2 ^ n) m) : b < 2 ^ n := by
  unfold leastL at h
  exact List.mem_range.mp (List.mem_filter.mp ((List.mergeSort_perm _ _).mem_iff.mp h)).1
theorem least_len (n : Nat) (m : Nat → Bool) : (leastL (2 ^ n) m).length ≤ 2 ^ n := by
  unfold leastL
  rw [List.length_mergeSort]
  exact Nat.le_trans (List.length_filter_le _ _) (by rw [List.length_range]; exact Nat.le_refl _)
theorem ok_law {f : Addr} {fd : FuncData} (F : Fun K "law" "law" s_law f fd) (hrC : Room 9 callerA) (hm : mg "law" = some (.ref f)) (T : Mg mg) (D_law_next : DnM P w K mg base 2 "_law_next" r_law_next) (D_law_sets : DnM P w K mg base 3 "_law_sets" r_law_sets) (D_law_least : Dn P w K mg base 1 "_law_least" r_law_least) (D_cross : DnX P w K mg base 6 "cross" r_cross) (D_law_all_refused : Dn P w K mg base 8 "_law_all_refused" r_law_all_refused) : RunAt P w K mg base CX0 callerA f fd ["_law_script"] (spR K r_law) := by
  refine fn_okL F c_law hrC (fun ds d hR => ?_) fun cdv s H E B ds d hr gd hR => ?_
  · obtain ⟨ns, rfl, hl, rfl⟩ := hR
    rfl
  obtain ⟨ns, rfl, hl, rfl⟩ := hR
  have r0 : Rk (Xc P w K mg base n_law "law" s_law f cdv callerA [] s H E) 0 "_law_script" := rk_of2 f_law rfl (by decide +kernel)
  have l0 : Lk (Xc P w K mg base n_law "law" s_law f cdv callerA [] s H E) 0 "_law_script" := lk_of2 f_law rfl (by decide +kernel)
  have r1 : Rk (Xc P w K mg base n_law "law" s_law f cdv callerA [] s H E) 1 "_law_draw" := rk_of2 f_law rfl (by decide +kernel)
  have l1 : Lk (Xc P w K mg base n_law "law" s_law f cdv callerA [] s H E) 1 "_law_draw" := lk_of2 f_law rfl (by decide +kernel)
  have r2 : Rk (Xc P w K mg base n_law "law" s_law f cdv callerA [] s H E) 2 "_law_turn" := rk_of2 f_law rfl (by decide +kernel)
  have l2 : Lk (Xc P w K mg base n_law "law" s_law f cdv callerA [] s H E) 2 "_law_turn" := lk_of2 f_law rfl (by decide +kernel)
  have r3 : Rk (Xc P w K mg base n_law "law" s_law f cdv callerA [] s H E) 3 "_law_number" := rk_of2 f_law rfl (by decide +kernel)
  have l3 : Lk (Xc P w K mg base n_law "law" s_law f cdv callerA [] s H E) 3 "_law_number" := lk_of2 f_law rfl (by decide +kernel)
  have r4 : Rk (Xc P w K mg base n_law "law" s_law f cdv callerA [] s H E) 4 "_law_many" := rk_of2 f_law rfl (by decide +kernel)
  have l4 : Lk (Xc P w K mg base n_law "law" s_law f cdv callerA [] s H E) 4 "_law_many" := lk_of2 f_law rfl (by decide +kernel)
  have r5 : Rk (Xc P w K mg base n_law "law" s_law f cdv callerA [] s H E) 5 "_law_sets_here" := rk_of2 f_law rfl (by decide +kernel)
  have l5 : Lk (Xc P w K mg base n_law "law" s_law f cdv callerA [] s H E) 5 "_law_sets_here" := lk_of2 f_law rfl (by decide +kernel)
  have r6 : Rk (Xc P w K mg base n_law "law" s_law f cdv callerA [] s H E) 6 "_law_met" := rk_of2 f_law rfl (by decide +kernel)
  have l6 : Lk (Xc P w K mg base n_law "law" s_law f cdv callerA [] s H E) 6 "_law_met" := lk_of2 f_law rfl (by decide +kernel)
  have r7 : Rk (Xc P w K mg base n_law "law" s_law f cdv callerA [] s H E) 7 "_law_due" := rk_of2 f_law rfl (by decide +kernel)
  have l7 : Lk (Xc P w K mg base n_law "law" s_law f cdv callerA [] s H E) 7 "_law_due" := lk_of2 f_law rfl (by decide +kernel)
  have r8 : Rk (Xc P w K mg base n_law "law" s_law f cdv callerA [] s H E) 8 "_law_again" := rk_of2 f_law rfl (by decide +kernel)
  have l8 : Lk (Xc P w K mg base n_law "law" s_law f cdv callerA [] s H E) 8 "_law_again" := lk_of2 f_law rfl (by decide +kernel)
  have r9 : Rk (Xc P w K mg base n_law "law" s_law f cdv callerA [] s H E) 9 "_law_found" := rk_of2 f_law rfl (by decide +kernel)
  have l9 : Lk (Xc P w K mg base n_law "law" s_law f cdv callerA [] s H E) 9 "_law_found" := lk_of2 f_law rfl (by decide +kernel)
  have g0 : Gl (Xc P w K mg base n_law "law" s_law f cdv callerA [] s H E) "range" := gl_of2 f_law (by decide +kernel)
  have b0 : Bi (Xc P w K mg base n_law "law" s_law f cdv callerA [] s H E) "range" := ⟨g0, T.m_range⟩
  have g1 : Gl (Xc P w K mg base n_law "law" s_law f cdv callerA [] s H E) "len" := gl_of2 f_law (by decide +kernel)
  have b1 : Bi (Xc P w K mg base n_law "law" s_law f cdv callerA [] s H E) "len" := ⟨g1, T.m_len⟩
  have g2 : Gl (Xc P w K mg base n_law "law" s_law f cdv callerA [] s H E) "_law_next" := gl_of2 f_law (by decide +kernel)
  have c2 : CeM (Xc P w K mg base n_law "law" s_law f cdv callerA [] s H E) "_law_next" r_law_next := ce_ofM D_law_next hr (by decide) (by decide +kernel)
  have g3 : Gl (Xc P w K mg base n_law "law" s_law f cdv callerA [] s H E) "_law_sets" := gl_of2 f_law (by decide +kernel)
  have c3 : CeM (Xc P w K mg base n_law "law" s_law f cdv callerA [] s H E) "_law_sets" r_law_sets := ce_ofM D_law_sets hr (by decide) (by decide +kernel)
  have g4 : Gl (Xc P w K mg base n_law "law" s_law f cdv callerA [] s H E) "_law_least" := gl_of2 f_law (by decide +kernel)
  have c4 : Ce (Xc P w K mg base n_law "law" s_law f cdv callerA [] s H E) "_law_least" r_law_least := ce_of D_law_least hr (by decide) (by decide +kernel)
  have g5 : Gl (Xc P w K mg base n_law "law" s_law f cdv callerA [] s H E) "cross" := gl_of2 f_law (by decide +kernel)
  have c5 : CeX (Xc P w K mg base n_law "law" s_law f cdv callerA [] s H E) "cross" r_cross := ce_ofX D_cross hr (by decide) (by decide +kernel)
  have g6 : Gl (Xc P w K mg base n_law "law" s_law f cdv callerA [] s H E) "repr" := gl_of2 f_law (by decide +kernel)
  have b6 : Bi (Xc P w K mg base n_law "law" s_law f cdv callerA [] s H E) "repr" := ⟨g6, T.m_repr⟩
  have g7 : Gl (Xc P w K mg base n_law "law" s_law f cdv callerA [] s H E) "_law_all_refused" := gl_of2 f_law (by decide +kernel)
  have c7 : Ce (Xc P w K mg base n_law "law" s_law f cdv callerA [] s H E) "_law_all_refused" r_law_all_refused := ce_of D_law_all_refused hr (by decide) (by decide +kernel)
  have rm : Rm (Xc P w K mg base n_law "law" s_law f cdv callerA [] s H E) := ⟨hr.units⟩
  have hG : startG n_law [.list (ns.map .int)] = [.sh (.list (ns.map .int)), .un, .un, .un, .un, .un, .un, .un, .un, .un, .un, .un] := rfl
  rw [hG]; clear hG
  refine xbe_cons ?_
  refine xsm_new (ds := [.list (ns.map .int), .int 0]) l1 ⟨rfl⟩ (xle_lst (xae_cons ⟨rfl⟩ (xe_var r0 ⟨rfl⟩) (xae_cons ⟨rfl⟩ xp_int xa_nil)) ⟨rfl⟩) fun l Γ' hΓ => ?_
  subst hΓ
  refine seq_nx ?_
  refine xbe_cons ?_
  generalize hPP : seqP _ _ _ _ = PP
  refine xs_for PassesOwn.never rfl (fun _ => rfl) (ds := rangeD 0 (1 + ((cutD (ns.map PyData.int) none (some 63)).length : Nat) / 8 : Int).toNat) ?_ (fun t Γ => ∃ (k : Int) (z2 z3 z4 z5 z6 z7 z8 z9 z10 z11 : Sl), 0 ≤ k ∧ k ≤ 100 * t ∧ Γ = [.sh (.list (ns.map .int)), .ol l [.list (ns.map .int), .int k], z2, z3, z4, z5, z6, z7, z8, z9, z10, z11]) ⟨0, .un, .un, .un, .un, .un, .un, .un, .un, .un, .un, by omega, by omega, rfl⟩ ?_ ?_
  · have cl := cut_len (ns.map PyData.int) none (some 63)
    rw [List.length_map] at cl
    have sr : Side (-(2 ^ 62) ≤ (1 : Int) + ((cutD (ns.map PyData.int) none (some 63)).length : Nat) / 8 ∧ (1 : Int) + ((cutD (ns.map PyData.int) none (some 63)).length : Nat) / 8 < 2 ^ 62) := ⟨by omega⟩
    ktf_call "x"
  · rintro B' t d Γ' hk ⟨k, z2, z3, z4, z5, z6, z7, z8, z9, z10, z11, hk0, hk1, rfl⟩
    have cl := cut_len (ns.map PyData.int) none (some 63)
    rw [List.length_map] at cl
    obtain ⟨ht, rfl⟩ := range_nat hk
    have ht9 : t ≤ 8 := by omega
    have cb := cell_ok ns (k + 1)
    have cal1 : CalM r_law_next l [.p l] [.list (ns.map .int), .int k] [.list (ns.map .int), .int (k + 1)] (.int (cellI ns (k + 1))) := ⟨⟨ns, k, rfl, rfl, rfl, rfl, by omega, by omega, hl⟩⟩
    generalize cellI ns (k + 1) = c at *
    refine' ⟨[2], [.sh (.list (ns.map .int)), .ol l [.list (ns.map .int), .int k], .sh (.int (t : Nat)), z3, z4, z5, z6, z7, z8, z9, z10, z11], ?tgt, ?bdy⟩
    case tgt => ktf_call "x"
    case bdy =>
      refine xbe_cons ?_
      refine xsm_set (Γ2 := [.sh (.list (ns.map .int)), .ol l [.list (ns.map .int), .int (k + 1)], .sh (.int (t : Nat)), .sh (.int c), z4, z5, z6, z7, z8, z9, z10, z11]) l3 ⟨rfl⟩ (xm_call (i := 1) (by assumption) (by assumption) ⟨rfl⟩ ⟨rfl⟩ (xma_ptr ⟨rfl⟩ r1 ⟨rfl⟩ xma_nil) ⟨rfl⟩ cal1 ⟨rfl⟩) ⟨rfl⟩ ?_
      refine seq_nx ?_
      refine xbe_cons ?_
      refine xse_set (d := .int (manyF t c : Nat)) (Γ' := [.sh (.list (ns.map .int)), .ol l [.list (ns.map .int), .int (k + 1)], .sh (.int (t : Nat)), .sh (.int c), .sh (.int (manyF t c : Nat)), z5, z6, z7, z8, z9, z10, z11]) l4 ⟨rfl⟩ (xp_if (p := decide ((t : Int) = 0) && decide (c % 8 = 1)) ?_ (fun h => ?_) (fun h => ?_)) ⟨rfl⟩ ?_
      · ktf_call "x"
      · rw [show PyData.int ((manyF t c : Nat) : Int) = .int (8 + c / 8 % 5) by
          unfold manyF
          rw [if_pos h]
          congr 1
          omega]
        ktf_call "x"
      · rw [show PyData.int ((manyF t c : Nat) : Int) = .int (1 + c / 8 % 7) by
          unfold manyF
          rw [if_neg (by rw [h]; simp)]
          congr 1
          omega]
        ktf_call "x"
      have mk := many_ok t c
      generalize manyF t c = many at *
      refine seq_nx ?_
      refine xbe_cons ?_
      have hcnt : cntF ns (k + 1) ≤ 9 := by
        have := cell_ok ns (k + 1 + 1)
        unfold cntF
        omega
      have cal2 : CalM r_law_sets l [.p l, .d (.int (many : Nat))] [.list (ns.map .int), .int (k + 1)] [.list (ns.map .int), .int (k + 1 + 1 + (cntF ns (k + 1) : Nat))] (.tuple (natsD (setsF ns (k + 1) many (cntF ns (k + 1))))) := ⟨⟨ns, k + 1, many, rfl, rfl, rfl, rfl, by omega, by omega, hl, mk.1, mk.2⟩⟩
      have hs : ∀ b ∈ setsF ns (k + 1) many (cntF ns (k + 1)), b < 2 ^ many := fun b hb => by
        unfold setsF at hb
        obtain ⟨j, _, rfl⟩ := List.mem_map.mp hb
        exact set_lt mk.1
      have hsl : (setsF ns (k + 1) many (cntF ns (k + 1))).length ≤ 9 := by
        unfold setsF
        rw [List.length_map, List.length_range]
        exact hcnt
      generalize setsF ns (k + 1) many (cntF ns (k + 1)) = sets at *
      have hk2 : k + 1 + 1 + (cntF ns (k + 1) : Nat) ≤ k + 11 ∧ 0 ≤ k + 1 + 1 + (cntF ns (k + 1) : Nat) := by omega
      generalize k + 1 + 1 + (cntF ns (k + 1) : Nat) = k2 at *
      refine xsm_set (Γ2 := [.sh (.list (ns.map .int)), .ol l [.list (ns.map .int), .int k2], .sh (.int (t : Nat)), .sh (.int c), .sh (.int (many : Nat)), .sh (.tuple (natsD sets)), z6, z7, z8, z9, z10, z11]) l5 ⟨rfl⟩ (xm_call (i := 1) (by assumption) (by assumption) ⟨rfl⟩ ⟨rfl⟩ (xma_ptr ⟨rfl⟩ r1 ⟨rfl⟩ (xma_cons ⟨rfl⟩ (xm_pure (xe_var r4 ⟨rfl⟩)) xma_nil)) ⟨rfl⟩ cal2 ⟨rfl⟩) ⟨rfl⟩ ?_
      refine seq_nx ?_
      refine xbe_cons ?_
      have hp : 2 ^ many ≤ 4096 := Nat.le_trans (Nat.pow_le_pow_right (by decide) mk.2) (by decide)
      have e2 : ((2 : Int) ^ ((many : Nat) : Int).toNat).toNat = 2 ^ many := by
        rw [Int.toNat_natCast, pow_nat, Int.toNat_natCast]
      have sp : Side (-(2 ^ 62) ≤ (2 : Int) ^ ((many : Nat) : Int).toNat ∧ (2 : Int) ^ ((many : Nat) : Int).toNat < 2 ^ 62) := by
        refine ⟨?_⟩
        rw [Int.toNat_natCast, pow_nat many]
        omega
      refine xs_setB (i := 6) (own := [("_law_bits", 10)]) (js := [10]) (ds := rangeD 0 ((2 : Int) ^ ((many : Nat) : Int).toNat).toNat) (Γ' := [.sh (.list (ns.map .int)), .ol l [.list (ns.map .int), .int k2], .sh (.int (t : Nat)), .sh (.int c), .sh (.int (many : Nat)), .sh (.tuple (natsD sets)), .sh (.list (natsD (metL many (crossB sets)))), z7, z8, z9, z10, z11]) false (fun d => crossB sets (natOf d)) id (fun d => [.sh (.list (ns.map .int)), .ol l [.list (ns.map .int), .int k2], .sh (.int (t : Nat)), .sh (.int c), .sh (.int (many : Nat)), .sh (.tuple (natsD sets)), z6, z7, z8, z9, .sh d, z11]) hr l6 ⟨rfl⟩ ⟨rfl⟩ (blkOk_by (N := n_law) (sc := defScope s_law) (by decide +kernel)) ⟨rfl⟩ ⟨fun _ => rfl⟩ ?_ ?_ ⟨rfl⟩ ?_ ?_ ?_
      · ktf_call "x"
      · refine ⟨?_⟩
        rw [rangeD_len, e2]
        omega
      · intro X1 B1 B2 d hd
        obtain ⟨b, hb, rfl⟩ := range_mem hd
        have r10_X1 : Rk X1 10 "_law_bits" := B1.rk rfl rfl
        have l10_X1 : Lk X1 10 "_law_bits" := B1.lk l0.nd rfl rfl
        have r5_X1 : Rk X1 5 "_law_sets_here" := B1.rk rfl rfl
        have rm_X1 : Rm X1 := B1.rm
        have cm_X1 : Tt (X1.calm = true) := B1.cm rfl
        have eG : PyData.eqv (.list (((natsD sets).filter fun d => decide (natOf d &&& b = 0)).map id)) (.list []) = crossB sets b := by
          rw [eqv_nil, List.map_id]
          unfold natsD crossB
          rw [List.filter_map, List.isEmpty_map]
          clear hs hsl cal2
          induction sets with
          | nil => rfl
          | cons o L ih =>
            rw [List.filter_cons, List.all_cons, ← ih, Nat.and_comm b o]
            by_cases h : o &&& b = 0
            · rw [if_pos (by show decide (o &&& b = 0) = true; exact decide_eq_true h), h]
              rfl
            · rw [if_neg (by show ¬ decide (o &&& b = 0) = true; rw [decide_eq_false h]; simp), decide_eq_true h]
              rfl
        have shp : ∀ p : PyData → Bool, SeqAt.shaped (.list (((natsD sets).filter p).map id)) = true := fun p => by
          rw [List.map_id]
          unfold natsD
          rw [List.filter_map]
          exact shaped_nats _
        refine ⟨?_, ?_, fun _ => ?_⟩
        · ktf_call "x"
        · refine xq_one ?_
          show Xt _ _ _ _ (crossB sets b)
          rw [← eG]
          refine xte_cmp ⟨rfl⟩ (xp_l (xl_lcN B1 (own := [("_law_one", 11)]) (js := [11]) (ds := natsD sets) (fun d => decide (natOf d &&& b = 0)) id (fun d => [.sh (.list (ns.map .int)), .ol l [.list (ns.map .int), .int k2], .sh (.int (t : Nat)), .sh (.int c), .sh (.int (many : Nat)), .sh (.tuple (natsD sets)), z6, z7, z8, z9, .sh (.int (b : Nat)), .sh d]) (by assumption) l0.nd (blkOk_by (N := n_law) (by decide +kernel)) ⟨fun _ => rfl⟩ ?_ ?_ ⟨rfl⟩ ?_)) (xe_lst xa_nil ⟨rfl⟩) (ck_eqd (by assumption) ⟨shp _⟩ ⟨shaped_nil⟩)
          · ktf_call "x"
          · refine ⟨?_⟩
            unfold natsD
            rw [List.length_map]
            omega
          · intro X2 C2 B3 d hd
            unfold natsD at hd
            obtain ⟨o, ho, rfl⟩ := List.mem_map.mp hd
            have r11_X2 : Rk X2 11 "_law_one" := C2.rk rfl rfl
            have l11_X2 : Lk X2 11 "_law_one" := C2.lk l0.nd rfl rfl
            have r10_X2 : Rk X2 10 "_law_bits" := C2.rk rfl rfl
            have rm_X2 : Rm X2 := C2.rm
            have cm_X2 : Tt (X2.calm = true) := C2.cm rfl
            refine ⟨?_, ?_, fun _ => ?_⟩
            · ktf_call "x"
            · refine xq_one ?_
              rw [show decide (natOf (.int (o : Nat)) &&& b = 0) = decide (Builtin.bitAnd (o : Int) (b : Int) = 0) by
                show decide (o &&& b = 0) = _
                rw [andN]
                congr 1
                simp]
              ktf_call "x"
            · ktf_call "x"
        · ktf_call "x"
      · refine ⟨?_⟩
        rw [e2, range_filter, List.map_id]
        rfl
      refine seq_nx ?_
      have c3 : Cal r_law_least [.list (natsD (metL many (crossB sets)))] (.tuple (natsD (leastL (2 ^ many) (crossB sets)))) := ⟨many, crossB sets, rfl, mk.2, rfl⟩
      have c4 : CalX r_cross [.tuple (natsD sets), .int (many : Nat)] (.ok (.tuple (natsD (leastL (2 ^ many) (crossB sets))))) := ⟨⟨_, _, rfl, .ok mk hs⟩⟩
      have ll := least_len many (crossB sets)
      have lt62 : ∀ b ∈ leastL (2 ^ many) (crossB sets), b < 2 ^ 62 := fun b hb => Nat.lt_of_lt_of_le (least_lt hb) (Nat.pow_le_pow_right (by decide) (by omega))
      have w1 : Side (reprB (.tuple (natsD (leastL (2 ^ many) (crossB sets)))) = true) := ⟨repr_nats _ lt62⟩
      have w2 : Side ((PyData.tuple (natsD (leastL (2 ^ many) (crossB sets)))).shown.length ≤ sizeLine) := ⟨side_size (by have := shown_nats _ lt62; omega)⟩
      refine xbe_cons ?_
      refine xse_set (Γ' := [.sh (.list (ns.map .int)), .ol l [.list (ns.map .int), .int k2], .sh (.int (t : Nat)), .sh (.int c), .sh (.int (many : Nat)), .sh (.tuple (natsD sets)), .sh (.list (natsD (metL many (crossB sets)))), .sh (.tuple (natsD (leastL (2 ^ many) (crossB sets)))), z8, z9, z10, z11]) l7 ⟨rfl⟩ (xe_call (by assumption) (by assumption) ⟨rfl⟩ ⟨rfl⟩ (xae_cons ⟨rfl⟩ (xe_var r6 ⟨rfl⟩) xa_nil) c3) ⟨rfl⟩ ?_
      refine seq_nx ?_
      refine xbe_cons ?_
      generalize hPQ : seqP _ _ _ _ = PQ
      refine xs_for PassesOwn.never rfl (fun _ => rfl) (ds := rangeD 0 (2 : Int).toNat) ?_ (fun _ Γ => ∃ (y8 y9 : Sl), Γ = [.sh (.list (ns.map .int)), .ol l [.list (ns.map .int), .int k2], .sh (.int (t : Nat)), .sh (.int c), .sh (.int (many : Nat)), .sh (.tuple (natsD sets)), .sh (.list (natsD (metL many (crossB sets)))), .sh (.tuple (natsD (leastL (2 ^ many) (crossB sets)))), y8, y9, z10, z11]) ⟨_, _, rfl⟩ ?_ ?_
      · ktf_call "x"
      · rintro B3 j d2 Γ2 hj ⟨y8, y9, rfl⟩
        refine' ⟨[8], [.sh (.list (ns.map .int)), .ol l [.list (ns.map .int), .int k2], .sh (.int (t : Nat)), .sh (.int c), .sh (.int (many : Nat)), .sh (.tuple (natsD sets)), .sh (.list (natsD (metL many (crossB sets)))), .sh (.tuple (natsD (leastL (2 ^ many) (crossB sets)))), .sh d2, y9, z10, z11], ?tgt2, ?bdy2⟩
        case tgt2 => ktf_call "x"
        case bdy2 =>
          ktf_call "x"
          all_goals first
            | exact ⟨_, _, rfl⟩
            | (rename_i h; exact (h trivial).elim)
      · rintro Γ2 ⟨y8, y9, rfl⟩
        subst hPQ
        refine seq_nx ?_
        have cb2 := cell_ok ns (k2 + 1)
        have cal3 : CalM r_law_next l [.p l] [.list (ns.map .int), .int k2] [.list (ns.map .int), .int (k2 + 1)] (.int (cellI ns (k2 + 1))) := ⟨⟨ns, k2, rfl, rfl, rfl, rfl, by omega, by omega, hl⟩⟩
        have c5 : Cal r_law_all_refused [.tuple (natsD sets), .int (many : Nat), .int (cellI ns (k2 + 1))] (.bool true) := ⟨sets, many, _, rfl, mk.1, mk.2, by omega, cb2.1, by omega, rfl⟩
        refine xbe_one ?_
        refine xsm_if (p := false) (xmt_not (p := true) (xmt_val ⟨fun _ => rfl⟩ (xm_callP (by assumption) (by assumption) ⟨rfl⟩ ⟨rfl⟩ (xma_cons ⟨rfl⟩ (xm_pure (xe_var r5 ⟨rfl⟩)) (xma_cons ⟨rfl⟩ (xm_pure (xe_var r4 ⟨rfl⟩)) (xma_cons ⟨rfl⟩ (xm_call (i := 1) (Γ2 := [.sh (.list (ns.map .int)), .ol l [.list (ns.map .int), .int (k2 + 1)], .sh (.int (t : Nat)), .sh (.int c), .sh (.int (many : Nat)), .sh (.tuple (natsD sets)), .sh (.list (natsD (metL many (crossB sets)))), .sh (.tuple (natsD (leastL (2 ^ many) (crossB sets)))), y8, y9, z10, z11]) (by assumption) (by assumption) ⟨rfl⟩ ⟨rfl⟩ (xma_ptr ⟨rfl⟩ r1 ⟨rfl⟩ xma_nil) ⟨rfl⟩ cal3 ⟨rfl⟩) xma_nil))) ⟨rfl⟩ c5))) (fun z => by cases z) (fun _ => xb_nil ?_)
        refine turn_nx ⟨k2 + 1, _, _, _, _, _, _, _, _, _, _, by omega, by omega, rfl⟩
  · rintro Γ' ⟨k, z2, z3, z4, z5, z6, z7, z8, z9, z10, z11, hk0, hk1, rfl⟩
    subst hPP
    ktf_call "x"
theorem law_sp {K : PySem.W.Frag} {H : Hp} {a : Addr} {ns : List Int} (hl : ns.length ≤ 63) (tb : TabsIn H) (hS : SqL K H a (ns.map V.int)) : spR K r_law [V.ref a] H (fun v _ => v = V.bl true) fun _ _ _ => False :=
  ⟨[.list (ns.map .int)], .bool true, H, fun _ _ h => h, tb, .cons (.lst hS (DqAll.ints ns)) .nil, ⟨ns, rfl, hl, rfl⟩, fun v H' Hs' _ p => by cases p; rfl⟩
abbrev veB : List Value := [.type "ValueError", .type "Exception", .type "BaseException", .type "object"]
abbrev veN : String := "ValueError.__new__"
/-! the end -/
section
omit [Tabs] in
theorem all_mk {l : PySem.W.OpenLaw} {w : World} {q : Program} {K : PySem.W.Frag} {h : Heap} {mg : Str → Option Value} {fa : Addr} (X : K.In h) (G : h.Ns mainGlobals mg) (hfa : mg "law" = some (.ref fa)) (TH : TabsAtHead q K h)
    {f0 : Addr} {od0 an0 : Option Addr} {sl0 : Array (Option Value)} {oc0 kV0 dc0 pm0 cd0 ct0 : Value}
    (a0 : PySem.W.nsIn K mainGlobals "is_whole" = some (some (.ref f0))) (l0 : K.lookup f0 = some ⟨oc0, od0, .func (PySem.W.fnOf "is_whole" "is_whole" (defArgs s_is_whole) (defBody s_is_whole) (defScope s_is_whole) .none kV0 dc0 pm0 an0 cd0 ct0), sl0⟩) (c0 : PySem.W.codeIn K cd0 "is_whole" = true) (k0 : PySem.W.keepIn K (.ref f0) = true)
    {f1 : Addr} {od1 an1 : Option Addr} {sl1 : Array (Option Value)} {oc1 kV1 dc1 pm1 cd1 ct1 : Value}
    (a1 : PySem.W.nsIn K mainGlobals "all_bits" = some (some (.ref f1))) (l1 : K.lookup f1 = some ⟨oc1, od1, .func (PySem.W.fnOf "all_bits" "all_bits" (defArgs s_all_bits) (defBody s_all_bits) (defScope s_all_bits) .none kV1 dc1 pm1 an1 cd1 ct1), sl1⟩) (c1 : PySem.W.codeIn K cd1 "all_bits" = true) (k1 : PySem.W.keepIn K (.ref f1) = true)
    {f2 : Addr} {od2 an2 : Option Addr} {sl2 : Array (Option Value)} {oc2 kV2 dc2 pm2 cd2 ct2 : Value}
    (a2 : PySem.W.nsIn K mainGlobals "is_bits" = some (some (.ref f2))) (l2 : K.lookup f2 = some ⟨oc2, od2, .func (PySem.W.fnOf "is_bits" "is_bits" (defArgs s_is_bits) (defBody s_is_bits) (defScope s_is_bits) .none kV2 dc2 pm2 an2 cd2 ct2), sl2⟩) (c2 : PySem.W.codeIn K cd2 "is_bits" = true) (k2 : PySem.W.keepIn K (.ref f2) = true)
    {f3 : Addr} {od3 an3 : Option Addr} {sl3 : Array (Option Value)} {oc3 kV3 dc3 pm3 cd3 ct3 : Value}
    (a3 : PySem.W.nsIn K mainGlobals "parts_in" = some (some (.ref f3))) (l3 : K.lookup f3 = some ⟨oc3, od3, .func (PySem.W.fnOf "parts_in" "parts_in" (defArgs s_parts_in) (defBody s_parts_in) (defScope s_parts_in) .none kV3 dc3 pm3 an3 cd3 ct3), sl3⟩) (c3 : PySem.W.codeIn K cd3 "parts_in" = true) (k3 : PySem.W.keepIn K (.ref f3) = true)
    {f4 : Addr} {od4 an4 : Option Addr} {sl4 : Array (Option Value)} {oc4 kV4 dc4 pm4 cd4 ct4 : Value}
    (a4 : PySem.W.nsIn K mainGlobals "many_in" = some (some (.ref f4))) (l4 : K.lookup f4 = some ⟨oc4, od4, .func (PySem.W.fnOf "many_in" "many_in" (defArgs s_many_in) (defBody s_many_in) (defScope s_many_in) .none kV4 dc4 pm4 an4 cd4 ct4), sl4⟩) (c4 : PySem.W.codeIn K cd4 "many_in" = true) (k4 : PySem.W.keepIn K (.ref f4) = true)
    {f5 : Addr} {od5 an5 : Option Addr} {sl5 : Array (Option Value)} {oc5 kV5 dc5 pm5 cd5 ct5 : Value}
    (a5 : PySem.W.nsIn K mainGlobals "cross" = some (some (.ref f5))) (l5 : K.lookup f5 = some ⟨oc5, od5, .func (PySem.W.fnOf "cross" "cross" (defArgs s_cross) (defBody s_cross) (defScope s_cross) .none kV5 dc5 pm5 an5 cd5 ct5), sl5⟩) (c5 : PySem.W.codeIn K cd5 "cross" = true) (k5 : PySem.W.keepIn K (.ref f5) = true)
    {x5 T5 : Addr} {ec5 : Value} {dd5 : Option Addr} {vs5 : Array Value} {sc5 : Array (Option Value)} (ce5 : cd5 = .ref x5) (lc5 : K.lookup x5 = some ⟨ec5, dd5, .fields vs5, sc5⟩) (vt5 : vs5[11]? = some (.ref T5)) (nt5 : K.lookup T5 = none) (rc5 : ((PyProof.Rows.recsOf q).find? (fun e => e.name == ("cross" : Str))).isSome = true)
    {f6 : Addr} {od6 an6 : Option Addr} {sl6 : Array (Option Value)} {oc6 kV6 dc6 pm6 cd6 ct6 : Value}
    (a6 : PySem.W.nsIn K mainGlobals "crosses" = some (some (.ref f6))) (l6 : K.lookup f6 = some ⟨oc6, od6, .func (PySem.W.fnOf "crosses" "crosses" (defArgs s_crosses) (defBody s_crosses) (defScope s_crosses) .none kV6 dc6 pm6 an6 cd6 ct6), sl6⟩) (c6 : PySem.W.codeIn K cd6 "crosses" = true) (k6 : PySem.W.keepIn K (.ref f6) = true)
    {x6 T6 : Addr} {ec6 : Value} {dd6 : Option Addr} {vs6 : Array Value} {sc6 : Array (Option Value)} (ce6 : cd6 = .ref x6) (lc6 : K.lookup x6 = some ⟨ec6, dd6, .fields vs6, sc6⟩) (vt6 : vs6[11]? = some (.ref T6)) (nt6 : K.lookup T6 = none) (rc6 : ((PyProof.Rows.recsOf q).find? (fun e => e.name == ("crosses" : Str))).isSome = true)
    {f7 : Addr} {od7 an7 : Option Addr} {sl7 : Array (Option Value)} {oc7 kV7 dc7 pm7 cd7 ct7 : Value}
    (a7 : PySem.W.nsIn K mainGlobals "least_of" = some (some (.ref f7))) (l7 : K.lookup f7 = some ⟨oc7, od7, .func (PySem.W.fnOf "least_of" "least_of" (defArgs s_least_of) (defBody s_least_of) (defScope s_least_of) .none kV7 dc7 pm7 an7 cd7 ct7), sl7⟩) (c7 : PySem.W.codeIn K cd7 "least_of" = true) (k7 : PySem.W.keepIn K (.ref f7) = true)
    {f8 : Addr} {od8 an8 : Option Addr} {sl8 : Array (Option Value)} {oc8 kV8 dc8 pm8 cd8 ct8 : Value}
    (a8 : PySem.W.nsIn K mainGlobals "is_least" = some (some (.ref f8))) (l8 : K.lookup f8 = some ⟨oc8, od8, .func (PySem.W.fnOf "is_least" "is_least" (defArgs s_is_least) (defBody s_is_least) (defScope s_is_least) .none kV8 dc8 pm8 an8 cd8 ct8), sl8⟩) (c8 : PySem.W.codeIn K cd8 "is_least" = true) (k8 : PySem.W.keepIn K (.ref f8) = true)
    {x8 T8 : Addr} {ec8 : Value} {dd8 : Option Addr} {vs8 : Array Value} {sc8 : Array (Option Value)} (ce8 : cd8 = .ref x8) (lc8 : K.lookup x8 = some ⟨ec8, dd8, .fields vs8, sc8⟩) (vt8 : vs8[11]? = some (.ref T8)) (nt8 : K.lookup T8 = none) (rc8 : ((PyProof.Rows.recsOf q).find? (fun e => e.name == ("is_least" : Str))).isSome = true)
    {f9 : Addr} {od9 an9 : Option Addr} {sl9 : Array (Option Value)} {oc9 kV9 dc9 pm9 cd9 ct9 : Value}
    (a9 : PySem.W.nsIn K mainGlobals "_law_cell" = some (some (.ref f9))) (l9 : K.lookup f9 = some ⟨oc9, od9, .func (PySem.W.fnOf "_law_cell" "_law_cell" (defArgs s_law_cell) (defBody s_law_cell) (defScope s_law_cell) .none kV9 dc9 pm9 an9 cd9 ct9), sl9⟩) (c9 : PySem.W.codeIn K cd9 "_law_cell" = true) (k9 : PySem.W.keepIn K (.ref f9) = true)
    {f10 : Addr} {od10 an10 : Option Addr} {sl10 : Array (Option Value)} {oc10 kV10 dc10 pm10 cd10 ct10 : Value}
    (a10 : PySem.W.nsIn K mainGlobals "_law_next" = some (some (.ref f10))) (l10 : K.lookup f10 = some ⟨oc10, od10, .func (PySem.W.fnOf "_law_next" "_law_next" (defArgs s_law_next) (defBody s_law_next) (defScope s_law_next) .none kV10 dc10 pm10 an10 cd10 ct10), sl10⟩) (c10 : PySem.W.codeIn K cd10 "_law_next" = true) (k10 : PySem.W.keepIn K (.ref f10) = true)
    {f11 : Addr} {od11 an11 : Option Addr} {sl11 : Array (Option Value)} {oc11 kV11 dc11 pm11 cd11 ct11 : Value}
    (a11 : PySem.W.nsIn K mainGlobals "_law_least" = some (some (.ref f11))) (l11 : K.lookup f11 = some ⟨oc11, od11, .func (PySem.W.fnOf "_law_least" "_law_least" (defArgs s_law_least) (defBody s_law_least) (defScope s_law_least) .none kV11 dc11 pm11 an11 cd11 ct11), sl11⟩) (c11 : PySem.W.codeIn K cd11 "_law_least" = true) (k11 : PySem.W.keepIn K (.ref f11) = true)
    {f12 : Addr} {od12 an12 : Option Addr} {sl12 : Array (Option Value)} {oc12 kV12 dc12 pm12 cd12 ct12 : Value}
    (a12 : PySem.W.nsIn K mainGlobals "_law_sets" = some (some (.ref f12))) (l12 : K.lookup f12 = some ⟨oc12, od12, .func (PySem.W.fnOf "_law_sets" "_law_sets" (defArgs s_law_sets) (defBody s_law_sets) (defScope s_law_sets) .none kV12 dc12 pm12 an12 cd12 ct12), sl12⟩) (c12 : PySem.W.codeIn K cd12 "_law_sets" = true) (k12 : PySem.W.keepIn K (.ref f12) = true)
    {f13 : Addr} {od13 an13 : Option Addr} {sl13 : Array (Option Value)} {oc13 kV13 dc13 pm13 cd13 ct13 : Value}
    (a13 : PySem.W.nsIn K mainGlobals "_law_refused" = some (some (.ref f13))) (l13 : K.lookup f13 = some ⟨oc13, od13, .func (PySem.W.fnOf "_law_refused" "_law_refused" (defArgs s_law_refused) (defBody s_law_refused) (defScope s_law_refused) .none kV13 dc13 pm13 an13 cd13 ct13), sl13⟩) (c13 : PySem.W.codeIn K cd13 "_law_refused" = true) (k13 : PySem.W.keepIn K (.ref f13) = true)
    {f14 : Addr} {od14 an14 : Option Addr} {sl14 : Array (Option Value)} {oc14 kV14 dc14 pm14 cd14 ct14 : Value}
    (a14 : PySem.W.nsIn K mainGlobals "_law_all_refused" = some (some (.ref f14))) (l14 : K.lookup f14 = some ⟨oc14, od14, .func (PySem.W.fnOf "_law_all_refused" "_law_all_refused" (defArgs s_law_all_refused) (defBody s_law_all_refused) (defScope s_law_all_refused) .none kV14 dc14 pm14 an14 cd14 ct14), sl14⟩) (c14 : PySem.W.codeIn K cd14 "_law_all_refused" = true) (k14 : PySem.W.keepIn K (.ref f14) = true)
    {f15 : Addr} {od15 an15 : Option Addr} {sl15 : Array (Option Value)} {oc15 kV15 dc15 pm15 cd15 ct15 : Value}
    (a15 : PySem.W.nsIn K mainGlobals "law" = some (some (.ref f15))) (l15 : K.lookup f15 = some ⟨oc15, od15, .func (PySem.W.fnOf "law" "law" (defArgs s_law) (defBody s_law) (defScope s_law) .none kV15 dc15 pm15 an15 cd15 ct15), sl15⟩) (c15 : PySem.W.codeIn K cd15 "law" = true) (k15 : PySem.W.keepIn K (.ref f15) = true)
    (z_isinstance : PySem.W.nsIn K mainGlobals "isinstance" = some none)
    (z_int : PySem.W.nsIn K mainGlobals "int" = some none)
    (z_bool : PySem.W.nsIn K mainGlobals "bool" = some none)
    (z_range : PySem.W.nsIn K mainGlobals "range" = some none)
    (z_len : PySem.W.nsIn K mainGlobals "len" = some none)
    (z_tuple : PySem.W.nsIn K mainGlobals "tuple" = some none)
    (z_all : PySem.W.nsIn K mainGlobals "all" = some none)
    (z_sorted : PySem.W.nsIn K mainGlobals "sorted" = some none)
    (z_any : PySem.W.nsIn K mainGlobals "any" = some none)
    (z_dict : PySem.W.nsIn K mainGlobals "dict" = some none)
    (z_ValueError : PySem.W.nsIn K mainGlobals "ValueError" = some none)
    (z_list : PySem.W.nsIn K mainGlobals "list" = some none)
    (z_repr : PySem.W.nsIn K mainGlobals "repr" = some none)
    {t_MOST_PARTS : _} (z_MOST_PARTS : PySem.W.nsIn K mainGlobals "MOST_PARTS" = some (some (.int 12 t_MOST_PARTS)))
    {K_BadSets : Addr} (q_BadSets : PySem.W.nsIn K mainGlobals "BadSets" = some (some (.ref K_BadSets)))
    {K_FaultError : Addr} (q_FaultError : PySem.W.nsIn K mainGlobals "FaultError" = some (some (.ref K_FaultError)))
    {K_BadLine : Addr} (q_BadLine : PySem.W.nsIn K mainGlobals "BadLine" = some (some (.ref K_BadLine)))
    {K_BadNumber : Addr} (q_BadNumber : PySem.W.nsIn K mainGlobals "BadNumber" = some (some (.ref K_BadNumber)))
    {K_BadText : Addr} (q_BadText : PySem.W.nsIn K mainGlobals "BadText" = some (some (.ref K_BadText)))
    {K_BadTree : Addr} (q_BadTree : PySem.W.nsIn K mainGlobals "BadTree" = some (some (.ref K_BadTree)))
    {K_Lacking : Addr} (q_Lacking : PySem.W.nsIn K mainGlobals "Lacking" = some (some (.ref K_Lacking)))
    {K_NoPlan : Addr} (q_NoPlan : PySem.W.nsIn K mainGlobals "NoPlan" = some (some (.ref K_NoPlan)))
    {K_TooMany : Addr} (q_TooMany : PySem.W.nsIn K mainGlobals "TooMany" = some (some (.ref K_TooMany)))
    {K_Twice : Addr} (q_Twice : PySem.W.nsIn K mainGlobals "Twice" = some (some (.ref K_Twice)))
    {K_BadOdds : Addr} (q_BadOdds : PySem.W.nsIn K mainGlobals "BadOdds" = some (some (.ref K_BadOdds)))
    (e1_BadSets : PySem.W.excIn K K_BadSets veB veN = true) (e2_BadSets : PySem.W.keepIn K (.ref K_BadSets) = true) (e3_BadSets : PySem.W.subIn K (.ref K_BadSets) (.type "BaseException") = some true) (e4_BadSets : PySem.W.typeIn K (.ref K_BadSets) = some (.type "type"))
    (b1_EF : PySem.W.subIn K (.ref K_FaultError) (.type "BaseException") = some true) (b2_EF : PySem.W.hasDictIn K K_FaultError = true) (b3_EF : PySem.W.typeIn K (.ref K_FaultError) = some (.type "type")) (b4_EF : PySem.W.subIn K (.ref K_BadSets) (.ref K_FaultError) = some true)
    (h0_EF : PySem.W.findIn K (.ref K_BadSets) "__getattribute__" = some (some (.builtin "BaseException.__getattribute__")))
    (h1_EF : PySem.W.findIn K (.ref K_BadSets) "__getattr__" = some none)
    (h2_EF : PySem.W.subIn K (.ref K_BadSets) (.type "BaseException") = some true)
    (h3_EF : PySem.W.hasDictIn K K_BadSets = true)
    (h4_EF : PySem.W.findIn K (.ref K_BadSets) "__class__" = some (some (.builtin "object.__class__")))
    (h5_EF : PySem.W.specialIn K (.builtin "object.__class__") "__get__" = some (some (.builtin "getset_descriptor.__get__"))) (h6_EF : PySem.W.takesIn K (.builtin "object.__class__") = some true) (h7_EF : PySem.W.mroIn K K_BadSets (.type "object") = some true)
    (v0_EF : PySem.W.kitOne K (.ref K_BadSets) (.ref K_BadSets) = some true) (v1_EF : PySem.W.kitOne K (.ref K_BadSets) (.type "ValueError") = some true)
    (w_BadLine_EF : PySem.W.kitOne K (.ref K_BadSets) (.ref K_BadLine) = some false)
    (w_BadNumber_EF : PySem.W.kitOne K (.ref K_BadSets) (.ref K_BadNumber) = some false)
    (w_BadText_EF : PySem.W.kitOne K (.ref K_BadSets) (.ref K_BadText) = some false)
    (w_BadTree_EF : PySem.W.kitOne K (.ref K_BadSets) (.ref K_BadTree) = some false)
    (w_Lacking_EF : PySem.W.kitOne K (.ref K_BadSets) (.ref K_Lacking) = some false)
    (w_NoPlan_EF : PySem.W.kitOne K (.ref K_BadSets) (.ref K_NoPlan) = some false)
    (w_TooMany_EF : PySem.W.kitOne K (.ref K_BadSets) (.ref K_TooMany) = some false)
    (w_Twice_EF : PySem.W.kitOne K (.ref K_BadSets) (.ref K_Twice) = some false)
    (w_BadOdds_EF : PySem.W.kitOne K (.ref K_BadSets) (.ref K_BadOdds) = some false)
    : LawAtR l w K CX0 63 "_law_script" mg fa h := by
  have e := hfa.symm.trans (PySem.W.mg_of X G a15)
  cases e
  have T : Mg mg := ⟨PySem.W.mg_none_of X G z_isinstance, PySem.W.mg_none_of X G z_int, PySem.W.mg_none_of X G z_bool, PySem.W.mg_none_of X G z_range, PySem.W.mg_none_of X G z_len, PySem.W.mg_none_of X G z_tuple, PySem.W.mg_none_of X G z_all, PySem.W.mg_none_of X G z_sorted, PySem.W.mg_none_of X G z_any, PySem.W.mg_none_of X G z_dict, PySem.W.mg_none_of X G z_ValueError, PySem.W.mg_none_of X G z_list, PySem.W.mg_none_of X G z_repr⟩
  have C_MOST_PARTS : CnM K mg "MOST_PARTS" d_MOST_PARTS := ⟨⟨_, (.int 12 : V), PySem.W.mg_of X G z_MOST_PARTS, ⟨_, rfl⟩, fun _ => .int _⟩, by decide +kernel⟩
  have X_BadSets : ExB K mg "BadSets" := ⟨⟨K_BadSets, _, _, _, _, PySem.W.mg_of X G q_BadSets, PySem.F.excBase_ValueError, e1_BadSets, e2_BadSets, e3_BadSets, e4_BadSets⟩, by decide +kernel⟩
  have EF : ExF K mg "BadSets" noL K_BadSets K_FaultError := ⟨PySem.W.mg_of X G q_BadSets, PySem.W.mg_of X G q_FaultError, PySem.W.exm_ref b1_EF b2_EF b3_EF b4_EF, ⟨h0_EF, h1_EF, h2_EF, h3_EF, h4_EF, h5_EF, h6_EF, h7_EF⟩, v0_EF, v1_EF, List.forall_mem_cons.mpr ⟨⟨_, PySem.W.mg_of X G q_BadLine, w_BadLine_EF⟩, List.forall_mem_cons.mpr ⟨⟨_, PySem.W.mg_of X G q_BadNumber, w_BadNumber_EF⟩, List.forall_mem_cons.mpr ⟨⟨_, PySem.W.mg_of X G q_BadText, w_BadText_EF⟩, List.forall_mem_cons.mpr ⟨⟨_, PySem.W.mg_of X G q_BadTree, w_BadTree_EF⟩, List.forall_mem_cons.mpr ⟨⟨_, PySem.W.mg_of X G q_Lacking, w_Lacking_EF⟩, List.forall_mem_cons.mpr ⟨⟨_, PySem.W.mg_of X G q_NoPlan, w_NoPlan_EF⟩, List.forall_mem_cons.mpr ⟨⟨_, PySem.W.mg_of X G q_TooMany, w_TooMany_EF⟩, List.forall_mem_cons.mpr ⟨⟨_, PySem.W.mg_of X G q_Twice, w_Twice_EF⟩, List.forall_mem_cons.mpr ⟨⟨_, PySem.W.mg_of X G q_BadOdds, w_BadOdds_EF⟩, List.forall_mem_nil _⟩⟩⟩⟩⟩⟩⟩⟩⟩⟩
  subst ce5
  obtain ⟨dr5, hd5⟩ := Option.isSome_iff_exists.mp rc5
  obtain ⟨hc5, ht5⟩ := TH _ _ _ _ hd5 (tab_in a5 l5 rfl lc5 vt5)
  subst ce6
  obtain ⟨dr6, hd6⟩ := Option.isSome_iff_exists.mp rc6
  obtain ⟨hc6, ht6⟩ := TH _ _ _ _ hd6 (tab_in a6 l6 rfl lc6 vt6)
  subst ce8
  obtain ⟨dr8, hd8⟩ := Option.isSome_iff_exists.mp rc8
  obtain ⟨hc8, ht8⟩ := TH _ _ _ _ hd8 (tab_in a8 l8 rfl lc8 vt8)
  letI tabs : Tabs := ⟨fun P => P ∈ ([T5, T6, T8] : List Addr)⟩
  refine ⟨PySem.W.fnOf "law" "law" (defArgs s_law) (defBody s_law) (defScope s_law) .none kV15 dc15 pm15 an15 cd15 ct15, [(x5, T5), (x6, T6), (x8, T8)], spR K r_law, List.forall_mem_cons.mpr ⟨ht5, List.forall_mem_cons.mpr ⟨ht6, List.forall_mem_cons.mpr ⟨ht8, List.forall_mem_nil _⟩⟩⟩, List.forall_mem_cons.mpr ⟨nt5, List.forall_mem_cons.mpr ⟨nt6, List.forall_mem_cons.mpr ⟨nt8, List.forall_mem_nil _⟩⟩⟩, List.forall_mem_cons.mpr ⟨hc5, List.forall_mem_cons.mpr ⟨hc6, List.forall_mem_cons.mpr ⟨hc8, List.forall_mem_nil _⟩⟩⟩, fun s v => .of_eq rfl, fun H a ns hl hT hS => law_sp hl (show ∀ P ∈ ([T5, T6, T8] : List Addr), GxR.TabG H P from List.forall_mem_cons.mpr ⟨tabs_nil (hT (x5, T5) (.head _)), List.forall_mem_cons.mpr ⟨tabs_nil (hT (x6, T6) (.tail _ (.head _))), List.forall_mem_cons.mpr ⟨tabs_nil (hT (x8, T8) (.tail _ (.tail _ (.head _)))), List.forall_mem_nil _⟩⟩⟩) hS, fun base _ _ hB => ?_⟩
  have B5 : GxR.TabB base mg x5 T5 := let b := hB (x5, T5) (.head _); ⟨b.code, b.bm, b.gP⟩
  have S5 : Tabs.ts T5 := (show T5 ∈ ([T5, T6, T8] : List Addr) from .head _)
  have B6 : GxR.TabB base mg x6 T6 := let b := hB (x6, T6) (.tail _ (.head _)); ⟨b.code, b.bm, b.gP⟩
  have S6 : Tabs.ts T6 := (show T6 ∈ ([T5, T6, T8] : List Addr) from .tail _ (.head _))
  have B8 : GxR.TabB base mg x8 T8 := let b := hB (x8, T8) (.tail _ (.tail _ (.head _))); ⟨b.code, b.bm, b.gP⟩
  have S8 : Tabs.ts T8 := (show T8 ∈ ([T5, T6, T8] : List Addr) from .tail _ (.tail _ (.head _)))
  have D_is_whole : Dn l.prog w K mg base 1 "is_whole" r_is_whole := ok_is_whole (fun_mk (st := s_is_whole) l0 c0 k0) (PySem.W.mg_of X G a0) T
  have D_all_bits : Dn l.prog w K mg base 1 "all_bits" r_all_bits := ok_all_bits (fun_mk (st := s_all_bits) l1 c1 k1) (PySem.W.mg_of X G a1) T
  have D_parts_in : Dn l.prog w K mg base 1 "parts_in" r_parts_in := ok_parts_in (fun_mk (st := s_parts_in) l3 c3 k3) (PySem.W.mg_of X G a3) T
  have D_law_cell : Dn l.prog w K mg base 1 "_law_cell" r_law_cell := ok_law_cell (fun_mk (st := s_law_cell) l9 c9 k9) (PySem.W.mg_of X G a9) T
  have D_law_least : Dn l.prog w K mg base 1 "_law_least" r_law_least := ok_law_least (fun_mk (st := s_law_least) l11 c11 k11) (PySem.W.mg_of X G a11) T
  have D_is_bits : Dn l.prog w K mg base 2 "is_bits" r_is_bits := ok_is_bits (fun_mk (st := s_is_bits) l2 c2 k2) (PySem.W.mg_of X G a2) T D_is_whole D_all_bits
  have D_many_in : Dn l.prog w K mg base 2 "many_in" r_many_in := ok_many_in (fun_mk (st := s_many_in) l4 c4 k4) (PySem.W.mg_of X G a4) T D_parts_in
  have D_crosses : Dn l.prog w K mg base 2 "crosses" r_crosses := ok_crosses (func_mk (st := s_crosses) l6 c6 k6) B6 S6 (PySem.W.mg_of X G a6) T
  have D_is_least : Dn l.prog w K mg base 2 "is_least" r_is_least := ok_is_least (func_mk (st := s_is_least) l8 c8 k8) B8 S8 (PySem.W.mg_of X G a8) T D_parts_in
  have D_law_next : DnM l.prog w K mg base 2 "_law_next" r_law_next := ok_law_next (fun_mk (st := s_law_next) l10 c10 k10) (PySem.W.mg_of X G a10) T D_law_cell
  have D_law_sets : DnM l.prog w K mg base 3 "_law_sets" r_law_sets := ok_law_sets (fun_mk (st := s_law_sets) l12 c12 k12) (PySem.W.mg_of X G a12) T D_law_next
  have D_least_of : Dn l.prog w K mg base 5 "least_of" r_least_of := ok_least_of (fun_mk (st := s_least_of) l7 c7 k7) (PySem.W.mg_of X G a7) T D_many_in D_is_least
  have D_cross : DnX l.prog w K mg base 6 "cross" r_cross := ok_cross (func_mk (st := s_cross) l5 c5 k5) B5 S5 (PySem.W.mg_of X G a5) T D_is_whole D_least_of D_is_bits D_crosses C_MOST_PARTS X_BadSets
  have D_law_refused : Dn l.prog w K mg base 7 "_law_refused" r_law_refused := ok_law_refused (fun_mk (st := s_law_refused) l13 c13 k13) (PySem.W.mg_of X G a13) T D_cross EF
  have D_law_all_refused : Dn l.prog w K mg base 8 "_law_all_refused" r_law_all_refused := ok_law_all_refused (fun_mk (st := s_law_all_refused) l14 c14 k14) (PySem.W.mg_of X G a14) T D_law_refused
  exact ok_law (fun_mk (st := s_law) l15 c15 k15) ⟨rfl, by decide, by decide⟩ (PySem.W.mg_of X G a15) T D_law_next D_law_sets D_law_least D_cross D_law_all_refused
end
end K12
open PySem PySem.W PyProof.Rows
set_option maxRecDepth 100000 in
set_option maxHeartbeats 0 in
theorem PySem.Challenge.cw_faultwood_k12_sets_that_cross_holds : PySem.Challenge.rw_faultwood_k12_sets_that_cross.Holds := by
  w_on; o_law; k_head; (case hw => w_witness2)
  k_fill
  refine Dl.walk_ofL (l := PySem.Challenge.rw_faultwood_k12_sets_that_cross) (n := 63) (x := "_law_script") (CX := fun _ => L2.CX0) rfl (by decide) rfl (fun w h Y => PySem.W.kIn_of Y) ?F (fun _ _ _ _ _ h => h)
  case F =>
    intro w mg fa h Y KX G hmg TH
    refine' K12.all_mk KX G hmg TH ?a0 ?l0 ?c0 ?k0 ?a1 ?l1 ?c1 ?k1 ?a2 ?l2 ?c2 ?k2 ?a3 ?l3 ?c3 ?k3 ?a4 ?l4 ?c4 ?k4 ?a5 ?l5 ?c5 ?k5 ?ce5 ?lc5 ?vt5 ?nt5 ?rc5 ?a6 ?l6 ?c6 ?k6 ?ce6 ?lc6 ?vt6 ?nt6 ?rc6 ?a7 ?l7 ?c7 ?k7 ?a8 ?l8 ?c8 ?k8 ?ce8 ?lc8 ?vt8 ?nt8 ?rc8 ?a9 ?l9 ?c9 ?k9 ?a10 ?l10 ?c10 ?k10 ?a11 ?l11 ?c11 ?k11 ?a12 ?l12 ?c12 ?k12 ?a13 ?l13 ?c13 ?k13 ?a14 ?l14 ?c14 ?k14 ?a15 ?l15 ?c15 ?k15 ?z_isinstance ?z_int ?z_bool ?z_range ?z_len ?z_tuple ?z_all ?z_sorted ?z_any ?z_dict ?z_ValueError ?z_list ?z_repr ?z_MOST_PARTS ?q_BadSets ?q_FaultError ?q_BadLine ?q_BadNumber ?q_BadText ?q_BadTree ?q_Lacking ?q_NoPlan ?q_TooMany ?q_Twice ?q_BadOdds ?e1_BadSets ?e2_BadSets ?e3_BadSets ?e4_BadSets ?b1_EF ?b2_EF ?b3_EF ?b4_EF ?h0_EF ?h1_EF ?h2_EF ?h3_EF ?h4_EF ?h5_EF ?h6_EF ?h7_EF ?v0_EF ?v1_EF ?w_BadLine_EF ?w_BadNumber_EF ?w_BadText_EF ?w_BadTree_EF ?w_Lacking_EF ?w_NoPlan_EF ?w_TooMany_EF ?w_Twice_EF ?w_BadOdds_EF
    (case a0 => k_is)
    (case l0 => k_is)
    (case c0 => k_is)
    (case k0 => k_is)
    (case a1 => k_is)
    (case l1 => k_is)
    (case c1 => k_is)
    (case k1 => k_is)
    (case a2 => k_is)
    (case l2 => k_is)
    (case c2 => k_is)
    (case k2 => k_is)
    (case a3 => k_is)
    (case l3 => k_is)
    (case c3 => k_is)
    (case k3 => k_is)
    (case a4 => k_is)
    (case l4 => k_is)
    (case c4 => k_is)
    (case k4 => k_is)
    (case a5 => k_is)
    (case l5 => k_is)
    (case c5 => k_is)
    (case k5 => k_is)
    (case ce5 => first | rfl | decide +kernel)
    (case lc5 => k_is)
    (case vt5 => first | rfl | decide +kernel)
    (case nt5 => first | rfl | decide +kernel)
    (case rc5 => first | rfl | decide +kernel)
    (case a6 => k_is)
    (case l6 => k_is)
    (case c6 => k_is)
    (case k6 => k_is)
    (case ce6 => first | rfl | decide +kernel)
    (case lc6 => k_is)
    (case vt6 => first | rfl | decide +kernel)
    (case nt6 => first | rfl | decide +kernel)
    (case rc6 => first | rfl | decide +kernel)
    (case a7 => k_is)
    (case l7 => k_is)
    (case c7 => k_is)
    (case k7 => k_is)
    (case a8 => k_is)
    (case l8 => k_is)
    (case c8 => k_is)
    (case k8 => k_is)
    (case ce8 => first | rfl | decide +kernel)
    (case lc8 => k_is)
    (case vt8 => first | rfl | decide +kernel)
    (case nt8 => first | rfl | decide +kernel)
    (case rc8 => first | rfl | decide +kernel)
    (case a9 => k_is)
    (case l9 => k_is)
    (case c9 => k_is)
    (case k9 => k_is)
    (case a10 => k_is)
    (case l10 => k_is)
    (case c10 => k_is)
    (case k10 => k_is)
    (case a11 => k_is)
    (case l11 => k_is)
    (case c11 => k_is)
    (case k11 => k_is)
    (case a12 => k_is)
    (case l12 => k_is)
    (case c12 => k_is)
    (case k12 => k_is)
    (case a13 => k_is)
    (case l13 => k_is)
    (case c13 => k_is)
    (case k13 => k_is)
    (case a14 => k_is)
    (case l14 => k_is)
    (case c14 => k_is)
    (case k14 => k_is)
    (case a15 => k_is)
    (case l15 => k_is)
    (case c15 => k_is)
    (case k15 => k_is)
    (case z_isinstance => k_is)
    (case z_int => k_is)
    (case z_bool => k_is)
    (case z_range => k_is)
    (case z_len => k_is)
    (case z_tuple => k_is)
    (case z_all => k_is)
    (case z_sorted => k_is)
    (case z_any => k_is)
    (case z_dict => k_is)
    (case z_ValueError => k_is)
    (case z_list => k_is)
    (case z_repr => k_is)
    (case z_MOST_PARTS => k_is)
    (case q_BadSets => k_is)
    (case q_FaultError => k_is)
    (case q_BadLine => k_is)
    (case q_BadNumber => k_is)
    (case q_BadText => k_is)
    (case q_BadTree => k_is)
    (case q_Lacking => k_is)
    (case q_NoPlan => k_is)
    (case q_TooMany => k_is)
    (case q_Twice => k_is)
    (case q_BadOdds => k_is)
    (case e1_BadSets => first | k_is | k_exc | rfl | decide +kernel)
    (case e2_BadSets => first | k_is | k_exc | rfl | decide +kernel)
    (case e3_BadSets => first | k_is | k_exc | rfl | decide +kernel)
    (case e4_BadSets => first | k_is | k_exc | rfl | decide +kernel)
    (case b1_EF => first | k_is | k_exc | rfl | decide +kernel)
    (case b2_EF => first | k_is | k_exc | rfl | decide +kernel)
    (case b3_EF => first | k_is | k_exc | rfl | decide +kernel)
    (case b4_EF => first | k_is | k_exc | rfl | decide +kernel)
    (case h0_EF => first | k_is | k_exc | rfl | decide +kernel)
    (case h1_EF => first | k_is | k_exc | rfl | decide +kernel)
    (case h2_EF => first | k_is | k_exc | rfl | decide +kernel)
    (case h3_EF => first | k_is | k_exc | rfl | decide +kernel)
    (case h4_EF => first | k_is | k_exc | rfl | decide +kernel)
    (case h5_EF => first | k_is | k_exc | rfl | decide +kernel)
    (case h6_EF => first | k_is | k_exc | rfl | decide +kernel)
    (case h7_EF => first | k_is | k_exc | rfl | decide +kernel)
    (case v0_EF => first | kit_is | k_is | rfl | decide +kernel)
    (case v1_EF => first | kit_is | k_is | rfl | decide +kernel)
    (case w_BadLine_EF => first | kit_is | k_is | rfl | decide +kernel)
    (case w_BadNumber_EF => first | kit_is | k_is | rfl | decide +kernel)
    (case w_BadText_EF => first | kit_is | k_is | rfl | decide +kernel)
    (case w_BadTree_EF => first | kit_is | k_is | rfl | decide +kernel)
    (case w_Lacking_EF => first | kit_is | k_is | rfl | decide +kernel)
    (case w_NoPlan_EF => first | kit_is | k_is | rfl | decide +kernel)
    (case w_TooMany_EF => first | kit_is | k_is | rfl | decide +kernel)
    (case w_Twice_EF => first | kit_is | k_is | rfl | decide +kernel)
    (case w_BadOdds_EF => first | kit_is | k_is | rfl | decide +kernel)
