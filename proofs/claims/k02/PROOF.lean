import PyProof.Rows.All
import Wide.All
import OpenK.AllK
import Wide.FinOn
import HandS.Base
import HandS.Call
import HandS.List
import HandS.Comp
import HandS.Ends
import HandS.Dict
import HandS.Iter
import HandS.Text
import HandS.Words
import HandS.WordsList
import HandS.AnyAll
import HandS.Wide
import HandS.Gcd
import HandS.FStr
import HandS.IsInst
import HandS.StrMore
import HandS.TupLe
import HandS.TupAny
import HandS.NoneIn
import HandS.Replace
import HandS.EndTab
import PySem.Challenge.RW_faultwood_k02_names_numbers_words
set_option Elab.async false
set_option linter.all false
set_option maxRecDepth 100000
set_option maxHeartbeats 2000000
/-! A layer of our own over the hand layer: what a def does, told by plain data. -/
namespace Dl
open PySem L2

/-! ### heaps that grow -/
/-- what stood stands; tables of code objects may have grown -/
def Ext (H H' : Hp) : Prop := ∀ a o, H a = some o → H' a = some o ∨ ∃ ps ps' : Array Value, o = .tbl ps ∧ H' a = some (.tbl ps') ∧ (TriplesOk ps.toList → TriplesOk ps'.toList)
theorem Ext.refl (H : Hp) : Ext H H := fun _ _ h => .inl h
theorem Ext.trans {H H1 H2 : Hp} (a : Ext H H1) (b : Ext H1 H2) : Ext H H2 := fun x o h => by
  rcases a x o h with h1 | ⟨ps, ps', e, h1, t⟩
  · exact b x o h1
  · rcases b x _ h1 with h2 | ⟨qs, qs', e', h2, t'⟩
    · exact .inr ⟨ps, ps', e, h2, t⟩
    · cases e'
      exact .inr ⟨ps, qs', e, h2, fun z => t' (t z)⟩
theorem Ext.no {H H' : Hp} (e : Ext H H') {a : Addr} (h : H' a = none) : H a = none := by
  cases q : H a with
  | none => rfl
  | some o =>
    rcases e a o q with h1 | ⟨_, _, _, h1, _⟩
    · rw [h1] at h; cases h
    · rw [h1] at h; cases h
theorem Ext.lst {H H' : Hp} (e : Ext H H') {a : Addr} {xs : List V} (h : H a = some (.lst xs)) : H' a = some (.lst xs) := by
  rcases e a _ h with h1 | ⟨_, _, q, _, _⟩
  · exact h1
  · cases q
theorem Ext.new {H : Hp} {p : Addr} {o : HO} (h : H p = none) : Ext H (upd H p o) := fun a u e => .inl (by
  rw [upd_ne (ne_of_none e h)]
  exact e)
/-- an object that H does not know may change -/
theorem Ext.mut {H H' : Hp} {p : Addr} {o : HO} (e : Ext H H') (h : H p = none) : Ext H (upd H' p o) := fun a u ha => by
  rw [upd_ne (ne_of_none ha h)]
  exact e a u ha
theorem ext_rd {H H' : Hp} {a : Addr} {u : HO} (e : Ext H H') (nt : ∀ ps, u ≠ .tbl ps) (h : Rd H a u) : Rd H' a u := by
  rcases h with h | ⟨o, h⟩
  · rcases e a _ h with h1 | ⟨_, _, q, _, _⟩
    · exact .inl h1
    · exact absurd q (nt _)
  · rcases e a _ h with h1 | ⟨_, _, q, _, _⟩
    · exact .inr ⟨o, h1⟩
    · cases q
theorem ext_l {K : PySem.W.Frag} {H H' : Hp} {a : Addr} {xs : List V} (e : Ext H H') (h : SqL K H a xs) : SqL K H' a xs := by
  rcases h with h | h
  · exact .inl (ext_rd e (fun _ q => nomatch q) h)
  · exact .inr h
theorem ext_t {K : PySem.W.Frag} {H H' : Hp} {a : Addr} {xs : List V} (e : Ext H H') (h : SqT K H a xs) : SqT K H' a xs := by
  rcases h with h | h
  · exact .inl (ext_rd e (fun _ q => nomatch q) h)
  · exact .inr h
/-! ### tables of code objects -/
/-- the tables that a text's generator expressions write to -/
class Tabs where
  ts : Addr → Prop
def TabsIn [Tabs] (H : Hp) : Prop := ∀ P, Tabs.ts P → GxR.TabG H P
theorem TabsIn.mono [Tabs] {H H' : Hp} (t : TabsIn H) (e : Ext H H') : TabsIn H' := fun P hP => by
  obtain ⟨ps, h1, h2⟩ := t P hP
  rcases e P _ h1 with h | ⟨qs, qs', q, h, k⟩
  · exact ⟨ps, h, h2⟩
  · cases q
    exact ⟨qs', h, k h2⟩
/-! ### data -/
def keyD : Key → PyData
  | .inl i => .int i
  | .inr x => .str x
mutual
inductive Dq (K : PySem.W.Frag) (H : Hp) : V → PyData → Prop
  | non : Dq K H .non .none
  | bl (b : Bool) : Dq K H (.bl b) (.bool b)
  | int (i : Int) : Dq K H (.int i) (.int i)
  | str (x : Str) : Dq K H (.str x) (.str x)
  | lst {a : Addr} {xs : List V} {ds : List PyData} : SqL K H a xs → DqAll K H xs ds → Dq K H (.ref a) (.list ds)
  | tup {a : Addr} {xs : List V} {ds : List PyData} : SqT K H a xs → DqAll K H xs ds → Dq K H (.ref a) (.tuple ds)
  | dic {a : Addr} {kvs : List (Key × V)} {es : List (PyData × PyData)} : Rd H a (.dK kvs) → DqKV K H kvs es → Dq K H (.ref a) (.dict es)
inductive DqAll (K : PySem.W.Frag) (H : Hp) : List V → List PyData → Prop
  | nil : DqAll K H [] []
  | cons {v : V} {vs : List V} {d : PyData} {ds : List PyData} : Dq K H v d → DqAll K H vs ds → DqAll K H (v :: vs) (d :: ds)
inductive DqKV (K : PySem.W.Frag) (H : Hp) : List (Key × V) → List (PyData × PyData) → Prop
  | nil : DqKV K H [] []
  | cons {k : Key} {v : V} {vs : List (Key × V)} {d : PyData} {ds : List (PyData × PyData)} : Dq K H v d → DqKV K H vs ds → DqKV K H ((k, v) :: vs) ((keyD k, d) :: ds)
end
section
variable {K : PySem.W.Frag} {H H' : Hp}
theorem Dq.map (hl : ∀ a xs, SqL K H a xs → SqL K H' a xs) (ht : ∀ a xs, SqT K H a xs → SqT K H' a xs) (hd : ∀ a kvs, Rd H a (.dK kvs) → Rd H' a (.dK kvs)) {v : V} {d : PyData} (h : Dq K H v d) : Dq K H' v d :=
  Dq.rec (motive_1 := fun v d _ => Dq K H' v d) (motive_2 := fun vs ds _ => DqAll K H' vs ds) (motive_3 := fun vs ds _ => DqKV K H' vs ds)
    .non (fun b => .bl b) (fun i => .int i) (fun x => .str x) (fun s _ ih => .lst (hl _ _ s) ih) (fun s _ ih => .tup (ht _ _ s) ih) (fun s _ ih => .dic (hd _ _ s) ih) .nil (fun _ _ a b => .cons a b) .nil (fun _ _ a b => .cons a b) h
theorem DqAll.map (hl : ∀ a xs, SqL K H a xs → SqL K H' a xs) (ht : ∀ a xs, SqT K H a xs → SqT K H' a xs) (hd : ∀ a kvs, Rd H a (.dK kvs) → Rd H' a (.dK kvs)) : ∀ {vs : List V} {ds : List PyData}, DqAll K H vs ds → DqAll K H' vs ds
  | _, _, .nil => .nil
  | _, _, .cons h a => .cons (h.map hl ht hd) (DqAll.map hl ht hd a)
theorem Dq.mono (e : Ext H H') {v : V} {d : PyData} (h : Dq K H v d) : Dq K H' v d := h.map (fun _ _ => ext_l e) (fun _ _ => ext_t e) (fun _ _ => ext_rd e fun _ q => nomatch q)
theorem DqAll.mono (e : Ext H H') {vs : List V} {ds : List PyData} (h : DqAll K H vs ds) : DqAll K H' vs ds := h.map (fun _ _ => ext_l e) (fun _ _ => ext_t e) (fun _ _ => ext_rd e fun _ q => nomatch q)
/-- data without dicts, as the hand layer's own relation -/
theorem Dq.plain {v : V} {d : PyData} (h : Dq K H v d) : d.canLay0 = true → Dp K H v d :=
  Dq.rec (motive_1 := fun v d _ => d.canLay0 = true → Dp K H v d) (motive_2 := fun vs ds _ => PyData.canLayAll0 ds = true → DpAll K H vs ds) (motive_3 := fun _ _ _ => True)
    (fun _ => .non) (fun b _ => .bl b) (fun i _ => .int i) (fun x _ => .str x) (fun s _ ih q => .lst s (ih q)) (fun s _ ih q => .tup s (ih q)) (fun s _ ih q => nomatch q) (fun _ => .nil)
    (fun {v vs d ds} _ _ a b q => by
      have q' : (d.canLay0 && PyData.canLayAll0 ds) = true := q
      rw [Bool.and_eq_true] at q'
      exact .cons (a q'.1) (b q'.2)) trivial (fun _ _ _ _ => trivial) h
end
theorem DqAll.length {K : PySem.W.Frag} {H : Hp} : ∀ {vs : List V} {ds : List PyData}, DqAll K H vs ds → vs.length = ds.length
  | _, _, .nil => rfl
  | _, _, .cons _ a => by rw [List.length_cons, List.length_cons, DqAll.length a]
theorem DqAll.get {K : PySem.W.Frag} {H : Hp} : ∀ {vs : List V} {ds : List PyData} {i : Nat} {d : PyData}, DqAll K H vs ds → ds[i]? = some d → ∃ v, vs[i]? = some v ∧ Dq K H v d
  | _, _, _, _, .nil, h => by simp at h
  | _, _, 0, _, .cons h _, e => by
    cases e
    exact ⟨_, rfl, h⟩
  | _, _, i + 1, _, .cons _ a, e => DqAll.get (i := i) a e
theorem DqAll.getV {K : PySem.W.Frag} {H : Hp} : ∀ {vs : List V} {ds : List PyData} {i : Nat} {v : V}, DqAll K H vs ds → vs[i]? = some v → ∃ d, ds[i]? = some d ∧ Dq K H v d
  | _, _, _, _, .nil, h => by simp at h
  | _, _, 0, _, .cons h _, e => by
    cases e
    exact ⟨_, rfl, h⟩
  | _, _, i + 1, _, .cons _ a, e => DqAll.getV (i := i) a e
theorem DqAll.app {K : PySem.W.Frag} {H : Hp} : ∀ {vs ws : List V} {ds es : List PyData}, DqAll K H vs ds → DqAll K H ws es → DqAll K H (vs ++ ws) (ds ++ es)
  | _, _, _, _, .nil, b => b
  | _, _, _, _, .cons h a, b => .cons h (DqAll.app a b)
theorem DqAll.drop {K : PySem.W.Frag} {H : Hp} : ∀ {vs : List V} {ds : List PyData} (n : Nat), DqAll K H vs ds → DqAll K H (vs.drop n) (ds.drop n)
  | _, _, 0, h => h
  | _, _, _ + 1, .nil => .nil
  | _, _, n + 1, .cons _ a => DqAll.drop n a
theorem DqAll.take {K : PySem.W.Frag} {H : Hp} : ∀ {vs : List V} {ds : List PyData} (n : Nat), DqAll K H vs ds → DqAll K H (vs.take n) (ds.take n)
  | _, _, 0, _ => .nil
  | _, _, _ + 1, .nil => .nil
  | _, _, n + 1, .cons h a => .cons h (DqAll.take n a)
theorem DqAll.set {K : PySem.W.Frag} {H : Hp} {v : V} {d : PyData} (h : Dq K H v d) : ∀ {vs : List V} {ds : List PyData} (n : Nat), DqAll K H vs ds → DqAll K H (vs.set n v) (ds.set n d)
  | _, _, _, .nil => .nil
  | _, _, 0, .cons _ a => .cons h a
  | _, _, n + 1, .cons g a => .cons g (DqAll.set h n a)
theorem DqAll.ints {K : PySem.W.Frag} {H : Hp} : ∀ ns : List Int, DqAll K H (ns.map V.int) (ns.map PyData.int)
  | [] => .nil
  | n :: r => .cons (.int n) (DqAll.ints r)
theorem DqAll.ints_inv {K : PySem.W.Frag} {H : Hp} : ∀ {ns : List Int} {vs : List V}, DqAll K H vs (ns.map PyData.int) → vs = ns.map V.int
  | [], _, .nil => rfl
  | n :: r, _, .cons h a => by
    have e := DqAll.ints_inv (ns := r) a
    cases h
    rw [e]; rfl
theorem DqAll.strs_inv {K : PySem.W.Frag} {H : Hp} : ∀ {ns : List Str} {vs : List V}, DqAll K H vs (ns.map PyData.str) → vs = ns.map V.str
  | [], _, .nil => rfl
  | n :: r, _, .cons h a => by
    have e := DqAll.strs_inv (ns := r) a
    cases h
    rw [e]; rfl
theorem DqAll.strs {K : PySem.W.Frag} {H : Hp} : ∀ ns : List Str, DqAll K H (ns.map V.str) (ns.map PyData.str)
  | [] => .nil
  | n :: r => .cons (.str n) (DqAll.strs r)

/-- from (H, Hs) to (H', Hs'): Hs what the shared data lies in, a part of H -/
structure Gr (H Hs H' Hs' : Hp) : Prop where
  ext : Ext H H'
  exs : Ext Hs Hs'
  sub : ∀ a o, Hs' a = some o → H' a = some o
  new : ∀ a, Hs' a ≠ none → Hs a ≠ none ∨ H a = none
theorem Gr.refl {H Hs : Hp} (s : ∀ a o, Hs a = some o → H a = some o) : Gr H Hs H Hs := ⟨Ext.refl _, Ext.refl _, s, fun _ h => .inl h⟩
theorem Gr.trans {H Hs H1 Hs1 H2 Hs2 : Hp} (a : Gr H Hs H1 Hs1) (b : Gr H1 Hs1 H2 Hs2) : Gr H Hs H2 Hs2 :=
  ⟨a.ext.trans b.ext, a.exs.trans b.exs, b.sub, fun x h => by
    rcases b.new x h with q | q
    · exact a.new x q
    · exact .inr (a.ext.no q)⟩
/-- a new object of the shared part -/
theorem Gr.share {H Hs H1 Hs1 : Hp} {p : Addr} {o : HO} (g : Gr H Hs H1 Hs1) (h : H1 p = none) : Gr H Hs (upd H1 p o) (upd Hs1 p o) := by
  have hs : Hs1 p = none := by
    cases q : Hs1 p with
    | none => rfl
    | some u => rw [g.sub p u q] at h; cases h
  refine g.trans ⟨Ext.new h, Ext.new hs, fun a u e => ?_, fun a e => ?_⟩
  · by_cases ha : a = p
    · subst ha; rw [upd_same] at e ⊢; exact e
    · rw [upd_ne ha] at e ⊢; exact g.sub a u e
  · by_cases ha : a = p
    · subst ha; exact .inr h
    · rw [upd_ne ha] at e; exact .inl e
/-- a new object of one's own -/
theorem Gr.keep {H Hs H1 Hs1 : Hp} {p : Addr} {o : HO} (g : Gr H Hs H1 Hs1) (h : H1 p = none) : Gr H Hs (upd H1 p o) Hs1 := by
  refine g.trans ⟨Ext.new h, Ext.refl _, fun a u e => ?_, fun a e => .inl e⟩
  have := g.sub a u e
  rw [upd_ne (ne_of_none this h)]
  exact this
theorem Gr.hsn {H Hs H1 Hs1 : Hp} (g : Gr H Hs H1 Hs1) {p : Addr} (h : H1 p = none) : Hs1 p = none := by
  cases q : Hs1 p with
  | none => rfl
  | some u => rw [g.sub p u q] at h; cases h

/-! ### slots by data -/
inductive Sl where
  | un | sh (d : PyData) | ow (ds : List PyData) | vv (v : V)
def SlOk (K : PySem.W.Frag) (H0 H Hs : Hp) : Sl → Option V → Prop
  | .un, _ => True
  | .sh d, o => ∃ v, o = some v ∧ Dq K Hs v d
  | .ow ds, o => ∃ l xs, o = some (.ref l) ∧ H l = some (.lst xs) ∧ DqAll K Hs xs ds ∧ Hs l = none ∧ H0 l = none
  | .vv v, o => o = some v
abbrev Gm := List Sl
/-- where a def stands: H0, Hs0 its entry -/
structure En [Tabs] (K : PySem.W.Frag) (H0 Hs0 : Hp) (pn : Hp) (H Hs : Hp) (σ : St) (Γ : Gm) : Prop where
  gr : Gr H0 Hs0 H Hs
  pin : Ext pn Hs
  len : σ.length = Γ.length
  at_ : ∀ (i : Nat) (s : Sl) (o : Option V), Γ[i]? = some s → σ[i]? = some o → SlOk K H0 H Hs s o
  sep : ∀ (i j : Nat) (ds es : List PyData) (l : Addr), Γ[i]? = some (.ow ds) → Γ[j]? = some (.ow es) → σ[i]? = some (some (.ref l)) → σ[j]? = some (some (.ref l)) → i = j
  tab : TabsIn Hs
section
variable [Tabs]
variable {K : PySem.W.Frag} {H0 Hs0 H Hs H' Hs' : Hp} {pn : Hp} {σ : St} {Γ : Gm}
theorem SlOk.gr {s : Sl} {o : Option V} (h : SlOk K H0 H Hs s o) (g : Gr H Hs H' Hs') : SlOk K H0 H' Hs' s o := by
  cases s with
  | un => trivial
  | sh d =>
    obtain ⟨v, e, p⟩ := h
    exact ⟨v, e, p.mono g.exs⟩
  | ow ds =>
    obtain ⟨l, xs, e, h1, h2, h3, h4⟩ := h
    refine ⟨l, xs, e, g.ext.lst h1, h2.mono g.exs, ?_, h4⟩
    cases q : Hs' l with
    | none => rfl
    | some u =>
      rcases g.new l (by rw [q]; simp) with z | z
      · exact absurd h3 z
      · rw [h1] at z; cases z
  | vv v => exact h
theorem En.grow (E : En K H0 Hs0 pn H Hs σ Γ) (g : Gr H Hs H' Hs') : En K H0 Hs0 pn H' Hs' σ Γ :=
  ⟨E.gr.trans g, E.pin.trans g.exs, E.len, fun i s o h1 h2 => (E.at_ i s o h1 h2).gr g, E.sep, E.tab.mono g.exs⟩
theorem En.sub (E : En K H0 Hs0 pn H Hs σ Γ) : ∀ a o, Hs a = some o → H a = some o := E.gr.sub
theorem En.sh (E : En K H0 Hs0 pn H Hs σ Γ) {i : Nat} {d : PyData} (h : Γ[i]? = some (.sh d)) : ∃ v, σ[i]? = some (some v) ∧ Dq K Hs v d := by
  have hi : i < σ.length := by
    rw [E.len]
    exact (List.getElem?_eq_some_iff.mp h).1
  obtain ⟨v, e, p⟩ := E.at_ i _ _ h (List.getElem?_eq_getElem hi)
  exact ⟨v, by rw [List.getElem?_eq_getElem hi, e], p⟩
theorem En.vv (E : En K H0 Hs0 pn H Hs σ Γ) {i : Nat} {v : V} (h : Γ[i]? = some (.vv v)) : σ[i]? = some (some v) := by
  have hi : i < σ.length := by
    rw [E.len]
    exact (List.getElem?_eq_some_iff.mp h).1
  have e := E.at_ i _ _ h (List.getElem?_eq_getElem hi)
  rw [List.getElem?_eq_getElem hi]
  exact congrArg some e
theorem En.ow (E : En K H0 Hs0 pn H Hs σ Γ) {i : Nat} {ds : List PyData} (h : Γ[i]? = some (.ow ds)) : ∃ l xs, σ[i]? = some (some (.ref l)) ∧ H l = some (.lst xs) ∧ DqAll K Hs xs ds ∧ Hs l = none ∧ H0 l = none := by
  have hi : i < σ.length := by
    rw [E.len]
    exact (List.getElem?_eq_some_iff.mp h).1
  obtain ⟨l, xs, e, p⟩ := E.at_ i _ _ h (List.getElem?_eq_getElem hi)
  exact ⟨l, xs, by rw [List.getElem?_eq_getElem hi, e], p⟩
theorem En.lt (E : En K H0 Hs0 pn H Hs σ Γ) {i : Nat} (h : i < Γ.length) : i < σ.length := by rw [E.len]; exact h
/-- a slot is stored: shared data, nothing known, a value -/
theorem En.set (E : En K H0 Hs0 pn H Hs σ Γ) (i : Nat) {s : Sl} {o : Option V} (h : SlOk K H0 H Hs s o) (hs : ∀ ds, s ≠ .ow ds) : En K H0 Hs0 pn H Hs (σ.set i o) (Γ.set i s) := by
  refine ⟨E.gr, E.pin, by rw [List.length_set, List.length_set]; exact E.len, fun j t q h1 h2 => ?_, fun j k ds es l h1 h2 h3 h4 => ?_, E.tab⟩
  · by_cases hj : i = j
    · subst hj
      obtain ⟨b1, e1⟩ := List.getElem?_eq_some_iff.mp h1
      obtain ⟨b2, e2⟩ := List.getElem?_eq_some_iff.mp h2
      rw [List.getElem_set_self] at e1 e2
      subst e1; subst e2
      exact h
    · rw [List.getElem?_set_ne hj] at h1 h2
      exact E.at_ j t q h1 h2
  · have nj : ∀ j ds, (Γ.set i s)[j]? = some (.ow ds) → i ≠ j := fun j ds e z => by
      subst z
      obtain ⟨b1, e1⟩ := List.getElem?_eq_some_iff.mp e
      rw [List.getElem_set_self] at e1
      exact hs ds e1
    have n1 := nj j ds h1
    have n2 := nj k es h2
    rw [List.getElem?_set_ne n1] at h1 h3
    rw [List.getElem?_set_ne n2] at h2 h4
    exact E.sep j k ds es l h1 h2 h3 h4
theorem En.setSh (E : En K H0 Hs0 pn H Hs σ Γ) (i : Nat) {v : V} {d : PyData} (h : Dq K Hs v d) : En K H0 Hs0 pn H Hs (σ.set i (some v)) (Γ.set i (.sh d)) := E.set i (s := .sh d) (o := some v) ⟨v, rfl, h⟩ fun _ z => nomatch z
theorem En.setUn (E : En K H0 Hs0 pn H Hs σ Γ) (i : Nat) {o : Option V} : En K H0 Hs0 pn H Hs (σ.set i o) (Γ.set i .un) := E.set i (s := .un) (o := o) trivial fun _ z => nomatch z
/-- a new list of one's own is stored -/
theorem En.setOw (E : En K H0 Hs0 pn H Hs σ Γ) (i : Nat) {l : Addr} {xs : List V} {ds : List PyData} (hl : H l = some (.lst xs)) (hd : DqAll K Hs xs ds) (hs : Hs l = none) (h0 : H0 l = none)
    (ne : ∀ j es, Γ[j]? = some (.ow es) → j ≠ i → σ[j]? ≠ some (some (.ref l))) : En K H0 Hs0 pn H Hs (σ.set i (some (.ref l))) (Γ.set i (.ow ds)) := by
  refine ⟨E.gr, E.pin, by rw [List.length_set, List.length_set]; exact E.len, fun j t q h1 h2 => ?_, fun j k ds' es l' h1 h2 h3 h4 => ?_, E.tab⟩
  · by_cases hj : i = j
    · subst hj
      obtain ⟨b1, e1⟩ := List.getElem?_eq_some_iff.mp h1
      obtain ⟨b2, e2⟩ := List.getElem?_eq_some_iff.mp h2
      rw [List.getElem_set_self] at e1 e2
      subst e1; subst e2
      exact ⟨l, xs, rfl, hl, hd, hs, h0⟩
    · rw [List.getElem?_set_ne hj] at h1 h2
      exact E.at_ j t q h1 h2
  · have is_l : ∀ {m : Nat}, i = m → (σ.set i (some (.ref l)))[m]? = some (some (.ref l')) → l' = l := fun {m} e h => by
      subst e
      obtain ⟨b2, e2⟩ := List.getElem?_eq_some_iff.mp h
      rw [List.getElem_set_self] at e2
      cases e2
      rfl
    by_cases hj : i = j
    · by_cases hk : i = k
      · exact hj.symm.trans hk
      · have e := is_l hj h3
        subst e
        rw [List.getElem?_set_ne hk] at h2 h4
        exact absurd h4 (ne k es h2 (Ne.symm hk))
    · by_cases hk : i = k
      · have e := is_l hk h4
        subst e
        rw [List.getElem?_set_ne hj] at h1 h3
        exact absurd h3 (ne j ds' h1 (Ne.symm hj))
      · rw [List.getElem?_set_ne hj] at h1 h3
        rw [List.getElem?_set_ne hk] at h2 h4
        exact E.sep j k ds' es l' h1 h2 h3 h4
/-- the list of one's own at slot i turns into another -/
theorem En.mut (E : En K H0 Hs0 pn H Hs σ Γ) {i : Nat} {l : Addr} {xs : List V} {ds es : List PyData} (hi : Γ[i]? = some (.ow ds)) (hl : σ[i]? = some (some (.ref l))) (hd : DqAll K Hs xs es) : En K H0 Hs0 pn (upd H l (.lst xs)) Hs σ (Γ.set i (.ow es)) := by
  obtain ⟨l', ys, e1, h1, h2, h3, h4⟩ := E.ow hi
  rw [hl] at e1
  cases e1
  refine ⟨⟨E.gr.ext.mut h4, E.gr.exs, fun a u e => ?_, E.gr.new⟩, E.pin, by rw [List.length_set]; exact E.len, fun j t q k1 k2 => ?_, fun j k ds' es' l' k1 k2 k3 k4 => ?_, E.tab⟩
  · rw [upd_ne (ne_of_none e h3)]
    exact E.sub a u e
  · by_cases hj : i = j
    · subst hj
      obtain ⟨b1, e1⟩ := List.getElem?_eq_some_iff.mp k1
      rw [List.getElem_set_self] at e1
      subst e1
      rw [hl] at k2
      cases k2
      exact ⟨l, xs, rfl, upd_same, hd, h3, h4⟩
    · rw [List.getElem?_set_ne hj] at k1
      have z := E.at_ j t q k1 k2
      cases t with
      | un => trivial
      | sh d => exact z
      | vv v => exact z
      | ow fs =>
        obtain ⟨m, zs, e2, g1, g2, g3, g4⟩ := z
        refine ⟨m, zs, e2, ?_, g2, g3, g4⟩
        have : m ≠ l := fun z => by
          subst z
          subst e2
          exact hj (E.sep i j _ _ _ hi k1 hl k2)
        rw [upd_ne this]
        exact g1
  · have fix : ∀ {m : Nat} {gs : List PyData}, (Γ.set i (.ow es))[m]? = some (.ow gs) → ∃ hs, Γ[m]? = some (.ow hs) := fun {m gs} e => by
      by_cases hm : i = m
      · subst hm
        exact ⟨_, hi⟩
      · rw [List.getElem?_set_ne hm] at e
        exact ⟨_, e⟩
    obtain ⟨_, q1⟩ := fix k1
    obtain ⟨_, q2⟩ := fix k2
    exact E.sep j k _ _ _ q1 q2 k3 k4
/-- a list of one's own is given free: shared from now on -/
theorem En.free (E : En K H0 Hs0 pn H Hs σ Γ) {i : Nat} {ds : List PyData} (hi : Γ[i]? = some (.ow ds)) : ∃ Hs', Gr H0 Hs0 H Hs' ∧ Ext Hs Hs' ∧ En K H0 Hs0 pn H Hs' σ (Γ.set i (.sh (.list ds))) := by
  obtain ⟨l, xs, hl, h1, h2, h3, h4⟩ := E.ow hi
  have g : Gr H0 Hs0 H (upd Hs l (.lst xs)) := by
    refine ⟨E.gr.ext, E.gr.exs.trans (Ext.new h3), fun a u e => ?_, fun a e => ?_⟩
    · by_cases ha : a = l
      · subst ha; rw [upd_same] at e; rw [h1]; exact e
      · rw [upd_ne ha] at e; exact E.sub a u e
    · by_cases ha : a = l
      · subst ha; exact .inr h4
      · rw [upd_ne ha] at e; exact E.gr.new a e
  refine ⟨upd Hs l (.lst xs), g, Ext.new h3, g, E.pin.trans (Ext.new h3), by rw [List.length_set]; exact E.len, fun j t q k1 k2 => ?_, fun j k ds' es' l' k1 k2 k3 k4 => ?_, E.tab.mono (Ext.new h3)⟩
  · by_cases hj : i = j
    · subst hj
      obtain ⟨b1, e1⟩ := List.getElem?_eq_some_iff.mp k1
      rw [List.getElem_set_self] at e1
      subst e1
      rw [hl] at k2
      cases k2
      exact ⟨.ref l, rfl, .lst (SqL.of upd_same) (h2.mono (Ext.new h3))⟩
    · rw [List.getElem?_set_ne hj] at k1
      have z := E.at_ j t q k1 k2
      cases t with
      | un => trivial
      | sh d =>
        obtain ⟨v, e, p⟩ := z
        exact ⟨v, e, p.mono (Ext.new h3)⟩
      | vv v => exact z
      | ow fs =>
        obtain ⟨m, zs, e2, g1, g2, g3, g4⟩ := z
        refine ⟨m, zs, e2, g1, g2.mono (Ext.new h3), ?_, g4⟩
        have : m ≠ l := fun z => by
          subst z
          subst e2
          exact hj (E.sep i j _ _ _ hi k1 hl k2)
        rw [upd_ne this]
        exact g3
  · have fix : ∀ {m : Nat} {gs : List PyData}, (Γ.set i (.sh (.list ds)))[m]? = some (.ow gs) → Γ[m]? = some (.ow gs) := fun {m gs} e => by
      by_cases hm : i = m
      · subst hm
        obtain ⟨b1, e1⟩ := List.getElem?_eq_some_iff.mp e
        rw [List.getElem_set_self] at e1
        cases e1
      · rw [List.getElem?_set_ne hm] at e
        exact e
    exact E.sep j k _ _ _ (fix k1) (fix k2) k3 k4
end
end Dl
set_option Elab.async false
set_option linter.all false
set_option maxRecDepth 100000
set_option maxHeartbeats 2000000
namespace Dl
open PySem L2
variable [Tabs]
/-- a def's entry: the heap, the part of it in which its arguments lie -/
structure Bs where
  H0 : Hp
  Hs0 : Hp
  low : Hp
abbrev Enb (K : PySem.W.Frag) (B : Bs) (H Hs : Hp) (σ : St) (Γ : Gm) : Prop := En K B.H0 B.Hs0 B.low H Hs σ Γ
def DE (K : PySem.W.Frag) (B : Bs) (t : TE) (Γ : Gm) (d : PyData) : Prop := ∀ H Hs σ, Enb K B H Hs σ Γ → ∀ Q : VK, (∀ v H' Hs', Gr H Hs H' Hs' → Dq K Hs' v d → Q v H') → t σ H Q
def DT (K : PySem.W.Frag) (B : Bs) (t : TT) (Γ : Gm) (b : Bool) : Prop := ∀ H Hs σ, Enb K B H Hs σ Γ → ∀ Q : Bool → Hp → Prop, (∀ H' Hs', Gr H Hs H' Hs' → Q b H') → t σ H Q
def DA (K : PySem.W.Frag) (B : Bs) (t : TA) (Γ : Gm) (ds : List PyData) : Prop := ∀ H Hs σ, Enb K B H Hs σ Γ → ∀ Q : List V → Hp → Prop, (∀ vs H' Hs', Gr H Hs H' Hs' → DqAll K Hs' vs ds → Q vs H') → t σ H Q
/-- a new list -/
def DL (K : PySem.W.Frag) (B : Bs) (t : TE) (Γ : Gm) (ds : List PyData) : Prop := ∀ H Hs σ, Enb K B H Hs σ Γ → ∀ Q : VK, (∀ p xs H' Hs', Gr H Hs H' Hs' → H p = none → H' p = some (.lst xs) → Hs' p = none → DqAll K Hs' xs ds → Q (.ref p) H') → t σ H Q
/-- a list or a tuple to be read, shared or one's own -/
def DV (K : PySem.W.Frag) (B : Bs) (t : TE) (Γ : Gm) (ds : List PyData) : Prop := ∀ H Hs σ, Enb K B H Hs σ Γ → ∀ Q : VK, (∀ a xs H' Hs', Gr H Hs H' Hs' → (SqL K H' a xs ∨ SqT K H' a xs) → DqAll K Hs' xs ds → Q (.ref a) H') → t σ H Q
section
variable {K : PySem.W.Frag} {B : Bs} {H Hs H' Hs' : Hp} {σ : St} {Γ : Gm} {t ta tb te : TE} {d : PyData} {ds : List PyData}
theorem sub_l {a : Addr} {xs : List V} (s : ∀ a o, Hs a = some o → H a = some o) (h : SqL K Hs a xs) : SqL K H a xs := by
  rcases h with (h | ⟨o, h⟩) | h
  · exact .inl (.inl (s _ _ h))
  · exact .inl (.inr ⟨o, s _ _ h⟩)
  · exact .inr h
theorem sub_t {a : Addr} {xs : List V} (s : ∀ a o, Hs a = some o → H a = some o) (h : SqT K Hs a xs) : SqT K H a xs := by
  rcases h with (h | ⟨o, h⟩) | h
  · exact .inl (.inl (s _ _ h))
  · exact .inl (.inr ⟨o, s _ _ h⟩)
  · exact .inr h
theorem sub_rd {a : Addr} {u : HO} (s : ∀ a o, Hs a = some o → H a = some o) (h : Rd Hs a u) : Rd H a u := by
  rcases h with h | ⟨o, h⟩
  · exact .inl (s _ _ h)
  · exact .inr ⟨o, s _ _ h⟩
theorem dp_sub (s : ∀ a o, Hs a = some o → H a = some o) {v : V} {d : PyData} (h : Dq K Hs v d) : Dq K H v d := h.map (fun _ _ => sub_l s) (fun _ _ => sub_t s) (fun _ _ => sub_rd s)
theorem dpAll_sub (s : ∀ a o, Hs a = some o → H a = some o) {vs : List V} {ds : List PyData} (h : DqAll K Hs vs ds) : DqAll K H vs ds := h.map (fun _ _ => sub_l s) (fun _ _ => sub_t s) (fun _ _ => sub_rd s)
/-! ### expressions -/
theorem de_var {i : Nat} (h : Γ[i]? = some (.sh d)) : DE K B (tVar i) Γ d := fun H Hs σ E Q q => by
  obtain ⟨v, e, p⟩ := E.sh h
  exact ⟨v, e, q v H Hs (Gr.refl E.sub) p⟩
theorem de_int {i : Int} : DE K B (tC (.int i)) Γ (.int i) := fun H Hs σ E Q q => q _ H Hs (Gr.refl E.sub) (.int i)
theorem de_str {x : Str} : DE K B (tC (.str x)) Γ (.str x) := fun H Hs σ E Q q => q _ H Hs (Gr.refl E.sub) (.str x)
theorem de_bl {b : Bool} : DE K B (tC (.bl b)) Γ (.bool b) := fun H Hs σ E Q q => q _ H Hs (Gr.refl E.sub) (.bl b)
theorem de_non : DE K B (tC .non) Γ .none := fun H Hs σ E Q q => q _ H Hs (Gr.refl E.sub) .non
theorem de_of_dl (h : DL K B t Γ ds) : DE K B t Γ (.list ds) := fun H Hs σ E Q q => h H Hs σ E _ fun p xs H' Hs' g n e s a => by
  have x : Ext Hs' (upd Hs' p (.lst xs)) := Ext.new s
  refine q (.ref p) H' (upd Hs' p (.lst xs)) ⟨g.ext, g.exs.trans x, fun b u z => ?_, fun b z => ?_⟩ (.lst (SqL.of upd_same) (a.mono x))
  · by_cases hb : b = p
    · subst hb; rw [upd_same] at z; rw [e]; exact z
    · rw [upd_ne hb] at z; exact g.sub b u z
  · by_cases hb : b = p
    · subst hb; exact .inr n
    · rw [upd_ne hb] at z; exact g.new b z
theorem dv_l (h : DE K B t Γ (.list ds)) : DV K B t Γ ds := fun H Hs σ E Q q => h H Hs σ E _ fun v H' Hs' g p => by
  cases p with
  | lst h a => exact q _ _ H' Hs' g (.inl (sub_l g.sub h)) a
theorem dv_t (h : DE K B t Γ (.tuple ds)) : DV K B t Γ ds := fun H Hs σ E Q q => h H Hs σ E _ fun v H' Hs' g p => by
  cases p with
  | tup h a => exact q _ _ H' Hs' g (.inr (sub_t g.sub h)) a
theorem dv_o {i : Nat} (h : Γ[i]? = some (.ow ds)) : DV K B (tVar i) Γ ds := fun H Hs σ E Q q => by
  obtain ⟨l, xs, e, h1, h2, _, _⟩ := E.ow h
  exact ⟨.ref l, e, q l xs H Hs (Gr.refl E.sub) (.inl (SqL.of h1)) h2⟩
/-- what a two-place operation on values is worth on data -/
def OpD (K : PySem.W.Frag) (r : R2) (a b d : PyData) : Prop := ∀ H Hs x y, (∀ a o, Hs a = some o → H a = some o) → Dq K Hs x a → Dq K Hs y b → ∀ Q : VK, (∀ v H' Hs', Gr H Hs H' Hs' → Dq K Hs' v d → Q v H') → r x y H Q
theorem de_op {r : R2} {a b : PyData} (ha : DE K B ta Γ a) (hb : DE K B tb Γ b) (hr : OpD K r a b d) : DE K B (tOp r ta tb) Γ d := fun H Hs σ E Q q =>
  ha H Hs σ E _ fun v H1 Hs1 g1 p1 => hb H1 Hs1 σ (E.grow g1) _ fun u H2 Hs2 g2 p2 => hr H2 Hs2 v u g2.sub (p1.mono g2.exs) p2 Q fun w H3 Hs3 g3 p3 => q w H3 Hs3 ((g1.trans g2).trans g3) p3
def UnD (K : PySem.W.Frag) (r : V → Hp → VK → Prop) (a d : PyData) : Prop := ∀ H Hs x, (∀ a o, Hs a = some o → H a = some o) → Dq K Hs x a → ∀ Q : VK, (∀ v H' Hs', Gr H Hs H' Hs' → Dq K Hs' v d → Q v H') → r x H Q
theorem de_un {r : V → Hp → VK → Prop} {a : PyData} (ha : DE K B ta Γ a) (hr : UnD K r a d) : DE K B (tUn r ta) Γ d := fun H Hs σ E Q q =>
  ha H Hs σ E _ fun v H1 Hs1 g1 p1 => hr H1 Hs1 v g1.sub p1 Q fun w H2 Hs2 g2 p2 => q w H2 Hs2 (g1.trans g2) p2
/-- a call of a built-in, on its arguments -/
def CbD (K : PySem.W.Frag) (r : List V → Hp → VK → Prop) (as : List PyData) (d : PyData) : Prop := ∀ H Hs xs, (∀ a o, Hs a = some o → H a = some o) → DqAll K Hs xs as → ∀ Q : VK, (∀ v H' Hs', Gr H Hs H' Hs' → Dq K Hs' v d → Q v H') → r xs H Q
theorem de_cb {r : List V → Hp → VK → Prop} {ta : TA} {as : List PyData} (ha : DA K B ta Γ as) (hr : CbD K r as d) : DE K B (tCB r ta) Γ d := fun H Hs σ E Q q =>
  ha H Hs σ E _ fun v H1 Hs1 g1 p1 => hr H1 Hs1 v g1.sub p1 Q fun w H2 Hs2 g2 p2 => q w H2 Hs2 (g1.trans g2) p2
/-- .. that makes a new list -/
def CbL (K : PySem.W.Frag) (r : List V → Hp → VK → Prop) (as ds : List PyData) : Prop := ∀ H Hs xs, (∀ a o, Hs a = some o → H a = some o) → DqAll K Hs xs as → ∀ Q : VK, (∀ p zs, H p = none → DqAll K Hs zs ds → Q (.ref p) (upd H p (.lst zs))) → r xs H Q
theorem dl_new {H1 Hs1 : Hp} {Q : VK} {p : Addr} {zs : List V} (g : Gr H Hs H1 Hs1) (q : ∀ p xs H' Hs', Gr H Hs H' Hs' → H p = none → H' p = some (.lst xs) → Hs' p = none → DqAll K Hs' xs ds → Q (.ref p) H')
    (n : H1 p = none) (a : DqAll K Hs1 zs ds) : Q (.ref p) (upd H1 p (.lst zs)) := q p zs _ Hs1 (g.keep n) (g.ext.no n) upd_same (g.hsn n) a
theorem dl_cb {r : List V → Hp → VK → Prop} {ta : TA} {as : List PyData} (ha : DA K B ta Γ as) (hr : CbL K r as ds) : DL K B (tCB r ta) Γ ds := fun H Hs σ E Q q =>
  ha H Hs σ E _ fun v H1 Hs1 g1 p1 => hr H1 Hs1 v g1.sub p1 Q fun p zs n a => dl_new g1 q n a
theorem da_nil : DA K B tNil Γ [] := fun H Hs σ E Q q => q [] H Hs (Gr.refl E.sub) .nil
theorem da_cons {ta : TA} (h : DE K B te Γ d) (hr : DA K B ta Γ ds) : DA K B (tCons te ta) Γ (d :: ds) := fun H Hs σ E Q q =>
  h H Hs σ E _ fun v H1 Hs1 g1 p1 => hr H1 Hs1 σ (E.grow g1) _ fun vs H2 Hs2 g2 p2 => q (v :: vs) H2 Hs2 (g1.trans g2) (.cons (p1.mono g2.exs) p2)
theorem de_tup {ta : TA} (h : DA K B ta Γ ds) (hl : ds.length ≤ sizeLine) : DE K B (tTup ta) Γ (.tuple ds) := fun H Hs σ E Q q =>
  h H Hs σ E _ fun vs H1 Hs1 g1 p1 => ⟨by rw [p1.length]; exact hl, fun p n => q (.ref p) _ (upd Hs1 p (.tup vs)) (g1.share n) (.tup (SqT.of upd_same) (p1.mono (Ext.new (g1.hsn n))))⟩
theorem dl_lst {ta : TA} (h : DA K B ta Γ ds) (hl : ds.length ≤ sizeLine) : DL K B (tLst ta) Γ ds := fun H Hs σ E Q q =>
  h H Hs σ E _ fun vs H1 Hs1 g1 p1 => ⟨by rw [p1.length]; exact hl, fun p n => dl_new g1 q n p1⟩
/-! ### tests -/
variable {tt tu : TT} {b c : Bool}
theorem dt_B (h : DE K B t Γ (.bool b)) : DT K B (tB t) Γ b := fun H Hs σ E Q q => h H Hs σ E _ fun v H' Hs' g p => by
  cases p
  exact ⟨b, rfl, q H' Hs' g⟩
theorem dt_not (h : DT K B tt Γ b) : DT K B (tNot tt) Γ (!b) := fun H Hs σ E Q q => h H Hs σ E _ fun H' Hs' g => q H' Hs' g
theorem dt_and (h1 : DT K B tt Γ b) (h2 : b = true → DT K B tu Γ c) : DT K B (tAnd tt tu) Γ (b && c) := fun H Hs σ E Q q => h1 H Hs σ E _ fun H1 Hs1 g1 => by
  cases b with
  | true =>
    show tu σ H1 Q
    exact h2 rfl H1 Hs1 σ (E.grow g1) Q fun H2 Hs2 g2 => q H2 Hs2 (g1.trans g2)
  | false =>
    show Q false H1
    exact q H1 Hs1 g1
theorem dt_or (h1 : DT K B tt Γ b) (h2 : b = false → DT K B tu Γ c) : DT K B (tOr tt tu) Γ (b || c) := fun H Hs σ E Q q => h1 H Hs σ E _ fun H1 Hs1 g1 => by
  cases b with
  | true =>
    show Q true H1
    exact q H1 Hs1 g1
  | false =>
    show tu σ H1 Q
    exact h2 rfl H1 Hs1 σ (E.grow g1) Q fun H2 Hs2 g2 => q H2 Hs2 (g1.trans g2)
theorem de_andV {x y : Bool} (h1 : DE K B ta Γ (.bool x)) (h2 : x = true → DE K B tb Γ (.bool y)) : DE K B (tAndV ta tb) Γ (.bool (x && y)) := fun H Hs σ E Q q => h1 H Hs σ E _ fun v H1 Hs1 g1 p1 => by
  cases p1
  refine ⟨x, rfl, ?_⟩
  cases x with
  | true =>
    show tb σ H1 Q
    exact h2 rfl H1 Hs1 σ (E.grow g1) Q fun u H2 Hs2 g2 p2 => q u H2 Hs2 (g1.trans g2) p2
  | false =>
    show Q (.bl false) H1
    exact q _ H1 Hs1 g1 (.bl _)
theorem de_orV {x y : Bool} (h1 : DE K B ta Γ (.bool x)) (h2 : x = false → DE K B tb Γ (.bool y)) : DE K B (tOrV ta tb) Γ (.bool (x || y)) := fun H Hs σ E Q q => h1 H Hs σ E _ fun v H1 Hs1 g1 p1 => by
  cases p1
  refine ⟨x, rfl, ?_⟩
  cases x with
  | true =>
    show Q (.bl true) H1
    exact q _ H1 Hs1 g1 (.bl _)
  | false =>
    show tb σ H1 Q
    exact h2 rfl H1 Hs1 σ (E.grow g1) Q fun u H2 Hs2 g2 p2 => q u H2 Hs2 (g1.trans g2) p2
theorem de_notV {x : Bool} (h1 : DE K B ta Γ (.bool x)) : DE K B (tNotV ta) Γ (.bool (!x)) := fun H Hs σ E Q q => h1 H Hs σ E _ fun v H1 Hs1 g1 p1 => by
  cases p1
  exact ⟨x, rfl, q _ H1 Hs1 g1 (.bl _)⟩
theorem de_if (h : DT K B tt Γ b) (h1 : b = true → DE K B ta Γ d) (h2 : b = false → DE K B tb Γ d) : DE K B (tIf tt ta tb) Γ d := fun H Hs σ E Q q => h H Hs σ E _ fun H1 Hs1 g1 => by
  cases b with
  | true =>
    show ta σ H1 Q
    exact h1 rfl H1 Hs1 σ (E.grow g1) Q fun u H2 Hs2 g2 p2 => q u H2 Hs2 (g1.trans g2) p2
  | false =>
    show tb σ H1 Q
    exact h2 rfl H1 Hs1 σ (E.grow g1) Q fun u H2 Hs2 g2 p2 => q u H2 Hs2 (g1.trans g2) p2
/-! ### calls of own defs -/
/-- a def by a relation of data: arguments, value -/
def spR (K : PySem.W.Frag) (R : List PyData → PyData → Prop) : Sp := fun vs H Q _ => ∃ ds d Hs, (∀ a o, Hs a = some o → H a = some o) ∧ TabsIn Hs ∧ DqAll K Hs vs ds ∧ R ds d ∧ ∀ v H' Hs', Gr H Hs H' Hs' → Dq K Hs' v d → Q v H'
theorem de_call {R : List PyData → PyData → Prop} {E0 : XK} {ta : TA} {as : List PyData} (ha : DA K B ta Γ as) (hr : R as d) : DE K B (tCall (spR K R) [] E0 ta) Γ d := fun H Hs σ E Q q =>
  ha H Hs σ E _ fun vs H1 Hs1 g1 p1 => ⟨as, d, Hs1, g1.sub, E.tab.mono g1.exs, by rw [List.append_nil]; exact p1, hr, fun v H2 Hs2 g2 p2 => q v H2 Hs2 (g1.trans g2) p2⟩
/-- a def that gives a fresh list -/
def spRO (K : PySem.W.Frag) (R : List PyData → PyData → Prop) : Sp := fun vs H Q _ => ∃ ds es Hs, (∀ a o, Hs a = some o → H a = some o) ∧ TabsIn Hs ∧ DqAll K Hs vs ds ∧ R ds (.list es) ∧ ∀ p xs H' Hs', Gr H Hs H' Hs' → H p = none → H' p = some (.lst xs) → Hs' p = none → DqAll K Hs' xs es → Q (.ref p) H'
theorem dl_call {R : List PyData → PyData → Prop} {E0 : XK} {ta : TA} {as : List PyData} (ha : DA K B ta Γ as) (hr : R as (.list ds)) : DL K B (tCall (spRO K R) [] E0 ta) Γ ds := fun H Hs σ E Q q =>
  ha H Hs σ E _ fun vs H1 Hs1 g1 p1 => ⟨as, ds, Hs1, g1.sub, E.tab.mono g1.exs, by rw [List.append_nil]; exact p1, hr, fun p xs H2 Hs2 g2 n e s a => q p xs H2 Hs2 (g1.trans g2) (g1.ext.no n) e s a⟩
/-! ### statements -/
inductive Out where
  | nx (Γ : Gm) | rt (d : PyData) | bk (Γ : Gm) | ct (Γ : Gm) | ro (ds : List PyData)
def Fits (K : PySem.W.Frag) (B : Bs) (D : Ends) : Out → Prop
  | .nx Γ => ∀ H Hs σ, Enb K B H Hs σ Γ → D.nx σ H
  | .bk Γ => ∀ H Hs σ, Enb K B H Hs σ Γ → D.bk σ H
  | .ct Γ => ∀ H Hs σ, Enb K B H Hs σ Γ → D.ct σ H
  | .rt d => ∀ v H Hs, Gr B.H0 B.Hs0 H Hs → Dq K Hs v d → D.rt v H
  | .ro ds => ∀ p xs H Hs, Gr B.H0 B.Hs0 H Hs → B.H0 p = none → H p = some (.lst xs) → Hs p = none → DqAll K Hs xs ds → D.rt (.ref p) H
def DS (K : PySem.W.Frag) (B : Bs) (t : TS) (Γ : Gm) (P : Out → Prop) : Prop := ∀ (D : Ends) H Hs σ, Enb K B H Hs σ Γ → (∀ o, P o → Fits K B D o) → t D σ H
/-- what follows a statement -/
def thenS (K : PySem.W.Frag) (B : Bs) (u : TS) (P : Out → Prop) : Out → Prop
  | .nx Γ => DS K B u Γ P
  | o => P o
variable {P : Out → Prop} {u ts : TS}
theorem ds_seq (h : DS K B ts Γ (thenS K B u P)) : DS K B (tSeq ts u) Γ P := fun D H Hs σ E q => h { D with nx := u D } H Hs σ E fun o ho => by
  cases o with
  | nx Γ' => exact fun H' Hs' σ' E' => ho D H' Hs' σ' E' q
  | rt d => exact q _ ho
  | bk Γ' => exact q _ ho
  | ct Γ' => exact q _ ho
  | ro ds => exact q _ ho
theorem ds_next (h : P (.nx Γ)) : DS K B tNext Γ P := fun D H Hs σ E q => q _ h H Hs σ E
theorem ds_brk (h : P (.bk Γ)) : DS K B tBreak Γ P := fun D H Hs σ E q => q _ h H Hs σ E
theorem ds_cont (h : P (.ct Γ)) : DS K B tCont Γ P := fun D H Hs σ E q => q _ h H Hs σ E
theorem ds_asg {i : Nat} (h : DE K B te Γ d) (k : P (.nx (Γ.set i (.sh d)))) : DS K B (tAsg te (gName i)) Γ P := fun D H Hs σ E q => h H Hs σ E _ fun v H1 Hs1 g1 p1 =>
  q _ k H1 Hs1 _ ((E.grow g1).setSh i p1)
theorem ds_asgO {i : Nat} (h : DL K B te Γ ds) (k : P (.nx (Γ.set i (.ow ds)))) : DS K B (tAsg te (gName i)) Γ P := fun D H Hs σ E q => h H Hs σ E _ fun p xs H1 Hs1 g1 n e s a =>
  q _ k H1 Hs1 _ ((E.grow g1).setOw i e a s (E.gr.ext.no n) fun j es hj _ hσ => by
    obtain ⟨l, ys, e1, h1, _⟩ := E.ow hj
    rw [hσ] at e1
    cases e1
    rw [n] at h1
    cases h1)
theorem ds_ret (h : DE K B te Γ d) (k : P (.rt d)) : DS K B (tRet te) Γ P := fun D H Hs σ E q => h H Hs σ E _ fun v H1 Hs1 g1 p1 => q _ k v H1 Hs1 (E.gr.trans g1) p1
theorem ds_retO (h : DL K B te Γ ds) (k : P (.ro ds)) : DS K B (tRet te) Γ P := fun D H Hs σ E q => h H Hs σ E _ fun p xs H1 Hs1 g1 n e s a => q _ k p xs H1 Hs1 (E.gr.trans g1) (E.gr.ext.no n) e s a
theorem ds_retN (k : P (.rt .none)) : DS K B tRetN Γ P := fun D H Hs σ E q => q _ k _ H Hs E.gr .non
/-- a list of one's own is free from here on -/
theorem ds_free {i : Nat} (hi : Γ[i]? = some (.ow ds)) (h : DS K B ts (Γ.set i (.sh (.list ds))) P) : DS K B ts Γ P := fun D H Hs σ E q => by
  obtain ⟨Hs', g, x, E'⟩ := E.free hi
  exact h D H Hs' σ E' q
theorem ds_drop (h : DE K B te Γ d) (k : P (.nx Γ)) : DS K B (tDrop te) Γ P := fun D H Hs σ E q => h H Hs σ E _ fun v H1 Hs1 g1 _ => q _ k H1 Hs1 σ (E.grow g1)
theorem ds_if {tw : TS} (h : DT K B tt Γ b) (h1 : b = true → DS K B u Γ P) (h2 : b = false → DS K B tw Γ P) : DS K B (tIfS tt u tw) Γ P := fun D H Hs σ E q => h H Hs σ E _ fun H1 Hs1 g1 => by
  cases b with
  | true =>
    show u D σ H1
    exact h1 rfl D H1 Hs1 σ (E.grow g1) q
  | false =>
    show tw D σ H1
    exact h2 rfl D H1 Hs1 σ (E.grow g1) q
theorem ds_imp {P' : Out → Prop} (h : DS K B ts Γ P') (k : ∀ o, P' o → P o) : DS K B ts Γ P := fun D H Hs σ E q => h D H Hs σ E fun o ho => q o (k o ho)
/-- two names at once -/
theorem ds_par {i j : Nat} {ta : TA} {a b : PyData} (h : DA K B ta Γ [a, b]) (k : P (.nx ((Γ.set i (.sh a)).set j (.sh b)))) : DS K B (tPar i j ta) Γ P := fun D H Hs σ E q => h H Hs σ E _ fun vs H1 Hs1 g1 p1 => by
  cases p1 with
  | cons p1 p2 =>
    cases p2 with
    | cons p2 p3 =>
      cases p3
      exact ⟨_, _, rfl, q _ k H1 Hs1 _ (((E.grow g1).setSh i p1).setSh j p2)⟩
/-- out.append(e), out one's own -/
theorem ds_app {i : Nat} (hi : Γ[i]? = some (.ow ds)) (h : DE K B te Γ d) (hz : ds.length < sizeLine) (k : P (.nx (Γ.set i (.ow (ds ++ [d]))))) : DS K B (tDrop (tBM K "list" rAppend (tVar i) (tCons te tNil))) Γ P := fun D H Hs σ E q => by
  obtain ⟨l, xs, e, h1, h2, h3, h4⟩ := E.ow hi
  refine ⟨.ref l, e, .inl ⟨rfl, xs, SqL.of h1⟩, h H Hs σ E _ fun v H1 Hs1 g1 p1 => ?_⟩
  have E1 := E.grow g1
  refine ⟨l, xs, v, rfl, rfl, g1.ext.lst h1, by rw [h2.length]; exact hz, q _ k _ Hs1 σ (E1.mut hi e ((h2.mono g1.exs).app (.cons p1 .nil)))⟩
/-- a, b = e: a tuple told apart -/
theorem ds_tup2 {i j n : Nat} {a b : PyData} (h : DE K B te Γ (.tuple [a, b])) (hn : n = 2) (k : P (.nx ((Γ.set i (.sh a)).set j (.sh b)))) : DS K B (tAsg te (gTup K n (gCons (gName i) (gCons (gName j) gNil)))) Γ P := fun D H Hs σ E q => h H Hs σ E _ fun v H1 Hs1 g1 p1 => by
  subst hn
  cases p1 with
  | tup hq ha =>
    cases ha with
    | cons a1 ha =>
      cases ha with
      | cons a2 ha =>
        cases ha
        exact ⟨_, _, rfl, sub_t g1.sub hq, rfl, _, _, rfl, _, _, rfl, rfl, q _ k H1 Hs1 _ (((E.grow g1).setSh i a1).setSh j a2)⟩
theorem ds_tup3 {i j l n : Nat} {a b c : PyData} (h : DE K B te Γ (.tuple [a, b, c])) (hn : n = 3) (k : P (.nx (((Γ.set i (.sh a)).set j (.sh b)).set l (.sh c)))) : DS K B (tAsg te (gTup K n (gCons (gName i) (gCons (gName j) (gCons (gName l) gNil))))) Γ P := fun D H Hs σ E q => h H Hs σ E _ fun v H1 Hs1 g1 p1 => by
  subst hn
  cases p1 with
  | tup hq ha =>
    cases ha with
    | cons a1 ha =>
      cases ha with
      | cons a2 ha =>
        cases ha with
        | cons a3 ha =>
          cases ha
          exact ⟨_, _, rfl, sub_t g1.sub hq, rfl, _, _, rfl, _, _, rfl, _, _, rfl, rfl, q _ k H1 Hs1 _ ((((E.grow g1).setSh i a1).setSh j a2).set l ⟨_, rfl, a3⟩ fun _ z => nomatch z)⟩
/-! ### loops -/
def Bs.at (B : Bs) (L : Hp) : Bs := { B with low := L }
theorem low_in {L : Hp} (E : Enb K B H Hs σ Γ) (x : Ext L Hs) : Enb K (B.at L) H Hs σ Γ := ⟨E.gr, x, E.len, E.at_, E.sep, E.tab⟩
theorem low_out {L : Hp} (E : Enb K (B.at L) H Hs σ Γ) (x : Ext B.low L) : Enb K B H Hs σ Γ := ⟨E.gr, x.trans E.pin, E.len, E.at_, E.sep, E.tab⟩
/-- what a turn leaves -/
def turnS (I : Nat → Gm → Prop) (k : Nat) (P : Out → Prop) : Out → Prop
  | .nx Γ => I (k + 1) Γ
  | .ct Γ => I (k + 1) Γ
  | .bk Γ => P (.nx Γ)
  | .rt v => P (.rt v)
  | .ro v => P (.ro v)
theorem turn_fits {I : Nat → Gm → Prop} {k : Nat} {L : Hp} {D : Ends} {o : Out} (ho : turnS I k P o) (q : ∀ o, P o → Fits K B D o) (x : Ext B.low L) {W : St → Hp → Prop}
    (hw : ∀ Γ' H' Hs' σ', I (k + 1) Γ' → Enb K (B.at L) H' Hs' σ' Γ' → W σ' H') : Fits K (B.at L) { D with nx := W, ct := W, bk := D.nx } o := by
  cases o with
  | nx Γ' => exact fun H' Hs' σ' E' => hw Γ' H' Hs' σ' ho E'
  | ct Γ' => exact fun H' Hs' σ' E' => hw Γ' H' Hs' σ' ho E'
  | bk Γ' => exact fun H' Hs' σ' E' => q _ ho H' Hs' σ' (low_out E' x)
  | rt d => exact q _ ho
  | ro ds => exact q _ ho
/-- an iterator that gives data -/
def ItD (K : PySem.W.Frag) (J : It) (L : Hp) (ds : List PyData) : Prop := ∀ H2 Hs2, (∀ a o, Hs2 a = some o → H2 a = some o) → Ext L Hs2 →
  J.stop ds.length H2 ∧ ∀ i d, ds[i]? = some d → J.go i H2 ∧ ∀ x H3, J.yld i H2 x H3 → ∃ Hs3, Gr H2 Hs2 H3 Hs3 ∧ Dq K Hs3 x d
/-- what is walked -/
def DI (K : PySem.W.Frag) (B : Bs) (wi : TI) (Γ : Gm) (ds : List PyData) : Prop := ∀ H Hs σ, Enb K B H Hs σ Γ → ∀ R : It → Hp → Prop, (∀ J H' Hs', Gr H Hs H' Hs' → ItD K J Hs' ds → R J H') → wi σ H R
theorem itd_list {a : Addr} {xs : List V} {L : Hp} (hq : SqL K L a xs) (ha : DqAll K L xs ds) : ItD K (Itl K a) L ds := fun H2 Hs2 s x => by
  have q2 := sub_l s (ext_l x hq)
  refine ⟨⟨xs, q2, by rw [ha.length]; exact Nat.le_refl _⟩, fun i d hd => ?_⟩
  obtain ⟨v, hv, pv⟩ := ha.get hd
  refine ⟨⟨xs, v, q2, hv⟩, fun y H3 ⟨e, f⟩ => ?_⟩
  subst e
  cases (f xs q2).symm.trans hv
  exact ⟨Hs2, Gr.refl s, pv.mono x⟩
theorem itd_tup {a : Addr} {xs : List V} {L : Hp} (hq : SqT K L a xs) (ha : DqAll K L xs ds) : ItD K (Itt K a) L ds := fun H2 Hs2 s x => by
  have q2 := sub_t s (ext_t x hq)
  refine ⟨⟨xs, q2, by rw [ha.length]; exact Nat.le_refl _⟩, fun i d hd => ?_⟩
  obtain ⟨v, hv, pv⟩ := ha.get hd
  refine ⟨⟨xs, v, q2, hv⟩, fun y H3 ⟨e, f⟩ => ?_⟩
  subst e
  cases (f xs q2).symm.trans hv
  exact ⟨Hs2, Gr.refl s, pv.mono x⟩
theorem di_list {te : TE} (h : DE K B te Γ (.list ds)) : DI K B (iList K te) Γ ds := fun H Hs σ E R q => h H Hs σ E _ fun v H1 Hs1 g1 p1 => by
  cases p1 with
  | lst hq ha => exact ⟨_, rfl, ⟨_, sub_l g1.sub hq⟩, q _ H1 Hs1 g1 (itd_list hq ha)⟩
theorem di_tup {te : TE} (h : DE K B te Γ (.tuple ds)) : DI K B (iTup K te) Γ ds := fun H Hs σ E R q => h H Hs σ E _ fun v H1 Hs1 g1 p1 => by
  cases p1 with
  | tup hq ha => exact ⟨_, rfl, ⟨_, sub_t g1.sub hq⟩, q _ H1 Hs1 g1 (itd_tup hq ha)⟩
def rangeD (lo : Int) (n : Nat) : List PyData := (List.range n).map fun i => .int (lo + (i : Nat))
theorem rangeD_get {lo : Int} {n i : Nat} {d : PyData} (h : (rangeD lo n)[i]? = some d) : i < n ∧ d = .int (lo + (i : Nat)) := by
  unfold rangeD at h
  rw [List.getElem?_map] at h
  cases e : (List.range n)[i]? with
  | none => rw [e] at h; cases h
  | some j =>
    rw [e] at h
    obtain ⟨h1, h2⟩ := List.getElem?_eq_some_iff.mp e
    rw [List.getElem_range] at h2
    rw [List.length_range] at h1
    subst h2
    exact ⟨h1, (Option.some.inj h).symm⟩
theorem rangeD_len {lo : Int} {n : Nat} : (rangeD lo n).length = n := by unfold rangeD; rw [List.length_map, List.length_range]
theorem itd_rng {lo : Int} {n : Nat} {L : Hp} : ItD K (Itr lo n) L (rangeD lo n) := fun H2 Hs2 s x => by
  refine ⟨by rw [rangeD_len]; exact Nat.le_refl _, fun i d hd => ?_⟩
  obtain ⟨h1, rfl⟩ := rangeD_get hd
  refine ⟨h1, fun y H3 ⟨e, f⟩ => ?_⟩
  subst e; subst f
  exact ⟨Hs2, Gr.refl s, .int _⟩
theorem di_rng1 {ta : TA} {n : Int} (h : DA K B ta Γ [.int n]) (hn : -(2 ^ 62) ≤ n ∧ n < 2 ^ 62) : DI K B (iRng1 ta) Γ (rangeD 0 n.toNat) := fun H Hs σ E R q => h H Hs σ E _ fun vs H1 Hs1 g1 p1 => by
  cases p1 with
  | cons p1 p2 =>
    cases p2; cases p1
    exact ⟨n, rfl, hn.1, hn.2, q _ H1 Hs1 g1 itd_rng⟩
theorem di_rng2 {ta : TA} {m n : Int} (h : DA K B ta Γ [.int m, .int n]) (hm : -(2 ^ 62) ≤ m ∧ m < 2 ^ 62) (hn : -(2 ^ 62) ≤ n ∧ n < 2 ^ 62) : DI K B (iRng2 ta) Γ (rangeD m (n - m).toNat) := fun H Hs σ E R q => h H Hs σ E _ fun vs H1 Hs1 g1 p1 => by
  cases p1 with
  | cons p1 p2 =>
    cases p2 with
    | cons p2 p3 =>
      cases p3; cases p1; cases p2
      exact ⟨m, n, rfl, ⟨hm.1, hm.2, hn.1, hn.2⟩, q _ H1 Hs1 g1 itd_rng⟩
/-- a text's signs -/
def signsD (x : Str) : List PyData := x.cps.toList.map fun c => .str ⟨#[c]⟩
theorem itd_str {x : Str} {L : Hp} : ItD K (Its x) L (signsD x) := fun H2 Hs2 s _ => by
  refine ⟨by unfold signsD; rw [List.length_map, Array.length_toList]; exact Nat.le_refl _, fun i d hd => ?_⟩
  unfold signsD at hd
  rw [List.getElem?_map, Array.getElem?_toList] at hd
  cases e : x.cps[i]? with
  | none => rw [e] at hd; cases hd
  | some c =>
    rw [e] at hd
    refine ⟨(Array.getElem?_eq_some_iff.mp e).1, fun y H3 ⟨e3, c', hc, f⟩ => ?_⟩
    subst e3; subst f
    cases hc.symm.trans e
    cases hd
    exact ⟨Hs2, Gr.refl s, .str _⟩
theorem di_str {te : TE} {x : Str} (h : DE K B te Γ (.str x)) : DI K B (iStr te) Γ (signsD x) := fun H Hs σ E R q => h H Hs σ E _ fun v H1 Hs1 g1 p1 => by
  cases p1
  exact ⟨x, rfl, q _ H1 Hs1 g1 itd_str⟩
def enumD (k : Nat) : List PyData → List PyData
  | [] => []
  | d :: r => .tuple [.int k, d] :: enumD (k + 1) r
theorem enumD_len : ∀ (k : Nat) (ds : List PyData), (enumD k ds).length = ds.length
  | _, [] => rfl
  | k, d :: r => by show (enumD (k + 1) r).length + 1 = _; rw [enumD_len]; rfl
theorem enumD_get : ∀ {k : Nat} {ds : List PyData} {i : Nat} {e : PyData}, (enumD k ds)[i]? = some e → ∃ d, ds[i]? = some d ∧ e = .tuple [.int ((k + i : Nat) : Int), d]
  | _, [], _, _, h => by simp [enumD] at h
  | k, d :: r, 0, e, h => ⟨d, rfl, (Option.some.inj h).symm⟩
  | k, d :: r, i + 1, e, h => by
    obtain ⟨d', h1, h2⟩ := enumD_get (k := k + 1) (ds := r) (i := i) h
    exact ⟨d', h1, by rw [h2, show k + 1 + i = k + (i + 1) by omega]⟩
theorem itd_enum {a : Addr} {xs : List V} {L : Hp} (hq : SqL K L a xs) (ha : DqAll K L xs ds) : ItD K (Ite K a) L (enumD 0 ds) := fun H2 Hs2 s x => by
  have q2 := sub_l s (ext_l x hq)
  refine ⟨⟨xs, q2, by rw [enumD_len, ha.length]; exact Nat.le_refl _⟩, fun i e he => ?_⟩
  obtain ⟨d, hd, rfl⟩ := enumD_get he
  obtain ⟨v, hv, pv⟩ := ha.get hd
  refine ⟨⟨xs, v, q2, hv⟩, fun y H3 ⟨T, z, e1, nT, e2, f⟩ => ?_⟩
  subst e1; subst e2
  cases (f xs q2).symm.trans hv
  rw [Nat.zero_add]
  have nS : Hs2 T = none := by
    cases q : Hs2 T with
    | none => rfl
    | some u => rw [s T u q] at nT; cases nT
  exact ⟨_, (Gr.refl s).share nT, .tup (SqT.of upd_same) (.cons (.int _) (.cons ((pv.mono x).mono (Ext.new nS)) .nil))⟩
theorem di_enum {ta : TA} (h : DA K B ta Γ [.list ds]) : DI K B (iEnum K ta) Γ (enumD 0 ds) := fun H Hs σ E R q => h H Hs σ E _ fun vs H1 Hs1 g1 p1 => by
  cases p1 with
  | cons p1 p2 =>
    cases p2
    cases p1 with
    | lst hq ha => exact ⟨_, _, rfl, sub_l g1.sub hq, q _ H1 Hs1 g1 (itd_enum hq ha)⟩
/-! ### targets -/
theorem wipe_set {σ : St} {k : Nat} {o : Option V} : ∀ {vs : List Nat}, k ∈ vs → wipe (σ.set k o) vs = wipe σ vs
  | v :: vs, h => by
    show (wipe (σ.set k o) vs).set v none = (wipe σ vs).set v none
    by_cases hk : k ∈ vs
    · rw [wipe_set hk]
    · have e : k = v := by
        rcases List.mem_cons.mp h with e | e
        · exact e
        · exact absurd e hk
      subst e
      have c : ∀ ws : List Nat, k ∉ ws → wipe (σ.set k o) ws = (wipe σ ws).set k o := fun ws => by
        induction ws with
        | nil => intro _; rfl
        | cons w ws ih =>
          intro hn
          have h1 : k ≠ w := fun z => hn (by rw [z]; exact List.mem_cons_self)
          have h2 : k ∉ ws := fun z => hn (List.mem_cons_of_mem _ z)
          show (wipe (σ.set k o) ws).set w none = ((wipe σ ws).set w none).set k o
          rw [ih h2, List.set_comm _ _ h1]
      rw [c vs hk, List.set_set]
/-- a target, bound to a datum -/
def DG (K : PySem.W.Frag) (g : TG) (js : List Nat) (d : PyData) (Γ Γ' : Gm) : Prop := ∀ (B : Bs) H Hs σ v, Enb K B H Hs σ Γ → Dq K Hs v d → ∀ Q : St → Hp → Prop, (∀ σ', Enb K B H Hs σ' Γ' → (∀ vs, (∀ j ∈ js, j ∈ vs) → wipe σ' vs = wipe σ vs) → Q σ' H) → g v σ H Q
def DGs (K : PySem.W.Frag) (g : TGs) (js : List Nat) (ds : List PyData) (Γ Γ' : Gm) : Prop := ∀ (B : Bs) H Hs σ vs, Enb K B H Hs σ Γ → DqAll K Hs vs ds → ∀ Q : St → Hp → Prop, (∀ σ', Enb K B H Hs σ' Γ' → (∀ ws, (∀ j ∈ js, j ∈ ws) → wipe σ' ws = wipe σ ws) → Q σ' H) → g vs σ H Q
theorem dg_name {i : Nat} : DG K (gName i) [i] d Γ (Γ.set i (.sh d)) := fun B H Hs σ v E p Q q => q _ (E.setSh i p) fun vs h => wipe_set (h i List.mem_cons_self)
theorem dgs_nil : DGs K gNil [] [] Γ Γ := fun B H Hs σ vs E p Q q => by
  cases p
  exact ⟨rfl, q σ E fun _ _ => rfl⟩
theorem dgs_cons {g : TG} {gs : TGs} {js ks : List Nat} {Γ1 Γ2 : Gm} (h : DG K g js d Γ Γ1) (hs : DGs K gs ks ds Γ1 Γ2) : DGs K (gCons g gs) (js ++ ks) (d :: ds) Γ Γ2 := fun B H Hs σ vs E p Q q => by
  cases p with
  | cons p1 p2 =>
    exact ⟨_, _, rfl, h B H Hs σ _ E p1 _ fun σ1 E1 w1 => hs B H Hs σ1 _ E1 p2 _ fun σ2 E2 w2 => q σ2 E2 fun ws hw => (w2 ws fun j hj => hw j (List.mem_append_right _ hj)).trans (w1 ws fun j hj => hw j (List.mem_append_left _ hj))⟩
theorem dg_tup {gs : TGs} {js : List Nat} {n : Nat} {Γ1 : Gm} (h : DGs K gs js ds Γ Γ1) (hn : ds.length = n) : DG K (gTup K n gs) js (.tuple ds) Γ Γ1 := fun B H Hs σ v E p Q q => by
  cases p with
  | tup hq ha => exact ⟨_, _, rfl, sub_t E.sub hq, by rw [ha.length]; exact hn, h B H Hs σ _ E ha Q q⟩
theorem ds_asgG {g : TG} {js : List Nat} {Γ1 : Gm} (h : DE K B te Γ d) (hg : DG K g js d Γ Γ1) (k : P (.nx Γ1)) : DS K B (tAsg te g) Γ P := fun D H Hs σ E q => h H Hs σ E _ fun v H1 Hs1 g1 p1 =>
  hg B H1 Hs1 σ v (E.grow g1) p1 _ fun σ' E' _ => q _ k H1 Hs1 σ' E'
/-- a for -/
theorem ds_for {wi : TI} {g : TG} {tb : TS} (h : DI K B wi Γ ds) (I : Nat → Gm → Prop) (h0 : I 0 Γ)
    (hs : ∀ B' k d Γ', ds[k]? = some d → I k Γ' → ∃ js Γ2, DG K g js d Γ' Γ2 ∧ DS K B' tb Γ2 (turnS I k P)) (hd : ∀ Γ', I ds.length Γ' → P (.nx Γ')) : DS K B (tFor wi g tb) Γ P := fun D H Hs σ E q => h H Hs σ E _ fun J H1 Hs1 g1 hJ => by
  have E1 := E.grow g1
  refine ⟨fun i m σ' H' => m = ds.length - i ∧ i ≤ ds.length ∧ ∃ Γ' Hs', I i Γ' ∧ Enb K (B.at Hs1) H' Hs' σ' Γ', ⟨ds.length, rfl, Nat.zero_le _, Γ, Hs1, h0, low_in E1 (Ext.refl _)⟩, ?_⟩
  rintro i m σ' H' ⟨rfl, hi, Γ', Hs', hI, E'⟩
  obtain ⟨j1, j2⟩ := hJ H' Hs' E'.sub E'.pin
  by_cases hlt : i < ds.length
  · have hd' : ds[i]? = some ds[i] := List.getElem?_eq_getElem hlt
    obtain ⟨j3, j4⟩ := j2 i _ hd'
    refine .inr ⟨j3, fun σ2 H2 => ∃ Γ2 Hs2, I (i + 1) Γ2 ∧ Enb K (B.at Hs1) H2 Hs2 σ2 Γ2, fun σ2 H2 ⟨Γ2, Hs2, hI2, E2⟩ => ⟨ds.length - (i + 1), by omega, rfl, by omega, Γ2, Hs2, hI2, E2⟩, fun x H2 hy => ?_⟩
    obtain ⟨Hs2, g2, p2⟩ := j4 x H2 hy
    obtain ⟨js, Γ2, hg, hb⟩ := hs (B.at Hs1) i _ Γ' hd' hI
    refine hg (B.at Hs1) H2 Hs2 σ' x (E'.grow g2) p2 _ fun σ3 E3 _ => hb _ H2 Hs2 σ3 E3 fun o ho => turn_fits ho q E1.pin fun Γ4 H4 Hs4 σ4 hI4 E4 => ⟨Γ4, Hs4, hI4, E4⟩
  · have e : i = ds.length := by omega
    subst e
    exact .inl ⟨j1, q _ (hd Γ' hI) H' Hs' σ' (low_out E' E1.pin)⟩
/-! ### comprehensions -/
def wipeG (Γ : Gm) : List Nat → Gm
  | [] => Γ
  | v :: vs => (wipeG Γ vs).set v .un
theorem En.wiped (E : Enb K B H Hs σ Γ) : ∀ vs : List Nat, Enb K B H Hs (wipe σ vs) (wipeG Γ vs)
  | [] => E
  | v :: vs => (En.wiped E vs).setUn v
theorem dl_lc {wi : TI} {g : TG} {vs js : List Nat} (h : DI K B wi Γ ds) (p : PyData → Bool) (e : PyData → PyData) (hz : ds.length ≤ 1000000) (hv : ∀ j ∈ js, j ∈ vs)
    (hs : ∀ B' d, d ∈ ds → ∃ Γ2, DG K g js d (wipeG Γ vs) Γ2 ∧ DT K B' tt Γ2 (p d) ∧ (p d = true → DE K B' te Γ2 (e d))) : DL K B (tLc wi g tt te vs) Γ ((ds.filter p).map e) := fun H Hs σ E Q q => h H Hs σ E _ fun J H1 Hs1 g1 hJ Dl hD => by
  have E1 := E.grow g1
  have hsD : Hs1 Dl = none := g1.hsn hD
  -- what holds behind i turns
  refine ⟨fun i m H' => m = ds.length - i ∧ i ≤ ds.length ∧ ∃ Hs' acc, H' Dl = some (.lst acc) ∧ Hs' Dl = none ∧ DqAll K Hs' acc (((ds.take i).filter p).map e) ∧ Gr H1 Hs1 H' Hs', ⟨ds.length, rfl, Nat.zero_le _, Hs1, [], upd_same, hsD, .nil, (Gr.refl g1.sub).keep hD⟩, ?_⟩
  rintro i m H' ⟨rfl, hi, Hs', acc, hA, hN, pA, gA⟩
  have E' := E1.grow gA
  obtain ⟨j1, j2⟩ := hJ H' Hs' gA.sub gA.exs
  by_cases hlt : i < ds.length
  · have hd' : ds[i]? = some ds[i] := List.getElem?_eq_getElem hlt
    obtain ⟨j3, j4⟩ := j2 i _ hd'
    have et : ds.take (i + 1) = ds.take i ++ [ds[i]] := by rw [List.take_add_one, hd']; rfl
    have lz : (((ds.take i).filter p).map e).length < sizeLine := by
      rw [List.length_map]
      refine Nat.lt_of_le_of_lt (List.length_filter_le _ _) ?_
      rw [List.length_take]
      exact Nat.lt_of_le_of_lt (Nat.min_le_right _ _) (Nat.lt_of_le_of_lt hz (by decide))
    refine .inr ⟨j3, fun H2 => ∃ Hs2 acc2, H2 Dl = some (.lst acc2) ∧ Hs2 Dl = none ∧ DqAll K Hs2 acc2 (((ds.take (i + 1)).filter p).map e) ∧ Gr H1 Hs1 H2 Hs2, fun H2 z => ⟨ds.length - (i + 1), by omega, rfl, by omega, z⟩, fun x H2 hy => ?_⟩
    obtain ⟨Hs2, g2, p2⟩ := j4 x H2 hy
    obtain ⟨Γ2, hg, ht, he⟩ := hs B ds[i] (List.getElem_mem hlt)
    have notin : ∀ {H3 Hs3 : Hp}, Gr H' Hs' H3 Hs3 → Hs3 Dl = none := fun {H3 Hs3} g3 => by
      cases z : Hs3 Dl with
      | none => rfl
      | some u =>
        rcases g3.new Dl (by rw [z]; simp) with w | w
        · exact absurd hN w
        · rw [hA] at w; cases w
    refine hg B H2 Hs2 _ x (En.wiped (E'.grow g2) vs) p2 _ fun σ3 E3 w3 => ⟨?_, ht H2 Hs2 σ3 E3 _ fun H3 Hs3 g3 => ?_⟩
    · have w := w3 vs hv
      rw [w]
      have ww : ∀ us : List Nat, (∀ u ∈ us, u ∈ vs) → wipe (wipe σ us) vs = wipe σ vs := fun us => by
        induction us with
        | nil => intro _; rfl
        | cons u us ih =>
          intro hu
          show wipe ((wipe σ us).set u none) vs = _
          rw [wipe_set (hu u List.mem_cons_self)]
          exact ih fun w hw => hu w (List.mem_cons_of_mem _ hw)
      exact ww vs fun _ h => h
    · have g23 := g2.trans g3
      cases hp : p ds[i] with
      | true =>
        show te σ3 H3 _
        refine he hp H3 Hs3 σ3 (E3.grow g3) _ fun y H4 Hs4 g4 p4 => ?_
        have g24 := g23.trans g4
        refine ⟨acc, g24.ext.lst hA, by rw [pA.length]; exact lz, Hs4, acc ++ [y], upd_same, notin g24, ?_, ?_⟩
        · rw [et, List.filter_append, List.map_append, List.filter_cons, if_pos hp]
          exact (pA.mono g24.exs).app (.cons p4 .nil)
        · have gt := gA.trans g24
          exact ⟨gt.ext.mut hD, gt.exs, fun a u z => by rw [upd_ne (ne_of_none z (notin g24))]; exact gt.sub a u z, gt.new⟩
      | false =>
        refine ⟨Hs3, acc, g23.ext.lst hA, notin g23, ?_, gA.trans g23⟩
        rw [et, List.filter_append, List.map_append, List.filter_cons, if_neg (by rw [hp]; simp)]
        show DqAll K Hs3 acc (_ ++ [])
        rw [List.append_nil]
        exact pA.mono g23.exs
  · have e2 : i = ds.length := by omega
    subst e2
    rw [List.take_length] at pA
    exact .inl ⟨j1, q Dl acc H' Hs' (g1.trans gA) (g1.ext.no hD) hA hN pA⟩
/-- a while, by a word and a number that falls -/
theorem ds_while {tc : TT} {tb : TS} (I : Nat → Gm → Prop) (m0 : Nat) (h0 : I m0 Γ)
    (hs : ∀ m Γ', I m Γ' → ∃ b, DT K B tc Γ' b ∧ (b = true → DS K B tb Γ' fun o => match o with | .nx Γ2 => ∃ m', m' < m ∧ I m' Γ2 | .ct Γ2 => ∃ m', m' < m ∧ I m' Γ2 | .bk Γ2 => P (.nx Γ2) | .rt v => P (.rt v) | .ro v => P (.ro v)) ∧ (b = false → P (.nx Γ'))) : DS K B (tWhile tc tb) Γ P := fun D H Hs σ E q =>
  ⟨fun m σ' H' => ∃ Γ' Hs', I m Γ' ∧ Enb K B H' Hs' σ' Γ', ⟨m0, Γ, Hs, h0, E⟩, fun m σ' H' ⟨Γ', Hs', hI, E'⟩ => by
    obtain ⟨b, hb, h1, h2⟩ := hs m Γ' hI
    refine hb H' Hs' σ' E' _ fun H2 Hs2 g2 => ?_
    have E2 := E'.grow g2
    cases b with
    | true =>
      refine ⟨fun σ3 H3 => ∃ m', m' < m ∧ ∃ Γ3 Hs3, I m' Γ3 ∧ Enb K B H3 Hs3 σ3 Γ3, fun _ _ n => n, ?_⟩
      refine h1 rfl _ H2 Hs2 σ' E2 fun o ho => ?_
      cases o with
      | nx Γ3 =>
        obtain ⟨m', l, hI'⟩ := ho
        exact fun H3 Hs3 σ3 E3 => ⟨m', l, Γ3, Hs3, hI', E3⟩
      | ct Γ3 =>
        obtain ⟨m', l, hI'⟩ := ho
        exact fun H3 Hs3 σ3 E3 => ⟨m', l, Γ3, Hs3, hI', E3⟩
      | bk Γ3 => exact q _ ho
      | rt d => exact q _ ho
      | ro ds => exact q _ ho
    | false => exact q _ (h2 rfl) H2 Hs2 σ' E2⟩
end
end Dl
set_option Elab.async false
set_option linter.all false
set_option maxRecDepth 100000
set_option maxHeartbeats 2000000
namespace Dl
open PySem L2 PyProof.Rows
variable [Tabs]
/-! ### a piece of the text, whatever its reading -/
def uE (X : Cx) (e : Expr) : TE := fun σ H Q => ∃ t, PE X e t ∧ t σ H Q
def uT (X : Cx) (e : Expr) : TT := fun σ H Q => ∃ t, PT X e t ∧ t σ H Q
def uW (X : Cx) (e : Expr) : TT := fun σ H Q => ∃ t, PW X e t ∧ t σ H Q
def uA (X : Cx) (es : List Expr) : TA := fun σ H Q => ∃ t, PA X es t ∧ t σ H Q
def uS (X : Cx) (s : Stmt) : TS := fun D σ H => ∃ t, PS X s t ∧ t D σ H
def uB (X : Cx) (s : List Stmt) : TS := fun D σ H => ∃ t, PSs X s t ∧ t D σ H
def uI (X : Cx) (tg e : Expr) : TI := fun σ H R => ∃ t, PI X tg e t ∧ t σ H R
theorem pe_u {X : Cx} {e : Expr} : PE X e (uE X e) := ⟨fun pins s σ H Q I ⟨_, p, h⟩ => p.run pins s σ H Q I h⟩
theorem pt_u {X : Cx} {e : Expr} : PT X e (uT X e) := ⟨fun pins s σ H Q I ⟨_, p, h⟩ => p.run pins s σ H Q I h⟩
theorem pw_u {X : Cx} {e : Expr} : PW X e (uW X e) := ⟨fun w pins s σ H Q I ⟨_, p, h⟩ => p.run w pins s σ H Q I h⟩
theorem pa_u {X : Cx} {es : List Expr} : PA X es (uA X es) := ⟨fun pos pins s σ H Q I ⟨_, p, h⟩ => p.run pos pins s σ H Q I h⟩
theorem ps_u {X : Cx} {s : Stmt} : PS X s (uS X s) := ⟨fun pins s σ H D I ⟨_, p, h⟩ => p.run pins s σ H D I h⟩
theorem pb_u {X : Cx} {s : List Stmt} : PSs X s (uB X s) := ⟨fun pins s σ H D I ⟨_, p, h⟩ => p.run pins s σ H D I h⟩
theorem pi_u {X : Cx} {tg e : Expr} : PI X tg e (uI X tg e) := ⟨fun pins s σ H R I ⟨_, p, h⟩ => p.run pins s σ H R I h⟩
/-! ### the judgements on the text -/
def Xp (X : Cx) (B : Bs) (Γ : Gm) (e : Expr) (d : PyData) : Prop := DE X.K B (uE X e) Γ d
def Xl (X : Cx) (B : Bs) (Γ : Gm) (e : Expr) (ds : List PyData) : Prop := DL X.K B (uE X e) Γ ds
def Xt (X : Cx) (B : Bs) (Γ : Gm) (e : Expr) (b : Bool) : Prop := DT X.K B (uT X e) Γ b
def Xw (X : Cx) (B : Bs) (Γ : Gm) (e : Expr) (b : Bool) : Prop := DT X.K B (uW X e) Γ b
def Xa (X : Cx) (B : Bs) (Γ : Gm) (es : List Expr) (ds : List PyData) : Prop := DA X.K B (uA X es) Γ ds
def Xs (X : Cx) (B : Bs) (Γ : Gm) (s : Stmt) (P : Out → Prop) : Prop := DS X.K B (uS X s) Γ P
def Xb (X : Cx) (B : Bs) (Γ : Gm) (s : List Stmt) (P : Out → Prop) : Prop := DS X.K B (uB X s) Γ P
def Xi (X : Cx) (B : Bs) (Γ : Gm) (tg e : Expr) (ds : List PyData) : Prop := DI X.K B (uI X tg e) Γ ds
section
variable {X : Cx} {B : Bs} {Γ : Gm} {e a b c : Expr} {es : List Expr} {s st : Stmt} {ss rest : List Stmt} {d d1 d2 : PyData} {ds : List PyData} {P : Out → Prop} {pos : Pos} {x : Str} {i : Nat} {p q r : Bool}
theorem xp_of {t : TE} (h : PE X e t) (k : DE X.K B t Γ d) : Xp X B Γ e d := fun H Hs σ E Q q => ⟨t, h, k H Hs σ E Q q⟩
theorem xl_of {t : TE} (h : PE X e t) (k : DL X.K B t Γ ds) : Xl X B Γ e ds := fun H Hs σ E Q q => ⟨t, h, k H Hs σ E Q q⟩
theorem xt_of {t : TT} (h : PT X e t) (k : DT X.K B t Γ p) : Xt X B Γ e p := fun H Hs σ E Q q => ⟨t, h, k H Hs σ E Q q⟩
theorem xw_of {t : TT} (h : PW X e t) (k : DT X.K B t Γ p) : Xw X B Γ e p := fun H Hs σ E Q q => ⟨t, h, k H Hs σ E Q q⟩
theorem xa_of {t : TA} (h : PA X es t) (k : DA X.K B t Γ ds) : Xa X B Γ es ds := fun H Hs σ E Q q => ⟨t, h, k H Hs σ E Q q⟩
theorem xs_of {t : TS} (h : PS X s t) (k : DS X.K B t Γ P) : Xs X B Γ s P := fun D H Hs σ E q => ⟨t, h, k D H Hs σ E q⟩
theorem xb_of {t : TS} (h : PSs X ss t) (k : DS X.K B t Γ P) : Xb X B Γ ss P := fun D H Hs σ E q => ⟨t, h, k D H Hs σ E q⟩
theorem xi_of {t : TI} {tg : Expr} (h : PI X tg e t) (k : DI X.K B t Γ ds) : Xi X B Γ tg e ds := fun H Hs σ E R q => ⟨t, h, k H Hs σ E R q⟩
/-! ### names -/
/-- x may be read, at slot i -/
structure Rk (X : Cx) (i : Nat) (x : Str) : Prop where
  ix : X.N[i]? = some x
  vis : Vis X.env.scope x
  d1 : (x == ("__debug__" : Str)) = false
  d2 : (x == ("__classdict__" : Str)) = false
/-- x may be stored, at slot i -/
structure Lk (X : Cx) (i : Nat) (x : Str) : Prop where
  nd : X.N.Nodup
  ix : X.N[i]? = some x
  loc : Loc X.env.scope x
  fn : X.fn x = true ∨ X.env.scope.names.lookup x = some .local
/-- a built-in's name -/
structure Bi (X : Cx) (x : Str) : Prop where
  gl : Gl X x
  no : X.mg x = none
/-- a module's own def: a relation of data -/
structure Ce (X : Cx) (x : Str) (R : List PyData → PyData → Prop) : Prop where
  ex : ∃ (k : Nat) (f : Addr) (fd : FuncData) (ps : List Str), X.mg x = some (.ref f) ∧ FnOk X.prog X.w X.K X.mg X.base CX0 k f fd ps (spR X.K R) ∧ PySem.W.keepIn X.K (.ref f) = true ∧ Binds X.K fd ps [] ∧ Room k X.A
  db : (x == ("__debug__" : Str)) = false
/-- a module's constant -/
structure Cn (X : Cx) (x : Str) (d : PyData) : Prop where
  ex : ∃ u v, X.mg x = some u ∧ RelV v u ∧ ∀ H, Dq X.K H v d
  db : (x == ("__debug__" : Str)) = false
theorem xp_var (h : Rk X i x) (k : Γ[i]? = some (.sh d)) : Xp X B Γ (.Name x pos) d := xp_of (pe_var h.ix h.vis h.d1 h.d2) (de_var k)
theorem xp_cn (h : Gl X x) (k : Cn X x d) : Xp X B Γ (.Name x pos) d := by
  obtain ⟨u, v, hm, r, p⟩ := k.ex
  exact xp_of (pe_glob h hm r k.db) fun H Hs σ E Q q => q v H Hs (Gr.refl E.sub) (p Hs)
theorem xp_int {j : Int} {k} : Xp X B Γ (.Constant (.int j) k pos) (.int j) := xp_of pe_int de_int
theorem xp_str {z : Str} {k} : Xp X B Γ (.Constant (.str z) k pos) (.str z) := xp_of pe_str de_str
theorem xp_bl {z : Bool} {k} : Xp X B Γ (.Constant (.bool z) k pos) (.bool z) := xp_of pe_bl de_bl
theorem xp_non {k} : Xp X B Γ (.Constant .none k pos) .none := xp_of pe_non de_non
theorem xp_l (h : Xl X B Γ e ds) : Xp X B Γ e (.list ds) := de_of_dl h
/-! ### operators -/
theorem xp_bin {op : Operator} {rr : R2} (ho : OpR X (binaryOp op) rr) (hr : OpD X.K rr d1 d2 d) (ha : Xp X B Γ a d1) (hb : Xp X B Γ b d2) : Xp X B Γ (.BinOp a op b pos) d := xp_of (pe_op ho pe_u pe_u) (de_op ha hb hr)
theorem xp_cmp {op : CmpOp} {rr : R2} (ho : OpR X (compareOp op) rr) (hr : OpD X.K rr d1 d2 d) (ha : Xp X B Γ a d1) (hb : Xp X B Γ b d2) (hm : behindInMarks op b = false) : Xp X B Γ (.Compare a [op] [b] pos) d := xp_of (pe_cmpR ho pe_u pe_u hm) (de_op ha hb hr)
theorem xt_cmp {op : CmpOp} {rr : R2} (ho : OpR X (compareOp op) rr) (hr : OpD X.K rr d1 d2 (.bool p)) (ha : Xp X B Γ a d1) (hb : Xp X B Γ b d2) (hm : behindInMarks op b = false) : Xt X B Γ (.Compare a [op] [b] pos) p := xt_of (pt_cmpR ho pe_u pe_u hm) (dt_B (de_op ha hb hr))
theorem opd_I {C : Int → Int → Prop} {g : Int → Int → V} {m n : Int} {K : PySem.W.Frag} (hc : C m n) (hg : ∀ H, Dq K H (g m n) d) : OpD K (rI C g) (.int m) (.int n) d := fun H Hs x y s hx hy Q q => by
  cases hx; cases hy
  exact ⟨m, n, rfl, rfl, hc, q _ H Hs (Gr.refl s) (hg Hs)⟩
theorem opd_I0 {g : Int → Int → V} {m n : Int} {K : PySem.W.Frag} (hg : ∀ H, Dq K H (g m n) d) : OpD K (rI0 g) (.int m) (.int n) d := fun H Hs x y s hx hy Q q => by
  cases hx; cases hy
  exact ⟨m, n, rfl, rfl, q _ H Hs (Gr.refl s) (hg Hs)⟩
variable {m n : Int} {y z : Str}
theorem xp_add (ha : Xp X B Γ a (.int m)) (hb : Xp X B Γ b (.int n)) : Xp X B Γ (.BinOp a .Add b pos) (.int (m + n)) := xp_bin op_add (opd_I0 fun _ => .int _) ha hb
theorem xp_sub (ha : Xp X B Γ a (.int m)) (hb : Xp X B Γ b (.int n)) : Xp X B Γ (.BinOp a .Sub b pos) (.int (m - n)) := xp_bin op_sub (opd_I0 fun _ => .int _) ha hb
theorem xp_mul (ha : Xp X B Γ a (.int m)) (hb : Xp X B Γ b (.int n)) (hc : CMulW m n) : Xp X B Γ (.BinOp a .Mult b pos) (.int (m * n)) := xp_bin op_mulW (opd_I hc fun _ => .int _) ha hb
/-- // by what is not nought -/
def CDivG (_ j : Int) : Prop := j ≠ 0 ∧ j.natAbs.log2 < 9000
theorem op_fdivG : OpR X (binaryOp .FloorDiv) (rI CDivG fun i j => .int (i.fdiv j)) := opI fun i j _ _ _ _ _ hc q => floordiv_int hc.1 q (.inl (PyProof.noPylong_of_log2 hc.2))
theorem xp_fdiv (ha : Xp X B Γ a (.int m)) (hb : Xp X B Γ b (.int n)) (hc : CDivG m n) : Xp X B Γ (.BinOp a .FloorDiv b pos) (.int (m.fdiv n)) := xp_bin op_fdivG (opd_I hc fun _ => .int _) ha hb
theorem xp_mod (ha : Xp X B Γ a (.int m)) (hb : Xp X B Γ b (.int n)) (hc : 0 < n) : Xp X B Γ (.BinOp a .Mod b pos) (.int (m % n)) := xp_bin op_mod (opd_I hc fun _ => .int _) ha hb
theorem xp_pow (ha : Xp X B Γ a (.int m)) (hb : Xp X B Γ b (.int n)) (hc : CPow m n) : Xp X B Γ (.BinOp a .Pow b pos) (.int (m ^ n.toNat)) := xp_bin op_pow (opd_I hc fun _ => .int _) ha hb
theorem xp_adds (ha : Xp X B Γ a (.str y)) (hb : Xp X B Γ b (.str z)) (hc : y.length + z.length ≤ sizeLine) : Xp X B Γ (.BinOp a .Add b pos) (.str (y ++ z)) :=
  xp_bin op_add_str (fun H Hs u v s hx hy Q q => by
    cases hx; cases hy
    exact ⟨y, z, rfl, rfl, hc, q _ H Hs (Gr.refl s) (.str _)⟩) ha hb
theorem xp_neg (ha : Xp X B Γ a (.int m)) : Xp X B Γ (.UnaryOp .USub a pos) (.int (-m)) := xp_of (pe_un un_neg pe_u) (de_un ha fun H Hs u s hx Q q => by
  cases hx
  exact ⟨m, rfl, q _ H Hs (Gr.refl s) (.int _)⟩)
theorem xp_not (ha : Xp X B Γ a (.bool p)) : Xp X B Γ (.UnaryOp .Not a pos) (.bool (!p)) := xp_of (pe_not pe_u) (de_notV ha)
/-! comparisons -/
theorem xp_lt (ha : Xp X B Γ a (.int m)) (hb : Xp X B Γ b (.int n)) : Xp X B Γ (.Compare a [.Lt] [b] pos) (.bool (decide (m < n))) := xp_cmp op_lt (opd_I0 fun _ => .bl _) ha hb (nomark _)
theorem xp_le (ha : Xp X B Γ a (.int m)) (hb : Xp X B Γ b (.int n)) : Xp X B Γ (.Compare a [.LtE] [b] pos) (.bool (decide (m ≤ n))) := xp_cmp op_le (opd_I0 fun _ => .bl _) ha hb (nomark _)
theorem xp_gt (ha : Xp X B Γ a (.int m)) (hb : Xp X B Γ b (.int n)) : Xp X B Γ (.Compare a [.Gt] [b] pos) (.bool (decide (n < m))) := xp_cmp op_gt (opd_I0 fun _ => .bl _) ha hb (nomark _)
theorem xp_ge (ha : Xp X B Γ a (.int m)) (hb : Xp X B Γ b (.int n)) : Xp X B Γ (.Compare a [.GtE] [b] pos) (.bool (decide (n ≤ m))) := xp_cmp op_ge (opd_I0 fun _ => .bl _) ha hb (nomark _)
theorem opd_sc {K : PySem.W.Frag} {rr : R2} {f : V → V → Bool} (hr : ∀ x y H (Q : VK), scal x y = true → Q (.bl (f x y)) H → rr x y H Q) {u v : V} (hs : scal u v = true) (h1 : ∀ H x, Dq K H x d1 → x = u) (h2 : ∀ H x, Dq K H x d2 → x = v) : OpD K rr d1 d2 (.bool (f u v)) :=
  fun H Hs x y s hx hy Q q => by
    cases h1 Hs x hx; cases h2 Hs y hy
    exact hr _ _ H Q hs (q _ H Hs (Gr.refl s) (.bl _))
theorem dq_int {K : PySem.W.Frag} : ∀ H x, Dq K H x (.int m) → x = .int m := fun _ _ h => by cases h; rfl
theorem dq_str {K : PySem.W.Frag} : ∀ H x, Dq K H x (.str y) → x = .str y := fun _ _ h => by cases h; rfl
theorem dq_bl {K : PySem.W.Frag} : ∀ H x, Dq K H x (.bool p) → x = .bl p := fun _ _ h => by cases h; rfl
theorem dq_non {K : PySem.W.Frag} : ∀ H x, Dq K H x .none → x = .non := fun _ _ h => by cases h; rfl
theorem dec_int {i j : Int} : decide (V.int i = V.int j) = decide (i = j) := by by_cases h : i = j <;> simp [h]
theorem dec_str {i j : Str} : decide (V.str i = V.str j) = decide (i = j) := by by_cases h : i = j <;> simp [h]
theorem dec_bl {i j : Bool} : decide (V.bl i = V.bl j) = decide (i = j) := by by_cases h : i = j <;> simp [h]
theorem xp_eqi (ha : Xp X B Γ a (.int m)) (hb : Xp X B Γ b (.int n)) : Xp X B Γ (.Compare a [.Eq] [b] pos) (.bool (decide (m = n))) := by
  rw [← dec_int]
  exact xp_cmp op_eq (opd_sc (f := fun x y => decide (x = y)) (fun _ _ _ _ h q => ⟨h, q⟩) rfl dq_int dq_int) ha hb (nomark _)
theorem xp_nei (ha : Xp X B Γ a (.int m)) (hb : Xp X B Γ b (.int n)) : Xp X B Γ (.Compare a [.NotEq] [b] pos) (.bool (!decide (m = n))) := by
  rw [← dec_int]
  exact xp_cmp op_ne (opd_sc (f := fun x y => !decide (x = y)) (fun _ _ _ _ h q => ⟨h, q⟩) rfl dq_int dq_int) ha hb (nomark _)
theorem xp_eqs (ha : Xp X B Γ a (.str y)) (hb : Xp X B Γ b (.str z)) : Xp X B Γ (.Compare a [.Eq] [b] pos) (.bool (decide (y = z))) := by
  rw [← dec_str]
  exact xp_cmp op_eq (opd_sc (f := fun x y => decide (x = y)) (fun _ _ _ _ h q => ⟨h, q⟩) rfl dq_str dq_str) ha hb (nomark _)
theorem xp_nes (ha : Xp X B Γ a (.str y)) (hb : Xp X B Γ b (.str z)) : Xp X B Γ (.Compare a [.NotEq] [b] pos) (.bool (!decide (y = z))) := by
  rw [← dec_str]
  exact xp_cmp op_ne (opd_sc (f := fun x y => !decide (x = y)) (fun _ _ _ _ h q => ⟨h, q⟩) rfl dq_str dq_str) ha hb (nomark _)
theorem xp_eqb (ha : Xp X B Γ a (.bool p)) (hb : Xp X B Γ b (.bool q)) : Xp X B Γ (.Compare a [.Eq] [b] pos) (.bool (decide (p = q))) := by
  rw [← dec_bl]
  exact xp_cmp op_eq (opd_sc (f := fun x y => decide (x = y)) (fun _ _ _ _ h q => ⟨h, q⟩) rfl dq_bl dq_bl) ha hb (nomark _)
theorem xp_neb (ha : Xp X B Γ a (.bool p)) (hb : Xp X B Γ b (.bool q)) : Xp X B Γ (.Compare a [.NotEq] [b] pos) (.bool (!decide (p = q))) := by
  rw [← dec_bl]
  exact xp_cmp op_ne (opd_sc (f := fun x y => !decide (x = y)) (fun _ _ _ _ h q => ⟨h, q⟩) rfl dq_bl dq_bl) ha hb (nomark _)
/-- what may be compared as data -/
theorem shaped_plain (h : SeqAt.shaped d = true) : d.canLay0 = true := (Bool.and_eq_true_iff.mp h).1
theorem xp_eqd (hu : X.A.units + 64 < cLine) (ha : Xp X B Γ a d1) (hb : Xp X B Γ b d2) (h1 : SeqAt.shaped d1 = true) (h2 : SeqAt.shaped d2 = true) : Xp X B Γ (.Compare a [.Eq] [b] pos) (.bool (PyData.eqv d1 d2)) :=
  xp_cmp (op_eqD hu) (fun H Hs u v s hx hy Q q => ⟨d1, d2, (dp_sub s hx).plain (shaped_plain h1), (dp_sub s hy).plain (shaped_plain h2), h1, h2, q _ H Hs (Gr.refl s) (.bl _)⟩) ha hb (nomark _)
theorem xp_ned (hu : X.A.units + 64 < cLine) (ha : Xp X B Γ a d1) (hb : Xp X B Γ b d2) (h1 : SeqAt.shaped d1 = true) (h2 : SeqAt.shaped d2 = true) : Xp X B Γ (.Compare a [.NotEq] [b] pos) (.bool (!PyData.eqv d1 d2)) :=
  xp_cmp (op_neD hu) (fun H Hs u v s hx hy Q q => ⟨d1, d2, (dp_sub s hx).plain (shaped_plain h1), (dp_sub s hy).plain (shaped_plain h2), h1, h2, q _ H Hs (Gr.refl s) (.bl _)⟩) ha hb (nomark _)
def isNone : PyData → Bool
  | .none => true
  | _ => false
theorem isNone_v {K : PySem.W.Frag} {H : Hp} {v : V} (h : Dq K H v d) : decide (v = .non) = isNone d := by cases h <;> rfl
theorem xp_isN {k p2} (ha : Xp X B Γ a d) : Xp X B Γ (.Compare a [.Is] [.Constant .none k p2] pos) (.bool (isNone d)) :=
  xp_cmp (d2 := .none) op_isN (fun H Hs u v s hx hy Q q => by
    cases hy
    refine ⟨rfl, ?_⟩
    rw [isNone_v hx]
    exact q _ H Hs (Gr.refl s) (.bl _)) ha xp_non (nomark _)
theorem xp_notN {k p2} (ha : Xp X B Γ a d) : Xp X B Γ (.Compare a [.IsNot] [.Constant .none k p2] pos) (.bool (!isNone d)) :=
  xp_cmp (d2 := .none) op_notN (fun H Hs u v s hx hy Q q => by
    cases hy
    refine ⟨rfl, ?_⟩
    rw [isNone_v hx]
    exact q _ H Hs (Gr.refl s) (.bl _)) ha xp_non (nomark _)
theorem xp_isB (ha : Xp X B Γ a (.bool p)) (hb : Xp X B Γ b (.bool q)) : Xp X B Γ (.Compare a [.Is] [b] pos) (.bool (decide (p = q))) :=
  xp_cmp op_is_bl (fun H Hs u v s hx hy Q q => by
    cases hx; cases hy
    exact ⟨_, _, rfl, rfl, q _ H Hs (Gr.refl s) (.bl _)⟩) ha hb (nomark _)
theorem xp_notB (ha : Xp X B Γ a (.bool p)) (hb : Xp X B Γ b (.bool q)) : Xp X B Γ (.Compare a [.IsNot] [b] pos) (.bool (!decide (p = q))) :=
  xp_cmp op_isnot_bl (fun H Hs u v s hx hy Q q => by
    cases hx; cases hy
    exact ⟨_, _, rfl, rfl, q _ H Hs (Gr.refl s) (.bl _)⟩) ha hb (nomark _)
/-- x in (..), x flat, among flat things -/
def flatD : PyData → Bool
  | .none => true
  | .bool _ => true
  | .int _ => true
  | .str _ => true
  | _ => false
def vOf : PyData → V
  | .bool b => .bl b
  | .int i => .int i
  | .str s => .str s
  | _ => .non
theorem vOf_eq {K : PySem.W.Frag} {H : Hp} {v : V} (h : Dq K H v d) (f : flatD d = true) : v = vOf d := by
  cases h <;> first | rfl | cases f
theorem vOf_all {K : PySem.W.Frag} {H : Hp} : ∀ {vs : List V} {ds : List PyData}, DqAll K H vs ds → ds.all flatD = true → vs = ds.map vOf
  | _, _, .nil, _ => rfl
  | _, _, @DqAll.cons _ _ v vs d ds h a, f => by
    rw [List.all_cons, Bool.and_eq_true] at f
    rw [vOf_eq h f.1, vOf_all a f.2]; rfl
theorem flatV_of : ∀ {d : PyData}, flatD d = true → flatV (vOf d) = true
  | .none, _ => rfl
  | .bool _, _ => rfl
  | .int _, _ => rfl
  | .str _, _ => rfl
  | .list _, h => nomatch h
  | .tuple _, h => nomatch h
  | .dict _, h => nomatch h
theorem flatV_all {ds : List PyData} (h : ds.all flatD = true) : (ds.map vOf).all flatV = true := by
  rw [List.all_eq_true] at h ⊢
  intro v hv
  obtain ⟨d, hd, rfl⟩ := List.mem_map.mp hv
  exact flatV_of (h d hd)
def inD (d : PyData) (ds : List PyData) : Bool := inV (vOf d) (ds.map vOf)
theorem opd_in {K : PySem.W.Frag} {neg : Bool} (f : flatD d1 = true) (g : ds.all flatD = true) (hd : d2 = .list ds ∨ d2 = .tuple ds) : OpD K (rIn K neg) d1 d2 (.bool (if neg then !inD d1 ds else inD d1 ds)) := fun H Hs u v s hx hy Q q => by
  rcases hd with rfl | rfl
  · cases hy with
    | lst hq ha =>
      cases vOf_eq hx f
      cases vOf_all ha g
      exact ⟨_, _, rfl, .inl (sub_l s hq), flatV_of f, flatV_all g, q _ H Hs (Gr.refl s) (.bl _)⟩
  · cases hy with
    | tup hq ha =>
      cases vOf_eq hx f
      cases vOf_all ha g
      exact ⟨_, _, rfl, .inr (sub_t s hq), flatV_of f, flatV_all g, q _ H Hs (Gr.refl s) (.bl _)⟩
theorem xp_inL (hm : behindInMarks .In b = false) (ha : Xp X B Γ a d) (hb : Xp X B Γ b (.list ds)) (f : flatD d = true) (g : ds.all flatD = true) : Xp X B Γ (.Compare a [.In] [b] pos) (.bool (inD d ds)) := xp_cmp op_in_seq (opd_in (neg := false) f g (.inl rfl)) ha hb hm
theorem xp_inT (hm : behindInMarks .In b = false) (ha : Xp X B Γ a d) (hb : Xp X B Γ b (.tuple ds)) (f : flatD d = true) (g : ds.all flatD = true) : Xp X B Γ (.Compare a [.In] [b] pos) (.bool (inD d ds)) := xp_cmp op_in_seq (opd_in (neg := false) f g (.inr rfl)) ha hb hm
theorem xp_ninL (hm : behindInMarks .NotIn b = false) (ha : Xp X B Γ a d) (hb : Xp X B Γ b (.list ds)) (f : flatD d = true) (g : ds.all flatD = true) : Xp X B Γ (.Compare a [.NotIn] [b] pos) (.bool (!inD d ds)) := xp_cmp op_notIn_seq (opd_in (neg := true) f g (.inl rfl)) ha hb hm
theorem xp_ninT (hm : behindInMarks .NotIn b = false) (ha : Xp X B Γ a d) (hb : Xp X B Γ b (.tuple ds)) (f : flatD d = true) (g : ds.all flatD = true) : Xp X B Γ (.Compare a [.NotIn] [b] pos) (.bool (!inD d ds)) := xp_cmp op_notIn_seq (opd_in (neg := true) f g (.inr rfl)) ha hb hm
theorem xp_inS {k : Nat} (hm : behindInMarks .In b = false) (ha : Xp X B Γ a (.str ⟨#[k]⟩)) (hb : Xp X B Γ b (.str z)) : Xp X B Γ (.Compare a [.In] [b] pos) (.bool (decide (k ∈ z.cps.toList))) := xp_cmp op_in_sign (fun H Hs u v s hx hy Q q => by
  cases hx; cases hy
  exact ⟨k, z, rfl, rfl, q _ H Hs (Gr.refl s) (.bl _)⟩) ha hb hm
theorem xp_ninS {k : Nat} (hm : behindInMarks .NotIn b = false) (ha : Xp X B Γ a (.str ⟨#[k]⟩)) (hb : Xp X B Γ b (.str z)) : Xp X B Γ (.Compare a [.NotIn] [b] pos) (.bool (!decide (k ∈ z.cps.toList))) := xp_cmp op_notIn_sign (fun H Hs u v s hx hy Q q => by
  cases hx; cases hy
  exact ⟨k, z, rfl, rfl, q _ H Hs (Gr.refl s) (.bl _)⟩) ha hb hm
/-! ### and, or, if -/
theorem xp_one {op} (h : Xp X B Γ a d) : Xp X B Γ (.BoolOp op [a] pos) d := xp_of (pe_one pe_u) h
theorem xp_and (h1 : Xp X B Γ a (.bool p)) (h2 : p = true → Xp X B Γ (.BoolOp .And (b :: es) pos) (.bool q)) : Xp X B Γ (.BoolOp .And (a :: b :: es) pos) (.bool (p && q)) := xp_of (pe_and pe_u pe_u) (de_andV h1 h2)
theorem xp_or (h1 : Xp X B Γ a (.bool p)) (h2 : p = false → Xp X B Γ (.BoolOp .Or (b :: es) pos) (.bool q)) : Xp X B Γ (.BoolOp .Or (a :: b :: es) pos) (.bool (p || q)) := xp_of (pe_or pe_u pe_u) (de_orV h1 h2)
theorem xt_val (he : ∀ whole, isTrue e X.env whole = (do let v ← whole; standAt e.pos; holding [v] (truthy v))) (h : Xp X B Γ e (.bool p)) : Xt X B Γ e p := xt_of (pt_val pe_u he) (dt_B h)
theorem xt_not (h : Xt X B Γ a p) : Xt X B Γ (.UnaryOp .Not a pos) (!p) := xt_of (pt_not pt_u) (dt_not h)
theorem xw_and1 (h : Xt X B Γ a p) : Xw X B Γ (.BoolOp .And [a] pos) p := xw_of (pw_and1 pt_u) h
theorem xw_or1 (h : Xt X B Γ a p) : Xw X B Γ (.BoolOp .Or [a] pos) p := xw_of (pw_or1 pt_u) h
theorem xw_and (h1 : Xt X B Γ a p) (h2 : p = true → Xw X B Γ (.BoolOp .And (b :: es) pos) q) : Xw X B Γ (.BoolOp .And (a :: b :: es) pos) (p && q) := xw_of (pw_and pt_u pw_u) (dt_and h1 h2)
theorem xw_or (h1 : Xt X B Γ a p) (h2 : p = false → Xw X B Γ (.BoolOp .Or (b :: es) pos) q) : Xw X B Γ (.BoolOp .Or (a :: b :: es) pos) (p || q) := xw_of (pw_or pt_u pw_u) (dt_or h1 h2)
theorem xt_w {op} (h : Xw X B Γ (.BoolOp op es pos) p) : Xt X B Γ (.BoolOp op es pos) p := xt_of pw_u.pt h
/-- the truth of data -/
def truD : PyData → Bool
  | .none => false
  | .bool b => b
  | .int i => i != 0
  | .str y => (y.length : Int) != 0
  | .list xs => !xs.isEmpty
  | .tuple xs => !xs.isEmpty
  | .dict kvs => !kvs.isEmpty
def truOk : PyData → Prop
  | .str y => y.length ≤ sizeLine
  | .dict _ => False
  | _ => True
theorem isEmpty_dq {K : PySem.W.Frag} {H : Hp} {vs : List V} (h : DqAll K H vs ds) : vs.isEmpty = ds.isEmpty := by cases h <;> rfl
theorem xt_tru (he : ∀ whole, isTrue e X.env whole = (do let v ← whole; standAt e.pos; holding [v] (truthy v))) (h : Xp X B Γ e d) (ok : truOk d) : Xt X B Γ e (truD d) := xt_of (pt_truth pe_u he) fun H Hs σ E Q q => h H Hs σ E _ fun v H1 Hs1 g1 p1 => by
  refine ⟨truD d, ?_, q H1 Hs1 g1⟩
  cases p1 with
  | non => exact rfl
  | bl b => exact rfl
  | int i => exact rfl
  | str y => exact ⟨ok, rfl⟩
  | lst hq ha => exact .inl ⟨_, sub_l g1.sub hq, by rw [isEmpty_dq ha]; rfl⟩
  | tup hq ha => exact .inr (.inl ⟨_, sub_t g1.sub hq, by rw [isEmpty_dq ha]; rfl⟩)
  | dic _ _ => exact False.elim ok
theorem xp_if (h : Xt X B Γ c p) (h1 : p = true → Xp X B Γ a d) (h2 : p = false → Xp X B Γ b d) : Xp X B Γ (.IfExp c a b pos) d := xp_of (pe_ifExp pt_u pe_u pe_u) (de_if h h1 h2)
/-! ### arguments, displays -/
theorem xa_nil : Xa X B Γ [] [] := xa_of pa_nil da_nil
theorem xa_cons (hs : starEach (e :: es) X.env = (false, eval e X.env) :: starEach es X.env) (h : Xp X B Γ e d) (hr : Xa X B Γ es ds) : Xa X B Γ (e :: es) (d :: ds) := xa_of (pa_cons pe_u pa_u hs) (da_cons h hr)
theorem xp_tup {x1} (h : Xa X B Γ es ds) (hl : ds.length ≤ sizeLine) : Xp X B Γ (.Tuple es x1 pos) (.tuple ds) := xp_of (pe_tup pa_u) (de_tup h hl)
theorem xl_lst (h : Xa X B Γ es ds) (hl : ds.length ≤ sizeLine) : Xl X B Γ (.List es pos) ds := xl_of (pe_lst pa_u) (dl_lst h hl)
/-! ### subscripts -/
theorem opd_ixL {K : PySem.W.Frag} {i : Int} (h : atI ds i = some d) : OpD K (rIxL K) (.list ds) (.int i) d := fun H Hs x y s hx hy Q q => by
  cases hy
  cases hx with
  | lst hq ha =>
    unfold atI at h
    cases e : ixN ds.length i with
    | none => rw [e] at h; cases h
    | some j =>
      rw [e] at h
      obtain ⟨v, hv, pv⟩ := ha.get h
      exact ⟨_, _, i, v, rfl, rfl, sub_l s hq, by unfold atI; rw [ha.length, e]; exact hv, q v H Hs (Gr.refl s) pv⟩
theorem opd_ixT {K : PySem.W.Frag} {i : Int} (h : atI ds i = some d) : OpD K (rIxT K) (.tuple ds) (.int i) d := fun H Hs x y s hx hy Q q => by
  cases hy
  cases hx with
  | tup hq ha =>
    unfold atI at h
    cases e : ixN ds.length i with
    | none => rw [e] at h; cases h
    | some j =>
      rw [e] at h
      obtain ⟨v, hv, pv⟩ := ha.get h
      exact ⟨_, _, i, v, rfl, rfl, sub_t s hq, by unfold atI; rw [ha.length, e]; exact hv, q v H Hs (Gr.refl s) pv⟩
theorem xp_ixL {i : Int} (hs : PlainIx b) (ha : Xp X B Γ a (.list ds)) (hb : Xp X B Γ b (.int i)) (h : atI ds i = some d) : Xp X B Γ (.Subscript a b pos) d := xp_of (pe_ix ix_list pe_u pe_u hs) (de_op ha hb (opd_ixL h))
theorem xp_ixT {i : Int} (hs : PlainIx b) (ha : Xp X B Γ a (.tuple ds)) (hb : Xp X B Γ b (.int i)) (h : atI ds i = some d) : Xp X B Γ (.Subscript a b pos) d := xp_of (pe_ix ix_tup pe_u pe_u hs) (de_op ha hb (opd_ixT h))
theorem xp_ixS {i : Int} {k : Nat} (hs : PlainIx b) (ha : Xp X B Γ a (.str y)) (hb : Xp X B Γ b (.int i)) (hz : y.length ≤ sizeLine) (h : atI y.cps.toList i = some k) : Xp X B Γ (.Subscript a b pos) (.str ⟨#[k]⟩) :=
  xp_of (pe_ix ix_str pe_u pe_u hs) (de_op ha hb fun H Hs u v s hx hy Q q => by
    cases hx; cases hy
    exact ⟨y, i, k, rfl, rfl, hz, h, q _ H Hs (Gr.refl s) (.str _)⟩)
/-- the part of a slice -/
def DO (K : PySem.W.Frag) (B : Bs) (t : TO) (Γ : Gm) (o : Option Int) : Prop := ∀ H Hs σ, Enb K B H Hs σ Γ → ∀ Q : Option Int → Hp → Prop, (∀ H' Hs', Gr H Hs H' Hs' → Q o H') → t σ H Q
def uO (X : Cx) (e : Option Expr) : TO := fun σ H Q => ∃ t, PO X e t ∧ t σ H Q
theorem po_u {X : Cx} {e : Option Expr} : PO X e (uO X e) := ⟨fun pins s σ H Q I ⟨_, p, h⟩ => p.run pins s σ H Q I h⟩
def Xo (X : Cx) (B : Bs) (Γ : Gm) (e : Option Expr) (o : Option Int) : Prop := DO X.K B (uO X e) Γ o
theorem xo_none : Xo X B Γ none none := fun H Hs σ E Q q => ⟨_, po_none, q H Hs (Gr.refl E.sub)⟩
theorem xo_some {i : Int} (h : Xp X B Γ e (.int i)) : Xo X B Γ (some e) (some i) := fun H Hs σ E Q q => ⟨_, po_some pe_u, h H Hs σ E _ fun v H1 Hs1 g1 p1 => by
  cases p1
  exact ⟨i, rfl, q H1 Hs1 g1⟩⟩
def cutD (xs : List PyData) (lo hi : Option Int) : List PyData := (xs.drop (HT.sIx xs.length 0 lo)).take (HT.sIx xs.length xs.length hi - HT.sIx xs.length 0 lo)
theorem xl_sl {lo hi : Option Expr} {l h : Option Int} {p2 : Pos} (he : Xp X B Γ e (.list ds)) (hl : Xo X B Γ lo l) (hh : Xo X B Γ hi h) : Xl X B Γ (.Subscript e (.Slice lo hi none p2) pos) (cutD ds l h) :=
  xl_of (pe_slice sl_list pe_u po_u po_u) fun H Hs σ E Q q => he H Hs σ E _ fun v H1 Hs1 g1 p1 => hl H1 Hs1 σ (E.grow g1) _ fun H2 Hs2 g2 => hh H2 Hs2 σ ((E.grow g1).grow g2) _ fun H3 Hs3 g3 => by
    have gg := (g1.trans g2).trans g3
    cases p1 with
    | lst hq ha =>
      refine ⟨_, _, rfl, sub_l gg.sub (ext_l g3.exs (ext_l g2.exs hq)), fun p n => dl_new gg q n ?_⟩
      have a3 := (ha.mono g2.exs).mono g3.exs
      unfold cutV cutD
      rw [ha.length]
      exact (a3.drop _).take _
theorem xp_slS {lo hi : Option Expr} {l h : Option Int} {p2 : Pos} (he : Xp X B Γ e (.str y)) (hz : y.length ≤ sizeLine) (hl : Xo X B Γ lo l) (hh : Xo X B Γ hi h) : Xp X B Γ (.Subscript e (.Slice lo hi none p2) pos) (.str (cutS y l h)) :=
  xp_of (pe_slice sl_str pe_u po_u po_u) fun H Hs σ E Q q => he H Hs σ E _ fun v H1 Hs1 g1 p1 => hl H1 Hs1 σ (E.grow g1) _ fun H2 Hs2 g2 => hh H2 Hs2 σ ((E.grow g1).grow g2) _ fun H3 Hs3 g3 => by
    cases p1
    exact ⟨y, rfl, hz, q _ H3 Hs3 ((g1.trans g2).trans g3) (.str _)⟩
end
end Dl
set_option Elab.async false
set_option linter.all false
set_option maxRecDepth 100000
set_option maxHeartbeats 2000000
namespace Dl
open PySem L2 PyProof.Rows
variable [Tabs]
section
variable {X : Cx} {B : Bs} {Γ : Gm} {e a b c : Expr} {es : List Expr} {s st : Stmt} {ss rest : List Stmt} {d d1 d2 : PyData} {ds : List PyData} {P : Out → Prop} {pos : Pos} {x : Str} {i : Nat} {p q r : Bool} {m n : Int} {y z : Str}
/-! ### list + list, tuple + tuple -/
def rCatG (K : PySem.W.Frag) : R2 := fun x y H Q => ∃ l b xs zs, x = .ref l ∧ y = .ref b ∧ SqL K H l xs ∧ SqL K H b zs ∧ xs.length + zs.length ≤ sizeLine ∧ ∀ p, H p = none → Q (.ref p) (upd H p (.lst (xs ++ zs)))
theorem op_catG : OpR X (binaryOp .Add) (rCatG X.K) := by
  intro pins s σ H x y v u Q I rx ry h
  obtain ⟨l, b, xs, zs, rfl, rfl, hH, hB, hz, q⟩ := h
  cases rx
  cases ry
  obtain ⟨its, r, ⟨⟨cls, dd, data, sl⟩, n, ho, hc, hdd, hd⟩, z1⟩ := I.list hH
  obtain ⟨its2, r2, ⟨⟨cls2, dd2, data2, sl2⟩, n2, ho2, hc2, hdd2, hd2⟩, z2⟩ := I.list hB
  simp only at hc hd hc2 hd2 hdd hdd2
  subst hc hd hc2 hd2 hdd hdd2
  have e : its.toArray ++ its2.toArray = (its ++ its2).toArray := by simp
  refine concat_meets ⟨_, ho, rfl⟩ ⟨_, ho2, rfl⟩ noFill_list_add seq_list_add PySem.F.slot_list_add PySem.F.entry_list_add (PySem.F.args_list_add_2 _ _) (list_addW l b its.toArray its2.toArray n n2 none none sl sl2 (by rw [List.size_toArray, List.size_toArray, ← r.length, ← r2.length]; exact hz)) ⟨ho, ho2, ?_⟩
  rw [e]
  exact ⟨.ref _, _, I.lnew (t' := s.toks) (r.append r2) (by rw [List.length_append]; omega), rfl, q _ I.fresh⟩
theorem xl_cat {es1 es2 : List PyData} (ha : Xp X B Γ a (.list es1)) (hb : Xp X B Γ b (.list es2)) (hz : es1.length + es2.length ≤ sizeLine) : Xl X B Γ (.BinOp a .Add b pos) (es1 ++ es2) :=
  xl_of (pe_op op_catG pe_u pe_u) fun H Hs σ E Q q => ha H Hs σ E _ fun v H1 Hs1 g1 p1 => hb H1 Hs1 σ (E.grow g1) _ fun u H2 Hs2 g2 p2 => by
    cases p1.mono g2.exs with
    | lst h1 a1 =>
      cases p2 with
      | lst h2 a2 => exact ⟨_, _, _, _, rfl, rfl, sub_l g2.sub h1, sub_l g2.sub h2, by rw [a1.length, a2.length]; exact hz, fun p n => dl_new (g1.trans g2) q n (a1.app a2)⟩
theorem xp_catT {es1 es2 : List PyData} (ha : Xp X B Γ a (.tuple es1)) (hb : Xp X B Γ b (.tuple es2)) (hz : es1.length + es2.length ≤ sizeLine) : Xp X B Γ (.BinOp a .Add b pos) (.tuple (es1 ++ es2)) :=
  xp_of (pe_op op_catA pe_u pe_u) (de_op ha hb fun H Hs u v s hx hy Q q => by
    cases hx with
    | @tup a1 xs _ h1 a1' =>
      cases hy with
      | @tup a2 ys _ h2 a2' =>
        refine ⟨_, _, _, _, rfl, rfl, sub_t s h1, sub_t s h2, by rw [a1'.length, a2'.length]; exact hz, fun e1 => ?_, fun e1 e2 => ?_, fun e1 e2 p n => ?_⟩
        · subst e1
          cases a1'
          exact q _ H Hs (Gr.refl s) (.tup h2 a2')
        · subst e2
          cases a2'
          rw [List.append_nil] at q
          exact q _ H Hs (Gr.refl s) (.tup h1 a1')
        · exact q _ _ _ ((Gr.refl s).share n) (.tup (SqT.of upd_same) ((a1'.app a2').mono (Ext.new ((Gr.refl s).hsn n)))))
/-! ### calls of built-ins -/
theorem boot_len' : bootBuiltins ("len" : Str) = some (.builtin "len") := PySem.boot_len
theorem xp_cb {id : String} {rr : List V → Hp → VK → Prop} {p' : Pos} (hc : CallR X (.builtin id) rr) (hb : Bi X x) (hv : bootBuiltins x = some (.builtin id)) (hn : x ≠ "__name__") (hd : (x == ("__debug__" : Str)) = false) (he : starEach (e :: es) X.env = (false, eval e X.env) :: starEach es X.env) (hpl : (backTo pos (starEach es X.env)).any (·.1) = false)
    (ha : Xa X B Γ (e :: es) ds) (hr : CbD X.K rr ds d) : Xp X B Γ (.Call (.Name x p') (e :: es) [] pos) d := xp_of (pe_callB hc hb.gl hb.no hv pa_u hn hd he hpl) (de_cb ha hr)
theorem xl_cb {id : String} {rr : List V → Hp → VK → Prop} {p' : Pos} {es' : List PyData} (hc : CallR X (.builtin id) rr) (hb : Bi X x) (hv : bootBuiltins x = some (.builtin id)) (hn : x ≠ "__name__") (hd : (x == ("__debug__" : Str)) = false) (he : starEach (e :: es) X.env = (false, eval e X.env) :: starEach es X.env) (hpl : (backTo pos (starEach es X.env)).any (·.1) = false)
    (ha : Xa X B Γ (e :: es) es') (hr : CbL X.K rr es' ds) : Xl X B Γ (.Call (.Name x p') (e :: es) [] pos) ds := xl_of (pe_callB hc hb.gl hb.no hv pa_u hn hd he hpl) (dl_cb ha hr)
theorem xp_ct {id : String} {rr : List V → Hp → VK → Prop} {p' : Pos} (hc : CallR X (.type id) rr) (hb : Bi X x) (hv : bootBuiltins x = some (.type id)) (hn : x ≠ "__name__") (hd : (x == ("__debug__" : Str)) = false) (he : starEach (e :: es) X.env = (false, eval e X.env) :: starEach es X.env) (hpl : (backTo pos (starEach es X.env)).any (·.1) = false)
    (ha : Xa X B Γ (e :: es) ds) (hr : CbD X.K rr ds d) : Xp X B Γ (.Call (.Name x p') (e :: es) [] pos) d := xp_of (pe_callTy hc hb.gl hb.no hv pa_u hn hd he hpl) (de_cb ha hr)
theorem xl_ct {id : String} {rr : List V → Hp → VK → Prop} {p' : Pos} {es' : List PyData} (hc : CallR X (.type id) rr) (hb : Bi X x) (hv : bootBuiltins x = some (.type id)) (hn : x ≠ "__name__") (hd : (x == ("__debug__" : Str)) = false) (he : starEach (e :: es) X.env = (false, eval e X.env) :: starEach es X.env) (hpl : (backTo pos (starEach es X.env)).any (·.1) = false)
    (ha : Xa X B Γ (e :: es) es') (hr : CbL X.K rr es' ds) : Xl X B Γ (.Call (.Name x p') (e :: es) [] pos) ds := xl_of (pe_callTy hc hb.gl hb.no hv pa_u hn hd he hpl) (dl_cb ha hr)
theorem cb1 {K : PySem.W.Frag} {rr : List V → Hp → VK → Prop} (h : ∀ H Hs x, (∀ a o, Hs a = some o → H a = some o) → Dq K Hs x d1 → ∀ Q : VK, (∀ v H' Hs', Gr H Hs H' Hs' → Dq K Hs' v d → Q v H') → rr [x] H Q) : CbD K rr [d1] d := fun H Hs xs s a Q q => by
  cases a with
  | cons a1 a2 => cases a2; exact h H Hs _ s a1 Q q
theorem cb2 {K : PySem.W.Frag} {rr : List V → Hp → VK → Prop} (h : ∀ H Hs x y, (∀ a o, Hs a = some o → H a = some o) → Dq K Hs x d1 → Dq K Hs y d2 → ∀ Q : VK, (∀ v H' Hs', Gr H Hs H' Hs' → Dq K Hs' v d → Q v H') → rr [x, y] H Q) : CbD K rr [d1, d2] d := fun H Hs xs s a Q q => by
  cases a with
  | cons a1 a2 =>
    cases a2 with
    | cons a2 a3 => cases a3; exact h H Hs _ _ s a1 a2 Q q
/-- what the call rules ask of the written arguments -/
abbrev St1 (X : Cx) (e : Expr) (es : List Expr) : Prop := starEach (e :: es) X.env = (false, eval e X.env) :: starEach es X.env
abbrev Pl1 (X : Cx) (pos : Pos) (es : List Expr) : Prop := (backTo pos (starEach es X.env)).any (·.1) = false
variable {p' : Pos}
theorem xp_lenL (hb : Bi X "len") (he : St1 X e []) (hp : Pl1 X pos []) (h : Xp X B Γ e (.list ds)) : Xp X B Γ (.Call (.Name "len" p') [e] [] pos) (.int ds.length) :=
  xp_cb call_len_seq hb PySem.boot_len (by decide) (by decide) he hp (xa_cons he h xa_nil) (cb1 fun H Hs x s hx Q q => by
    cases hx with
    | lst hq ha => exact ⟨_, _, rfl, .inl (sub_l s hq), by rw [ha.length]; exact q _ H Hs (Gr.refl s) (.int _)⟩)
theorem xp_lenT (hb : Bi X "len") (he : St1 X e []) (hp : Pl1 X pos []) (h : Xp X B Γ e (.tuple ds)) : Xp X B Γ (.Call (.Name "len" p') [e] [] pos) (.int ds.length) :=
  xp_cb call_len_seq hb PySem.boot_len (by decide) (by decide) he hp (xa_cons he h xa_nil) (cb1 fun H Hs x s hx Q q => by
    cases hx with
    | tup hq ha => exact ⟨_, _, rfl, .inr (sub_t s hq), by rw [ha.length]; exact q _ H Hs (Gr.refl s) (.int _)⟩)
theorem xp_lenS (hb : Bi X "len") (he : St1 X e []) (hp : Pl1 X pos []) (h : Xp X B Γ e (.str y)) (hz : y.length ≤ sizeLine) : Xp X B Γ (.Call (.Name "len" p') [e] [] pos) (.int y.length) :=
  xp_cb call_len_str hb PySem.boot_len (by decide) (by decide) he hp (xa_cons he h xa_nil) (cb1 fun H Hs x s hx Q q => by
    cases hx
    exact ⟨y, rfl, hz, q _ H Hs (Gr.refl s) (.int _)⟩)
/-- len of one's own list -/
theorem xp_lenO (hb : Bi X "len") {p2 : Pos} (he : St1 X (.Name x p2) []) (hp : Pl1 X pos []) (h : Rk X i x) (k : Γ[i]? = some (.ow ds)) : Xp X B Γ (.Call (.Name "len" p') [.Name x p2] [] pos) (.int ds.length) :=
  xp_of (pe_callB call_len_seq hb.gl hb.no PySem.boot_len (pa_cons (pe_var h.ix h.vis h.d1 h.d2) pa_nil he) (by decide) (by decide) he hp) fun H Hs σ E Q q => by
    obtain ⟨l, xs, e1, h1, h2, _, _⟩ := E.ow k
    exact ⟨.ref l, e1, l, xs, rfl, .inl (SqL.of h1), by rw [h2.length]; exact q _ H Hs (Gr.refl E.sub) (.int _)⟩
theorem xp_abs (hb : Bi X "abs") (he : St1 X e []) (hp : Pl1 X pos []) (h : Xp X B Γ e (.int m)) : Xp X B Γ (.Call (.Name "abs" p') [e] [] pos) (.int (if m < 0 then -m else m)) :=
  xp_cb call_abs hb (by decide +kernel) (by decide) (by decide) he hp (xa_cons he h xa_nil) (cb1 fun H Hs x s hx Q q => by
    cases hx
    exact ⟨m, rfl, q _ H Hs (Gr.refl s) (.int _)⟩)
theorem xp_min (hc : X.calm = true) (hb : Bi X "min") (he : St1 X e [a]) (he2 : St1 X a []) (hp : Pl1 X pos [a]) (h : Xp X B Γ e (.int m)) (h2 : Xp X B Γ a (.int n)) : Xp X B Γ (.Call (.Name "min" p') [e, a] [] pos) (.int (if n < m then n else m)) :=
  xp_cb (call_min2 hc) hb (by decide +kernel) (by decide) (by decide) he hp (xa_cons he h (xa_cons he2 h2 xa_nil)) (cb2 fun H Hs x y s hx hy Q q => by
    cases hx; cases hy
    exact ⟨m, n, rfl, q _ H Hs (Gr.refl s) (.int _)⟩)
theorem xp_max (hc : X.calm = true) (hb : Bi X "max") (he : St1 X e [a]) (he2 : St1 X a []) (hp : Pl1 X pos [a]) (h : Xp X B Γ e (.int m)) (h2 : Xp X B Γ a (.int n)) : Xp X B Γ (.Call (.Name "max" p') [e, a] [] pos) (.int (if n > m then n else m)) :=
  xp_cb (call_max2 hc) hb (by decide +kernel) (by decide) (by decide) he hp (xa_cons he h (xa_cons he2 h2 xa_nil)) (cb2 fun H Hs x y s hx hy Q q => by
    cases hx; cases hy
    exact ⟨m, n, rfl, q _ H Hs (Gr.refl s) (.int _)⟩)
theorem xp_strI (hb : Bi X "str") (he : St1 X e []) (hp : Pl1 X pos []) (h : Xp X B Γ e (.int m)) (hz : m.natAbs.log2 < 1920) : Xp X B Γ (.Call (.Name "str" p') [e] [] pos) (.str (toString m)) :=
  xp_ct call_str_int hb (by decide +kernel) (by decide) (by decide) he hp (xa_cons he h xa_nil) (cb1 fun H Hs x s hx Q q => by
    cases hx
    exact ⟨m, rfl, hz, q _ H Hs (Gr.refl s) (.str _)⟩)
theorem xp_intS (hb : Bi X "int") (he : St1 X e []) (hp : Pl1 X pos []) (h : Xp X B Γ e (.str y)) (hn : PySem.intText? y = some m) (hz : y.length ≤ 640) : Xp X B Γ (.Call (.Name "int" p') [e] [] pos) (.int m) :=
  xp_ct call_int_str hb (by decide +kernel) (by decide) (by decide) he hp (xa_cons he h xa_nil) (cb1 fun H Hs x s hx Q q => by
    cases hx
    exact ⟨y, m, rfl, hn, hz, q _ H Hs (Gr.refl s) (.int _)⟩)
theorem xp_intB (hb : Bi X "int") (he : St1 X e []) (hp : Pl1 X pos []) (h : Xp X B Γ e (.bool p)) : Xp X B Γ (.Call (.Name "int" p') [e] [] pos) (.int (if p then 1 else 0)) :=
  xp_ct call_int1 hb (by decide +kernel) (by decide) (by decide) he hp (xa_cons he h xa_nil) (cb1 fun H Hs x s hx Q q => by
    cases hx
    exact .inr ⟨p, rfl, q _ H Hs (Gr.refl s) (.int _)⟩)
/-- sorted of ints: the one list in order -/
theorem perm_sorted {l l' : List Int} (h : l.Perm l') (h1 : l.Pairwise (· ≤ ·)) (h2 : l'.Pairwise (· ≤ ·)) : l = l' := h.eq_of_pairwise (fun a b _ _ h1 h2 => Int.le_antisymm h1 h2) h1 h2
theorem xl_sortI {ns ms : List Int} (hb : Bi X "sorted") (he : St1 X e []) (hp : Pl1 X pos []) (h : Xp X B Γ e (.list (ns.map .int))) (hz : ns.length < 64) (hm : ms.Perm ns) (hs : ms.Pairwise (· ≤ ·)) : Xl X B Γ (.Call (.Name "sorted" p') [e] [] pos) (ms.map .int) :=
  xl_cb cr_sorted hb (by decide +kernel) (by decide) (by decide) he hp (xa_cons he h xa_nil) fun H Hs xs s a Q q => by
    cases a with
    | cons a1 a2 =>
      cases a2
      cases a1 with
      | lst hq ha =>
        have e1 := ha.ints_inv
        subst e1
        refine ⟨_, ns, rfl, sub_l s hq, hz, fun ns' p hp' hs' n => ?_⟩
        cases perm_sorted (hp'.trans hm.symm) hs' hs
        exact q p _ n (.ints _)
theorem xp_gcd (hg : Gl X x) (hm : X.mg x = some (.builtin "math.gcd")) (hd : (x == ("__debug__" : Str)) = false) (he : St1 X e [a]) (he2 : St1 X a []) (hp : Pl1 X pos [a]) (h : Xp X B Γ e (.int m)) (h2 : Xp X B Γ a (.int n)) : Xp X B Γ (.Call (.Name x p') [e, a] [] pos) (.int ((Nat.gcd m.natAbs n.natAbs : Nat) : Int)) :=
  xp_of (pe_callBfun cr_gcd hg hm pa_u hd he hp) (de_cb (xa_cons he h (xa_cons he2 h2 xa_nil)) (cb2 fun H Hs x y s hx hy Q q => by
    cases hx; cases hy
    exact ⟨m, n, rfl, q _ H Hs (Gr.refl s) (.int _)⟩))
/-! isinstance -/
def tyD : PyData → String
  | .none => "NoneType"
  | .bool _ => "bool"
  | .int _ => "int"
  | .str _ => "str"
  | .list _ => "list"
  | .tuple _ => "tuple"
  | .dict _ => "dict"
theorem tyX_of {K : PySem.W.Frag} {H Hs : Hp} {v : V} (s : ∀ a o, Hs a = some o → H a = some o) (h : Dq K Hs v d) : TyX K H v (.type (tyD d)) := by
  cases h with
  | non => exact .base .non
  | bl b => exact .base (.bl b)
  | int i => exact .base (.int i)
  | str x => exact .base (.str x)
  | lst hq ha =>
    rcases sub_l s hq with (h | ⟨o, h⟩) | ⟨o, _, _, hk, hc, _⟩
    · exact .base (.lst h)
    · exact .base (.frz h)
    · exact .kList hk hc
  | tup hq ha =>
    rcases sub_t s hq with (h | ⟨o, h⟩) | ⟨o, _, _, hk, hc, _⟩
    · exact .base (.tup h)
    · exact .fTuple h
    · exact .kTuple hk hc
  | dic hq ha =>
    rcases sub_rd s hq with h | ⟨o, h⟩
    · exact .base (.dK h)
    · exact .fDict h
/-- a built-in class, as a value -/
theorem pe_ty {T : String} (hb : Bi X x) (hv : bootBuiltins x = some (.type T)) (hn : x ≠ "__name__") (hd : (x == ("__debug__" : Str)) = false) : PE X (.Name x pos) (tC (.ty T)) := pe_bltn hb.gl hb.no hv rfl hn hd
theorem xp_isi {T : String} {p2 : Pos} (hb : Bi X "isinstance") (ht : Bi X x) (hv : bootBuiltins x = some (.type T)) (hn : x ≠ "__name__") (hd : (x == ("__debug__" : Str)) = false) (he : St1 X e [.Name x p2]) (he2 : St1 X (.Name x p2) []) (hp : Pl1 X pos [.Name x p2])
    (h : Xp X B Γ e d) (hr : kitB (tyD d) T = some p) : Xp X B Γ (.Call (.Name "isinstance" p') [e, .Name x p2] [] pos) (.bool p) :=
  xp_of (pe_callB call_isi hb.gl hb.no (by decide +kernel) (pa_cons pe_u (pa_cons (pe_ty ht hv hn hd) pa_nil he2) he) (by decide) (by decide) he hp) fun H Hs σ E Q q => h H Hs σ E _ fun v H1 Hs1 g1 p1 =>
    ⟨v, .ty T, _, _, p, rfl, .ty T, tyX_of g1.sub p1, kit_ty hr, q _ H1 Hs1 g1 (.bl _)⟩
/-! ### methods of texts -/
def MtD (K : PySem.W.Frag) (rr : V → List V → Hp → VK → Prop) (y : Str) (as : List PyData) (d : PyData) : Prop := ∀ H Hs xs, (∀ a o, Hs a = some o → H a = some o) → DqAll K Hs xs as → ∀ Q : VK, (∀ v H' Hs', Gr H Hs H' Hs' → Dq K Hs' v d → Q v H') → rr (.str y) xs H Q
/-- what the rule of a method asks of its place in the text -/
abbrev Mb (X : Cx) (o : Expr) (name : Str) : Prop := attributeBase o name X.env (eval o X.env) = eval o X.env
abbrev Mf (X : Cx) (cpos : Pos) (e : Expr) (es : List Expr) : Prop := ((backTo cpos (starEach (e :: es) X.env)).all (fun x => !x.1) && (backToKw cpos (keywordEach [] X.env)).all (fun x => x.1.isSome)
      && decide ((e :: es).length + ([] : List Keyword).length + (if ([] : List Keyword).isEmpty then 0 else 1) < 30)) = true
variable {o : Expr} {ap : Pos} {name : Str} {id : String} {rr : V → List V → Hp → VK → Prop}
theorem xp_m0 (slot : Slot "str" name id) (hty : typeOf (.builtin id) = pure (.type "method_descriptor")) (hm : MtR X id rr) (hb : Mb X o name) (hl : (ap.endLine == pos.line) = true) (ho : Xp X B Γ o (.str y)) (hr : MtD X.K rr y [] d) : Xp X B Γ (.Call (.Attribute o name ap) [] [] pos) d :=
  xp_of (pe_bm0 PySem.F.plainAttrs_str slot hty hm pe_u hb hl) fun H Hs σ E Q q => ho H Hs σ E _ fun v H1 Hs1 g1 p1 => by
    cases p1
    exact ⟨rfl, hr H1 Hs1 [] g1.sub .nil Q fun w H2 Hs2 g2 p2 => q w H2 Hs2 (g1.trans g2) p2⟩
theorem xp_m {as : List PyData} (slot : Slot "str" name id) (hty : typeOf (.builtin id) = pure (.type "method_descriptor")) (hm : MtR X id rr) (hb : Mb X o name) (hf : Mf X pos e es) (hl : (ap.endLine == pos.line) = true) (he : St1 X e es) (hp : Pl1 X pos es) (ho : Xp X B Γ o (.str y)) (ha : Xa X B Γ (e :: es) as) (hr : MtD X.K rr y as d) : Xp X B Γ (.Call (.Attribute o name ap) (e :: es) [] pos) d :=
  xp_of (pe_bm PySem.F.plainAttrs_str slot hty hm pe_u pa_u hb hf hl he hp) fun H Hs σ E Q q => ho H Hs σ E _ fun v H1 Hs1 g1 p1 => by
    cases p1
    exact ⟨rfl, ha H1 Hs1 σ (E.grow g1) _ fun vs H2 Hs2 g2 p2 => hr H2 Hs2 vs g2.sub p2 Q fun w H3 Hs3 g3 p3 => q w H3 Hs3 ((g1.trans g2).trans g3) p3⟩
theorem xl_m {as : List PyData} (slot : Slot "str" name id) (hty : typeOf (.builtin id) = pure (.type "method_descriptor")) (hm : MtR X id rr) (hb : Mb X o name) (hf : Mf X pos e es) (hl : (ap.endLine == pos.line) = true) (he : St1 X e es) (hp : Pl1 X pos es) (ho : Xp X B Γ o (.str y)) (ha : Xa X B Γ (e :: es) as)
    (hr : ∀ H Hs xs, (∀ a o, Hs a = some o → H a = some o) → DqAll X.K Hs xs as → ∀ Q : VK, (∀ p zs, H p = none → DqAll X.K Hs zs ds → Q (.ref p) (upd H p (.lst zs))) → rr (.str y) xs H Q) : Xl X B Γ (.Call (.Attribute o name ap) (e :: es) [] pos) ds :=
  xl_of (pe_bm PySem.F.plainAttrs_str slot hty hm pe_u pa_u hb hf hl he hp) fun H Hs σ E Q q => ho H Hs σ E _ fun v H1 Hs1 g1 p1 => by
    cases p1
    exact ⟨rfl, ha H1 Hs1 σ (E.grow g1) _ fun vs H2 Hs2 g2 p2 => hr H2 Hs2 vs g2.sub p2 Q fun p zs n a => dl_new (g1.trans g2) q n a⟩
theorem xp_partition (hb : Mb X o "partition") (hf : Mf X pos e []) (hl : (ap.endLine == pos.line) = true) (he : St1 X e []) (hp : Pl1 X pos []) (ho : Xp X B Γ o (.str y)) (ha : Xp X B Γ e (.str z)) (h1 : (z.length == 0) = false) (h2 : y.length ≤ sizeLine) :
    Xp X B Γ (.Call (.Attribute o "partition" ap) [e] [] pos) (.tuple [.str (Txt.partition y z).1, .str (Txt.partition y z).2.1, .str (Txt.partition y z).2.2]) :=
  xp_m PySem.F.slot_str_partition PySem.F.type_str_partition mt_partition hb hf hl he hp ho (xa_cons he ha xa_nil) fun H Hs xs s a Q q => by
    cases a with
    | cons a1 a2 =>
      cases a2; cases a1
      exact ⟨y, z, rfl, rfl, h1, h2, fun p n => q _ _ _ ((Gr.refl s).share n) (.tup (SqT.of upd_same) (.cons (.str _) (.cons (.str _) (.cons (.str _) .nil))))⟩
theorem xl_split (hb : Mb X o "split") (hf : Mf X pos e []) (hl : (ap.endLine == pos.line) = true) (he : St1 X e []) (hp : Pl1 X pos []) (ho : Xp X B Γ o (.str y)) (ha : Xp X B Γ e (.str z)) (h1 : (z.length == 0) = false) (h2 : y.length + 2 ≤ sizeLine) :
    Xl X B Γ (.Call (.Attribute o "split" ap) [e] [] pos) ((Txt.split y z).map .str) :=
  xl_m PySem.F.slot_str_split PySem.F.type_str_split mt_split hb hf hl he hp ho (xa_cons he ha xa_nil) fun H Hs xs s a Q q => by
    cases a with
    | cons a1 a2 =>
      cases a2; cases a1
      exact ⟨y, z, rfl, rfl, h1, h2, fun p n => q p _ n (.strs _)⟩
theorem xp_join {ys : List Str} (hb : Mb X o "join") (hf : Mf X pos e []) (hl : (ap.endLine == pos.line) = true) (he : St1 X e []) (hp : Pl1 X pos []) (ho : Xp X B Γ o (.str y)) (ha : Xp X B Γ e (.list (ys.map .str))) (hz : (ys.map (·.length)).sum + ys.length * y.length ≤ 16777216) :
    Xp X B Γ (.Call (.Attribute o "join" ap) [e] [] pos) (.str (Txt.join y ys)) :=
  xp_m PySem.F.slot_str_join PySem.F.type_str_join mt_join hb hf hl he hp ho (xa_cons he ha xa_nil) fun H Hs xs s a Q q => by
    cases a with
    | cons a1 a2 =>
      cases a2
      cases a1 with
      | lst hq ha =>
        have e1 := ha.strs_inv
        subst e1
        exact ⟨y, _, ys, rfl, rfl, .inl (sub_l s hq), hz, q _ H Hs (Gr.refl s) (.str _)⟩
theorem xp_isdigit (hb : Mb X o "isdigit") (hl : (ap.endLine == pos.line) = true) (ho : Xp X B Γ o (.str y)) : Xp X B Γ (.Call (.Attribute o "isdigit" ap) [] [] pos) (.bool (Txt.isdigit y)) :=
  xp_m0 PySem.F.slot_str_isdigit PySem.F.type_str_isdigit mt_isdigit hb hl ho fun H Hs xs s a Q q => by
    cases a
    exact ⟨y, rfl, rfl, trivial, q _ H Hs (Gr.refl s) (.bl _)⟩
theorem xp_isascii (hb : Mb X o "isascii") (hl : (ap.endLine == pos.line) = true) (ho : Xp X B Γ o (.str y)) : Xp X B Γ (.Call (.Attribute o "isascii" ap) [] [] pos) (.bool (Txt.isascii y)) :=
  xp_m0 PySem.F.slot_str_isascii PySem.F.type_str_isascii mt_isascii hb hl ho fun H Hs xs s a Q q => by
    cases a
    exact ⟨y, rfl, rfl, trivial, q _ H Hs (Gr.refl s) (.bl _)⟩
theorem xp_upper (hb : Mb X o "upper") (hl : (ap.endLine == pos.line) = true) (ho : Xp X B Γ o (.str y)) (hz : y.length ≤ 5592405) : Xp X B Γ (.Call (.Attribute o "upper" ap) [] [] pos) (.str (Txt.upper y)) :=
  xp_m0 PySem.F.slot_str_upper PySem.F.type_str_upper mt_upper hb hl ho fun H Hs xs s a Q q => by
    cases a
    exact ⟨y, rfl, rfl, hz, q _ H Hs (Gr.refl s) (.str _)⟩
/-! ### own defs -/
theorem xp_call {R : List PyData → PyData → Prop} (hg : Gl X x) (c : Ce X x R) (he : St1 X e es) (hp : Pl1 X pos es) (ha : Xa X B Γ (e :: es) ds) (hr : R ds d) : Xp X B Γ (.Call (.Name x p') (e :: es) [] pos) d := by
  obtain ⟨k, f, fd, ps, hm, F, kp, bi, hr'⟩ := c.ex
  exact xp_of (pe_call F hr' hg hm kp bi .nil (E := E0) pass0 pa_u c.db he hp) (de_call ha hr)
theorem xp_call0 {R : List PyData → PyData → Prop} (hg : Gl X x) (c : Ce X x R) (hr : R [] d) : Xp X B Γ (.Call (.Name x p') [] [] pos) d := by
  obtain ⟨k, f, fd, ps, hm, F, kp, bi, hr'⟩ := c.ex
  exact xp_of (pe_call0 F hr' hg hm kp bi .nil (E := E0) pass0 c.db) (de_call da_nil hr)
/-! ### statements -/
theorem xb_nil (h : P (.nx Γ)) : Xb X B Γ [] P := xb_of pss_nil (ds_next h)
theorem xb_cons (h : Xs X B Γ st fun o => match o with | .nx Γ' => Xb X B Γ' ss P | o => P o) : Xb X B Γ (st :: ss) P := xb_of (pss_cons ps_u pb_u) (ds_seq (ds_imp h fun o ho => by cases o <;> exact ho))
theorem xs_set {p2 : Pos} (k : Lk X i x) (hs : swapsWith e (some (.Name x p2)) pos.line X.env = pure false) (h : Xp X B Γ e d) (hP : P (.nx (Γ.set i (.sh d)))) : Xs X B Γ (.Assign [.Name x p2] e pos) P := xs_of (ps_set k.nd k.ix k.loc pe_u hs k.fn) (ds_asg h hP)
theorem xs_setO {p2 : Pos} (k : Lk X i x) (hs : swapsWith e (some (.Name x p2)) pos.line X.env = pure false) (h : Xl X B Γ e ds) (hP : P (.nx (Γ.set i (.ow ds)))) : Xs X B Γ (.Assign [.Name x p2] e pos) P := xs_of (ps_set k.nd k.ix k.loc pe_u hs k.fn) (ds_asgO h hP)
theorem xs_ret (h : Xp X B Γ e d) (hP : P (.rt d)) : Xs X B Γ (.Return (some e) pos) P := xs_of (ps_ret pe_u) (ds_ret h hP)
theorem xs_retN (hP : P (.rt .none)) : Xs X B Γ (.Return none pos) P := xs_of ps_retN (ds_retN hP)
theorem xs_if {ss2 : List Stmt} (h : Xt X B Γ c p) (h1 : p = true → Xb X B Γ ss P) (h2 : p = false → Xb X B Γ ss2 P) : Xs X B Γ (.If c ss ss2 pos) P := xs_of (ps_if pt_u pb_u pb_u) (ds_if h h1 h2)
theorem xs_pass (hP : P (.nx Γ)) : Xs X B Γ (.Pass pos) P := xs_of ps_pass (ds_next hP)
theorem xs_brk (hP : P (.bk Γ)) : Xs X B Γ (.Break pos) P := xs_of ps_break (ds_brk hP)
theorem xs_cont (hP : P (.ct Γ)) : Xs X B Γ (.Continue pos) P := xs_of ps_continue (ds_cont hP)
theorem xs_free {st : Stmt} (hi : Γ[i]? = some (.ow ds)) (h : Xs X B (Γ.set i (.sh (.list ds))) st P) : Xs X B Γ st P := ds_free hi h
theorem xb_free (hi : Γ[i]? = some (.ow ds)) (h : Xb X B (Γ.set i (.sh (.list ds))) ss P) : Xb X B Γ ss P := ds_free hi h
theorem xs_app {p2 : Pos} (k : Rk X i x) (hs : swapsWith (.Call (.Attribute (.Name x p2) "append" ap) [e] [] p') none pos.line X.env = pure false) (hb : Mb X (.Name x p2) "append") (hf : Mf X p' e []) (hl : (ap.endLine == p'.line) = true) (he : St1 X e []) (hp : Pl1 X p' [])
    (hi : Γ[i]? = some (.ow ds)) (h : Xp X B Γ e d) (hz : ds.length < sizeLine) (hP : P (.nx (Γ.set i (.ow (ds ++ [d]))))) : Xs X B Γ (.Expr (.Call (.Attribute (.Name x p2) "append" ap) [e] [] p') pos) P :=
  xs_of (ps_expr (pe_bm PySem.F.plainAttrs_list PySem.F.slot_list_append PySem.F.type_list_append mt_append (pe_var k.ix k.vis k.d1 k.d2) (pa_cons pe_u pa_nil he) hb hf hl he hp) hs) (ds_app hi h hz hP)
/-- targets -/
def uG (X : Cx) (tg : Expr) : TG := fun v σ H Q => ∃ t, PG X tg t ∧ t v σ H Q
theorem pg_u {tg : Expr} : PG X tg (uG X tg) := ⟨fun pins s σ H v u Q I r ⟨_, p, h⟩ => p.run pins s σ H v u Q I r h⟩
def Xg (X : Cx) (tg : Expr) (js : List Nat) (d : PyData) (Γ Γ' : Gm) : Prop := DG X.K (uG X tg) js d Γ Γ'
theorem xg_of {tg : Expr} {t : TG} {js : List Nat} {Γ' : Gm} (h : PG X tg t) (k : DG X.K t js d Γ Γ') : Xg X tg js d Γ Γ' := fun B H Hs σ v E p Q q => ⟨t, h, k B H Hs σ v E p Q q⟩
theorem xg_name {p2 : Pos} (k : Lk X i x) : Xg X (.Name x p2) [i] d Γ (Γ.set i (.sh d)) := xg_of (pg_name k.nd k.ix k.loc k.fn) dg_name
def uGs (X : Cx) (tg : List Expr) : TGs := fun v σ H Q => ∃ t, PGs X tg t ∧ t v σ H Q
theorem pgs_u {tg : List Expr} : PGs X tg (uGs X tg) := ⟨fun pins s σ H v u Q I r ⟨_, p, h⟩ => p.run pins s σ H v u Q I r h⟩
def Xgs (X : Cx) (tg : List Expr) (js : List Nat) (ds : List PyData) (Γ Γ' : Gm) : Prop := DGs X.K (uGs X tg) js ds Γ Γ'
theorem xgs_nil : Xgs X [] [] [] Γ Γ := fun B H Hs σ v E p Q q => ⟨_, pgs_nil, dgs_nil B H Hs σ v E p Q q⟩
end
end Dl
set_option Elab.async false
set_option linter.all false
set_option maxRecDepth 100000
set_option maxHeartbeats 2000000
namespace Dl
open PySem L2 PyProof.Rows
variable [Tabs]
section
variable {X : Cx} {B : Bs} {Γ : Gm} {e a b c : Expr} {es : List Expr} {s st : Stmt} {ss rest : List Stmt} {d d1 d2 : PyData} {ds : List PyData} {P : Out → Prop} {pos p' : Pos} {x : Str} {i : Nat} {p q r : Bool} {m n : Int} {y z : Str}
/-! ### targets -/
theorem xgs_cons {tg : Expr} {tgs : List Expr} {js ks : List Nat} {Γ1 Γ2 : Gm} (hs : (assignEach (tg :: tgs) X.env).map (·.2) = assign tg X.env :: (assignEach tgs X.env).map (·.2)) (h : Xg X tg js d Γ Γ1) (hr : Xgs X tgs ks ds Γ1 Γ2) : Xgs X (tg :: tgs) (js ++ ks) (d :: ds) Γ Γ2 :=
  fun B H Hs σ v E p Q q => ⟨_, pgs_cons pg_u pgs_u hs, dgs_cons h hr B H Hs σ v E p Q q⟩
theorem xg_tup {tgs : List Expr} {kk n : Nat} {js : List Nat} {Γ1 : Gm} (hc : X.calm = true) (hn : (assignEach tgs X.env).length = n) (hst : (assignEach tgs X.env).findIdx? (·.1) = none) (hl : ds.length = n) (h : Xgs X tgs js ds Γ Γ1) : Xg X (.Tuple tgs kk pos) js (.tuple ds) Γ Γ1 :=
  xg_of (pg_tup hc pgs_u hn hst) (dg_tup h hl)
theorem xg_unl {tgs : List Expr} {kk n : Nat} {js : List Nat} {Γ1 : Gm} (hc : X.calm = true) (hn : (assignEach tgs X.env).length = n) (hst : (assignEach tgs X.env).findIdx? (·.1) = none) (hl : ds.length = n) (h : Xgs X tgs js ds Γ Γ1) : Xg X (.Tuple tgs kk pos) js (.list ds) Γ Γ1 :=
  xg_of (pg_unl hc pgs_u hn hst) fun B H Hs σ v E p Q q => by
    cases p with
    | lst hq ha => exact ⟨_, _, rfl, sub_l E.sub hq, by rw [ha.length]; exact hl, h B H Hs σ _ E ha Q q⟩
theorem xs_asg {tg : Expr} {js : List Nat} {Γ1 : Gm} (hs : swapsWithSole [tg] e pos.line X.env = pure false) (hw : swappedStores [tg] e X.env = pure none) (h1 : (assignEach [tg] X.env).map (·.2) = [assign tg X.env]) (h : Xp X B Γ e d) (hg : Xg X tg js d Γ Γ1) (hP : P (.nx Γ1)) : Xs X B Γ (.Assign [tg] e pos) P :=
  xs_of (ps_asg pe_u pg_u hs hw h1) (ds_asgG h hg hP)
theorem xs_par {i j : Nat} {x y : Str} {a b : Expr} {px py pt : Pos} {kt k2 pt2} (hc : X.calm = true) (ki : Lk X i x) (kj : Lk X j y) (hij : i ≠ j) (hx : X.env.scope.names.lookup x = some .local) (hy : X.env.scope.names.lookup y = some .local)
    (hw : swappedStores [.Tuple [.Name x px, .Name y py] kt pt] (.Tuple [a, b] k2 pt2) X.env = pure (some [x, y])) (hs : swapsWithSole [.Tuple [.Name x px, .Name y py] kt pt] (.Tuple [a, b] k2 pt2) pos.line X.env = pure false)
    (ha : Xa X B Γ [a, b] [d1, d2]) (hP : P (.nx ((Γ.set i (.sh d1)).set j (.sh d2)))) : Xs X B Γ (.Assign [.Tuple [.Name x px, .Name y py] kt pt] (.Tuple [a, b] k2 pt2) pos) P :=
  xs_of (ps_par hc ki.nd ki.ix kj.ix hij hx hy pa_u hw hs) (ds_par ha hP)
theorem ds_aug {K : PySem.W.Frag} {i : Nat} {te : TE} {f : Int → Int → Int} (hi : Γ[i]? = some (.sh (.int m))) (h : DE K B te Γ (.int n)) (hP : P (.nx (Γ.set i (.sh (.int (f m n)))))) : DS K B (tAug i te (ipI f)) Γ P := fun D H Hs σ E q => by
  obtain ⟨v, e, p⟩ := E.sh hi
  cases p
  refine ⟨_, e, h H Hs σ E _ fun u H1 Hs1 g1 p1 => ?_⟩
  cases p1
  exact ⟨m, n, rfl, rfl, q _ hP H1 Hs1 _ ((E.grow g1).setSh i (.int _))⟩
theorem xs_augA {p2 : Pos} (k : Lk X i x) (hi : Γ[i]? = some (.sh (.int m))) (h : Xp X B Γ e (.int n)) (hP : P (.nx (Γ.set i (.sh (.int (m + n)))))) : Xs X B Γ (.AugAssign (.Name x p2) .Add e pos) P := xs_of (ps_aug k.nd k.ix k.loc pe_u ip_add k.fn) (ds_aug hi h hP)
theorem xs_augS {p2 : Pos} (k : Lk X i x) (hi : Γ[i]? = some (.sh (.int m))) (h : Xp X B Γ e (.int n)) (hP : P (.nx (Γ.set i (.sh (.int (m - n)))))) : Xs X B Γ (.AugAssign (.Name x p2) .Sub e pos) P := xs_of (ps_aug k.nd k.ix k.loc pe_u ip_sub k.fn) (ds_aug hi h hP)
/-! ### what is walked -/
theorem xi_list {tg : Expr} (h : Xp X B Γ e (.list ds)) : Xi X B Γ tg e ds := xi_of (pi_list pe_u) (di_list h)
theorem xi_tup {tg : Expr} (h : Xp X B Γ e (.tuple ds)) : Xi X B Γ tg e ds := xi_of (pi_tup pe_u) (di_tup h)
theorem xi_str {tg : Expr} (h : Xp X B Γ e (.str y)) : Xi X B Γ tg e (signsD y) := xi_of (pi_str pe_u) (di_str h)
theorem xi_rng1 {tg : Expr} (hb : Bi X "range") (he : St1 X e []) (h : Xp X B Γ e (.int n)) (hn : -(2 ^ 62) ≤ n ∧ n < 2 ^ 62) : Xi X B Γ tg (.Call (.Name "range" p') [e] [] pos) (rangeD 0 n.toNat) := xi_of (pi_range1 hb.gl hb.no pa_u he) (di_rng1 (xa_cons he h xa_nil) hn)
theorem xi_rng2 {tg : Expr} (hb : Bi X "range") (he : starEach [e, a] X.env = [(false, eval e X.env), (false, eval a X.env)]) (he1 : St1 X e [a]) (he2 : St1 X a []) (h : Xp X B Γ e (.int m)) (h2 : Xp X B Γ a (.int n)) (hm : -(2 ^ 62) ≤ m ∧ m < 2 ^ 62) (hn : -(2 ^ 62) ≤ n ∧ n < 2 ^ 62) : Xi X B Γ tg (.Call (.Name "range" p') [e, a] [] pos) (rangeD m (n - m).toNat) :=
  xi_of (pi_range2 hb.gl hb.no pa_u he he2) (di_rng2 (xa_cons he1 h (xa_cons he2 h2 xa_nil)) hm hn)
theorem xi_enum {tgs : List Expr} {kk : Nat} {p3 : Pos} (hb : Bi X "enumerate") (he : starEach [e] X.env = [(false, eval e X.env)]) (he1 : St1 X e []) (h : Xp X B Γ e (.list ds)) : Xi X B Γ (.Tuple tgs kk p3) (.Call (.Name "enumerate" p') [e] [] pos) (enumD 0 ds) := xi_of (pi_enum hb.gl hb.no pa_u he) (di_enum (xa_cons he1 h xa_nil))
/-! ### loops -/
theorem xs_for {tg iter : Expr} {body : List Stmt} (hp : PassesOwn (model X.prog X.w) X.A X.env X.xe) (hc : X.calm = true) (hs : ∀ x, foldedSetIterable iter X.env x = pure x) (h : Xi X B Γ tg iter ds) (I : Nat → Gm → Prop) (h0 : I 0 Γ)
    (hb : ∀ B' k d Γ', ds[k]? = some d → I k Γ' → ∃ js Γ2, Xg X tg js d Γ' Γ2 ∧ Xb X B' Γ2 body (turnS I k P)) (hd : ∀ Γ', I ds.length Γ' → P (.nx Γ')) : Xs X B Γ (.For tg iter body [] pos) P :=
  xs_of (ps_for hp hc pi_u pg_u pb_u hs) (ds_for h I h0 hb hd)
/-- what a while's turn leaves -/
def whS (I : Nat → Gm → Prop) (m : Nat) (P : Out → Prop) : Out → Prop
  | .nx Γ => ∃ m', m' < m ∧ I m' Γ
  | .ct Γ => ∃ m', m' < m ∧ I m' Γ
  | .bk Γ => P (.nx Γ)
  | .rt v => P (.rt v)
  | .ro v => P (.ro v)
theorem xs_while {body : List Stmt} (hp : PassesOwn (model X.prog X.w) X.A X.env X.xe) (I : Nat → Gm → Prop) (m0 : Nat) (h0 : I m0 Γ)
    (hs : ∀ m Γ', I m Γ' → ∃ b, Xt X B Γ' c b ∧ (b = true → Xb X B Γ' body (whS I m P)) ∧ (b = false → P (.nx Γ'))) : Xs X B Γ (.While c body [] pos) P :=
  xs_of (ps_while hp pt_u pb_u) (ds_while I m0 h0 fun m Γ' hI => by
    obtain ⟨b, h1, h2, h3⟩ := hs m Γ' hI
    exact ⟨b, h1, fun hb => ds_imp (h2 hb) fun o ho => by cases o <;> exact ho, h3⟩)
/-! ### comprehensions -/
def uQ (X : Cx) (ifs : List Expr) : TT := fun σ H Q => ∃ t, PTs X ifs t ∧ t σ H Q
theorem pq_u {ifs : List Expr} : PTs X ifs (uQ X ifs) := ⟨fun pins s σ H Q I ⟨_, p, h⟩ => p.run pins s σ H Q I h⟩
def Xq (X : Cx) (B : Bs) (Γ : Gm) (ifs : List Expr) (b : Bool) : Prop := DT X.K B (uQ X ifs) Γ b
theorem xq_nil : Xq X B Γ [] true := fun H Hs σ E Q q => ⟨_, pts_nil, q H Hs (Gr.refl E.sub)⟩
theorem xq_one (h : Xt X B Γ c p) : Xq X B Γ [c] p := fun H Hs σ E Q q => ⟨_, pts_one pt_u, h H Hs σ E Q q⟩
/-- all blocks that such a comprehension may run in -/
def Blk (X : Cx) (scope : Scope) (X' : Cx) : Prop := ∃ s H C cl fp, X' = X.blk s H scope (compEnvC scope cl C X.env) fp
/-- the readings of a comprehension's block, and what they are worth -/
theorem lc_pieces {elt tg : Expr} {ifs : List Expr} {scope : Scope} {vs js : List Nat} (pr : PyData → Bool) (ev : PyData → PyData) (G2 : PyData → Gm)
    (hb : ∀ X', Blk X scope X' → ∀ B' d, d ∈ ds → Xg X' tg js d (wipeG Γ vs) (G2 d) ∧ Xq X' B' (G2 d) ifs (pr d) ∧ (pr d = true → Xp X' B' (G2 d) elt (ev d))) :
    ∃ (g : TG) (tt : TT) (te : TE), (∀ s H C cl fp, PG (X.blk s H scope (compEnvC scope cl C X.env) fp) tg g) ∧ (∀ s H C cl fp, PTs (X.blk s H scope (compEnvC scope cl C X.env) fp) ifs tt) ∧ (∀ s H C cl fp, PE (X.blk s H scope (compEnvC scope cl C X.env) fp) elt te) ∧
      ∀ wi, DI X.K B wi Γ ds → ds.length ≤ 1000000 → (∀ j ∈ js, j ∈ vs) → DL X.K B (tLc wi g tt te vs) Γ ((ds.filter pr).map ev) := by
  have bk : ∀ s H C cl fp, Blk X scope (X.blk s H scope (compEnvC scope cl C X.env) fp) := fun s H C cl fp => ⟨s, H, C, cl, fp, rfl⟩
  have hK : ∀ X', Blk X scope X' → X'.K = X.K := fun X' ⟨s, H, C, cl, fp, e⟩ => by rw [e]; all_goals rfl
  refine ⟨fun v σ H Q => ∀ X', Blk X scope X' → uG X' tg v σ H Q, fun σ H Q => ∀ X', Blk X scope X' → uQ X' ifs σ H Q, fun σ H Q => ∀ X', Blk X scope X' → uE X' elt σ H Q, fun s H C cl fp => ⟨fun pins s' σ H' v u Q I r h => pg_u.run pins s' σ H' v u Q I r (h _ (bk s H C cl fp))⟩,
    fun s H C cl fp => ⟨fun pins s' σ H' Q I h => pq_u.run pins s' σ H' Q I (h _ (bk s H C cl fp))⟩, fun s H C cl fp => ⟨fun pins s' σ H' Q I h => pe_u.run pins s' σ H' Q I (h _ (bk s H C cl fp))⟩, fun wi hi hz hv => dl_lc (js := js) hi pr ev hz hv fun B' d hd => ⟨G2 d, ?_, ?_, fun hp => ?_⟩⟩
  · intro B1 H Hs σ v E p Q q X' hX
    have := (hb X' hX B' d hd).1
    unfold Xg at this
    rw [hK X' hX] at this
    exact this B1 H Hs σ v E p Q q
  · intro H Hs σ E Q q X' hX
    have := (hb X' hX B' d hd).2.1
    unfold Xq at this
    rw [hK X' hX] at this
    exact this H Hs σ E Q q
  · intro H Hs σ E Q q X' hX
    have := (hb X' hX B' d hd).2.2 hp
    unfold Xp at this
    rw [hK X' hX] at this
    exact this H Hs σ E Q q
theorem xl_lc {elt tg iter : Expr} {ifs : List Expr} {scope : Scope} {own : List (Str × Nat)} {js : List Nat} (pr : PyData → Bool) (ev : PyData → PyData) (G2 : PyData → Gm) (hc : X.calm = true) (hN : X.N.Nodup) (ok : BlkOk X.N X.env.scope scope own) (hs : ∀ x, foldedSetIterable iter X.env x = pure x)
    (hi : Xi X B Γ tg iter ds) (hz : ds.length ≤ 1000000) (hv : ∀ j ∈ js, j ∈ own.map (·.2))
    (hb : ∀ X', Blk X scope X' → ∀ B' d, d ∈ ds → Xg X' tg js d (wipeG Γ (own.map (·.2))) (G2 d) ∧ Xq X' B' (G2 d) ifs (pr d) ∧ (pr d = true → Xp X' B' (G2 d) elt (ev d))) : Xl X B Γ (.ListComp elt [⟨tg, iter, ifs, 0⟩] scope pos) ((ds.filter pr).map ev) := by
  obtain ⟨g, tt, te, h1, h2, h3, h4⟩ := lc_pieces (B := B) pr ev G2 hb
  exact xl_of (pe_lc (own := own) (g := g) (tt := tt) (te := te) hc hN pi_u ok h1 h2 h3 hs) (h4 _ hi hz hv)
/-- y = [..] on one line; y one's own list, or shared -/
theorem xs_setLc {elt tg iter : Expr} {ifs : List Expr} {scope : Scope} {own : List (Str × Nat)} {js : List Nat} {py spos : Pos} (sl : Bool) (pr : PyData → Bool) (ev : PyData → PyData) (G2 : PyData → Gm) (k : Lk X i x) (hyl : X.env.scope.names.lookup x = some .local) (hc : X.calm = true) (ok : BlkOk X.N X.env.scope scope own)
    (hsw : swapsWith (.ListComp elt [⟨tg, iter, ifs, 0⟩] scope pos) (some (.Name x py)) spos.line X.env = pure true) (hs : ∀ x, foldedSetIterable iter X.env x = pure x)
    (hi : Xi X B Γ tg iter ds) (hz : ds.length ≤ 1000000) (hv : ∀ j ∈ js, j ∈ own.map (·.2))
    (hb : ∀ X', Blk X scope X' → ∀ B' d, d ∈ ds → Xg X' tg js d (wipeG Γ (own.map (·.2))) (G2 d) ∧ Xq X' B' (G2 d) ifs (pr d) ∧ (pr d = true → Xp X' B' (G2 d) elt (ev d)))
    (hP : P (.nx (Γ.set i (if sl then .ow ((ds.filter pr).map ev) else .sh (.list ((ds.filter pr).map ev)))))) : Xs X B Γ (.Assign [.Name x py] (.ListComp elt [⟨tg, iter, ifs, 0⟩] scope pos) spos) P := by
  obtain ⟨g, tt, te, h1, h2, h3, h4⟩ := lc_pieces (B := B) pr ev G2 hb
  refine xs_of (ps_setLc (i := i) (own := own) (g := g) (tt := tt) (te := te) hc k.nd k.ix hyl hsw pi_u ok h1 h2 h3 hs) ?_
  cases sl with
  | true => exact ds_asgO (h4 _ hi hz hv) hP
  | false => exact ds_asg (de_of_dl (h4 _ hi hz hv)) hP
/-! ### f-strings -/
theorem dj_nil {K : PySem.W.Frag} {acc : Str} : ∀ H Hs σ, Enb K B H Hs σ Γ → ∀ Q : Str → Hp → Prop, (∀ H' Hs', Gr H Hs H' Hs' → Q acc H') → tJs [] acc σ H Q := fun H Hs σ E Q q => q H Hs (Gr.refl E.sub)
theorem dj_cons {K : PySem.W.Frag} {t : TE} {ts : List TE} {acc out : Str} (h : DE K B t Γ (.str y)) (hz : (acc ++ y).length ≤ sizeLine) (hr : ∀ H Hs σ, Enb K B H Hs σ Γ → ∀ Q : Str → Hp → Prop, (∀ H' Hs', Gr H Hs H' Hs' → Q out H') → tJs ts (acc ++ y) σ H Q) :
    ∀ H Hs σ, Enb K B H Hs σ Γ → ∀ Q : Str → Hp → Prop, (∀ H' Hs', Gr H Hs H' Hs' → Q out H') → tJs (t :: ts) acc σ H Q := fun H Hs σ E Q q => h H Hs σ E _ fun v H1 Hs1 g1 p1 => by
  cases p1
  exact ⟨y, rfl, hz, hr H1 Hs1 σ (E.grow g1) Q fun H2 Hs2 g2 => q H2 Hs2 (g1.trans g2)⟩
/-- a part: {e} of a text, of an int; a written text -/
theorem xp_fmtS (h : Xp X B Γ e (.str y)) (hz : y.length ≤ sizeLine) : Xp X B Γ (.FormattedValue e (-1) none pos) (.str y) := xp_of (pe_fmt pe_u) fun H Hs σ E Q q => h H Hs σ E _ fun v H1 Hs1 g1 p1 => by
  cases p1
  exact .inl ⟨y, rfl, hz, q _ H1 Hs1 g1 (.str _)⟩
theorem xp_fmtI (h : Xp X B Γ e (.int m)) (hz : m.natAbs.log2 < 1920) : Xp X B Γ (.FormattedValue e (-1) none pos) (.str (toString m)) := xp_of (pe_fmt pe_u) fun H Hs σ E Q q => h H Hs σ E _ fun v H1 Hs1 g1 p1 => by
  cases p1
  exact .inr ⟨m, rfl, hz, q _ H1 Hs1 g1 (.str _)⟩
def uJ (X : Cx) (es : List Expr) : List TE := es.map (uE X)
theorem pj_u : ∀ es : List Expr, PJ X es (uJ X es)
  | [] => .nil
  | e :: es => .cons pe_u (pj_u es)
def Xj (X : Cx) (B : Bs) (Γ : Gm) (es : List Expr) (acc out : Str) : Prop := ∀ H Hs σ, Enb X.K B H Hs σ Γ → ∀ Q : Str → Hp → Prop, (∀ H' Hs', Gr H Hs H' Hs' → Q out H') → tJs (uJ X es) acc σ H Q
theorem xj_nil {acc : Str} : Xj X B Γ [] acc acc := dj_nil
theorem xj_cons {acc out : Str} (h : Xp X B Γ e (.str y)) (hz : (acc ++ y).length ≤ sizeLine) (hr : Xj X B Γ es (acc ++ y) out) : Xj X B Γ (e :: es) acc out := dj_cons h hz hr
theorem xp_joined {e1 e2 : Expr} {out : Str} (h : Xj X B Γ (e1 :: e2 :: es) Str.empty out) : Xp X B Γ (.JoinedStr (e1 :: e2 :: es) pos) (.str out) := xp_of (pe_joined (pj_u _)) fun H Hs σ E Q q => h H Hs σ E _ fun H1 Hs1 g1 => q _ H1 Hs1 g1 (.str _)
end
/-! ### a def by its body -/
section
variable {P : Program} {w : World} {K : PySem.W.Frag} {mg : Str → Option Value} {base : Heap}
abbrev Xc (P : Program) (w : World) (K : PySem.W.Frag) (mg : Str → Option Value) (base : Heap) (N : List Str) (qual : Str) (st : Stmt) (f : Addr) (cdv : Value) (A : Around) (outer : List Env) (s : Shared) (H : Hp) (E : XK) : Cx := (cxOf CX0 P w K mg base N qual (defScope st) f cdv A outer s H E).nox
def startG (N : List Str) (ds : List PyData) : Gm := ds.map .sh ++ List.replicate (N.length - ds.length) .un
def RetP (d : PyData) : Out → Prop := fun o => o = .rt d ∨ (d = .none ∧ ∃ Γ, o = .nx Γ)
theorem en_start {N : List Str} {vs : List V} {ds : List PyData} {H Hs : Hp} (s : ∀ a o, Hs a = some o → H a = some o) (tb : TabsIn Hs) (a : DqAll K Hs vs ds) : Enb K ⟨H, Hs, Hs⟩ H Hs (L2.start N vs) (startG N ds) := by
  refine ⟨Gr.refl s, Ext.refl _, ?_, fun i t o h1 h2 => ?_, fun i j ds' es l h1 h2 => ?_, tb⟩
  · unfold L2.start startG
    rw [List.length_append, List.length_append, List.length_map, List.length_map, List.length_replicate, List.length_replicate, a.length]
  · unfold startG at h1
    unfold L2.start at h2
    by_cases hi : i < ds.length
    · rw [List.getElem?_append_left (by rw [List.length_map]; exact hi), List.getElem?_map, List.getElem?_eq_getElem hi] at h1
      rw [List.getElem?_append_left (by rw [List.length_map, a.length]; exact hi), List.getElem?_map] at h2
      obtain ⟨v, hv, pv⟩ := a.get (List.getElem?_eq_getElem hi)
      rw [hv] at h2
      cases h1
      cases h2
      exact ⟨v, rfl, pv⟩
    · rw [List.getElem?_append_right (by rw [List.length_map]; omega), List.getElem?_replicate] at h1
      split at h1
      · cases h1; trivial
      · cases h1
  · unfold startG at h1
    by_cases hi : i < ds.length
    · rw [List.getElem?_append_left (by rw [List.length_map]; exact hi), List.getElem?_map, List.getElem?_eq_getElem hi] at h1
      cases h1
    · rw [List.getElem?_append_right (by rw [List.length_map]; omega), List.getElem?_replicate] at h1
      split at h1 <;> cases h1
/-- THE RULE: a def keeps a relation of data -/
theorem fn_ok {x qual : Str} {st : Stmt} {f : Addr} {fd : FuncData} {N ps : List Str} {k : Nat} {R : List PyData → PyData → Prop} (F : Fun K x qual st f fd) (S : FnScope N ps (defScope st)) (len : ∀ ds d, R ds d → ds.length = ps.length)
    (body : ∀ (cdv : Value) (A : Around) (outer : List Env) (s : Shared) (H : Hp) (E : XK) (B : Bs) (ds : List PyData) (d : PyData), Room k (Xc P w K mg base N qual st f cdv A outer s H E).A → R ds d → Xb (Xc P w K mg base N qual st f cdv A outer s H E) B (startG N ds) (defBody st) (RetP d)) : FnOk P w K mg base CX0 (k + 1) f fd ps (spR K R) := by
  refine F.ok S (fun vs H Q E h => ?_) (fun cdv A outer s H vs Q E hr h => ?_)
  · obtain ⟨ds, d, Hs, _, _, a, hR, _⟩ := h
    rw [a.length]
    exact len ds d hR
  · obtain ⟨ds, d, Hs, hsub, htb, a, hR, q⟩ := h
    refine ⟨_, pb_u, body cdv A outer s H E ⟨H, Hs, Hs⟩ ds d hr hR _ H Hs (L2.start N vs) (en_start hsub htb a) fun o ho => ?_⟩
    rcases ho with rfl | ⟨rfl, Γ, rfl⟩
    · exact fun v H' Hs' g p => q v H' Hs' g p
    · exact fun H' Hs' σ' E' => q .non H' Hs' E'.gr .non
/-- a def that gives a fresh list -/
def RetO (ds : List PyData) : Out → Prop := fun o => o = .ro ds
theorem fn_okO {x qual : Str} {st : Stmt} {f : Addr} {fd : FuncData} {N ps : List Str} {k : Nat} {R : List PyData → PyData → Prop} (F : Fun K x qual st f fd) (S : FnScope N ps (defScope st)) (len : ∀ ds d, R ds d → ds.length = ps.length)
    (body : ∀ (cdv : Value) (A : Around) (outer : List Env) (s : Shared) (H : Hp) (E : XK) (B : Bs) (ds es : List PyData), Room k (Xc P w K mg base N qual st f cdv A outer s H E).A → R ds (.list es) → Xb (Xc P w K mg base N qual st f cdv A outer s H E) B (startG N ds) (defBody st) (RetO es)) : FnOk P w K mg base CX0 (k + 1) f fd ps (spRO K R) := by
  refine F.ok S (fun vs H Q E h => ?_) (fun cdv A outer s H vs Q E hr h => ?_)
  · obtain ⟨ds, es, Hs, _, _, a, hR, _⟩ := h
    rw [a.length]
    exact len ds _ hR
  · obtain ⟨ds, es, Hs, hsub, htb, a, hR, q⟩ := h
    refine ⟨_, pb_u, body cdv A outer s H E ⟨H, Hs, Hs⟩ ds es hr hR _ H Hs (L2.start N vs) (en_start hsub htb a) fun o ho => ?_⟩
    cases ho
    exact fun p xs H' Hs' g n e s a => q p xs H' Hs' g n e s a
/-! ### what a def's scope says, told at once -/
/-- N: the def's names, G: the names of the module that it asks -/
def scF (N G : List Str) (st : Stmt) : Bool := (N.all fun x => ((defScope st).names.lookup x == some .local || (defScope st).names.lookup x == some .cell) && !(x == ("__debug__" : Str)) && !(x == ("__classdict__" : Str))) && decide N.Nodup && (G.all fun x => (defScope st).names.lookup x == some .globalImplicit)
section
variable {N G : List Str} {st : Stmt} {qual : Str} {f : Addr} {cdv : Value} {A : Around} {outer : List Env} {s : Shared} {H : Hp} {E : XK} {i : Nat} {x : Str}
theorem scF_loc (h : scF N G st = true) (hi : N[i]? = some x) : Loc (defScope st) x ∧ (x == ("__debug__" : Str)) = false ∧ (x == ("__classdict__" : Str)) = false := by
  unfold scF at h
  simp only [Bool.and_eq_true, List.all_eq_true, Bool.or_eq_true, Bool.not_eq_true', beq_iff_eq] at h
  obtain ⟨⟨a, b⟩, c⟩ := h.1.1 x (List.mem_of_getElem? hi)
  exact ⟨a, by simpa using b, by simpa using c⟩
theorem rk_of (h : scF N G st = true) (hi : N[i]? = some x) : Rk (Xc P w K mg base N qual st f cdv A outer s H E) i x := by
  obtain ⟨a, b, c⟩ := scF_loc h hi
  refine ⟨hi, ?_, b, c⟩
  rcases a with a | a
  · exact .inl a
  · exact .inr (.inl a)
theorem lk_of (h : scF N G st = true) (hi : N[i]? = some x) : Lk (Xc P w K mg base N qual st f cdv A outer s H E) i x := by
  obtain ⟨a, b, c⟩ := scF_loc h hi
  unfold scF at h
  simp only [Bool.and_eq_true, decide_eq_true_eq] at h
  exact ⟨h.1.2, hi, a, .inl rfl⟩
theorem gl_of (h : scF N G st = true) (hx : x ∈ G) : Gl (Xc P w K mg base N qual st f cdv A outer s H E) x := by
  unfold scF at h
  simp only [Bool.and_eq_true, List.all_eq_true, beq_iff_eq] at h
  exact h.2 x hx
theorem bi_of (h : scF N G st = true) (hx : x ∈ G) (hm : mg x = none) : Bi (Xc P w K mg base N qual st f cdv A outer s H E) x := ⟨gl_of h hx, hm⟩
end
/-- the same where some names of N are no names of the def's own scope (a comprehension's) -/
def scF2 (N Nf G : List Str) (st : Stmt) : Bool := (Nf.all fun x => ((defScope st).names.lookup x == some .local || (defScope st).names.lookup x == some .cell) && !(x == ("__debug__" : Str)) && !(x == ("__classdict__" : Str))) && decide N.Nodup && (G.all fun x => (defScope st).names.lookup x == some .globalImplicit)
section
variable {N Nf G : List Str} {st : Stmt} {qual : Str} {f : Addr} {cdv : Value} {A : Around} {outer : List Env} {s : Shared} {H : Hp} {E : XK} {i : Nat} {x : Str}
theorem scF2_loc (h : scF2 N Nf G st = true) (hi : x ∈ Nf) : Loc (defScope st) x ∧ (x == ("__debug__" : Str)) = false ∧ (x == ("__classdict__" : Str)) = false := by
  unfold scF2 at h
  simp only [Bool.and_eq_true, List.all_eq_true, Bool.or_eq_true, Bool.not_eq_true', beq_iff_eq] at h
  obtain ⟨⟨a, b⟩, c⟩ := h.1.1 x hi
  exact ⟨a, by simpa using b, by simpa using c⟩
theorem rk_of2 (h : scF2 N Nf G st = true) (hi : N[i]? = some x) (hx : x ∈ Nf) : Rk (Xc P w K mg base N qual st f cdv A outer s H E) i x := by
  obtain ⟨a, b, c⟩ := scF2_loc h hx
  refine ⟨hi, ?_, b, c⟩
  rcases a with a | a
  · exact .inl a
  · exact .inr (.inl a)
theorem lk_of2 (h : scF2 N Nf G st = true) (hi : N[i]? = some x) (hx : x ∈ Nf) : Lk (Xc P w K mg base N qual st f cdv A outer s H E) i x := by
  obtain ⟨a, b, c⟩ := scF2_loc h hx
  unfold scF2 at h
  simp only [Bool.and_eq_true, decide_eq_true_eq] at h
  exact ⟨h.1.2, hi, a, .inl rfl⟩
theorem gl_of2 (h : scF2 N Nf G st = true) (hx : x ∈ G) : Gl (Xc P w K mg base N qual st f cdv A outer s H E) x := by
  unfold scF2 at h
  simp only [Bool.and_eq_true, List.all_eq_true, beq_iff_eq] at h
  exact h.2 x hx
end
/-- a module's constant, by the module's names -/
structure CnM (K : PySem.W.Frag) (mg : Str → Option Value) (x : Str) (d : PyData) : Prop where
  ex : ∃ u v, mg x = some u ∧ RelV v u ∧ ∀ H, Dq K H v d
  db : (x == ("__debug__" : Str)) = false
theorem CnM.at {X : Cx} {x : Str} {d : PyData} (h : CnM X.K X.mg x d) : Cn X x d := ⟨h.ex, h.db⟩
/-- a def of the module by its promise -/
structure Dn (P : Program) (w : World) (K : PySem.W.Frag) (mg : Str → Option Value) (base : Heap) (k : Nat) (x : Str) (R : List PyData → PyData → Prop) : Prop where
  ex : ∃ (f : Addr) (fd : FuncData) (ps : List Str), mg x = some (.ref f) ∧ FnOk P w K mg base CX0 k f fd ps (spR K R) ∧ PySem.W.keepIn K (.ref f) = true ∧ Binds K fd ps []
theorem ce_of {N : List Str} {st : Stmt} {qual : Str} {f : Addr} {cdv : Value} {A : Around} {outer : List Env} {s : Shared} {H : Hp} {E : XK} {x : Str} {R : List PyData → PyData → Prop} {k j : Nat} (D : Dn P w K mg base k x R) (hr : Room j (Xc P w K mg base N qual st f cdv A outer s H E).A) (hk : k ≤ j) (hd : (x == ("__debug__" : Str)) = false) :
    Ce (Xc P w K mg base N qual st f cdv A outer s H E) x R := by
  obtain ⟨g, fd, ps, h1, h2, h3, h4⟩ := D.ex
  exact ⟨⟨k, g, fd, ps, h1, h2, h3, h4, hr.mono hk⟩, hd⟩
theorem dn_of {x qual : Str} {st : Stmt} {f : Addr} {fd : FuncData} {ps : List Str} {k : Nat} {R : List PyData → PyData → Prop} (F : Fun K x qual st f fd) (hm : mg x = some (.ref f)) (hb : Binds K fd ps []) (h : FnOk P w K mg base CX0 k f fd ps (spR K R)) : Dn P w K mg base k x R := ⟨f, fd, ps, hm, h, F.kp, hb⟩
structure DnO (P : Program) (w : World) (K : PySem.W.Frag) (mg : Str → Option Value) (base : Heap) (k : Nat) (x : Str) (R : List PyData → PyData → Prop) : Prop where
  ex : ∃ (f : Addr) (fd : FuncData) (ps : List Str), mg x = some (.ref f) ∧ FnOk P w K mg base CX0 k f fd ps (spRO K R) ∧ PySem.W.keepIn K (.ref f) = true ∧ Binds K fd ps []
structure CeO (X : Cx) (x : Str) (R : List PyData → PyData → Prop) : Prop where
  ex : ∃ (k : Nat) (f : Addr) (fd : FuncData) (ps : List Str), X.mg x = some (.ref f) ∧ FnOk X.prog X.w X.K X.mg X.base CX0 k f fd ps (spRO X.K R) ∧ PySem.W.keepIn X.K (.ref f) = true ∧ Binds X.K fd ps [] ∧ Room k X.A
  db : (x == ("__debug__" : Str)) = false
theorem ce_ofO {N : List Str} {st : Stmt} {qual : Str} {f : Addr} {cdv : Value} {A : Around} {outer : List Env} {s : Shared} {H : Hp} {E : XK} {x : Str} {R : List PyData → PyData → Prop} {k j : Nat} (D : DnO P w K mg base k x R) (hr : Room j (Xc P w K mg base N qual st f cdv A outer s H E).A) (hk : k ≤ j) (hd : (x == ("__debug__" : Str)) = false) :
    CeO (Xc P w K mg base N qual st f cdv A outer s H E) x R := by
  obtain ⟨g, fd, ps, h1, h2, h3, h4⟩ := D.ex
  exact ⟨⟨k, g, fd, ps, h1, h2, h3, h4, hr.mono hk⟩, hd⟩
theorem dn_ofO {x qual : Str} {st : Stmt} {f : Addr} {fd : FuncData} {ps : List Str} {k : Nat} {R : List PyData → PyData → Prop} (F : Fun K x qual st f fd) (hm : mg x = some (.ref f)) (hb : Binds K fd ps []) (h : FnOk P w K mg base CX0 k f fd ps (spRO K R)) : DnO P w K mg base k x R := ⟨f, fd, ps, hm, h, F.kp, hb⟩
theorem xl_call {X : Cx} {B : Bs} {Γ : Gm} {e : Expr} {es : List Expr} {ds ds' : List PyData} {p' pos : Pos} {x : Str} {R : List PyData → PyData → Prop} (hg : Gl X x) (c : CeO X x R) (he : St1 X e es) (hp : Pl1 X pos es) (ha : Xa X B Γ (e :: es) ds') (hr : R ds' (.list ds)) : Xl X B Γ (.Call (.Name x p') (e :: es) [] pos) ds := by
  obtain ⟨k, f, fd, ps, hm, F, kp, bi, hr'⟩ := c.ex
  exact xl_of (pe_call F hr' hg hm kp bi .nil (E := E0) pass0 pa_u c.db he hp) (dl_call ha hr)
theorem xs_retO {X : Cx} {B : Bs} {Γ : Gm} {P : Out → Prop} {e : Expr} {ds : List PyData} {pos : Pos} (h : Xl X B Γ e ds) (hP : P (.ro ds)) : Xs X B Γ (.Return (some e) pos) P := xs_of (ps_ret pe_u) (ds_retO h hP)
end
end Dl
set_option Elab.async false
set_option linter.all false
set_option maxRecDepth 100000
set_option maxHeartbeats 2000000
namespace Dl
open PySem L2 PyProof.Rows
inductive TyN where
  | int | str | bool | tuple | list | dict
def TyN.name : TyN → String
  | .int => "int"
  | .str => "str"
  | .bool => "bool"
  | .tuple => "tuple"
  | .list => "list"
  | .dict => "dict"
def isiD : PyData → TyN → Bool
  | .bool _, .bool => true
  | .bool _, .int => true
  | .int _, .int => true
  | .str _, .str => true
  | .tuple _, .tuple => true
  | .list _, .list => true
  | .dict _, .dict => true
  | _, _ => false
theorem isi_ok (d : PyData) (T : TyN) : kitB (tyD d) T.name = some (isiD d T) := by
  cases d <;> cases T <;> (simp only [tyD, TyN.name, isiD]; decide +kernel)
/-- what computing shows -/
structure Tt (p : Prop) : Prop where
  h : p
/-- the slots told anew -/
structure Sg (a b : Gm) : Prop where
  h : a = b
/-- what is left to the prover -/
structure Side (p : Prop) : Prop where
  h : p
inductive AddD : PyData → PyData → PyData → Prop where
  | int {m : Int} {n : Int} : AddD (.int m) (.int n) (.int (m + n))
  | str {y : Str} {z : Str} (hz : Side (y.length + z.length ≤ sizeLine)) : AddD (.str y) (.str z) (.str (y ++ z))
  | lst {es1 : List PyData} {es2 : List PyData} (hz : Side (es1.length + es2.length ≤ sizeLine)) : AddD (.list es1) (.list es2) (.list (es1 ++ es2))
  | tup {es1 : List PyData} {es2 : List PyData} (hz : Side (es1.length + es2.length ≤ sizeLine)) : AddD (.tuple es1) (.tuple es2) (.tuple (es1 ++ es2))
inductive MulD : PyData → PyData → PyData → Prop where
  | int {m : Int} {n : Int} (hz : Side (CMulW m n)) : MulD (.int m) (.int n) (.int (m * n))
  | str {y : Str} {n : Int} (hz : Side (MulOk y n)) : MulD (.str y) (.int n) (.str (Txt.mul y n))
inductive FdivD : Int → Int → Int → Prop where
  | lit {m n : Int} (h : 0 < n ∧ n < 1073741824) : FdivD m n (m / n)
  | gen {m n : Int} (h : Side (CDivG m n)) : FdivD m n (m.fdiv n)
inductive EqD : PyData → PyData → Bool → Prop where
  | int {m : Int} {n : Int} : EqD (.int m) (.int n) (decide (m = n))
  | str {y : Str} {z : Str} : EqD (.str y) (.str z) (decide (y = z))
  | bl {p : Bool} {q : Bool} : EqD (.bool p) (.bool q) (decide (p = q))
  | dat {d1 : PyData} {d2 : PyData} (h1 : Side (SeqAt.shaped d1 = true)) (h2 : Side (SeqAt.shaped d2 = true)) : EqD d1 d2 (PyData.eqv d1 d2)
inductive InD : PyData → PyData → Bool → Prop where
  | lst {d : PyData} {ds : List PyData} (f : Tt (flatD d = true)) (g : Tt (ds.all flatD = true)) : InD d (.list ds) (inD d ds)
  | tup {d : PyData} {ds : List PyData} (f : Tt (flatD d = true)) (g : Tt (ds.all flatD = true)) : InD d (.tuple ds) (inD d ds)
  | sgn {z : Str} {k : Nat} : InD (.str ⟨#[k]⟩) (.str z) (decide (k ∈ z.cps.toList))
inductive IxD : PyData → PyData → PyData → Prop where
  | lst {d : PyData} {ds : List PyData} {i : Int} (h : Side (atI ds i = some d)) : IxD (.list ds) (.int i) d
  | tup {d : PyData} {ds : List PyData} {i : Int} (h : Side (atI ds i = some d)) : IxD (.tuple ds) (.int i) d
  | str {y : Str} {i : Int} {k : Nat} (hz : Side (y.length ≤ sizeLine)) (h : Side (atI y.cps.toList i = some k)) : IxD (.str y) (.int i) (.str ⟨#[k]⟩)
inductive SlD : PyData → Option Int → Option Int → PyData → Prop where
  | lst {ds : List PyData} {l h : Option Int} : SlD (.list ds) l h (.list (cutD ds l h))
  | str {y : Str} {l h : Option Int} (hz : Side (y.length ≤ sizeLine)) : SlD (.str y) l h (.str (cutS y l h))
inductive LenD : PyData → Int → Prop where
  | lst {ds : List PyData} : LenD (.list ds) ds.length
  | tup {ds : List PyData} : LenD (.tuple ds) ds.length
  | str {y : Str} (hz : Side (y.length ≤ sizeLine)) : LenD (.str y) y.length
inductive IntD : PyData → Int → Prop where
  | str {m : Int} {y : Str} (hn : Side (PySem.intText? y = some m)) (hz : Side (y.length ≤ 640)) : IntD (.str y) m
  | bl {p : Bool} : IntD (.bool p) (if p then 1 else 0)
inductive SortD : PyData → List PyData → Prop where
  | ofI {ds : List PyData} {ns ms : List Int} (hm : Side (ds = ns.map .int ∧ ns.length < 64 ∧ ms.Perm ns ∧ ms.Pairwise (· ≤ ·))) : SortD (.list ds) (ms.map .int)
inductive TruD : PyData → Bool → Prop where
  | bl {p : Bool} : TruD (.bool p) p
  | int {m : Int} : TruD (.int m) (m != 0)
  | non : TruD .none false
  | str {y : Str} (hz : Side (y.length ≤ sizeLine)) : TruD (.str y) ((y.length : Int) != 0)
  | lst {ds : List PyData} : TruD (.list ds) (!ds.isEmpty)
  | tup {ds : List PyData} : TruD (.tuple ds) (!ds.isEmpty)
inductive UnpD : PyData → List PyData → Prop where
  | tup {ds : List PyData} : UnpD (.tuple ds) ds
  | lst {ds : List PyData} : UnpD (.list ds) ds
inductive ItrD : PyData → List PyData → Prop where
  | lst {ds : List PyData} : ItrD (.list ds) ds
  | tup {ds : List PyData} : ItrD (.tuple ds) ds
  | str {y : Str} : ItrD (.str y) (signsD y)
inductive FmtD : PyData → Str → Prop where
  | str {y : Str} (hz : Side (y.length ≤ sizeLine)) : FmtD (.str y) y
  | int {m : Int} (hz : Side (m.natAbs.log2 < 1920)) : FmtD (.int m) (toString m)
section
variable [Tabs]
variable {X : Cx} {B : Bs} {Γ : Gm} {e a b c o : Expr} {es : List Expr} {s st : Stmt} {ss rest : List Stmt} {d d1 d2 d3 : PyData} {ds es1 es2 : List PyData} {P : Out → Prop} {pos p' ap : Pos} {x : Str} {i : Nat} {p q r : Bool} {m n : Int} {y z : Str}
/-! ### rules by relations of data: no choice but by the text -/
theorem op_mulS : OpR X (binaryOp .Mult) (fun x y H Q => ∃ a k, x = .str a ∧ y = .int k ∧ MulOk a k ∧ Q (.str (Txt.mul a k)) H) := by
  intro pins s σ H x y v u Q I rx ry h
  obtain ⟨a, k, rfl, rfl, hk, q⟩ := h
  obtain ⟨t, rfl⟩ := rx
  obtain ⟨t', rfl⟩ := ry
  exact SB.mul hk fun t2 k2 => ⟨.str _, H, I.tok _, ⟨_, rfl⟩, q⟩
theorem xp_mulS (ha : Xp X B Γ a (.str y)) (hb : Xp X B Γ b (.int n)) (hk : MulOk y n) : Xp X B Γ (.BinOp a .Mult b pos) (.str (Txt.mul y n)) := xp_bin op_mulS (fun H Hs u v s hx hy Q q => by
  cases hx; cases hy
  exact ⟨y, n, rfl, rfl, hk, q _ H Hs (Gr.refl s) (.str _)⟩) ha hb
theorem xe_add (ha : Xp X B Γ a d1) (hb : Xp X B Γ b d2) (h : AddD d1 d2 d) : Xp X B Γ (.BinOp a .Add b pos) d := by
  cases h with
  | int => exact xp_add ha hb
  | str hz => exact xp_adds ha hb hz.h
  | lst hz => exact xp_l (xl_cat ha hb hz.h)
  | tup hz => exact xp_catT ha hb hz.h
theorem xe_sub (ha : Xp X B Γ a (.int m)) (hb : Xp X B Γ b (.int n)) : Xp X B Γ (.BinOp a .Sub b pos) (.int (m - n)) := xp_sub ha hb
theorem xe_mul (ha : Xp X B Γ a d1) (hb : Xp X B Γ b d2) (h : MulD d1 d2 d) : Xp X B Γ (.BinOp a .Mult b pos) d := by
  cases h with
  | int hz => exact xp_mul ha hb hz.h
  | str hz => exact xp_mulS ha hb hz.h
theorem xe_fdiv {k : Int} (ha : Xp X B Γ a (.int m)) (hb : Xp X B Γ b (.int n)) (hc : FdivD m n k) : Xp X B Γ (.BinOp a .FloorDiv b pos) (.int k) := by
  cases hc with
  | lit h => exact xp_bin op_fdiv (opd_I h fun _ => .int _) ha hb
  | gen h => exact xp_fdiv ha hb h.h
theorem xe_mod (ha : Xp X B Γ a (.int m)) (hb : Xp X B Γ b (.int n)) (hc : Side (0 < n)) : Xp X B Γ (.BinOp a .Mod b pos) (.int (m % n)) := xp_mod ha hb hc.h
theorem xe_pow (ha : Xp X B Γ a (.int m)) (hb : Xp X B Γ b (.int n)) (hc : Side (CPow m n)) : Xp X B Γ (.BinOp a .Pow b pos) (.int (m ^ n.toNat)) := xp_pow ha hb hc.h




/-- one comparison, as a value and as a test -/
def CmpOk (X : Cx) (op : CmpOp) (d1 d2 : PyData) (p : Bool) : Prop := ∃ rr : R2, OpR X (compareOp op) rr ∧ OpD X.K rr d1 d2 (.bool p)
theorem xe_cmp {op : CmpOp} (hm : Tt (behindInMarks op b = false)) (ha : Xp X B Γ a d1) (hb : Xp X B Γ b d2) (k : CmpOk X op d1 d2 p) : Xp X B Γ (.Compare a [op] [b] pos) (.bool p) := by
  obtain ⟨rr, ho, hr⟩ := k
  exact xp_cmp ho hr ha hb hm.h
theorem xte_cmp {op : CmpOp} (hm : Tt (behindInMarks op b = false)) (ha : Xp X B Γ a d1) (hb : Xp X B Γ b d2) (k : CmpOk X op d1 d2 p) : Xt X B Γ (.Compare a [op] [b] pos) p := by
  obtain ⟨rr, ho, hr⟩ := k
  exact xt_cmp ho hr ha hb hm.h
theorem ck_lt : CmpOk X .Lt (.int m) (.int n) (decide (m < n)) := ⟨_, op_lt, opd_I0 fun _ => .bl _⟩
theorem ck_le : CmpOk X .LtE (.int m) (.int n) (decide (m ≤ n)) := ⟨_, op_le, opd_I0 fun _ => .bl _⟩
theorem ck_gt : CmpOk X .Gt (.int m) (.int n) (decide (n < m)) := ⟨_, op_gt, opd_I0 fun _ => .bl _⟩
theorem ck_ge : CmpOk X .GtE (.int m) (.int n) (decide (n ≤ m)) := ⟨_, op_ge, opd_I0 fun _ => .bl _⟩
theorem ck_eqi : CmpOk X .Eq (.int m) (.int n) (decide (m = n)) := by
  rw [← dec_int]
  exact ⟨_, op_eq, opd_sc (f := fun x y => decide (x = y)) (fun _ _ _ _ h q => ⟨h, q⟩) rfl dq_int dq_int⟩
theorem ck_nei : CmpOk X .NotEq (.int m) (.int n) (!decide (m = n)) := by
  rw [← dec_int]
  exact ⟨_, op_ne, opd_sc (f := fun x y => !decide (x = y)) (fun _ _ _ _ h q => ⟨h, q⟩) rfl dq_int dq_int⟩
theorem ck_eqs : CmpOk X .Eq (.str y) (.str z) (decide (y = z)) := by
  rw [← dec_str]
  exact ⟨_, op_eq, opd_sc (f := fun x y => decide (x = y)) (fun _ _ _ _ h q => ⟨h, q⟩) rfl dq_str dq_str⟩
theorem ck_nes : CmpOk X .NotEq (.str y) (.str z) (!decide (y = z)) := by
  rw [← dec_str]
  exact ⟨_, op_ne, opd_sc (f := fun x y => !decide (x = y)) (fun _ _ _ _ h q => ⟨h, q⟩) rfl dq_str dq_str⟩
theorem ck_eqb : CmpOk X .Eq (.bool p) (.bool q) (decide (p = q)) := by
  rw [← dec_bl]
  exact ⟨_, op_eq, opd_sc (f := fun x y => decide (x = y)) (fun _ _ _ _ h q => ⟨h, q⟩) rfl dq_bl dq_bl⟩
theorem ck_neb : CmpOk X .NotEq (.bool p) (.bool q) (!decide (p = q)) := by
  rw [← dec_bl]
  exact ⟨_, op_ne, opd_sc (f := fun x y => !decide (x = y)) (fun _ _ _ _ h q => ⟨h, q⟩) rfl dq_bl dq_bl⟩
/-- room for a deep comparison -/
structure Rm (X : Cx) : Prop where
  h : X.A.units + 64 < cLine
theorem ck_eqd (hu : Rm X) (h1 : Side (SeqAt.shaped d1 = true)) (h2 : Side (SeqAt.shaped d2 = true)) : CmpOk X .Eq d1 d2 (PyData.eqv d1 d2) :=
  ⟨_, op_eqD hu.h, fun H Hs u v s hx hy Q q => ⟨d1, d2, (dp_sub s hx).plain (shaped_plain h1.h), (dp_sub s hy).plain (shaped_plain h2.h), h1.h, h2.h, q _ H Hs (Gr.refl s) (.bl _)⟩⟩
theorem ck_ned (hu : Rm X) (h1 : Side (SeqAt.shaped d1 = true)) (h2 : Side (SeqAt.shaped d2 = true)) : CmpOk X .NotEq d1 d2 (!PyData.eqv d1 d2) :=
  ⟨_, op_neD hu.h, fun H Hs u v s hx hy Q q => ⟨d1, d2, (dp_sub s hx).plain (shaped_plain h1.h), (dp_sub s hy).plain (shaped_plain h2.h), h1.h, h2.h, q _ H Hs (Gr.refl s) (.bl _)⟩⟩
theorem ck_isN : CmpOk X .Is d .none (isNone d) := ⟨_, op_isN, fun H Hs u v s hx hy Q q => by
  cases hy
  refine ⟨rfl, ?_⟩
  rw [isNone_v hx]
  exact q _ H Hs (Gr.refl s) (.bl _)⟩
theorem ck_notN : CmpOk X .IsNot d .none (!isNone d) := ⟨_, op_notN, fun H Hs u v s hx hy Q q => by
  cases hy
  refine ⟨rfl, ?_⟩
  rw [isNone_v hx]
  exact q _ H Hs (Gr.refl s) (.bl _)⟩
theorem ck_isB : CmpOk X .Is (.bool p) (.bool q) (decide (p = q)) := ⟨_, op_is_bl, fun H Hs u v s hx hy Q q => by
  cases hx; cases hy
  exact ⟨_, _, rfl, rfl, q _ H Hs (Gr.refl s) (.bl _)⟩⟩
theorem ck_notB : CmpOk X .IsNot (.bool p) (.bool q) (!decide (p = q)) := ⟨_, op_isnot_bl, fun H Hs u v s hx hy Q q => by
  cases hx; cases hy
  exact ⟨_, _, rfl, rfl, q _ H Hs (Gr.refl s) (.bl _)⟩⟩
theorem ck_inL (f : Tt (flatD d = true)) (g : Tt (ds.all flatD = true)) : CmpOk X .In d (.list ds) (inD d ds) := ⟨_, op_in_seq, opd_in (neg := false) f.h g.h (.inl rfl)⟩
theorem ck_inT (f : Tt (flatD d = true)) (g : Tt (ds.all flatD = true)) : CmpOk X .In d (.tuple ds) (inD d ds) := ⟨_, op_in_seq, opd_in (neg := false) f.h g.h (.inr rfl)⟩
theorem ck_ninL (f : Tt (flatD d = true)) (g : Tt (ds.all flatD = true)) : CmpOk X .NotIn d (.list ds) (!inD d ds) := ⟨_, op_notIn_seq, opd_in (neg := true) f.h g.h (.inl rfl)⟩
theorem ck_ninT (f : Tt (flatD d = true)) (g : Tt (ds.all flatD = true)) : CmpOk X .NotIn d (.tuple ds) (!inD d ds) := ⟨_, op_notIn_seq, opd_in (neg := true) f.h g.h (.inr rfl)⟩
theorem ck_inS {k : Nat} : CmpOk X .In (.str ⟨#[k]⟩) (.str z) (decide (k ∈ z.cps.toList)) := ⟨_, op_in_sign, fun H Hs u v s hx hy Q q => by
  cases hx; cases hy
  exact ⟨k, z, rfl, rfl, q _ H Hs (Gr.refl s) (.bl _)⟩⟩
theorem ck_ninS {k : Nat} : CmpOk X .NotIn (.str ⟨#[k]⟩) (.str z) (!decide (k ∈ z.cps.toList)) := ⟨_, op_notIn_sign, fun H Hs u v s hx hy Q q => by
  cases hx; cases hy
  exact ⟨k, z, rfl, rfl, q _ H Hs (Gr.refl s) (.bl _)⟩⟩
/-- a < b < c -/
theorem de_chain {K : PySem.W.Frag} {ta tb tc : TE} {rr rr' : R2} (ha : DE K B ta Γ d1) (hb : DE K B tb Γ d2) (hr : OpD K rr d1 d2 (.bool p)) (hc : DE K B tc Γ d3) (hr' : OpD K rr' d2 d3 (.bool q)) : DE K B (tChain rr rr' ta tb tc) Γ (.bool (p && q)) :=
  fun H Hs σ E Q q' => ha H Hs σ E _ fun v H1 Hs1 g1 p1 => hb H1 Hs1 σ (E.grow g1) _ fun u H2 Hs2 g2 p2 => hr H2 Hs2 v u g2.sub (p1.mono g2.exs) p2 _ fun w H3 Hs3 g3 p3 => by
    cases p3
    refine ⟨p, rfl, ?_⟩
    have E3 := ((E.grow g1).grow g2).grow g3
    cases p with
    | true =>
      show tc σ H3 _
      exact hc H3 Hs3 σ E3 _ fun z H4 Hs4 g4 p4 => hr' H4 Hs4 u z g4.sub ((p2.mono g3.exs).mono g4.exs) p4 _ fun y H5 Hs5 g5 p5 => q' y H5 Hs5 ((((g1.trans g2).trans g3).trans g4).trans g5) p5
    | false => exact q' _ H3 Hs3 ((g1.trans g2).trans g3) (.bl _)
theorem xe_chain {op op' : CmpOp} (hm : Tt (lastMarks [op, op'] [b, c] = false)) (ha : Xp X B Γ a d1) (hb : Xp X B Γ b d2) (k : CmpOk X op d1 d2 p) (hc : Xp X B Γ c d3) (k' : CmpOk X op' d2 d3 q) : Xp X B Γ (.Compare a [op, op'] [b, c] pos) (.bool (p && q)) := by
  obtain ⟨rr, ho, hr⟩ := k
  obtain ⟨rr', ho', hr'⟩ := k'
  exact xp_of (pe_chain ho ho' pe_u pe_u pe_u hm.h) (de_chain ha hb hr hc hr')
theorem xte_chain {op op' : CmpOp} (hm : Tt (lastMarks [op, op'] [b, c] = false)) (ha : Xp X B Γ a d1) (hb : Xp X B Γ b d2) (k : CmpOk X op d1 d2 p) (hc : Xp X B Γ c d3) (k' : CmpOk X op' d2 d3 q) : Xt X B Γ (.Compare a [op, op'] [b, c] pos) (p && q) := by
  obtain ⟨rr, ho, hr⟩ := k
  obtain ⟨rr', ho', hr'⟩ := k'
  exact xt_of (pt_chain ho ho' pe_u pe_u pe_u hm.h) (dt_B (de_chain ha hb hr hc hr'))
/-! ### arguments, displays, more -/
theorem xe_ix (hs : Tt (PlainIx b)) (ha : Xp X B Γ a d1) (hb : Xp X B Γ b d2) (h : IxD d1 d2 d) : Xp X B Γ (.Subscript a b pos) d := by
  cases h with
  | lst h => exact xp_ixL hs.h ha hb h.h
  | tup h => exact xp_ixT hs.h ha hb h.h
  | str hz h => exact xp_ixS hs.h ha hb hz.h h.h
theorem xe_sl {lo hi : Option Expr} {l h : Option Int} {p2 : Pos} (he : Xp X B Γ e d1) (hl : Xo X B Γ lo l) (hh : Xo X B Γ hi h) (k : SlD d1 l h d) : Xp X B Γ (.Subscript e (.Slice lo hi none p2) pos) d := by
  cases k with
  | lst => exact xp_l (xl_sl he hl hh)
  | str hz => exact xp_slS he hz.h hl hh
theorem xe_len (hb : Bi X "len") (he : Tt (St1 X e [])) (hp : Tt (Pl1 X pos [])) (h : Xp X B Γ e d) (k : LenD d n) : Xp X B Γ (.Call (.Name "len" p') [e] [] pos) (.int n) := by
  cases k with
  | lst => exact xp_lenL hb he.h hp.h h
  | tup => exact xp_lenT hb he.h hp.h h
  | str hz => exact xp_lenS hb he.h hp.h h hz.h
theorem xe_lenO (hb : Bi X "len") {p2 : Pos} (he : Tt (St1 X (.Name x p2) [])) (hp : Tt (Pl1 X pos [])) (h : Rk X i x) (k : Tt (Γ[i]? = some (.ow ds))) : Xp X B Γ (.Call (.Name "len" p') [.Name x p2] [] pos) (.int ds.length) := xp_lenO hb he.h hp.h h k.h
theorem xe_abs (hb : Bi X "abs") (he : Tt (St1 X e [])) (hp : Tt (Pl1 X pos [])) (h : Xp X B Γ e (.int m)) : Xp X B Γ (.Call (.Name "abs" p') [e] [] pos) (.int (if m < 0 then -m else m)) := xp_abs hb he.h hp.h h
theorem xe_min (hc : Tt (X.calm = true)) (hb : Bi X "min") (he : Tt (St1 X e [a])) (he2 : Tt (St1 X a [])) (hp : Tt (Pl1 X pos [a])) (h : Xp X B Γ e (.int m)) (h2 : Xp X B Γ a (.int n)) : Xp X B Γ (.Call (.Name "min" p') [e, a] [] pos) (.int (if n < m then n else m)) := xp_min hc.h hb he.h he2.h hp.h h h2
theorem xe_max (hc : Tt (X.calm = true)) (hb : Bi X "max") (he : Tt (St1 X e [a])) (he2 : Tt (St1 X a [])) (hp : Tt (Pl1 X pos [a])) (h : Xp X B Γ e (.int m)) (h2 : Xp X B Γ a (.int n)) : Xp X B Γ (.Call (.Name "max" p') [e, a] [] pos) (.int (if n > m then n else m)) := xp_max hc.h hb he.h he2.h hp.h h h2
theorem xe_str (hb : Bi X "str") (he : Tt (St1 X e [])) (hp : Tt (Pl1 X pos [])) (h : Xp X B Γ e (.int m)) (hz : Side (m.natAbs.log2 < 1920)) : Xp X B Γ (.Call (.Name "str" p') [e] [] pos) (.str (toString m)) := xp_strI hb he.h hp.h h hz.h
theorem xe_int (hb : Bi X "int") (he : Tt (St1 X e [])) (hp : Tt (Pl1 X pos [])) (h : Xp X B Γ e d) (k : IntD d m) : Xp X B Γ (.Call (.Name "int" p') [e] [] pos) (.int m) := by
  cases k with
  | str hn hz => exact xp_intS hb he.h hp.h h hn.h hz.h
  | bl => exact xp_intB hb he.h hp.h h
theorem sortD2 {m n : Int} : SortD (.list [.int m, .int n]) [.int (min m n), .int (max m n)] := by
  have := SortD.ofI (ds := [.int m, .int n]) (ns := [m, n]) (ms := [min m n, max m n]) ⟨rfl, (show 2 < 64 by decide), ?_, ?_⟩
  · exact this
  · by_cases h : m ≤ n
    · rw [Int.min_eq_left h, Int.max_eq_right h]
    · rw [Int.min_eq_right (by omega), Int.max_eq_left (by omega)]
      exact List.Perm.swap _ _ _
  · refine List.pairwise_cons.mpr ⟨fun x hx => ?_, by simp⟩
    rw [List.mem_singleton.mp hx]
    omega
theorem xe_sorted (hb : Bi X "sorted") (he : Tt (St1 X e [])) (hp : Tt (Pl1 X pos [])) (h : Xp X B Γ e d) (k : SortD d ds) : Xp X B Γ (.Call (.Name "sorted" p') [e] [] pos) (.list ds) := by
  cases k with
  | ofI hm =>
    obtain ⟨⟨rfl, h1, h2, h3⟩⟩ := hm
    exact xp_l (xl_sortI hb he.h hp.h h h1 h2 h3)
/-- math.gcd under its own name -/
structure Gc (X : Cx) (x : Str) : Prop where
  gl : Gl X x
  is : X.mg x = some (.builtin "math.gcd")
  db : (x == ("__debug__" : Str)) = false
theorem xe_gcd (g : Gc X x) (he : Tt (St1 X e [a])) (he2 : Tt (St1 X a [])) (hp : Tt (Pl1 X pos [a])) (h : Xp X B Γ e (.int m)) (h2 : Xp X B Γ a (.int n)) : Xp X B Γ (.Call (.Name x p') [e, a] [] pos) (.int ((Nat.gcd m.natAbs n.natAbs : Nat) : Int)) := xp_gcd g.gl g.is g.db he.h he2.h hp.h h h2
/-- a built-in class by its name -/
structure Ty (X : Cx) (x : Str) (T : TyN) : Prop where
  bi : Bi X x
  is : bootBuiltins x = some (.type T.name)
  nn : x ≠ "__name__"
  db : (x == ("__debug__" : Str)) = false
theorem xe_isi {T : TyN} {p2 : Pos} (hb : Bi X "isinstance") (ht : Ty X x T) (he : Tt (St1 X e [.Name x p2])) (he2 : Tt (St1 X (.Name x p2) [])) (hp : Tt (Pl1 X pos [.Name x p2])) (h : Xp X B Γ e d) : Xp X B Γ (.Call (.Name "isinstance" p') [e, .Name x p2] [] pos) (.bool (isiD d T)) :=
  xp_isi hb ht.bi ht.is ht.nn ht.db he.h he2.h hp.h h (isi_ok d T)
theorem xe_partition (hb : Tt (Mb X o "partition")) (hf : Tt (Mf X pos e [])) (hl : Tt ((ap.endLine == pos.line) = true)) (he : Tt (St1 X e [])) (hp : Tt (Pl1 X pos [])) (ho : Xp X B Γ o (.str y)) (ha : Xp X B Γ e (.str z)) (h1 : Side ((z.length == 0) = false)) (h2 : Side (y.length ≤ sizeLine)) :
    Xp X B Γ (.Call (.Attribute o "partition" ap) [e] [] pos) (.tuple [.str (Txt.partition y z).1, .str (Txt.partition y z).2.1, .str (Txt.partition y z).2.2]) := xp_partition hb.h hf.h hl.h he.h hp.h ho ha h1.h h2.h
/-- a text cut, as known -/
structure Part (y z a s b : Str) : Prop where
  h : Txt.partition y z = (a, s, b)
theorem xe_partF {u v w : Str} (k : Part y z u v w) (hb : Tt (Mb X o "partition")) (hf : Tt (Mf X pos e [])) (hl : Tt ((ap.endLine == pos.line) = true)) (he : Tt (St1 X e [])) (hp : Tt (Pl1 X pos [])) (ho : Xp X B Γ o (.str y)) (ha : Xp X B Γ e (.str z)) (h1 : Side ((z.length == 0) = false)) (h2 : Side (y.length ≤ sizeLine)) :
    Xp X B Γ (.Call (.Attribute o "partition" ap) [e] [] pos) (.tuple [.str u, .str v, .str w]) := by
  have := xp_partition hb.h hf.h hl.h he.h hp.h ho ha h1.h h2.h
  rw [k.h] at this
  exact this
theorem xe_split (hb : Tt (Mb X o "split")) (hf : Tt (Mf X pos e [])) (hl : Tt ((ap.endLine == pos.line) = true)) (he : Tt (St1 X e [])) (hp : Tt (Pl1 X pos [])) (ho : Xp X B Γ o (.str y)) (ha : Xp X B Γ e (.str z)) (h1 : Side ((z.length == 0) = false)) (h2 : Side (y.length + 2 ≤ sizeLine)) :
    Xp X B Γ (.Call (.Attribute o "split" ap) [e] [] pos) (.list ((Txt.split y z).map .str)) := xp_l (xl_split hb.h hf.h hl.h he.h hp.h ho ha h1.h h2.h)
theorem xe_join {ys : List Str} (hb : Tt (Mb X o "join")) (hf : Tt (Mf X pos e [])) (hl : Tt ((ap.endLine == pos.line) = true)) (he : Tt (St1 X e [])) (hp : Tt (Pl1 X pos [])) (ho : Xp X B Γ o (.str y)) (ha : Xp X B Γ e (.list ds)) (hy : Side (ds = ys.map .str)) (hz : Side ((ys.map (·.length)).sum + ys.length * y.length ≤ 16777216)) :
    Xp X B Γ (.Call (.Attribute o "join" ap) [e] [] pos) (.str (Txt.join y ys)) := by
  obtain ⟨rfl⟩ := hy
  exact xp_join hb.h hf.h hl.h he.h hp.h ho ha hz.h
theorem xe_isdigit (hb : Tt (Mb X o "isdigit")) (hl : Tt ((ap.endLine == pos.line) = true)) (ho : Xp X B Γ o (.str y)) : Xp X B Γ (.Call (.Attribute o "isdigit" ap) [] [] pos) (.bool (Txt.isdigit y)) := xp_isdigit hb.h hl.h ho
theorem xe_isascii (hb : Tt (Mb X o "isascii")) (hl : Tt ((ap.endLine == pos.line) = true)) (ho : Xp X B Γ o (.str y)) : Xp X B Γ (.Call (.Attribute o "isascii" ap) [] [] pos) (.bool (Txt.isascii y)) := xp_isascii hb.h hl.h ho
theorem xe_upper (hb : Tt (Mb X o "upper")) (hl : Tt ((ap.endLine == pos.line) = true)) (ho : Xp X B Γ o (.str y)) (hz : Side (y.length ≤ 5592405)) : Xp X B Γ (.Call (.Attribute o "upper" ap) [] [] pos) (.str (Txt.upper y)) := xp_upper hb.h hl.h ho hz.h
/-- what a def of the module is called with, what it gives -/
structure Cal (R : List PyData → PyData → Prop) (ds : List PyData) (d : PyData) : Prop where
  h : R ds d
theorem xe_call {R : List PyData → PyData → Prop} (c : Ce X x R) (hg : Gl X x) (he : Tt (St1 X e es)) (hp : Tt (Pl1 X pos es)) (ha : Xa X B Γ (e :: es) ds) (hr : Cal R ds d) : Xp X B Γ (.Call (.Name x p') (e :: es) [] pos) d := xp_call hg c he.h hp.h ha hr.h
theorem xe_call0 {R : List PyData → PyData → Prop} (c : Ce X x R) (hg : Gl X x) (hr : Cal R [] d) : Xp X B Γ (.Call (.Name x p') [] [] pos) d := xp_call0 hg c hr.h
theorem xe_var (h : Rk X i x) (k : Tt (Γ[i]? = some (.sh d))) : Xp X B Γ (.Name x pos) d := xp_var h k.h
theorem xe_tup {x1} (h : Xa X B Γ es ds) (hl : Tt (decide (ds.length ≤ 16777216) = true)) : Xp X B Γ (.Tuple es x1 pos) (.tuple ds) := xp_tup h (by have := of_decide_eq_true hl.h; rw [sizeLine_eq]; exact this)
theorem xe_lst (h : Xa X B Γ es ds) (hl : Tt (decide (ds.length ≤ 16777216) = true)) : Xp X B Γ (.List es pos) (.list ds) := xp_l (xl_lst h (by have := of_decide_eq_true hl.h; rw [sizeLine_eq]; exact this))
theorem xle_lst (h : Xa X B Γ es ds) (hl : Tt (decide (ds.length ≤ 16777216) = true)) : Xl X B Γ (.List es pos) ds := xl_lst h (by have := of_decide_eq_true hl.h; rw [sizeLine_eq]; exact this)
theorem xae_cons (hs : Tt (St1 X e es)) (h : Xp X B Γ e d) (hr : Xa X B Γ es ds) : Xa X B Γ (e :: es) (d :: ds) := xa_cons hs.h h hr
/-- an answer that is known or open -/
theorem xe_and (h1 : Xp X B Γ a (.bool p)) (h2 : p = true → Xp X B Γ (.BoolOp .And (b :: es) pos) (.bool q)) : Xp X B Γ (.BoolOp .And (a :: b :: es) pos) (.bool (p && q)) := xp_and h1 h2
/-! tests -/
theorem xt_any (he : Tt (∀ whole, isTrue e X.env whole = (do let v ← whole; standAt e.pos; holding [v] (truthy v)))) (h : Xp X B Γ e d) (k : TruD d p) : Xt X B Γ e p := by
  cases k with
  | bl => exact xt_val he.h h
  | int => exact xt_tru he.h h trivial
  | non => exact xt_tru he.h h trivial
  | str hz => exact xt_tru he.h h hz.h
  | lst => exact xt_tru he.h h trivial
  | tup => exact xt_tru he.h h trivial
/-! ### statements -/
/-- a block's rest -/
def seqP (X : Cx) (B : Bs) (ss : List Stmt) (P : Out → Prop) : Out → Prop
  | .nx Γ => Xb X B Γ ss P
  | o => P o
theorem seq_nx (h : Xb X B Γ ss P) : seqP X B ss P (.nx Γ) := h
theorem seq_rt (h : P (.rt d)) : seqP X B ss P (.rt d) := h
theorem seq_ro (h : P (.ro ds)) : seqP X B ss P (.ro ds) := h
theorem seq_bk (h : P (.bk Γ)) : seqP X B ss P (.bk Γ) := h
theorem seq_ct (h : P (.ct Γ)) : seqP X B ss P (.ct Γ) := h
theorem xbe_cons (h : Xs X B Γ st (seqP X B ss P)) : Xb X B Γ (st :: ss) P := xb_of (pss_cons ps_u pb_u) (ds_seq (ds_imp h fun o ho => by cases o <;> exact ho))
theorem xbe_one (h : Xs X B Γ st P) : Xb X B Γ [st] P := xb_of (pss_one ps_u) h
theorem ret_rt (h : d1 = d) : RetP d (.rt d1) := .inl (by rw [h])
theorem turn_nx {I : Nat → Gm → Prop} {k : Nat} (h : I (k + 1) Γ) : turnS I k P (.nx Γ) := h
theorem turn_ct {I : Nat → Gm → Prop} {k : Nat} (h : I (k + 1) Γ) : turnS I k P (.ct Γ) := h
theorem turn_bk {I : Nat → Gm → Prop} {k : Nat} (h : P (.nx Γ)) : turnS I k P (.bk Γ) := h
theorem wh_nx {I : Nat → Gm → Prop} {k : Nat} (h : ∃ m', m' < k ∧ I m' Γ) : whS I k P (.nx Γ) := h
theorem wh_ct {I : Nat → Gm → Prop} {k : Nat} (h : ∃ m', m' < k ∧ I m' Γ) : whS I k P (.ct Γ) := h
theorem wh_bk {I : Nat → Gm → Prop} {k : Nat} (h : P (.nx Γ)) : whS I k P (.bk Γ) := h
theorem wh_rt {I : Nat → Gm → Prop} {k : Nat} (h : P (.rt d)) : whS I k P (.rt d) := h
theorem turn_rt {I : Nat → Gm → Prop} {k : Nat} (h : P (.rt d)) : turnS I k P (.rt d) := h
theorem xse_set {p2 : Pos} {Γ' : Gm} (k : Lk X i x) (hs : Tt (swapsWith e (some (.Name x p2)) pos.line X.env = pure false)) (h : Xp X B Γ e d) (hΓ : Sg (Γ.set i (.sh d)) Γ') (hP : P (.nx Γ')) : Xs X B Γ (.Assign [.Name x p2] e pos) P := xs_set k hs.h h (by rw [hΓ.h]; exact hP)
theorem xse_setO {p2 : Pos} {Γ' : Gm} (k : Lk X i x) (hs : Tt (swapsWith e (some (.Name x p2)) pos.line X.env = pure false)) (h : Xl X B Γ e ds) (hΓ : Sg (Γ.set i (.ow ds)) Γ') (hP : P (.nx Γ')) : Xs X B Γ (.Assign [.Name x p2] e pos) P := xs_setO k hs.h h (by rw [hΓ.h]; exact hP)
theorem xse_aug {p2 : Pos} {Γ' : Gm} (k : Lk X i x) (hi : Tt (Γ[i]? = some (.sh (.int m)))) (h : Xp X B Γ e (.int n)) (hΓ : Sg (Γ.set i (.sh (.int (m + n)))) Γ') (hP : P (.nx Γ')) : Xs X B Γ (.AugAssign (.Name x p2) .Add e pos) P := xs_augA k hi.h h (by rw [hΓ.h]; exact hP)
theorem xse_par {j : Nat} {x y : Str} {px py pt : Pos} {kt k2 pt2} {Γ' : Gm} (hc : Tt (X.calm = true)) (ki : Lk X i x) (kj : Lk X j y) (hij : Tt (decide (i ≠ j) = true)) (hx : Tt (X.env.scope.names.lookup x = some .local)) (hy : Tt (X.env.scope.names.lookup y = some .local))
    (hw : Tt (swappedStores [.Tuple [.Name x px, .Name y py] kt pt] (.Tuple [a, b] k2 pt2) X.env = pure (some [x, y]))) (hs : Tt (swapsWithSole [.Tuple [.Name x px, .Name y py] kt pt] (.Tuple [a, b] k2 pt2) pos.line X.env = pure false))
    (ha : Xa X B Γ [a, b] [d1, d2]) (hΓ : Sg ((Γ.set i (.sh d1)).set j (.sh d2)) Γ') (hP : P (.nx Γ')) : Xs X B Γ (.Assign [.Tuple [.Name x px, .Name y py] kt pt] (.Tuple [a, b] k2 pt2) pos) P := xs_par hc.h ki kj (of_decide_eq_true hij.h) hx.h hy.h hw.h hs.h ha (by rw [hΓ.h]; exact hP)
/-- a, b, .. = a tuple or a list -/
theorem xse_unp {tgs : List Expr} {kk : Nat} {js : List Nat} {Γ1 : Gm} (hc : Tt (X.calm = true)) (hs : Tt (swapsWithSole [.Tuple tgs kk p'] e pos.line X.env = pure false)) (hw : Tt (swappedStores [.Tuple tgs kk p'] e X.env = pure none)) (h1 : Tt ((assignEach [.Tuple tgs kk p'] X.env).map (·.2) = [assign (.Tuple tgs kk p') X.env]))
    (hn : Tt ((assignEach tgs X.env).length = tgs.length)) (hst : Tt ((assignEach tgs X.env).findIdx? (·.1) = none)) (h : Xp X B Γ e d) (u : UnpD d ds) (hl : Tt (ds.length = tgs.length)) (hg : Xgs X tgs js ds Γ Γ1) (hP : P (.nx Γ1)) : Xs X B Γ (.Assign [.Tuple tgs kk p'] e pos) P := by
  cases u with
  | tup => exact xs_asg hs.h hw.h h1.h h (xg_tup hc.h hn.h hst.h hl.h hg) hP
  | lst => exact xs_asg hs.h hw.h h1.h h (xg_unl hc.h hn.h hst.h hl.h hg) hP
theorem xge_name {p2 : Pos} {Γ' : Gm} (k : Lk X i x) (hΓ : Sg (Γ.set i (.sh d)) Γ') : Xg X (.Name x p2) [i] d Γ Γ' := by
  obtain ⟨rfl⟩ := hΓ
  exact xg_name k
theorem xgse_cons {tg : Expr} {tgs : List Expr} {js ks : List Nat} {Γ1 Γ2 : Gm} (hs : Tt ((assignEach (tg :: tgs) X.env).map (·.2) = assign tg X.env :: (assignEach tgs X.env).map (·.2))) (h : Xg X tg js d Γ Γ1) (hr : Xgs X tgs ks ds Γ1 Γ2) : Xgs X (tg :: tgs) (js ++ ks) (d :: ds) Γ Γ2 := xgs_cons hs.h h hr
theorem xge_tup {tgs : List Expr} {kk : Nat} {js : List Nat} {Γ1 : Gm} (hc : Tt (X.calm = true)) (hn : Tt ((assignEach tgs X.env).length = tgs.length)) (hst : Tt ((assignEach tgs X.env).findIdx? (·.1) = none)) (hl : Tt (ds.length = tgs.length)) (h : Xgs X tgs js ds Γ Γ1) : Xg X (.Tuple tgs kk pos) js (.tuple ds) Γ Γ1 := xg_tup hc.h hn.h hst.h hl.h h
theorem xse_app {p2 : Pos} {Γ' : Gm} (k : Rk X i x) (hs : Tt (swapsWith (.Call (.Attribute (.Name x p2) "append" ap) [e] [] p') none pos.line X.env = pure false)) (hb : Tt (Mb X (.Name x p2) "append")) (hf : Tt (Mf X p' e [])) (hl : Tt ((ap.endLine == p'.line) = true)) (he : Tt (St1 X e [])) (hp : Tt (Pl1 X p' []))
    (hi : Tt (Γ[i]? = some (.ow ds))) (h : Xp X B Γ e d) (hz : Side (ds.length < sizeLine)) (hΓ : Sg (Γ.set i (.ow (ds ++ [d]))) Γ') (hP : P (.nx Γ')) : Xs X B Γ (.Expr (.Call (.Attribute (.Name x p2) "append" ap) [e] [] p') pos) P := xs_app k hs.h hb.h hf.h hl.h he.h hp.h hi.h h hz.h (by rw [hΓ.h]; exact hP)
/-! iterables -/
theorem xie_any {tg : Expr} (h : Xp X B Γ e d) (k : ItrD d ds) : Xi X B Γ tg e ds := by
  cases k with
  | lst => exact xi_list h
  | tup => exact xi_tup h
  | str => exact xi_str h
theorem xie_rng1 {tg : Expr} (hb : Bi X "range") (he : Tt (St1 X e [])) (h : Xp X B Γ e (.int n)) (hn : Side (-(2 ^ 62) ≤ n ∧ n < 2 ^ 62)) : Xi X B Γ tg (.Call (.Name "range" p') [e] [] pos) (rangeD 0 n.toNat) := xi_rng1 hb he.h h hn.h
theorem xie_rng2 {tg : Expr} (hb : Bi X "range") (he1 : Tt (St1 X e [a])) (he2 : Tt (St1 X a [])) (h : Xp X B Γ e (.int m)) (h2 : Xp X B Γ a (.int n)) (hm : Side (-(2 ^ 62) ≤ m ∧ m < 2 ^ 62)) (hn : Side (-(2 ^ 62) ≤ n ∧ n < 2 ^ 62)) : Xi X B Γ tg (.Call (.Name "range" p') [e, a] [] pos) (rangeD m (n - m).toNat) :=
  xi_rng2 hb (by rw [he1.h, he2.h]; all_goals rfl) he1.h he2.h h h2 hm.h hn.h
theorem xie_enum {tgs : List Expr} {kk : Nat} {p3 : Pos} (hb : Bi X "enumerate") (he1 : Tt (St1 X e [])) (h : Xp X B Γ e (.list ds)) : Xi X B Γ (.Tuple tgs kk p3) (.Call (.Name "enumerate" p') [e] [] pos) (enumD 0 ds) := xi_enum hb (by rw [he1.h]; all_goals rfl) he1.h h
theorem xje_cons {acc out : Str} (h : Xp X B Γ e (.str y)) (hz : Side ((acc ++ y).length ≤ sizeLine)) (hr : Xj X B Γ es (acc ++ y) out) : Xj X B Γ (e :: es) acc out := xj_cons h hz.h hr
theorem xe_fmt (h : Xp X B Γ e d) (k : FmtD d y) : Xp X B Γ (.FormattedValue e (-1) none pos) (.str y) := by
  cases k with
  | str hz => exact xp_fmtS h hz.h
  | int hz => exact xp_fmtI h hz.h
end
section
variable [Tabs]
variable {X : Cx} {B : Bs} {Γ : Gm} {pos : Pos}
theorem xe_dict0 : Xp X B Γ (.Dict [] [] pos) (.dict []) := xp_of pe_dnewK fun H Hs σ E Q q => fun p n => q (.ref p) _ (upd Hs p (.dK [])) ((Gr.refl E.sub).share n) (.dic (.inl upd_same) .nil)
end
/-! ### what is left, made lighter -/
inductive IntsL : List PyData → List Int → Prop where
  | nil : IntsL [] []
  | cons {a : Int} {ds : List PyData} {L : List Int} : IntsL ds L → IntsL (.int a :: ds) (a :: L)
inductive StrsL : List PyData → List Str → Prop where
  | nil : StrsL [] []
  | cons {a : Str} {ds : List PyData} {L : List Str} : StrsL ds L → StrsL (.str a :: ds) (a :: L)
theorem IntsL.eq {ds : List PyData} {L : List Int} (h : IntsL ds L) : ds = L.map .int := by
  induction h with
  | nil => rfl
  | cons _ ih => rw [ih]; rfl
theorem StrsL.eq {ds : List PyData} {L : List Str} (h : StrsL ds L) : ds = L.map .str := by
  induction h with
  | nil => rfl
  | cons _ ih => rw [ih]; rfl
theorem atI_pos {α : Type} {xs : List α} {i : Int} (h0 : 0 ≤ i) (h1 : i < xs.length) : atI xs i = xs[i.toNat]? := by
  unfold atI ixN
  rw [if_pos h0, if_pos h1]; rfl
theorem at_ints {ds : List PyData} {L : List Int} {i : Int} (h : IntsL ds L) (hi : Side (0 ≤ i ∧ i < L.length)) : Side (atI ds i = some (.int (L.getD i.toNat 0))) := by
  obtain ⟨h0, h1⟩ := hi.h
  refine ⟨?_⟩
  rw [h.eq, atI_pos h0 (by rw [List.length_map]; exact h1), List.getElem?_map, List.getD_eq_getElem?_getD, List.getElem?_eq_getElem (show i.toNat < L.length by omega)]; rfl
theorem at_any {ds : List PyData} {i : Int} (hi : Side (0 ≤ i ∧ i < ds.length)) : Side (atI ds i = some (ds.getD i.toNat .none)) := by
  obtain ⟨h0, h1⟩ := hi.h
  refine ⟨?_⟩
  rw [atI_pos h0 h1, List.getD_eq_getElem?_getD, List.getElem?_eq_getElem (show i.toNat < ds.length by omega)]; rfl
theorem getD_all {α : Type} {p : α → Prop} {L : List α} {i : Nat} {d : α} (h : ∀ x ∈ L, p x) (hi : i < L.length) : p (L.getD i d) := by
  rw [List.getD_eq_getElem?_getD, List.getElem?_eq_getElem hi]
  exact h _ (List.getElem_mem hi)
theorem at_0 {a : PyData} {r : List PyData} : Side (atI (a :: r) 0 = some a) := ⟨atI_nat (j := 0) rfl⟩
theorem at_1 {a b : PyData} {r : List PyData} : Side (atI (a :: b :: r) 1 = some b) := ⟨atI_nat (j := 1) rfl⟩
theorem at_2 {a b c : PyData} {r : List PyData} : Side (atI (a :: b :: c :: r) 2 = some c) := ⟨atI_nat (j := 2) rfl⟩
theorem at_strs {ds : List PyData} {L : List Str} {i : Int} (h : StrsL ds L) (hi : Side (0 ≤ i ∧ i < L.length)) : Side (atI ds i = some (.str (L.getD i.toNat Str.empty))) := by
  obtain ⟨h0, h1⟩ := hi.h
  refine ⟨?_⟩
  rw [h.eq, atI_pos h0 (by rw [List.length_map]; exact h1), List.getElem?_map, List.getD_eq_getElem?_getD, List.getElem?_eq_getElem (show i.toNat < L.length by omega)]; rfl
theorem side_mul {m n : Int} (a b : Nat) (ha : m.natAbs < 2 ^ a) (hb : n.natAbs < 2 ^ b) (h0 : 0 < a := by decide) (h1 : 0 < b := by decide) (h : a + b ≤ 1000000 := by decide) : Side (CMulW m n) := ⟨wide_mul ha hb h0 h1 h⟩
theorem two64 : (2 : Nat) ^ 64 = 18446744073709551616 := by decide
theorem side_mul64 {m n : Int} (h : -18446744073709551616 < m ∧ m < 18446744073709551616 ∧ -18446744073709551616 < n ∧ n < 18446744073709551616) : Side (CMulW m n) := by
  refine side_mul 64 64 ?_ ?_ <;> rw [two64] <;> omega
theorem side_fdiv {m n : Int} (a : Nat) (h : n ≠ 0) (hb : n.natAbs < 2 ^ a) (h0 : 0 < a := by decide) (h9 : a ≤ 9000 := by decide) : Side (CDivG m n) := ⟨h, Nat.lt_of_lt_of_le (PySem.Flt.log2_lt_of h0 hb) h9⟩
theorem side_fdiv64 {m n : Int} (h : n ≠ 0 ∧ -18446744073709551616 < n ∧ n < 18446744073709551616) : Side (CDivG m n) := by
  refine side_fdiv 64 h.1 ?_
  rw [two64]
  omega
theorem side_str {m : Int} (a : Nat) (hb : m.natAbs < 2 ^ a) (h0 : 0 < a := by decide) (h9 : a ≤ 1920 := by decide) : Side (m.natAbs.log2 < 1920) := ⟨Nat.lt_of_lt_of_le (PySem.Flt.log2_lt_of h0 hb) h9⟩
theorem side_size {n : Nat} (h : n ≤ 1000000) : n ≤ sizeLine := by rw [sizeLine_eq]; omega
end Dl
set_option Elab.async false
set_option linter.all false
set_option maxRecDepth 100000
set_option maxHeartbeats 2000000
namespace Sm
open PySem L2 Dl PySem.NumText TL
/-! ### sizes -/
def Bd (k : Nat) (n : Int) : Prop := n.natAbs < 2 ^ k
theorem Bd.mono {j k : Nat} {n : Int} (h : Bd j n) (e : j ≤ k := by decide) : Bd k n := Nat.lt_of_lt_of_le h (Nat.pow_le_pow_right (by decide) e)
theorem Bd.le {k : Nat} {m n : Int} (h : Bd k n) (e : m.natAbs ≤ n.natAbs) : Bd k m := Nat.lt_of_le_of_lt e h
theorem Bd.mul {j k : Nat} {m n : Int} (h : Bd j m) (h2 : Bd k n) : Bd (j + k) (m * n) := wide_lt h h2
theorem Bd.add {k : Nat} {m n : Int} (h : Bd k m) (h2 : Bd k n) : Bd (k + 1) (m + n) := by
  unfold Bd at *
  rw [Nat.pow_succ]
  omega
theorem Bd.neg {k : Nat} {m : Int} (h : Bd k m) : Bd k (-m) := by
  unfold Bd at *
  rw [Int.natAbs_neg]
  exact h
theorem Bd.sub {k : Nat} {m n : Int} (h : Bd k m) (h2 : Bd k n) : Bd (k + 1) (m - n) := by
  rw [Int.sub_eq_add_neg]
  exact h.add h2.neg
theorem Bd.of {k : Nat} {n : Int} (h : n.natAbs < 2 ^ k) : Bd k n := h
theorem Bd.of64 {n : Int} (h : -18446744073709551616 < n ∧ n < 18446744073709551616) : Bd 64 n := by
  unfold Bd
  rw [two64]
  omega
theorem side_mulB (j k : Nat) {m n : Int} (h : Bd j m) (h2 : Bd k n) (h0 : 0 < j := by decide) (h1 : 0 < k := by decide) (e : j + k ≤ 1000000 := by decide) : Side (CMulW m n) := side_mul j k h h2 h0 h1 e
theorem side_fdivB (k : Nat) {m n : Int} (h : n ≠ 0) (h2 : Bd k n) (h0 : 0 < k := by decide) (h9 : k ≤ 9000 := by decide) : Side (CDivG m n) := side_fdiv k h h2 h0 h9
theorem side_strB (k : Nat) {m : Int} (h : Bd k m) (h0 : 0 < k := by decide) (h9 : k ≤ 1920 := by decide) : Side (m.natAbs.log2 < 1920) := side_str k h h0 h9
/-! ### shares -/
abbrev pairD (z : Int × Int) : PyData := .tuple [.int z.1, .int z.2]
def gcdI (n p : Int) : Int := ((Nat.gcd n.natAbs p.natAbs : Nat) : Int)
theorem gcdI_pos {n p : Int} (h : p ≠ 0) : 0 < gcdI n p := by
  unfold gcdI
  have : 0 < Nat.gcd n.natAbs p.natAbs := Nat.gcd_pos_of_pos_right _ (by omega)
  omega
theorem gcdI_le {n p : Int} (h : p ≠ 0) : (gcdI n p).natAbs ≤ p.natAbs := by
  unfold gcdI
  rw [Int.natAbs_natCast]
  exact Nat.le_of_dvd (by omega) (Nat.gcd_dvd_right _ _)
theorem gcdI_dvd1 (n p : Int) : gcdI n p ∣ n := Int.ofNat_dvd_left.mpr (Nat.gcd_dvd_left _ _)
theorem gcdI_dvd2 (n p : Int) : gcdI n p ∣ p := Int.ofNat_dvd_left.mpr (Nat.gcd_dvd_right _ _)
/-- one parted by the other in lowest terms -/
def redI (n p : Int) : Int × Int := ((if p < 0 then -n else n) / gcdI n p, (if p < 0 then -p else p) / gcdI n p)
theorem red_neg {n p : Int} (h : p < 0) : (n.fdiv (-gcdI n p), p.fdiv (-gcdI n p)) = redI n p := by
  have g := gcdI_pos (n := n) (p := p) (by omega)
  have e : ∀ x : Int, x.fdiv (-gcdI n p) = (-x) / gcdI n p := fun x => by
    rw [← Int.fdiv_eq_ediv_of_nonneg _ (by omega), ← Int.neg_fdiv_neg, Int.neg_neg]
  unfold redI
  rw [if_pos h, if_pos h, e, e]
theorem red_pos {n p : Int} (h : ¬ p < 0) : (n.fdiv (gcdI n p), p.fdiv (gcdI n p)) = redI n p := by
  have e : ∀ x : Int, x.fdiv (gcdI n p) = x / gcdI n p := fun x => Int.fdiv_eq_ediv_of_nonneg _ (by unfold gcdI; omega)
  unfold redI
  rw [if_neg h, if_neg h, e, e]
theorem red_neg2 (n p : Int) (h : p < 0) : redI (-n) (-p) = redI n p := by
  unfold redI
  rw [if_neg (by omega), if_neg (by omega), if_pos h, if_pos h]
  unfold gcdI
  rw [Int.natAbs_neg, Int.natAbs_neg]
theorem ediv_natAbs_le (x g : Int) (h : 0 < g) : (x / g).natAbs ≤ x.natAbs := by
  by_cases hx : 0 ≤ x
  · have h1 := Int.ediv_nonneg hx (Int.le_of_lt h)
    have h2 : x / g ≤ x := Int.ediv_le_self _ hx
    omega
  · have h1 : x ≤ x / g := by
      have := Int.le_ediv_of_mul_le h (show x * g ≤ x by
        have h3 : x * g ≤ x * 1 := Int.mul_le_mul_of_nonpos_left (by omega) (by omega)
        omega)
      exact this
    have h2 : x / g < 0 := Int.ediv_neg_of_neg_of_pos (by omega) h
    omega
theorem red_le1 (n : Int) {p : Int} (h : p ≠ 0) : (redI n p).1.natAbs ≤ n.natAbs := by
  unfold redI
  have g := gcdI_pos (n := n) h
  refine Nat.le_trans (ediv_natAbs_le _ _ g) ?_
  split <;> omega
theorem red_le2 (n : Int) {p : Int} (h : p ≠ 0) : (redI n p).2.natAbs ≤ p.natAbs := by
  unfold redI
  have g := gcdI_pos (n := n) h
  refine Nat.le_trans (ediv_natAbs_le _ _ g) ?_
  split <;> omega
theorem red_pos2 (n : Int) {p : Int} (h : p ≠ 0) : 0 < (redI n p).2 := by
  unfold redI
  have g := gcdI_pos (n := n) h
  have d : gcdI n p ∣ (if p < 0 then -p else p) := by
    split
    · exact Int.dvd_neg.mpr (gcdI_dvd2 n p)
    · exact gcdI_dvd2 n p
  obtain ⟨k, hk⟩ := d
  show 0 < (if p < 0 then -p else p) / gcdI n p
  rw [hk, Int.mul_ediv_cancel_left _ (by omega)]
  have hp : 0 < (if p < 0 then -p else p) := by split <;> omega
  rw [hk] at hp
  exact Int.pos_of_mul_pos_right hp (by omega) |> fun h => by
    first
    | exact h
    | omega
theorem red_gcd (n : Int) {p : Int} (h : p ≠ 0) : gcdI (redI n p).1 (redI n p).2 = 1 := by
  have g := gcdI_pos (n := n) h
  have e : ∀ x : Int, ((if p < 0 then -x else x) / gcdI n p).natAbs = x.natAbs / (Nat.gcd n.natAbs p.natAbs) ∨ ¬ gcdI n p ∣ x := fun x => by
    by_cases hd : gcdI n p ∣ x
    · left
      obtain ⟨k, hk⟩ := hd
      have e1 : (if p < 0 then -x else x) = gcdI n p * (if p < 0 then -k else k) := by
        split
        · rw [hk, Int.mul_neg]
        · exact hk
      rw [e1, Int.mul_ediv_cancel_left _ (by omega), hk, Int.natAbs_mul]
      have e2 : (gcdI n p).natAbs = Nat.gcd n.natAbs p.natAbs := by unfold gcdI; rw [Int.natAbs_natCast]
      rw [e2, Nat.mul_div_cancel_left _ (by unfold gcdI at g; omega)]
      split <;> omega
    · exact .inr hd
  have e1 := (e n).resolve_right fun z => z (gcdI_dvd1 n p)
  have e2 := (e p).resolve_right fun z => z (gcdI_dvd2 n p)
  unfold gcdI redI
  rw [show (((if p < 0 then -n else n) / gcdI n p, (if p < 0 then -p else p) / gcdI n p) : Int × Int).1 = (if p < 0 then -n else n) / gcdI n p from rfl, show (((if p < 0 then -n else n) / gcdI n p, (if p < 0 then -p else p) / gcdI n p) : Int × Int).2 = (if p < 0 then -p else p) / gcdI n p from rfl, e1, e2,
    Nat.gcd_div (Nat.gcd_dvd_left _ _) (Nat.gcd_dvd_right _ _), Nat.div_self (by unfold gcdI at g; omega)]
  rfl
/-- a pair in lowest terms stays -/
theorem red_low {a b : Int} (hb : 0 < b) (hg : gcdI a b = 1) : redI a b = (a, b) := by
  unfold redI
  rw [if_neg (by omega), if_neg (by omega), hg, Int.ediv_one, Int.ediv_one]
def isWhole : PyData → Bool
  | .int _ => true
  | _ => false
def isShare : PyData → Bool
  | .tuple ds => match ds with
    | [a, b] => match a, b with
      | .int n, .int m => decide (1 ≤ m) && decide (gcdI n m = 1)
      | _, _ => false
    | _ => false
  | _ => false
theorem whole_is {d : PyData} (h : isWhole d = true) : ∃ n, d = .int n := by
  cases d <;> first | exact ⟨_, rfl⟩ | cases h
theorem share_red (n : Int) {p : Int} (h : p ≠ 0) : isShare (pairD (redI n p)) = true := by
  show (decide (1 ≤ (redI n p).2) && decide (gcdI (redI n p).1 (redI n p).2 = 1)) = true
  rw [decide_eq_true (by have := red_pos2 n h; omega), decide_eq_true (red_gcd n h)]; rfl
theorem isShare_no {a b : PyData} (h : isWhole a = false ∨ isWhole b = false) : isShare (.tuple [a, b]) = false := by
  cases a <;> cases b <;> first | rfl | (rcases h with h | h <;> cases h)
theorem isShare_len {ds : List PyData} (h : ds.length ≠ 2) : isShare (.tuple ds) = false := by
  match ds, h with
  | [], _ => rfl
  | [_], _ => rfl
  | [_, _], h => exact absurd rfl h
  | _ :: _ :: _ :: _, _ => rfl
theorem slash_signs : tl (Str.ofString "/") = 47 :: [] := by decide +kernel
theorem part_len (y : Str) : (Txt.partition y "/").1.length ≤ y.length ∧ (Txt.partition y "/").2.2.length ≤ y.length := by
  have g : ∀ (S l acc a b : List Nat), par S acc l = some (a, b) → a.length + b.length ≤ acc.length + l.length := fun S l => by
    induction l with
    | nil => intro acc a b h; cases h
    | cons c r ih =>
      intro acc a b h
      unfold par at h
      split at h
      · cases h
        rw [List.length_drop]
        omega
      · have := ih _ _ _ h
        rw [List.length_append, List.length_singleton] at this
        rw [List.length_cons]
        omega
  rw [partition_par y "/" (by rw [slash_signs]; simp)]
  cases h : par (tl "/") [] (tl y) with
  | none => exact ⟨Nat.le_refl _, Nat.zero_le _⟩
  | some z =>
    obtain ⟨a, b⟩ := z
    have := g _ _ _ _ _ h
    rw [List.length_nil, Nat.zero_add] at this
    have e1 : (⟨a.toArray⟩ : Str).length = a.length := by rw [len_tl]
    have e2 : (⟨b.toArray⟩ : Str).length = b.length := by rw [len_tl]
    show (⟨a.toArray⟩ : Str).length ≤ _ ∧ (⟨b.toArray⟩ : Str).length ≤ _
    rw [e1, e2, len_tl]
    exact ⟨by omega, by omega⟩
/-! ### figures -/
def digC (c : Nat) : Bool := decide (48 ≤ c) && decide (c ≤ 57)
def figOk (l : List Nat) : Bool := !l.isEmpty && l.all digC && !(l.head? == some 48 && decide (1 < l.length))
def figI (m : Nat) (y : Str) : Option Int := if decide (y.length ≤ m) && figOk y.cps.toList then some ((digitsVal y.cps.toList : Nat) : Int) else none
def optI : Option Int → PyData
  | none => .none
  | some i => .int i
def optP : Option (Int × Int) → PyData
  | none => .none
  | some z => pairD z
theorem isDigit_small : ∀ c : Nat, c < 128 → Unicode.isDigit c = digC c := by decide +kernel
theorem len_list (y : Str) : y.length = y.cps.toList.length := by simp [Str.length]
theorem ascii_digits {y : Str} : (Txt.isascii y && Txt.isdigit y) = (!y.cps.toList.isEmpty && y.cps.toList.all digC) := by
  unfold Txt.isascii Txt.isdigit
  rw [len_list, ← Array.all_toList, ← Array.all_toList]
  generalize y.cps.toList = l
  have e : ∀ l : List Nat, (l.all (fun x => decide (x < 128)) && l.all Unicode.isDigit) = l.all digC := fun l => by
    induction l with
    | nil => rfl
    | cons c r ih =>
      rw [List.all_cons, List.all_cons, List.all_cons, ← ih]
      by_cases hc : c < 128
      · rw [isDigit_small c hc, decide_eq_true hc]
        cases r.all (fun x => decide (x < 128)) <;> cases digC c <;> simp
      · rw [decide_eq_false hc]
        have : digC c = false := by
          unfold digC
          have : ¬ c ≤ 57 := by omega
          rw [decide_eq_false this, Bool.and_false]
        rw [this]
        simp
  rw [← e l]
  cases l with
  | nil => rfl
  | cons c r => simp only [List.length_cons, List.isEmpty_cons, Bool.not_false, Bool.true_and, Nat.zero_lt_succ, decide_true, gt_iff_lt]
theorem fig_text {m : Nat} {y : Str} {i : Int} (hm : m ≤ 640) (h : figI m y = some i) : PySem.intText? y = some i ∧ y.length ≤ 640 := by
  unfold figI at h
  split at h
  · rename_i hc
    rw [Bool.and_eq_true, decide_eq_true_eq] at hc
    obtain ⟨h1, h2⟩ := hc
    unfold figOk at h2
    simp only [Bool.and_eq_true, Bool.not_eq_true', List.all_eq_true] at h2
    cases h
    refine ⟨intText_digits (fun c hc => ?_) ?_ (by omega), by omega⟩
    · have := h2.1.2 c hc
      unfold digC at this
      simp only [Bool.and_eq_true, decide_eq_true_eq] at this
      exact this
    · intro e
      rw [e] at h2
      simp at h2
  · cases h
theorem digitsVal_bound : ∀ l : List Nat, (∀ c ∈ l, c ≤ 57) → digitsVal l < 10 ^ l.length := fun l => by
  have g : ∀ (l : List Nat) (acc k : Nat), (∀ c ∈ l, c ≤ 57) → acc < 10 ^ k → l.foldl (fun acc c => acc * 10 + (c - 48)) acc < 10 ^ (k + l.length) := fun l => by
    induction l with
    | nil => intro acc k _ h; simpa using h
    | cons c r ih =>
      intro acc k hl h
      have h1 := hl c List.mem_cons_self
      have := ih (acc * 10 + (c - 48)) (k + 1) (fun d hd => hl d (List.mem_cons_of_mem _ hd)) (by rw [Nat.pow_succ]; omega)
      rw [List.length_cons, show k + (r.length + 1) = k + 1 + r.length by omega]
      exact this
  intro h
  have := g l 0 0 h (by decide)
  rw [Nat.zero_add] at this
  exact this
theorem pow10_lt (k : Nat) : 10 ^ k ≤ 2 ^ (4 * k) := by
  rw [Nat.pow_mul]
  exact Nat.pow_le_pow_left (by decide) k
theorem fig_bound {m : Nat} {y : Str} {i : Int} (hm : m ≤ 640) (h : figI m y = some i) : 0 ≤ i ∧ Bd 2560 i := by
  unfold figI at h
  split at h
  · rename_i hc
    rw [Bool.and_eq_true, decide_eq_true_eq] at hc
    obtain ⟨h1, h2⟩ := hc
    unfold figOk at h2
    simp only [Bool.and_eq_true, Bool.not_eq_true', List.all_eq_true] at h2
    cases h
    have b := digitsVal_bound y.cps.toList fun c hc => by
      have := h2.1.2 c hc
      unfold digC at this
      simp only [Bool.and_eq_true, decide_eq_true_eq] at this
      exact this.2
    have l1 : y.cps.toList.length ≤ 640 := by rw [← len_list]; omega
    refine ⟨Int.natCast_nonneg _, ?_⟩
    unfold Bd
    rw [Int.natAbs_natCast]
    exact Nat.lt_of_lt_of_le b (Nat.le_trans (Nat.pow_le_pow_right (by decide) l1) (pow10_lt 640))
  · cases h
/-- the text of a share -/
def shareIn (y : Str) : Option (Int × Int) :=
  match figI 400 (Txt.partition y "/").1, figI 400 (Txt.partition y "/").2.2 with
  | some n, some p => if p = 0 then none else some (redI n p)
  | _, _ => none
theorem fig_no1 {y : Str} (h : 400 < (y.length : Int)) : figI 400 y = none := by
  unfold figI
  rw [decide_eq_false (by omega)]; rfl
theorem fig_no2 {y : Str} (h : Txt.isascii y = false ∨ Txt.isdigit y = false) : figI 400 y = none := by
  have e := ascii_digits (y := y)
  have e2 : (Txt.isascii y && Txt.isdigit y) = false := by rcases h with h | h <;> rw [h] <;> simp
  rw [e2] at e
  unfold figI figOk
  rw [← e]
  simp
theorem fig_head {y : Str} (h : Txt.isascii y = true ∧ Txt.isdigit y = true) : ∃ c r, y.cps.toList = c :: r ∧ (∀ x ∈ c :: r, 48 ≤ x ∧ x ≤ 57) := by
  have e := ascii_digits (y := y)
  rw [h.1, h.2] at e
  cases hl : y.cps.toList with
  | nil => rw [hl] at e; cases e
  | cons c r =>
    rw [hl] at e
    have e2 : (c :: r).all digC = true := by simpa using e.symm
    rw [List.all_eq_true] at e2
    refine ⟨c, r, rfl, fun x hx => ?_⟩
    have := e2 x hx
    unfold digC at this
    simpa using this
theorem fig_at {y : Str} (h : Txt.isascii y = true ∧ Txt.isdigit y = true) : Side (atI y.cps.toList 0 = some (y.cps.toList.headD 0)) := by
  obtain ⟨c, r, e, _⟩ := fig_head h
  rw [e]
  exact ⟨atI_nat (j := 0) rfl⟩
theorem fig_okd {y : Str} (h : Txt.isascii y = true ∧ Txt.isdigit y = true) : figOk y.cps.toList = !(decide (y.cps.toList.headD 0 = 48) && decide (1 < y.cps.toList.length)) := by
  obtain ⟨c, r, e, hd⟩ := fig_head h
  unfold figOk
  rw [e]
  have : (c :: r).all digC = true := by
    rw [List.all_eq_true]
    intro x hx
    unfold digC
    rw [decide_eq_true (hd x hx).1, decide_eq_true (hd x hx).2]; rfl
  rw [this]
  show (true && true && !((some c == some 48) && decide (1 < (c :: r).length))) = !(decide (c = 48) && decide (1 < (c :: r).length))
  have e1 : ((some c : Option Nat) == some 48) = decide (c = 48) := by
    by_cases hc : c = 48 <;> simp [hc]
  rw [e1]; rfl
theorem str_eq {x y : Str} (h : x.cps.toList = y.cps.toList) : x = y := ext_tl h
theorem zero_signs : (Str.ofString "0").cps.toList = [48] := by decide +kernel
theorem one_zero {y : Str} (h : Txt.isascii y = true ∧ Txt.isdigit y = true) : (y.cps.toList.headD 0 = 48 ∧ ¬ 1 < y.cps.toList.length) ↔ y = Str.ofString "0" := by
  obtain ⟨c, r, e, _⟩ := fig_head h
  rw [e]
  constructor
  · intro ⟨h1, h2⟩
    apply str_eq
    rw [e, zero_signs]
    have h3 : c = 48 := h1
    cases r with
    | nil => rw [h3]
    | cons a b => simp at h2
  · intro z
    rw [z, zero_signs] at e
    cases e
    exact ⟨rfl, by decide⟩
theorem sgn_zero {c : Nat} : (⟨#[c]⟩ : Str) = Str.ofString "0" ↔ c = 48 := by
  constructor
  · intro h
    have := congrArg (fun z : Str => z.cps.toList) h
    simp only [zero_signs] at this
    simpa using this
  · intro h
    apply str_eq
    rw [zero_signs, h]
theorem fig_no3 {y : Str} (h : Txt.isascii y = true ∧ Txt.isdigit y = true) (h1 : (⟨#[y.cps.toList.headD 0]⟩ : Str) = Str.ofString "0" ∧ ¬ y = Str.ofString "0") : figI 400 y = none := by
  have a := sgn_zero.mp h1.1
  have b : 1 < y.cps.toList.length := by
    by_cases z : 1 < y.cps.toList.length
    · exact z
    · exact absurd ((one_zero h).mp ⟨a, z⟩) h1.2
  unfold figI
  rw [fig_okd h, decide_eq_true a, decide_eq_true b]
  simp
theorem fig_yes {y : Str} (h0 : ¬ 400 < (y.length : Int)) (h : Txt.isascii y = true ∧ Txt.isdigit y = true) (h1 : ¬ (⟨#[y.cps.toList.headD 0]⟩ : Str) = Str.ofString "0" ∨ y = Str.ofString "0") : figI 400 y = some ((digitsVal y.cps.toList : Nat) : Int) := by
  have : (decide (y.cps.toList.headD 0 = 48) && decide (1 < y.cps.toList.length)) = false := by
    rcases h1 with h1 | h1
    · rw [decide_eq_false fun z => h1 (sgn_zero.mpr z)]; rfl
    · rw [decide_eq_false ((one_zero h).mpr h1).2, Bool.and_false]
  unfold figI
  rw [fig_okd h, this, decide_eq_true (by omega)]; rfl
/-! ### numbers as texts -/
theorem num_head : ∀ n : Nat, n ≠ 0 → (numL n).head? ≠ some 48 := fun n => by
  induction n using Nat.strongRecOn with
  | _ n ih =>
    intro hn
    by_cases h : n < 10
    · rw [numL_lt h]
      intro e
      have : 48 + n = 48 := Option.some.inj e
      omega
    · rw [numL_step (by omega)]
      have hne := numL_ne (n / 10)
      have := ih (n / 10) (by omega) (by omega)
      cases hl : numL (n / 10) with
      | nil => exact absurd hl hne
      | cons c r =>
        rw [hl] at this
        exact this
theorem num_ok (n : Nat) : figOk (numL n) = true := by
  unfold figOk
  have h1 : (numL n).all digC = true := by
    rw [List.all_eq_true]
    intro c hc
    have := numL_digits n c hc
    unfold digC
    rw [decide_eq_true this.1, decide_eq_true this.2]; rfl
  have h2 : (numL n).isEmpty = false := by
    cases h : numL n with
    | nil => exact absurd h (numL_ne n)
    | cons c r => rfl
  rw [h1, h2]
  by_cases h0 : n = 0
  · subst h0
    rw [numL_lt (by decide)]; rfl
  · have h3 := num_head n h0
    have : ((numL n).head? == some 48) = false := by
      cases h : (numL n).head? == some 48 with
      | false => rfl
      | true => exact absurd (eq_of_beq h) h3
    rw [this]; rfl
/-- the text of a number that isn't below nought -/
theorem fig_num {m k : Nat} {a : Int} (h0 : 0 ≤ a) (hk : 0 < k) (h : a.natAbs < 10 ^ k) (hm : k ≤ m) : figI m (Str.ofString (toString a)) = some a := by
  obtain ⟨n, rfl⟩ := Int.eq_ofNat_of_zero_le h0
  rw [Int.natAbs_natCast] at h
  have e : (Str.ofString (toString ((n : Nat) : Int))).cps.toList = numL n := tl_num n
  unfold figI
  rw [e, num_ok, Bool.and_true, decide_eq_true (by rw [len_list, e]; exact Nat.le_trans (numL_len hk h) hm), if_pos rfl, numL_val]
theorem num_slash (a : Int) (h0 : 0 ≤ a) : (47 : Nat) ∉ (Str.ofString (toString a)).cps.toList := by
  obtain ⟨n, rfl⟩ := Int.eq_ofNat_of_zero_le h0
  have e : (Str.ofString (toString ((n : Nat) : Int))).cps.toList = numL n := tl_num n
  rw [e]
  exact numL_free (.inl (by decide))
def shareText (a b : Int) : Str := Str.ofString (toString a) ++ Str.ofString "/" ++ Str.ofString (toString b)
theorem share_back {a b : Int} (ha : 0 ≤ a) (hb : 0 < b) (h1 : a.natAbs < 10 ^ 100) (h2 : b.natAbs < 10 ^ 100) (hg : gcdI a b = 1) : shareIn (shareText a b) = some (a, b) := by
  unfold shareIn shareText
  rw [partition_app slash_signs (num_slash a ha)]
  show (match figI 400 (Str.ofString (toString a)), figI 400 (Str.ofString (toString b)) with
    | some n, some p => if p = 0 then none else some (redI n p)
    | _, _ => none) = _
  rw [fig_num ha (by decide) h1 (by decide), fig_num (by omega) (by decide) h2 (by decide)]
  show (if b = 0 then none else some (redI a b)) = _
  rw [if_neg (by omega), red_low hb hg]
theorem len_num {a : Int} (h0 : 0 ≤ a) (h : Bd 100 a) : (Str.ofString (toString a)).length ≤ 100 := by
  obtain ⟨n, rfl⟩ := Int.eq_ofNat_of_zero_le h0
  unfold Bd at h
  rw [Int.natAbs_natCast] at h
  rw [len_list, show (Str.ofString (toString ((n : Nat) : Int))).cps.toList = numL n from tl_num n]
  exact numL_len (by decide) (Nat.lt_of_lt_of_le h (Nat.pow_le_pow_left (by decide) 100))
theorem len_slash : (Str.ofString "/").length = 1 := by decide +kernel
end Sm
set_option Elab.async false
set_option linter.all false
set_option maxRecDepth 100000
set_option maxHeartbeats 2000000
namespace Dl
open PySem L2 PyProof.Rows
section
variable [Tabs]
variable {X : Cx} {B : Bs} {Γ : Gm} {e a b c o : Expr} {ap pos : Pos} {es : List Expr} {d d1 d2 : PyData} {ds : List PyData} {P : Out → Prop} {y z : Str}
/-! ### where a text stands in another -/
structure Ind (y z : Str) (i : Nat) : Prop where
  h : ∃ rest, Builtin.Str.occurrences y z 0 y.length 1 = i :: rest
theorem xe_index {i : Nat} (hb : Tt (Mb X o "index")) (hf : Tt (Mf X pos e [])) (hl : Tt ((ap.endLine == pos.line) = true)) (he : Tt (St1 X e [])) (hp : Tt (Pl1 X pos [])) (ho : Xp X B Γ o (.str y)) (ha : Xp X B Γ e (.str z)) (k : Ind y z i) :
    Xp X B Γ (.Call (.Attribute o "index" ap) [e] [] pos) (.int (i : Nat)) := by
  obtain ⟨rest, hk⟩ := k.h
  exact xp_m PySem.F.slot_str_index PySem.F.type_str_index mt_sindex hb.h hf.h hl.h he.h hp.h ho (xa_cons he.h ha xa_nil) fun H Hs xs s a Q q => by
    cases a with
    | cons a1 a2 =>
      cases a2; cases a1
      exact ⟨y, z, i, rest, rfl, rfl, hk, q _ H Hs (Gr.refl s) (.int _)⟩
/-! ### a list so many times -/
theorem DqAll.rep {K : PySem.W.Frag} {H : Hp} {xs : List V} (a : DqAll K H xs ds) : ∀ n : Nat, DqAll K H (List.replicate n xs).flatten (List.replicate n ds).flatten
  | 0 => .nil
  | n + 1 => by
    rw [List.replicate_succ, List.replicate_succ, List.flatten_cons, List.flatten_cons]
    exact a.app (DqAll.rep a n)
theorem xe_rep {n : Int} {p2 : Pos} (h : Xa X B Γ es ds) (hl : Tt (decide (ds.length ≤ 16777216) = true)) (hb : Xp X B Γ b (.int n)) (hn : Side (-1 ≤ n ∧ n ≤ 1000000)) (hz : Side (ds.length * n.toNat ≤ sizeLine)) :
    Xp X B Γ (.BinOp (.List es p2) .Mult b pos) (.list (List.replicate n.toNat ds).flatten) :=
  xp_l (xl_of (pe_op op_rep pe_u pe_u) fun H Hs σ E Q q => (xle_lst h hl) H Hs σ E _ fun p xs H1 Hs1 g1 n1 e1 s1 a1 => hb H1 Hs1 σ (E.grow g1) _ fun u H2 Hs2 g2 p2 => by
    have hn' := hn.h
    cases p2
    exact ⟨p, n, xs, rfl, rfl, g2.ext.lst e1, by omega, by omega, by rw [a1.length]; exact hz.h, fun r nr => dl_new (g1.trans g2) q nr (DqAll.rep (a1.mono g2.exs) _)⟩)
/-! a conditional expression whose side is known: hints for the walk -/
structure IfT : Prop where
  h : True
structure IfF : Prop where
  h : True
theorem xe_ifT {p : Bool} (_ : IfT) (h : Xt X B Γ c p) (hp : Side (p = true)) (ha : Xp X B Γ a d) : Xp X B Γ (.IfExp c a b pos) d := xp_if h (fun _ => ha) (fun z => absurd (hp.h.symm.trans z) (by decide))
theorem xe_ifF {p : Bool} (_ : IfF) (h : Xt X B Γ c p) (hp : Side (p = false)) (hb : Xp X B Γ b d) : Xp X B Γ (.IfExp c a b pos) d := xp_if h (fun z => absurd (hp.h.symm.trans z) (by decide)) (fun _ => hb)
end
end Dl
set_option Elab.async false
set_option linter.all false
set_option maxRecDepth 100000
set_option maxHeartbeats 2000000
/-! generator expressions under any, all: over texts, lists, tuples; the element read where the generator runs -/
namespace Dl
open PySem PySem.Spec PyProof.Rows L2
/-- a flat value's truth -/
def TruV (b : Bool) (y : Value) : Prop := y = .bool b ∨ ∃ (n : Int) (t : Tok), y = .int n t ∧ (n != 0) = b
theorem truthy_of {prog : Program} {w : World} {A : Around} {s : Shared} {b : Bool} {y : Value} {Q : Bool → Shared → Prop} {E : Value → Shared → Prop} (h : TruV b y) (q : Q b s) : wpAny (model prog w) A (truthy y) Q E s := by
  rcases h with rfl | ⟨n, t, rfl, rfl⟩
  · exact wpAny_truthy_bool q
  · exact PySem.P.truthy_int q
/-- what a value hands out, item by item, from the heap h on -/
def Src (P : Program) (w : World) (h : Heap) (xv : Value) (n : Nat) (F : Nat → Value → Prop) : Prop :=
  ∀ (A : Around) (s : Shared) (Q : Value → Shared → Prop) (E : Value → Shared → Prop), s.heap = h → A.handled = none →
    (∀ (o : Obj) (fp : List Addr) (St : Nat → Heap → Prop), (∀ b ∈ fp, b = h.objs.size ∨ ∃ (n : String) (o : Obj), h.get? b = some o ∧ o.cls = .type n) → (∀ A2 : Around, A2.handled = none → Walks P w A2 h.objs.size fp [h.objs.size] n F St) → St 0 (h.push o) →
      Q (.ref h.objs.size) { s with heap := h.push o }) → wpAny (model P w) A (pyIter xv) Q E s
section
variable {P : Program} {w : World} {h : Heap}
theorem src_str {x : Str} {t : Tok} : Src P w h (.str x t) x.cps.size (SignAt x) := by
  intro A s Q E e hA k
  subst e
  exact wpAny_pyIter_str fun o St W z => k o _ St (fun b hb => .inl (List.mem_singleton.mp hb)) W z
theorem src_list {l : Addr} {its : Array Value} (hl : h.IsList l its) : Src P w h (.ref l) its.size (fun i v => its[i]? = some v) := by
  intro A s Q E e hA k
  subst e
  have lt : l < s.heap.objs.size := let ⟨_, q, _⟩ := hl; Heap.lt_size q
  refine wpAny_pyIter_list hl (k _ [s.heap.objs.size, l] _ (fun b hb => ?_) (fun A2 h2 => Walks.list h2 _ l (Nat.ne_of_lt lt) its) ⟨⟨_, Heap.get?_push_size _ rfl, rfl, rfl⟩, ?_⟩)
  · simp only [List.mem_cons, List.not_mem_nil, or_false] at hb
    rcases hb with z | z
    · exact .inl z
    · obtain ⟨o, q, c, _⟩ := hl
      exact .inr ⟨_, o, by rw [z]; exact q, c⟩
  · obtain ⟨o, q, r⟩ := hl
    exact ⟨o, Heap.get?_push_of_some _ q, r⟩
theorem src_tup {l : Addr} {its : Array Value} (hl : h.IsTuple l its) : Src P w h (.ref l) its.size (fun i v => its[i]? = some v) := by
  intro A s Q E e hA k
  subst e
  have lt : l < s.heap.objs.size := let ⟨_, q, _⟩ := hl; Heap.lt_size q
  refine wpAny_pyIter_tuple hl (k _ [s.heap.objs.size, l] _ (fun b hb => ?_) (fun A2 h2 => Walks.tuple h2 _ l (Nat.ne_of_lt lt) its) ⟨⟨_, Heap.get?_push_size _ rfl, rfl, rfl⟩, ?_⟩)
  · simp only [List.mem_cons, List.not_mem_nil, or_false] at hb
    rcases hb with z | z
    · exact .inl z
    · obtain ⟨o, q, c, _⟩ := hl
      exact .inr ⟨_, o, by rw [z]; exact q, c⟩
  · obtain ⟨o, q, r⟩ := hl
    exact ⟨o, Heap.get?_push_of_some _ q, r⟩
end
/-- the element, where the generator runs: h1 the heap in which it was made, T the table -/
def GElt (X : Cx) (scope : Scope) (x : Str) (elt : Expr) (h1 : Heap) (T : Addr) (u : Value) (b : Bool) : Prop :=
  ∀ (C bi : Addr) (code : Value) (A2 : Around) (E2 : Value → Shared → Prop) (s2 : Shared) (m2 : Str → Option Value), A2.handled = none → A2.depth ≤ X.A.depth + 1 → A2.units ≤ X.A.units + 8 →
    s2.heap.Ns C m2 → m2 x = some u → (∀ a o, h1.get? a = some o → a ≠ T → s2.heap.get? a = some o) →
    wpAny (model X.prog X.w) A2 (eval elt (genEnv scope (cloFrom X.env.cells scope.names []) C code bi X.env)) (fun y s3 => TruV b y ∧ Keeps s2 s3) E2 s2
section
variable {X : Cx} {pins : List (Addr × Obj)} {σ : L2.St} {H : Hp} {s : Shared}
/-- the generator g, ready to be walked: n truths pb -/
def GRdy (X : Cx) (pins : List (Addr × Obj)) (σ : L2.St) (H1 : Hp) (T : Addr) (n : Nat) (pb : Nat → Bool) (g : Addr) (s5 : Shared) : Prop :=
  ∃ (fp wr : List Addr) (G : Array GenState → Array GenState → Prop) (F : Nat → Value → Prop) (St : Nat → Shared → Prop),
    WalksS X.prog X.w X.A.in1 g fp wr G n F St ∧ St 0 s5 ∧ TruthOf X.prog X.w X.A.in1 F pb ∧ ∀ s', Moved wr G s5 s' → ∃ H2, GxR.Tabbed T H1 H2 ∧ Inv X pins σ H2 s'
/-- the code object of the expression, from the table or new; then the built-ins -/
theorem gen_head {c T : Addr} {gpos : Pos} {scope : Scope} {ps : Array Value} {ob : Obj} {Q2 : Value → Addr → Shared → Prop} (TB : GxR.TabB X.base X.mg c T) (hcode : X.env.code = .ref c)
    (I : Inv X pins σ H s) (hT : H T = some (.tbl ps)) (ht : TriplesOk ps.toList)
    (k : ∀ (code : Value) (bi : Addr) (h3 : Heap) (tk : Nat) (more : Array Value), Heap.ExtBut T (s.heap.push ob) h3 → (s.heap.push ob).objs.size ≤ h3.objs.size → h3.get? T = some { cls := .none, data := .fields (ps ++ more) } → TriplesOk (ps ++ more).toList →
      Q2 code bi { s with heap := h3, toks := tk }) :
    wpAny (model X.prog X.w) X.A (genexprCode X.env gpos (X.env.qual ++ "<genexpr>") scope) (fun code s₃ => wpAny (model X.prog X.w) X.A (builtinsFor X.env.globals X.env.builtins) (fun bi s₄ => Q2 code bi s₄) X.xe s₃) X.xe { s with heap := s.heap.push ob } := by
  have tAt : s.heap.get? T = some { cls := .none, data := .fields ps } := I.hok T _ hT
  have tP : (s.heap.push ob).get? T = some { cls := .none, data := .fields ps } := Heap.get?_push_of_some _ tAt
  have head : PySem.W.CodeHd (s.heap.push ob) c T := TB.code.keeps fun b u e => Heap.get?_push_of_some _ (I.bk b u e)
  have blt : ∀ (code : Value) (h3 : Heap) (tk : Nat) (more : Array Value), Heap.ExtBut T (s.heap.push ob) h3 → (s.heap.push ob).objs.size ≤ h3.objs.size → h3.get? T = some { cls := .none, data := .fields (ps ++ more) } → TriplesOk (ps ++ more).toList →
      wpAny (model X.prog X.w) X.A (builtinsFor X.env.globals X.env.builtins) (fun bi s₄ => Q2 code bi s₄) X.xe { s with heap := h3, toks := tk } := by
    intro code h3 tk more hx hz h3T h3t
    obtain ⟨bm, ob2, b1, b2, b3, b4, b5, b6, b7, b8⟩ := TB.bm
    have gl : (s.heap.push ob).Ns mainGlobals X.mg := (I.mod.glob.keeps I.bk).push ob
    refine wpAny_builtinsFor (m := X.mg) ?_ b1 b2 (hx _ _ b4 (Heap.get?_push_of_some _ (I.bk _ _ b5))) b6 b7 b8 (k code _ h3 tk more hx hz h3T h3t)
    rw [I.ok.glob]
    exact gl.extBut hx TB.gP
  cases hf : codeAmong gpos ps.toList with
  | some cv =>
    refine wpAny_genexprCode_hit hcode (head.code tP ht) hf (blt cv (s.heap.push ob) s.toks #[] (Heap.ExtBut.refl _ _) (Nat.le_refl _) ?_ ?_)
    · rw [Array.append_empty]; exact tP
    · rw [Array.append_empty]; exact ht
  | none =>
    refine wpAny_genexprCodeX hcode (head.code tP ht) (head.tab tP) hf fun c2 h3 tk hx hge hlt hco _ htab _ => blt _ h3 tk _ hx (Nat.le_trans hge (Nat.le_of_lt hlt)) htab.2 ?_
    obtain ⟨_, _, _, _, _, _, _, _, _, _, _, _, _, _, _, _, _, _, _, trip, _⟩ := hco
    exact trip
/-- the generator made: what was held is held, but for the table that may have grown -/
theorem gen_mk {c T : Addr} {elt iter : Expr} {x : Str} {px gpos : Pos} {scope : Scope} {te : TE} {k : Nat} {Q2 : Value → Shared → Prop} {R : Nat → (Nat → Bool) → Hp → Prop} (hr : Room k X.A) (TB : GxR.TabB X.base X.mg c T) (hcode : X.env.code = .ref c)
    (S : GxR.GenS X.env scope x) (hi : PE X iter te) (hs : ∀ v, genFold iter X.env v = pure v) (I : Inv X pins σ H s)
    (h : te σ H fun v H1 => GxR.TabG H1 T ∧ ∀ (pins : List (Addr × Obj)) (u : Value) (s1 : Shared), RelV v u → Inv X pins σ H1 s1 → ∃ (n : Nat) (F : Nat → Value → Prop) (pb : Nat → Bool), Src X.prog X.w s1.heap u n F ∧ (∀ i y, F i y → GElt X scope x elt s1.heap T y (pb i)) ∧ R n pb H1)
    (hQ : ∀ n pb H1 g s5, R n pb H1 → GRdy X pins σ H1 T n pb g s5 → Q2 (.ref g) s5) :
    wpAny (model X.prog X.w) X.A (eval (.GeneratorExp elt [⟨.Name x px, iter, [], 0⟩] scope gpos) X.env) Q2 X.xe s := by
  have hd := hr.hd
  have dp := hr.dp
  refine wpAny_GeneratorExp_walksQD hd S.co (closure_ok S.free) S.cell S.dot S.loc S.kind (by omega) ?_ hs
  refine thn (hi.run pins s σ H _ I h) fun u s1 ⟨v, H1, I1, rv, ⟨ps, hT, ht⟩, q⟩ => ?_
  obtain ⟨n, F, pb, hsrc, hel, hR⟩ := q pins u s1 rv I1
  refine hsrc _ s1 _ _ rfl hd fun ob fp St hfp W hst => ?_
  have tAt : s1.heap.get? T = some { cls := .none, data := .fields ps } := I1.hok T _ hT
  have tlt : T < s1.heap.objs.size := Heap.lt_size tAt
  have lim : (s1.heap.push ob).NoLimit := I1.nolimit.push ob
  have slt : cStatics < s1.heap.objs.size := let ⟨_, z, _⟩ := I1.nolimit; z.lt
  have psz : (s1.heap.push ob).objs.size = s1.heap.objs.size + 1 := Heap.size_push ..
  have sT : cStatics ≠ T := fun e => by
    obtain ⟨_, ⟨o, _, _, ho, hdt, _⟩, _⟩ := I1.nolimit
    rw [e, tAt] at ho
    cases ho
    cases hdt
  refine ⟨lim, gen_head TB hcode I1 hT ht fun code bi h3 tk more hx hz h3T h3t => ?_⟩
  have k3 : ∀ b o, b ≠ T → s1.heap.get? b = some o → h3.get? b = some o := fun b o hb e => hx b o hb (Heap.get?_push_of_some _ e)
  have big : s1.heap.objs.size < h3.objs.size := Nat.lt_of_lt_of_le (by rw [psz]; exact Nat.lt_succ_self _) hz
  have below : ∀ b ∈ fp, b < h3.objs.size := fun b hb => by
    rcases hfp b hb with z | ⟨_, o, z, _⟩
    · rw [z]; exact big
    · exact Nat.lt_trans (Heap.lt_size z) big
  -- the iterator's own facts don't hang on the table
  have it0 : St 0 h3 := (W X.A hd).frame _ _ _ hst fun b hb o e => hx b o (fun z => by
    rcases hfp b hb with y | ⟨_, o2, y, cy⟩
    · rw [z] at y; exact absurd tlt (by rw [y]; exact Nat.lt_irrefl _)
    · rw [z, tAt] at y; cases y; cases cy) e
  refine ⟨s1.heap.objs.size, fp, [s1.heap.objs.size], n, F, St, fun _ => true, fun i y => TruV (pb i) y, rfl, W, it0, below, lim.extBut hx sT, ?_, fun href keeps => ⟨?_, ?_⟩, fun g h5 tk5 gs bare5 ltg sz5 keep5 W5 at5 => ?_⟩
  · intro z
    exact Nat.ne_of_lt slt (List.mem_singleton.mp z)
  · intro A2 E2 i v s2 m2 hA2 hD2 hU2 hF hn hm hk
    simp only [List.forIn_nil]
    exact wpAny_pure ⟨rfl, GxR.keeps_refl _⟩
  · intro A2 E2 i v s2 m2 hA2 hD2 hU2 hF htr hn hm hk
    refine wpAny_mono (hel i v hF _ bi code A2 E2 s2 m2 hA2 hD2 hU2 hn hm fun a o ha hne => ?_) (fun y s3 r => r) fun _ _ e => e
    have e3 := k3 a o hne ha
    refine hk a (List.mem_range.mpr (Heap.lt_size e3)) (fun z => ?_) o (keeps a o e3)
    rw [List.mem_singleton.mp z] at ha
    exact absurd (Heap.lt_size ha) (Nat.lt_irrefl _)
  · simp only [GxR.passing_true, List.length_range] at W5
    refine hQ n pb H1 g _ hR ⟨_, _, _, _, _, W5.in4_1, at5, fun j y sj Qj Ej hy hq => ?_, fun s' mv => ?_⟩
    · obtain ⟨i, hij, hv⟩ := hy
      obtain ⟨hj, ej⟩ := List.getElem?_eq_some_iff.mp hij
      rw [List.getElem_range] at ej
      subst ej
      exact truthy_of hv hq
    · have out : ∀ b o, s1.heap.get? b = some o → b ∉ h3.objs.size :: [s1.heap.objs.size] := fun b o e z => by
        have lb := Heap.lt_size e
        rcases List.mem_cons.mp z with z | z
        · rw [z] at lb; exact absurd (Nat.lt_trans lb big) (Nat.lt_irrefl _)
        · rw [List.mem_singleton.mp z] at lb; exact absurd lb (Nat.lt_irrefl _)
      have J := GxR.inv_tab (more := more) (h' := s'.heap) (g' := s'.gens) (d' := s'.drawn) (t' := s'.toks) I1 hT (fun b o hb e => mv.heap b o (out b o e) (keep5 b o (k3 b o hb e))) (mv.heap T _ (out T _ tAt) (keep5 T _ h3T)) (AllBare.movedS (I1.bare.push bare5) mv)
      rw [GxR.sh_eta s1 s' mv.os] at J
      exact ⟨_, ⟨⟨_, upd_same, h3t⟩, fun b hb => upd_ne hb⟩, J⟩
/-- any, all over a generator expression; f: what the truths come to -/
def tGen (X : Cx) (scope : Scope) (x : Str) (elt : Expr) (T : Addr) (f : List Nat → (Nat → Bool) → Bool) (te : TE) : TE := fun σ H Q => te σ H fun v H1 => GxR.TabG H1 T ∧ ∀ (pins : List (Addr × Obj)) (u : Value) (s1 : Shared), RelV v u → Inv X pins σ H1 s1 →
  ∃ (n : Nat) (F : Nat → Value → Prop) (pb : Nat → Bool), Src X.prog X.w s1.heap u n F ∧ (∀ i y, F i y → GElt X scope x elt s1.heap T y (pb i)) ∧ ∀ H2, GxR.Tabbed T H1 H2 → Q (.bl (f (List.range n) pb)) H2
theorem pe_gen {nm : Str} {f : List Nat → (Nat → Bool) → Bool} {c T : Addr} {elt iter : Expr} {x : Str} {px p pos gpos : Pos} {scope : Scope} {te : TE} {k : Nat} {bn : Value}
    (hr : Room k X.A) (hg : Gl X nm) (hm : X.mg nm = none) (hbn : bootBuiltins nm = some bn)
    (cw : ∀ (g : Addr) (s5 : Shared) (Q : Value → Shared → Prop), (∃ (fp wr : List Addr) (G : Array GenState → Array GenState → Prop) (n : Nat) (F : Nat → Value → Prop) (St : Nat → Shared → Prop) (pb : Nat → Bool),
      WalksS X.prog X.w X.A.in1 g fp wr G n F St ∧ St 0 s5 ∧ TruthOf X.prog X.w X.A.in1 F pb ∧ ∀ s', Moved wr G s5 s' → Q (.bool (f (List.range n) pb)) s') → wpAny (model X.prog X.w) X.A (call bn [.ref g]) Q X.xe s5)
    (TB : GxR.TabB X.base X.mg c T) (hcode : X.env.code = .ref c) (S : GxR.GenS X.env scope x) (hi : PE X iter te) (hs : ∀ v, genFold iter X.env v = pure v) (hn : nm ≠ "__name__") (hdb : (nm == ("__debug__" : Str)) = false)
    (hbb : ∃ id, bn = .builtin id)
    (he : starEach [.GeneratorExp elt [⟨.Name x px, iter, [], 0⟩] scope gpos] X.env = (false, eval (.GeneratorExp elt [⟨.Name x px, iter, [], 0⟩] scope gpos) X.env) :: starEach [] X.env) :
    PE X (.Call (.Name nm p) [.GeneratorExp elt [⟨.Name x px, iter, [], 0⟩] scope gpos] [] pos) (tGen X scope x elt T f te) := by
  obtain ⟨id, rfl⟩ := hbb
  refine ⟨fun pins s σ H Q I h => ?_⟩
  refine wpAny_Call_Name_kw (ld_blt I hg hm hbn ?_ hn hdb); refine PyProof.Rows.callWith_builtin1 ?_ he (by rfl)
  rw [he]
  show wpAny _ _ (spliced ((false, eval (.GeneratorExp elt [⟨.Name x px, iter, [], 0⟩] scope gpos) X.env) :: backTo pos (starEach [] X.env))) _ _ s
  refine Calls.spliced_cons (gen_mk (R := fun n pb H1 => ∀ H2, GxR.Tabbed T H1 H2 → Q (.bl (f (List.range n) pb)) H2) hr TB hcode S hi hs I h fun n pb H1 g s5 hR rdy => Calls.spliced_nil (cw g s5 _ ?_))
  obtain ⟨fp, wr, G, F, St, W, hst, htr, hI⟩ := rdy
  refine ⟨fp, wr, G, n, F, St, pb, W, hst, htr, fun s' mv => ?_⟩
  obtain ⟨H2, hT, J⟩ := hI s' mv
  exact ⟨.bl _, H2, J, rfl, hR H2 hT⟩
theorem boot_all : bootBuiltins "all" = some (.builtin "all") := by decide +kernel
/-- the truths of a list of data -/
def tabP (ds : List PyData) (p : PyData → Bool) (i : Nat) : Bool := (ds[i]?.map p).getD false
theorem range_tab (ds : List PyData) (p : PyData → Bool) : (List.range ds.length).map (tabP ds p) = ds.map p := by
  refine List.ext_getElem (by simp) fun i h1 h2 => ?_
  rw [List.length_map, List.length_range] at h1
  rw [List.getElem_map, List.getElem_map, List.getElem_range]
  unfold tabP
  rw [List.getElem?_eq_getElem h1]; rfl
theorem all_tab (ds : List PyData) (p : PyData → Bool) : (List.range ds.length).all (tabP ds p) = ds.all p := by
  have := congrArg (fun l => l.all id) (range_tab ds p)
  simpa [List.all_map] using this
theorem any_tab (ds : List PyData) (p : PyData → Bool) : (List.range ds.length).any (tabP ds p) = ds.any p := by
  have := congrArg (fun l => l.any id) (range_tab ds p)
  simpa [List.any_map] using this
theorem vals_at : ∀ {xs : List V} {us : List Value} {i : Nat} {u : Value}, Vals xs us → us[i]? = some u → ∃ x, xs[i]? = some x ∧ RelV x u
  | _, _, _, _, .nil, e => by simp at e
  | _, _, 0, _, .cons r _, e => by simp at e; subst e; exact ⟨_, rfl, r⟩
  | _, _, i + 1, u, .cons _ t, e => by
    obtain ⟨x, h1, h2⟩ := vals_at (i := i) (u := u) t (by simpa using e)
    exact ⟨x, by simpa using h1, h2⟩
end
section
variable [Tabs] {X : Cx} {B : Bs} {Γ : Gm}
/-- a table that has grown -/
theorem gr_tab {T : Addr} {H Hs H2 : Hp} (s : ∀ a o, Hs a = some o → H a = some o) (t : GxR.TabG Hs T) (g : GxR.Tabbed T H H2) : ∃ Hs2, Gr H Hs H2 Hs2 := by
  obtain ⟨ps, h1, h2⟩ := t
  obtain ⟨⟨qs, q1, q2⟩, r⟩ := g
  have hT := s T _ h1
  have ex : ∀ {A A2 : Hp}, A T = some (.tbl ps) → A2 T = some (.tbl qs) → (∀ b, b ≠ T → A2 b = A b) → Ext A A2 := fun {A A2} e1 e2 e3 a o ha => by
    by_cases hb : a = T
    · subst hb
      rw [e1] at ha
      cases ha
      exact .inr ⟨ps, qs, rfl, e2, fun _ => q2⟩
    · exact .inl (by rw [e3 a hb]; exact ha)
  refine ⟨upd Hs T (.tbl qs), ex hT q1 r, ex h1 upd_same fun b hb => upd_ne hb, fun a o ha => ?_, fun a ha => .inl fun z => ?_⟩
  · by_cases hb : a = T
    · subst hb; rw [upd_same] at ha; rw [q1]; exact ha
    · rw [upd_ne hb] at ha; rw [r a hb]; exact s a o ha
  · by_cases hb : a = T
    · subst hb; rw [h1] at z; cases z
    · rw [upd_ne hb] at ha; exact ha z
/-- the element's truth, for each datum -/
def XElt (X : Cx) (B : Bs) (Γ : Gm) (scope : Scope) (x : Str) (elt : Expr) (T : Addr) (ds : List PyData) (p : PyData → Bool) : Prop :=
  ∀ (pins : List (Addr × Obj)) (σ : L2.St) (H Hs : Hp) (s1 : Shared), Inv X pins σ H s1 → Enb X.K B H Hs σ Γ → ∀ (d : PyData) (v : V) (u : Value), d ∈ ds → Dq X.K Hs v d → RelV v u → GElt X scope x elt s1.heap T u (p d)
theorem xp_gen {nm : Str} {f : List Nat → (Nat → Bool) → Bool} {T : Addr} {elt iter : Expr} {x : Str} {px q pos gpos : Pos} {scope : Scope} {d : PyData} {ds : List PyData} {p : PyData → Bool}
    (ts : Tabs.ts T) (pe : ∀ te, PE X iter te → PE X (.Call (.Name nm q) [.GeneratorExp elt [⟨.Name x px, iter, [], 0⟩] scope gpos] [] pos) (tGen X scope x elt T f te))
    (h : Xp X B Γ iter d) (k : ItrD d ds) (hel : XElt X B Γ scope x elt T ds p) : Xp X B Γ (.Call (.Name nm q) [.GeneratorExp elt [⟨.Name x px, iter, [], 0⟩] scope gpos] [] pos) (.bool (f (List.range ds.length) (tabP ds p))) := fun H Hs σ E Q hQ => by
  refine ⟨_, pe _ pe_u, h H Hs σ E _ fun v H1 Hs1 g1 p1 => ?_⟩
  have E1 := E.grow g1
  have tab := E1.tab T ts
  refine ⟨let ⟨ps, a, b⟩ := tab; ⟨ps, g1.sub _ _ a, b⟩, fun pins u s1 rv I1 => ?_⟩
  have fin : ∀ n, n = ds.length → ∀ H2, GxR.Tabbed T H1 H2 → Q (.bl (f (List.range n) (tabP ds p))) H2 := fun n en H2 g => by
    subst en
    obtain ⟨Hs2, g2⟩ := gr_tab g1.sub tab g
    exact hQ _ H2 Hs2 (g1.trans g2) (.bl _)
  have at_p : ∀ {i : Nat} {e : PyData}, ds[i]? = some e → p e = tabP ds p i := fun {i e} he => by unfold tabP; rw [he]; rfl
  cases k with
  | str =>
    rename_i y
    cases p1
    obtain ⟨t, rfl⟩ := _root_.id rv
    refine ⟨_, _, _, src_str, fun i z hz => ?_, fin _ (by unfold signsD; rw [List.length_map, Array.length_toList])⟩
    obtain ⟨cc, t2, hc, rfl⟩ := hz
    have hd : (signsD y)[i]? = some (.str ⟨#[cc]⟩) := by unfold signsD; rw [List.getElem?_map, Array.getElem?_toList, hc]; rfl
    rw [← at_p hd]
    exact hel pins σ H1 Hs1 s1 I1 E1 _ (.str ⟨#[cc]⟩) _ (List.mem_of_getElem? hd) (.str _) ⟨t2, rfl⟩
  | lst =>
    cases p1 with
    | lst hq ha =>
      obtain rfl : u = _ := rv
      obtain ⟨its, vals, ⟨o, m, e1, e2, e3, e4⟩, _⟩ := I1.list (sub_l g1.sub hq)
      refine ⟨_, _, _, src_list ⟨o, e1, e2, m, e4⟩, fun i z hz => ?_, fin _ (by rw [List.size_toArray, ← vals.length, ha.length])⟩
      obtain ⟨w, hw, rw'⟩ := vals_at vals (by simpa using hz)
      obtain ⟨e, he, pe⟩ := ha.getV hw
      rw [← at_p he]
      exact hel pins σ H1 Hs1 s1 I1 E1 e w z (List.mem_of_getElem? he) pe rw'
  | tup =>
    cases p1 with
    | tup hq ha =>
      obtain rfl : u = _ := rv
      obtain ⟨its, vals, ⟨o, e1, e2, m, e4⟩, _⟩ := I1.tuple (sub_t g1.sub hq)
      refine ⟨_, _, _, src_tup ⟨o, e1, e2, m, e4⟩, fun i z hz => ?_, fin _ (by rw [List.size_toArray, ← vals.length, ha.length])⟩
      obtain ⟨w, hw, rw'⟩ := vals_at vals (by simpa using hz)
      obtain ⟨e, he, pe⟩ := ha.getV hw
      rw [← at_p he]
      exact hel pins σ H1 Hs1 s1 I1 E1 e w z (List.mem_of_getElem? he) pe rw'
/-- what a def's generator expression wants -/
structure Gx (X : Cx) (c T : Addr) : Prop where
  tb : GxR.TabB X.base X.mg c T
  ts : Tabs.ts T
  code : X.env.code = .ref c
  room : ∃ k, Room k X.A
theorem xe_all {c T : Addr} {elt iter : Expr} {x : Str} {px q pos gpos : Pos} {scope : Scope} {d : PyData} {ds : List PyData} {p : PyData → Bool} (G : Gx X c T) (hb : Bi X "all") (S : Tt (GxR.GenS X.env scope x)) (hs : Tt (∀ v, genFold iter X.env v = pure v))
    (he : Tt (St1 X (.GeneratorExp elt [⟨.Name x px, iter, [], 0⟩] scope gpos) [])) (h : Xp X B Γ iter d) (k : ItrD d ds) (hel : XElt X B Γ scope x elt T ds p) :
    Xp X B Γ (.Call (.Name "all" q) [.GeneratorExp elt [⟨.Name x px, iter, [], 0⟩] scope gpos] [] pos) (.bool (ds.all p)) := by
  obtain ⟨j, hr⟩ := G.room
  rw [← all_tab]
  exact xp_gen (f := fun l q => l.all q) G.ts (fun te hi => pe_gen hr hb.gl hb.no boot_all (fun g s5 Q ⟨fp, wr, G2, n, F, Sf, pb, W, hst, htr, hI⟩ => call_all_walkS (W.self 0 _ _ _ hst ⟨g, fp, wr, G2, n, F, Sf, pb, rfl, W, hst, htr, hI⟩)) G.tb G.code S.h hi hs.h (by decide) (by decide +kernel) ⟨_, rfl⟩ he.h) h k hel
theorem xe_anyG {c T : Addr} {elt iter : Expr} {x : Str} {px q pos gpos : Pos} {scope : Scope} {d : PyData} {ds : List PyData} {p : PyData → Bool} (G : Gx X c T) (hb : Bi X "any") (S : Tt (GxR.GenS X.env scope x)) (hs : Tt (∀ v, genFold iter X.env v = pure v))
    (he : Tt (St1 X (.GeneratorExp elt [⟨.Name x px, iter, [], 0⟩] scope gpos) [])) (h : Xp X B Γ iter d) (k : ItrD d ds) (hel : XElt X B Γ scope x elt T ds p) :
    Xp X B Γ (.Call (.Name "any" q) [.GeneratorExp elt [⟨.Name x px, iter, [], 0⟩] scope gpos] [] pos) (.bool (ds.any p)) := by
  obtain ⟨j, hr⟩ := G.room
  rw [← any_tab]
  exact xp_gen (f := fun l q => l.any q) G.ts (fun te hi => pe_gen hr hb.gl hb.no boot_any (fun g s5 Q ⟨fp, wr, G2, n, F, Sf, pb, W, hst, htr, hI⟩ => call_any_walkS (W.self 0 _ _ _ hst ⟨g, fp, wr, G2, n, F, Sf, pb, rfl, W, hst, htr, hI⟩)) G.tb G.code S.h hi hs.h (by decide) (by decide +kernel) ⟨_, rfl⟩ he.h) h k hel
end
/-- a generator's scope without captured names -/
def genB (scope : Scope) (x : Str) : Bool := (match scope.kind with | .function => true | _ => false) && !scope.isCoroutine && (scope.names.all fun y => match y.2 with | .cell => false | .free => false | _ => true) && scope.names.lookup (".0" : Str) == some NameKind.local && scope.names.lookup x == some NameKind.local
theorem genS_plain {env : Env} {scope : Scope} {x : Str} (h : genB scope x = true) : Tt (GxR.GenS env scope x) := by
  unfold genB at h
  simp only [Bool.and_eq_true, List.all_eq_true, beq_iff_eq, Bool.not_eq_true'] at h
  obtain ⟨⟨⟨⟨h1, h2⟩, h3⟩, h4⟩, h5⟩ := h
  refine ⟨⟨?_, h2, fun y hy e => ?_, h4, h5, fun y hy e => ?_⟩⟩
  · split at h1
    · assumption
    · cases h1
  · have := h3 y hy
    rw [e] at this
    cases this
  · have := h3 y hy
    rw [e] at this
    cases this
/-! ### what is read where the generator runs -/
theorem keeps_tr {a b c : Shared} (h : Keeps a b) (k : Keeps b c) : Keeps a c := by
  obtain ⟨h1, t1, rfl, k1⟩ := h
  obtain ⟨h2, t2, rfl, k2⟩ := k
  exact ⟨h2, t2, rfl, fun b o e => k2 b o (k1 b o e)⟩
/-- the generator's frame, at the heap h -/
structure GFr (X : Cx) (scope : Scope) (T : Addr) (h1 : Heap) (C : Addr) (m : Str → Option Value) (h : Heap) : Prop where
  ns : h.Ns C m
  keep : ∀ a o, h1.get? a = some o → a ≠ T → h.get? a = some o
theorem GFr.on {X : Cx} {scope : Scope} {T C : Addr} {h1 : Heap} {m : Str → Option Value} {s s' : Shared} (g : GFr X scope T h1 C m s.heap) (k : Keeps s s') : GFr X scope T h1 C m s'.heap := by
  obtain ⟨h2, t, rfl, k2⟩ := k
  exact ⟨g.ns.keeps k2, fun a o e n => k2 a o (g.keep a o e n)⟩
/-- an expression read in the generator's frame -/
def Ge (X : Cx) (scope : Scope) (T : Addr) (h1 : Heap) (C : Addr) (cenv : Env) (m : Str → Option Value) (A2 : Around) (e : Expr) (φ : Value → Prop) : Prop :=
  ∀ (E2 : Value → Shared → Prop) (s : Shared), GFr X scope T h1 C m s.heap → wpAny (model X.prog X.w) A2 (eval e cenv) (fun y s' => φ y ∧ Keeps s s') E2 s
section
variable {X : Cx} {scope : Scope} {T C : Addr} {h1 : Heap} {cenv : Env} {m : Str → Option Value} {A2 : Around} {e a b : Expr} {φ ψ χ : Value → Prop} {pos : Pos} {x : Str} {u : Value}
theorem ge_local (hk : cenv.scope.kind = .function) (hl : cenv.kindOf x = some .local) (hC : cenv.locals = C) (hm : m x = some u) (hd : (x == ("__debug__" : Str)) = false) : Ge X scope T h1 C cenv m A2 (.Name x pos) (· = u) := fun E2 s g => by
  refine wpAny_Name (wpAny_loadName_local hk hl ?_ hm ⟨rfl, GxR.keeps_refl s⟩) hd
  rw [hC]
  exact g.ns
theorem ge_global (hk : cenv.scope.kind = .function) (hl : cenv.kindOf x = some .globalImplicit) (hg : cenv.globals = mainGlobals) (hn : h1.Ns mainGlobals X.mg) (hT : mainGlobals ≠ T) (hm : X.mg x = some u) (hd : (x == ("__debug__" : Str)) = false) : Ge X scope T h1 C cenv m A2 (.Name x pos) (· = u) := fun E2 s g => by
  refine Calls.Name_function_global hk hl (Calls.loadGlobal_global (mg := X.mg) ?_ hm ⟨rfl, GxR.keeps_refl s⟩) hd
  rw [hg]
  exact hn.at' fun o ho => g.keep _ _ ho hT
theorem ge_free {c : Addr} (hk : cenv.scope.kind = .function) (hl : cenv.kindOf x = some .free) (hc : cenv.cells.lookup x = some c) (hv : h1.IsCell c (some u)) (hT : c ≠ T) (hn : (x == ("__classdict__" : Str)) = false) (hd : (x == ("__debug__" : Str)) = false) : Ge X scope T h1 C cenv m A2 (.Name x pos) (· = u) := fun E2 s g => by
  refine wpAny_Name (wpAny_loadName_free hk hl hc ?_ ⟨rfl, GxR.keeps_refl s⟩ hn) hd
  obtain ⟨o, q, r⟩ := hv
  exact ⟨o, g.keep _ _ q hT, r⟩
theorem ge_cmp {op : CmpOp} (ha : Ge X scope T h1 C cenv m A2 a φ) (hb : Ge X scope T h1 C cenv m A2 b ψ) (hm : behindInMarks op b = false)
    (k : ∀ (E2 : Value → Shared → Prop) u v s, φ u → ψ v → GFr X scope T h1 C m s.heap → wpAny (model X.prog X.w) A2 (compareOp op u v) (fun y s' => χ y ∧ Keeps s s') E2 s) : Ge X scope T h1 C cenv m A2 (.Compare a [op] [b] pos) χ := fun E2 s g => by
  refine wpAny_Compare1 (thn (ha E2 s g) fun u s1 ⟨hu, k1⟩ => thn (hb E2 s1 (g.on k1)) fun v s2 ⟨hv, k2⟩ => ?_) hm
  exact thn (k E2 u v s2 hu hv ((g.on k1).on k2)) fun y s3 ⟨hy, k3⟩ => ⟨hy, keeps_tr (keeps_tr k1 k2) k3⟩
theorem ge_bin {op : Operator} (ha : Ge X scope T h1 C cenv m A2 a φ) (hb : Ge X scope T h1 C cenv m A2 b ψ)
    (k : ∀ (E2 : Value → Shared → Prop) u v s, φ u → ψ v → GFr X scope T h1 C m s.heap → wpAny (model X.prog X.w) A2 (binaryOp op u v) (fun y s' => χ y ∧ Keeps s s') E2 s) : Ge X scope T h1 C cenv m A2 (.BinOp a op b pos) χ := fun E2 s g => by
  refine wpAny_BinOp (thn (ha E2 s g) fun u s1 ⟨hu, k1⟩ => thn (hb E2 s1 (g.on k1)) fun v s2 ⟨hv, k2⟩ => ?_)
  exact thn (k E2 u v s2 hu hv ((g.on k1).on k2)) fun y s3 ⟨hy, k3⟩ => ⟨hy, keeps_tr (keeps_tr k1 k2) k3⟩
end
/-- x in a text of the module, x a sign -/
theorem el_inG [Tabs] {X : Cx} {B : Bs} {Γ : Gm} {c T : Addr} {scope : Scope} {x nm z : Str} {y : Str} {p1 p2 p3 : Pos} (G : Gx X c T) (S : Tt (GxR.GenS X.env scope x)) (hx : Tt ((x == ("__debug__" : Str)) = false)) (hmk : Tt (behindInMarks .In (.Name nm p2) = false)) (hl : Tt (scope.names.lookup nm = some .globalImplicit)) (k : Cn X nm (.str z)) {p : PyData → Bool} (hp : ∀ c, c ∈ y.cps.toList → p (.str ⟨#[c]⟩) = decide (c ∈ z.cps.toList)) :
    XElt X B Γ scope x (.Compare (.Name x p1) [.In] [.Name nm p2] p3) T (signsD y) p := by
  intro pins σ H Hs s1 I E d v u hd hv ru
  obtain ⟨cc, hc, rfl⟩ : ∃ cc, cc ∈ y.cps.toList ∧ (.str ⟨#[cc]⟩ : PyData) = d := by
    unfold signsD at hd
    obtain ⟨cc, h1, h2⟩ := List.mem_map.mp hd
    exact ⟨cc, h1, h2⟩
  obtain ⟨ug, vg, hm, rg, dg⟩ := k.ex
  have z1 := dg Hs
  cases hv
  obtain ⟨t, rfl⟩ := _root_.id ru
  intro C bi code A2 E2 s2 m2 _ _ _ hn hm2 hk
  rw [hp cc hc]
  cases z1
  obtain ⟨t2, rfl⟩ := _root_.id rg
  have fr : GFr X scope T s1.heap C m2 s2.heap := ⟨hn, hk⟩
  have a1 : Ge X scope T s1.heap C (genEnv scope (cloFrom X.env.cells scope.names []) C code bi X.env) m2 A2 (.Name x p1) (· = Value.str ⟨#[cc]⟩ t) := ge_local S.h.kind S.h.loc rfl hm2 hx.h
  have a2 : Ge X scope T s1.heap C (genEnv scope (cloFrom X.env.cells scope.names []) C code bi X.env) m2 A2 (.Name nm p2) (· = Value.str z t2) := ge_global S.h.kind hl.h I.ok.glob (I.mod.glob.keeps I.bk) G.tb.gP hm k.db
  refine thn (ge_cmp (χ := (· = Value.bool (decide (cc ∈ z.cps.toList)))) a1 a2 hmk.h (fun E3 u1 v1 s h1 h2 _ => ?_) E2 s2 fr) fun w s3 ⟨h3, h4⟩ => ⟨.inl h3, h4⟩
  subst h1
  subst h2
  exact PyProof.Rows.in_str ⟨congrArg Value.bool (PySem.StrLaws.found_one z cc), GxR.keeps_refl s⟩
/-! ### a def whose code object is known -/
section
variable [Tabs] {P : Program} {w : World} {K : PySem.W.Frag} {mg : Str → Option Value} {base : Heap}
structure FunC (K : PySem.W.Frag) (x qual : Str) (st : Stmt) (f : Addr) (fd : FuncData) (cdv : Value) : Prop where
  ex : ∃ (oc : Value) (od : Option Addr) (kV doc pm : Value) (an : Option Addr) (ct : Value) (osl : Array (Option Value)),
    fd = PySem.W.fnOf x qual (defArgs st) (defBody st) (defScope st) .none kV doc pm an cdv ct ∧ K.lookup f = some ⟨oc, od, .func fd, osl⟩ ∧ PySem.W.codeIn K cdv qual = true
  kp : PySem.W.keepIn K (.ref f) = true
theorem FunC.fn {x qual : Str} {st : Stmt} {f : Addr} {fd : FuncData} {cdv : Value} (F : FunC K x qual st f fd cdv) : Fun K x qual st f fd := by
  obtain ⟨oc, od, kV, doc, pm, an, ct, osl, e, l, c⟩ := F.ex
  exact ⟨⟨oc, od, kV, doc, pm, an, cdv, ct, osl, e, l, c⟩, F.kp⟩
theorem func_mk {x qual : Str} {st : Stmt} {f : Addr} {oc : Value} {od an : Option Addr} {osl : Array (Option Value)} {kV doc pm cdv ct : Value} (l : K.lookup f = some ⟨oc, od, .func (PySem.W.fnOf x qual (defArgs st) (defBody st) (defScope st) .none kV doc pm an cdv ct), osl⟩)
    (c : PySem.W.codeIn K cdv qual = true) (k : PySem.W.keepIn K (.ref f) = true) : FunC K x qual st f (PySem.W.fnOf x qual (defArgs st) (defBody st) (defScope st) .none kV doc pm an cdv ct) cdv := ⟨⟨oc, od, kV, doc, pm, an, ct, osl, rfl, l, c⟩, k⟩
theorem fn_okG {x qual : Str} {st : Stmt} {f : Addr} {fd : FuncData} {cdv : Value} {N ps : List Str} {k : Nat} {R : List PyData → PyData → Prop} (F : FunC K x qual st f fd cdv) (S : FnScope N ps (defScope st)) (len : ∀ ds d, R ds d → ds.length = ps.length)
    (body : ∀ (A : Around) (outer : List Env) (s : Shared) (H : Hp) (E : XK) (B : Bs) (ds : List PyData) (d : PyData), Room k (Xc P w K mg base N qual st f cdv A outer s H E).A → R ds d → Xb (Xc P w K mg base N qual st f cdv A outer s H E) B (startG N ds) (defBody st) (RetP d)) :
    FnOk P w K mg base CX0 (k + 1) f fd ps (spR K R) := by
  obtain ⟨oc, od, kV, doc, pm, an, ct, osl, rfl, l, c⟩ := F.ex
  refine fn_of l c S (fun vs H Q E h => ?_) fun A outer s H vs Q E hr h => ?_
  · obtain ⟨ds, d, Hs, _, _, a, hR, _⟩ := h
    rw [a.length]
    exact len ds d hR
  · obtain ⟨ds, d, Hs, hsub, htb, a, hR, q⟩ := h
    refine ⟨_, (pb_u (X := Xc P w K mg base N qual st f cdv A outer s H E)).nox, body A outer s H E ⟨H, Hs, Hs⟩ ds d hr hR _ H Hs (L2.start N vs) (en_start hsub htb a) fun o ho => ?_⟩
    rcases ho with rfl | ⟨rfl, Γ, rfl⟩
    · exact fun v H' Hs' g p => q v H' Hs' g p
    · exact fun H' Hs' σ' E' => q .non H' Hs' E'.gr .non
end
/-! ### the end of a law whose defs hold generator expressions -/
/-- what is known at the head of the tables of the defs -/
def TabsAtHead (q : Program) (K : PySem.W.Frag) (h : Heap) : Prop := ∀ (x : Str) (d : DefRec) (c T : Addr), (recsOf q).find? (fun e => e.name == x) = some d → PySem.W.tabIn K x = some (c, T) → PySem.W.CodeHd h c T ∧ h.get? T = some { cls := .none, data := .fields #[] }
theorem walk_ofTabs {l : PySem.W.OpenLaw} {n k : Nat} {q : Program} {loose : List Str} {XP : (Str → Option Value) → Heap → Prop} {YP : World → Heap → Prop} {d : DefRec} {K : Params → PySem.W.Frag} {CX : World → CXT} {x : Str} (hn : l.most = some n) (hn2 : n ≤ sizeLine) (hdf : d.params.defaults = [])
    (hr : Room k callerA) (hY : ∀ (w : World) (h : Heap), YP w h → (K w.params).In h)
    (F : ∀ (w : World) (mg : Str → Option Value) (fa : Addr) (h : Heap), YP w h → (K w.params).In h → h.Ns mainGlobals mg → mg d.name = some (.ref fa) → TabsAtHead q (K w.params) h → LamX.LawAtS l w (K w.params) (CX w) k n x mg fa h)
    (hCX : ∀ (w : World) (H : Hp) (s : Shared) (e : Value) (s' : Shared), CX w [] H s (fun _ _ _ => False) e s' → False) : PySem.W.WalkO q loose XP YP l.row.toRowW d [] (fun f vs => PySem.call f vs) := by
  refine Att.attach_callB hn hdf fun w s₀ s₁ mg mb fa o pm cd doc a vs ns G Y ho hd hcd hmg hobj hints hlen hbits hg => ?_
  have inK := hY w _ Y
  obtain ⟨fd, cs, sp, t1, t2, t3, t4, t5, t6⟩ := F w mg fa _ Y inK G.T.g hmg fun x d c T hx ht => PySem.W.tab_of G.T inK hx ht
  exact LamX.law_callTs inK G.T.g G.T.b G.T.builtins G.T.nolimit hg t1 t2 t3 G.T.bmain hobj hints (Nat.le_trans hlen hn2) hr t6 t4 (fun H b1 b2 => t5 H a ns hlen hbits b1 b2) fun H e s' => hCX w H s₁ e s'
/-! ### a list of one's own, lent to a test -/
section
variable [Tabs] {X : Cx} {B : Bs} {Γ : Gm} {ds : List PyData} {i : Nat} {b : Bool}
theorem gr_cut {H Hs Hs1 H2 Hs2 : Hp} (x : Ext Hs Hs1) (g : Gr H Hs1 H2 Hs2) : ∃ Hs3, Gr H Hs H2 Hs3 := by
  refine ⟨fun a => if Hs a = none then none else Hs2 a, g.ext, fun a o ha => ?_, fun a o ha => ?_, fun a ha => .inl fun z => ha (if_pos z)⟩
  · have n : ¬ Hs a = none := by rw [ha]; exact Option.some_ne_none _
    rcases (x.trans g.exs) a o ha with h | ⟨ps, qs, e, h, t⟩
    · exact .inl ((if_neg n).trans h)
    · exact .inr ⟨ps, qs, e, (if_neg n).trans h, t⟩
  · have ha' : (if Hs a = none then none else Hs2 a) = some o := ha
    split at ha'
    · cases ha'
    · exact g.sub a o ha'
theorem dt_loan {K : PySem.W.Frag} {t : TT} (hi : Γ[i]? = some (.ow ds)) (h : DT K B t (Γ.set i (.sh (.list ds))) b) : DT K B t Γ b := fun H Hs σ E Q q => by
  obtain ⟨Hs1, _, x, E1⟩ := E.free hi
  exact h H Hs1 σ E1 Q fun H2 Hs2 g2 => by
    obtain ⟨Hs3, g3⟩ := gr_cut x g2
    exact q H2 Hs3 g3
theorem xt_loan {e : Expr} (hi : Tt (Γ[i]? = some (.ow ds))) (h : Xt X B (Γ.set i (.sh (.list ds))) e b) : Xt X B Γ e b := dt_loan hi.h h
end
/-! ### a module's constant that is a tuple of texts -/
def strsV : List Value → Option (List Str)
  | [] => some []
  | .str x _ :: r => (strsV r).map (x :: ·)
  | _ :: _ => none
theorem strsV_ok : ∀ {l : List Value} {ys : List Str}, strsV l = some ys → Vals (ys.map V.str) l
  | [], ys, h => by cases h; exact .nil
  | .str x t :: r, ys, h => by
    cases e : strsV r with
    | none => unfold strsV at h; rw [e] at h; cases h
    | some zs =>
      unfold strsV at h
      rw [e] at h
      cases h
      exact .cons ⟨t, rfl⟩ (strsV_ok e)
  | .none :: _, _, h => nomatch h
  | .bool _ :: _, _, h => nomatch h
  | .int _ _ :: _, _, h => nomatch h
  | .float _ _ :: _, _, h => nomatch h
  | .bytes _ _ :: _, _, h => nomatch h
  | .ref _ :: _, _, h => nomatch h
  | .type _ :: _, _, h => nomatch h
  | .builtin _ :: _, _, h => nomatch h
theorem cnm_strs {K : PySem.W.Frag} {mg : Str → Option Value} {x : Str} {a : Addr} {od : Option Addr} {its : Array Value} {n : Nat} {sl : Array (Option Value)} {ys : List Str} (hz : mg x = some (.ref a)) (lk : K.lookup a = some ⟨.type "tuple", od, .seq its n, sl⟩) (hv : strsV its.toList = some ys)
    (hs : ys.length ≤ 1000) (db : (x == ("__debug__" : Str)) = false) : CnM K mg x (.tuple (ys.map .str)) := by
  have v := strsV_ok hv
  refine ⟨⟨_, .ref a, hz, rfl, fun H => .tup (.inr ⟨_, its, n, lk, rfl, rfl, ?_, v⟩) (DqAll.strs ys)⟩, db⟩
  have e : ys.length = its.size := by simpa using v.length
  exact side_size (by omega)
theorem tabs_nil {T : Addr} {H : Hp} (h : H T = some (.tbl #[])) : GxR.TabG H T := ⟨#[], h, by trivial⟩
theorem tab_in {K : PySem.W.Frag} {x : Str} {f c T : Addr} {oc e : Value} {od dd : Option Addr} {fd : FuncData} {s1 s2 : Array (Option Value)} {vs : Array Value} (a : PySem.W.nsIn K mainGlobals x = some (some (.ref f))) (l : K.lookup f = some ⟨oc, od, .func fd, s1⟩) (ce : fd.code = .ref c)
    (lc : K.lookup c = some ⟨e, dd, .fields vs, s2⟩) (v : vs[11]? = some (.ref T)) : PySem.W.tabIn K x = some (c, T) := by
  unfold PySem.W.tabIn
  rw [a]
  show (match K.lookup f with | some ⟨_, _, .func fd, _⟩ => _ | _ => none) = _
  rw [l]
  show (match fd.code with | .ref c => _ | _ => none) = _
  rw [ce]
  show (match K.lookup c with | some ⟨_, _, .fields vs, _⟩ => _ | _ => none) = _
  rw [lc]
  show (match (vs[11]? : Option Value) with | some (.ref P) => _ | _ => none) = _
  rw [v]
end Dl
set_option Elab.async false
set_option linter.all false
set_option maxRecDepth 100000
set_option maxHeartbeats 2000000
namespace Sm
open PySem L2 Dl PySem.NumText TL
theorem par_none : ∀ (l acc : List Nat), 47 ∉ l → par [47] acc l = none := fun l => by
  induction l with
  | nil => intro acc _; rfl
  | cons c r ih =>
    intro acc h
    unfold par
    rw [if_neg]
    · exact ih _ fun z => h (List.mem_cons_of_mem _ z)
    · intro z
      have : c = 47 := by
        simp only [pre] at z
        simpa using z.symm
      exact h (by rw [this]; exact List.mem_cons_self)
theorem foldl_glue (g : Array Nat) : ∀ (l : List Str) (i x : Array Nat), l.foldl (fun acc (p : Str) => acc ++ g ++ p.cps) (i ++ x) = i ++ l.foldl (fun acc (p : Str) => acc ++ g ++ p.cps) x := fun l => by
  induction l with
  | nil => intro i x; rfl
  | cons c r ih =>
    intro i x
    rw [List.foldl_cons, List.foldl_cons, ← ih]
    simp only [Array.append_assoc]
theorem join_one (s a : Str) : Txt.join s [a] = a := rfl
theorem join_cons (s a b : Str) (r : List Str) : Txt.join s (a :: b :: r) = a ++ s ++ Txt.join s (b :: r) := by
  show (⟨(b :: r).foldl (fun acc (p : Str) => acc ++ s.cps ++ p.cps) a.cps⟩ : Str) = ⟨a.cps ++ s.cps ++ r.foldl (fun acc (p : Str) => acc ++ s.cps ++ p.cps) b.cps⟩
  rw [List.foldl_cons, foldl_glue]
theorem join_two (s : Str) : ∀ l : List Str, l ≠ [] → Txt.join s l = Str.join s l := fun l => by
  induction l with
  | nil => intro h; exact absurd rfl h
  | cons a t ih =>
    intro _
    cases t with
    | nil => rfl
    | cons b r =>
      rw [join_cons, ih (by simp)]
      rfl
theorem join_len (s : Str) : ∀ (r : List Str) (b : Str), (Txt.join s (b :: r)).length = ((b :: r).map (fun x => x.length)).sum + r.length * s.length := fun r => by
  induction r with
  | nil => intro b; simp [join_one]
  | cons c r ih =>
    intro b
    rw [join_cons, Str.length_append, Str.length_append, ih c]
    simp only [List.map_cons, List.sum_cons, List.length_cons, Nat.add_mul, Nat.one_mul]
    omega
theorem slash_one : Str.ofString "/" = ⟨#[47]⟩ := str_eq (show (Str.ofString "/").cps.toList = [47] by decide +kernel)
theorem split_cases (y : Str) : (Txt.split y (Str.ofString "/") = [y] ∧ Part y (Str.ofString "/") y (Str.ofString "") (Str.ofString "")) ∨
    ∃ a b r, Txt.split y (Str.ofString "/") = a :: b :: r ∧ y = a ++ Str.ofString "/" ++ Txt.join (Str.ofString "/") (b :: r) ∧ Part y (Str.ofString "/") a (Str.ofString "/") (Txt.join (Str.ofString "/") (b :: r)) := by
  have hj : Txt.join (Str.ofString "/") (Txt.split y (Str.ofString "/")) = y := (join_two _ _ (fun z => by have := PyProof.Rows.split_pos y (Str.ofString "/"); rw [z] at this; exact absurd this (by decide))).trans (StrLaws.join_split y (Str.ofString "/"))
  have hf := fun p hp => StrLaws.split_free y 47 p (by rw [← slash_one]; exact hp)
  have hp := PyProof.Rows.split_pos y (Str.ofString "/")
  cases hs : Txt.split y (Str.ofString "/") with
  | nil => rw [hs] at hp; exact absurd hp (by decide)
  | cons a t =>
    cases t with
    | nil =>
      rw [hs] at hj hf
      have ea : a = y := by
        have : Txt.join (Str.ofString "/") [a] = a := by
          exact join_one _ _
        exact this.symm.trans hj
      subst ea
      refine .inl ⟨rfl, ⟨?_⟩⟩
      rw [partition_par a "/" (by rw [slash_signs]; simp), slash_signs, par_none _ _ (hf a List.mem_cons_self)]
      rfl
    | cons b r =>
      rw [hs] at hj hf
      refine .inr ⟨a, b, r, rfl, ?_⟩
      have e : Txt.join (Str.ofString "/") (a :: b :: r) = a ++ Str.ofString "/" ++ Txt.join (Str.ofString "/") (b :: r) := by
        exact join_cons _ _ _ _
      have hj' : a ++ Str.ofString "/" ++ Txt.join (Str.ofString "/") (b :: r) = y := e.symm.trans hj
      refine ⟨hj'.symm, ⟨?_⟩⟩
      rw [← hj']
      exact partition_app slash_signs (hf a List.mem_cons_self)
theorem part_len2 (y z : Str) (hz : tl z ≠ []) : (Txt.partition y z).1.length ≤ y.length ∧ (Txt.partition y z).2.2.length ≤ y.length := by
  have g : ∀ (S l acc a b : List Nat), par S acc l = some (a, b) → a.length + b.length ≤ acc.length + l.length := fun S l => by
    induction l with
    | nil => intro acc a b h; cases h
    | cons c r ih =>
      intro acc a b h
      unfold par at h
      split at h
      · cases h
        rw [List.length_drop]
        omega
      · have := ih _ _ _ h
        rw [List.length_append, List.length_singleton] at this
        rw [List.length_cons]
        omega
  rw [partition_par y z hz]
  cases h : par (tl z) [] (tl y) with
  | none => exact ⟨Nat.le_refl _, Nat.zero_le _⟩
  | some z =>
    obtain ⟨a, b⟩ := z
    have := g _ _ _ _ _ h
    rw [List.length_nil, Nat.zero_add] at this
    have e1 : (⟨a.toArray⟩ : Str).length = a.length := by rw [len_tl]
    have e2 : (⟨b.toArray⟩ : Str).length = b.length := by rw [len_tl]
    show (⟨a.toArray⟩ : Str).length ≤ _ ∧ (⟨b.toArray⟩ : Str).length ≤ _
    rw [e1, e2, len_tl]
    exact ⟨by omega, by omega⟩
end Sm
set_option Elab.async false
set_option linter.all false
set_option maxRecDepth 100000
set_option maxHeartbeats 2000000
/-! words of a row: the machine and the split -/
namespace Sm
open PySem L2 Dl PySem.NumText TL
def tillS (m : Nat) : List Nat → List Nat
  | [] => []
  | c :: r => if c = m then [] else c :: tillS m r
theorem pre_one (m c : Nat) (r : List Nat) : pre [m] (c :: r) = decide (c = m) := by
  unfold pre
  by_cases h : c = m
  · subst h; simp
  · simp [h]
theorem par_till (m : Nat) : ∀ (l acc : List Nat), (match par [m] acc l with | some (a, _) => a | none => acc ++ l) = acc ++ tillS m l := fun l => by
  induction l with
  | nil => intro acc; simp [par, tillS]
  | cons c r ih =>
    intro acc
    unfold par tillS
    rw [pre_one]
    by_cases h : c = m
    · rw [decide_eq_true h, if_pos rfl, if_pos h]; simp
    · rw [decide_eq_false h, if_neg Bool.false_ne_true, if_neg h]
      have e := ih (acc ++ [c])
      cases hp : par [m] (acc ++ [c]) r with
      | none => simp
                rw [hp] at e
                simpa using e
      | some z =>
        obtain ⟨a, b⟩ := z
        rw [hp] at e
        simpa using e
theorem part_till (y z : Str) (m : Nat) (hz : tl z = [m]) : tl (Txt.partition y z).1 = tillS m (tl y) := by
  rw [partition_par y z (by rw [hz]; simp), hz]
  have e := par_till m (tl y) []
  cases hp : par [m] [] (tl y) with
  | none => rw [hp] at e; simpa using e
  | some z =>
    obtain ⟨a, b⟩ := z
    rw [hp] at e
    simpa using e
/-- the words, blank by blank -/
def wl (acc : List Nat) : List Nat → List (List Nat)
  | [] => if acc = [] then [] else [acc]
  | c :: r => if c = 32 then (if acc = [] then [] else [acc]) ++ wl [] r else wl (acc ++ [c]) r
theorem spl_wl : ∀ (l acc : List Nat), (spl [32] 0 acc l).filter (fun z => !z.isEmpty) = wl acc l := fun l => by
  induction l with
  | nil =>
    intro acc
    rw [spl_nil]
    unfold wl
    cases acc <;> rfl
  | cons c r ih =>
    intro acc
    unfold wl
    by_cases h : c = 32
    · rw [spl_hit (by rw [pre_one, decide_eq_true h]), if_pos h, List.filter_cons]
      rw [show ([32] : List Nat).length - 1 = 0 from rfl, ih]
      cases acc <;> rfl
    · rw [spl_miss (by rw [pre_one, decide_eq_false h]), if_neg h, ih]
theorem split_wl (s z : Str) (hz : tl z = [32]) : ((Txt.split s z).filter (fun w => (w.length : Int) != 0)).map tl = wl [] (tl s) := by
  rw [← spl_wl, ← hz, ← split_spl s z (by rw [hz]; simp) (kind_ok (by
    rw [show z = ⟨#[32]⟩ from ext_tl hz]; decide +kernel)), List.filter_map]
  congr 1
  refine List.filter_congr fun w _ => ?_
  show ((w.length : Int) != 0) = !(tl w).isEmpty
  rw [len_tl]
  cases tl w with
  | nil => rfl
  | cons a b =>
    simp only [List.length_cons, List.isEmpty_cons, Bool.not_false]
    exact bne_iff_ne.mpr (by omega)
end Sm
set_option Elab.async false
set_option linter.all false
set_option maxRecDepth 100000
set_option maxHeartbeats 4000000
set_option exponentiation.threshold 20000
open PySem L2 Dl
local macro_rules
  | `(tactic| ktf_call "tt") => `(tactic| ((with_reducible apply Tt.mk); first | rfl | (intro _; rfl) | (intro _ _; rfl) | decide))
local macro_rules
  | `(tactic| ktf_call "sg") => `(tactic| ((with_reducible apply Sg.mk); first | (simp only [List.set]; exact rfl) | (simp only [List.set]; done) | exact rfl))
local macro_rules
  | `(tactic| ktf_call "xecn") => `(tactic| with_reducible first
    | refine' xe_call (by assumption) (by assumption) ?_ ?_ ?_ ?_
    | refine' xe_len (by assumption) ?_ ?_ ?_ ?_
    | refine' xe_isi (by assumption) (by assumption) ?_ ?_ ?_ ?_
    | refine' xe_call0 (by assumption) (by assumption) ?_
    | refine' xe_abs (by assumption) ?_ ?_ ?_
    | refine' xe_str (by assumption) ?_ ?_ ?_ ?_
    | refine' xe_int (by assumption) ?_ ?_ ?_ ?_
    | refine' xe_sorted (by assumption) ?_ ?_ ?_ ?_
    | refine' xe_gcd (by assumption) ?_ ?_ ?_ ?_ ?_
    | refine' xe_min ?_ (by assumption) ?_ ?_ ?_ ?_ ?_
    | refine' xe_max ?_ (by assumption) ?_ ?_ ?_ ?_ ?_)
local macro_rules
  | `(tactic| ktf_call "xeca") => `(tactic| with_reducible first
    | refine' xe_partF (by assumption) ?_ ?_ ?_ ?_ ?_ ?_ ?_ ?_ ?_
    | refine' xe_partition ?_ ?_ ?_ ?_ ?_ ?_ ?_ ?_ ?_
    | refine' xe_split ?_ ?_ ?_ ?_ ?_ ?_ ?_ ?_ ?_
    | refine' xe_join ?_ ?_ ?_ ?_ ?_ ?_ ?_ ?_ ?_
    | refine' xe_isdigit ?_ ?_ ?_
    | refine' xe_index ?_ ?_ ?_ ?_ ?_ ?_ ?_ (by assumption)
    | refine' xe_isascii ?_ ?_ ?_
    | refine' xe_upper ?_ ?_ ?_ ?_)
local macro_rules
  | `(tactic| ktf_call "xe") => `(tactic| first
    | ((with_reducible show Xp _ _ _ (.Name _ _) _); with_reducible first | refine' xe_var (by assumption) ?_ | refine' xp_cn (by assumption) (by assumption))
    | ((with_reducible show Xp _ _ _ (.Constant _ _ _) _); with_reducible first | exact xp_int | exact xp_str | exact xp_bl | exact xp_non)
    | ((with_reducible show Xp _ _ _ (.Call (.Name _ _) _ _ _) _); ktf_call "xecn")
    | ((with_reducible show Xp _ _ _ (.Call (.Attribute _ _ _) _ _ _) _); ktf_call "xeca")
    | ((with_reducible show Xp _ _ _ (.BinOp _ _ _ _) _); with_reducible first | refine' xe_rep ?_ ?_ ?_ ?_ ?_ | refine' xe_add ?_ ?_ ?_ | refine' xe_mul ?_ ?_ ?_ | refine' xe_sub ?_ ?_ | refine' xe_mod ?_ ?_ ?_ | refine' xe_fdiv ?_ ?_ ?_ | refine' xe_pow ?_ ?_ ?_)
    | with_reducible first
      | refine' xe_sl ?_ ?_ ?_ ?_
      | refine' xe_ix ?_ ?_ ?_ ?_
      | refine' xe_cmp ?_ ?_ ?_ ?_
      | refine' xe_chain ?_ ?_ ?_ ?_ ?_ ?_
      | refine' xe_tup ?_ ?_
      | refine' xp_not ?_
      | refine' xp_one ?_
      | refine' xe_and ?_ ?_
      | refine' xp_or ?_ ?_
      | refine' xe_ifT (by assumption) ?_ ?_ ?_
      | refine' xe_ifF (by assumption) ?_ ?_ ?_
      | refine' xp_if ?_ ?_ ?_
      | refine' xe_lst ?_ ?_
      | exact xe_dict0
      | refine' xp_neg ?_
      | refine' xp_joined ?_
      | refine' xe_fmt ?_ ?_)
local macro_rules
  | `(tactic| ktf_call "xck") => `(tactic| with_reducible first
    | exact ck_lt | exact ck_gt | exact ck_le | exact ck_ge | exact ck_eqi | exact ck_nei | exact ck_eqs | exact ck_nes | exact ck_eqb | exact ck_neb | exact ck_isN | exact ck_notN | exact ck_isB | exact ck_notB | exact ck_inS | exact ck_ninS | refine' ck_inL ?_ ?_ | refine' ck_inT ?_ ?_ | refine' ck_ninL ?_ ?_ | refine' ck_ninT ?_ ?_ | refine' ck_eqd (by assumption) ?_ ?_ | refine' ck_ned (by assumption) ?_ ?_)
local macro_rules
  | `(tactic| ktf_call "xd") => `(tactic| first
    | ((with_reducible show CmpOk _ _ _ _ _); ktf_call "xck")
    | ((with_reducible show IxD _ _ _); with_reducible first | refine' IxD.lst ?_ | refine' IxD.tup ?_ | refine' IxD.str ?_ ?_)
    | with_reducible first
      | exact AddD.int | refine' AddD.str ?_ | refine' AddD.lst ?_ | refine' AddD.tup ?_
      | refine' MulD.int ?_ | refine' MulD.str ?_ | (exact FdivD.lit (by decide)) | refine' FdivD.gen ?_ | exact sortD2
      | exact LenD.lst | exact LenD.tup | refine' LenD.str ?_
      | exact TruD.bl | exact TruD.int | exact TruD.non | refine' TruD.str ?_ | exact TruD.lst | exact TruD.tup
      | exact SlD.lst | refine' SlD.str ?_
      | exact IntD.bl | refine' IntD.str ?_ ?_
      | exact UnpD.tup | exact UnpD.lst
      | exact ItrD.lst | exact ItrD.tup | exact ItrD.str
      | refine' FmtD.str ?_ | refine' FmtD.int ?_)
local macro_rules
  | `(tactic| ktf_call "xa") => `(tactic| first
    | ((with_reducible show Xa _ _ _ _ _); with_reducible first | exact xa_nil | refine' xae_cons ?_ ?_ ?_)
    | with_reducible first
      | exact xo_none | refine' xo_some ?_ | exact xj_nil | refine' xje_cons ?_ ?_ ?_ | exact xgs_nil | refine' xgse_cons ?_ ?_ ?_ | refine' xge_name (by assumption) ?_ | refine' xge_tup ?_ ?_ ?_ ?_ ?_ | exact xq_nil | refine' xq_one ?_
      | refine' xie_rng1 (by assumption) ?_ ?_ ?_ | refine' xie_rng2 (by assumption) ?_ ?_ ?_ ?_ ?_ ?_ | refine' xie_enum (by assumption) ?_ ?_ | refine' xie_any ?_ ?_)
local macro_rules
  | `(tactic| ktf_call "xt") => `(tactic| with_reducible first
    | refine' xte_cmp ?_ ?_ ?_ ?_ | refine' xte_chain ?_ ?_ ?_ ?_ ?_ ?_ | refine' xt_not ?_ | refine' xt_w ?_ | refine' xw_and1 ?_ | refine' xw_or1 ?_ | refine' xw_and ?_ ?_ | refine' xw_or ?_ ?_ | refine' xt_any ?_ ?_ ?_)
local macro_rules
  | `(tactic| ktf_call "xs") => `(tactic| with_reducible first
    | refine' xse_set (by assumption) ?_ ?_ ?_ ?_ | refine' xs_ret ?_ ?_ | refine' xs_if ?_ ?_ ?_ | refine' xse_aug (by assumption) ?_ ?_ ?_ ?_
    | refine' xse_par ?_ (by assumption) (by assumption) ?_ ?_ ?_ ?_ ?_ ?_ ?_ ?_ | refine' xse_unp ?_ ?_ ?_ ?_ ?_ ?_ ?_ ?_ ?_ ?_ ?_ | refine' xse_app (by assumption) ?_ ?_ ?_ ?_ ?_ ?_ ?_ ?_ ?_ ?_ ?_
    | refine' xs_brk ?_ | refine' xs_cont ?_ | refine' xs_retN ?_ | refine' xs_pass ?_)
local macro_rules
  | `(tactic| ktf_call "xo") => `(tactic| with_reducible first
    | refine' seq_nx ?_ | refine' seq_rt ?_ | refine' seq_bk ?_ | refine' seq_ct ?_ | refine' wh_nx ?_ | refine' wh_rt ?_ | refine' wh_bk ?_ | refine' wh_ct ?_ | refine' turn_nx ?_ | refine' turn_rt ?_ | refine' turn_bk ?_ | refine' turn_ct ?_ | (refine' ret_rt ?_; try with_reducible rfl))
local macro_rules
  | `(tactic| ktf_call "xb") => `(tactic| first
    | (with_reducible refine' xb_nil ?_) | (with_reducible refine' xbe_one ?_) | (with_reducible refine' xbe_cons ?_) | refine' xbe_cons ?_)
local macro_rules
  | `(tactic| ktf_call "xi") => `(tactic| first
    | ((with_reducible show decide _ = true → _); first | exact (fun h => absurd h (by decide)) | (refine fun h => absurd (of_decide_eq_true h) ?_; with_reducible assumption) | (refine fun h => (fun h' => ?_) (of_decide_eq_true h); clear h))
    | ((with_reducible show decide _ = false → _); first | exact (fun h => absurd h (by decide)) | (refine fun h => absurd ?_ (of_decide_eq_false h); with_reducible assumption) | (refine fun h => (fun h' => ?_) (of_decide_eq_false h); clear h))
    | exact (fun h => absurd (show false = true from h) Bool.false_ne_true)
    | exact (fun h => absurd (show false = true from h.symm) Bool.false_ne_true)
    | (intro h; try simp only [Bool.not_eq_true', Bool.not_eq_false', Bool.and_eq_true, Bool.or_eq_true, Bool.and_eq_false_iff, Bool.or_eq_false_iff, decide_eq_true_eq, decide_eq_false_iff_not, Bool.not_true, Bool.not_false, Bool.false_eq_true, Bool.true_eq_false, and_false, false_and, and_true, true_and, or_false, false_or, reduceCtorEq] at h))
local macro_rules
  | `(tactic| ktf_call "il") => `(tactic| first | exact IntsL.nil | exact StrsL.nil | ((with_reducible apply IntsL.cons); ktf_call "il") | ((with_reducible apply StrsL.cons); ktf_call "il"))
local macro_rules
  | `(tactic| ktf_call "at") => `(tactic| first
    | with_reducible exact at_0 | with_reducible exact at_1 | with_reducible exact at_2
    | (refine' at_ints (by ktf_call "il") ?_; (apply Side.mk; simp only [List.length_cons, List.length_nil]; omega))
    | (refine' at_strs (by ktf_call "il") ?_; (apply Side.mk; simp only [List.length_cons, List.length_nil]; omega))
    | (refine' at_any ?_; (apply Side.mk; simp only [List.length_cons, List.length_nil, List.cons_append, List.nil_append]; omega)))
local macro_rules
  | `(tactic| ktf_call "side") => `(tactic| first
    | with_reducible assumption
    | ((with_reducible show Side (atI _ _ = _)); ktf_call "at")
    | ((with_reducible show Side (CMulW _ _)); exact side_mul64 (by omega))
    | ((with_reducible show Side (CDivG _ _)); exact side_fdiv64 (by omega))
    | ((with_reducible show Side (CPow _ _)); exact ⟨⟨by decide, by decide, by decide⟩⟩)
    | ((with_reducible show Side (SeqAt.shaped _ = true)); exact ⟨rfl⟩)
    | ((with_reducible apply Side.mk); first | omega | decide))
local macro_rules
  | `(tactic| ktf_call "x1") => `(tactic| ((with_reducible show (_ : Prop)); first
    | ktf_call "tt"
    | ((with_reducible show Xp _ _ _ _ _); ktf_call "xe")
    | ((with_reducible show Xs _ _ _ _ _); ktf_call "xs")
    | ((with_reducible show Xb _ _ _ _ _); ktf_call "xb")
    | ktf_call "sg" | ktf_call "xa" | ktf_call "xt" | ktf_call "xo" | ktf_call "xd" | ktf_call "side" | ktf_call "cal" | ((with_reducible show _ = _ → _); ktf_call "xi")))
local macro_rules
  | `(tactic| ktf_call "xf") => `(tactic| all_goals first | ((with_reducible show Bool); exact false) | skip)
local macro_rules
  | `(tactic| ktf_call "x") => `(tactic| repeat' ktf_call "x1")

namespace K2
open PySem L2 Dl
def topS (i : Nat) : Stmt := PySem.Challenge.pw_faultwood_k02_names_numbers_words.main.body.getD i (.Pass ⟨0, 0, 0, 0⟩)
abbrev s_figures_in : Stmt := topS 2
abbrev n_figures_in : List Str := ["text"]
theorem f_figures_in : scF2 n_figures_in ["text"] ["len", "MOST_FIGURES", "int"] s_figures_in = true := by decide +kernel
theorem c_figures_in : FnScope n_figures_in ["text"] (defScope s_figures_in) := ⟨rfl, rfl, rfl, by decide +kernel, rfl, by decide +kernel, by decide +kernel⟩
abbrev s_is_name : Stmt := topS 9
abbrev n_is_name : List Str := ["thing", "sign"]
theorem f_is_name : scF2 n_is_name ["thing"] ["isinstance", "str", "NO_NAMES", "len", "MOST_SIGNS_OF_NAME", "LETTERS", "all"] s_is_name = true := by decide +kernel
theorem c_is_name : FnScope n_is_name ["thing"] (defScope s_is_name) := ⟨rfl, rfl, rfl, by decide +kernel, rfl, by decide +kernel, by decide +kernel⟩
abbrev s_number_in : Stmt := topS 10
abbrev n_number_in : List Str := ["word"]
theorem f_number_in : scF2 n_number_in ["word"] ["len", "MOST_FIGURES_OF_NUMBER", "figures_in"] s_number_in = true := by decide +kernel
theorem c_number_in : FnScope n_number_in ["word"] (defScope s_number_in) := ⟨rfl, rfl, rfl, by decide +kernel, rfl, by decide +kernel, by decide +kernel⟩
abbrev s_odds_in : Stmt := topS 11
abbrev n_odds_in : List Str := ["word", "ahead", "_", "behind", "number", "parts"]
theorem f_odds_in : scF2 n_odds_in ["word", "ahead", "_", "behind", "number", "parts"] ["number_in"] s_odds_in = true := by decide +kernel
theorem c_odds_in : FnScope n_odds_in ["word"] (defScope s_odds_in) := ⟨rfl, rfl, rfl, by decide +kernel, rfl, by decide +kernel, by decide +kernel⟩
abbrev s_words_of : Stmt := topS 12
abbrev n_words_of : List Str := ["row", "told", "word"]
theorem f_words_of : scF2 n_words_of ["row", "told"] [] s_words_of = true := by decide +kernel
theorem c_words_of : FnScope n_words_of ["row"] (defScope s_words_of) := ⟨rfl, rfl, rfl, by decide +kernel, rfl, by decide +kernel, by decide +kernel⟩
abbrev s_law_mixed : Stmt := topS 14
abbrev n_law_mixed : List Str := ["_law_cell", "_law_k", "_law_number"]
theorem f_law_mixed : scF2 n_law_mixed ["_law_cell", "_law_k", "_law_number"] [] s_law_mixed = true := by decide +kernel
theorem c_law_mixed : FnScope n_law_mixed ["_law_cell", "_law_k"] (defScope s_law_mixed) := ⟨rfl, rfl, rfl, by decide +kernel, rfl, by decide +kernel, by decide +kernel⟩
abbrev s_law_signs : Stmt := topS 15
abbrev n_law_signs : List Str := ["_law_some"]
theorem f_law_signs : scF2 n_law_signs ["_law_some"] [] s_law_signs = true := by decide +kernel
theorem c_law_signs : FnScope n_law_signs [] (defScope s_law_signs) := ⟨rfl, rfl, rfl, by decide +kernel, rfl, by decide +kernel, by decide +kernel⟩
abbrev s_law_told : Stmt := topS 16
abbrev n_law_told : List Str := []
theorem f_law_told : scF2 n_law_told [] [] s_law_told = true := by decide +kernel
theorem c_law_told : FnScope n_law_told [] (defScope s_law_told) := ⟨rfl, rfl, rfl, by decide +kernel, rfl, by decide +kernel, by decide +kernel⟩
abbrev s_law_is_name : Stmt := topS 17
abbrev n_law_is_name : List Str := ["_law_thing", "_law_bad", "_law_sign"]
theorem f_law_is_name : scF2 n_law_is_name ["_law_thing", "_law_bad"] ["isinstance", "str", "_law_told", "len"] s_law_is_name = true := by decide +kernel
theorem c_law_is_name : FnScope n_law_is_name ["_law_thing"] (defScope s_law_is_name) := ⟨rfl, rfl, rfl, by decide +kernel, rfl, by decide +kernel, by decide +kernel⟩
abbrev s_law_read : Stmt := topS 18
abbrev n_law_read : List Str := ["_law_word_here", "_law_sign", "_law_bad", "_law_found"]
theorem f_law_read : scF2 n_law_read ["_law_word_here", "_law_sign", "_law_bad", "_law_found"] ["len"] s_law_read = true := by decide +kernel
theorem c_law_read : FnScope n_law_read ["_law_word_here"] (defScope s_law_read) := ⟨rfl, rfl, rfl, by decide +kernel, rfl, by decide +kernel, by decide +kernel⟩
abbrev s_law_read_odds : Stmt := topS 19
abbrev n_law_read_odds : List Str := ["_law_word_here", "_law_parts", "_law_pair_here"]
theorem f_law_read_odds : scF2 n_law_read_odds ["_law_word_here", "_law_parts", "_law_pair_here"] ["_law_read", "len"] s_law_read_odds = true := by decide +kernel
theorem c_law_read_odds : FnScope n_law_read_odds ["_law_word_here"] (defScope s_law_read_odds) := ⟨rfl, rfl, rfl, by decide +kernel, rfl, by decide +kernel, by decide +kernel⟩
abbrev s_law_name : Stmt := topS 20
abbrev n_law_name : List Str := ["_law_number", "_law_letters", "_law_size", "_law_base", "_law_k", "_law_at", "_law_told_here"]
theorem f_law_name : scF2 n_law_name ["_law_number", "_law_letters", "_law_size", "_law_base", "_law_k", "_law_at", "_law_told_here"] ["range", "_law_mixed", "_law_signs", "_law_told", "min"] s_law_name = true := by decide +kernel
theorem c_law_name : FnScope n_law_name ["_law_number"] (defScope s_law_name) := ⟨rfl, rfl, rfl, by decide +kernel, rfl, by decide +kernel, by decide +kernel⟩
abbrev s_law_figures : Stmt := topS 21
abbrev n_law_figures : List Str := ["_law_number", "_law_size", "_law_base", "_law_head"]
theorem f_law_figures : scF2 n_law_figures ["_law_number", "_law_size", "_law_base", "_law_head"] ["str", "_law_signs"] s_law_figures = true := by decide +kernel
theorem c_law_figures : FnScope n_law_figures ["_law_number"] (defScope s_law_figures) := ⟨rfl, rfl, rfl, by decide +kernel, rfl, by decide +kernel, by decide +kernel⟩
abbrev s_law_word : Stmt := topS 22
abbrev n_law_word : List Str := ["_law_number", "_law_one", "_law_sign"]
theorem f_law_word : scF2 n_law_word ["_law_number", "_law_one", "_law_sign"] ["_law_name", "_law_figures", "_law_mixed"] s_law_word = true := by decide +kernel
theorem c_law_word : FnScope n_law_word ["_law_number"] (defScope s_law_word) := ⟨rfl, rfl, rfl, by decide +kernel, rfl, by decide +kernel, by decide +kernel⟩
abbrev s_law_words : Stmt := topS 23
abbrev n_law_words : List Str := ["_law_row", "_law_found", "_law_base", "_law_sign"]
theorem f_law_words : scF2 n_law_words ["_law_row", "_law_found", "_law_base", "_law_sign"] ["int"] s_law_words = true := by decide +kernel
theorem c_law_words : FnScope n_law_words ["_law_row"] (defScope s_law_words) := ⟨rfl, rfl, rfl, by decide +kernel, rfl, by decide +kernel, by decide +kernel⟩
abbrev s_law_whole : Stmt := topS 24
abbrev n_law_whole : List Str := ["_law_found", "_law_due"]
theorem f_law_whole : scF2 n_law_whole ["_law_found", "_law_due"] ["isinstance", "int", "bool"] s_law_whole = true := by decide +kernel
theorem c_law_whole : FnScope n_law_whole ["_law_found", "_law_due"] (defScope s_law_whole) := ⟨rfl, rfl, rfl, by decide +kernel, rfl, by decide +kernel, by decide +kernel⟩
abbrev s_law_pair : Stmt := topS 25
abbrev n_law_pair : List Str := ["_law_found", "_law_due"]
theorem f_law_pair : scF2 n_law_pair ["_law_found", "_law_due"] ["isinstance", "tuple", "len", "_law_whole"] s_law_pair = true := by decide +kernel
theorem c_law_pair : FnScope n_law_pair ["_law_found", "_law_due"] (defScope s_law_pair) := ⟨rfl, rfl, rfl, by decide +kernel, rfl, by decide +kernel, by decide +kernel⟩
abbrev s_law : Stmt := topS 26
abbrev n_law : List Str := ["_law_script", "_law_row", "_law_k", "_law_cell", "_law_number", "_law_one", "_law_odd", "_law_thing", "_law_found", "_law_turn"]
theorem f_law : scF2 n_law ["_law_script", "_law_row", "_law_k", "_law_cell", "_law_number", "_law_one", "_law_odd", "_law_thing", "_law_found", "_law_turn"] ["enumerate", "_law_mixed", "_law_word", "is_name", "isinstance", "bool", "_law_is_name", "_law_whole", "number_in", "_law_read", "_law_pair", "odds_in", "_law_read_odds", "min", "range", "words_of", "list", "_law_words"] s_law = true := by decide +kernel
theorem c_law : FnScope n_law ["_law_script"] (defScope s_law) := ⟨rfl, rfl, rfl, by decide +kernel, rfl, by decide +kernel, by decide +kernel⟩
/-- what the module's names hold -/
structure Mg (mg : Str → Option Value) : Prop where
  m_len : mg "len" = none
  m_int : mg "int" = none
  m_isinstance : mg "isinstance" = none
  m_str : mg "str" = none
  m_all : mg "all" = none
  m_range : mg "range" = none
  m_min : mg "min" = none
  m_bool : mg "bool" = none
  m_tuple : mg "tuple" = none
  m_enumerate : mg "enumerate" = none
  m_list : mg "list" = none
variable [Tabs] {P : Program} {w : World} {K : PySem.W.Frag} {mg : Str → Option Value} {base : Heap}
open Sm TL PySem.NumText
/-! ### what each def promises -/
abbrev d_MOST_FIGURES : PyData := .int 400
abbrev d_MOST_SIGNS_OF_NAME : PyData := .int 8
abbrev d_MOST_FIGURES_OF_NUMBER : PyData := .int 7
abbrev d_LETTERS : PyData := .str (Str.ofString "abcdefghijklmnopqrstuvwxyz")
abbrev d_LETTERS_AND_FIGURES : PyData := .str (Str.ofString "abcdefghijklmnopqrstuvwxyz0123456789")
abbrev toldL : List Str := ["part", "better", "spare", "gate", "brings", "top", "all", "any"]
abbrev d_NO_NAMES : PyData := .tuple [.str "part", .str "better", .str "spare", .str "gate", .str "brings", .str "top", .str "all", .str "any"]
def r_figures_in : List PyData → PyData → Prop := fun ds d => ∃ y, ds = [.str y] ∧ y.length ≤ 100000 ∧ d = optI (figI 400 y)
def r_number_in : List PyData → PyData → Prop := fun ds d => ∃ y, ds = [.str y] ∧ y.length ≤ 100000 ∧ d = optI (figI 7 y)
def twoD : Option Int → Option Int → PyData
  | some n, some p => .tuple [.int n, .int p]
  | _, _ => .none
def oddsD (y : Str) : PyData := twoD (figI 7 (Txt.partition y "/").1) (figI 7 (Txt.partition y "/").2.2)
def r_odds_in : List PyData → PyData → Prop := fun ds d => ∃ y, ds = [.str y] ∧ y.length ≤ 100000 ∧ d = oddsD y
def mixI (c k : Int) : Int := (c % 1000000007 + 31 * k * k + 7) * 48271 % 2147483647 * (16807 + 7919 * k) % 2147483629
def r_law_mixed : List PyData → PyData → Prop := fun ds d => ∃ c k, ds = [.int c, .int k] ∧ 0 ≤ k ∧ k ≤ 20 ∧ d = .int (mixI c k)
def signsS : Str := Str.ofString " !\"#$&'()*+,-./0123456789:;<=>?@ABCDEFGHIJKLMNOPQRSTUVWXYZ[\\]^_" ++ Str.ofString "`abcdefghijklmnopqrstuvwxyz{|}~"
def r_law_signs : List PyData → PyData → Prop := fun ds d => ds = [] ∧ d = .str signsS
def r_law_told : List PyData → PyData → Prop := fun ds d => ds = [] ∧ d = .list (toldL.map .str)
def r_law_whole : List PyData → PyData → Prop := fun ds d => ∃ o, ds = [optI o, optI o] ∧ d = .bool true
def r_law_pair : List PyData → PyData → Prop := fun ds d => ∃ o o2, ds = [twoD o o2, twoD o o2] ∧ d = .bool true
/-! ### calls -/
local macro_rules
  | `(tactic| ktf_call "cal") => `(tactic| first
    | with_reducible assumption
    | ((with_reducible show Cal r_figures_in _ _); refine' ⟨⟨_, rfl, ?_, rfl⟩⟩)
    | ((with_reducible show Cal r_number_in _ _); refine' ⟨⟨_, rfl, ?_, rfl⟩⟩)
    | ((with_reducible show Cal r_law_signs _ _); exact ⟨⟨rfl, rfl⟩⟩)
    | ((with_reducible show Cal r_law_told _ _); exact ⟨⟨rfl, rfl⟩⟩)
    | ((with_reducible show Cal r_law_mixed _ _); refine' ⟨⟨_, _, rfl, ?_, ?_, rfl⟩⟩))
/-! ### defs -/
theorem ok_figures_in {f : Addr} {fd : FuncData} (F : Fun K "figures_in" "figures_in" s_figures_in f fd) (hm : mg "figures_in" = some (.ref f)) (T : Mg mg) (C_MOST_FIGURES : CnM K mg "MOST_FIGURES" d_MOST_FIGURES) : Dn P w K mg base 1 "figures_in" r_figures_in := by
  refine dn_of F hm (F.binds (ps := ["text"]) fun _ _ _ _ _ _ us hl => match us, hl with | [_], _ => rfl) ?_
  refine fn_ok F c_figures_in (fun ds d hR => ?_) fun cdv A outer s H E B ds d hr hR => ?_
  · obtain ⟨y, rfl, hy, rfl⟩ := hR
    rfl
  obtain ⟨y, rfl, hy, rfl⟩ := hR
  have r0 : Rk (Xc P w K mg base n_figures_in "figures_in" s_figures_in f cdv A outer s H E) 0 "text" := rk_of2 f_figures_in rfl (by decide +kernel)
  have l0 : Lk (Xc P w K mg base n_figures_in "figures_in" s_figures_in f cdv A outer s H E) 0 "text" := lk_of2 f_figures_in rfl (by decide +kernel)
  have b0 : Bi (Xc P w K mg base n_figures_in "figures_in" s_figures_in f cdv A outer s H E) "len" := ⟨(gl_of2 f_figures_in (by decide +kernel)), T.m_len⟩
  have g1 : Gl (Xc P w K mg base n_figures_in "figures_in" s_figures_in f cdv A outer s H E) "MOST_FIGURES" := (gl_of2 f_figures_in (by decide +kernel))
  have c1 : Cn (Xc P w K mg base n_figures_in "figures_in" s_figures_in f cdv A outer s H E) "MOST_FIGURES" d_MOST_FIGURES := C_MOST_FIGURES.at
  have b2 : Bi (Xc P w K mg base n_figures_in "figures_in" s_figures_in f cdv A outer s H E) "int" := ⟨(gl_of2 f_figures_in (by decide +kernel)), T.m_int⟩
  have t2 : Ty (Xc P w K mg base n_figures_in "figures_in" s_figures_in f cdv A outer s H E) "int" .int := ⟨b2, by decide +kernel, by decide +kernel, by decide +kernel⟩
  have rm : Rm (Xc P w K mg base n_figures_in "figures_in" s_figures_in f cdv A outer s H E) := ⟨hr.units⟩
  have hG : startG n_figures_in [.str y] = [.sh (.str y)] := rfl
  rw [hG]; clear hG
  ktf_call "x"
  all_goals first | exact ⟨side_size (by omega)⟩ | skip
  · rename_i h; rw [fig_no1 h]; rfl
  · rename_i h; rw [fig_no2 h]; rfl
  · exact y.cps.toList.headD 0
  · rename_i h; exact fig_at h
  · rename_i h h1; rw [fig_no3 h h1]; rfl
  · exact ((PySem.NumText.digitsVal y.cps.toList : Nat) : Int)
  · rename_i h0 h h1; exact ⟨(fig_text (by decide) (fig_yes h0 h h1)).1⟩
  all_goals (rename_i h0 h h1; rw [fig_yes h0 h h1]; rfl)
theorem fig7 {y : Str} (h : ¬ 7 < (y.length : Int)) : figI 400 y = figI 7 y := by
  unfold figI
  rw [decide_eq_true (show y.length ≤ 400 by omega), decide_eq_true (show y.length ≤ 7 by omega)]
theorem fig7_no {y : Str} (h : 7 < (y.length : Int)) : figI 7 y = none := by
  unfold figI
  rw [decide_eq_false (show ¬ y.length ≤ 7 by omega)]; rfl
theorem ok_number_in {f : Addr} {fd : FuncData} (F : Fun K "number_in" "number_in" s_number_in f fd) (hm : mg "number_in" = some (.ref f)) (T : Mg mg) (D_figures_in : Dn P w K mg base 1 "figures_in" r_figures_in) (C_MOST_FIGURES_OF_NUMBER : CnM K mg "MOST_FIGURES_OF_NUMBER" d_MOST_FIGURES_OF_NUMBER) : Dn P w K mg base 2 "number_in" r_number_in := by
  refine dn_of F hm (F.binds (ps := ["word"]) fun _ _ _ _ _ _ us hl => match us, hl with | [_], _ => rfl) ?_
  refine fn_ok F c_number_in (fun ds d hR => ?_) fun cdv A outer s H E B ds d hr hR => ?_
  · obtain ⟨y, rfl, hy, rfl⟩ := hR
    rfl
  obtain ⟨y, rfl, hy, rfl⟩ := hR
  have r0 : Rk (Xc P w K mg base n_number_in "number_in" s_number_in f cdv A outer s H E) 0 "word" := rk_of2 f_number_in rfl (by decide +kernel)
  have l0 : Lk (Xc P w K mg base n_number_in "number_in" s_number_in f cdv A outer s H E) 0 "word" := lk_of2 f_number_in rfl (by decide +kernel)
  have b0 : Bi (Xc P w K mg base n_number_in "number_in" s_number_in f cdv A outer s H E) "len" := ⟨(gl_of2 f_number_in (by decide +kernel)), T.m_len⟩
  have g1 : Gl (Xc P w K mg base n_number_in "number_in" s_number_in f cdv A outer s H E) "MOST_FIGURES_OF_NUMBER" := (gl_of2 f_number_in (by decide +kernel))
  have c1 : Cn (Xc P w K mg base n_number_in "number_in" s_number_in f cdv A outer s H E) "MOST_FIGURES_OF_NUMBER" d_MOST_FIGURES_OF_NUMBER := C_MOST_FIGURES_OF_NUMBER.at
  have g2 : Gl (Xc P w K mg base n_number_in "number_in" s_number_in f cdv A outer s H E) "figures_in" := (gl_of2 f_number_in (by decide +kernel))
  have c2 : Ce (Xc P w K mg base n_number_in "number_in" s_number_in f cdv A outer s H E) "figures_in" r_figures_in := ce_of D_figures_in hr (by decide) (by decide +kernel)
  have rm : Rm (Xc P w K mg base n_number_in "number_in" s_number_in f cdv A outer s H E) := ⟨hr.units⟩
  have hG : startG n_number_in [.str y] = [.sh (.str y)] := rfl
  rw [hG]; clear hG
  have k1 : Cal r_figures_in [.str y] (optI (figI 400 y)) := ⟨_, rfl, hy, rfl⟩
  ktf_call "x"
  all_goals first | exact ⟨side_size (by omega)⟩ | skip
  · rename_i h; exact congrArg optI (fig7_no h).symm
  · rename_i h; exact congrArg optI (fig7 h)
theorem ok_odds_in {f : Addr} {fd : FuncData} (F : Fun K "odds_in" "odds_in" s_odds_in f fd) (hm : mg "odds_in" = some (.ref f)) (T : Mg mg) (D_number_in : Dn P w K mg base 2 "number_in" r_number_in) : Dn P w K mg base 3 "odds_in" r_odds_in := by
  refine dn_of F hm (F.binds (ps := ["word"]) fun _ _ _ _ _ _ us hl => match us, hl with | [_], _ => rfl) ?_
  refine fn_ok F c_odds_in (fun ds d hR => ?_) fun cdv A outer s H E B ds d hr hR => ?_
  · obtain ⟨y, rfl, hy, rfl⟩ := hR
    rfl
  obtain ⟨y, rfl, hy, rfl⟩ := hR
  have r0 : Rk (Xc P w K mg base n_odds_in "odds_in" s_odds_in f cdv A outer s H E) 0 "word" := rk_of2 f_odds_in rfl (by decide +kernel)
  have l0 : Lk (Xc P w K mg base n_odds_in "odds_in" s_odds_in f cdv A outer s H E) 0 "word" := lk_of2 f_odds_in rfl (by decide +kernel)
  have r1 : Rk (Xc P w K mg base n_odds_in "odds_in" s_odds_in f cdv A outer s H E) 1 "ahead" := rk_of2 f_odds_in rfl (by decide +kernel)
  have l1 : Lk (Xc P w K mg base n_odds_in "odds_in" s_odds_in f cdv A outer s H E) 1 "ahead" := lk_of2 f_odds_in rfl (by decide +kernel)
  have r2 : Rk (Xc P w K mg base n_odds_in "odds_in" s_odds_in f cdv A outer s H E) 2 "_" := rk_of2 f_odds_in rfl (by decide +kernel)
  have l2 : Lk (Xc P w K mg base n_odds_in "odds_in" s_odds_in f cdv A outer s H E) 2 "_" := lk_of2 f_odds_in rfl (by decide +kernel)
  have r3 : Rk (Xc P w K mg base n_odds_in "odds_in" s_odds_in f cdv A outer s H E) 3 "behind" := rk_of2 f_odds_in rfl (by decide +kernel)
  have l3 : Lk (Xc P w K mg base n_odds_in "odds_in" s_odds_in f cdv A outer s H E) 3 "behind" := lk_of2 f_odds_in rfl (by decide +kernel)
  have r4 : Rk (Xc P w K mg base n_odds_in "odds_in" s_odds_in f cdv A outer s H E) 4 "number" := rk_of2 f_odds_in rfl (by decide +kernel)
  have l4 : Lk (Xc P w K mg base n_odds_in "odds_in" s_odds_in f cdv A outer s H E) 4 "number" := lk_of2 f_odds_in rfl (by decide +kernel)
  have r5 : Rk (Xc P w K mg base n_odds_in "odds_in" s_odds_in f cdv A outer s H E) 5 "parts" := rk_of2 f_odds_in rfl (by decide +kernel)
  have l5 : Lk (Xc P w K mg base n_odds_in "odds_in" s_odds_in f cdv A outer s H E) 5 "parts" := lk_of2 f_odds_in rfl (by decide +kernel)
  have g0 : Gl (Xc P w K mg base n_odds_in "odds_in" s_odds_in f cdv A outer s H E) "number_in" := (gl_of2 f_odds_in (by decide +kernel))
  have c0 : Ce (Xc P w K mg base n_odds_in "odds_in" s_odds_in f cdv A outer s H E) "number_in" r_number_in := ce_of D_number_in hr (by decide) (by decide +kernel)
  have rm : Rm (Xc P w K mg base n_odds_in "odds_in" s_odds_in f cdv A outer s H E) := ⟨hr.units⟩
  have hG : startG n_odds_in [.str y] = [.sh (.str y), .un, .un, .un, .un, .un] := rfl
  rw [hG]; clear hG
  obtain ⟨p1, p2⟩ := part_len y
  show Xb _ _ _ _ (RetP (twoD (figI 7 (Txt.partition y "/").1) (figI 7 (Txt.partition y "/").2.2)))
  have sz : Side (y.length ≤ sizeLine) := ⟨side_size (by omega)⟩
  have k1 : Cal r_number_in [.str (Txt.partition y "/").1] (optI (figI 7 (Txt.partition y "/").1)) := ⟨_, rfl, by omega, rfl⟩
  have k2 : Cal r_number_in [.str (Txt.partition y "/").2.2] (optI (figI 7 (Txt.partition y "/").2.2)) := ⟨_, rfl, by omega, rfl⟩
  cases h1 : figI 7 (Txt.partition y "/").1 with
  | none =>
    rw [h1] at k1
    replace k1 : Cal r_number_in [.str (Txt.partition y "/").1] .none := k1
    ktf_call "x"
    ktf_call "xf"
    all_goals first | rfl
  | some n =>
    rw [h1] at k1
    replace k1 : Cal r_number_in [.str (Txt.partition y "/").1] (.int n) := k1
    cases h2 : figI 7 (Txt.partition y "/").2.2 with
    | none =>
      rw [h2] at k2
      replace k2 : Cal r_number_in [.str (Txt.partition y "/").2.2] .none := k2
      ktf_call "x"
      ktf_call "xf"
      all_goals first | rfl
    | some p =>
      rw [h2] at k2
      replace k2 : Cal r_number_in [.str (Txt.partition y "/").2.2] (.int p) := k2
      ktf_call "x"
      ktf_call "xf"
      all_goals first | rfl | (exfalso; rename_i h; simp [isNone] at h; done)
theorem ok_law_mixed {f : Addr} {fd : FuncData} (F : Fun K "_law_mixed" "_law_mixed" s_law_mixed f fd) (hm : mg "_law_mixed" = some (.ref f)) (T : Mg mg) : Dn P w K mg base 1 "_law_mixed" r_law_mixed := by
  refine dn_of F hm (F.binds (ps := ["_law_cell", "_law_k"]) fun _ _ _ _ _ _ us hl => match us, hl with | [_, _], _ => rfl) ?_
  refine fn_ok F c_law_mixed (fun ds d hR => ?_) fun cdv A outer s H E B ds d hr hR => ?_
  · obtain ⟨c, k, rfl, h0, h1, rfl⟩ := hR
    rfl
  obtain ⟨c, k, rfl, h0, h1, rfl⟩ := hR
  have r0 : Rk (Xc P w K mg base n_law_mixed "_law_mixed" s_law_mixed f cdv A outer s H E) 0 "_law_cell" := rk_of2 f_law_mixed rfl (by decide +kernel)
  have l0 : Lk (Xc P w K mg base n_law_mixed "_law_mixed" s_law_mixed f cdv A outer s H E) 0 "_law_cell" := lk_of2 f_law_mixed rfl (by decide +kernel)
  have r1 : Rk (Xc P w K mg base n_law_mixed "_law_mixed" s_law_mixed f cdv A outer s H E) 1 "_law_k" := rk_of2 f_law_mixed rfl (by decide +kernel)
  have l1 : Lk (Xc P w K mg base n_law_mixed "_law_mixed" s_law_mixed f cdv A outer s H E) 1 "_law_k" := lk_of2 f_law_mixed rfl (by decide +kernel)
  have r2 : Rk (Xc P w K mg base n_law_mixed "_law_mixed" s_law_mixed f cdv A outer s H E) 2 "_law_number" := rk_of2 f_law_mixed rfl (by decide +kernel)
  have l2 : Lk (Xc P w K mg base n_law_mixed "_law_mixed" s_law_mixed f cdv A outer s H E) 2 "_law_number" := lk_of2 f_law_mixed rfl (by decide +kernel)
  have rm : Rm (Xc P w K mg base n_law_mixed "_law_mixed" s_law_mixed f cdv A outer s H E) := ⟨hr.units⟩
  have hG : startG n_law_mixed [.int c, .int k] = [.sh (.int c), .sh (.int k), .un] := rfl
  rw [hG]; clear hG
  have hk0 : 0 ≤ 31 * k * k := Int.mul_nonneg (by omega) h0
  have hk1 : 31 * k * k ≤ 31 * 20 * 20 := Int.mul_le_mul (by omega) h1 h0 (by omega)
  ktf_call "x"
  rfl
theorem ok_law_signs {f : Addr} {fd : FuncData} (F : Fun K "_law_signs" "_law_signs" s_law_signs f fd) (hm : mg "_law_signs" = some (.ref f)) (T : Mg mg) : Dn P w K mg base 1 "_law_signs" r_law_signs := by
  refine dn_of F hm (F.binds (ps := []) fun _ _ _ _ _ _ us hl => match us, hl with | [], _ => rfl) ?_
  refine fn_ok F c_law_signs (fun ds d hR => ?_) fun cdv A outer s H E B ds d hr hR => ?_
  · obtain ⟨rfl, rfl⟩ := hR
    rfl
  obtain ⟨rfl, rfl⟩ := hR
  have r0 : Rk (Xc P w K mg base n_law_signs "_law_signs" s_law_signs f cdv A outer s H E) 0 "_law_some" := rk_of2 f_law_signs rfl (by decide +kernel)
  have l0 : Lk (Xc P w K mg base n_law_signs "_law_signs" s_law_signs f cdv A outer s H E) 0 "_law_some" := lk_of2 f_law_signs rfl (by decide +kernel)
  have rm : Rm (Xc P w K mg base n_law_signs "_law_signs" s_law_signs f cdv A outer s H E) := ⟨hr.units⟩
  have hG : startG n_law_signs [] = [.un] := rfl
  rw [hG]; clear hG
  ktf_call "x"
  all_goals first | rfl | exact ⟨side_size (by decide +kernel)⟩
theorem told_split : Txt.split (Str.ofString "part better spare gate brings top all any") (Str.ofString " ") = toldL := by decide +kernel
theorem ok_law_told {f : Addr} {fd : FuncData} (F : Fun K "_law_told" "_law_told" s_law_told f fd) (hm : mg "_law_told" = some (.ref f)) (T : Mg mg) : Dn P w K mg base 1 "_law_told" r_law_told := by
  refine dn_of F hm (F.binds (ps := []) fun _ _ _ _ _ _ us hl => match us, hl with | [], _ => rfl) ?_
  refine fn_ok F c_law_told (fun ds d hR => ?_) fun cdv A outer s H E B ds d hr hR => ?_
  · obtain ⟨rfl, rfl⟩ := hR
    rfl
  obtain ⟨rfl, rfl⟩ := hR
  have rm : Rm (Xc P w K mg base n_law_told "_law_told" s_law_told f cdv A outer s H E) := ⟨hr.units⟩
  have hG : startG n_law_told [] = [] := rfl
  rw [hG]; clear hG
  ktf_call "x"
  all_goals first | (rw [told_split]; done) | exact ⟨side_size (by decide +kernel)⟩ | exact ⟨by rw [sizeLine_eq]; decide +kernel⟩
theorem ok_law_whole {f : Addr} {fd : FuncData} (F : Fun K "_law_whole" "_law_whole" s_law_whole f fd) (hm : mg "_law_whole" = some (.ref f)) (T : Mg mg) : Dn P w K mg base 1 "_law_whole" r_law_whole := by
  refine dn_of F hm (F.binds (ps := ["_law_found", "_law_due"]) fun _ _ _ _ _ _ us hl => match us, hl with | [_, _], _ => rfl) ?_
  refine fn_ok F c_law_whole (fun ds d hR => ?_) fun cdv A outer s H E B ds d hr hR => ?_
  · obtain ⟨o, rfl, rfl⟩ := hR
    rfl
  obtain ⟨o, rfl, rfl⟩ := hR
  have r0 : Rk (Xc P w K mg base n_law_whole "_law_whole" s_law_whole f cdv A outer s H E) 0 "_law_found" := rk_of2 f_law_whole rfl (by decide +kernel)
  have l0 : Lk (Xc P w K mg base n_law_whole "_law_whole" s_law_whole f cdv A outer s H E) 0 "_law_found" := lk_of2 f_law_whole rfl (by decide +kernel)
  have r1 : Rk (Xc P w K mg base n_law_whole "_law_whole" s_law_whole f cdv A outer s H E) 1 "_law_due" := rk_of2 f_law_whole rfl (by decide +kernel)
  have l1 : Lk (Xc P w K mg base n_law_whole "_law_whole" s_law_whole f cdv A outer s H E) 1 "_law_due" := lk_of2 f_law_whole rfl (by decide +kernel)
  have b0 : Bi (Xc P w K mg base n_law_whole "_law_whole" s_law_whole f cdv A outer s H E) "isinstance" := ⟨(gl_of2 f_law_whole (by decide +kernel)), T.m_isinstance⟩
  have b1 : Bi (Xc P w K mg base n_law_whole "_law_whole" s_law_whole f cdv A outer s H E) "int" := ⟨(gl_of2 f_law_whole (by decide +kernel)), T.m_int⟩
  have t1 : Ty (Xc P w K mg base n_law_whole "_law_whole" s_law_whole f cdv A outer s H E) "int" .int := ⟨b1, by decide +kernel, by decide +kernel, by decide +kernel⟩
  have b2 : Bi (Xc P w K mg base n_law_whole "_law_whole" s_law_whole f cdv A outer s H E) "bool" := ⟨(gl_of2 f_law_whole (by decide +kernel)), T.m_bool⟩
  have t2 : Ty (Xc P w K mg base n_law_whole "_law_whole" s_law_whole f cdv A outer s H E) "bool" .bool := ⟨b2, by decide +kernel, by decide +kernel, by decide +kernel⟩
  have rm : Rm (Xc P w K mg base n_law_whole "_law_whole" s_law_whole f cdv A outer s H E) := ⟨hr.units⟩
  have hG : startG n_law_whole [optI o, optI o] = [.sh (optI o), .sh (optI o)] := rfl
  rw [hG]; clear hG
  cases o with
  | none => (ktf_call "x"; ktf_call "xf"; all_goals first | rfl)
  | some i =>
    show Xb _ _ [.sh (.int i), .sh (.int i)] _ _
    ktf_call "x"
    ktf_call "xf"
    all_goals first | rfl | (refine congrArg PyData.bool ?_; simp [isNone, isWhole, isiD]; done)
theorem ok_law_pair {f : Addr} {fd : FuncData} (F : Fun K "_law_pair" "_law_pair" s_law_pair f fd) (hm : mg "_law_pair" = some (.ref f)) (T : Mg mg) (D_law_whole : Dn P w K mg base 1 "_law_whole" r_law_whole) : Dn P w K mg base 2 "_law_pair" r_law_pair := by
  refine dn_of F hm (F.binds (ps := ["_law_found", "_law_due"]) fun _ _ _ _ _ _ us hl => match us, hl with | [_, _], _ => rfl) ?_
  refine fn_ok F c_law_pair (fun ds d hR => ?_) fun cdv A outer s H E B ds d hr hR => ?_
  · obtain ⟨o, o2, rfl, rfl⟩ := hR
    rfl
  obtain ⟨o, o2, rfl, rfl⟩ := hR
  have r0 : Rk (Xc P w K mg base n_law_pair "_law_pair" s_law_pair f cdv A outer s H E) 0 "_law_found" := rk_of2 f_law_pair rfl (by decide +kernel)
  have l0 : Lk (Xc P w K mg base n_law_pair "_law_pair" s_law_pair f cdv A outer s H E) 0 "_law_found" := lk_of2 f_law_pair rfl (by decide +kernel)
  have r1 : Rk (Xc P w K mg base n_law_pair "_law_pair" s_law_pair f cdv A outer s H E) 1 "_law_due" := rk_of2 f_law_pair rfl (by decide +kernel)
  have l1 : Lk (Xc P w K mg base n_law_pair "_law_pair" s_law_pair f cdv A outer s H E) 1 "_law_due" := lk_of2 f_law_pair rfl (by decide +kernel)
  have b0 : Bi (Xc P w K mg base n_law_pair "_law_pair" s_law_pair f cdv A outer s H E) "isinstance" := ⟨(gl_of2 f_law_pair (by decide +kernel)), T.m_isinstance⟩
  have b1 : Bi (Xc P w K mg base n_law_pair "_law_pair" s_law_pair f cdv A outer s H E) "tuple" := ⟨(gl_of2 f_law_pair (by decide +kernel)), T.m_tuple⟩
  have t1 : Ty (Xc P w K mg base n_law_pair "_law_pair" s_law_pair f cdv A outer s H E) "tuple" .tuple := ⟨b1, by decide +kernel, by decide +kernel, by decide +kernel⟩
  have b2 : Bi (Xc P w K mg base n_law_pair "_law_pair" s_law_pair f cdv A outer s H E) "len" := ⟨(gl_of2 f_law_pair (by decide +kernel)), T.m_len⟩
  have g3 : Gl (Xc P w K mg base n_law_pair "_law_pair" s_law_pair f cdv A outer s H E) "_law_whole" := (gl_of2 f_law_pair (by decide +kernel))
  have c3 : Ce (Xc P w K mg base n_law_pair "_law_pair" s_law_pair f cdv A outer s H E) "_law_whole" r_law_whole := ce_of D_law_whole hr (by decide) (by decide +kernel)
  have rm : Rm (Xc P w K mg base n_law_pair "_law_pair" s_law_pair f cdv A outer s H E) := ⟨hr.units⟩
  have hG : startG n_law_pair [twoD o o2, twoD o o2] = [.sh (twoD o o2), .sh (twoD o o2)] := rfl
  rw [hG]; clear hG
  cases o with
  | none => (ktf_call "x"; ktf_call "xf"; all_goals first | rfl)
  | some i =>
    cases o2 with
    | none => (ktf_call "x"; ktf_call "xf"; all_goals first | rfl)
    | some j =>
      have k1 : Cal r_law_whole [.int i, .int i] (.bool true) := ⟨some i, rfl, rfl⟩
      have k2 : Cal r_law_whole [.int j, .int j] (.bool true) := ⟨some j, rfl, rfl⟩
      show Xb _ _ [.sh (.tuple [.int i, .int j]), .sh (.tuple [.int i, .int j])] _ _
      ktf_call "x"
      ktf_call "xf"
      all_goals first | rfl
/-! the law's words -/
def Asc (y : Str) : Prop := ∀ c ∈ y.cps.toList, c < 128
theorem asc_app {x y : Str} (h : Asc x) (k : Asc y) : Asc (x ++ y) := fun c hc => by
  rw [show (x ++ y).cps.toList = x.cps.toList ++ y.cps.toList from tl_append x y] at hc
  rcases List.mem_append.mp hc with z | z
  · exact h c z
  · exact k c z
theorem asc_num {a : Int} (h : 0 ≤ a) : Asc (Str.ofString (toString a)) := fun c hc => by
  obtain ⟨n, rfl⟩ := Int.eq_ofNat_of_zero_le h
  rw [show (Str.ofString (toString ((n : Nat) : Int))).cps.toList = numL n from tl_num n] at hc
  have := numL_digits n c hc
  omega
theorem asc_cut {y : Str} {l h : Option Int} (k : Asc y) : Asc (cutS y l h) := fun c hc => by
  unfold cutS at hc
  exact k c (List.mem_of_mem_drop (List.mem_of_mem_take hc))
theorem foldl_app (x : Array Nat) : ∀ (n : Nat) (acc : Array Nat), ((List.replicate n x).foldl (· ++ ·) acc).toList = acc.toList ++ (List.replicate n x.toList).flatten := fun n => by
  induction n with
  | zero => intro acc; simp
  | succ n ih =>
    intro acc
    rw [List.replicate_succ, List.foldl_cons, ih, List.replicate_succ, List.flatten_cons, Array.toList_append, List.append_assoc]
theorem asc_mul {y : Str} {n : Int} (k : Asc y) : Asc (Txt.mul y n) := fun c hc => by
  unfold Txt.mul at hc
  split at hc
  · exact absurd hc (by simp [Str.empty])
  · split at hc
    · exact k c hc
    · rw [foldl_app] at hc
      simp only [List.nil_append] at hc
      obtain ⟨l, hl, hc⟩ := List.mem_flatten.mp hc
      rw [List.eq_of_mem_replicate hl] at hc
      exact k c hc
theorem len_mul (y : Str) (n : Int) : (Txt.mul y n).length ≤ y.length * n.toNat := by
  unfold Txt.mul
  split
  · exact Nat.zero_le _
  · rename_i h
    split
    · rename_i h2
      simp only [Bool.or_eq_true, beq_iff_eq] at h2
      rcases h2 with h2 | h2
      · rw [h2]; simp
      · rw [h2]; simp
    · rw [len_list, foldl_app, len_list y]
      simp [List.length_flatten, List.map_replicate, Nat.mul_comm]
theorem asc_str {s : String} (h : ∀ c ∈ (Str.ofString s).cps.toList, c < 128) : Asc (Str.ofString s) := h
def Short (k : Nat) (y : Str) : Prop := y.length ≤ k ∧ Asc y
theorem short_app {j k : Nat} {x y : Str} (h : Short j x) (h2 : Short k y) : Short (j + k) (x ++ y) := ⟨by rw [Str.length_append]; have := h.1; have := h2.1; omega, asc_app h.2 h2.2⟩
theorem num_short {a : Int} (h0 : 0 ≤ a) (h : a < 18446744073709551616) : Short 100 (Str.ofString (toString a)) := ⟨len_num h0 ((Bd.of64 (by omega)).mono), asc_num h0⟩
theorem dig_len {a : Int} (h0 : 0 ≤ a) (h : a < 10) : (Str.ofString (toString a)).length ≤ 1 := by
  obtain ⟨n, rfl⟩ := Int.eq_ofNat_of_zero_le h0
  rw [len_list, show (Str.ofString (toString ((n : Nat) : Int))).cps.toList = numL n from tl_num n, numL_lt (by omega)]
  exact Nat.le_refl _
abbrev letS : Str := Str.ofString "abcdefghijklmnopqrstuvwxyz"
abbrev digS : Str := Str.ofString "0123456789"
abbrev lfS : Str := letS ++ digS
def sgn (y : Str) (i : Int) : Str := ⟨#[y.cps.toList.getD i.toNat 0]⟩
theorem sgn_at {y : Str} {i : Int} (h : 0 ≤ i ∧ i < y.cps.toList.length) : Side (atI y.cps.toList i = some (y.cps.toList.getD i.toNat 0)) := by
  refine ⟨?_⟩
  rw [atI_pos h.1 h.2, List.getD_eq_getElem?_getD, List.getElem?_eq_getElem (show i.toNat < y.cps.toList.length by omega)]; rfl
theorem sgn_short {y : Str} {i : Int} (hy : Asc y) (h : 0 ≤ i ∧ i < y.cps.toList.length) : Short 1 (sgn y i) := by
  refine ⟨Nat.le_refl _, fun c hc => ?_⟩
  have e : c = y.cps.toList.getD i.toNat 0 := by
    have hc' : c ∈ [y.cps.toList.getD i.toNat 0] := hc
    exact List.mem_singleton.mp hc'
  rw [e]
  exact getD_all (p := fun c => c < 128) hy (by omega)
theorem short_lit {k : Nat} {y : Str} (h : (decide (y.length ≤ k) && y.cps.toList.all (fun c => decide (c < 128))) = true) : Short k y := by
  simp only [Bool.and_eq_true, decide_eq_true_eq, List.all_eq_true] at h
  exact h
theorem let_len : letS.cps.toList.length = 26 := by decide +kernel
theorem lf_len : lfS.cps.toList.length = 36 := by decide +kernel
theorem sig_len : signsS.cps.toList.length = 94 := by decide +kernel
theorem let_ok : Short 26 letS := short_lit (by decide +kernel)
theorem lf_ok : Short 36 lfS := short_lit (by decide +kernel)
theorem sig_ok : Short 95 signsS := short_lit (by decide +kernel)
def baseI (n : Int) : Nat → Str
  | 0 => sgn letS (n / 9 % 26)
  | k + 1 => baseI n k ++ sgn lfS (mixI n k / 5 % 36)
theorem base_ok (n : Int) : ∀ k : Nat, Short (k + 1) (baseI n k) := fun k => by
  induction k with
  | zero => exact sgn_short let_ok.2 (by rw [let_len]; omega)
  | succ k ih => exact short_app ih (sgn_short lf_ok.2 (by rw [lf_len]; omega))
def nameA (n : Int) : Str := cutS (baseI n (1 + n % 9 - 1).toNat) none (some (n / 234 % (1 + n % 9))) ++ sgn signsS (n / 12636 % 94) ++ cutS (baseI n (1 + n % 9 - 1).toNat) (some (n / 234 % (1 + n % 9) + 1)) none
def nameB (n : Int) : Str := ([toldL.getD (n / 12636 % 8).toNat Str.empty, toldL.getD (n / 12636 % 8).toNat Str.empty ++ Str.ofString "s", cutS (toldL.getD (n / 12636 % 8).toNat Str.empty) (some 1) none, Str.ofString "1" ++ toldL.getD (n / 12636 % 8).toNat Str.empty, Txt.upper (toldL.getD (n / 12636 % 8).toNat Str.empty), baseI n (1 + n % 9 - 1).toNat] : List Str).getD (if n / 101088 % 20 < 5 then n / 101088 % 20 else 5).toNat Str.empty
def nameT (n : Int) : Str := if n / 2106 % 5 = 1 then nameA n else nameB n
def r_law_name : List PyData → PyData → Prop := fun ds d => ∃ n, ds = [.int n] ∧ 0 ≤ n ∧ n < 2147483648 ∧ d = .str (nameT n)
theorem told_ok : ∀ x ∈ toldL, Short 8 x ∧ Short 8 (Txt.upper x) := by
  have : toldL.all (fun x => (decide (x.length ≤ 8) && x.cps.toList.all (fun c => decide (c < 128))) && (decide ((Txt.upper x).length ≤ 8) && (Txt.upper x).cps.toList.all (fun c => decide (c < 128)))) = true := by decide +kernel
  intro x hx
  have h := List.all_eq_true.mp this x hx
  rw [Bool.and_eq_true] at h
  exact ⟨short_lit h.1, short_lit h.2⟩
theorem ok_law_name {f : Addr} {fd : FuncData} (F : Fun K "_law_name" "_law_name" s_law_name f fd) (hm : mg "_law_name" = some (.ref f)) (T : Mg mg) (D_law_mixed : Dn P w K mg base 1 "_law_mixed" r_law_mixed) (D_law_signs : Dn P w K mg base 1 "_law_signs" r_law_signs) (D_law_told : Dn P w K mg base 1 "_law_told" r_law_told) : Dn P w K mg base 2 "_law_name" r_law_name := by
  refine dn_of F hm (F.binds (ps := ["_law_number"]) fun _ _ _ _ _ _ us hl => match us, hl with | [_], _ => rfl) ?_
  refine fn_ok F c_law_name (fun ds d hR => ?_) fun cdv A outer s H E B ds d hr hR => ?_
  · obtain ⟨n, rfl, h0, h1, rfl⟩ := hR
    rfl
  obtain ⟨n, rfl, h0, h1, rfl⟩ := hR
  have r0 : Rk (Xc P w K mg base n_law_name "_law_name" s_law_name f cdv A outer s H E) 0 "_law_number" := rk_of2 f_law_name rfl (by decide +kernel)
  have l0 : Lk (Xc P w K mg base n_law_name "_law_name" s_law_name f cdv A outer s H E) 0 "_law_number" := lk_of2 f_law_name rfl (by decide +kernel)
  have r1 : Rk (Xc P w K mg base n_law_name "_law_name" s_law_name f cdv A outer s H E) 1 "_law_letters" := rk_of2 f_law_name rfl (by decide +kernel)
  have l1 : Lk (Xc P w K mg base n_law_name "_law_name" s_law_name f cdv A outer s H E) 1 "_law_letters" := lk_of2 f_law_name rfl (by decide +kernel)
  have r2 : Rk (Xc P w K mg base n_law_name "_law_name" s_law_name f cdv A outer s H E) 2 "_law_size" := rk_of2 f_law_name rfl (by decide +kernel)
  have l2 : Lk (Xc P w K mg base n_law_name "_law_name" s_law_name f cdv A outer s H E) 2 "_law_size" := lk_of2 f_law_name rfl (by decide +kernel)
  have r3 : Rk (Xc P w K mg base n_law_name "_law_name" s_law_name f cdv A outer s H E) 3 "_law_base" := rk_of2 f_law_name rfl (by decide +kernel)
  have l3 : Lk (Xc P w K mg base n_law_name "_law_name" s_law_name f cdv A outer s H E) 3 "_law_base" := lk_of2 f_law_name rfl (by decide +kernel)
  have r4 : Rk (Xc P w K mg base n_law_name "_law_name" s_law_name f cdv A outer s H E) 4 "_law_k" := rk_of2 f_law_name rfl (by decide +kernel)
  have l4 : Lk (Xc P w K mg base n_law_name "_law_name" s_law_name f cdv A outer s H E) 4 "_law_k" := lk_of2 f_law_name rfl (by decide +kernel)
  have r5 : Rk (Xc P w K mg base n_law_name "_law_name" s_law_name f cdv A outer s H E) 5 "_law_at" := rk_of2 f_law_name rfl (by decide +kernel)
  have l5 : Lk (Xc P w K mg base n_law_name "_law_name" s_law_name f cdv A outer s H E) 5 "_law_at" := lk_of2 f_law_name rfl (by decide +kernel)
  have r6 : Rk (Xc P w K mg base n_law_name "_law_name" s_law_name f cdv A outer s H E) 6 "_law_told_here" := rk_of2 f_law_name rfl (by decide +kernel)
  have l6 : Lk (Xc P w K mg base n_law_name "_law_name" s_law_name f cdv A outer s H E) 6 "_law_told_here" := lk_of2 f_law_name rfl (by decide +kernel)
  have b0 : Bi (Xc P w K mg base n_law_name "_law_name" s_law_name f cdv A outer s H E) "range" := ⟨(gl_of2 f_law_name (by decide +kernel)), T.m_range⟩
  have g1 : Gl (Xc P w K mg base n_law_name "_law_name" s_law_name f cdv A outer s H E) "_law_mixed" := (gl_of2 f_law_name (by decide +kernel))
  have c1 : Ce (Xc P w K mg base n_law_name "_law_name" s_law_name f cdv A outer s H E) "_law_mixed" r_law_mixed := ce_of D_law_mixed hr (by decide) (by decide +kernel)
  have g2 : Gl (Xc P w K mg base n_law_name "_law_name" s_law_name f cdv A outer s H E) "_law_signs" := (gl_of2 f_law_name (by decide +kernel))
  have c2 : Ce (Xc P w K mg base n_law_name "_law_name" s_law_name f cdv A outer s H E) "_law_signs" r_law_signs := ce_of D_law_signs hr (by decide) (by decide +kernel)
  have g3 : Gl (Xc P w K mg base n_law_name "_law_name" s_law_name f cdv A outer s H E) "_law_told" := (gl_of2 f_law_name (by decide +kernel))
  have c3 : Ce (Xc P w K mg base n_law_name "_law_name" s_law_name f cdv A outer s H E) "_law_told" r_law_told := ce_of D_law_told hr (by decide) (by decide +kernel)
  have b4 : Bi (Xc P w K mg base n_law_name "_law_name" s_law_name f cdv A outer s H E) "min" := ⟨(gl_of2 f_law_name (by decide +kernel)), T.m_min⟩
  have rm : Rm (Xc P w K mg base n_law_name "_law_name" s_law_name f cdv A outer s H E) := ⟨hr.units⟩
  have hG : startG n_law_name [.int n] = [.sh (.int n), .un, .un, .un, .un, .un, .un] := rfl
  rw [hG]; clear hG
  have s1 : Side (letS.length ≤ sizeLine) := ⟨side_size (by decide +kernel)⟩
  have s2 : Side (lfS.length ≤ sizeLine) := ⟨side_size (by decide +kernel)⟩
  have s3 : Side (signsS.length ≤ sizeLine) := ⟨side_size (by decide +kernel)⟩
  have s4 : Side (letS.length + digS.length ≤ sizeLine) := ⟨side_size (by decide +kernel)⟩
  have a1 : Side (atI letS.cps.toList (n / 9 % 26) = some (letS.cps.toList.getD (n / 9 % 26).toNat 0)) := sgn_at (by rw [let_len]; omega)
  have a2 : Side (atI signsS.cps.toList (n / 12636 % 94) = some (signsS.cps.toList.getD (n / 12636 % 94).toNat 0)) := sgn_at (by rw [sig_len]; omega)
  have z0 : 0 ≤ n % 9 := by omega
  have z1 : n % 9 < 9 := by omega
  ktf_call "x"
  refine xs_for PassesOwn.never rfl (fun _ => rfl) (ds := rangeD 0 (1 + n % 9 - 1).toNat) ?_ (fun k Γ => ∃ z, Γ = [.sh (.int n), .sh (.str letS), .sh (.int (1 + n % 9)), .sh (.str (baseI n k)), z, .un, .un]) ⟨_, rfl⟩ ?_ ?_
  · ktf_call "x"
  · rintro B' k d Γ' hk ⟨z, rfl⟩
    obtain ⟨hk1, rfl⟩ := rangeD_get hk
    rw [Int.zero_add]
    have c1 : Cal r_law_mixed [.int n, .int (k : Int)] (.int (mixI n k)) := ⟨_, _, rfl, by omega, by omega, rfl⟩
    have a3 : Side (atI lfS.cps.toList (mixI n k / 5 % 36) = some (lfS.cps.toList.getD (mixI n k / 5 % 36).toNat 0)) := sgn_at (by rw [lf_len]; omega)
    have b1 := base_ok n k
    have b2 : Side ((baseI n k).length + (sgn lfS (mixI n k / 5 % 36)).length ≤ sizeLine) := ⟨side_size (by have := b1.1; show _ + 1 ≤ _; omega)⟩
    refine' ⟨_, _, ?tgt, ?bdy⟩
    case tgt => ktf_call "x"
    case bdy =>
      ktf_call "x"
      all_goals first | exact b2 | skip
      exact ⟨_, rfl⟩
  · rintro Γ' ⟨z, rfl⟩
    show seqP _ _ _ _ (.nx _)
    rw [rangeD_len]
    have bo := base_ok n (1 + n % 9 - 1).toNat
    have tk := getD_all (d := Str.empty) told_ok (show (n / 12636 % 8).toNat < toldL.length by show _ < 8; omega)
    have hs : 0 ≤ n / 234 % (1 + n % 9) := Int.emod_nonneg _ (by omega)
    have a4 : Side (atI (toldL.map PyData.str) (n / 12636 % 8) = some (.str (toldL.getD (n / 12636 % 8).toNat Str.empty))) := ⟨by
      rw [atI_pos (by omega) (by show _ < (8 : Int); omega), List.getElem?_map, List.getD_eq_getElem?_getD, List.getElem?_eq_getElem (show (n / 12636 % 8).toNat < toldL.length by show _ < 8; omega)]; rfl⟩
    have b10 : (baseI n (1 + n % 9 - 1).toNat).length ≤ 10 := Nat.le_trans bo.1 (by omega)
    have q1 := Nat.le_trans (cutS_length (baseI n (1 + n % 9 - 1).toNat) none (some (n / 234 % (1 + n % 9)))) b10
    have q2 := Nat.le_trans (cutS_length (baseI n (1 + n % 9 - 1).toNat) (some (n / 234 % (1 + n % 9) + 1)) none) b10
    have q3 : (⟨#[signsS.cps.toList.getD (n / 12636 % 94).toNat 0]⟩ : Str).length = 1 := rfl
    have q4 := tk.1.1
    have q5 := Nat.le_trans (cutS_length (toldL.getD (n / 12636 % 8).toNat Str.empty) (some 1) none) q4
    have q6 : (Str.ofString "s").length = 1 := by decide +kernel
    have q7 : (Str.ofString "1").length = 1 := by decide +kernel
    ktf_call "x"
    all_goals first
      | (refine ⟨side_size ?_⟩; (try simp only [Str.length_append]); omega)
      | (refine ⟨?_⟩; omega)
      | (rename_i h; show PyData.str (nameA n) = PyData.str (if n / 2106 % 5 = 1 then nameA n else nameB n); rw [if_pos h])
      | (rename_i h; show PyData.str (nameB n) = PyData.str (if n / 2106 % 5 = 1 then nameA n else nameB n); rw [if_neg h])
theorem len_cut {k : Nat} {y : Str} {l h : Option Int} (s : Short k y) : Short k (cutS y l h) := ⟨Nat.le_trans (cutS_length _ _ _) s.1, asc_cut s.2⟩
theorem short_mono {j k : Nat} {y : Str} (s : Short j y) (h : j ≤ k) : Short k y := ⟨Nat.le_trans s.1 h, s.2⟩
theorem name_ok {n : Int} (h0 : 0 ≤ n) : Short 40 (nameT n) := by
  have bo := short_mono (base_ok n (1 + n % 9 - 1).toNat) (show _ ≤ 10 by omega)
  have tk := getD_all (d := Str.empty) told_ok (show (n / 12636 % 8).toNat < toldL.length by show _ < 8; omega)
  have q6 : Short 1 (Str.ofString "s") := short_lit (by decide +kernel)
  have q7 : Short 1 (Str.ofString "1") := short_lit (by decide +kernel)
  have q8 : Short 1 (sgn signsS (n / 12636 % 94)) := sgn_short sig_ok.2 (by rw [sig_len]; omega)
  unfold nameT nameA nameB
  split
  · exact short_mono (short_app (short_app (len_cut bo) q8) (len_cut bo)) (by decide)
  · refine getD_all (p := Short 40) (fun x hx => ?_) (by show _ < 6; split <;> omega)
    simp only [List.mem_cons, List.not_mem_nil, or_false] at hx
    rcases hx with h | h | h | h | h | h <;> rw [h]
    · exact short_mono tk.1 (by decide)
    · exact short_mono (short_app tk.1 q6) (by decide)
    · exact short_mono (len_cut tk.1) (by decide)
    · exact short_mono (short_app q7 tk.1) (by decide)
    · exact short_mono tk.2 (by decide)
    · exact short_mono bo (by decide)
def sizeI (n : Int) : Int := ([1 + n % 3, 6 + n % 3, n % 9] : List Int).getD (n / 9 % 3).toNat 0
def numI (n : Int) : Int := (10 : Int) ^ Int.toNat 10 + n * (48271 : Int) ^ Int.toNat 2 % (10 : Int) ^ Int.toNat 9
def figB (n : Int) : Str := cutS (Str.ofString (toString (numI n))) (some 2) (some (2 + sizeI n))
def headL : List Str := ["", "", "", "0", "-", "+"]
def figT (n : Int) : Str := headL.getD (n / 27 % 6).toNat Str.empty ++ (if n / 162 % 9 = 1 then cutS (figB n) none (some 1) ++ sgn signsS (n / 1458 % 94) ++ cutS (figB n) (some 1) none else figB n)
def r_law_figures : List PyData → PyData → Prop := fun ds d => ∃ n, ds = [.int n] ∧ 0 ≤ n ∧ n < 2147483648 ∧ d = .str (figT n)
theorem num_bd (n : Int) : 0 ≤ numI n ∧ numI n < 18446744073709551616 := by
  have e9 : (10 : Int) ^ Int.toNat 9 = 1000000000 := by decide
  have e10 : (10 : Int) ^ Int.toNat 10 = 10000000000 := by decide
  unfold numI
  rw [e9, e10]
  omega
theorem figB_ok (n : Int) : Short 100 (figB n) := len_cut (num_short (num_bd n).1 (num_bd n).2)
theorem headL_ok : ∀ x ∈ headL, Short 1 x := by
  have : headL.all (fun x => (decide (x.length ≤ 1) && x.cps.toList.all (fun c => decide (c < 128)))) = true := by decide +kernel
  exact fun x hx => short_lit (List.all_eq_true.mp this x hx)
theorem fig_ok {n : Int} (h0 : 0 ≤ n) : Short 202 (figT n) := by
  have q8 : Short 1 (sgn signsS (n / 1458 % 94)) := sgn_short sig_ok.2 (by rw [sig_len]; omega)
  have a := getD_all (d := Str.empty) headL_ok (show (n / 27 % 6).toNat < headL.length by show _ < 6; omega)
  have b := figB_ok n
  unfold figT
  split
  · exact short_mono (short_app a (short_app (short_app (len_cut b) q8) (len_cut b))) (by decide)
  · exact short_mono (short_app a b) (by decide)
theorem ok_law_figures {f : Addr} {fd : FuncData} (F : Fun K "_law_figures" "_law_figures" s_law_figures f fd) (hm : mg "_law_figures" = some (.ref f)) (T : Mg mg) (D_law_signs : Dn P w K mg base 1 "_law_signs" r_law_signs) : Dn P w K mg base 2 "_law_figures" r_law_figures := by
  refine dn_of F hm (F.binds (ps := ["_law_number"]) fun _ _ _ _ _ _ us hl => match us, hl with | [_], _ => rfl) ?_
  refine fn_ok F c_law_figures (fun ds d hR => ?_) fun cdv A outer s H E B ds d hr hR => ?_
  · obtain ⟨n, rfl, h0, h1, rfl⟩ := hR
    rfl
  obtain ⟨n, rfl, h0, h1, rfl⟩ := hR
  have r0 : Rk (Xc P w K mg base n_law_figures "_law_figures" s_law_figures f cdv A outer s H E) 0 "_law_number" := rk_of2 f_law_figures rfl (by decide +kernel)
  have l0 : Lk (Xc P w K mg base n_law_figures "_law_figures" s_law_figures f cdv A outer s H E) 0 "_law_number" := lk_of2 f_law_figures rfl (by decide +kernel)
  have r1 : Rk (Xc P w K mg base n_law_figures "_law_figures" s_law_figures f cdv A outer s H E) 1 "_law_size" := rk_of2 f_law_figures rfl (by decide +kernel)
  have l1 : Lk (Xc P w K mg base n_law_figures "_law_figures" s_law_figures f cdv A outer s H E) 1 "_law_size" := lk_of2 f_law_figures rfl (by decide +kernel)
  have r2 : Rk (Xc P w K mg base n_law_figures "_law_figures" s_law_figures f cdv A outer s H E) 2 "_law_base" := rk_of2 f_law_figures rfl (by decide +kernel)
  have l2 : Lk (Xc P w K mg base n_law_figures "_law_figures" s_law_figures f cdv A outer s H E) 2 "_law_base" := lk_of2 f_law_figures rfl (by decide +kernel)
  have r3 : Rk (Xc P w K mg base n_law_figures "_law_figures" s_law_figures f cdv A outer s H E) 3 "_law_head" := rk_of2 f_law_figures rfl (by decide +kernel)
  have l3 : Lk (Xc P w K mg base n_law_figures "_law_figures" s_law_figures f cdv A outer s H E) 3 "_law_head" := lk_of2 f_law_figures rfl (by decide +kernel)
  have b0 : Bi (Xc P w K mg base n_law_figures "_law_figures" s_law_figures f cdv A outer s H E) "str" := ⟨(gl_of2 f_law_figures (by decide +kernel)), T.m_str⟩
  have t0 : Ty (Xc P w K mg base n_law_figures "_law_figures" s_law_figures f cdv A outer s H E) "str" .str := ⟨b0, by decide +kernel, by decide +kernel, by decide +kernel⟩
  have g1 : Gl (Xc P w K mg base n_law_figures "_law_figures" s_law_figures f cdv A outer s H E) "_law_signs" := (gl_of2 f_law_figures (by decide +kernel))
  have c1 : Ce (Xc P w K mg base n_law_figures "_law_figures" s_law_figures f cdv A outer s H E) "_law_signs" r_law_signs := ce_of D_law_signs hr (by decide) (by decide +kernel)
  have rm : Rm (Xc P w K mg base n_law_figures "_law_figures" s_law_figures f cdv A outer s H E) := ⟨hr.units⟩
  have hG : startG n_law_figures [.int n] = [.sh (.int n), .un, .un, .un] := rfl
  rw [hG]; clear hG
  have s3 : Side (signsS.length ≤ sizeLine) := ⟨side_size (by decide +kernel)⟩
  have a2 : Side (atI signsS.cps.toList (n / 1458 % 94) = some (signsS.cps.toList.getD (n / 1458 % 94).toNat 0)) := sgn_at (by rw [sig_len]; omega)
  have e2 : (48271 : Int) ^ Int.toNat 2 = 2330089441 := by decide
  have a := getD_all (d := Str.empty) headL_ok (show (n / 27 % 6).toNat < headL.length by show _ < 6; omega)
  have b := figB_ok n
  have nb := num_bd n
  have q0 := num_short (num_bd n).1 (num_bd n).2
  have q1 := len_cut (l := none) (h := some 1) b
  have q2 := len_cut (l := some 1) (h := none) b
  have q3 : (⟨#[signsS.cps.toList.getD (n / 1458 % 94).toNat 0]⟩ : Str).length = 1 := rfl
  unfold figB sizeI numI at b q1 q2
  unfold numI at nb q0
  unfold headL at a
  have q0' := q0.1
  have b' := b.1
  have q1' := q1.1
  have q2' := q2.1
  have a' := a.1
  ktf_call "x"
  all_goals first
    | (refine ⟨side_size ?_⟩; (try simp only [Str.length_append]); omega)
    | exact side_strB 64 (Bd.of64 (by omega))
    | exact side_mul64 (by rw [e2]; omega)
    | (rename_i h; show _ = PyData.str (_ ++ (if n / 162 % 9 = 1 then _ else _)); rw [if_pos h]; rfl)
    | (rename_i h; show _ = PyData.str (_ ++ (if n / 162 % 9 = 1 then _ else _)); rw [if_neg h]; rfl)
def oddSL : List Str := ["/", "/", "/", "//", ":", ""]
def wordT (n : Int) : Str := if n % 3 = 0 then nameT (n / 3) else if n % 3 = 1 then figT (n / 3) else figT (n / 3) ++ oddSL.getD (n / 9 % 6).toNat Str.empty ++ figT (mixI n 3)
def r_law_word : List PyData → PyData → Prop := fun ds d => ∃ n, ds = [.int n] ∧ 0 ≤ n ∧ n < 2147483648 ∧ d = .str (wordT n)
theorem mix_ok (c k : Int) : 0 ≤ mixI c k ∧ mixI c k < 2147483648 := by
  unfold mixI
  omega
theorem oddSL_ok : ∀ x ∈ oddSL, Short 2 x := by
  have : oddSL.all (fun x => (decide (x.length ≤ 2) && x.cps.toList.all (fun c => decide (c < 128)))) = true := by decide +kernel
  exact fun x hx => short_lit (List.all_eq_true.mp this x hx)
theorem word_ok {n : Int} (h0 : 0 ≤ n) : Short 410 (wordT n) := by
  have a := getD_all (d := Str.empty) oddSL_ok (show (n / 9 % 6).toNat < oddSL.length by show _ < 6; omega)
  unfold wordT
  split
  · exact short_mono (name_ok (by omega)) (by decide)
  · split
    · exact short_mono (fig_ok (by omega)) (by decide)
    · exact short_mono (short_app (short_app (fig_ok (by omega)) a) (fig_ok (mix_ok n 3).1)) (by decide)
theorem ok_law_word {f : Addr} {fd : FuncData} (F : Fun K "_law_word" "_law_word" s_law_word f fd) (hm : mg "_law_word" = some (.ref f)) (T : Mg mg) (D_law_name : Dn P w K mg base 2 "_law_name" r_law_name) (D_law_figures : Dn P w K mg base 2 "_law_figures" r_law_figures) (D_law_mixed : Dn P w K mg base 1 "_law_mixed" r_law_mixed) : Dn P w K mg base 3 "_law_word" r_law_word := by
  refine dn_of F hm (F.binds (ps := ["_law_number"]) fun _ _ _ _ _ _ us hl => match us, hl with | [_], _ => rfl) ?_
  refine fn_ok F c_law_word (fun ds d hR => ?_) fun cdv A outer s H E B ds d hr hR => ?_
  · obtain ⟨n, rfl, h0, h1, rfl⟩ := hR
    rfl
  obtain ⟨n, rfl, h0, h1, rfl⟩ := hR
  have r0 : Rk (Xc P w K mg base n_law_word "_law_word" s_law_word f cdv A outer s H E) 0 "_law_number" := rk_of2 f_law_word rfl (by decide +kernel)
  have l0 : Lk (Xc P w K mg base n_law_word "_law_word" s_law_word f cdv A outer s H E) 0 "_law_number" := lk_of2 f_law_word rfl (by decide +kernel)
  have r1 : Rk (Xc P w K mg base n_law_word "_law_word" s_law_word f cdv A outer s H E) 1 "_law_one" := rk_of2 f_law_word rfl (by decide +kernel)
  have l1 : Lk (Xc P w K mg base n_law_word "_law_word" s_law_word f cdv A outer s H E) 1 "_law_one" := lk_of2 f_law_word rfl (by decide +kernel)
  have r2 : Rk (Xc P w K mg base n_law_word "_law_word" s_law_word f cdv A outer s H E) 2 "_law_sign" := rk_of2 f_law_word rfl (by decide +kernel)
  have l2 : Lk (Xc P w K mg base n_law_word "_law_word" s_law_word f cdv A outer s H E) 2 "_law_sign" := lk_of2 f_law_word rfl (by decide +kernel)
  have g0 : Gl (Xc P w K mg base n_law_word "_law_word" s_law_word f cdv A outer s H E) "_law_name" := (gl_of2 f_law_word (by decide +kernel))
  have c0 : Ce (Xc P w K mg base n_law_word "_law_word" s_law_word f cdv A outer s H E) "_law_name" r_law_name := ce_of D_law_name hr (by decide) (by decide +kernel)
  have g1 : Gl (Xc P w K mg base n_law_word "_law_word" s_law_word f cdv A outer s H E) "_law_figures" := (gl_of2 f_law_word (by decide +kernel))
  have c1 : Ce (Xc P w K mg base n_law_word "_law_word" s_law_word f cdv A outer s H E) "_law_figures" r_law_figures := ce_of D_law_figures hr (by decide) (by decide +kernel)
  have g2 : Gl (Xc P w K mg base n_law_word "_law_word" s_law_word f cdv A outer s H E) "_law_mixed" := (gl_of2 f_law_word (by decide +kernel))
  have c2 : Ce (Xc P w K mg base n_law_word "_law_word" s_law_word f cdv A outer s H E) "_law_mixed" r_law_mixed := ce_of D_law_mixed hr (by decide) (by decide +kernel)
  have rm : Rm (Xc P w K mg base n_law_word "_law_word" s_law_word f cdv A outer s H E) := ⟨hr.units⟩
  have hG : startG n_law_word [.int n] = [.sh (.int n), .un, .un] := rfl
  rw [hG]; clear hG
  have c1 : Cal r_law_mixed [.int n, .int 3] (.int (mixI n 3)) := ⟨_, _, rfl, by omega, by omega, rfl⟩
  have m3 := mix_ok n 3
  have c2 : Cal r_law_name [.int (n / 3)] (.str (nameT (n / 3))) := ⟨_, rfl, by omega, by omega, rfl⟩
  have c3 : Cal r_law_figures [.int (n / 3)] (.str (figT (n / 3))) := ⟨_, rfl, by omega, by omega, rfl⟩
  have c4 : Cal r_law_figures [.int (mixI n 3)] (.str (figT (mixI n 3))) := ⟨_, rfl, m3.1, m3.2, rfl⟩
  have a := (getD_all (d := Str.empty) oddSL_ok (show (n / 9 % 6).toNat < oddSL.length by show _ < 6; omega)).1
  have q1 := (fig_ok (n := n / 3) (by omega)).1
  have q2 := (fig_ok m3.1).1
  unfold oddSL at a
  by_cases h3 : n % 3 = 1
  all_goals ktf_call "x"
  all_goals first
    | (refine ⟨side_size ?_⟩; (try simp only [Str.length_append]); omega)
    | (rename_i h; show _ = PyData.str (if n % 3 = 0 then _ else _); rw [if_pos h])
    | (rename_i h; show _ = PyData.str (if n % 3 = 0 then _ else if n % 3 = 1 then _ else _); rw [if_neg h, if_pos h3])
    | (rename_i h; show _ = PyData.str (if n % 3 = 0 then _ else if n % 3 = 1 then _ else _); rw [if_neg h, if_neg h3]; rfl)
/-! the law's look at a name -/
def signD : PyData → Nat
  | .str z => z.cps.getD 0 0
  | _ => 0
theorem plain_strs : ∀ l : List PyData, (∀ d ∈ l, ∃ c, c < 128 ∧ d = .str ⟨#[c]⟩) → PyData.canLayAll0 l = true ∧ PyData.depthAll l = 0 := fun l => by
  induction l with
  | nil => intro _; exact ⟨rfl, rfl⟩
  | cons d r ih =>
    intro h
    obtain ⟨c, hc, rfl⟩ := h d List.mem_cons_self
    obtain ⟨h1, h2⟩ := ih fun x hx => h x (List.mem_cons_of_mem _ hx)
    constructor
    · show (PyData.strOk ⟨#[c]⟩ && PyData.canLayAll0 r) = true
      rw [h1, Bool.and_true]
      unfold PyData.strOk
      simp
      omega
    · show max 0 (PyData.depthAll r) = 0
      rw [h2]; rfl
def badD (S : Str) (d : PyData) : Bool := !decide (signD d ∈ S.cps.toList)
def badL (S y : Str) : List PyData := ((signsD y).filter (badD S)).map id
theorem badL_empty (S y : Str) : (badL S y).isEmpty = y.cps.toList.all (fun c => decide (c ∈ S.cps.toList)) := by
  unfold badL signsD
  generalize y.cps.toList = l
  induction l with
  | nil => rfl
  | cons c r ih =>
    rw [List.map_cons, List.filter_cons, List.all_cons]
    by_cases h : c ∈ S.cps.toList
    · rw [decide_eq_true h, show badD S (.str ⟨#[c]⟩) = false from by show (!decide (c ∈ S.cps.toList)) = false; rw [decide_eq_true h]; rfl]
      simpa using ih
    · rw [decide_eq_false h, show badD S (.str ⟨#[c]⟩) = true from by show (!decide (c ∈ S.cps.toList)) = true; rw [decide_eq_false h]; rfl]
      rfl
theorem badL_mem {S y : Str} (h : Asc y) : ∀ d ∈ badL S y, ∃ c, c < 128 ∧ d = .str ⟨#[c]⟩ := fun d hd => by
  unfold badL at hd
  rw [List.map_id] at hd
  have := (List.mem_filter.mp hd).1
  unfold signsD at this
  obtain ⟨c, hc, e⟩ := List.mem_map.mp this
  exact ⟨c, h c hc, e.symm⟩
theorem badL_plain {S y : Str} (h : Asc y) : SeqAt.shaped (.list (badL S y)) = true := by
  obtain ⟨h1, h2⟩ := plain_strs _ (badL_mem (S := S) h)
  unfold SeqAt.shaped
  show (PyData.canLayAll0 (badL S y) && decide (PyData.depthAll (badL S y) + 1 ≤ 64)) = true
  rw [h1, h2]; rfl
theorem eqv_nil (l : List PyData) : PyData.eqv (.list l) (.list []) = l.isEmpty := by
  cases l <;> rfl
abbrev lf2S : Str := Str.ofString "abcdefghijklmnopqrstuvwxyz0123456789"
abbrev told9 : List PyData := toldL.map .str ++ [.str (Str.ofString "")]
def lawName (y : Str) : Bool := !inD (.str y) told9 && ((badL lf2S y).isEmpty && (decide (y.length ≤ 8) && !decide (y.cps.toList.headD 0 ∈ digS.cps.toList)))
def lawNameD : PyData → Bool
  | .str y => lawName y
  | _ => false
def ascD : PyData → Prop
  | .str y => Short 100000 y
  | _ => True
def r_law_is_name : List PyData → PyData → Prop := fun ds d => ∃ x, ds = [x] ∧ ascD x ∧ d = .bool (lawNameD x)
theorem ok_law_is_name {f : Addr} {fd : FuncData} (F : Fun K "_law_is_name" "_law_is_name" s_law_is_name f fd) (hm : mg "_law_is_name" = some (.ref f)) (T : Mg mg) (D_law_told : Dn P w K mg base 1 "_law_told" r_law_told) : Dn P w K mg base 2 "_law_is_name" r_law_is_name := by
  refine dn_of F hm (F.binds (ps := ["_law_thing"]) fun _ _ _ _ _ _ us hl => match us, hl with | [_], _ => rfl) ?_
  refine fn_ok F c_law_is_name (fun ds d hR => ?_) fun cdv A outer s H E B ds d hr hR => ?_
  · obtain ⟨x, rfl, hx, rfl⟩ := hR
    rfl
  obtain ⟨x, rfl, hx, rfl⟩ := hR
  have r0 : Rk (Xc P w K mg base n_law_is_name "_law_is_name" s_law_is_name f cdv A outer s H E) 0 "_law_thing" := rk_of2 f_law_is_name rfl (by decide +kernel)
  have l0 : Lk (Xc P w K mg base n_law_is_name "_law_is_name" s_law_is_name f cdv A outer s H E) 0 "_law_thing" := lk_of2 f_law_is_name rfl (by decide +kernel)
  have r1 : Rk (Xc P w K mg base n_law_is_name "_law_is_name" s_law_is_name f cdv A outer s H E) 1 "_law_bad" := rk_of2 f_law_is_name rfl (by decide +kernel)
  have l1 : Lk (Xc P w K mg base n_law_is_name "_law_is_name" s_law_is_name f cdv A outer s H E) 1 "_law_bad" := lk_of2 f_law_is_name rfl (by decide +kernel)
  have b0 : Bi (Xc P w K mg base n_law_is_name "_law_is_name" s_law_is_name f cdv A outer s H E) "isinstance" := ⟨(gl_of2 f_law_is_name (by decide +kernel)), T.m_isinstance⟩
  have b1 : Bi (Xc P w K mg base n_law_is_name "_law_is_name" s_law_is_name f cdv A outer s H E) "str" := ⟨(gl_of2 f_law_is_name (by decide +kernel)), T.m_str⟩
  have t1 : Ty (Xc P w K mg base n_law_is_name "_law_is_name" s_law_is_name f cdv A outer s H E) "str" .str := ⟨b1, by decide +kernel, by decide +kernel, by decide +kernel⟩
  have g2 : Gl (Xc P w K mg base n_law_is_name "_law_is_name" s_law_is_name f cdv A outer s H E) "_law_told" := (gl_of2 f_law_is_name (by decide +kernel))
  have c2 : Ce (Xc P w K mg base n_law_is_name "_law_is_name" s_law_is_name f cdv A outer s H E) "_law_told" r_law_told := ce_of D_law_told hr (by decide) (by decide +kernel)
  have b3 : Bi (Xc P w K mg base n_law_is_name "_law_is_name" s_law_is_name f cdv A outer s H E) "len" := ⟨(gl_of2 f_law_is_name (by decide +kernel)), T.m_len⟩
  have rm : Rm (Xc P w K mg base n_law_is_name "_law_is_name" s_law_is_name f cdv A outer s H E) := ⟨hr.units⟩
  have hG : startG n_law_is_name [x] = [.sh (x), .un, .un] := rfl
  rw [hG]; clear hG
  cases x with
  | str y =>
    have hy : Short 100000 y := hx
    have sh := badL_plain (S := lf2S) hy.2
    have s1 : Side (y.length ≤ sizeLine) := ⟨side_size (Nat.le_trans hy.1 (by decide))⟩
    have hyl : (Xc P w K mg base n_law_is_name "_law_is_name" s_law_is_name f cdv A outer s H E).env.scope.names.lookup ("_law_bad" : Str) = some NameKind.local := (show (defScope s_law_is_name).names.lookup ("_law_bad" : Str) = some NameKind.local by decide +kernel)
    show Xb _ _ _ _ (RetP (.bool (lawName y)))
    have fl : ∀ b, inD (.str y) told9 = b → inD (.str y) (List.map PyData.str toldL ++ [PyData.str (Str.ofString "")]) = b := fun b h => h
    refine xbe_cons ?_
    refine' xs_if ?tst ?_ ?_
    case tst => ktf_call "x"
    · ktf_call "x"
      rename_i h
      rcases h with h | h
      · cases h
      · refine congrArg PyData.bool ?_
        unfold lawName
        rw [h]; rfl
    · ktf_call "xi"
      rename_i h
      refine xb_nil ?_
      refine seq_nx ?_
      refine xbe_cons ?_
      refine xs_setLc (i := 1) (own := [("_law_sign", 2)]) (js := [2]) (ds := signsD y) false (badD lf2S) id (fun d => [.sh (.str y), .un, .sh d]) l1 hyl rfl (blkOk_by (N := n_law_is_name) (sc := defScope s_law_is_name) (by decide +kernel)) (sw_true rfl hyl rfl (by decide +kernel)) (fun _ => rfl) ?_ ?_ (fun _ h => h) ?_ ?_
      · ktf_call "x"
      · unfold signsD
        rw [List.length_map, ← len_list]
        exact Nat.le_trans hy.1 (by decide)
      · rintro X' ⟨s', H', C, cl, fp, rfl⟩ B' d hd
        unfold signsD at hd
        obtain ⟨c, _, rfl⟩ := List.mem_map.mp hd
        refine ⟨?_, ?_, fun _ => ?_⟩
        · refine xge_name (i := 2) ⟨l1.nd, rfl, .inl rfl, .inr rfl⟩ ?_
          ktf_call "sg"
        · show Xq _ _ _ _ (!decide (c ∈ lf2S.cps.toList))
          refine xq_one ?_
          refine' xte_cmp ?_ (xe_var (d := .str ⟨#[c]⟩) (i := 2) ⟨rfl, .inl rfl, by decide +kernel, by decide +kernel⟩ ?_) ?_ ?_
          all_goals ktf_call "x"
        · refine xe_var (i := 2) ⟨rfl, .inl rfl, by decide +kernel, by decide +kernel⟩ ?_
          ktf_call "tt"
      · show seqP _ _ _ _ (.nx [.sh (.str y), .sh (.list (badL lf2S y)), .un])
        rcases hl : y.cps.toList with _ | ⟨c, r⟩
        · exfalso
          have hy0 : y = Str.ofString "" := str_eq (hl.trans (show (Str.ofString "").cps.toList = [] by decide +kernel).symm)
          subst hy0
          have := h.2
          exact absurd this (by decide +kernel)
        · have s2 : Side (atI y.cps.toList 0 = some c) := ⟨by rw [hl]; exact atI_nat (j := 0) rfl⟩
          have e8 : decide ((y.length : Int) ≤ 8) = decide (y.length ≤ 8) := decide_eq_decide.mpr (by omega)
          have hn : inD (.str y) told9 = false := h.2
          ktf_call "x"
          refine congrArg PyData.bool ?_
          unfold lawName
          rw [eqv_nil, hn, hl, e8]
          rfl
  | _ => (ktf_call "x"; ktf_call "xf"; all_goals first | rfl)
/-! the law's look at a number -/
def r_law_read : List PyData → PyData → Prop := fun ds d => ∃ y, ds = [.str y] ∧ Short 100000 y ∧ d = optI (figI 7 y)
theorem dig_ind {c : Nat} (h : 48 ≤ c ∧ c ≤ 57) : Ind digS ⟨#[c]⟩ (c - 48) := by
  have : c = 48 ∨ c = 49 ∨ c = 50 ∨ c = 51 ∨ c = 52 ∨ c = 53 ∨ c = 54 ∨ c = 55 ∨ c = 56 ∨ c = 57 := by omega
  rcases this with rfl | rfl | rfl | rfl | rfl | rfl | rfl | rfl | rfl | rfl <;> exact ⟨⟨[], by decide +kernel⟩⟩
theorem ten_signs : digS.cps.toList = [48, 49, 50, 51, 52, 53, 54, 55, 56, 57] := by decide +kernel
theorem dig_mem {c : Nat} : c ∈ digS.cps.toList ↔ 48 ≤ c ∧ c ≤ 57 := by
  rw [ten_signs]
  simp only [List.mem_cons, List.not_mem_nil, or_false]
  omega
theorem nil_signs : (Str.ofString "").cps.toList = [] := by decide +kernel
theorem fig_len {y : Str} {c : Nat} {r : List Nat} (hl : y.cps.toList = c :: r) : y.length = r.length + 1 := by rw [len_list, hl]; rfl
theorem sgn_zero2 {c : Nat} : (⟨#[c]⟩ : Str) = Str.ofString "0" ↔ c = 48 := by
  rw [show Str.ofString "0" = ⟨#[48]⟩ from str_eq (show (Str.ofString "0").cps.toList = [48] by decide +kernel)]
  constructor
  · intro h
    have := congrArg (fun s : Str => s.cps.toList) h
    simpa using this
  · intro h; rw [h]
theorem figOk_parts {y : Str} {c : Nat} {r : List Nat} (hl : y.cps.toList = c :: r) : figOk y.cps.toList = ((badL digS y).isEmpty && !(decide (c = 48) && decide (1 < y.length))) := by
  unfold figOk
  rw [badL_empty, hl, fig_len hl]
  have e : (c :: r).all digC = (c :: r).all (fun c => decide (c ∈ digS.cps.toList)) := by
    refine congrArg (fun f => List.all (c :: r) f) (funext fun x => ?_)
    unfold digC
    rw [← Bool.decide_and]
    exact decide_eq_decide.mpr dig_mem.symm
  rw [e]
  congr 1
theorem read_no {y : Str} {c : Nat} {r : List Nat} (hl : y.cps.toList = c :: r) (h : y = Str.ofString "" ∨ 7 < (y.length : Int) ∨ (PyData.list (badL digS y)).eqv (.list []) = false ∨ (⟨#[c]⟩ : Str) = Str.ofString "0" ∧ 1 < (y.length : Int)) : figI 7 y = none := by
  unfold figI
  rw [figOk_parts hl]
  refine if_neg fun z => ?_
  rw [eqv_nil] at h
  simp only [Bool.and_eq_true, decide_eq_true_eq, Bool.not_eq_true', Bool.and_eq_false_iff, decide_eq_false_iff_not] at z
  obtain ⟨z1, z3, z4⟩ := z
  rcases h with h | h | h | ⟨h, h'⟩
  · rw [h, nil_signs] at hl; cases hl
  · omega
  · rw [z3] at h; cases h
  · rw [sgn_zero2] at h
    rcases z4 with z4 | z4
    · exact z4 h
    · omega
theorem read_yes {y : Str} {c : Nat} {r : List Nat} (hl : y.cps.toList = c :: r) (h : ¬ y = Str.ofString "" ∧ ¬ 7 < (y.length : Int) ∧ (PyData.list (badL digS y)).eqv (.list []) = true ∧ (¬ (⟨#[c]⟩ : Str) = Str.ofString "0" ∨ ¬ 1 < (y.length : Int))) : figI 7 y = some ((digitsVal y.cps.toList : Nat) : Int) ∧ ∀ x ∈ y.cps.toList, 48 ≤ x ∧ x ≤ 57 := by
  obtain ⟨h1, h2, h3, h4⟩ := h
  rw [eqv_nil] at h3
  constructor
  · unfold figI
    rw [figOk_parts hl]
    refine if_pos ?_
    simp only [Bool.and_eq_true, decide_eq_true_eq, Bool.not_eq_true', Bool.and_eq_false_iff, decide_eq_false_iff_not]
    refine ⟨by omega, h3, ?_⟩
    rw [sgn_zero2] at h4
    rcases h4 with h4 | h4
    · exact .inl h4
    · exact .inr (by omega)
  · rw [badL_empty, List.all_eq_true] at h3
    intro x hx
    exact dig_mem.mp (of_decide_eq_true (h3 x hx))
theorem digits_take {l : List Nat} {k c : Nat} (h : l[k]? = some c) (hc : 48 ≤ c) : ((digitsVal (l.take (k + 1)) : Nat) : Int) = 10 * ((digitsVal (l.take k) : Nat) : Int) + ((c - 48 : Nat) : Int) := by
  unfold digitsVal
  rw [List.take_add_one, h, Option.toList_some, List.foldl_append, List.foldl_cons, List.foldl_nil]
  omega
theorem ok_law_read {f : Addr} {fd : FuncData} (F : Fun K "_law_read" "_law_read" s_law_read f fd) (hm : mg "_law_read" = some (.ref f)) (T : Mg mg) : Dn P w K mg base 1 "_law_read" r_law_read := by
  refine dn_of F hm (F.binds (ps := ["_law_word_here"]) fun _ _ _ _ _ _ us hl => match us, hl with | [_], _ => rfl) ?_
  refine fn_ok F c_law_read (fun ds d hR => ?_) fun cdv A outer s H E B ds d hr hR => ?_
  · obtain ⟨y, rfl, hy, rfl⟩ := hR
    rfl
  obtain ⟨y, rfl, hy, rfl⟩ := hR
  have r0 : Rk (Xc P w K mg base n_law_read "_law_read" s_law_read f cdv A outer s H E) 0 "_law_word_here" := rk_of2 f_law_read rfl (by decide +kernel)
  have l0 : Lk (Xc P w K mg base n_law_read "_law_read" s_law_read f cdv A outer s H E) 0 "_law_word_here" := lk_of2 f_law_read rfl (by decide +kernel)
  have r1 : Rk (Xc P w K mg base n_law_read "_law_read" s_law_read f cdv A outer s H E) 1 "_law_sign" := rk_of2 f_law_read rfl (by decide +kernel)
  have l1 : Lk (Xc P w K mg base n_law_read "_law_read" s_law_read f cdv A outer s H E) 1 "_law_sign" := lk_of2 f_law_read rfl (by decide +kernel)
  have r2 : Rk (Xc P w K mg base n_law_read "_law_read" s_law_read f cdv A outer s H E) 2 "_law_bad" := rk_of2 f_law_read rfl (by decide +kernel)
  have l2 : Lk (Xc P w K mg base n_law_read "_law_read" s_law_read f cdv A outer s H E) 2 "_law_bad" := lk_of2 f_law_read rfl (by decide +kernel)
  have r3 : Rk (Xc P w K mg base n_law_read "_law_read" s_law_read f cdv A outer s H E) 3 "_law_found" := rk_of2 f_law_read rfl (by decide +kernel)
  have l3 : Lk (Xc P w K mg base n_law_read "_law_read" s_law_read f cdv A outer s H E) 3 "_law_found" := lk_of2 f_law_read rfl (by decide +kernel)
  have b0 : Bi (Xc P w K mg base n_law_read "_law_read" s_law_read f cdv A outer s H E) "len" := ⟨(gl_of2 f_law_read (by decide +kernel)), T.m_len⟩
  have rm : Rm (Xc P w K mg base n_law_read "_law_read" s_law_read f cdv A outer s H E) := ⟨hr.units⟩
  have hG : startG n_law_read [.str y] = [.sh (.str y), .un, .un, .un] := rfl
  rw [hG]; clear hG
  have sh := badL_plain (S := digS) hy.2
  have hyl : (Xc P w K mg base n_law_read "_law_read" s_law_read f cdv A outer s H E).env.scope.names.lookup ("_law_bad" : Str) = some NameKind.local := (show (defScope s_law_read).names.lookup ("_law_bad" : Str) = some NameKind.local by decide +kernel)
  refine xbe_cons ?_
  refine xs_setLc (i := 2) (own := [("_law_sign", 1)]) (js := [1]) (ds := signsD y) false (badD digS) id (fun d => [.sh (.str y), .sh d, .un, .un]) l2 hyl rfl (blkOk_by (N := n_law_read) (sc := defScope s_law_read) (by decide +kernel)) (sw_true rfl hyl rfl (by decide +kernel)) (fun _ => rfl) ?_ ?_ (fun _ h => h) ?_ ?_
  · ktf_call "x"
  · unfold signsD
    rw [List.length_map, ← len_list]
    exact Nat.le_trans hy.1 (by decide)
  · rintro X' ⟨s', H', C, cl, fp, rfl⟩ B' d hd
    unfold signsD at hd
    obtain ⟨c, _, rfl⟩ := List.mem_map.mp hd
    refine ⟨?_, ?_, fun _ => ?_⟩
    · refine xge_name (i := 1) ⟨l1.nd, rfl, .inl rfl, .inr rfl⟩ ?_
      ktf_call "sg"
    · show Xq _ _ _ _ (!decide (c ∈ digS.cps.toList))
      refine xq_one ?_
      refine' xte_cmp ?_ (xe_var (d := .str ⟨#[c]⟩) (i := 1) ⟨rfl, .inl rfl, by decide +kernel, by decide +kernel⟩ ?_) ?_ ?_
      all_goals ktf_call "x"
    · refine xe_var (i := 1) ⟨rfl, .inl rfl, by decide +kernel, by decide +kernel⟩ ?_
      ktf_call "tt"
  · show seqP _ _ _ _ (.nx [.sh (.str y), .un, .sh (.list (badL digS y)), .un])
    have s1 : Side (y.length ≤ sizeLine) := ⟨side_size (Nat.le_trans hy.1 (by decide))⟩
    rcases hl : y.cps.toList with _ | ⟨c, r⟩
    · have hy0 : y = Str.ofString "" := str_eq (hl.trans nil_signs.symm)
      subst hy0
      ktf_call "x"
      ktf_call "xf"
      unfold figI figOk
      rw [nil_signs]
      simp [optI]
    · have s2 : Side (atI y.cps.toList 0 = some c) := ⟨by rw [hl]; exact atI_nat (j := 0) rfl⟩
      ktf_call "x"
      · rename_i h
        exact congrArg optI (read_no hl h).symm
      · rename_i h
        obtain ⟨h1, h2⟩ := read_yes hl h
        have l7 : y.cps.toList.length ≤ 7 := by rw [← len_list]; omega
        rw [h1]
        refine xs_for PassesOwn.never rfl (fun _ => rfl) (ds := signsD y) ?_ (fun k Γ => ∃ z, Γ = [.sh (.str y), z, .sh (.list (badL digS y)), .sh (.int ((digitsVal (y.cps.toList.take k) : Nat) : Int))]) ⟨_, rfl⟩ ?_ ?_
        · ktf_call "x"
        · rintro B' k d Γ' hk ⟨z, rfl⟩
          obtain ⟨c', hc', rfl⟩ : ∃ c', y.cps.toList[k]? = some c' ∧ d = .str ⟨#[c']⟩ := by
            unfold signsD at hk
            rw [List.getElem?_map] at hk
            cases hg : y.cps.toList[k]? with
            | none => rw [hg] at hk; cases hk
            | some c' => rw [hg] at hk; cases hk; exact ⟨c', rfl, rfl⟩
          have hd := h2 c' (List.mem_of_getElem? hc')
          have ind := dig_ind hd
          have vb : digitsVal (y.cps.toList.take k) < 10000000 := by
            refine Nat.lt_of_lt_of_le (digitsVal_bound _ fun x hx => (h2 x (List.mem_of_mem_take hx)).2) (Nat.le_trans (Nat.pow_le_pow_right (by decide) (show _ ≤ 7 from ?_)) (by decide))
            exact Nat.le_trans (List.length_take_le' _ _) l7
          refine' ⟨_, _, ?tgt, ?bdy⟩
          case tgt => ktf_call "x"
          case bdy =>
            ktf_call "x"
            exact ⟨_, by rw [digits_take hc' hd.1]⟩
        · rintro Γ' ⟨z, rfl⟩
          show seqP _ _ _ _ (.nx _)
          rw [show (signsD y).length = y.cps.toList.length from by unfold signsD; rw [List.length_map], List.take_length]
          ktf_call "x"
          rfl
/-! the law's words of a row -/
def wsI : List Nat → List Str → Str → List Str × Str
  | [], f, b => (f, b)
  | c :: r, f, b => if (⟨#[c]⟩ : Str) = Str.ofString "#" then (f, b) else if ¬ (⟨#[c]⟩ : Str) = Str.ofString " " then wsI r f (b ++ ⟨#[c]⟩) else if ¬ b = Str.ofString "" then wsI r (f ++ [b]) (Str.ofString "") else wsI r f b
def endI (z : List Str × Str) : List Str := z.1 ++ (if z.2 = Str.ofString "" then [] else [z.2])
def wordsI (y : Str) : List Str := endI (wsI y.cps.toList [] (Str.ofString ""))
def r_law_words : List PyData → PyData → Prop := fun ds d => ∃ y, ds = [.str y] ∧ Short 100000 y ∧ d = .list ((wordsI y).map .str)
theorem ok_law_words {f : Addr} {fd : FuncData} (F : Fun K "_law_words" "_law_words" s_law_words f fd) (hm : mg "_law_words" = some (.ref f)) (T : Mg mg) : Dn P w K mg base 1 "_law_words" r_law_words := by
  refine dn_of F hm (F.binds (ps := ["_law_row"]) fun _ _ _ _ _ _ us hl => match us, hl with | [_], _ => rfl) ?_
  refine fn_ok F c_law_words (fun ds d hR => ?_) fun cdv A outer s H E B ds d hr hR => ?_
  · obtain ⟨y, rfl, hy, rfl⟩ := hR
    rfl
  obtain ⟨y, rfl, hy, rfl⟩ := hR
  have r0 : Rk (Xc P w K mg base n_law_words "_law_words" s_law_words f cdv A outer s H E) 0 "_law_row" := rk_of2 f_law_words rfl (by decide +kernel)
  have l0 : Lk (Xc P w K mg base n_law_words "_law_words" s_law_words f cdv A outer s H E) 0 "_law_row" := lk_of2 f_law_words rfl (by decide +kernel)
  have r1 : Rk (Xc P w K mg base n_law_words "_law_words" s_law_words f cdv A outer s H E) 1 "_law_found" := rk_of2 f_law_words rfl (by decide +kernel)
  have l1 : Lk (Xc P w K mg base n_law_words "_law_words" s_law_words f cdv A outer s H E) 1 "_law_found" := lk_of2 f_law_words rfl (by decide +kernel)
  have r2 : Rk (Xc P w K mg base n_law_words "_law_words" s_law_words f cdv A outer s H E) 2 "_law_base" := rk_of2 f_law_words rfl (by decide +kernel)
  have l2 : Lk (Xc P w K mg base n_law_words "_law_words" s_law_words f cdv A outer s H E) 2 "_law_base" := lk_of2 f_law_words rfl (by decide +kernel)
  have r3 : Rk (Xc P w K mg base n_law_words "_law_words" s_law_words f cdv A outer s H E) 3 "_law_sign" := rk_of2 f_law_words rfl (by decide +kernel)
  have l3 : Lk (Xc P w K mg base n_law_words "_law_words" s_law_words f cdv A outer s H E) 3 "_law_sign" := lk_of2 f_law_words rfl (by decide +kernel)
  have b0 : Bi (Xc P w K mg base n_law_words "_law_words" s_law_words f cdv A outer s H E) "int" := ⟨(gl_of2 f_law_words (by decide +kernel)), T.m_int⟩
  have t0 : Ty (Xc P w K mg base n_law_words "_law_words" s_law_words f cdv A outer s H E) "int" .int := ⟨b0, by decide +kernel, by decide +kernel, by decide +kernel⟩
  have rm : Rm (Xc P w K mg base n_law_words "_law_words" s_law_words f cdv A outer s H E) := ⟨hr.units⟩
  have hG : startG n_law_words [.str y] = [.sh (.str y), .un, .un, .un] := rfl
  rw [hG]; clear hG
  have hyl : y.cps.toList.length ≤ 100000 := by rw [← len_list]; exact hy.1
  have e0 : (Str.ofString "").length = 0 := by decide +kernel
  refine xbe_cons ?_
  refine xse_setO (ds := []) l1 ⟨rfl⟩ (xle_lst xa_nil ⟨by decide⟩) ⟨rfl⟩ ?_
  refine seq_nx ?_
  refine xbe_cons ?_
  refine' xse_set l2 ?_ xp_str ⟨rfl⟩ ?_
  · ktf_call "x"
  refine seq_nx ?_
  refine xbe_cons ?_
  generalize hPP : seqP _ _ _ _ = PP
  have post : ∀ (z : Sl) (f : List Str) (b : Str), f.length ≤ 100000 → wsI y.cps.toList [] (Str.ofString "") = (f, b) → PP (.nx [.sh (.str y), .ow (f.map .str), .sh (.str b), z]) := fun z f b hf hw => by
    subst hPP
    refine seq_nx ?_
    refine xb_free (i := 1) rfl ?_
    show Xb _ _ [.sh (.str y), .sh (.list (f.map .str)), .sh (.str b), z] _ _
    ktf_call "x"
    · refine ⟨side_size ?_⟩
      show 1 * _ ≤ _
      split <;> decide
    · refine ⟨side_size ?_⟩
      rw [List.length_map]
      split <;> (show _ + _ ≤ _; simp; omega)
    · unfold wordsI endI
      rw [hw]
      by_cases hb0 : b = Str.ofString ""
      · simp [hb0]
      · simp [hb0]
  generalize hW : wsI y.cps.toList [] (Str.ofString "") = W at post
  refine xs_for PassesOwn.never rfl (fun _ => rfl) (ds := signsD y) ?_ (fun k Γ => ∃ z f b, Γ = [.sh (.str y), .ow (f.map .str), .sh (.str b), z] ∧ f.length ≤ k ∧ b.length ≤ k ∧ wsI (y.cps.toList.drop k) f b = W) ⟨_, [], Str.ofString "", rfl, by decide, by rw [e0]; decide, hW⟩ ?_ ?_
  · ktf_call "x"
  · rintro B' k d Γ' hk ⟨z, f, b, rfl, hf, hb, hw⟩
    obtain ⟨c', hc', rfl⟩ : ∃ c', y.cps.toList[k]? = some c' ∧ d = .str ⟨#[c']⟩ := by
      unfold signsD at hk
      rw [List.getElem?_map] at hk
      cases hg : y.cps.toList[k]? with
      | none => rw [hg] at hk; cases hk
      | some c' => rw [hg] at hk; cases hk; exact ⟨c', rfl, rfl⟩
    obtain ⟨hk1, hk2⟩ := List.getElem?_eq_some_iff.mp hc'
    have hk3 : k ≤ 100000 := by omega
    have q1 : (⟨#[c']⟩ : Str).length = 1 := rfl
    have s1 : Side (b.length + (⟨#[c']⟩ : Str).length ≤ sizeLine) := ⟨side_size (by omega)⟩
    have s2 : Side ((f.map PyData.str).length < sizeLine) := ⟨by rw [List.length_map]; exact Nat.lt_of_le_of_lt (show _ ≤ 100000 by omega) (by rw [sizeLine_eq]; decide)⟩
    rw [List.drop_eq_getElem_cons hk1, hk2] at hw
    unfold wsI at hw
    refine' ⟨_, _, ?tgt, ?bdy⟩
    case tgt => ktf_call "x"
    case bdy =>
      ktf_call "x"
      · rename_i h
        rw [if_pos h] at hw
        exact post _ f b (by omega) hw.symm
      · rename_i h h2
        rw [if_neg h, if_pos h2] at hw
        exact ⟨_, f, _, rfl, by omega, by rw [Str.length_append]; omega, hw⟩
      · rename_i h h2 h3
        rw [if_neg h, if_neg (not_not_intro h2), if_pos h3] at hw
        exact ⟨_, f ++ [b], Str.ofString "", by rw [List.map_append]; rfl, by rw [List.length_append]; exact Nat.succ_le_succ hf, by rw [e0]; omega, hw⟩
      · rename_i h h2 h3
        rw [if_neg h, if_neg (not_not_intro h2), if_neg (not_not_intro h3)] at hw
        exact ⟨_, f, b, rfl, by omega, by omega, hw⟩
  · rintro Γ' ⟨z, f, b, rfl, hf, hb, hw⟩
    rw [show (signsD y).length = y.cps.toList.length from by unfold signsD; rw [List.length_map]] at hf hb hw
    rw [List.drop_length] at hw
    exact post z f b (by omega) hw.symm
/-! the law's look at odds -/
def r_law_read_odds : List PyData → PyData → Prop := fun ds d => ∃ y, ds = [.str y] ∧ Short 100000 y ∧ d = oddsD y
theorem part_free {y a m b : Str} (h : Part y (Str.ofString "/") a m b) : (Txt.partition y (Str.ofString "/")).1 = a ∧ (Txt.partition y (Str.ofString "/")).2.2 = b := by rw [h.h]; exact ⟨rfl, rfl⟩
theorem short_app_l {k : Nat} {x y : Str} (h : Short k (x ++ y)) : Short k x ∧ Short k y := by
  have e : (x ++ y).cps.toList = x.cps.toList ++ y.cps.toList := tl_append x y
  have l := h.1
  rw [Str.length_append] at l
  exact ⟨⟨by omega, fun c hc => h.2 c (by rw [e]; exact List.mem_append_left _ hc)⟩, ⟨by omega, fun c hc => h.2 c (by rw [e]; exact List.mem_append_right _ hc)⟩⟩
theorem fig7_nil : figI 7 (Str.ofString "") = none := by
  unfold figI figOk
  rw [nil_signs]
  simp
theorem cut_one (d : PyData) (ds : List PyData) : cutD (d :: ds) (some 1) none = ds := by
  unfold cutD HT.sIx
  simp
theorem ok_law_read_odds {f : Addr} {fd : FuncData} (F : Fun K "_law_read_odds" "_law_read_odds" s_law_read_odds f fd) (hm : mg "_law_read_odds" = some (.ref f)) (T : Mg mg) (D_law_read : Dn P w K mg base 1 "_law_read" r_law_read) : Dn P w K mg base 2 "_law_read_odds" r_law_read_odds := by
  refine dn_of F hm (F.binds (ps := ["_law_word_here"]) fun _ _ _ _ _ _ us hl => match us, hl with | [_], _ => rfl) ?_
  refine fn_ok F c_law_read_odds (fun ds d hR => ?_) fun cdv A outer s H E B ds d hr hR => ?_
  · obtain ⟨y, rfl, hy, rfl⟩ := hR
    rfl
  obtain ⟨y, rfl, hy, rfl⟩ := hR
  have r0 : Rk (Xc P w K mg base n_law_read_odds "_law_read_odds" s_law_read_odds f cdv A outer s H E) 0 "_law_word_here" := rk_of2 f_law_read_odds rfl (by decide +kernel)
  have l0 : Lk (Xc P w K mg base n_law_read_odds "_law_read_odds" s_law_read_odds f cdv A outer s H E) 0 "_law_word_here" := lk_of2 f_law_read_odds rfl (by decide +kernel)
  have r1 : Rk (Xc P w K mg base n_law_read_odds "_law_read_odds" s_law_read_odds f cdv A outer s H E) 1 "_law_parts" := rk_of2 f_law_read_odds rfl (by decide +kernel)
  have l1 : Lk (Xc P w K mg base n_law_read_odds "_law_read_odds" s_law_read_odds f cdv A outer s H E) 1 "_law_parts" := lk_of2 f_law_read_odds rfl (by decide +kernel)
  have r2 : Rk (Xc P w K mg base n_law_read_odds "_law_read_odds" s_law_read_odds f cdv A outer s H E) 2 "_law_pair_here" := rk_of2 f_law_read_odds rfl (by decide +kernel)
  have l2 : Lk (Xc P w K mg base n_law_read_odds "_law_read_odds" s_law_read_odds f cdv A outer s H E) 2 "_law_pair_here" := lk_of2 f_law_read_odds rfl (by decide +kernel)
  have g0 : Gl (Xc P w K mg base n_law_read_odds "_law_read_odds" s_law_read_odds f cdv A outer s H E) "_law_read" := (gl_of2 f_law_read_odds (by decide +kernel))
  have c0 : Ce (Xc P w K mg base n_law_read_odds "_law_read_odds" s_law_read_odds f cdv A outer s H E) "_law_read" r_law_read := ce_of D_law_read hr (by decide) (by decide +kernel)
  have b1 : Bi (Xc P w K mg base n_law_read_odds "_law_read_odds" s_law_read_odds f cdv A outer s H E) "len" := ⟨(gl_of2 f_law_read_odds (by decide +kernel)), T.m_len⟩
  have rm : Rm (Xc P w K mg base n_law_read_odds "_law_read_odds" s_law_read_odds f cdv A outer s H E) := ⟨hr.units⟩
  have hG : startG n_law_read_odds [.str y] = [.sh (.str y), .un, .un] := rfl
  rw [hG]; clear hG
  have s0 : Side (y.length + 2 ≤ sizeLine) := ⟨side_size (Nat.le_trans (Nat.add_le_add_right hy.1 2) (by decide))⟩
  rcases split_cases y with ⟨hs, hp⟩ | ⟨a, b, r, hs, hj, hp⟩
  · obtain ⟨p1, p2⟩ := part_free hp
    have hint : IfF := ⟨trivial⟩
    have a1 : Side (atI ((Txt.split y (Str.ofString "/")).map PyData.str) 0 = some (.str y)) := ⟨by rw [hs]; exact atI_nat (j := 0) rfl⟩
    have a2 : Side (cutD ((Txt.split y (Str.ofString "/")).map PyData.str) (some 1) none = ([] : List Str).map .str) := ⟨by rw [hs]; rfl⟩
    have k1 : Cal r_law_read [.str y] (optI (figI 7 y)) := ⟨_, rfl, hy, rfl⟩
    have k2 : Cal r_law_read [.str (Txt.join (Str.ofString "/") [])] .none := ⟨_, rfl, by rw [show Txt.join (Str.ofString "/") [] = Str.ofString "" from str_eq (nil_signs.symm ▸ rfl)]; exact short_lit (by decide +kernel), by rw [show Txt.join (Str.ofString "/") [] = Str.ofString "" from str_eq (nil_signs.symm ▸ rfl), fig7_nil]; rfl⟩
    ktf_call "x"
    · exact ⟨by cases figI 7 y <;> rfl⟩
    · exact ⟨by rw [hs]; simp⟩
    · show _ = twoD (figI 7 (Txt.partition y (Str.ofString "/")).1) (figI 7 (Txt.partition y (Str.ofString "/")).2.2)
      rw [p1, p2, fig7_nil]
      cases figI 7 y <;> rfl
  · obtain ⟨p1, p2⟩ := part_free hp
    have e := hy
    rw [hj] at e
    obtain ⟨e1, e2⟩ := short_app_l e
    obtain ⟨e3, _⟩ := short_app_l e1
    have gg : oddsD y = twoD (figI 7 a) (figI 7 (Txt.join (Str.ofString "/") (b :: r))) := by
      show twoD (figI 7 (Txt.partition y (Str.ofString "/")).1) (figI 7 (Txt.partition y (Str.ofString "/")).2.2) = _
      rw [p1, p2]
    rw [gg]
    have a1 : Side (atI ((Txt.split y (Str.ofString "/")).map PyData.str) 0 = some (.str a)) := ⟨by rw [hs]; exact atI_nat (j := 0) rfl⟩
    have a2 : Side (cutD ((Txt.split y (Str.ofString "/")).map PyData.str) (some 1) none = (b :: r).map .str) := ⟨by rw [hs]; exact cut_one _ _⟩
    have k1 : Cal r_law_read [.str a] (optI (figI 7 a)) := ⟨_, rfl, e3, rfl⟩
    have k2 : Cal r_law_read [.str (Txt.join (Str.ofString "/") (b :: r))] (optI (figI 7 (Txt.join (Str.ofString "/") (b :: r)))) := ⟨_, rfl, e2, rfl⟩
    have jl : Side (((b :: r).map (fun x => x.length)).sum + (b :: r).length * (Str.ofString "/").length ≤ 16777216) := ⟨by
      have e5 := join_len (Str.ofString "/") r b
      have e6 := e2.1
      rw [e5, len_slash] at e6
      rw [len_slash, List.length_cons]
      omega⟩
    have ln : (1 : Int) < ((Txt.split y (Str.ofString "/")).map PyData.str).length := by
      rw [hs, List.length_map, List.length_cons, List.length_cons]
      omega
    cases h1 : figI 7 a with
    | none =>
      have hint : IfF := ⟨trivial⟩
      rw [h1] at k1
      replace k1 : Cal r_law_read [.str a] .none := k1
      ktf_call "x"
      · exact ⟨by cases figI 7 (Txt.join (Str.ofString "/") (b :: r)) <;> rfl⟩
      · exact ⟨by rw [show inD .none [.none, optI (figI 7 (Txt.join (Str.ofString "/") (b :: r)))] = true from rfl]; simp⟩
      · cases figI 7 (Txt.join (Str.ofString "/") (b :: r)) <;> rfl
    | some i =>
      rw [h1] at k1
      replace k1 : Cal r_law_read [.str a] (.int i) := k1
      cases h2 : figI 7 (Txt.join (Str.ofString "/") (b :: r)) with
      | none =>
        have hint : IfF := ⟨trivial⟩
        rw [h2] at k2
        replace k2 : Cal r_law_read [.str (Txt.join (Str.ofString "/") (b :: r))] .none := k2
        ktf_call "x"
        · exact ⟨by rw [show inD .none [.int i, .none] = true from rfl]; simp⟩
        · rfl
      | some j =>
        have hint : IfT := ⟨trivial⟩
        rw [h2] at k2
        replace k2 : Cal r_law_read [.str (Txt.join (Str.ofString "/") (b :: r))] (.int j) := k2
        ktf_call "x"
        · exact ⟨by rw [show inD .none [.int i, .int j] = false from rfl, decide_eq_true ln]; rfl⟩
        · rfl
/-! words_of -/
def wordsP (y : Str) : List Str := (Txt.split (Txt.partition y (Str.ofString "#")).1 (Str.ofString " ")).filter (fun z => (z.length : Int) != 0)
def fullD : PyData → Bool
  | .str z => (z.length : Int) != 0
  | _ => false
def r_words_of : List PyData → PyData → Prop := fun ds d => ∃ y, ds = [.str y] ∧ Short 100000 y ∧ d = .list ((wordsP y).map .str)
theorem ok_words_of {f : Addr} {fd : FuncData} (F : Fun K "words_of" "words_of" s_words_of f fd) (hm : mg "words_of" = some (.ref f)) (T : Mg mg) : DnO P w K mg base 1 "words_of" r_words_of := by
  refine dn_ofO F hm (F.binds (ps := ["row"]) fun _ _ _ _ _ _ us hl => match us, hl with | [_], _ => rfl) ?_
  refine fn_okO F c_words_of (fun ds d hR => ?_) fun cdv A outer s H E B ds d hr hR => ?_
  · obtain ⟨y, rfl, hy, hd⟩ := hR
    rfl
  obtain ⟨y, rfl, hy, hd⟩ := hR
  have r0 : Rk (Xc P w K mg base n_words_of "words_of" s_words_of f cdv A outer s H E) 0 "row" := rk_of2 f_words_of rfl (by decide +kernel)
  have l0 : Lk (Xc P w K mg base n_words_of "words_of" s_words_of f cdv A outer s H E) 0 "row" := lk_of2 f_words_of rfl (by decide +kernel)
  have r1 : Rk (Xc P w K mg base n_words_of "words_of" s_words_of f cdv A outer s H E) 1 "told" := rk_of2 f_words_of rfl (by decide +kernel)
  have l1 : Lk (Xc P w K mg base n_words_of "words_of" s_words_of f cdv A outer s H E) 1 "told" := lk_of2 f_words_of rfl (by decide +kernel)
  have rm : Rm (Xc P w K mg base n_words_of "words_of" s_words_of f cdv A outer s H E) := ⟨hr.units⟩
  have hG : startG n_words_of [.str y] = [.sh (.str y), .un, .un] := rfl
  rw [hG]; clear hG
  cases hd
  have s1 : Side (y.length ≤ sizeLine) := ⟨side_size (Nat.le_trans hy.1 (by decide))⟩
  have pl := (part_len2 y (Str.ofString "#") (by decide +kernel)).1
  have s2 : Side ((Txt.partition y (Str.ofString "#")).1.length + 2 ≤ sizeLine) := ⟨side_size (by have := hy.1; omega)⟩
  have s3 : ∀ z ∈ Txt.split (Txt.partition y (Str.ofString "#")).1 (Str.ofString " "), z.length ≤ 100000 := fun z hz => Nat.le_trans (PyProof.Rows.part_short hz) (Nat.le_trans pl hy.1)
  have e : (wordsP y).map PyData.str = (((Txt.split (Txt.partition y (Str.ofString "#")).1 (Str.ofString " ")).map PyData.str).filter fullD).map id := by
    rw [List.map_id, List.filter_map]
    rfl
  rw [e]
  refine xbe_cons ?_
  generalize hPP : seqP _ _ _ _ = PP
  ktf_call "x"
  subst hPP
  refine seq_nx ?_
  refine xbe_one ?_
  refine xs_retO ?_ rfl
  refine xl_lc (own := [("word", 2)]) (js := [2]) fullD id (fun d => [.sh (.str y), .sh (.str (Txt.partition y (Str.ofString "#")).1), .sh d]) rfl l1.nd (blkOk_by (N := n_words_of) (sc := defScope s_words_of) (by decide +kernel)) (fun _ => rfl) ?_ ?_ (fun _ h => h) ?_
  · ktf_call "x"
  · rw [List.length_map]
    exact Nat.le_trans (PyProof.Rows.split_le _ _) (by have := hy.1; omega)
  · rintro X' ⟨s', H', C, cl, fp, rfl⟩ B' d hd
    obtain ⟨z, hz, rfl⟩ := List.mem_map.mp hd
    have s4 : Side (z.length ≤ sizeLine) := ⟨side_size (Nat.le_trans (s3 z hz) (by decide))⟩
    refine ⟨?_, ?_, fun _ => ?_⟩
    · refine xge_name (i := 2) ⟨l1.nd, rfl, .inl rfl, .inr rfl⟩ ?_
      ktf_call "sg"
    · show Xq _ _ _ _ ((z.length : Int) != 0)
      refine xq_one ?_
      refine' xt_any ?_ (xe_var (d := .str z) (i := 2) ⟨rfl, .inl rfl, by decide +kernel, by decide +kernel⟩ ?_) ?_
      all_goals ktf_call "x"
    · refine xe_var (i := 2) ⟨rfl, .inl rfl, by decide +kernel, by decide +kernel⟩ ?_
      ktf_call "tt"
/-! is_name -/
abbrev letD : Str := Str.ofString "abcdefghijklmnopqrstuvwxyz"
def nameP (y : Str) : Bool := decide (y.cps.toList.headD 0 ∈ letD.cps.toList) && y.cps.toList.all (fun c => decide (c ∈ lf2S.cps.toList))
theorem lf2_mem {c : Nat} : c ∈ lf2S.cps.toList ↔ c ∈ letD.cps.toList ∨ c ∈ digS.cps.toList := by
  have e : lf2S.cps.toList = letD.cps.toList ++ digS.cps.toList := by decide +kernel
  rw [e, List.mem_append]
theorem let_dig {c : Nat} (h : c ∈ letD.cps.toList) : c ∉ digS.cps.toList := by
  rw [dig_mem]
  have : letD.cps.toList.all (fun c => decide (57 < c)) = true := by decide +kernel
  have := of_decide_eq_true (List.all_eq_true.mp this c h)
  omega
theorem told9_eq (y : Str) : inD (.str y) told9 = (inD (.str y) (toldL.map .str) || decide (y = Str.ofString "")) := by
  unfold told9 inD inV
  rw [List.map_append, List.any_append]
  congr 1
  simp only [vOf, List.map_cons, List.map_nil, List.any_cons, List.any_nil, Bool.or_false]
  show decide (_ = _) = decide (_ = _)
  exact decide_eq_decide.mpr ⟨fun h => h.symm, fun h => h.symm⟩
theorem name_yes {y : Str} (h1 : inD (.str y) (toldL.map .str) = false) (h2 : 1 ≤ (y.length : Int) ∧ (y.length : Int) ≤ 8) : nameP y = lawName y := by
  have hne : ¬ y = Str.ofString "" := fun z => by
    rw [z] at h2
    exact absurd h2.1 (by decide +kernel)
  unfold nameP lawName
  rw [told9_eq, h1, decide_eq_false hne, badL_empty]
  rw [show decide (y.length ≤ 8) = true from decide_eq_true (by omega)]
  simp only [Bool.or_false, Bool.not_false, Bool.true_and]
  cases hl : y.cps.toList with
  | nil => exact absurd (str_eq (hl.trans nil_signs.symm)) hne
  | cons c r =>
    show (decide (c ∈ letD.cps.toList) && _) = (_ && !decide (c ∈ digS.cps.toList))
    simp only [List.all_cons]
    by_cases hc : c ∈ letD.cps.toList
    · rw [decide_eq_true hc, decide_eq_true (lf2_mem.mpr (.inl hc)), decide_eq_false (let_dig hc)]
      simp
    · rw [decide_eq_false hc]
      by_cases hd : c ∈ digS.cps.toList
      · rw [decide_eq_true hd]; simp
      · rw [decide_eq_false (fun z => (lf2_mem.mp z).elim hc hd)]; simp
theorem name_no {y : Str} (h : ¬ 1 ≤ (y.length : Int) ∨ ¬ (y.length : Int) ≤ 8) : lawName y = false := by
  unfold lawName
  rcases h with h | h
  · have hy : y = Str.ofString "" := str_eq (by
      rw [nil_signs]
      exact List.eq_nil_of_length_eq_zero (by rw [← len_list]; omega))
    rw [told9_eq, decide_eq_true hy]
    simp
  · rw [decide_eq_false (show ¬ y.length ≤ 8 by omega)]
    simp
abbrev r_is_name : List PyData → PyData → Prop := r_law_is_name
theorem ok_is_name {f : Addr} {fd : FuncData} {cc tt : Addr} (F : FunC K "is_name" "is_name" s_is_name f fd (.ref cc)) (TB : GxR.TabB base mg cc tt) (tsT : Tabs.ts tt) (hm : mg "is_name" = some (.ref f)) (T : Mg mg) (C_NO_NAMES : CnM K mg "NO_NAMES" d_NO_NAMES) (C_MOST_SIGNS_OF_NAME : CnM K mg "MOST_SIGNS_OF_NAME" d_MOST_SIGNS_OF_NAME) (C_LETTERS : CnM K mg "LETTERS" d_LETTERS) (C_LETTERS_AND_FIGURES : CnM K mg "LETTERS_AND_FIGURES" d_LETTERS_AND_FIGURES) : Dn P w K mg base 1 "is_name" r_is_name := by
  refine dn_of F.fn hm (F.fn.binds (ps := ["thing"]) fun _ _ _ _ _ _ us hl => match us, hl with | [_], _ => rfl) ?_
  refine fn_okG F c_is_name (fun ds d hR => ?_) fun A outer s H E B ds d hr hR => ?_
  · obtain ⟨x, rfl, hx, rfl⟩ := hR
    rfl
  obtain ⟨x, rfl, hx, rfl⟩ := hR
  have r0 : Rk (Xc P w K mg base n_is_name "is_name" s_is_name f (.ref cc) A outer s H E) 0 "thing" := rk_of2 f_is_name rfl (by decide +kernel)
  have l0 : Lk (Xc P w K mg base n_is_name "is_name" s_is_name f (.ref cc) A outer s H E) 0 "thing" := lk_of2 f_is_name rfl (by decide +kernel)
  have b0 : Bi (Xc P w K mg base n_is_name "is_name" s_is_name f (.ref cc) A outer s H E) "isinstance" := ⟨(gl_of2 f_is_name (by decide +kernel)), T.m_isinstance⟩
  have b1 : Bi (Xc P w K mg base n_is_name "is_name" s_is_name f (.ref cc) A outer s H E) "str" := ⟨(gl_of2 f_is_name (by decide +kernel)), T.m_str⟩
  have t1 : Ty (Xc P w K mg base n_is_name "is_name" s_is_name f (.ref cc) A outer s H E) "str" .str := ⟨b1, by decide +kernel, by decide +kernel, by decide +kernel⟩
  have g2 : Gl (Xc P w K mg base n_is_name "is_name" s_is_name f (.ref cc) A outer s H E) "NO_NAMES" := (gl_of2 f_is_name (by decide +kernel))
  have c2 : Cn (Xc P w K mg base n_is_name "is_name" s_is_name f (.ref cc) A outer s H E) "NO_NAMES" d_NO_NAMES := C_NO_NAMES.at
  have b3 : Bi (Xc P w K mg base n_is_name "is_name" s_is_name f (.ref cc) A outer s H E) "len" := ⟨(gl_of2 f_is_name (by decide +kernel)), T.m_len⟩
  have g4 : Gl (Xc P w K mg base n_is_name "is_name" s_is_name f (.ref cc) A outer s H E) "MOST_SIGNS_OF_NAME" := (gl_of2 f_is_name (by decide +kernel))
  have c4 : Cn (Xc P w K mg base n_is_name "is_name" s_is_name f (.ref cc) A outer s H E) "MOST_SIGNS_OF_NAME" d_MOST_SIGNS_OF_NAME := C_MOST_SIGNS_OF_NAME.at
  have g5 : Gl (Xc P w K mg base n_is_name "is_name" s_is_name f (.ref cc) A outer s H E) "LETTERS" := (gl_of2 f_is_name (by decide +kernel))
  have c5 : Cn (Xc P w K mg base n_is_name "is_name" s_is_name f (.ref cc) A outer s H E) "LETTERS" d_LETTERS := C_LETTERS.at
  have b6 : Bi (Xc P w K mg base n_is_name "is_name" s_is_name f (.ref cc) A outer s H E) "all" := ⟨(gl_of2 f_is_name (by decide +kernel)), T.m_all⟩
  have rm : Rm (Xc P w K mg base n_is_name "is_name" s_is_name f (.ref cc) A outer s H E) := ⟨hr.units⟩
  have gx : Gx (Xc P w K mg base n_is_name "is_name" s_is_name f (.ref cc) A outer s H E) cc tt := ⟨TB, tsT, rfl, _, hr⟩
  have hG : startG n_is_name [x] = [.sh (x), .un] := rfl
  rw [hG]; clear hG
  cases x with
  | str y =>
    have hy : Short 100000 y := hx
    have s1 : Side (y.length ≤ sizeLine) := ⟨side_size (Nat.le_trans hy.1 (by decide))⟩
    show Xb _ _ _ _ (RetP (.bool (lawName y)))
    refine xbe_cons ?_
    refine' xs_if ?tst ?_ ?_
    case tst => ktf_call "x"
    · ktf_call "x"
      rename_i h
      rcases h with h | h
      · cases h
      · refine congrArg PyData.bool ?_
        unfold lawName
        rw [told9_eq, show inD (.str y) (toldL.map .str) = true from h]; rfl
    · ktf_call "xi"
      rename_i h
      refine xb_nil ?_
      refine seq_nx ?_
      refine xbe_cons ?_
      refine' xs_if ?tst2 ?_ ?_
      case tst2 => ktf_call "x"
      · ktf_call "x"
        rename_i h2
        exact congrArg PyData.bool (name_no h2).symm
      · ktf_call "xi"
        rename_i h2
        refine xb_nil ?_
        refine seq_nx ?_
        rw [← name_yes h.2 h2]
        rcases hl : y.cps.toList with _ | ⟨c, r⟩
        · exfalso
          have : y.length = 0 := by rw [len_list, hl]; rfl
          omega
        · have s2 : Side (atI y.cps.toList 0 = some c) := ⟨by rw [hl]; exact atI_nat (j := 0) rfl⟩
          have e1 : nameP y = (decide (c ∈ letD.cps.toList) && (signsD y).all (fun d => decide (signD d ∈ lf2S.cps.toList))) := by
            unfold nameP signsD
            rw [List.all_map, hl]
            rfl
          rw [e1]
          refine xbe_one ?_
          refine xs_ret ?_ (.inl rfl)
          refine xe_and (p := decide (c ∈ letD.cps.toList)) ?_ fun _ => xp_one ?_
          · ktf_call "x"
          · exact xe_all gx b6 (genS_plain rfl) ⟨fun _ => rfl⟩ ⟨rfl⟩ (xe_var r0 ⟨rfl⟩) ItrD.str (el_inG gx (genS_plain rfl) ⟨by decide +kernel⟩ ⟨rfl⟩ ⟨by decide +kernel⟩ C_LETTERS_AND_FIGURES.at fun _ _ => rfl)
  | _ => (ktf_call "x"; ktf_call "xf"; all_goals first | rfl)
/-! words: the two ways -/
theorem sgn_eq {c m : Nat} {z : Str} (hz : z.cps.toList = [m]) : (⟨#[c]⟩ : Str) = z ↔ c = m := by
  constructor
  · intro h
    rw [← h] at hz
    simpa using hz
  · intro h
    rw [h]
    exact str_eq hz.symm
theorem hash_sign : (Str.ofString "#").cps.toList = [35] := by decide +kernel
theorem blank_sign : (Str.ofString " ").cps.toList = [32] := by decide +kernel
theorem empty_iff {b : Str} : b = Str.ofString "" ↔ tl b = [] := by
  constructor
  · intro h; rw [h]; exact nil_signs
  · intro h; exact str_eq (h.trans nil_signs.symm)
theorem ws_wl : ∀ (l : List Nat) (f : List Str) (b : Str), (endI (wsI l f b)).map tl = f.map tl ++ wl (tl b) (tillS 35 l) := fun l => by
  have fin : ∀ (f : List Str) (b : Str), (endI (f, b)).map tl = f.map tl ++ wl (tl b) [] := fun f b => by
    unfold endI wl
    rw [List.map_append]
    congr 1
    by_cases h : b = Str.ofString ""
    · rw [if_pos h, if_pos (empty_iff.mp h)]; rfl
    · rw [if_neg h, if_neg (fun z => h (empty_iff.mpr z))]; rfl
  induction l with
  | nil => intro f b; exact fin f b
  | cons c r ih =>
    intro f b
    unfold wsI tillS
    by_cases h : c = 35
    · rw [if_pos ((sgn_eq hash_sign).mpr h), if_pos h]
      exact fin f b
    · rw [if_neg (fun z => h ((sgn_eq hash_sign).mp z)), if_neg h]
      conv => rhs; unfold wl
      by_cases h2 : c = 32
      · rw [if_neg (not_not_intro ((sgn_eq blank_sign).mpr h2)), if_pos h2]
        by_cases h3 : b = Str.ofString ""
        · rw [if_neg (not_not_intro h3), if_pos (empty_iff.mp h3), ih, empty_iff.mp h3, List.nil_append]
        · rw [if_pos h3, if_neg (fun z => h3 (empty_iff.mpr z)), ih, List.map_append, List.append_assoc, show tl (Str.ofString "") = [] from nil_signs]
          rfl
      · rw [if_pos (fun z => h2 ((sgn_eq blank_sign).mp z)), if_neg h2, ih]
        congr 2
        exact tl_append b _
theorem words_eq (y : Str) : wordsI y = wordsP y := by
  refine map_tl_inj ?_
  unfold wordsI wordsP
  rw [ws_wl, split_wl _ _ blank_sign, part_till _ _ 35 hash_sign, show tl (Str.ofString "") = [] from nil_signs]
  rfl
theorem plain_texts : ∀ l : List Str, (∀ z ∈ l, Asc z) → PyData.canLayAll0 (l.map .str) = true ∧ PyData.depthAll (l.map .str) = 0 := fun l => by
  induction l with
  | nil => intro _; exact ⟨rfl, rfl⟩
  | cons z r ih =>
    intro h
    have hz := h z List.mem_cons_self
    obtain ⟨h1, h2⟩ := ih fun x hx => h x (List.mem_cons_of_mem _ hx)
    constructor
    · show (PyData.strOk z && PyData.canLayAll0 (r.map .str)) = true
      rw [h1, Bool.and_true]
      unfold PyData.strOk
      rw [Array.all_eq_true_iff_forall_mem]
      intro c hc
      have := hz c (by simpa using hc)
      simp
      omega
    · show max 0 (PyData.depthAll (r.map .str)) = 0
      rw [h2]; rfl
theorem tillS_sub {m c : Nat} : ∀ {l : List Nat}, c ∈ tillS m l → c ∈ l
  | [], h => h
  | d :: r, h => by
    unfold tillS at h
    split at h
    · cases h
    · rcases List.mem_cons.mp h with h | h
      · rw [h]; exact List.mem_cons_self
      · exact List.mem_cons_of_mem _ (tillS_sub h)
theorem wl_sub {c : Nat} : ∀ {l acc : List Nat} {w : List Nat}, w ∈ wl acc l → c ∈ w → c ∈ acc ∨ c ∈ l
  | [], acc, w, h, hc => by
    unfold wl at h
    split at h
    · cases h
    · rw [List.mem_singleton.mp h] at hc
      exact .inl hc
  | d :: r, acc, w, h, hc => by
    unfold wl at h
    split at h
    · rcases List.mem_append.mp h with h | h
      · split at h
        · cases h
        · rw [List.mem_singleton.mp h] at hc
          exact .inl hc
      · rcases wl_sub h hc with z | z
        · cases z
        · exact .inr (List.mem_cons_of_mem _ z)
    · rcases wl_sub h hc with z | z
      · rcases List.mem_append.mp z with z | z
        · exact .inl z
        · rw [List.mem_singleton.mp z]; exact .inr List.mem_cons_self
      · exact .inr (List.mem_cons_of_mem _ z)
theorem words_asc {y : Str} (h : Asc y) : ∀ z ∈ wordsP y, Asc z := fun z hz c hc => by
  have e : (wordsP y).map tl = wl [] (tillS 35 (tl y)) := by
    unfold wordsP
    rw [split_wl _ _ blank_sign, part_till _ _ 35 hash_sign]
  have hm : tl z ∈ wl [] (tillS 35 (tl y)) := by
    rw [← e]
    exact List.mem_map.mpr ⟨z, hz, rfl⟩
  rcases wl_sub hm hc with k | k
  · cases k
  · exact h c (tillS_sub k)
theorem words_plain {y : Str} (h : Asc y) : Side (SeqAt.shaped (.list ((wordsP y).map .str)) = true) := by
  obtain ⟨h1, h2⟩ := plain_texts _ (words_asc h)
  refine ⟨?_⟩
  unfold SeqAt.shaped
  show (PyData.canLayAll0 ((wordsP y).map .str) && decide (PyData.depthAll ((wordsP y).map .str) + 1 ≤ 64)) = true
  rw [h1, h2]; rfl
/-! the law -/
def r_law : List PyData → PyData → Prop := fun ds d => ∃ ns : List Int, ds = [.list (ns.map .int)] ∧ ns.length ≤ 63 ∧ d = .bool true
theorem enum_int {ns : List Int} {m : Int} {k : Nat} {d : PyData} (h : (enumD 0 (cutD (ns.map .int) none (some 63) ++ [.int m]))[k]? = some d) : ∃ n : Int, d = .tuple [.int k, .int n] := by
  obtain ⟨d', hd', rfl⟩ := enumD_get h
  rw [Nat.zero_add]
  rcases List.mem_append.mp (List.mem_of_getElem? hd') with h | h
  · unfold cutD at h
    obtain ⟨x, _, e⟩ := List.mem_map.mp (List.mem_of_mem_drop (List.mem_of_mem_take h))
    exact ⟨x, by rw [← e]⟩
  · exact ⟨m, by rw [List.mem_singleton.mp h]⟩
abbrev oddK : List PyData := [.none, .int 5, .bool true, .list [.str (Str.ofString "a")], .tuple [.str (Str.ofString "a")], .dict [], .str (Str.ofString ""), .str (Str.ofString "a b"), .str (Str.ofString " a"), .str (Str.ofString "a "), .str (Str.ofString "9"), .str (Str.ofString "a\n")]
theorem oddK_ok : ∀ d ∈ oddK, ascD d := fun d hd => by
  simp only [List.mem_cons, List.not_mem_nil, or_false] at hd
  rcases hd with rfl | rfl | rfl | rfl | rfl | rfl | rfl | rfl | rfl | rfl | rfl | rfl
  all_goals first | trivial | exact short_lit (by decide +kernel)
abbrev halfL : List Str := [Str.ofString "", Str.ofString "/", Str.ofString "1/", Str.ofString "/1"]
theorem halfL_ok : ∀ y ∈ halfL, Short 100000 y ∧ oddsD y = .none := by
  have : halfL.all (fun y => (decide (y.length ≤ 100000) && y.cps.toList.all (fun c => decide (c < 128))) && isNone (oddsD y)) = true := by decide +kernel
  intro y hy
  have h := List.all_eq_true.mp this y hy
  rw [Bool.and_eq_true] at h
  refine ⟨short_lit h.1, ?_⟩
  have h2 := h.2
  cases e : oddsD y <;> rw [e] at h2 <;> first | rfl | cases h2
abbrev gapL : List Str := [Str.ofString " ", Str.ofString "  ", Str.ofString "", Str.ofString " # "]
theorem gapL_ok : ∀ y ∈ gapL, Short 3 y := by
  have : gapL.all (fun y => (decide (y.length ≤ 3) && y.cps.toList.all (fun c => decide (c < 128)))) = true := by decide +kernel
  exact fun y hy => short_lit (List.all_eq_true.mp this y hy)
theorem ok_law {f : Addr} {fd : FuncData} (F : Fun K "law" "law" s_law f fd) (hm : mg "law" = some (.ref f)) (T : Mg mg) (D_law_mixed : Dn P w K mg base 1 "_law_mixed" r_law_mixed) (D_law_word : Dn P w K mg base 3 "_law_word" r_law_word) (D_is_name : Dn P w K mg base 1 "is_name" r_is_name) (D_law_is_name : Dn P w K mg base 2 "_law_is_name" r_law_is_name) (D_law_whole : Dn P w K mg base 1 "_law_whole" r_law_whole) (D_number_in : Dn P w K mg base 2 "number_in" r_number_in) (D_law_read : Dn P w K mg base 1 "_law_read" r_law_read) (D_law_pair : Dn P w K mg base 2 "_law_pair" r_law_pair) (D_odds_in : Dn P w K mg base 3 "odds_in" r_odds_in) (D_law_read_odds : Dn P w K mg base 2 "_law_read_odds" r_law_read_odds) (D_words_of : DnO P w K mg base 1 "words_of" r_words_of) (D_law_words : Dn P w K mg base 1 "_law_words" r_law_words) : FnOk P w K mg base CX0 4 f fd ["_law_script"] (spR K r_law) := by
  refine fn_ok F c_law (fun ds d hR => ?_) fun cdv A outer s H E B ds d hr hR => ?_
  · obtain ⟨ns, rfl, hl, rfl⟩ := hR
    rfl
  obtain ⟨ns, rfl, hl, rfl⟩ := hR
  have r0 : Rk (Xc P w K mg base n_law "law" s_law f cdv A outer s H E) 0 "_law_script" := rk_of2 f_law rfl (by decide +kernel)
  have l0 : Lk (Xc P w K mg base n_law "law" s_law f cdv A outer s H E) 0 "_law_script" := lk_of2 f_law rfl (by decide +kernel)
  have r1 : Rk (Xc P w K mg base n_law "law" s_law f cdv A outer s H E) 1 "_law_row" := rk_of2 f_law rfl (by decide +kernel)
  have l1 : Lk (Xc P w K mg base n_law "law" s_law f cdv A outer s H E) 1 "_law_row" := lk_of2 f_law rfl (by decide +kernel)
  have r2 : Rk (Xc P w K mg base n_law "law" s_law f cdv A outer s H E) 2 "_law_k" := rk_of2 f_law rfl (by decide +kernel)
  have l2 : Lk (Xc P w K mg base n_law "law" s_law f cdv A outer s H E) 2 "_law_k" := lk_of2 f_law rfl (by decide +kernel)
  have r3 : Rk (Xc P w K mg base n_law "law" s_law f cdv A outer s H E) 3 "_law_cell" := rk_of2 f_law rfl (by decide +kernel)
  have l3 : Lk (Xc P w K mg base n_law "law" s_law f cdv A outer s H E) 3 "_law_cell" := lk_of2 f_law rfl (by decide +kernel)
  have r4 : Rk (Xc P w K mg base n_law "law" s_law f cdv A outer s H E) 4 "_law_number" := rk_of2 f_law rfl (by decide +kernel)
  have l4 : Lk (Xc P w K mg base n_law "law" s_law f cdv A outer s H E) 4 "_law_number" := lk_of2 f_law rfl (by decide +kernel)
  have r5 : Rk (Xc P w K mg base n_law "law" s_law f cdv A outer s H E) 5 "_law_one" := rk_of2 f_law rfl (by decide +kernel)
  have l5 : Lk (Xc P w K mg base n_law "law" s_law f cdv A outer s H E) 5 "_law_one" := lk_of2 f_law rfl (by decide +kernel)
  have r6 : Rk (Xc P w K mg base n_law "law" s_law f cdv A outer s H E) 6 "_law_odd" := rk_of2 f_law rfl (by decide +kernel)
  have l6 : Lk (Xc P w K mg base n_law "law" s_law f cdv A outer s H E) 6 "_law_odd" := lk_of2 f_law rfl (by decide +kernel)
  have r7 : Rk (Xc P w K mg base n_law "law" s_law f cdv A outer s H E) 7 "_law_thing" := rk_of2 f_law rfl (by decide +kernel)
  have l7 : Lk (Xc P w K mg base n_law "law" s_law f cdv A outer s H E) 7 "_law_thing" := lk_of2 f_law rfl (by decide +kernel)
  have r8 : Rk (Xc P w K mg base n_law "law" s_law f cdv A outer s H E) 8 "_law_found" := rk_of2 f_law rfl (by decide +kernel)
  have l8 : Lk (Xc P w K mg base n_law "law" s_law f cdv A outer s H E) 8 "_law_found" := lk_of2 f_law rfl (by decide +kernel)
  have r9 : Rk (Xc P w K mg base n_law "law" s_law f cdv A outer s H E) 9 "_law_turn" := rk_of2 f_law rfl (by decide +kernel)
  have l9 : Lk (Xc P w K mg base n_law "law" s_law f cdv A outer s H E) 9 "_law_turn" := lk_of2 f_law rfl (by decide +kernel)
  have b0 : Bi (Xc P w K mg base n_law "law" s_law f cdv A outer s H E) "enumerate" := ⟨(gl_of2 f_law (by decide +kernel)), T.m_enumerate⟩
  have g1 : Gl (Xc P w K mg base n_law "law" s_law f cdv A outer s H E) "_law_mixed" := (gl_of2 f_law (by decide +kernel))
  have c1 : Ce (Xc P w K mg base n_law "law" s_law f cdv A outer s H E) "_law_mixed" r_law_mixed := ce_of D_law_mixed hr (by decide) (by decide +kernel)
  have g2 : Gl (Xc P w K mg base n_law "law" s_law f cdv A outer s H E) "_law_word" := (gl_of2 f_law (by decide +kernel))
  have c2 : Ce (Xc P w K mg base n_law "law" s_law f cdv A outer s H E) "_law_word" r_law_word := ce_of D_law_word hr (by decide) (by decide +kernel)
  have g3 : Gl (Xc P w K mg base n_law "law" s_law f cdv A outer s H E) "is_name" := (gl_of2 f_law (by decide +kernel))
  have c3 : Ce (Xc P w K mg base n_law "law" s_law f cdv A outer s H E) "is_name" r_is_name := ce_of D_is_name hr (by decide) (by decide +kernel)
  have b4 : Bi (Xc P w K mg base n_law "law" s_law f cdv A outer s H E) "isinstance" := ⟨(gl_of2 f_law (by decide +kernel)), T.m_isinstance⟩
  have b5 : Bi (Xc P w K mg base n_law "law" s_law f cdv A outer s H E) "bool" := ⟨(gl_of2 f_law (by decide +kernel)), T.m_bool⟩
  have t5 : Ty (Xc P w K mg base n_law "law" s_law f cdv A outer s H E) "bool" .bool := ⟨b5, by decide +kernel, by decide +kernel, by decide +kernel⟩
  have g6 : Gl (Xc P w K mg base n_law "law" s_law f cdv A outer s H E) "_law_is_name" := (gl_of2 f_law (by decide +kernel))
  have c6 : Ce (Xc P w K mg base n_law "law" s_law f cdv A outer s H E) "_law_is_name" r_law_is_name := ce_of D_law_is_name hr (by decide) (by decide +kernel)
  have g7 : Gl (Xc P w K mg base n_law "law" s_law f cdv A outer s H E) "_law_whole" := (gl_of2 f_law (by decide +kernel))
  have c7 : Ce (Xc P w K mg base n_law "law" s_law f cdv A outer s H E) "_law_whole" r_law_whole := ce_of D_law_whole hr (by decide) (by decide +kernel)
  have g8 : Gl (Xc P w K mg base n_law "law" s_law f cdv A outer s H E) "number_in" := (gl_of2 f_law (by decide +kernel))
  have c8 : Ce (Xc P w K mg base n_law "law" s_law f cdv A outer s H E) "number_in" r_number_in := ce_of D_number_in hr (by decide) (by decide +kernel)
  have g9 : Gl (Xc P w K mg base n_law "law" s_law f cdv A outer s H E) "_law_read" := (gl_of2 f_law (by decide +kernel))
  have c9 : Ce (Xc P w K mg base n_law "law" s_law f cdv A outer s H E) "_law_read" r_law_read := ce_of D_law_read hr (by decide) (by decide +kernel)
  have g10 : Gl (Xc P w K mg base n_law "law" s_law f cdv A outer s H E) "_law_pair" := (gl_of2 f_law (by decide +kernel))
  have c10 : Ce (Xc P w K mg base n_law "law" s_law f cdv A outer s H E) "_law_pair" r_law_pair := ce_of D_law_pair hr (by decide) (by decide +kernel)
  have g11 : Gl (Xc P w K mg base n_law "law" s_law f cdv A outer s H E) "odds_in" := (gl_of2 f_law (by decide +kernel))
  have c11 : Ce (Xc P w K mg base n_law "law" s_law f cdv A outer s H E) "odds_in" r_odds_in := ce_of D_odds_in hr (by decide) (by decide +kernel)
  have g12 : Gl (Xc P w K mg base n_law "law" s_law f cdv A outer s H E) "_law_read_odds" := (gl_of2 f_law (by decide +kernel))
  have c12 : Ce (Xc P w K mg base n_law "law" s_law f cdv A outer s H E) "_law_read_odds" r_law_read_odds := ce_of D_law_read_odds hr (by decide) (by decide +kernel)
  have b13 : Bi (Xc P w K mg base n_law "law" s_law f cdv A outer s H E) "min" := ⟨(gl_of2 f_law (by decide +kernel)), T.m_min⟩
  have b14 : Bi (Xc P w K mg base n_law "law" s_law f cdv A outer s H E) "range" := ⟨(gl_of2 f_law (by decide +kernel)), T.m_range⟩
  have g15 : Gl (Xc P w K mg base n_law "law" s_law f cdv A outer s H E) "words_of" := (gl_of2 f_law (by decide +kernel))
  have c15 : CeO (Xc P w K mg base n_law "law" s_law f cdv A outer s H E) "words_of" r_words_of := ce_ofO D_words_of hr (by decide) (by decide +kernel)
  have b16 : Bi (Xc P w K mg base n_law "law" s_law f cdv A outer s H E) "list" := ⟨(gl_of2 f_law (by decide +kernel)), T.m_list⟩
  have t16 : Ty (Xc P w K mg base n_law "law" s_law f cdv A outer s H E) "list" .list := ⟨b16, by decide +kernel, by decide +kernel, by decide +kernel⟩
  have g17 : Gl (Xc P w K mg base n_law "law" s_law f cdv A outer s H E) "_law_words" := (gl_of2 f_law (by decide +kernel))
  have c17 : Ce (Xc P w K mg base n_law "law" s_law f cdv A outer s H E) "_law_words" r_law_words := ce_of D_law_words hr (by decide) (by decide +kernel)
  have rm : Rm (Xc P w K mg base n_law "law" s_law f cdv A outer s H E) := ⟨hr.units⟩
  have hG : startG n_law [.list (ns.map .int)] = [.sh (.list (ns.map .int)), .un, .un, .un, .un, .un, .un, .un, .un, .un] := rfl
  rw [hG]; clear hG
  refine xbe_cons ?_
  refine' xse_set l1 ?_ xp_str ⟨rfl⟩ ?_
  · ktf_call "x"
  refine seq_nx ?_
  refine xbe_cons ?_
  generalize hPP : seqP _ _ _ _ = PP
  refine xs_for PassesOwn.never rfl (fun _ => rfl) (ds := enumD 0 (cutD (ns.map .int) none (some 63) ++ [.int 8])) ?_ (fun k Γ => ∃ (row : Str) (a b c d e f g h : Sl), Γ = [.sh (.list (ns.map .int)), .sh (.str row), a, b, c, d, e, f, g, h] ∧ Short (1000 * k) row) ⟨Str.ofString "", .un, .un, .un, .un, .un, .un, .un, .un, rfl, short_lit (by decide +kernel)⟩ ?_ ?_
  · ktf_call "x"
    refine ⟨side_size ?_⟩
    unfold cutD
    rw [List.length_take, List.length_drop, List.length_map]
    show _ + 1 ≤ _
    omega
  · rintro B' k d Γ' hk ⟨row, z1, z2, z3, z4, z5, z6, z7, z8, rfl, hrow⟩
    obtain ⟨n, rfl⟩ := enum_int hk
    have hk64 : k < 64 := by
      have := (List.getElem?_eq_some_iff.mp hk).1
      rw [enumD_len, List.length_append, List.length_singleton] at this
      unfold cutD at this
      rw [List.length_take, List.length_drop, List.length_map] at this
      omega
    have c1 : Cal r_law_mixed [.int n, .int ((k : Int) % 7)] (.int (mixI n ((k : Int) % 7))) := ⟨_, _, rfl, by omega, by omega, rfl⟩
    have m1 := mix_ok n ((k : Int) % 7)
    generalize mixI n ((k : Int) % 7) = x1 at *
    have c2 : Cal r_law_word [.int (x1 / 3)] (.str (wordT (x1 / 3))) := ⟨_, rfl, by omega, by omega, rfl⟩
    have w1 := word_ok (n := x1 / 3) (by omega)
    generalize wordT (x1 / 3) = one at *
    have od := getD_all (d := PyData.none) oddK_ok (show (x1 / 3 % 12).toNat < oddK.length by show _ < 12; omega)
    have a1 : Side (atI oddK (x1 / 3 % 12) = some (oddK.getD (x1 / 3 % 12).toNat .none)) := at_any ⟨by show _ ∧ _ < (12 : Int); omega⟩
    have c3 : Cal r_number_in [.str one] (optI (figI 7 one)) := ⟨_, rfl, Nat.le_trans w1.1 (by decide), rfl⟩
    have c4 : Cal r_law_read [.str one] (optI (figI 7 one)) := ⟨_, rfl, short_mono w1 (by decide), rfl⟩
    have c5 : Cal r_law_whole [optI (figI 7 one), optI (figI 7 one)] (.bool true) := ⟨_, rfl, rfl⟩
    have c6 : Cal r_odds_in [.str one] (oddsD one) := ⟨_, rfl, Nat.le_trans w1.1 (by decide), rfl⟩
    have c7 : Cal r_law_read_odds [.str one] (oddsD one) := ⟨_, rfl, short_mono w1 (by decide), rfl⟩
    have c8 : Cal r_law_pair [oddsD one, oddsD one] (.bool true) := ⟨_, _, rfl, rfl⟩
    have c9 : Cal r_number_in [.str (Str.ofString "")] .none := ⟨_, rfl, by decide +kernel, by rw [fig7_nil]; rfl⟩
    have hf := getD_all (d := Str.empty) halfL_ok (show (x1 % 4).toNat < halfL.length by show _ < 4; omega)
    have c10 : Cal r_odds_in [.str (halfL.getD (x1 % 4).toNat Str.empty)] .none := ⟨_, rfl, hf.1.1, hf.2.symm⟩
    have a2 : Side (atI (halfL.map PyData.str) (x1 % 4) = some (.str (halfL.getD (x1 % 4).toNat Str.empty))) := at_strs (L := halfL) (.cons (.cons (.cons (.cons .nil)))) ⟨by show _ ∧ _ < (4 : Int); omega⟩
    refine' ⟨_, _, ?tgt, ?bdy⟩
    case tgt => ktf_call "x"
    case bdy =>
      ktf_call "x"
      generalize hodd : oddK.getD (x1 / 3 % 12).toNat PyData.none = odd at *
      refine xs_for PassesOwn.never rfl (fun _ => rfl) (ds := [.str one, odd]) ?_ (fun _ Γ => ∃ (a b c : Sl), Γ = [.sh (.list (ns.map .int)), .sh (.str row), .sh (.int k), .sh (.int n), .sh (.int x1), .sh (.str one), .sh odd, a, b, c]) ⟨_, _, _, rfl⟩ ?_ ?_
      · ktf_call "x"
      · rintro B2 j dd Γ2 hj ⟨y1, y2, y3, rfl⟩
        have hd : ascD dd := by
          have := List.mem_of_getElem? hj
          simp only [List.mem_cons, List.not_mem_nil, or_false] at this
          rcases this with rfl | rfl
          · exact short_mono w1 (by decide)
          · exact od
        have i1 : Cal r_is_name [dd] (.bool (lawNameD dd)) := ⟨_, rfl, hd, rfl⟩
        have i2 : Cal r_law_is_name [dd] (.bool (lawNameD dd)) := ⟨_, rfl, hd, rfl⟩
        refine' ⟨_, _, ?tgt2, ?bdy2⟩
        case tgt2 => ktf_call "x"
        case bdy2 =>
          ktf_call "x"
          all_goals first
            | exact ⟨_, _, _, rfl⟩
            | (exfalso; rename_i h; rcases h with h | h; (· cases h); (· simp at h; done))
      · rintro Γ2 ⟨y1, y2, y3, rfl⟩
        have gp := getD_all (d := Str.empty) gapL_ok (show (if x1 / 5 % 9 < 3 then x1 / 5 % 9 else 3).toNat < gapL.length by show _ < 4; split <;> omega)
        have gp1 := gp.1
        unfold gapL at gp1
        have rl := hrow.1
        have wl1 := w1.1
        ktf_call "x"
        all_goals first
          | (refine ⟨side_size ?_⟩; (try simp only [Str.length_append]); omega)
          | exact ⟨_, _, _, _, _, _, _, _, _, rfl, short_mono (short_app (short_app hrow gp) w1) (by omega)⟩
          | exact ⟨_, _, _, _, _, _, _, _, _, rfl, short_mono hrow (by omega)⟩
  · rintro Γ' ⟨row, z1, z2, z3, z4, z5, z6, z7, z8, rfl, hrow⟩
    have hk64 : (enumD 0 (cutD (ns.map PyData.int) none (some 63) ++ [PyData.int 8])).length ≤ 64 := by
      rw [enumD_len, List.length_append, List.length_singleton]
      unfold cutD
      rw [List.length_take, List.length_drop, List.length_map]
      omega
    have hrw := short_mono hrow (show _ ≤ 100000 by omega)
    have cw : Cal r_law_words [.str row] (.list ((wordsP row).map .str)) := ⟨_, rfl, hrw, by rw [words_eq]⟩
    subst hPP
    refine seq_nx ?_
    refine xbe_cons ?_
    have pl : Side (SeqAt.shaped (.list ((wordsP row).map .str)) = true) := words_plain hrw.2
    refine xs_for PassesOwn.never rfl (fun _ => rfl) (ds := rangeD 0 (2 : Int).toNat) ?_ (fun _ Γ => ∃ (u1 u2 u3 u4 u5 u6 u7 u8 : Sl), Γ = [.sh (.list (ns.map .int)), .sh (.str row), u1, u2, u3, u4, u5, u6, u7, u8]) ⟨_, _, _, _, _, _, _, _, rfl⟩ ?_ ?_
    · ktf_call "x"
    · rintro B' k d Γ' hk ⟨u1, u2, u3, u4, u5, u6, u7, u8, rfl⟩
      refine' ⟨_, _, ?tgt, ?bdy⟩
      case tgt => ktf_call "x"
      case bdy =>
        refine xbe_cons ?_
        have cr : r_words_of [.str row] (.list ((wordsP row).map .str)) := ⟨row, rfl, hrw, rfl⟩
        refine xse_setO (ds := (wordsP row).map .str) (Γ' := [.sh (.list (ns.map .int)), .sh (.str row), u1, u2, u3, u4, u5, u6, .ow ((wordsP row).map .str), .sh d]) l8 ?_ (xl_call (ds' := [.str row]) (by assumption) (by assumption) (by rfl) (by rfl) ?_ cr) ⟨rfl⟩ ?_
        · ktf_call "x"
        · ktf_call "x"
        · refine seq_nx ?_
          refine xbe_cons ?_
          refine' xs_if ?tst ?_ ?_
          case tst =>
            refine' xt_loan (i := 8) ⟨rfl⟩ ?_
            ktf_call "x"
          · ktf_call "x"
            exfalso
            rename_i h
            rcases h with h | h
            · cases h
            · rw [PySem.SeqAt.eqv_refl _ (shaped_plain pl.h)] at h
              cases h
          · ktf_call "x"
            · refine Side.mk ?_
              rw [List.length_map]
              have q1 : (wordsP row).length ≤ (Txt.split (Txt.partition row (Str.ofString "#")).1 (Str.ofString " ")).length := List.length_filter_le _ _
              have q2 := PyProof.Rows.split_le (Txt.partition row (Str.ofString "#")).1 (Str.ofString " ")
              have q3 := (part_len2 row (Str.ofString "#") (by decide +kernel)).1
              have q4 := hrw.1
              exact Nat.lt_of_le_of_lt (show _ ≤ 100002 by omega) (by rw [sizeLine_eq]; decide)
            · exact ⟨_, _, _, _, _, _, _, _, rfl⟩
    · rintro Γ' ⟨u1, u2, u3, u4, u5, u6, u7, u8, rfl⟩
      ktf_call "x"
theorem law_sp {K : PySem.W.Frag} {H : Hp} {a : Addr} {ns : List Int} (hl : ns.length ≤ 63) (tb : TabsIn H) (hS : SqL K H a (ns.map V.int)) : spR K r_law [V.ref a] H (fun v _ => v = V.bl true) fun _ _ _ => False :=
  ⟨[.list (ns.map .int)], .bool true, H, fun _ _ h => h, tb, .cons (.lst hS (DqAll.ints ns)) .nil, ⟨ns, rfl, hl, rfl⟩, fun v H' Hs' _ p => by cases p; rfl⟩
/-! the end -/
section
omit [Tabs] in
theorem all_mk {l : PySem.W.OpenLaw} {w : World} {q : Program} {K : PySem.W.Frag} {h : Heap} {mg : Str → Option Value} {fa : Addr} (X : K.In h) (G : h.Ns mainGlobals mg) (hfa : mg "law" = some (.ref fa)) (TH : TabsAtHead q K h)
    {f0 : Addr} {od0 an0 : Option Addr} {sl0 : Array (Option Value)} {oc0 kV0 dc0 pm0 cd0 ct0 : Value}
    (a0 : PySem.W.nsIn K mainGlobals "figures_in" = some (some (.ref f0))) (l0 : K.lookup f0 = some ⟨oc0, od0, .func (PySem.W.fnOf "figures_in" "figures_in" (defArgs s_figures_in) (defBody s_figures_in) (defScope s_figures_in) .none kV0 dc0 pm0 an0 cd0 ct0), sl0⟩) (c0 : PySem.W.codeIn K cd0 "figures_in" = true) (k0 : PySem.W.keepIn K (.ref f0) = true)
    {f1 : Addr} {od1 an1 : Option Addr} {sl1 : Array (Option Value)} {oc1 kV1 dc1 pm1 cd1 ct1 : Value}
    (a1 : PySem.W.nsIn K mainGlobals "is_name" = some (some (.ref f1))) (l1 : K.lookup f1 = some ⟨oc1, od1, .func (PySem.W.fnOf "is_name" "is_name" (defArgs s_is_name) (defBody s_is_name) (defScope s_is_name) .none kV1 dc1 pm1 an1 cd1 ct1), sl1⟩) (c1 : PySem.W.codeIn K cd1 "is_name" = true) (k1 : PySem.W.keepIn K (.ref f1) = true)
    {x1 T1 : Addr} {ec1 : Value} {dd1 : Option Addr} {vs1 : Array Value} {sc1 : Array (Option Value)} (ce1 : cd1 = .ref x1) (lc1 : K.lookup x1 = some ⟨ec1, dd1, .fields vs1, sc1⟩) (vt1 : vs1[11]? = some (.ref T1)) (nt1 : K.lookup T1 = none) (rc1 : ((PyProof.Rows.recsOf q).find? (fun e => e.name == ("is_name" : Str))).isSome = true)
    {f2 : Addr} {od2 an2 : Option Addr} {sl2 : Array (Option Value)} {oc2 kV2 dc2 pm2 cd2 ct2 : Value}
    (a2 : PySem.W.nsIn K mainGlobals "number_in" = some (some (.ref f2))) (l2 : K.lookup f2 = some ⟨oc2, od2, .func (PySem.W.fnOf "number_in" "number_in" (defArgs s_number_in) (defBody s_number_in) (defScope s_number_in) .none kV2 dc2 pm2 an2 cd2 ct2), sl2⟩) (c2 : PySem.W.codeIn K cd2 "number_in" = true) (k2 : PySem.W.keepIn K (.ref f2) = true)
    {f3 : Addr} {od3 an3 : Option Addr} {sl3 : Array (Option Value)} {oc3 kV3 dc3 pm3 cd3 ct3 : Value}
    (a3 : PySem.W.nsIn K mainGlobals "odds_in" = some (some (.ref f3))) (l3 : K.lookup f3 = some ⟨oc3, od3, .func (PySem.W.fnOf "odds_in" "odds_in" (defArgs s_odds_in) (defBody s_odds_in) (defScope s_odds_in) .none kV3 dc3 pm3 an3 cd3 ct3), sl3⟩) (c3 : PySem.W.codeIn K cd3 "odds_in" = true) (k3 : PySem.W.keepIn K (.ref f3) = true)
    {f4 : Addr} {od4 an4 : Option Addr} {sl4 : Array (Option Value)} {oc4 kV4 dc4 pm4 cd4 ct4 : Value}
    (a4 : PySem.W.nsIn K mainGlobals "words_of" = some (some (.ref f4))) (l4 : K.lookup f4 = some ⟨oc4, od4, .func (PySem.W.fnOf "words_of" "words_of" (defArgs s_words_of) (defBody s_words_of) (defScope s_words_of) .none kV4 dc4 pm4 an4 cd4 ct4), sl4⟩) (c4 : PySem.W.codeIn K cd4 "words_of" = true) (k4 : PySem.W.keepIn K (.ref f4) = true)
    {f5 : Addr} {od5 an5 : Option Addr} {sl5 : Array (Option Value)} {oc5 kV5 dc5 pm5 cd5 ct5 : Value}
    (a5 : PySem.W.nsIn K mainGlobals "_law_mixed" = some (some (.ref f5))) (l5 : K.lookup f5 = some ⟨oc5, od5, .func (PySem.W.fnOf "_law_mixed" "_law_mixed" (defArgs s_law_mixed) (defBody s_law_mixed) (defScope s_law_mixed) .none kV5 dc5 pm5 an5 cd5 ct5), sl5⟩) (c5 : PySem.W.codeIn K cd5 "_law_mixed" = true) (k5 : PySem.W.keepIn K (.ref f5) = true)
    {f6 : Addr} {od6 an6 : Option Addr} {sl6 : Array (Option Value)} {oc6 kV6 dc6 pm6 cd6 ct6 : Value}
    (a6 : PySem.W.nsIn K mainGlobals "_law_signs" = some (some (.ref f6))) (l6 : K.lookup f6 = some ⟨oc6, od6, .func (PySem.W.fnOf "_law_signs" "_law_signs" (defArgs s_law_signs) (defBody s_law_signs) (defScope s_law_signs) .none kV6 dc6 pm6 an6 cd6 ct6), sl6⟩) (c6 : PySem.W.codeIn K cd6 "_law_signs" = true) (k6 : PySem.W.keepIn K (.ref f6) = true)
    {f7 : Addr} {od7 an7 : Option Addr} {sl7 : Array (Option Value)} {oc7 kV7 dc7 pm7 cd7 ct7 : Value}
    (a7 : PySem.W.nsIn K mainGlobals "_law_told" = some (some (.ref f7))) (l7 : K.lookup f7 = some ⟨oc7, od7, .func (PySem.W.fnOf "_law_told" "_law_told" (defArgs s_law_told) (defBody s_law_told) (defScope s_law_told) .none kV7 dc7 pm7 an7 cd7 ct7), sl7⟩) (c7 : PySem.W.codeIn K cd7 "_law_told" = true) (k7 : PySem.W.keepIn K (.ref f7) = true)
    {f8 : Addr} {od8 an8 : Option Addr} {sl8 : Array (Option Value)} {oc8 kV8 dc8 pm8 cd8 ct8 : Value}
    (a8 : PySem.W.nsIn K mainGlobals "_law_is_name" = some (some (.ref f8))) (l8 : K.lookup f8 = some ⟨oc8, od8, .func (PySem.W.fnOf "_law_is_name" "_law_is_name" (defArgs s_law_is_name) (defBody s_law_is_name) (defScope s_law_is_name) .none kV8 dc8 pm8 an8 cd8 ct8), sl8⟩) (c8 : PySem.W.codeIn K cd8 "_law_is_name" = true) (k8 : PySem.W.keepIn K (.ref f8) = true)
    {f9 : Addr} {od9 an9 : Option Addr} {sl9 : Array (Option Value)} {oc9 kV9 dc9 pm9 cd9 ct9 : Value}
    (a9 : PySem.W.nsIn K mainGlobals "_law_read" = some (some (.ref f9))) (l9 : K.lookup f9 = some ⟨oc9, od9, .func (PySem.W.fnOf "_law_read" "_law_read" (defArgs s_law_read) (defBody s_law_read) (defScope s_law_read) .none kV9 dc9 pm9 an9 cd9 ct9), sl9⟩) (c9 : PySem.W.codeIn K cd9 "_law_read" = true) (k9 : PySem.W.keepIn K (.ref f9) = true)
    {f10 : Addr} {od10 an10 : Option Addr} {sl10 : Array (Option Value)} {oc10 kV10 dc10 pm10 cd10 ct10 : Value}
    (a10 : PySem.W.nsIn K mainGlobals "_law_read_odds" = some (some (.ref f10))) (l10 : K.lookup f10 = some ⟨oc10, od10, .func (PySem.W.fnOf "_law_read_odds" "_law_read_odds" (defArgs s_law_read_odds) (defBody s_law_read_odds) (defScope s_law_read_odds) .none kV10 dc10 pm10 an10 cd10 ct10), sl10⟩) (c10 : PySem.W.codeIn K cd10 "_law_read_odds" = true) (k10 : PySem.W.keepIn K (.ref f10) = true)
    {f11 : Addr} {od11 an11 : Option Addr} {sl11 : Array (Option Value)} {oc11 kV11 dc11 pm11 cd11 ct11 : Value}
    (a11 : PySem.W.nsIn K mainGlobals "_law_name" = some (some (.ref f11))) (l11 : K.lookup f11 = some ⟨oc11, od11, .func (PySem.W.fnOf "_law_name" "_law_name" (defArgs s_law_name) (defBody s_law_name) (defScope s_law_name) .none kV11 dc11 pm11 an11 cd11 ct11), sl11⟩) (c11 : PySem.W.codeIn K cd11 "_law_name" = true) (k11 : PySem.W.keepIn K (.ref f11) = true)
    {f12 : Addr} {od12 an12 : Option Addr} {sl12 : Array (Option Value)} {oc12 kV12 dc12 pm12 cd12 ct12 : Value}
    (a12 : PySem.W.nsIn K mainGlobals "_law_figures" = some (some (.ref f12))) (l12 : K.lookup f12 = some ⟨oc12, od12, .func (PySem.W.fnOf "_law_figures" "_law_figures" (defArgs s_law_figures) (defBody s_law_figures) (defScope s_law_figures) .none kV12 dc12 pm12 an12 cd12 ct12), sl12⟩) (c12 : PySem.W.codeIn K cd12 "_law_figures" = true) (k12 : PySem.W.keepIn K (.ref f12) = true)
    {f13 : Addr} {od13 an13 : Option Addr} {sl13 : Array (Option Value)} {oc13 kV13 dc13 pm13 cd13 ct13 : Value}
    (a13 : PySem.W.nsIn K mainGlobals "_law_word" = some (some (.ref f13))) (l13 : K.lookup f13 = some ⟨oc13, od13, .func (PySem.W.fnOf "_law_word" "_law_word" (defArgs s_law_word) (defBody s_law_word) (defScope s_law_word) .none kV13 dc13 pm13 an13 cd13 ct13), sl13⟩) (c13 : PySem.W.codeIn K cd13 "_law_word" = true) (k13 : PySem.W.keepIn K (.ref f13) = true)
    {f14 : Addr} {od14 an14 : Option Addr} {sl14 : Array (Option Value)} {oc14 kV14 dc14 pm14 cd14 ct14 : Value}
    (a14 : PySem.W.nsIn K mainGlobals "_law_words" = some (some (.ref f14))) (l14 : K.lookup f14 = some ⟨oc14, od14, .func (PySem.W.fnOf "_law_words" "_law_words" (defArgs s_law_words) (defBody s_law_words) (defScope s_law_words) .none kV14 dc14 pm14 an14 cd14 ct14), sl14⟩) (c14 : PySem.W.codeIn K cd14 "_law_words" = true) (k14 : PySem.W.keepIn K (.ref f14) = true)
    {f15 : Addr} {od15 an15 : Option Addr} {sl15 : Array (Option Value)} {oc15 kV15 dc15 pm15 cd15 ct15 : Value}
    (a15 : PySem.W.nsIn K mainGlobals "_law_whole" = some (some (.ref f15))) (l15 : K.lookup f15 = some ⟨oc15, od15, .func (PySem.W.fnOf "_law_whole" "_law_whole" (defArgs s_law_whole) (defBody s_law_whole) (defScope s_law_whole) .none kV15 dc15 pm15 an15 cd15 ct15), sl15⟩) (c15 : PySem.W.codeIn K cd15 "_law_whole" = true) (k15 : PySem.W.keepIn K (.ref f15) = true)
    {f16 : Addr} {od16 an16 : Option Addr} {sl16 : Array (Option Value)} {oc16 kV16 dc16 pm16 cd16 ct16 : Value}
    (a16 : PySem.W.nsIn K mainGlobals "_law_pair" = some (some (.ref f16))) (l16 : K.lookup f16 = some ⟨oc16, od16, .func (PySem.W.fnOf "_law_pair" "_law_pair" (defArgs s_law_pair) (defBody s_law_pair) (defScope s_law_pair) .none kV16 dc16 pm16 an16 cd16 ct16), sl16⟩) (c16 : PySem.W.codeIn K cd16 "_law_pair" = true) (k16 : PySem.W.keepIn K (.ref f16) = true)
    {f17 : Addr} {od17 an17 : Option Addr} {sl17 : Array (Option Value)} {oc17 kV17 dc17 pm17 cd17 ct17 : Value}
    (a17 : PySem.W.nsIn K mainGlobals "law" = some (some (.ref f17))) (l17 : K.lookup f17 = some ⟨oc17, od17, .func (PySem.W.fnOf "law" "law" (defArgs s_law) (defBody s_law) (defScope s_law) .none kV17 dc17 pm17 an17 cd17 ct17), sl17⟩) (c17 : PySem.W.codeIn K cd17 "law" = true) (k17 : PySem.W.keepIn K (.ref f17) = true)
    (z_len : PySem.W.nsIn K mainGlobals "len" = some none)
    (z_int : PySem.W.nsIn K mainGlobals "int" = some none)
    (z_isinstance : PySem.W.nsIn K mainGlobals "isinstance" = some none)
    (z_str : PySem.W.nsIn K mainGlobals "str" = some none)
    (z_all : PySem.W.nsIn K mainGlobals "all" = some none)
    (z_range : PySem.W.nsIn K mainGlobals "range" = some none)
    (z_min : PySem.W.nsIn K mainGlobals "min" = some none)
    (z_bool : PySem.W.nsIn K mainGlobals "bool" = some none)
    (z_tuple : PySem.W.nsIn K mainGlobals "tuple" = some none)
    (z_enumerate : PySem.W.nsIn K mainGlobals "enumerate" = some none)
    (z_list : PySem.W.nsIn K mainGlobals "list" = some none)
    {t_MOST_FIGURES : _} (z_MOST_FIGURES : PySem.W.nsIn K mainGlobals "MOST_FIGURES" = some (some (.int 400 t_MOST_FIGURES)))
    {t_LETTERS : _} (z_LETTERS : PySem.W.nsIn K mainGlobals "LETTERS" = some (some (.str (Str.ofString "abcdefghijklmnopqrstuvwxyz") t_LETTERS)))
    {t_LETTERS_AND_FIGURES : _} (z_LETTERS_AND_FIGURES : PySem.W.nsIn K mainGlobals "LETTERS_AND_FIGURES" = some (some (.str (Str.ofString "abcdefghijklmnopqrstuvwxyz0123456789") t_LETTERS_AND_FIGURES)))
    {t_MOST_SIGNS_OF_NAME : _} (z_MOST_SIGNS_OF_NAME : PySem.W.nsIn K mainGlobals "MOST_SIGNS_OF_NAME" = some (some (.int 8 t_MOST_SIGNS_OF_NAME)))
    {t_MOST_FIGURES_OF_NUMBER : _} (z_MOST_FIGURES_OF_NUMBER : PySem.W.nsIn K mainGlobals "MOST_FIGURES_OF_NUMBER" = some (some (.int 7 t_MOST_FIGURES_OF_NUMBER)))
    {p_NO_NAMES : Addr} {od_NO_NAMES : Option Addr} {its_NO_NAMES : Array Value} {n_NO_NAMES : Nat} {sl_NO_NAMES : Array (Option Value)} (z_NO_NAMES : PySem.W.nsIn K mainGlobals "NO_NAMES" = some (some (.ref p_NO_NAMES))) (lk_NO_NAMES : K.lookup p_NO_NAMES = some ⟨.type "tuple", od_NO_NAMES, .seq its_NO_NAMES n_NO_NAMES, sl_NO_NAMES⟩) (hv_NO_NAMES : strsV its_NO_NAMES.toList = some [(Str.ofString "part"), (Str.ofString "better"), (Str.ofString "spare"), (Str.ofString "gate"), (Str.ofString "brings"), (Str.ofString "top"), (Str.ofString "all"), (Str.ofString "any")])
    : LamX.LawAtS l w K CX0 4 63 "_law_script" mg fa h := by
  have e := hfa.symm.trans (PySem.W.mg_of X G a17)
  cases e
  have T : Mg mg := ⟨PySem.W.mg_none_of X G z_len, PySem.W.mg_none_of X G z_int, PySem.W.mg_none_of X G z_isinstance, PySem.W.mg_none_of X G z_str, PySem.W.mg_none_of X G z_all, PySem.W.mg_none_of X G z_range, PySem.W.mg_none_of X G z_min, PySem.W.mg_none_of X G z_bool, PySem.W.mg_none_of X G z_tuple, PySem.W.mg_none_of X G z_enumerate, PySem.W.mg_none_of X G z_list⟩
  have C_MOST_FIGURES : CnM K mg "MOST_FIGURES" d_MOST_FIGURES := ⟨⟨_, (.int 400 : V), PySem.W.mg_of X G z_MOST_FIGURES, ⟨_, rfl⟩, fun _ => .int _⟩, by decide +kernel⟩
  have C_LETTERS : CnM K mg "LETTERS" d_LETTERS := ⟨⟨_, (.str (Str.ofString "abcdefghijklmnopqrstuvwxyz") : V), PySem.W.mg_of X G z_LETTERS, ⟨_, rfl⟩, fun _ => .str _⟩, by decide +kernel⟩
  have C_LETTERS_AND_FIGURES : CnM K mg "LETTERS_AND_FIGURES" d_LETTERS_AND_FIGURES := ⟨⟨_, (.str (Str.ofString "abcdefghijklmnopqrstuvwxyz0123456789") : V), PySem.W.mg_of X G z_LETTERS_AND_FIGURES, ⟨_, rfl⟩, fun _ => .str _⟩, by decide +kernel⟩
  have C_MOST_SIGNS_OF_NAME : CnM K mg "MOST_SIGNS_OF_NAME" d_MOST_SIGNS_OF_NAME := ⟨⟨_, (.int 8 : V), PySem.W.mg_of X G z_MOST_SIGNS_OF_NAME, ⟨_, rfl⟩, fun _ => .int _⟩, by decide +kernel⟩
  have C_MOST_FIGURES_OF_NUMBER : CnM K mg "MOST_FIGURES_OF_NUMBER" d_MOST_FIGURES_OF_NUMBER := ⟨⟨_, (.int 7 : V), PySem.W.mg_of X G z_MOST_FIGURES_OF_NUMBER, ⟨_, rfl⟩, fun _ => .int _⟩, by decide +kernel⟩
  have C_NO_NAMES : CnM K mg "NO_NAMES" d_NO_NAMES := cnm_strs (PySem.W.mg_of X G z_NO_NAMES) lk_NO_NAMES hv_NO_NAMES (by decide) (by decide +kernel)
  subst ce1
  obtain ⟨dr1, hd1⟩ := Option.isSome_iff_exists.mp rc1
  obtain ⟨hc1, ht1⟩ := TH _ _ _ _ hd1 (tab_in a1 l1 rfl lc1 vt1)
  letI tabs : Tabs := ⟨fun P => P ∈ ([T1] : List Addr)⟩
  refine ⟨PySem.W.fnOf "law" "law" (defArgs s_law) (defBody s_law) (defScope s_law) .none kV17 dc17 pm17 an17 cd17 ct17, [(x1, T1)], spR K r_law, List.forall_mem_cons.mpr ⟨ht1, List.forall_mem_nil _⟩, List.forall_mem_cons.mpr ⟨nt1, List.forall_mem_nil _⟩, List.forall_mem_cons.mpr ⟨hc1, List.forall_mem_nil _⟩, fun s v => .of_eq rfl, fun H a ns hl _ hT hS => law_sp hl (show ∀ P ∈ ([T1] : List Addr), GxR.TabG H P from List.forall_mem_cons.mpr ⟨tabs_nil (hT (x1, T1) (by simp)), List.forall_mem_nil _⟩) hS, fun base _ _ hB => ?_⟩
  have B1 : GxR.TabB base mg x1 T1 := let b := hB (x1, T1) (by simp); ⟨b.code, b.bm, b.gP⟩
  have S1 : Tabs.ts T1 := (show T1 ∈ ([T1] : List Addr) by simp)
  have D_figures_in : Dn l.prog w K mg base 1 "figures_in" r_figures_in := ok_figures_in (fun_mk (st := s_figures_in) l0 c0 k0) (PySem.W.mg_of X G a0) T C_MOST_FIGURES
  have D_is_name : Dn l.prog w K mg base 1 "is_name" r_is_name := ok_is_name (func_mk (st := s_is_name) l1 c1 k1) B1 S1 (PySem.W.mg_of X G a1) T C_NO_NAMES C_MOST_SIGNS_OF_NAME C_LETTERS C_LETTERS_AND_FIGURES
  have D_words_of : DnO l.prog w K mg base 1 "words_of" r_words_of := ok_words_of (fun_mk (st := s_words_of) l4 c4 k4) (PySem.W.mg_of X G a4) T
  have D_law_mixed : Dn l.prog w K mg base 1 "_law_mixed" r_law_mixed := ok_law_mixed (fun_mk (st := s_law_mixed) l5 c5 k5) (PySem.W.mg_of X G a5) T
  have D_law_signs : Dn l.prog w K mg base 1 "_law_signs" r_law_signs := ok_law_signs (fun_mk (st := s_law_signs) l6 c6 k6) (PySem.W.mg_of X G a6) T
  have D_law_told : Dn l.prog w K mg base 1 "_law_told" r_law_told := ok_law_told (fun_mk (st := s_law_told) l7 c7 k7) (PySem.W.mg_of X G a7) T
  have D_law_read : Dn l.prog w K mg base 1 "_law_read" r_law_read := ok_law_read (fun_mk (st := s_law_read) l9 c9 k9) (PySem.W.mg_of X G a9) T
  have D_law_words : Dn l.prog w K mg base 1 "_law_words" r_law_words := ok_law_words (fun_mk (st := s_law_words) l14 c14 k14) (PySem.W.mg_of X G a14) T
  have D_law_whole : Dn l.prog w K mg base 1 "_law_whole" r_law_whole := ok_law_whole (fun_mk (st := s_law_whole) l15 c15 k15) (PySem.W.mg_of X G a15) T
  have D_number_in : Dn l.prog w K mg base 2 "number_in" r_number_in := ok_number_in (fun_mk (st := s_number_in) l2 c2 k2) (PySem.W.mg_of X G a2) T D_figures_in C_MOST_FIGURES_OF_NUMBER
  have D_law_is_name : Dn l.prog w K mg base 2 "_law_is_name" r_law_is_name := ok_law_is_name (fun_mk (st := s_law_is_name) l8 c8 k8) (PySem.W.mg_of X G a8) T D_law_told
  have D_law_read_odds : Dn l.prog w K mg base 2 "_law_read_odds" r_law_read_odds := ok_law_read_odds (fun_mk (st := s_law_read_odds) l10 c10 k10) (PySem.W.mg_of X G a10) T D_law_read
  have D_law_name : Dn l.prog w K mg base 2 "_law_name" r_law_name := ok_law_name (fun_mk (st := s_law_name) l11 c11 k11) (PySem.W.mg_of X G a11) T D_law_mixed D_law_signs D_law_told
  have D_law_figures : Dn l.prog w K mg base 2 "_law_figures" r_law_figures := ok_law_figures (fun_mk (st := s_law_figures) l12 c12 k12) (PySem.W.mg_of X G a12) T D_law_signs
  have D_law_pair : Dn l.prog w K mg base 2 "_law_pair" r_law_pair := ok_law_pair (fun_mk (st := s_law_pair) l16 c16 k16) (PySem.W.mg_of X G a16) T D_law_whole
  have D_odds_in : Dn l.prog w K mg base 3 "odds_in" r_odds_in := ok_odds_in (fun_mk (st := s_odds_in) l3 c3 k3) (PySem.W.mg_of X G a3) T D_number_in
  have D_law_word : Dn l.prog w K mg base 3 "_law_word" r_law_word := ok_law_word (fun_mk (st := s_law_word) l13 c13 k13) (PySem.W.mg_of X G a13) T D_law_name D_law_figures D_law_mixed
  exact ok_law (fun_mk (st := s_law) l17 c17 k17) (PySem.W.mg_of X G a17) T D_law_mixed D_law_word D_is_name D_law_is_name D_law_whole D_number_in D_law_read D_law_pair D_odds_in D_law_read_odds D_words_of D_law_words
end
end K2
open PySem PySem.W PyProof.Rows
set_option maxRecDepth 100000 in
set_option maxHeartbeats 0 in
theorem PySem.Challenge.cw_faultwood_k02_names_numbers_words_holds : PySem.Challenge.rw_faultwood_k02_names_numbers_words.Holds := by
  w_on; o_law; k_head; (case hw => w_witness2)
  k_fill
  refine Dl.walk_ofTabs (l := PySem.Challenge.rw_faultwood_k02_names_numbers_words) (n := 63) (k := 4) (x := "_law_script") (CX := fun _ => L2.CX0) rfl (by decide) rfl ⟨rfl, by decide, by decide⟩ (fun w h Y => PySem.W.kIn_of Y) ?F (fun _ _ _ _ _ h => h)
  case F =>
    intro w mg fa h Y KX G hmg TH
    refine' K2.all_mk KX G hmg TH ?a0 ?l0 ?c0 ?k0 ?a1 ?l1 ?c1 ?k1 ?ce1 ?lc1 ?vt1 ?nt1 ?rc1 ?a2 ?l2 ?c2 ?k2 ?a3 ?l3 ?c3 ?k3 ?a4 ?l4 ?c4 ?k4 ?a5 ?l5 ?c5 ?k5 ?a6 ?l6 ?c6 ?k6 ?a7 ?l7 ?c7 ?k7 ?a8 ?l8 ?c8 ?k8 ?a9 ?l9 ?c9 ?k9 ?a10 ?l10 ?c10 ?k10 ?a11 ?l11 ?c11 ?k11 ?a12 ?l12 ?c12 ?k12 ?a13 ?l13 ?c13 ?k13 ?a14 ?l14 ?c14 ?k14 ?a15 ?l15 ?c15 ?k15 ?a16 ?l16 ?c16 ?k16 ?a17 ?l17 ?c17 ?k17 ?z_len ?z_int ?z_isinstance ?z_str ?z_all ?z_range ?z_min ?z_bool ?z_tuple ?z_enumerate ?z_list ?z_MOST_FIGURES ?z_LETTERS ?z_LETTERS_AND_FIGURES ?z_MOST_SIGNS_OF_NAME ?z_MOST_FIGURES_OF_NUMBER ?z_NO_NAMES ?lk_NO_NAMES ?hv_NO_NAMES
    (case a0 => k_is)
    (case l0 => k_is)
    (case c0 => k_is)
    (case k0 => k_is)
    (case a1 => k_is)
    (case l1 => k_is)
    (case c1 => k_is)
    (case k1 => k_is)
    (case ce1 => first | rfl | decide +kernel)
    (case lc1 => k_is)
    (case vt1 => first | rfl | decide +kernel)
    (case nt1 => first | rfl | decide +kernel)
    (case rc1 => first | rfl | decide +kernel)
    (case a2 => k_is)
    (case l2 => k_is)
    (case c2 => k_is)
    (case k2 => k_is)
    (case a3 => k_is)
    (case l3 => k_is)
    (case c3 => k_is)
    (case k3 => k_is)
    (case a4 => k_is)
    (case l4 => k_is)
    (case c4 => k_is)
    (case k4 => k_is)
    (case a5 => k_is)
    (case l5 => k_is)
    (case c5 => k_is)
    (case k5 => k_is)
    (case a6 => k_is)
    (case l6 => k_is)
    (case c6 => k_is)
    (case k6 => k_is)
    (case a7 => k_is)
    (case l7 => k_is)
    (case c7 => k_is)
    (case k7 => k_is)
    (case a8 => k_is)
    (case l8 => k_is)
    (case c8 => k_is)
    (case k8 => k_is)
    (case a9 => k_is)
    (case l9 => k_is)
    (case c9 => k_is)
    (case k9 => k_is)
    (case a10 => k_is)
    (case l10 => k_is)
    (case c10 => k_is)
    (case k10 => k_is)
    (case a11 => k_is)
    (case l11 => k_is)
    (case c11 => k_is)
    (case k11 => k_is)
    (case a12 => k_is)
    (case l12 => k_is)
    (case c12 => k_is)
    (case k12 => k_is)
    (case a13 => k_is)
    (case l13 => k_is)
    (case c13 => k_is)
    (case k13 => k_is)
    (case a14 => k_is)
    (case l14 => k_is)
    (case c14 => k_is)
    (case k14 => k_is)
    (case a15 => k_is)
    (case l15 => k_is)
    (case c15 => k_is)
    (case k15 => k_is)
    (case a16 => k_is)
    (case l16 => k_is)
    (case c16 => k_is)
    (case k16 => k_is)
    (case a17 => k_is)
    (case l17 => k_is)
    (case c17 => k_is)
    (case k17 => k_is)
    (case z_len => k_is)
    (case z_int => k_is)
    (case z_isinstance => k_is)
    (case z_str => k_is)
    (case z_all => k_is)
    (case z_range => k_is)
    (case z_min => k_is)
    (case z_bool => k_is)
    (case z_tuple => k_is)
    (case z_enumerate => k_is)
    (case z_list => k_is)
    (case z_MOST_FIGURES => k_is)
    (case z_LETTERS => k_is)
    (case z_LETTERS_AND_FIGURES => k_is)
    (case z_MOST_SIGNS_OF_NAME => k_is)
    (case z_MOST_FIGURES_OF_NUMBER => k_is)
    (case z_NO_NAMES => k_is)
    (case lk_NO_NAMES => k_is)
    (case hv_NO_NAMES => first | rfl | decide +kernel)
