import PyProof.Rows.All
import Wide.All
import OpenK.AllK
import Wide.FinOn
import HandS.Base
import HandS.Call
import HandS.List
import HandS.Comp
import HandS.Ends
import HandS.Dict
import HandS.Iter
import HandS.Text
import HandS.Words
import HandS.WordsList
import HandS.Wide
import HandS.Gcd
import HandS.FStr
import HandS.IsInst
import HandS.StrMore
import HandS.TupLe
import HandS.TupAny
import HandS.AnyAll
import HandS.NoneIn
import PySem.Challenge.RW_faultwood_k01_shares
set_option Elab.async false
set_option linter.all false
set_option maxRecDepth 100000
set_option maxHeartbeats 2000000
/-! A layer of our own over the hand layer: what a def does, told by plain data. -/
namespace Dl
open PySem L2

/-! ### heaps that grow -/
/-- what stood stands; tables of code objects may have grown -/
def Ext (H H' : Hp) : Prop := ∀ a o, H a = some o → H' a = some o ∨ ∃ ps ps' : Array Value, o = .tbl ps ∧ H' a = some (.tbl ps') ∧ (TriplesOk ps.toList → TriplesOk ps'.toList)
theorem Ext.refl (H : Hp) : Ext H H := fun _ _ h => .inl h
theorem Ext.trans {H H1 H2 : Hp} (a : Ext H H1) (b : Ext H1 H2) : Ext H H2 := fun x o h => by
  rcases a x o h with h1 | ⟨ps, ps', e, h1, t⟩
  · exact b x o h1
  · rcases b x _ h1 with h2 | ⟨qs, qs', e', h2, t'⟩
    · exact .inr ⟨ps, ps', e, h2, t⟩
    · cases e'
      exact .inr ⟨ps, qs', e, h2, fun z => t' (t z)⟩
theorem Ext.no {H H' : Hp} (e : Ext H H') {a : Addr} (h : H' a = none) : H a = none := by
  cases q : H a with
  | none => rfl
  | some o =>
    rcases e a o q with h1 | ⟨_, _, _, h1, _⟩
    · rw [h1] at h; cases h
    · rw [h1] at h; cases h
theorem Ext.lst {H H' : Hp} (e : Ext H H') {a : Addr} {xs : List V} (h : H a = some (.lst xs)) : H' a = some (.lst xs) := by
  rcases e a _ h with h1 | ⟨_, _, q, _, _⟩
  · exact h1
  · cases q
theorem Ext.new {H : Hp} {p : Addr} {o : HO} (h : H p = none) : Ext H (upd H p o) := fun a u e => .inl (by
  rw [upd_ne (ne_of_none e h)]
  exact e)
/-- an object that H does not know may change -/
theorem Ext.mut {H H' : Hp} {p : Addr} {o : HO} (e : Ext H H') (h : H p = none) : Ext H (upd H' p o) := fun a u ha => by
  rw [upd_ne (ne_of_none ha h)]
  exact e a u ha
theorem ext_rd {H H' : Hp} {a : Addr} {u : HO} (e : Ext H H') (nt : ∀ ps, u ≠ .tbl ps) (h : Rd H a u) : Rd H' a u := by
  rcases h with h | ⟨o, h⟩
  · rcases e a _ h with h1 | ⟨_, _, q, _, _⟩
    · exact .inl h1
    · exact absurd q (nt _)
  · rcases e a _ h with h1 | ⟨_, _, q, _, _⟩
    · exact .inr ⟨o, h1⟩
    · cases q
theorem ext_l {K : PySem.W.Frag} {H H' : Hp} {a : Addr} {xs : List V} (e : Ext H H') (h : SqL K H a xs) : SqL K H' a xs := by
  rcases h with h | h
  · exact .inl (ext_rd e (fun _ q => nomatch q) h)
  · exact .inr h
theorem ext_t {K : PySem.W.Frag} {H H' : Hp} {a : Addr} {xs : List V} (e : Ext H H') (h : SqT K H a xs) : SqT K H' a xs := by
  rcases h with h | h
  · exact .inl (ext_rd e (fun _ q => nomatch q) h)
  · exact .inr h
/-! ### data -/
def keyD : Key → PyData
  | .inl i => .int i
  | .inr x => .str x
mutual
inductive Dq (K : PySem.W.Frag) (H : Hp) : V → PyData → Prop
  | non : Dq K H .non .none
  | bl (b : Bool) : Dq K H (.bl b) (.bool b)
  | int (i : Int) : Dq K H (.int i) (.int i)
  | str (x : Str) : Dq K H (.str x) (.str x)
  | lst {a : Addr} {xs : List V} {ds : List PyData} : SqL K H a xs → DqAll K H xs ds → Dq K H (.ref a) (.list ds)
  | tup {a : Addr} {xs : List V} {ds : List PyData} : SqT K H a xs → DqAll K H xs ds → Dq K H (.ref a) (.tuple ds)
  | dic {a : Addr} {kvs : List (Key × V)} {es : List (PyData × PyData)} : Rd H a (.dK kvs) → DqKV K H kvs es → Dq K H (.ref a) (.dict es)
inductive DqAll (K : PySem.W.Frag) (H : Hp) : List V → List PyData → Prop
  | nil : DqAll K H [] []
  | cons {v : V} {vs : List V} {d : PyData} {ds : List PyData} : Dq K H v d → DqAll K H vs ds → DqAll K H (v :: vs) (d :: ds)
inductive DqKV (K : PySem.W.Frag) (H : Hp) : List (Key × V) → List (PyData × PyData) → Prop
  | nil : DqKV K H [] []
  | cons {k : Key} {v : V} {vs : List (Key × V)} {d : PyData} {ds : List (PyData × PyData)} : Dq K H v d → DqKV K H vs ds → DqKV K H ((k, v) :: vs) ((keyD k, d) :: ds)
end
section
variable {K : PySem.W.Frag} {H H' : Hp}
theorem Dq.map (hl : ∀ a xs, SqL K H a xs → SqL K H' a xs) (ht : ∀ a xs, SqT K H a xs → SqT K H' a xs) (hd : ∀ a kvs, Rd H a (.dK kvs) → Rd H' a (.dK kvs)) {v : V} {d : PyData} (h : Dq K H v d) : Dq K H' v d :=
  Dq.rec (motive_1 := fun v d _ => Dq K H' v d) (motive_2 := fun vs ds _ => DqAll K H' vs ds) (motive_3 := fun vs ds _ => DqKV K H' vs ds)
    .non (fun b => .bl b) (fun i => .int i) (fun x => .str x) (fun s _ ih => .lst (hl _ _ s) ih) (fun s _ ih => .tup (ht _ _ s) ih) (fun s _ ih => .dic (hd _ _ s) ih) .nil (fun _ _ a b => .cons a b) .nil (fun _ _ a b => .cons a b) h
theorem DqAll.map (hl : ∀ a xs, SqL K H a xs → SqL K H' a xs) (ht : ∀ a xs, SqT K H a xs → SqT K H' a xs) (hd : ∀ a kvs, Rd H a (.dK kvs) → Rd H' a (.dK kvs)) : ∀ {vs : List V} {ds : List PyData}, DqAll K H vs ds → DqAll K H' vs ds
  | _, _, .nil => .nil
  | _, _, .cons h a => .cons (h.map hl ht hd) (DqAll.map hl ht hd a)
theorem Dq.mono (e : Ext H H') {v : V} {d : PyData} (h : Dq K H v d) : Dq K H' v d := h.map (fun _ _ => ext_l e) (fun _ _ => ext_t e) (fun _ _ => ext_rd e fun _ q => nomatch q)
theorem DqAll.mono (e : Ext H H') {vs : List V} {ds : List PyData} (h : DqAll K H vs ds) : DqAll K H' vs ds := h.map (fun _ _ => ext_l e) (fun _ _ => ext_t e) (fun _ _ => ext_rd e fun _ q => nomatch q)
/-- data without dicts, as the hand layer's own relation -/
theorem Dq.plain {v : V} {d : PyData} (h : Dq K H v d) : d.canLay0 = true → Dp K H v d :=
  Dq.rec (motive_1 := fun v d _ => d.canLay0 = true → Dp K H v d) (motive_2 := fun vs ds _ => PyData.canLayAll0 ds = true → DpAll K H vs ds) (motive_3 := fun _ _ _ => True)
    (fun _ => .non) (fun b _ => .bl b) (fun i _ => .int i) (fun x _ => .str x) (fun s _ ih q => .lst s (ih q)) (fun s _ ih q => .tup s (ih q)) (fun s _ ih q => nomatch q) (fun _ => .nil)
    (fun {v vs d ds} _ _ a b q => by
      have q' : (d.canLay0 && PyData.canLayAll0 ds) = true := q
      rw [Bool.and_eq_true] at q'
      exact .cons (a q'.1) (b q'.2)) trivial (fun _ _ _ _ => trivial) h
end
theorem DqAll.length {K : PySem.W.Frag} {H : Hp} : ∀ {vs : List V} {ds : List PyData}, DqAll K H vs ds → vs.length = ds.length
  | _, _, .nil => rfl
  | _, _, .cons _ a => by rw [List.length_cons, List.length_cons, DqAll.length a]
theorem DqAll.get {K : PySem.W.Frag} {H : Hp} : ∀ {vs : List V} {ds : List PyData} {i : Nat} {d : PyData}, DqAll K H vs ds → ds[i]? = some d → ∃ v, vs[i]? = some v ∧ Dq K H v d
  | _, _, _, _, .nil, h => by simp at h
  | _, _, 0, _, .cons h _, e => by
    cases e
    exact ⟨_, rfl, h⟩
  | _, _, i + 1, _, .cons _ a, e => DqAll.get (i := i) a e
theorem DqAll.getV {K : PySem.W.Frag} {H : Hp} : ∀ {vs : List V} {ds : List PyData} {i : Nat} {v : V}, DqAll K H vs ds → vs[i]? = some v → ∃ d, ds[i]? = some d ∧ Dq K H v d
  | _, _, _, _, .nil, h => by simp at h
  | _, _, 0, _, .cons h _, e => by
    cases e
    exact ⟨_, rfl, h⟩
  | _, _, i + 1, _, .cons _ a, e => DqAll.getV (i := i) a e
theorem DqAll.app {K : PySem.W.Frag} {H : Hp} : ∀ {vs ws : List V} {ds es : List PyData}, DqAll K H vs ds → DqAll K H ws es → DqAll K H (vs ++ ws) (ds ++ es)
  | _, _, _, _, .nil, b => b
  | _, _, _, _, .cons h a, b => .cons h (DqAll.app a b)
theorem DqAll.drop {K : PySem.W.Frag} {H : Hp} : ∀ {vs : List V} {ds : List PyData} (n : Nat), DqAll K H vs ds → DqAll K H (vs.drop n) (ds.drop n)
  | _, _, 0, h => h
  | _, _, _ + 1, .nil => .nil
  | _, _, n + 1, .cons _ a => DqAll.drop n a
theorem DqAll.take {K : PySem.W.Frag} {H : Hp} : ∀ {vs : List V} {ds : List PyData} (n : Nat), DqAll K H vs ds → DqAll K H (vs.take n) (ds.take n)
  | _, _, 0, _ => .nil
  | _, _, _ + 1, .nil => .nil
  | _, _, n + 1, .cons h a => .cons h (DqAll.take n a)
theorem DqAll.set {K : PySem.W.Frag} {H : Hp} {v : V} {d : PyData} (h : Dq K H v d) : ∀ {vs : List V} {ds : List PyData} (n : Nat), DqAll K H vs ds → DqAll K H (vs.set n v) (ds.set n d)
  | _, _, _, .nil => .nil
  | _, _, 0, .cons _ a => .cons h a
  | _, _, n + 1, .cons g a => .cons g (DqAll.set h n a)
theorem DqAll.ints {K : PySem.W.Frag} {H : Hp} : ∀ ns : List Int, DqAll K H (ns.map V.int) (ns.map PyData.int)
  | [] => .nil
  | n :: r => .cons (.int n) (DqAll.ints r)
theorem DqAll.ints_inv {K : PySem.W.Frag} {H : Hp} : ∀ {ns : List Int} {vs : List V}, DqAll K H vs (ns.map PyData.int) → vs = ns.map V.int
  | [], _, .nil => rfl
  | n :: r, _, .cons h a => by
    have e := DqAll.ints_inv (ns := r) a
    cases h
    rw [e]; rfl
theorem DqAll.strs_inv {K : PySem.W.Frag} {H : Hp} : ∀ {ns : List Str} {vs : List V}, DqAll K H vs (ns.map PyData.str) → vs = ns.map V.str
  | [], _, .nil => rfl
  | n :: r, _, .cons h a => by
    have e := DqAll.strs_inv (ns := r) a
    cases h
    rw [e]; rfl
theorem DqAll.strs {K : PySem.W.Frag} {H : Hp} : ∀ ns : List Str, DqAll K H (ns.map V.str) (ns.map PyData.str)
  | [] => .nil
  | n :: r => .cons (.str n) (DqAll.strs r)

/-- from (H, Hs) to (H', Hs'): Hs what the shared data lies in, a part of H -/
structure Gr (H Hs H' Hs' : Hp) : Prop where
  ext : Ext H H'
  exs : Ext Hs Hs'
  sub : ∀ a o, Hs' a = some o → H' a = some o
  new : ∀ a, Hs' a ≠ none → Hs a ≠ none ∨ H a = none
theorem Gr.refl {H Hs : Hp} (s : ∀ a o, Hs a = some o → H a = some o) : Gr H Hs H Hs := ⟨Ext.refl _, Ext.refl _, s, fun _ h => .inl h⟩
theorem Gr.trans {H Hs H1 Hs1 H2 Hs2 : Hp} (a : Gr H Hs H1 Hs1) (b : Gr H1 Hs1 H2 Hs2) : Gr H Hs H2 Hs2 :=
  ⟨a.ext.trans b.ext, a.exs.trans b.exs, b.sub, fun x h => by
    rcases b.new x h with q | q
    · exact a.new x q
    · exact .inr (a.ext.no q)⟩
/-- a new object of the shared part -/
theorem Gr.share {H Hs H1 Hs1 : Hp} {p : Addr} {o : HO} (g : Gr H Hs H1 Hs1) (h : H1 p = none) : Gr H Hs (upd H1 p o) (upd Hs1 p o) := by
  have hs : Hs1 p = none := by
    cases q : Hs1 p with
    | none => rfl
    | some u => rw [g.sub p u q] at h; cases h
  refine g.trans ⟨Ext.new h, Ext.new hs, fun a u e => ?_, fun a e => ?_⟩
  · by_cases ha : a = p
    · subst ha; rw [upd_same] at e ⊢; exact e
    · rw [upd_ne ha] at e ⊢; exact g.sub a u e
  · by_cases ha : a = p
    · subst ha; exact .inr h
    · rw [upd_ne ha] at e; exact .inl e
/-- a new object of one's own -/
theorem Gr.keep {H Hs H1 Hs1 : Hp} {p : Addr} {o : HO} (g : Gr H Hs H1 Hs1) (h : H1 p = none) : Gr H Hs (upd H1 p o) Hs1 := by
  refine g.trans ⟨Ext.new h, Ext.refl _, fun a u e => ?_, fun a e => .inl e⟩
  have := g.sub a u e
  rw [upd_ne (ne_of_none this h)]
  exact this
theorem Gr.hsn {H Hs H1 Hs1 : Hp} (g : Gr H Hs H1 Hs1) {p : Addr} (h : H1 p = none) : Hs1 p = none := by
  cases q : Hs1 p with
  | none => rfl
  | some u => rw [g.sub p u q] at h; cases h

/-! ### slots by data -/
inductive Sl where
  | un | sh (d : PyData) | ow (ds : List PyData) | vv (v : V)
def SlOk (K : PySem.W.Frag) (H0 H Hs : Hp) : Sl → Option V → Prop
  | .un, _ => True
  | .sh d, o => ∃ v, o = some v ∧ Dq K Hs v d
  | .ow ds, o => ∃ l xs, o = some (.ref l) ∧ H l = some (.lst xs) ∧ DqAll K Hs xs ds ∧ Hs l = none ∧ H0 l = none
  | .vv v, o => o = some v
abbrev Gm := List Sl
/-- where a def stands: H0, Hs0 its entry -/
structure En (K : PySem.W.Frag) (H0 Hs0 : Hp) (pn : Hp) (H Hs : Hp) (σ : St) (Γ : Gm) : Prop where
  gr : Gr H0 Hs0 H Hs
  pin : Ext pn Hs
  len : σ.length = Γ.length
  at_ : ∀ (i : Nat) (s : Sl) (o : Option V), Γ[i]? = some s → σ[i]? = some o → SlOk K H0 H Hs s o
  sep : ∀ (i j : Nat) (ds es : List PyData) (l : Addr), Γ[i]? = some (.ow ds) → Γ[j]? = some (.ow es) → σ[i]? = some (some (.ref l)) → σ[j]? = some (some (.ref l)) → i = j
section
variable {K : PySem.W.Frag} {H0 Hs0 H Hs H' Hs' : Hp} {pn : Hp} {σ : St} {Γ : Gm}
theorem SlOk.gr {s : Sl} {o : Option V} (h : SlOk K H0 H Hs s o) (g : Gr H Hs H' Hs') : SlOk K H0 H' Hs' s o := by
  cases s with
  | un => trivial
  | sh d =>
    obtain ⟨v, e, p⟩ := h
    exact ⟨v, e, p.mono g.exs⟩
  | ow ds =>
    obtain ⟨l, xs, e, h1, h2, h3, h4⟩ := h
    refine ⟨l, xs, e, g.ext.lst h1, h2.mono g.exs, ?_, h4⟩
    cases q : Hs' l with
    | none => rfl
    | some u =>
      rcases g.new l (by rw [q]; simp) with z | z
      · exact absurd h3 z
      · rw [h1] at z; cases z
  | vv v => exact h
theorem En.grow (E : En K H0 Hs0 pn H Hs σ Γ) (g : Gr H Hs H' Hs') : En K H0 Hs0 pn H' Hs' σ Γ :=
  ⟨E.gr.trans g, E.pin.trans g.exs, E.len, fun i s o h1 h2 => (E.at_ i s o h1 h2).gr g, E.sep⟩
theorem En.sub (E : En K H0 Hs0 pn H Hs σ Γ) : ∀ a o, Hs a = some o → H a = some o := E.gr.sub
theorem En.sh (E : En K H0 Hs0 pn H Hs σ Γ) {i : Nat} {d : PyData} (h : Γ[i]? = some (.sh d)) : ∃ v, σ[i]? = some (some v) ∧ Dq K Hs v d := by
  have hi : i < σ.length := by
    rw [E.len]
    exact (List.getElem?_eq_some_iff.mp h).1
  obtain ⟨v, e, p⟩ := E.at_ i _ _ h (List.getElem?_eq_getElem hi)
  exact ⟨v, by rw [List.getElem?_eq_getElem hi, e], p⟩
theorem En.vv (E : En K H0 Hs0 pn H Hs σ Γ) {i : Nat} {v : V} (h : Γ[i]? = some (.vv v)) : σ[i]? = some (some v) := by
  have hi : i < σ.length := by
    rw [E.len]
    exact (List.getElem?_eq_some_iff.mp h).1
  have e := E.at_ i _ _ h (List.getElem?_eq_getElem hi)
  rw [List.getElem?_eq_getElem hi]
  exact congrArg some e
theorem En.ow (E : En K H0 Hs0 pn H Hs σ Γ) {i : Nat} {ds : List PyData} (h : Γ[i]? = some (.ow ds)) : ∃ l xs, σ[i]? = some (some (.ref l)) ∧ H l = some (.lst xs) ∧ DqAll K Hs xs ds ∧ Hs l = none ∧ H0 l = none := by
  have hi : i < σ.length := by
    rw [E.len]
    exact (List.getElem?_eq_some_iff.mp h).1
  obtain ⟨l, xs, e, p⟩ := E.at_ i _ _ h (List.getElem?_eq_getElem hi)
  exact ⟨l, xs, by rw [List.getElem?_eq_getElem hi, e], p⟩
theorem En.lt (E : En K H0 Hs0 pn H Hs σ Γ) {i : Nat} (h : i < Γ.length) : i < σ.length := by rw [E.len]; exact h
/-- a slot is stored: shared data, nothing known, a value -/
theorem En.set (E : En K H0 Hs0 pn H Hs σ Γ) (i : Nat) {s : Sl} {o : Option V} (h : SlOk K H0 H Hs s o) (hs : ∀ ds, s ≠ .ow ds) : En K H0 Hs0 pn H Hs (σ.set i o) (Γ.set i s) := by
  refine ⟨E.gr, E.pin, by rw [List.length_set, List.length_set]; exact E.len, fun j t q h1 h2 => ?_, fun j k ds es l h1 h2 h3 h4 => ?_⟩
  · by_cases hj : i = j
    · subst hj
      obtain ⟨b1, e1⟩ := List.getElem?_eq_some_iff.mp h1
      obtain ⟨b2, e2⟩ := List.getElem?_eq_some_iff.mp h2
      rw [List.getElem_set_self] at e1 e2
      subst e1; subst e2
      exact h
    · rw [List.getElem?_set_ne hj] at h1 h2
      exact E.at_ j t q h1 h2
  · have nj : ∀ j ds, (Γ.set i s)[j]? = some (.ow ds) → i ≠ j := fun j ds e z => by
      subst z
      obtain ⟨b1, e1⟩ := List.getElem?_eq_some_iff.mp e
      rw [List.getElem_set_self] at e1
      exact hs ds e1
    have n1 := nj j ds h1
    have n2 := nj k es h2
    rw [List.getElem?_set_ne n1] at h1 h3
    rw [List.getElem?_set_ne n2] at h2 h4
    exact E.sep j k ds es l h1 h2 h3 h4
theorem En.setSh (E : En K H0 Hs0 pn H Hs σ Γ) (i : Nat) {v : V} {d : PyData} (h : Dq K Hs v d) : En K H0 Hs0 pn H Hs (σ.set i (some v)) (Γ.set i (.sh d)) := E.set i (s := .sh d) (o := some v) ⟨v, rfl, h⟩ fun _ z => nomatch z
theorem En.setUn (E : En K H0 Hs0 pn H Hs σ Γ) (i : Nat) {o : Option V} : En K H0 Hs0 pn H Hs (σ.set i o) (Γ.set i .un) := E.set i (s := .un) (o := o) trivial fun _ z => nomatch z
/-- a new list of one's own is stored -/
theorem En.setOw (E : En K H0 Hs0 pn H Hs σ Γ) (i : Nat) {l : Addr} {xs : List V} {ds : List PyData} (hl : H l = some (.lst xs)) (hd : DqAll K Hs xs ds) (hs : Hs l = none) (h0 : H0 l = none)
    (ne : ∀ j es, Γ[j]? = some (.ow es) → j ≠ i → σ[j]? ≠ some (some (.ref l))) : En K H0 Hs0 pn H Hs (σ.set i (some (.ref l))) (Γ.set i (.ow ds)) := by
  refine ⟨E.gr, E.pin, by rw [List.length_set, List.length_set]; exact E.len, fun j t q h1 h2 => ?_, fun j k ds' es l' h1 h2 h3 h4 => ?_⟩
  · by_cases hj : i = j
    · subst hj
      obtain ⟨b1, e1⟩ := List.getElem?_eq_some_iff.mp h1
      obtain ⟨b2, e2⟩ := List.getElem?_eq_some_iff.mp h2
      rw [List.getElem_set_self] at e1 e2
      subst e1; subst e2
      exact ⟨l, xs, rfl, hl, hd, hs, h0⟩
    · rw [List.getElem?_set_ne hj] at h1 h2
      exact E.at_ j t q h1 h2
  · have is_l : ∀ {m : Nat}, i = m → (σ.set i (some (.ref l)))[m]? = some (some (.ref l')) → l' = l := fun {m} e h => by
      subst e
      obtain ⟨b2, e2⟩ := List.getElem?_eq_some_iff.mp h
      rw [List.getElem_set_self] at e2
      cases e2
      rfl
    by_cases hj : i = j
    · by_cases hk : i = k
      · exact hj.symm.trans hk
      · have e := is_l hj h3
        subst e
        rw [List.getElem?_set_ne hk] at h2 h4
        exact absurd h4 (ne k es h2 (Ne.symm hk))
    · by_cases hk : i = k
      · have e := is_l hk h4
        subst e
        rw [List.getElem?_set_ne hj] at h1 h3
        exact absurd h3 (ne j ds' h1 (Ne.symm hj))
      · rw [List.getElem?_set_ne hj] at h1 h3
        rw [List.getElem?_set_ne hk] at h2 h4
        exact E.sep j k ds' es l' h1 h2 h3 h4
/-- the list of one's own at slot i turns into another -/
theorem En.mut (E : En K H0 Hs0 pn H Hs σ Γ) {i : Nat} {l : Addr} {xs : List V} {ds es : List PyData} (hi : Γ[i]? = some (.ow ds)) (hl : σ[i]? = some (some (.ref l))) (hd : DqAll K Hs xs es) : En K H0 Hs0 pn (upd H l (.lst xs)) Hs σ (Γ.set i (.ow es)) := by
  obtain ⟨l', ys, e1, h1, h2, h3, h4⟩ := E.ow hi
  rw [hl] at e1
  cases e1
  refine ⟨⟨E.gr.ext.mut h4, E.gr.exs, fun a u e => ?_, E.gr.new⟩, E.pin, by rw [List.length_set]; exact E.len, fun j t q k1 k2 => ?_, fun j k ds' es' l' k1 k2 k3 k4 => ?_⟩
  · rw [upd_ne (ne_of_none e h3)]
    exact E.sub a u e
  · by_cases hj : i = j
    · subst hj
      obtain ⟨b1, e1⟩ := List.getElem?_eq_some_iff.mp k1
      rw [List.getElem_set_self] at e1
      subst e1
      rw [hl] at k2
      cases k2
      exact ⟨l, xs, rfl, upd_same, hd, h3, h4⟩
    · rw [List.getElem?_set_ne hj] at k1
      have z := E.at_ j t q k1 k2
      cases t with
      | un => trivial
      | sh d => exact z
      | vv v => exact z
      | ow fs =>
        obtain ⟨m, zs, e2, g1, g2, g3, g4⟩ := z
        refine ⟨m, zs, e2, ?_, g2, g3, g4⟩
        have : m ≠ l := fun z => by
          subst z
          subst e2
          exact hj (E.sep i j _ _ _ hi k1 hl k2)
        rw [upd_ne this]
        exact g1
  · have fix : ∀ {m : Nat} {gs : List PyData}, (Γ.set i (.ow es))[m]? = some (.ow gs) → ∃ hs, Γ[m]? = some (.ow hs) := fun {m gs} e => by
      by_cases hm : i = m
      · subst hm
        exact ⟨_, hi⟩
      · rw [List.getElem?_set_ne hm] at e
        exact ⟨_, e⟩
    obtain ⟨_, q1⟩ := fix k1
    obtain ⟨_, q2⟩ := fix k2
    exact E.sep j k _ _ _ q1 q2 k3 k4
/-- a list of one's own is given free: shared from now on -/
theorem En.free (E : En K H0 Hs0 pn H Hs σ Γ) {i : Nat} {ds : List PyData} (hi : Γ[i]? = some (.ow ds)) : ∃ Hs', Gr H0 Hs0 H Hs' ∧ Ext Hs Hs' ∧ En K H0 Hs0 pn H Hs' σ (Γ.set i (.sh (.list ds))) := by
  obtain ⟨l, xs, hl, h1, h2, h3, h4⟩ := E.ow hi
  have g : Gr H0 Hs0 H (upd Hs l (.lst xs)) := by
    refine ⟨E.gr.ext, E.gr.exs.trans (Ext.new h3), fun a u e => ?_, fun a e => ?_⟩
    · by_cases ha : a = l
      · subst ha; rw [upd_same] at e; rw [h1]; exact e
      · rw [upd_ne ha] at e; exact E.sub a u e
    · by_cases ha : a = l
      · subst ha; exact .inr h4
      · rw [upd_ne ha] at e; exact E.gr.new a e
  refine ⟨upd Hs l (.lst xs), g, Ext.new h3, g, E.pin.trans (Ext.new h3), by rw [List.length_set]; exact E.len, fun j t q k1 k2 => ?_, fun j k ds' es' l' k1 k2 k3 k4 => ?_⟩
  · by_cases hj : i = j
    · subst hj
      obtain ⟨b1, e1⟩ := List.getElem?_eq_some_iff.mp k1
      rw [List.getElem_set_self] at e1
      subst e1
      rw [hl] at k2
      cases k2
      exact ⟨.ref l, rfl, .lst (SqL.of upd_same) (h2.mono (Ext.new h3))⟩
    · rw [List.getElem?_set_ne hj] at k1
      have z := E.at_ j t q k1 k2
      cases t with
      | un => trivial
      | sh d =>
        obtain ⟨v, e, p⟩ := z
        exact ⟨v, e, p.mono (Ext.new h3)⟩
      | vv v => exact z
      | ow fs =>
        obtain ⟨m, zs, e2, g1, g2, g3, g4⟩ := z
        refine ⟨m, zs, e2, g1, g2.mono (Ext.new h3), ?_, g4⟩
        have : m ≠ l := fun z => by
          subst z
          subst e2
          exact hj (E.sep i j _ _ _ hi k1 hl k2)
        rw [upd_ne this]
        exact g3
  · have fix : ∀ {m : Nat} {gs : List PyData}, (Γ.set i (.sh (.list ds)))[m]? = some (.ow gs) → Γ[m]? = some (.ow gs) := fun {m gs} e => by
      by_cases hm : i = m
      · subst hm
        obtain ⟨b1, e1⟩ := List.getElem?_eq_some_iff.mp e
        rw [List.getElem_set_self] at e1
        cases e1
      · rw [List.getElem?_set_ne hm] at e
        exact e
    exact E.sep j k _ _ _ (fix k1) (fix k2) k3 k4
end
end Dl
set_option Elab.async false
set_option linter.all false
set_option maxRecDepth 100000
set_option maxHeartbeats 2000000
namespace Dl
open PySem L2
/-- a def's entry: the heap, the part of it in which its arguments lie -/
structure Bs where
  H0 : Hp
  Hs0 : Hp
  low : Hp
abbrev Enb (K : PySem.W.Frag) (B : Bs) (H Hs : Hp) (σ : St) (Γ : Gm) : Prop := En K B.H0 B.Hs0 B.low H Hs σ Γ
def DE (K : PySem.W.Frag) (B : Bs) (t : TE) (Γ : Gm) (d : PyData) : Prop := ∀ H Hs σ, Enb K B H Hs σ Γ → ∀ Q : VK, (∀ v H' Hs', Gr H Hs H' Hs' → Dq K Hs' v d → Q v H') → t σ H Q
def DT (K : PySem.W.Frag) (B : Bs) (t : TT) (Γ : Gm) (b : Bool) : Prop := ∀ H Hs σ, Enb K B H Hs σ Γ → ∀ Q : Bool → Hp → Prop, (∀ H' Hs', Gr H Hs H' Hs' → Q b H') → t σ H Q
def DA (K : PySem.W.Frag) (B : Bs) (t : TA) (Γ : Gm) (ds : List PyData) : Prop := ∀ H Hs σ, Enb K B H Hs σ Γ → ∀ Q : List V → Hp → Prop, (∀ vs H' Hs', Gr H Hs H' Hs' → DqAll K Hs' vs ds → Q vs H') → t σ H Q
/-- a new list -/
def DL (K : PySem.W.Frag) (B : Bs) (t : TE) (Γ : Gm) (ds : List PyData) : Prop := ∀ H Hs σ, Enb K B H Hs σ Γ → ∀ Q : VK, (∀ p xs H' Hs', Gr H Hs H' Hs' → H p = none → H' p = some (.lst xs) → Hs' p = none → DqAll K Hs' xs ds → Q (.ref p) H') → t σ H Q
/-- a list or a tuple to be read, shared or one's own -/
def DV (K : PySem.W.Frag) (B : Bs) (t : TE) (Γ : Gm) (ds : List PyData) : Prop := ∀ H Hs σ, Enb K B H Hs σ Γ → ∀ Q : VK, (∀ a xs H' Hs', Gr H Hs H' Hs' → (SqL K H' a xs ∨ SqT K H' a xs) → DqAll K Hs' xs ds → Q (.ref a) H') → t σ H Q
section
variable {K : PySem.W.Frag} {B : Bs} {H Hs H' Hs' : Hp} {σ : St} {Γ : Gm} {t ta tb te : TE} {d : PyData} {ds : List PyData}
theorem sub_l {a : Addr} {xs : List V} (s : ∀ a o, Hs a = some o → H a = some o) (h : SqL K Hs a xs) : SqL K H a xs := by
  rcases h with (h | ⟨o, h⟩) | h
  · exact .inl (.inl (s _ _ h))
  · exact .inl (.inr ⟨o, s _ _ h⟩)
  · exact .inr h
theorem sub_t {a : Addr} {xs : List V} (s : ∀ a o, Hs a = some o → H a = some o) (h : SqT K Hs a xs) : SqT K H a xs := by
  rcases h with (h | ⟨o, h⟩) | h
  · exact .inl (.inl (s _ _ h))
  · exact .inl (.inr ⟨o, s _ _ h⟩)
  · exact .inr h
theorem sub_rd {a : Addr} {u : HO} (s : ∀ a o, Hs a = some o → H a = some o) (h : Rd Hs a u) : Rd H a u := by
  rcases h with h | ⟨o, h⟩
  · exact .inl (s _ _ h)
  · exact .inr ⟨o, s _ _ h⟩
theorem dp_sub (s : ∀ a o, Hs a = some o → H a = some o) {v : V} {d : PyData} (h : Dq K Hs v d) : Dq K H v d := h.map (fun _ _ => sub_l s) (fun _ _ => sub_t s) (fun _ _ => sub_rd s)
theorem dpAll_sub (s : ∀ a o, Hs a = some o → H a = some o) {vs : List V} {ds : List PyData} (h : DqAll K Hs vs ds) : DqAll K H vs ds := h.map (fun _ _ => sub_l s) (fun _ _ => sub_t s) (fun _ _ => sub_rd s)
/-! ### expressions -/
theorem de_var {i : Nat} (h : Γ[i]? = some (.sh d)) : DE K B (tVar i) Γ d := fun H Hs σ E Q q => by
  obtain ⟨v, e, p⟩ := E.sh h
  exact ⟨v, e, q v H Hs (Gr.refl E.sub) p⟩
theorem de_int {i : Int} : DE K B (tC (.int i)) Γ (.int i) := fun H Hs σ E Q q => q _ H Hs (Gr.refl E.sub) (.int i)
theorem de_str {x : Str} : DE K B (tC (.str x)) Γ (.str x) := fun H Hs σ E Q q => q _ H Hs (Gr.refl E.sub) (.str x)
theorem de_bl {b : Bool} : DE K B (tC (.bl b)) Γ (.bool b) := fun H Hs σ E Q q => q _ H Hs (Gr.refl E.sub) (.bl b)
theorem de_non : DE K B (tC .non) Γ .none := fun H Hs σ E Q q => q _ H Hs (Gr.refl E.sub) .non
theorem de_of_dl (h : DL K B t Γ ds) : DE K B t Γ (.list ds) := fun H Hs σ E Q q => h H Hs σ E _ fun p xs H' Hs' g n e s a => by
  have x : Ext Hs' (upd Hs' p (.lst xs)) := Ext.new s
  refine q (.ref p) H' (upd Hs' p (.lst xs)) ⟨g.ext, g.exs.trans x, fun b u z => ?_, fun b z => ?_⟩ (.lst (SqL.of upd_same) (a.mono x))
  · by_cases hb : b = p
    · subst hb; rw [upd_same] at z; rw [e]; exact z
    · rw [upd_ne hb] at z; exact g.sub b u z
  · by_cases hb : b = p
    · subst hb; exact .inr n
    · rw [upd_ne hb] at z; exact g.new b z
theorem dv_l (h : DE K B t Γ (.list ds)) : DV K B t Γ ds := fun H Hs σ E Q q => h H Hs σ E _ fun v H' Hs' g p => by
  cases p with
  | lst h a => exact q _ _ H' Hs' g (.inl (sub_l g.sub h)) a
theorem dv_t (h : DE K B t Γ (.tuple ds)) : DV K B t Γ ds := fun H Hs σ E Q q => h H Hs σ E _ fun v H' Hs' g p => by
  cases p with
  | tup h a => exact q _ _ H' Hs' g (.inr (sub_t g.sub h)) a
theorem dv_o {i : Nat} (h : Γ[i]? = some (.ow ds)) : DV K B (tVar i) Γ ds := fun H Hs σ E Q q => by
  obtain ⟨l, xs, e, h1, h2, _, _⟩ := E.ow h
  exact ⟨.ref l, e, q l xs H Hs (Gr.refl E.sub) (.inl (SqL.of h1)) h2⟩
/-- what a two-place operation on values is worth on data -/
def OpD (K : PySem.W.Frag) (r : R2) (a b d : PyData) : Prop := ∀ H Hs x y, (∀ a o, Hs a = some o → H a = some o) → Dq K Hs x a → Dq K Hs y b → ∀ Q : VK, (∀ v H' Hs', Gr H Hs H' Hs' → Dq K Hs' v d → Q v H') → r x y H Q
theorem de_op {r : R2} {a b : PyData} (ha : DE K B ta Γ a) (hb : DE K B tb Γ b) (hr : OpD K r a b d) : DE K B (tOp r ta tb) Γ d := fun H Hs σ E Q q =>
  ha H Hs σ E _ fun v H1 Hs1 g1 p1 => hb H1 Hs1 σ (E.grow g1) _ fun u H2 Hs2 g2 p2 => hr H2 Hs2 v u g2.sub (p1.mono g2.exs) p2 Q fun w H3 Hs3 g3 p3 => q w H3 Hs3 ((g1.trans g2).trans g3) p3
def UnD (K : PySem.W.Frag) (r : V → Hp → VK → Prop) (a d : PyData) : Prop := ∀ H Hs x, (∀ a o, Hs a = some o → H a = some o) → Dq K Hs x a → ∀ Q : VK, (∀ v H' Hs', Gr H Hs H' Hs' → Dq K Hs' v d → Q v H') → r x H Q
theorem de_un {r : V → Hp → VK → Prop} {a : PyData} (ha : DE K B ta Γ a) (hr : UnD K r a d) : DE K B (tUn r ta) Γ d := fun H Hs σ E Q q =>
  ha H Hs σ E _ fun v H1 Hs1 g1 p1 => hr H1 Hs1 v g1.sub p1 Q fun w H2 Hs2 g2 p2 => q w H2 Hs2 (g1.trans g2) p2
/-- a call of a built-in, on its arguments -/
def CbD (K : PySem.W.Frag) (r : List V → Hp → VK → Prop) (as : List PyData) (d : PyData) : Prop := ∀ H Hs xs, (∀ a o, Hs a = some o → H a = some o) → DqAll K Hs xs as → ∀ Q : VK, (∀ v H' Hs', Gr H Hs H' Hs' → Dq K Hs' v d → Q v H') → r xs H Q
theorem de_cb {r : List V → Hp → VK → Prop} {ta : TA} {as : List PyData} (ha : DA K B ta Γ as) (hr : CbD K r as d) : DE K B (tCB r ta) Γ d := fun H Hs σ E Q q =>
  ha H Hs σ E _ fun v H1 Hs1 g1 p1 => hr H1 Hs1 v g1.sub p1 Q fun w H2 Hs2 g2 p2 => q w H2 Hs2 (g1.trans g2) p2
/-- .. that makes a new list -/
def CbL (K : PySem.W.Frag) (r : List V → Hp → VK → Prop) (as ds : List PyData) : Prop := ∀ H Hs xs, (∀ a o, Hs a = some o → H a = some o) → DqAll K Hs xs as → ∀ Q : VK, (∀ p zs, H p = none → DqAll K Hs zs ds → Q (.ref p) (upd H p (.lst zs))) → r xs H Q
theorem dl_new {H1 Hs1 : Hp} {Q : VK} {p : Addr} {zs : List V} (g : Gr H Hs H1 Hs1) (q : ∀ p xs H' Hs', Gr H Hs H' Hs' → H p = none → H' p = some (.lst xs) → Hs' p = none → DqAll K Hs' xs ds → Q (.ref p) H')
    (n : H1 p = none) (a : DqAll K Hs1 zs ds) : Q (.ref p) (upd H1 p (.lst zs)) := q p zs _ Hs1 (g.keep n) (g.ext.no n) upd_same (g.hsn n) a
theorem dl_cb {r : List V → Hp → VK → Prop} {ta : TA} {as : List PyData} (ha : DA K B ta Γ as) (hr : CbL K r as ds) : DL K B (tCB r ta) Γ ds := fun H Hs σ E Q q =>
  ha H Hs σ E _ fun v H1 Hs1 g1 p1 => hr H1 Hs1 v g1.sub p1 Q fun p zs n a => dl_new g1 q n a
theorem da_nil : DA K B tNil Γ [] := fun H Hs σ E Q q => q [] H Hs (Gr.refl E.sub) .nil
theorem da_cons {ta : TA} (h : DE K B te Γ d) (hr : DA K B ta Γ ds) : DA K B (tCons te ta) Γ (d :: ds) := fun H Hs σ E Q q =>
  h H Hs σ E _ fun v H1 Hs1 g1 p1 => hr H1 Hs1 σ (E.grow g1) _ fun vs H2 Hs2 g2 p2 => q (v :: vs) H2 Hs2 (g1.trans g2) (.cons (p1.mono g2.exs) p2)
theorem de_tup {ta : TA} (h : DA K B ta Γ ds) (hl : ds.length ≤ sizeLine) : DE K B (tTup ta) Γ (.tuple ds) := fun H Hs σ E Q q =>
  h H Hs σ E _ fun vs H1 Hs1 g1 p1 => ⟨by rw [p1.length]; exact hl, fun p n => q (.ref p) _ (upd Hs1 p (.tup vs)) (g1.share n) (.tup (SqT.of upd_same) (p1.mono (Ext.new (g1.hsn n))))⟩
theorem dl_lst {ta : TA} (h : DA K B ta Γ ds) (hl : ds.length ≤ sizeLine) : DL K B (tLst ta) Γ ds := fun H Hs σ E Q q =>
  h H Hs σ E _ fun vs H1 Hs1 g1 p1 => ⟨by rw [p1.length]; exact hl, fun p n => dl_new g1 q n p1⟩
/-! ### tests -/
variable {tt tu : TT} {b c : Bool}
theorem dt_B (h : DE K B t Γ (.bool b)) : DT K B (tB t) Γ b := fun H Hs σ E Q q => h H Hs σ E _ fun v H' Hs' g p => by
  cases p
  exact ⟨b, rfl, q H' Hs' g⟩
theorem dt_not (h : DT K B tt Γ b) : DT K B (tNot tt) Γ (!b) := fun H Hs σ E Q q => h H Hs σ E _ fun H' Hs' g => q H' Hs' g
theorem dt_and (h1 : DT K B tt Γ b) (h2 : b = true → DT K B tu Γ c) : DT K B (tAnd tt tu) Γ (b && c) := fun H Hs σ E Q q => h1 H Hs σ E _ fun H1 Hs1 g1 => by
  cases b with
  | true =>
    show tu σ H1 Q
    exact h2 rfl H1 Hs1 σ (E.grow g1) Q fun H2 Hs2 g2 => q H2 Hs2 (g1.trans g2)
  | false =>
    show Q false H1
    exact q H1 Hs1 g1
theorem dt_or (h1 : DT K B tt Γ b) (h2 : b = false → DT K B tu Γ c) : DT K B (tOr tt tu) Γ (b || c) := fun H Hs σ E Q q => h1 H Hs σ E _ fun H1 Hs1 g1 => by
  cases b with
  | true =>
    show Q true H1
    exact q H1 Hs1 g1
  | false =>
    show tu σ H1 Q
    exact h2 rfl H1 Hs1 σ (E.grow g1) Q fun H2 Hs2 g2 => q H2 Hs2 (g1.trans g2)
theorem de_andV {x y : Bool} (h1 : DE K B ta Γ (.bool x)) (h2 : x = true → DE K B tb Γ (.bool y)) : DE K B (tAndV ta tb) Γ (.bool (x && y)) := fun H Hs σ E Q q => h1 H Hs σ E _ fun v H1 Hs1 g1 p1 => by
  cases p1
  refine ⟨x, rfl, ?_⟩
  cases x with
  | true =>
    show tb σ H1 Q
    exact h2 rfl H1 Hs1 σ (E.grow g1) Q fun u H2 Hs2 g2 p2 => q u H2 Hs2 (g1.trans g2) p2
  | false =>
    show Q (.bl false) H1
    exact q _ H1 Hs1 g1 (.bl _)
theorem de_orV {x y : Bool} (h1 : DE K B ta Γ (.bool x)) (h2 : x = false → DE K B tb Γ (.bool y)) : DE K B (tOrV ta tb) Γ (.bool (x || y)) := fun H Hs σ E Q q => h1 H Hs σ E _ fun v H1 Hs1 g1 p1 => by
  cases p1
  refine ⟨x, rfl, ?_⟩
  cases x with
  | true =>
    show Q (.bl true) H1
    exact q _ H1 Hs1 g1 (.bl _)
  | false =>
    show tb σ H1 Q
    exact h2 rfl H1 Hs1 σ (E.grow g1) Q fun u H2 Hs2 g2 p2 => q u H2 Hs2 (g1.trans g2) p2
theorem de_notV {x : Bool} (h1 : DE K B ta Γ (.bool x)) : DE K B (tNotV ta) Γ (.bool (!x)) := fun H Hs σ E Q q => h1 H Hs σ E _ fun v H1 Hs1 g1 p1 => by
  cases p1
  exact ⟨x, rfl, q _ H1 Hs1 g1 (.bl _)⟩
theorem de_if (h : DT K B tt Γ b) (h1 : b = true → DE K B ta Γ d) (h2 : b = false → DE K B tb Γ d) : DE K B (tIf tt ta tb) Γ d := fun H Hs σ E Q q => h H Hs σ E _ fun H1 Hs1 g1 => by
  cases b with
  | true =>
    show ta σ H1 Q
    exact h1 rfl H1 Hs1 σ (E.grow g1) Q fun u H2 Hs2 g2 p2 => q u H2 Hs2 (g1.trans g2) p2
  | false =>
    show tb σ H1 Q
    exact h2 rfl H1 Hs1 σ (E.grow g1) Q fun u H2 Hs2 g2 p2 => q u H2 Hs2 (g1.trans g2) p2
/-! ### calls of own defs -/
/-- a def by a relation of data: arguments, value -/
def spR (K : PySem.W.Frag) (R : List PyData → PyData → Prop) : Sp := fun vs H Q _ => ∃ ds d Hs, (∀ a o, Hs a = some o → H a = some o) ∧ DqAll K Hs vs ds ∧ R ds d ∧ ∀ v H' Hs', Gr H Hs H' Hs' → Dq K Hs' v d → Q v H'
theorem de_call {R : List PyData → PyData → Prop} {E0 : XK} {ta : TA} {as : List PyData} (ha : DA K B ta Γ as) (hr : R as d) : DE K B (tCall (spR K R) [] E0 ta) Γ d := fun H Hs σ E Q q =>
  ha H Hs σ E _ fun vs H1 Hs1 g1 p1 => ⟨as, d, Hs1, g1.sub, by rw [List.append_nil]; exact p1, hr, fun v H2 Hs2 g2 p2 => q v H2 Hs2 (g1.trans g2) p2⟩
/-! ### statements -/
inductive Out where
  | nx (Γ : Gm) | rt (d : PyData) | bk (Γ : Gm) | ct (Γ : Gm)
def Fits (K : PySem.W.Frag) (B : Bs) (D : Ends) : Out → Prop
  | .nx Γ => ∀ H Hs σ, Enb K B H Hs σ Γ → D.nx σ H
  | .bk Γ => ∀ H Hs σ, Enb K B H Hs σ Γ → D.bk σ H
  | .ct Γ => ∀ H Hs σ, Enb K B H Hs σ Γ → D.ct σ H
  | .rt d => ∀ v H Hs, Gr B.H0 B.Hs0 H Hs → Dq K Hs v d → D.rt v H
def DS (K : PySem.W.Frag) (B : Bs) (t : TS) (Γ : Gm) (P : Out → Prop) : Prop := ∀ (D : Ends) H Hs σ, Enb K B H Hs σ Γ → (∀ o, P o → Fits K B D o) → t D σ H
/-- what follows a statement -/
def thenS (K : PySem.W.Frag) (B : Bs) (u : TS) (P : Out → Prop) : Out → Prop
  | .nx Γ => DS K B u Γ P
  | o => P o
variable {P : Out → Prop} {u ts : TS}
theorem ds_seq (h : DS K B ts Γ (thenS K B u P)) : DS K B (tSeq ts u) Γ P := fun D H Hs σ E q => h { D with nx := u D } H Hs σ E fun o ho => by
  cases o with
  | nx Γ' => exact fun H' Hs' σ' E' => ho D H' Hs' σ' E' q
  | rt d => exact q _ ho
  | bk Γ' => exact q _ ho
  | ct Γ' => exact q _ ho
theorem ds_next (h : P (.nx Γ)) : DS K B tNext Γ P := fun D H Hs σ E q => q _ h H Hs σ E
theorem ds_brk (h : P (.bk Γ)) : DS K B tBreak Γ P := fun D H Hs σ E q => q _ h H Hs σ E
theorem ds_cont (h : P (.ct Γ)) : DS K B tCont Γ P := fun D H Hs σ E q => q _ h H Hs σ E
theorem ds_asg {i : Nat} (h : DE K B te Γ d) (k : P (.nx (Γ.set i (.sh d)))) : DS K B (tAsg te (gName i)) Γ P := fun D H Hs σ E q => h H Hs σ E _ fun v H1 Hs1 g1 p1 =>
  q _ k H1 Hs1 _ ((E.grow g1).setSh i p1)
theorem ds_asgO {i : Nat} (h : DL K B te Γ ds) (k : P (.nx (Γ.set i (.ow ds)))) : DS K B (tAsg te (gName i)) Γ P := fun D H Hs σ E q => h H Hs σ E _ fun p xs H1 Hs1 g1 n e s a =>
  q _ k H1 Hs1 _ ((E.grow g1).setOw i e a s (E.gr.ext.no n) fun j es hj _ hσ => by
    obtain ⟨l, ys, e1, h1, _⟩ := E.ow hj
    rw [hσ] at e1
    cases e1
    rw [n] at h1
    cases h1)
theorem ds_ret (h : DE K B te Γ d) (k : P (.rt d)) : DS K B (tRet te) Γ P := fun D H Hs σ E q => h H Hs σ E _ fun v H1 Hs1 g1 p1 => q _ k v H1 Hs1 (E.gr.trans g1) p1
theorem ds_retN (k : P (.rt .none)) : DS K B tRetN Γ P := fun D H Hs σ E q => q _ k _ H Hs E.gr .non
/-- a list of one's own is free from here on -/
theorem ds_free {i : Nat} (hi : Γ[i]? = some (.ow ds)) (h : DS K B ts (Γ.set i (.sh (.list ds))) P) : DS K B ts Γ P := fun D H Hs σ E q => by
  obtain ⟨Hs', g, x, E'⟩ := E.free hi
  exact h D H Hs' σ E' q
theorem ds_drop (h : DE K B te Γ d) (k : P (.nx Γ)) : DS K B (tDrop te) Γ P := fun D H Hs σ E q => h H Hs σ E _ fun v H1 Hs1 g1 _ => q _ k H1 Hs1 σ (E.grow g1)
theorem ds_if {tw : TS} (h : DT K B tt Γ b) (h1 : b = true → DS K B u Γ P) (h2 : b = false → DS K B tw Γ P) : DS K B (tIfS tt u tw) Γ P := fun D H Hs σ E q => h H Hs σ E _ fun H1 Hs1 g1 => by
  cases b with
  | true =>
    show u D σ H1
    exact h1 rfl D H1 Hs1 σ (E.grow g1) q
  | false =>
    show tw D σ H1
    exact h2 rfl D H1 Hs1 σ (E.grow g1) q
theorem ds_imp {P' : Out → Prop} (h : DS K B ts Γ P') (k : ∀ o, P' o → P o) : DS K B ts Γ P := fun D H Hs σ E q => h D H Hs σ E fun o ho => q o (k o ho)
/-- two names at once -/
theorem ds_par {i j : Nat} {ta : TA} {a b : PyData} (h : DA K B ta Γ [a, b]) (k : P (.nx ((Γ.set i (.sh a)).set j (.sh b)))) : DS K B (tPar i j ta) Γ P := fun D H Hs σ E q => h H Hs σ E _ fun vs H1 Hs1 g1 p1 => by
  cases p1 with
  | cons p1 p2 =>
    cases p2 with
    | cons p2 p3 =>
      cases p3
      exact ⟨_, _, rfl, q _ k H1 Hs1 _ (((E.grow g1).setSh i p1).setSh j p2)⟩
/-- out.append(e), out one's own -/
theorem ds_app {i : Nat} (hi : Γ[i]? = some (.ow ds)) (h : DE K B te Γ d) (hz : ds.length < sizeLine) (k : P (.nx (Γ.set i (.ow (ds ++ [d]))))) : DS K B (tDrop (tBM K "list" rAppend (tVar i) (tCons te tNil))) Γ P := fun D H Hs σ E q => by
  obtain ⟨l, xs, e, h1, h2, h3, h4⟩ := E.ow hi
  refine ⟨.ref l, e, .inl ⟨rfl, xs, SqL.of h1⟩, h H Hs σ E _ fun v H1 Hs1 g1 p1 => ?_⟩
  have E1 := E.grow g1
  refine ⟨l, xs, v, rfl, rfl, g1.ext.lst h1, by rw [h2.length]; exact hz, q _ k _ Hs1 σ (E1.mut hi e ((h2.mono g1.exs).app (.cons p1 .nil)))⟩
/-- a, b = e: a tuple told apart -/
theorem ds_tup2 {i j n : Nat} {a b : PyData} (h : DE K B te Γ (.tuple [a, b])) (hn : n = 2) (k : P (.nx ((Γ.set i (.sh a)).set j (.sh b)))) : DS K B (tAsg te (gTup K n (gCons (gName i) (gCons (gName j) gNil)))) Γ P := fun D H Hs σ E q => h H Hs σ E _ fun v H1 Hs1 g1 p1 => by
  subst hn
  cases p1 with
  | tup hq ha =>
    cases ha with
    | cons a1 ha =>
      cases ha with
      | cons a2 ha =>
        cases ha
        exact ⟨_, _, rfl, sub_t g1.sub hq, rfl, _, _, rfl, _, _, rfl, rfl, q _ k H1 Hs1 _ (((E.grow g1).setSh i a1).setSh j a2)⟩
theorem ds_tup3 {i j l n : Nat} {a b c : PyData} (h : DE K B te Γ (.tuple [a, b, c])) (hn : n = 3) (k : P (.nx (((Γ.set i (.sh a)).set j (.sh b)).set l (.sh c)))) : DS K B (tAsg te (gTup K n (gCons (gName i) (gCons (gName j) (gCons (gName l) gNil))))) Γ P := fun D H Hs σ E q => h H Hs σ E _ fun v H1 Hs1 g1 p1 => by
  subst hn
  cases p1 with
  | tup hq ha =>
    cases ha with
    | cons a1 ha =>
      cases ha with
      | cons a2 ha =>
        cases ha with
        | cons a3 ha =>
          cases ha
          exact ⟨_, _, rfl, sub_t g1.sub hq, rfl, _, _, rfl, _, _, rfl, _, _, rfl, rfl, q _ k H1 Hs1 _ ((((E.grow g1).setSh i a1).setSh j a2).set l ⟨_, rfl, a3⟩ fun _ z => nomatch z)⟩
/-! ### loops -/
def Bs.at (B : Bs) (L : Hp) : Bs := { B with low := L }
theorem low_in {L : Hp} (E : Enb K B H Hs σ Γ) (x : Ext L Hs) : Enb K (B.at L) H Hs σ Γ := ⟨E.gr, x, E.len, E.at_, E.sep⟩
theorem low_out {L : Hp} (E : Enb K (B.at L) H Hs σ Γ) (x : Ext B.low L) : Enb K B H Hs σ Γ := ⟨E.gr, x.trans E.pin, E.len, E.at_, E.sep⟩
/-- what a turn leaves -/
def turnS (I : Nat → Gm → Prop) (k : Nat) (P : Out → Prop) : Out → Prop
  | .nx Γ => I (k + 1) Γ
  | .ct Γ => I (k + 1) Γ
  | .bk Γ => P (.nx Γ)
  | .rt v => P (.rt v)
theorem turn_fits {I : Nat → Gm → Prop} {k : Nat} {L : Hp} {D : Ends} {o : Out} (ho : turnS I k P o) (q : ∀ o, P o → Fits K B D o) (x : Ext B.low L) {W : St → Hp → Prop}
    (hw : ∀ Γ' H' Hs' σ', I (k + 1) Γ' → Enb K (B.at L) H' Hs' σ' Γ' → W σ' H') : Fits K (B.at L) { D with nx := W, ct := W, bk := D.nx } o := by
  cases o with
  | nx Γ' => exact fun H' Hs' σ' E' => hw Γ' H' Hs' σ' ho E'
  | ct Γ' => exact fun H' Hs' σ' E' => hw Γ' H' Hs' σ' ho E'
  | bk Γ' => exact fun H' Hs' σ' E' => q _ ho H' Hs' σ' (low_out E' x)
  | rt d => exact q _ ho
/-- an iterator that gives data -/
def ItD (K : PySem.W.Frag) (J : It) (L : Hp) (ds : List PyData) : Prop := ∀ H2 Hs2, (∀ a o, Hs2 a = some o → H2 a = some o) → Ext L Hs2 →
  J.stop ds.length H2 ∧ ∀ i d, ds[i]? = some d → J.go i H2 ∧ ∀ x H3, J.yld i H2 x H3 → ∃ Hs3, Gr H2 Hs2 H3 Hs3 ∧ Dq K Hs3 x d
/-- what is walked -/
def DI (K : PySem.W.Frag) (B : Bs) (wi : TI) (Γ : Gm) (ds : List PyData) : Prop := ∀ H Hs σ, Enb K B H Hs σ Γ → ∀ R : It → Hp → Prop, (∀ J H' Hs', Gr H Hs H' Hs' → ItD K J Hs' ds → R J H') → wi σ H R
theorem itd_list {a : Addr} {xs : List V} {L : Hp} (hq : SqL K L a xs) (ha : DqAll K L xs ds) : ItD K (Itl K a) L ds := fun H2 Hs2 s x => by
  have q2 := sub_l s (ext_l x hq)
  refine ⟨⟨xs, q2, by rw [ha.length]; exact Nat.le_refl _⟩, fun i d hd => ?_⟩
  obtain ⟨v, hv, pv⟩ := ha.get hd
  refine ⟨⟨xs, v, q2, hv⟩, fun y H3 ⟨e, f⟩ => ?_⟩
  subst e
  cases (f xs q2).symm.trans hv
  exact ⟨Hs2, Gr.refl s, pv.mono x⟩
theorem itd_tup {a : Addr} {xs : List V} {L : Hp} (hq : SqT K L a xs) (ha : DqAll K L xs ds) : ItD K (Itt K a) L ds := fun H2 Hs2 s x => by
  have q2 := sub_t s (ext_t x hq)
  refine ⟨⟨xs, q2, by rw [ha.length]; exact Nat.le_refl _⟩, fun i d hd => ?_⟩
  obtain ⟨v, hv, pv⟩ := ha.get hd
  refine ⟨⟨xs, v, q2, hv⟩, fun y H3 ⟨e, f⟩ => ?_⟩
  subst e
  cases (f xs q2).symm.trans hv
  exact ⟨Hs2, Gr.refl s, pv.mono x⟩
theorem di_list {te : TE} (h : DE K B te Γ (.list ds)) : DI K B (iList K te) Γ ds := fun H Hs σ E R q => h H Hs σ E _ fun v H1 Hs1 g1 p1 => by
  cases p1 with
  | lst hq ha => exact ⟨_, rfl, ⟨_, sub_l g1.sub hq⟩, q _ H1 Hs1 g1 (itd_list hq ha)⟩
theorem di_tup {te : TE} (h : DE K B te Γ (.tuple ds)) : DI K B (iTup K te) Γ ds := fun H Hs σ E R q => h H Hs σ E _ fun v H1 Hs1 g1 p1 => by
  cases p1 with
  | tup hq ha => exact ⟨_, rfl, ⟨_, sub_t g1.sub hq⟩, q _ H1 Hs1 g1 (itd_tup hq ha)⟩
def rangeD (lo : Int) (n : Nat) : List PyData := (List.range n).map fun i => .int (lo + (i : Nat))
theorem rangeD_get {lo : Int} {n i : Nat} {d : PyData} (h : (rangeD lo n)[i]? = some d) : i < n ∧ d = .int (lo + (i : Nat)) := by
  unfold rangeD at h
  rw [List.getElem?_map] at h
  cases e : (List.range n)[i]? with
  | none => rw [e] at h; cases h
  | some j =>
    rw [e] at h
    obtain ⟨h1, h2⟩ := List.getElem?_eq_some_iff.mp e
    rw [List.getElem_range] at h2
    rw [List.length_range] at h1
    subst h2
    exact ⟨h1, (Option.some.inj h).symm⟩
theorem rangeD_len {lo : Int} {n : Nat} : (rangeD lo n).length = n := by unfold rangeD; rw [List.length_map, List.length_range]
theorem itd_rng {lo : Int} {n : Nat} {L : Hp} : ItD K (Itr lo n) L (rangeD lo n) := fun H2 Hs2 s x => by
  refine ⟨by rw [rangeD_len]; exact Nat.le_refl _, fun i d hd => ?_⟩
  obtain ⟨h1, rfl⟩ := rangeD_get hd
  refine ⟨h1, fun y H3 ⟨e, f⟩ => ?_⟩
  subst e; subst f
  exact ⟨Hs2, Gr.refl s, .int _⟩
theorem di_rng1 {ta : TA} {n : Int} (h : DA K B ta Γ [.int n]) (hn : -(2 ^ 62) ≤ n ∧ n < 2 ^ 62) : DI K B (iRng1 ta) Γ (rangeD 0 n.toNat) := fun H Hs σ E R q => h H Hs σ E _ fun vs H1 Hs1 g1 p1 => by
  cases p1 with
  | cons p1 p2 =>
    cases p2; cases p1
    exact ⟨n, rfl, hn.1, hn.2, q _ H1 Hs1 g1 itd_rng⟩
theorem di_rng2 {ta : TA} {m n : Int} (h : DA K B ta Γ [.int m, .int n]) (hm : -(2 ^ 62) ≤ m ∧ m < 2 ^ 62) (hn : -(2 ^ 62) ≤ n ∧ n < 2 ^ 62) : DI K B (iRng2 ta) Γ (rangeD m (n - m).toNat) := fun H Hs σ E R q => h H Hs σ E _ fun vs H1 Hs1 g1 p1 => by
  cases p1 with
  | cons p1 p2 =>
    cases p2 with
    | cons p2 p3 =>
      cases p3; cases p1; cases p2
      exact ⟨m, n, rfl, ⟨hm.1, hm.2, hn.1, hn.2⟩, q _ H1 Hs1 g1 itd_rng⟩
/-- a text's signs -/
def signsD (x : Str) : List PyData := x.cps.toList.map fun c => .str ⟨#[c]⟩
theorem itd_str {x : Str} {L : Hp} : ItD K (Its x) L (signsD x) := fun H2 Hs2 s _ => by
  refine ⟨by unfold signsD; rw [List.length_map, Array.length_toList]; exact Nat.le_refl _, fun i d hd => ?_⟩
  unfold signsD at hd
  rw [List.getElem?_map, Array.getElem?_toList] at hd
  cases e : x.cps[i]? with
  | none => rw [e] at hd; cases hd
  | some c =>
    rw [e] at hd
    refine ⟨(Array.getElem?_eq_some_iff.mp e).1, fun y H3 ⟨e3, c', hc, f⟩ => ?_⟩
    subst e3; subst f
    cases hc.symm.trans e
    cases hd
    exact ⟨Hs2, Gr.refl s, .str _⟩
theorem di_str {te : TE} {x : Str} (h : DE K B te Γ (.str x)) : DI K B (iStr te) Γ (signsD x) := fun H Hs σ E R q => h H Hs σ E _ fun v H1 Hs1 g1 p1 => by
  cases p1
  exact ⟨x, rfl, q _ H1 Hs1 g1 itd_str⟩
def enumD (k : Nat) : List PyData → List PyData
  | [] => []
  | d :: r => .tuple [.int k, d] :: enumD (k + 1) r
theorem enumD_len : ∀ (k : Nat) (ds : List PyData), (enumD k ds).length = ds.length
  | _, [] => rfl
  | k, d :: r => by show (enumD (k + 1) r).length + 1 = _; rw [enumD_len]; rfl
theorem enumD_get : ∀ {k : Nat} {ds : List PyData} {i : Nat} {e : PyData}, (enumD k ds)[i]? = some e → ∃ d, ds[i]? = some d ∧ e = .tuple [.int ((k + i : Nat) : Int), d]
  | _, [], _, _, h => by simp [enumD] at h
  | k, d :: r, 0, e, h => ⟨d, rfl, (Option.some.inj h).symm⟩
  | k, d :: r, i + 1, e, h => by
    obtain ⟨d', h1, h2⟩ := enumD_get (k := k + 1) (ds := r) (i := i) h
    exact ⟨d', h1, by rw [h2, show k + 1 + i = k + (i + 1) by omega]⟩
theorem itd_enum {a : Addr} {xs : List V} {L : Hp} (hq : SqL K L a xs) (ha : DqAll K L xs ds) : ItD K (Ite K a) L (enumD 0 ds) := fun H2 Hs2 s x => by
  have q2 := sub_l s (ext_l x hq)
  refine ⟨⟨xs, q2, by rw [enumD_len, ha.length]; exact Nat.le_refl _⟩, fun i e he => ?_⟩
  obtain ⟨d, hd, rfl⟩ := enumD_get he
  obtain ⟨v, hv, pv⟩ := ha.get hd
  refine ⟨⟨xs, v, q2, hv⟩, fun y H3 ⟨T, z, e1, nT, e2, f⟩ => ?_⟩
  subst e1; subst e2
  cases (f xs q2).symm.trans hv
  rw [Nat.zero_add]
  have nS : Hs2 T = none := by
    cases q : Hs2 T with
    | none => rfl
    | some u => rw [s T u q] at nT; cases nT
  exact ⟨_, (Gr.refl s).share nT, .tup (SqT.of upd_same) (.cons (.int _) (.cons ((pv.mono x).mono (Ext.new nS)) .nil))⟩
theorem di_enum {ta : TA} (h : DA K B ta Γ [.list ds]) : DI K B (iEnum K ta) Γ (enumD 0 ds) := fun H Hs σ E R q => h H Hs σ E _ fun vs H1 Hs1 g1 p1 => by
  cases p1 with
  | cons p1 p2 =>
    cases p2
    cases p1 with
    | lst hq ha => exact ⟨_, _, rfl, sub_l g1.sub hq, q _ H1 Hs1 g1 (itd_enum hq ha)⟩
/-! ### targets -/
theorem wipe_set {σ : St} {k : Nat} {o : Option V} : ∀ {vs : List Nat}, k ∈ vs → wipe (σ.set k o) vs = wipe σ vs
  | v :: vs, h => by
    show (wipe (σ.set k o) vs).set v none = (wipe σ vs).set v none
    by_cases hk : k ∈ vs
    · rw [wipe_set hk]
    · have e : k = v := by
        rcases List.mem_cons.mp h with e | e
        · exact e
        · exact absurd e hk
      subst e
      have c : ∀ ws : List Nat, k ∉ ws → wipe (σ.set k o) ws = (wipe σ ws).set k o := fun ws => by
        induction ws with
        | nil => intro _; rfl
        | cons w ws ih =>
          intro hn
          have h1 : k ≠ w := fun z => hn (by rw [z]; exact List.mem_cons_self)
          have h2 : k ∉ ws := fun z => hn (List.mem_cons_of_mem _ z)
          show (wipe (σ.set k o) ws).set w none = ((wipe σ ws).set w none).set k o
          rw [ih h2, List.set_comm _ _ h1]
      rw [c vs hk, List.set_set]
/-- a target, bound to a datum -/
def DG (K : PySem.W.Frag) (g : TG) (js : List Nat) (d : PyData) (Γ Γ' : Gm) : Prop := ∀ (B : Bs) H Hs σ v, Enb K B H Hs σ Γ → Dq K Hs v d → ∀ Q : St → Hp → Prop, (∀ σ', Enb K B H Hs σ' Γ' → (∀ vs, (∀ j ∈ js, j ∈ vs) → wipe σ' vs = wipe σ vs) → Q σ' H) → g v σ H Q
def DGs (K : PySem.W.Frag) (g : TGs) (js : List Nat) (ds : List PyData) (Γ Γ' : Gm) : Prop := ∀ (B : Bs) H Hs σ vs, Enb K B H Hs σ Γ → DqAll K Hs vs ds → ∀ Q : St → Hp → Prop, (∀ σ', Enb K B H Hs σ' Γ' → (∀ ws, (∀ j ∈ js, j ∈ ws) → wipe σ' ws = wipe σ ws) → Q σ' H) → g vs σ H Q
theorem dg_name {i : Nat} : DG K (gName i) [i] d Γ (Γ.set i (.sh d)) := fun B H Hs σ v E p Q q => q _ (E.setSh i p) fun vs h => wipe_set (h i List.mem_cons_self)
theorem dgs_nil : DGs K gNil [] [] Γ Γ := fun B H Hs σ vs E p Q q => by
  cases p
  exact ⟨rfl, q σ E fun _ _ => rfl⟩
theorem dgs_cons {g : TG} {gs : TGs} {js ks : List Nat} {Γ1 Γ2 : Gm} (h : DG K g js d Γ Γ1) (hs : DGs K gs ks ds Γ1 Γ2) : DGs K (gCons g gs) (js ++ ks) (d :: ds) Γ Γ2 := fun B H Hs σ vs E p Q q => by
  cases p with
  | cons p1 p2 =>
    exact ⟨_, _, rfl, h B H Hs σ _ E p1 _ fun σ1 E1 w1 => hs B H Hs σ1 _ E1 p2 _ fun σ2 E2 w2 => q σ2 E2 fun ws hw => (w2 ws fun j hj => hw j (List.mem_append_right _ hj)).trans (w1 ws fun j hj => hw j (List.mem_append_left _ hj))⟩
theorem dg_tup {gs : TGs} {js : List Nat} {n : Nat} {Γ1 : Gm} (h : DGs K gs js ds Γ Γ1) (hn : ds.length = n) : DG K (gTup K n gs) js (.tuple ds) Γ Γ1 := fun B H Hs σ v E p Q q => by
  cases p with
  | tup hq ha => exact ⟨_, _, rfl, sub_t E.sub hq, by rw [ha.length]; exact hn, h B H Hs σ _ E ha Q q⟩
theorem ds_asgG {g : TG} {js : List Nat} {Γ1 : Gm} (h : DE K B te Γ d) (hg : DG K g js d Γ Γ1) (k : P (.nx Γ1)) : DS K B (tAsg te g) Γ P := fun D H Hs σ E q => h H Hs σ E _ fun v H1 Hs1 g1 p1 =>
  hg B H1 Hs1 σ v (E.grow g1) p1 _ fun σ' E' _ => q _ k H1 Hs1 σ' E'
/-- a for -/
theorem ds_for {wi : TI} {g : TG} {tb : TS} (h : DI K B wi Γ ds) (I : Nat → Gm → Prop) (h0 : I 0 Γ)
    (hs : ∀ B' k d Γ', ds[k]? = some d → I k Γ' → ∃ js Γ2, DG K g js d Γ' Γ2 ∧ DS K B' tb Γ2 (turnS I k P)) (hd : ∀ Γ', I ds.length Γ' → P (.nx Γ')) : DS K B (tFor wi g tb) Γ P := fun D H Hs σ E q => h H Hs σ E _ fun J H1 Hs1 g1 hJ => by
  have E1 := E.grow g1
  refine ⟨fun i m σ' H' => m = ds.length - i ∧ i ≤ ds.length ∧ ∃ Γ' Hs', I i Γ' ∧ Enb K (B.at Hs1) H' Hs' σ' Γ', ⟨ds.length, rfl, Nat.zero_le _, Γ, Hs1, h0, low_in E1 (Ext.refl _)⟩, ?_⟩
  rintro i m σ' H' ⟨rfl, hi, Γ', Hs', hI, E'⟩
  obtain ⟨j1, j2⟩ := hJ H' Hs' E'.sub E'.pin
  by_cases hlt : i < ds.length
  · have hd' : ds[i]? = some ds[i] := List.getElem?_eq_getElem hlt
    obtain ⟨j3, j4⟩ := j2 i _ hd'
    refine .inr ⟨j3, fun σ2 H2 => ∃ Γ2 Hs2, I (i + 1) Γ2 ∧ Enb K (B.at Hs1) H2 Hs2 σ2 Γ2, fun σ2 H2 ⟨Γ2, Hs2, hI2, E2⟩ => ⟨ds.length - (i + 1), by omega, rfl, by omega, Γ2, Hs2, hI2, E2⟩, fun x H2 hy => ?_⟩
    obtain ⟨Hs2, g2, p2⟩ := j4 x H2 hy
    obtain ⟨js, Γ2, hg, hb⟩ := hs (B.at Hs1) i _ Γ' hd' hI
    refine hg (B.at Hs1) H2 Hs2 σ' x (E'.grow g2) p2 _ fun σ3 E3 _ => hb _ H2 Hs2 σ3 E3 fun o ho => turn_fits ho q E1.pin fun Γ4 H4 Hs4 σ4 hI4 E4 => ⟨Γ4, Hs4, hI4, E4⟩
  · have e : i = ds.length := by omega
    subst e
    exact .inl ⟨j1, q _ (hd Γ' hI) H' Hs' σ' (low_out E' E1.pin)⟩
/-! ### comprehensions -/
def wipeG (Γ : Gm) : List Nat → Gm
  | [] => Γ
  | v :: vs => (wipeG Γ vs).set v .un
theorem En.wiped (E : Enb K B H Hs σ Γ) : ∀ vs : List Nat, Enb K B H Hs (wipe σ vs) (wipeG Γ vs)
  | [] => E
  | v :: vs => (En.wiped E vs).setUn v
theorem dl_lc {wi : TI} {g : TG} {vs js : List Nat} (h : DI K B wi Γ ds) (p : PyData → Bool) (e : PyData → PyData) (hz : ds.length ≤ 1000000) (hv : ∀ j ∈ js, j ∈ vs)
    (hs : ∀ B' d, d ∈ ds → ∃ Γ2, DG K g js d (wipeG Γ vs) Γ2 ∧ DT K B' tt Γ2 (p d) ∧ (p d = true → DE K B' te Γ2 (e d))) : DL K B (tLc wi g tt te vs) Γ ((ds.filter p).map e) := fun H Hs σ E Q q => h H Hs σ E _ fun J H1 Hs1 g1 hJ Dl hD => by
  have E1 := E.grow g1
  have hsD : Hs1 Dl = none := g1.hsn hD
  -- what holds behind i turns
  refine ⟨fun i m H' => m = ds.length - i ∧ i ≤ ds.length ∧ ∃ Hs' acc, H' Dl = some (.lst acc) ∧ Hs' Dl = none ∧ DqAll K Hs' acc (((ds.take i).filter p).map e) ∧ Gr H1 Hs1 H' Hs', ⟨ds.length, rfl, Nat.zero_le _, Hs1, [], upd_same, hsD, .nil, (Gr.refl g1.sub).keep hD⟩, ?_⟩
  rintro i m H' ⟨rfl, hi, Hs', acc, hA, hN, pA, gA⟩
  have E' := E1.grow gA
  obtain ⟨j1, j2⟩ := hJ H' Hs' gA.sub gA.exs
  by_cases hlt : i < ds.length
  · have hd' : ds[i]? = some ds[i] := List.getElem?_eq_getElem hlt
    obtain ⟨j3, j4⟩ := j2 i _ hd'
    have et : ds.take (i + 1) = ds.take i ++ [ds[i]] := by rw [List.take_add_one, hd']; rfl
    have lz : (((ds.take i).filter p).map e).length < sizeLine := by
      rw [List.length_map]
      refine Nat.lt_of_le_of_lt (List.length_filter_le _ _) ?_
      rw [List.length_take]
      exact Nat.lt_of_le_of_lt (Nat.min_le_right _ _) (Nat.lt_of_le_of_lt hz (by decide))
    refine .inr ⟨j3, fun H2 => ∃ Hs2 acc2, H2 Dl = some (.lst acc2) ∧ Hs2 Dl = none ∧ DqAll K Hs2 acc2 (((ds.take (i + 1)).filter p).map e) ∧ Gr H1 Hs1 H2 Hs2, fun H2 z => ⟨ds.length - (i + 1), by omega, rfl, by omega, z⟩, fun x H2 hy => ?_⟩
    obtain ⟨Hs2, g2, p2⟩ := j4 x H2 hy
    obtain ⟨Γ2, hg, ht, he⟩ := hs B ds[i] (List.getElem_mem hlt)
    have notin : ∀ {H3 Hs3 : Hp}, Gr H' Hs' H3 Hs3 → Hs3 Dl = none := fun {H3 Hs3} g3 => by
      cases z : Hs3 Dl with
      | none => rfl
      | some u =>
        rcases g3.new Dl (by rw [z]; simp) with w | w
        · exact absurd hN w
        · rw [hA] at w; cases w
    refine hg B H2 Hs2 _ x (En.wiped (E'.grow g2) vs) p2 _ fun σ3 E3 w3 => ⟨?_, ht H2 Hs2 σ3 E3 _ fun H3 Hs3 g3 => ?_⟩
    · have w := w3 vs hv
      rw [w]
      have ww : ∀ us : List Nat, (∀ u ∈ us, u ∈ vs) → wipe (wipe σ us) vs = wipe σ vs := fun us => by
        induction us with
        | nil => intro _; rfl
        | cons u us ih =>
          intro hu
          show wipe ((wipe σ us).set u none) vs = _
          rw [wipe_set (hu u List.mem_cons_self)]
          exact ih fun w hw => hu w (List.mem_cons_of_mem _ hw)
      exact ww vs fun _ h => h
    · have g23 := g2.trans g3
      cases hp : p ds[i] with
      | true =>
        show te σ3 H3 _
        refine he hp H3 Hs3 σ3 (E3.grow g3) _ fun y H4 Hs4 g4 p4 => ?_
        have g24 := g23.trans g4
        refine ⟨acc, g24.ext.lst hA, by rw [pA.length]; exact lz, Hs4, acc ++ [y], upd_same, notin g24, ?_, ?_⟩
        · rw [et, List.filter_append, List.map_append, List.filter_cons, if_pos hp]
          exact (pA.mono g24.exs).app (.cons p4 .nil)
        · have gt := gA.trans g24
          exact ⟨gt.ext.mut hD, gt.exs, fun a u z => by rw [upd_ne (ne_of_none z (notin g24))]; exact gt.sub a u z, gt.new⟩
      | false =>
        refine ⟨Hs3, acc, g23.ext.lst hA, notin g23, ?_, gA.trans g23⟩
        rw [et, List.filter_append, List.map_append, List.filter_cons, if_neg (by rw [hp]; simp)]
        show DqAll K Hs3 acc (_ ++ [])
        rw [List.append_nil]
        exact pA.mono g23.exs
  · have e2 : i = ds.length := by omega
    subst e2
    rw [List.take_length] at pA
    exact .inl ⟨j1, q Dl acc H' Hs' (g1.trans gA) (g1.ext.no hD) hA hN pA⟩
/-- a while, by a word and a number that falls -/
theorem ds_while {tc : TT} {tb : TS} (I : Nat → Gm → Prop) (m0 : Nat) (h0 : I m0 Γ)
    (hs : ∀ m Γ', I m Γ' → ∃ b, DT K B tc Γ' b ∧ (b = true → DS K B tb Γ' fun o => match o with | .nx Γ2 => ∃ m', m' < m ∧ I m' Γ2 | .ct Γ2 => ∃ m', m' < m ∧ I m' Γ2 | .bk Γ2 => P (.nx Γ2) | .rt v => P (.rt v)) ∧ (b = false → P (.nx Γ'))) : DS K B (tWhile tc tb) Γ P := fun D H Hs σ E q =>
  ⟨fun m σ' H' => ∃ Γ' Hs', I m Γ' ∧ Enb K B H' Hs' σ' Γ', ⟨m0, Γ, Hs, h0, E⟩, fun m σ' H' ⟨Γ', Hs', hI, E'⟩ => by
    obtain ⟨b, hb, h1, h2⟩ := hs m Γ' hI
    refine hb H' Hs' σ' E' _ fun H2 Hs2 g2 => ?_
    have E2 := E'.grow g2
    cases b with
    | true =>
      refine ⟨fun σ3 H3 => ∃ m', m' < m ∧ ∃ Γ3 Hs3, I m' Γ3 ∧ Enb K B H3 Hs3 σ3 Γ3, fun _ _ n => n, ?_⟩
      refine h1 rfl _ H2 Hs2 σ' E2 fun o ho => ?_
      cases o with
      | nx Γ3 =>
        obtain ⟨m', l, hI'⟩ := ho
        exact fun H3 Hs3 σ3 E3 => ⟨m', l, Γ3, Hs3, hI', E3⟩
      | ct Γ3 =>
        obtain ⟨m', l, hI'⟩ := ho
        exact fun H3 Hs3 σ3 E3 => ⟨m', l, Γ3, Hs3, hI', E3⟩
      | bk Γ3 => exact q _ ho
      | rt d => exact q _ ho
    | false => exact q _ (h2 rfl) H2 Hs2 σ' E2⟩
end
end Dl
set_option Elab.async false
set_option linter.all false
set_option maxRecDepth 100000
set_option maxHeartbeats 2000000
namespace Dl
open PySem L2 PyProof.Rows
/-! ### a piece of the text, whatever its reading -/
def uE (X : Cx) (e : Expr) : TE := fun σ H Q => ∃ t, PE X e t ∧ t σ H Q
def uT (X : Cx) (e : Expr) : TT := fun σ H Q => ∃ t, PT X e t ∧ t σ H Q
def uW (X : Cx) (e : Expr) : TT := fun σ H Q => ∃ t, PW X e t ∧ t σ H Q
def uA (X : Cx) (es : List Expr) : TA := fun σ H Q => ∃ t, PA X es t ∧ t σ H Q
def uS (X : Cx) (s : Stmt) : TS := fun D σ H => ∃ t, PS X s t ∧ t D σ H
def uB (X : Cx) (s : List Stmt) : TS := fun D σ H => ∃ t, PSs X s t ∧ t D σ H
def uI (X : Cx) (tg e : Expr) : TI := fun σ H R => ∃ t, PI X tg e t ∧ t σ H R
theorem pe_u {X : Cx} {e : Expr} : PE X e (uE X e) := ⟨fun pins s σ H Q I ⟨_, p, h⟩ => p.run pins s σ H Q I h⟩
theorem pt_u {X : Cx} {e : Expr} : PT X e (uT X e) := ⟨fun pins s σ H Q I ⟨_, p, h⟩ => p.run pins s σ H Q I h⟩
theorem pw_u {X : Cx} {e : Expr} : PW X e (uW X e) := ⟨fun w pins s σ H Q I ⟨_, p, h⟩ => p.run w pins s σ H Q I h⟩
theorem pa_u {X : Cx} {es : List Expr} : PA X es (uA X es) := ⟨fun pos pins s σ H Q I ⟨_, p, h⟩ => p.run pos pins s σ H Q I h⟩
theorem ps_u {X : Cx} {s : Stmt} : PS X s (uS X s) := ⟨fun pins s σ H D I ⟨_, p, h⟩ => p.run pins s σ H D I h⟩
theorem pb_u {X : Cx} {s : List Stmt} : PSs X s (uB X s) := ⟨fun pins s σ H D I ⟨_, p, h⟩ => p.run pins s σ H D I h⟩
theorem pi_u {X : Cx} {tg e : Expr} : PI X tg e (uI X tg e) := ⟨fun pins s σ H R I ⟨_, p, h⟩ => p.run pins s σ H R I h⟩
/-! ### the judgements on the text -/
def Xp (X : Cx) (B : Bs) (Γ : Gm) (e : Expr) (d : PyData) : Prop := DE X.K B (uE X e) Γ d
def Xl (X : Cx) (B : Bs) (Γ : Gm) (e : Expr) (ds : List PyData) : Prop := DL X.K B (uE X e) Γ ds
def Xt (X : Cx) (B : Bs) (Γ : Gm) (e : Expr) (b : Bool) : Prop := DT X.K B (uT X e) Γ b
def Xw (X : Cx) (B : Bs) (Γ : Gm) (e : Expr) (b : Bool) : Prop := DT X.K B (uW X e) Γ b
def Xa (X : Cx) (B : Bs) (Γ : Gm) (es : List Expr) (ds : List PyData) : Prop := DA X.K B (uA X es) Γ ds
def Xs (X : Cx) (B : Bs) (Γ : Gm) (s : Stmt) (P : Out → Prop) : Prop := DS X.K B (uS X s) Γ P
def Xb (X : Cx) (B : Bs) (Γ : Gm) (s : List Stmt) (P : Out → Prop) : Prop := DS X.K B (uB X s) Γ P
def Xi (X : Cx) (B : Bs) (Γ : Gm) (tg e : Expr) (ds : List PyData) : Prop := DI X.K B (uI X tg e) Γ ds
section
variable {X : Cx} {B : Bs} {Γ : Gm} {e a b c : Expr} {es : List Expr} {s st : Stmt} {ss rest : List Stmt} {d d1 d2 : PyData} {ds : List PyData} {P : Out → Prop} {pos : Pos} {x : Str} {i : Nat} {p q r : Bool}
theorem xp_of {t : TE} (h : PE X e t) (k : DE X.K B t Γ d) : Xp X B Γ e d := fun H Hs σ E Q q => ⟨t, h, k H Hs σ E Q q⟩
theorem xl_of {t : TE} (h : PE X e t) (k : DL X.K B t Γ ds) : Xl X B Γ e ds := fun H Hs σ E Q q => ⟨t, h, k H Hs σ E Q q⟩
theorem xt_of {t : TT} (h : PT X e t) (k : DT X.K B t Γ p) : Xt X B Γ e p := fun H Hs σ E Q q => ⟨t, h, k H Hs σ E Q q⟩
theorem xw_of {t : TT} (h : PW X e t) (k : DT X.K B t Γ p) : Xw X B Γ e p := fun H Hs σ E Q q => ⟨t, h, k H Hs σ E Q q⟩
theorem xa_of {t : TA} (h : PA X es t) (k : DA X.K B t Γ ds) : Xa X B Γ es ds := fun H Hs σ E Q q => ⟨t, h, k H Hs σ E Q q⟩
theorem xs_of {t : TS} (h : PS X s t) (k : DS X.K B t Γ P) : Xs X B Γ s P := fun D H Hs σ E q => ⟨t, h, k D H Hs σ E q⟩
theorem xb_of {t : TS} (h : PSs X ss t) (k : DS X.K B t Γ P) : Xb X B Γ ss P := fun D H Hs σ E q => ⟨t, h, k D H Hs σ E q⟩
theorem xi_of {t : TI} {tg : Expr} (h : PI X tg e t) (k : DI X.K B t Γ ds) : Xi X B Γ tg e ds := fun H Hs σ E R q => ⟨t, h, k H Hs σ E R q⟩
/-! ### names -/
/-- x may be read, at slot i -/
structure Rk (X : Cx) (i : Nat) (x : Str) : Prop where
  ix : X.N[i]? = some x
  vis : Vis X.env.scope x
  d1 : (x == ("__debug__" : Str)) = false
  d2 : (x == ("__classdict__" : Str)) = false
/-- x may be stored, at slot i -/
structure Lk (X : Cx) (i : Nat) (x : Str) : Prop where
  nd : X.N.Nodup
  ix : X.N[i]? = some x
  loc : Loc X.env.scope x
  fn : X.fn x = true ∨ X.env.scope.names.lookup x = some .local
/-- a built-in's name -/
structure Bi (X : Cx) (x : Str) : Prop where
  gl : Gl X x
  no : X.mg x = none
/-- a module's own def: a relation of data -/
structure Ce (X : Cx) (x : Str) (R : List PyData → PyData → Prop) : Prop where
  ex : ∃ (k : Nat) (f : Addr) (fd : FuncData) (ps : List Str), X.mg x = some (.ref f) ∧ FnOk X.prog X.w X.K X.mg X.base CX0 k f fd ps (spR X.K R) ∧ PySem.W.keepIn X.K (.ref f) = true ∧ Binds X.K fd ps [] ∧ Room k X.A
  db : (x == ("__debug__" : Str)) = false
/-- a module's constant -/
structure Cn (X : Cx) (x : Str) (d : PyData) : Prop where
  ex : ∃ u v, X.mg x = some u ∧ RelV v u ∧ ∀ H, Dq X.K H v d
  db : (x == ("__debug__" : Str)) = false
theorem xp_var (h : Rk X i x) (k : Γ[i]? = some (.sh d)) : Xp X B Γ (.Name x pos) d := xp_of (pe_var h.ix h.vis h.d1 h.d2) (de_var k)
theorem xp_cn (h : Gl X x) (k : Cn X x d) : Xp X B Γ (.Name x pos) d := by
  obtain ⟨u, v, hm, r, p⟩ := k.ex
  exact xp_of (pe_glob h hm r k.db) fun H Hs σ E Q q => q v H Hs (Gr.refl E.sub) (p Hs)
theorem xp_int {j : Int} {k} : Xp X B Γ (.Constant (.int j) k pos) (.int j) := xp_of pe_int de_int
theorem xp_str {z : Str} {k} : Xp X B Γ (.Constant (.str z) k pos) (.str z) := xp_of pe_str de_str
theorem xp_bl {z : Bool} {k} : Xp X B Γ (.Constant (.bool z) k pos) (.bool z) := xp_of pe_bl de_bl
theorem xp_non {k} : Xp X B Γ (.Constant .none k pos) .none := xp_of pe_non de_non
theorem xp_l (h : Xl X B Γ e ds) : Xp X B Γ e (.list ds) := de_of_dl h
/-! ### operators -/
theorem xp_bin {op : Operator} {rr : R2} (ho : OpR X (binaryOp op) rr) (hr : OpD X.K rr d1 d2 d) (ha : Xp X B Γ a d1) (hb : Xp X B Γ b d2) : Xp X B Γ (.BinOp a op b pos) d := xp_of (pe_op ho pe_u pe_u) (de_op ha hb hr)
theorem xp_cmp {op : CmpOp} {rr : R2} (ho : OpR X (compareOp op) rr) (hr : OpD X.K rr d1 d2 d) (ha : Xp X B Γ a d1) (hb : Xp X B Γ b d2) (hm : behindInMarks op b = false) : Xp X B Γ (.Compare a [op] [b] pos) d := xp_of (pe_cmpR ho pe_u pe_u hm) (de_op ha hb hr)
theorem xt_cmp {op : CmpOp} {rr : R2} (ho : OpR X (compareOp op) rr) (hr : OpD X.K rr d1 d2 (.bool p)) (ha : Xp X B Γ a d1) (hb : Xp X B Γ b d2) (hm : behindInMarks op b = false) : Xt X B Γ (.Compare a [op] [b] pos) p := xt_of (pt_cmpR ho pe_u pe_u hm) (dt_B (de_op ha hb hr))
theorem opd_I {C : Int → Int → Prop} {g : Int → Int → V} {m n : Int} {K : PySem.W.Frag} (hc : C m n) (hg : ∀ H, Dq K H (g m n) d) : OpD K (rI C g) (.int m) (.int n) d := fun H Hs x y s hx hy Q q => by
  cases hx; cases hy
  exact ⟨m, n, rfl, rfl, hc, q _ H Hs (Gr.refl s) (hg Hs)⟩
theorem opd_I0 {g : Int → Int → V} {m n : Int} {K : PySem.W.Frag} (hg : ∀ H, Dq K H (g m n) d) : OpD K (rI0 g) (.int m) (.int n) d := fun H Hs x y s hx hy Q q => by
  cases hx; cases hy
  exact ⟨m, n, rfl, rfl, q _ H Hs (Gr.refl s) (hg Hs)⟩
variable {m n : Int} {y z : Str}
theorem xp_add (ha : Xp X B Γ a (.int m)) (hb : Xp X B Γ b (.int n)) : Xp X B Γ (.BinOp a .Add b pos) (.int (m + n)) := xp_bin op_add (opd_I0 fun _ => .int _) ha hb
theorem xp_sub (ha : Xp X B Γ a (.int m)) (hb : Xp X B Γ b (.int n)) : Xp X B Γ (.BinOp a .Sub b pos) (.int (m - n)) := xp_bin op_sub (opd_I0 fun _ => .int _) ha hb
theorem xp_mul (ha : Xp X B Γ a (.int m)) (hb : Xp X B Γ b (.int n)) (hc : CMulW m n) : Xp X B Γ (.BinOp a .Mult b pos) (.int (m * n)) := xp_bin op_mulW (opd_I hc fun _ => .int _) ha hb
/-- // by what is not nought -/
def CDivG (_ j : Int) : Prop := j ≠ 0 ∧ j.natAbs.log2 < 9000
theorem op_fdivG : OpR X (binaryOp .FloorDiv) (rI CDivG fun i j => .int (i.fdiv j)) := opI fun i j _ _ _ _ _ hc q => floordiv_int hc.1 q (.inl (PyProof.noPylong_of_log2 hc.2))
theorem xp_fdiv (ha : Xp X B Γ a (.int m)) (hb : Xp X B Γ b (.int n)) (hc : CDivG m n) : Xp X B Γ (.BinOp a .FloorDiv b pos) (.int (m.fdiv n)) := xp_bin op_fdivG (opd_I hc fun _ => .int _) ha hb
theorem xp_mod (ha : Xp X B Γ a (.int m)) (hb : Xp X B Γ b (.int n)) (hc : 0 < n) : Xp X B Γ (.BinOp a .Mod b pos) (.int (m % n)) := xp_bin op_mod (opd_I hc fun _ => .int _) ha hb
theorem xp_pow (ha : Xp X B Γ a (.int m)) (hb : Xp X B Γ b (.int n)) (hc : CPow m n) : Xp X B Γ (.BinOp a .Pow b pos) (.int (m ^ n.toNat)) := xp_bin op_pow (opd_I hc fun _ => .int _) ha hb
theorem xp_adds (ha : Xp X B Γ a (.str y)) (hb : Xp X B Γ b (.str z)) (hc : y.length + z.length ≤ sizeLine) : Xp X B Γ (.BinOp a .Add b pos) (.str (y ++ z)) :=
  xp_bin op_add_str (fun H Hs u v s hx hy Q q => by
    cases hx; cases hy
    exact ⟨y, z, rfl, rfl, hc, q _ H Hs (Gr.refl s) (.str _)⟩) ha hb
theorem xp_neg (ha : Xp X B Γ a (.int m)) : Xp X B Γ (.UnaryOp .USub a pos) (.int (-m)) := xp_of (pe_un un_neg pe_u) (de_un ha fun H Hs u s hx Q q => by
  cases hx
  exact ⟨m, rfl, q _ H Hs (Gr.refl s) (.int _)⟩)
theorem xp_not (ha : Xp X B Γ a (.bool p)) : Xp X B Γ (.UnaryOp .Not a pos) (.bool (!p)) := xp_of (pe_not pe_u) (de_notV ha)
/-! comparisons -/
theorem xp_lt (ha : Xp X B Γ a (.int m)) (hb : Xp X B Γ b (.int n)) : Xp X B Γ (.Compare a [.Lt] [b] pos) (.bool (decide (m < n))) := xp_cmp op_lt (opd_I0 fun _ => .bl _) ha hb (nomark _)
theorem xp_le (ha : Xp X B Γ a (.int m)) (hb : Xp X B Γ b (.int n)) : Xp X B Γ (.Compare a [.LtE] [b] pos) (.bool (decide (m ≤ n))) := xp_cmp op_le (opd_I0 fun _ => .bl _) ha hb (nomark _)
theorem xp_gt (ha : Xp X B Γ a (.int m)) (hb : Xp X B Γ b (.int n)) : Xp X B Γ (.Compare a [.Gt] [b] pos) (.bool (decide (n < m))) := xp_cmp op_gt (opd_I0 fun _ => .bl _) ha hb (nomark _)
theorem xp_ge (ha : Xp X B Γ a (.int m)) (hb : Xp X B Γ b (.int n)) : Xp X B Γ (.Compare a [.GtE] [b] pos) (.bool (decide (n ≤ m))) := xp_cmp op_ge (opd_I0 fun _ => .bl _) ha hb (nomark _)
theorem opd_sc {K : PySem.W.Frag} {rr : R2} {f : V → V → Bool} (hr : ∀ x y H (Q : VK), scal x y = true → Q (.bl (f x y)) H → rr x y H Q) {u v : V} (hs : scal u v = true) (h1 : ∀ H x, Dq K H x d1 → x = u) (h2 : ∀ H x, Dq K H x d2 → x = v) : OpD K rr d1 d2 (.bool (f u v)) :=
  fun H Hs x y s hx hy Q q => by
    cases h1 Hs x hx; cases h2 Hs y hy
    exact hr _ _ H Q hs (q _ H Hs (Gr.refl s) (.bl _))
theorem dq_int {K : PySem.W.Frag} : ∀ H x, Dq K H x (.int m) → x = .int m := fun _ _ h => by cases h; rfl
theorem dq_str {K : PySem.W.Frag} : ∀ H x, Dq K H x (.str y) → x = .str y := fun _ _ h => by cases h; rfl
theorem dq_bl {K : PySem.W.Frag} : ∀ H x, Dq K H x (.bool p) → x = .bl p := fun _ _ h => by cases h; rfl
theorem dq_non {K : PySem.W.Frag} : ∀ H x, Dq K H x .none → x = .non := fun _ _ h => by cases h; rfl
theorem dec_int {i j : Int} : decide (V.int i = V.int j) = decide (i = j) := by by_cases h : i = j <;> simp [h]
theorem dec_str {i j : Str} : decide (V.str i = V.str j) = decide (i = j) := by by_cases h : i = j <;> simp [h]
theorem dec_bl {i j : Bool} : decide (V.bl i = V.bl j) = decide (i = j) := by by_cases h : i = j <;> simp [h]
theorem xp_eqi (ha : Xp X B Γ a (.int m)) (hb : Xp X B Γ b (.int n)) : Xp X B Γ (.Compare a [.Eq] [b] pos) (.bool (decide (m = n))) := by
  rw [← dec_int]
  exact xp_cmp op_eq (opd_sc (f := fun x y => decide (x = y)) (fun _ _ _ _ h q => ⟨h, q⟩) rfl dq_int dq_int) ha hb (nomark _)
theorem xp_nei (ha : Xp X B Γ a (.int m)) (hb : Xp X B Γ b (.int n)) : Xp X B Γ (.Compare a [.NotEq] [b] pos) (.bool (!decide (m = n))) := by
  rw [← dec_int]
  exact xp_cmp op_ne (opd_sc (f := fun x y => !decide (x = y)) (fun _ _ _ _ h q => ⟨h, q⟩) rfl dq_int dq_int) ha hb (nomark _)
theorem xp_eqs (ha : Xp X B Γ a (.str y)) (hb : Xp X B Γ b (.str z)) : Xp X B Γ (.Compare a [.Eq] [b] pos) (.bool (decide (y = z))) := by
  rw [← dec_str]
  exact xp_cmp op_eq (opd_sc (f := fun x y => decide (x = y)) (fun _ _ _ _ h q => ⟨h, q⟩) rfl dq_str dq_str) ha hb (nomark _)
theorem xp_nes (ha : Xp X B Γ a (.str y)) (hb : Xp X B Γ b (.str z)) : Xp X B Γ (.Compare a [.NotEq] [b] pos) (.bool (!decide (y = z))) := by
  rw [← dec_str]
  exact xp_cmp op_ne (opd_sc (f := fun x y => !decide (x = y)) (fun _ _ _ _ h q => ⟨h, q⟩) rfl dq_str dq_str) ha hb (nomark _)
theorem xp_eqb (ha : Xp X B Γ a (.bool p)) (hb : Xp X B Γ b (.bool q)) : Xp X B Γ (.Compare a [.Eq] [b] pos) (.bool (decide (p = q))) := by
  rw [← dec_bl]
  exact xp_cmp op_eq (opd_sc (f := fun x y => decide (x = y)) (fun _ _ _ _ h q => ⟨h, q⟩) rfl dq_bl dq_bl) ha hb (nomark _)
theorem xp_neb (ha : Xp X B Γ a (.bool p)) (hb : Xp X B Γ b (.bool q)) : Xp X B Γ (.Compare a [.NotEq] [b] pos) (.bool (!decide (p = q))) := by
  rw [← dec_bl]
  exact xp_cmp op_ne (opd_sc (f := fun x y => !decide (x = y)) (fun _ _ _ _ h q => ⟨h, q⟩) rfl dq_bl dq_bl) ha hb (nomark _)
/-- what may be compared as data -/
theorem shaped_plain (h : SeqAt.shaped d = true) : d.canLay0 = true := (Bool.and_eq_true_iff.mp h).1
theorem xp_eqd (hu : X.A.units + 64 < cLine) (ha : Xp X B Γ a d1) (hb : Xp X B Γ b d2) (h1 : SeqAt.shaped d1 = true) (h2 : SeqAt.shaped d2 = true) : Xp X B Γ (.Compare a [.Eq] [b] pos) (.bool (PyData.eqv d1 d2)) :=
  xp_cmp (op_eqD hu) (fun H Hs u v s hx hy Q q => ⟨d1, d2, (dp_sub s hx).plain (shaped_plain h1), (dp_sub s hy).plain (shaped_plain h2), h1, h2, q _ H Hs (Gr.refl s) (.bl _)⟩) ha hb (nomark _)
theorem xp_ned (hu : X.A.units + 64 < cLine) (ha : Xp X B Γ a d1) (hb : Xp X B Γ b d2) (h1 : SeqAt.shaped d1 = true) (h2 : SeqAt.shaped d2 = true) : Xp X B Γ (.Compare a [.NotEq] [b] pos) (.bool (!PyData.eqv d1 d2)) :=
  xp_cmp (op_neD hu) (fun H Hs u v s hx hy Q q => ⟨d1, d2, (dp_sub s hx).plain (shaped_plain h1), (dp_sub s hy).plain (shaped_plain h2), h1, h2, q _ H Hs (Gr.refl s) (.bl _)⟩) ha hb (nomark _)
def isNone : PyData → Bool
  | .none => true
  | _ => false
theorem isNone_v {K : PySem.W.Frag} {H : Hp} {v : V} (h : Dq K H v d) : decide (v = .non) = isNone d := by cases h <;> rfl
theorem xp_isN {k p2} (ha : Xp X B Γ a d) : Xp X B Γ (.Compare a [.Is] [.Constant .none k p2] pos) (.bool (isNone d)) :=
  xp_cmp (d2 := .none) op_isN (fun H Hs u v s hx hy Q q => by
    cases hy
    refine ⟨rfl, ?_⟩
    rw [isNone_v hx]
    exact q _ H Hs (Gr.refl s) (.bl _)) ha xp_non (nomark _)
theorem xp_notN {k p2} (ha : Xp X B Γ a d) : Xp X B Γ (.Compare a [.IsNot] [.Constant .none k p2] pos) (.bool (!isNone d)) :=
  xp_cmp (d2 := .none) op_notN (fun H Hs u v s hx hy Q q => by
    cases hy
    refine ⟨rfl, ?_⟩
    rw [isNone_v hx]
    exact q _ H Hs (Gr.refl s) (.bl _)) ha xp_non (nomark _)
theorem xp_isB (ha : Xp X B Γ a (.bool p)) (hb : Xp X B Γ b (.bool q)) : Xp X B Γ (.Compare a [.Is] [b] pos) (.bool (decide (p = q))) :=
  xp_cmp op_is_bl (fun H Hs u v s hx hy Q q => by
    cases hx; cases hy
    exact ⟨_, _, rfl, rfl, q _ H Hs (Gr.refl s) (.bl _)⟩) ha hb (nomark _)
theorem xp_notB (ha : Xp X B Γ a (.bool p)) (hb : Xp X B Γ b (.bool q)) : Xp X B Γ (.Compare a [.IsNot] [b] pos) (.bool (!decide (p = q))) :=
  xp_cmp op_isnot_bl (fun H Hs u v s hx hy Q q => by
    cases hx; cases hy
    exact ⟨_, _, rfl, rfl, q _ H Hs (Gr.refl s) (.bl _)⟩) ha hb (nomark _)
/-- x in (..), x flat, among flat things -/
def flatD : PyData → Bool
  | .none => true
  | .bool _ => true
  | .int _ => true
  | .str _ => true
  | _ => false
def vOf : PyData → V
  | .bool b => .bl b
  | .int i => .int i
  | .str s => .str s
  | _ => .non
theorem vOf_eq {K : PySem.W.Frag} {H : Hp} {v : V} (h : Dq K H v d) (f : flatD d = true) : v = vOf d := by
  cases h <;> first | rfl | cases f
theorem vOf_all {K : PySem.W.Frag} {H : Hp} : ∀ {vs : List V} {ds : List PyData}, DqAll K H vs ds → ds.all flatD = true → vs = ds.map vOf
  | _, _, .nil, _ => rfl
  | _, _, @DqAll.cons _ _ v vs d ds h a, f => by
    rw [List.all_cons, Bool.and_eq_true] at f
    rw [vOf_eq h f.1, vOf_all a f.2]; rfl
theorem flatV_of : ∀ {d : PyData}, flatD d = true → flatV (vOf d) = true
  | .none, _ => rfl
  | .bool _, _ => rfl
  | .int _, _ => rfl
  | .str _, _ => rfl
  | .list _, h => nomatch h
  | .tuple _, h => nomatch h
  | .dict _, h => nomatch h
theorem flatV_all {ds : List PyData} (h : ds.all flatD = true) : (ds.map vOf).all flatV = true := by
  rw [List.all_eq_true] at h ⊢
  intro v hv
  obtain ⟨d, hd, rfl⟩ := List.mem_map.mp hv
  exact flatV_of (h d hd)
def inD (d : PyData) (ds : List PyData) : Bool := inV (vOf d) (ds.map vOf)
theorem opd_in {K : PySem.W.Frag} {neg : Bool} (f : flatD d1 = true) (g : ds.all flatD = true) (hd : d2 = .list ds ∨ d2 = .tuple ds) : OpD K (rIn K neg) d1 d2 (.bool (if neg then !inD d1 ds else inD d1 ds)) := fun H Hs u v s hx hy Q q => by
  rcases hd with rfl | rfl
  · cases hy with
    | lst hq ha =>
      cases vOf_eq hx f
      cases vOf_all ha g
      exact ⟨_, _, rfl, .inl (sub_l s hq), flatV_of f, flatV_all g, q _ H Hs (Gr.refl s) (.bl _)⟩
  · cases hy with
    | tup hq ha =>
      cases vOf_eq hx f
      cases vOf_all ha g
      exact ⟨_, _, rfl, .inr (sub_t s hq), flatV_of f, flatV_all g, q _ H Hs (Gr.refl s) (.bl _)⟩
theorem xp_inL (hm : behindInMarks .In b = false) (ha : Xp X B Γ a d) (hb : Xp X B Γ b (.list ds)) (f : flatD d = true) (g : ds.all flatD = true) : Xp X B Γ (.Compare a [.In] [b] pos) (.bool (inD d ds)) := xp_cmp op_in_seq (opd_in (neg := false) f g (.inl rfl)) ha hb hm
theorem xp_inT (hm : behindInMarks .In b = false) (ha : Xp X B Γ a d) (hb : Xp X B Γ b (.tuple ds)) (f : flatD d = true) (g : ds.all flatD = true) : Xp X B Γ (.Compare a [.In] [b] pos) (.bool (inD d ds)) := xp_cmp op_in_seq (opd_in (neg := false) f g (.inr rfl)) ha hb hm
theorem xp_ninL (hm : behindInMarks .NotIn b = false) (ha : Xp X B Γ a d) (hb : Xp X B Γ b (.list ds)) (f : flatD d = true) (g : ds.all flatD = true) : Xp X B Γ (.Compare a [.NotIn] [b] pos) (.bool (!inD d ds)) := xp_cmp op_notIn_seq (opd_in (neg := true) f g (.inl rfl)) ha hb hm
theorem xp_ninT (hm : behindInMarks .NotIn b = false) (ha : Xp X B Γ a d) (hb : Xp X B Γ b (.tuple ds)) (f : flatD d = true) (g : ds.all flatD = true) : Xp X B Γ (.Compare a [.NotIn] [b] pos) (.bool (!inD d ds)) := xp_cmp op_notIn_seq (opd_in (neg := true) f g (.inr rfl)) ha hb hm
theorem xp_inS {k : Nat} (hm : behindInMarks .In b = false) (ha : Xp X B Γ a (.str ⟨#[k]⟩)) (hb : Xp X B Γ b (.str z)) : Xp X B Γ (.Compare a [.In] [b] pos) (.bool (decide (k ∈ z.cps.toList))) := xp_cmp op_in_sign (fun H Hs u v s hx hy Q q => by
  cases hx; cases hy
  exact ⟨k, z, rfl, rfl, q _ H Hs (Gr.refl s) (.bl _)⟩) ha hb hm
theorem xp_ninS {k : Nat} (hm : behindInMarks .NotIn b = false) (ha : Xp X B Γ a (.str ⟨#[k]⟩)) (hb : Xp X B Γ b (.str z)) : Xp X B Γ (.Compare a [.NotIn] [b] pos) (.bool (!decide (k ∈ z.cps.toList))) := xp_cmp op_notIn_sign (fun H Hs u v s hx hy Q q => by
  cases hx; cases hy
  exact ⟨k, z, rfl, rfl, q _ H Hs (Gr.refl s) (.bl _)⟩) ha hb hm
/-! ### and, or, if -/
theorem xp_one {op} (h : Xp X B Γ a d) : Xp X B Γ (.BoolOp op [a] pos) d := xp_of (pe_one pe_u) h
theorem xp_and (h1 : Xp X B Γ a (.bool p)) (h2 : p = true → Xp X B Γ (.BoolOp .And (b :: es) pos) (.bool q)) : Xp X B Γ (.BoolOp .And (a :: b :: es) pos) (.bool (p && q)) := xp_of (pe_and pe_u pe_u) (de_andV h1 h2)
theorem xp_or (h1 : Xp X B Γ a (.bool p)) (h2 : p = false → Xp X B Γ (.BoolOp .Or (b :: es) pos) (.bool q)) : Xp X B Γ (.BoolOp .Or (a :: b :: es) pos) (.bool (p || q)) := xp_of (pe_or pe_u pe_u) (de_orV h1 h2)
theorem xt_val (he : ∀ whole, isTrue e X.env whole = (do let v ← whole; standAt e.pos; holding [v] (truthy v))) (h : Xp X B Γ e (.bool p)) : Xt X B Γ e p := xt_of (pt_val pe_u he) (dt_B h)
theorem xt_not (h : Xt X B Γ a p) : Xt X B Γ (.UnaryOp .Not a pos) (!p) := xt_of (pt_not pt_u) (dt_not h)
theorem xw_and1 (h : Xt X B Γ a p) : Xw X B Γ (.BoolOp .And [a] pos) p := xw_of (pw_and1 pt_u) h
theorem xw_or1 (h : Xt X B Γ a p) : Xw X B Γ (.BoolOp .Or [a] pos) p := xw_of (pw_or1 pt_u) h
theorem xw_and (h1 : Xt X B Γ a p) (h2 : p = true → Xw X B Γ (.BoolOp .And (b :: es) pos) q) : Xw X B Γ (.BoolOp .And (a :: b :: es) pos) (p && q) := xw_of (pw_and pt_u pw_u) (dt_and h1 h2)
theorem xw_or (h1 : Xt X B Γ a p) (h2 : p = false → Xw X B Γ (.BoolOp .Or (b :: es) pos) q) : Xw X B Γ (.BoolOp .Or (a :: b :: es) pos) (p || q) := xw_of (pw_or pt_u pw_u) (dt_or h1 h2)
theorem xt_w {op} (h : Xw X B Γ (.BoolOp op es pos) p) : Xt X B Γ (.BoolOp op es pos) p := xt_of pw_u.pt h
/-- the truth of data -/
def truD : PyData → Bool
  | .none => false
  | .bool b => b
  | .int i => i != 0
  | .str y => (y.length : Int) != 0
  | .list xs => !xs.isEmpty
  | .tuple xs => !xs.isEmpty
  | .dict kvs => !kvs.isEmpty
def truOk : PyData → Prop
  | .str y => y.length ≤ sizeLine
  | .dict _ => False
  | _ => True
theorem isEmpty_dq {K : PySem.W.Frag} {H : Hp} {vs : List V} (h : DqAll K H vs ds) : vs.isEmpty = ds.isEmpty := by cases h <;> rfl
theorem xt_tru (he : ∀ whole, isTrue e X.env whole = (do let v ← whole; standAt e.pos; holding [v] (truthy v))) (h : Xp X B Γ e d) (ok : truOk d) : Xt X B Γ e (truD d) := xt_of (pt_truth pe_u he) fun H Hs σ E Q q => h H Hs σ E _ fun v H1 Hs1 g1 p1 => by
  refine ⟨truD d, ?_, q H1 Hs1 g1⟩
  cases p1 with
  | non => exact rfl
  | bl b => exact rfl
  | int i => exact rfl
  | str y => exact ⟨ok, rfl⟩
  | lst hq ha => exact .inl ⟨_, sub_l g1.sub hq, by rw [isEmpty_dq ha]; rfl⟩
  | tup hq ha => exact .inr (.inl ⟨_, sub_t g1.sub hq, by rw [isEmpty_dq ha]; rfl⟩)
  | dic _ _ => exact False.elim ok
theorem xp_if (h : Xt X B Γ c p) (h1 : p = true → Xp X B Γ a d) (h2 : p = false → Xp X B Γ b d) : Xp X B Γ (.IfExp c a b pos) d := xp_of (pe_ifExp pt_u pe_u pe_u) (de_if h h1 h2)
/-! ### arguments, displays -/
theorem xa_nil : Xa X B Γ [] [] := xa_of pa_nil da_nil
theorem xa_cons (hs : starEach (e :: es) X.env = (false, eval e X.env) :: starEach es X.env) (h : Xp X B Γ e d) (hr : Xa X B Γ es ds) : Xa X B Γ (e :: es) (d :: ds) := xa_of (pa_cons pe_u pa_u hs) (da_cons h hr)
theorem xp_tup {x1} (h : Xa X B Γ es ds) (hl : ds.length ≤ sizeLine) : Xp X B Γ (.Tuple es x1 pos) (.tuple ds) := xp_of (pe_tup pa_u) (de_tup h hl)
theorem xl_lst (h : Xa X B Γ es ds) (hl : ds.length ≤ sizeLine) : Xl X B Γ (.List es pos) ds := xl_of (pe_lst pa_u) (dl_lst h hl)
/-! ### subscripts -/
theorem opd_ixL {K : PySem.W.Frag} {i : Int} (h : atI ds i = some d) : OpD K (rIxL K) (.list ds) (.int i) d := fun H Hs x y s hx hy Q q => by
  cases hy
  cases hx with
  | lst hq ha =>
    unfold atI at h
    cases e : ixN ds.length i with
    | none => rw [e] at h; cases h
    | some j =>
      rw [e] at h
      obtain ⟨v, hv, pv⟩ := ha.get h
      exact ⟨_, _, i, v, rfl, rfl, sub_l s hq, by unfold atI; rw [ha.length, e]; exact hv, q v H Hs (Gr.refl s) pv⟩
theorem opd_ixT {K : PySem.W.Frag} {i : Int} (h : atI ds i = some d) : OpD K (rIxT K) (.tuple ds) (.int i) d := fun H Hs x y s hx hy Q q => by
  cases hy
  cases hx with
  | tup hq ha =>
    unfold atI at h
    cases e : ixN ds.length i with
    | none => rw [e] at h; cases h
    | some j =>
      rw [e] at h
      obtain ⟨v, hv, pv⟩ := ha.get h
      exact ⟨_, _, i, v, rfl, rfl, sub_t s hq, by unfold atI; rw [ha.length, e]; exact hv, q v H Hs (Gr.refl s) pv⟩
theorem xp_ixL {i : Int} (hs : PlainIx b) (ha : Xp X B Γ a (.list ds)) (hb : Xp X B Γ b (.int i)) (h : atI ds i = some d) : Xp X B Γ (.Subscript a b pos) d := xp_of (pe_ix ix_list pe_u pe_u hs) (de_op ha hb (opd_ixL h))
theorem xp_ixT {i : Int} (hs : PlainIx b) (ha : Xp X B Γ a (.tuple ds)) (hb : Xp X B Γ b (.int i)) (h : atI ds i = some d) : Xp X B Γ (.Subscript a b pos) d := xp_of (pe_ix ix_tup pe_u pe_u hs) (de_op ha hb (opd_ixT h))
theorem xp_ixS {i : Int} {k : Nat} (hs : PlainIx b) (ha : Xp X B Γ a (.str y)) (hb : Xp X B Γ b (.int i)) (hz : y.length ≤ sizeLine) (h : atI y.cps.toList i = some k) : Xp X B Γ (.Subscript a b pos) (.str ⟨#[k]⟩) :=
  xp_of (pe_ix ix_str pe_u pe_u hs) (de_op ha hb fun H Hs u v s hx hy Q q => by
    cases hx; cases hy
    exact ⟨y, i, k, rfl, rfl, hz, h, q _ H Hs (Gr.refl s) (.str _)⟩)
/-- the part of a slice -/
def DO (K : PySem.W.Frag) (B : Bs) (t : TO) (Γ : Gm) (o : Option Int) : Prop := ∀ H Hs σ, Enb K B H Hs σ Γ → ∀ Q : Option Int → Hp → Prop, (∀ H' Hs', Gr H Hs H' Hs' → Q o H') → t σ H Q
def uO (X : Cx) (e : Option Expr) : TO := fun σ H Q => ∃ t, PO X e t ∧ t σ H Q
theorem po_u {X : Cx} {e : Option Expr} : PO X e (uO X e) := ⟨fun pins s σ H Q I ⟨_, p, h⟩ => p.run pins s σ H Q I h⟩
def Xo (X : Cx) (B : Bs) (Γ : Gm) (e : Option Expr) (o : Option Int) : Prop := DO X.K B (uO X e) Γ o
theorem xo_none : Xo X B Γ none none := fun H Hs σ E Q q => ⟨_, po_none, q H Hs (Gr.refl E.sub)⟩
theorem xo_some {i : Int} (h : Xp X B Γ e (.int i)) : Xo X B Γ (some e) (some i) := fun H Hs σ E Q q => ⟨_, po_some pe_u, h H Hs σ E _ fun v H1 Hs1 g1 p1 => by
  cases p1
  exact ⟨i, rfl, q H1 Hs1 g1⟩⟩
def cutD (xs : List PyData) (lo hi : Option Int) : List PyData := (xs.drop (HT.sIx xs.length 0 lo)).take (HT.sIx xs.length xs.length hi - HT.sIx xs.length 0 lo)
theorem xl_sl {lo hi : Option Expr} {l h : Option Int} {p2 : Pos} (he : Xp X B Γ e (.list ds)) (hl : Xo X B Γ lo l) (hh : Xo X B Γ hi h) : Xl X B Γ (.Subscript e (.Slice lo hi none p2) pos) (cutD ds l h) :=
  xl_of (pe_slice sl_list pe_u po_u po_u) fun H Hs σ E Q q => he H Hs σ E _ fun v H1 Hs1 g1 p1 => hl H1 Hs1 σ (E.grow g1) _ fun H2 Hs2 g2 => hh H2 Hs2 σ ((E.grow g1).grow g2) _ fun H3 Hs3 g3 => by
    have gg := (g1.trans g2).trans g3
    cases p1 with
    | lst hq ha =>
      refine ⟨_, _, rfl, sub_l gg.sub (ext_l g3.exs (ext_l g2.exs hq)), fun p n => dl_new gg q n ?_⟩
      have a3 := (ha.mono g2.exs).mono g3.exs
      unfold cutV cutD
      rw [ha.length]
      exact (a3.drop _).take _
theorem xp_slS {lo hi : Option Expr} {l h : Option Int} {p2 : Pos} (he : Xp X B Γ e (.str y)) (hz : y.length ≤ sizeLine) (hl : Xo X B Γ lo l) (hh : Xo X B Γ hi h) : Xp X B Γ (.Subscript e (.Slice lo hi none p2) pos) (.str (cutS y l h)) :=
  xp_of (pe_slice sl_str pe_u po_u po_u) fun H Hs σ E Q q => he H Hs σ E _ fun v H1 Hs1 g1 p1 => hl H1 Hs1 σ (E.grow g1) _ fun H2 Hs2 g2 => hh H2 Hs2 σ ((E.grow g1).grow g2) _ fun H3 Hs3 g3 => by
    cases p1
    exact ⟨y, rfl, hz, q _ H3 Hs3 ((g1.trans g2).trans g3) (.str _)⟩
end
end Dl
set_option Elab.async false
set_option linter.all false
set_option maxRecDepth 100000
set_option maxHeartbeats 2000000
namespace Dl
open PySem L2 PyProof.Rows
section
variable {X : Cx} {B : Bs} {Γ : Gm} {e a b c : Expr} {es : List Expr} {s st : Stmt} {ss rest : List Stmt} {d d1 d2 : PyData} {ds : List PyData} {P : Out → Prop} {pos : Pos} {x : Str} {i : Nat} {p q r : Bool} {m n : Int} {y z : Str}
/-! ### list + list, tuple + tuple -/
def rCatG (K : PySem.W.Frag) : R2 := fun x y H Q => ∃ l b xs zs, x = .ref l ∧ y = .ref b ∧ SqL K H l xs ∧ SqL K H b zs ∧ xs.length + zs.length ≤ sizeLine ∧ ∀ p, H p = none → Q (.ref p) (upd H p (.lst (xs ++ zs)))
theorem op_catG : OpR X (binaryOp .Add) (rCatG X.K) := by
  intro pins s σ H x y v u Q I rx ry h
  obtain ⟨l, b, xs, zs, rfl, rfl, hH, hB, hz, q⟩ := h
  cases rx
  cases ry
  obtain ⟨its, r, ⟨⟨cls, dd, data, sl⟩, n, ho, hc, hdd, hd⟩, z1⟩ := I.list hH
  obtain ⟨its2, r2, ⟨⟨cls2, dd2, data2, sl2⟩, n2, ho2, hc2, hdd2, hd2⟩, z2⟩ := I.list hB
  simp only at hc hd hc2 hd2 hdd hdd2
  subst hc hd hc2 hd2 hdd hdd2
  have e : its.toArray ++ its2.toArray = (its ++ its2).toArray := by simp
  refine concat_meets ⟨_, ho, rfl⟩ ⟨_, ho2, rfl⟩ noFill_list_add seq_list_add PySem.F.slot_list_add PySem.F.entry_list_add (PySem.F.args_list_add_2 _ _) (list_addW l b its.toArray its2.toArray n n2 none none sl sl2 (by rw [List.size_toArray, List.size_toArray, ← r.length, ← r2.length]; exact hz)) ⟨ho, ho2, ?_⟩
  rw [e]
  exact ⟨.ref _, _, I.lnew (t' := s.toks) (r.append r2) (by rw [List.length_append]; omega), rfl, q _ I.fresh⟩
theorem xl_cat {es1 es2 : List PyData} (ha : Xp X B Γ a (.list es1)) (hb : Xp X B Γ b (.list es2)) (hz : es1.length + es2.length ≤ sizeLine) : Xl X B Γ (.BinOp a .Add b pos) (es1 ++ es2) :=
  xl_of (pe_op op_catG pe_u pe_u) fun H Hs σ E Q q => ha H Hs σ E _ fun v H1 Hs1 g1 p1 => hb H1 Hs1 σ (E.grow g1) _ fun u H2 Hs2 g2 p2 => by
    cases p1.mono g2.exs with
    | lst h1 a1 =>
      cases p2 with
      | lst h2 a2 => exact ⟨_, _, _, _, rfl, rfl, sub_l g2.sub h1, sub_l g2.sub h2, by rw [a1.length, a2.length]; exact hz, fun p n => dl_new (g1.trans g2) q n (a1.app a2)⟩
theorem xp_catT {es1 es2 : List PyData} (ha : Xp X B Γ a (.tuple es1)) (hb : Xp X B Γ b (.tuple es2)) (hz : es1.length + es2.length ≤ sizeLine) : Xp X B Γ (.BinOp a .Add b pos) (.tuple (es1 ++ es2)) :=
  xp_of (pe_op op_catA pe_u pe_u) (de_op ha hb fun H Hs u v s hx hy Q q => by
    cases hx with
    | @tup a1 xs _ h1 a1' =>
      cases hy with
      | @tup a2 ys _ h2 a2' =>
        refine ⟨_, _, _, _, rfl, rfl, sub_t s h1, sub_t s h2, by rw [a1'.length, a2'.length]; exact hz, fun e1 => ?_, fun e1 e2 => ?_, fun e1 e2 p n => ?_⟩
        · subst e1
          cases a1'
          exact q _ H Hs (Gr.refl s) (.tup h2 a2')
        · subst e2
          cases a2'
          rw [List.append_nil] at q
          exact q _ H Hs (Gr.refl s) (.tup h1 a1')
        · exact q _ _ _ ((Gr.refl s).share n) (.tup (SqT.of upd_same) ((a1'.app a2').mono (Ext.new ((Gr.refl s).hsn n)))))
/-! ### calls of built-ins -/
theorem boot_len' : bootBuiltins ("len" : Str) = some (.builtin "len") := PySem.boot_len
theorem xp_cb {id : String} {rr : List V → Hp → VK → Prop} {p' : Pos} (hc : CallR X (.builtin id) rr) (hb : Bi X x) (hv : bootBuiltins x = some (.builtin id)) (hn : x ≠ "__name__") (hd : (x == ("__debug__" : Str)) = false) (he : starEach (e :: es) X.env = (false, eval e X.env) :: starEach es X.env) (hpl : (backTo pos (starEach es X.env)).any (·.1) = false)
    (ha : Xa X B Γ (e :: es) ds) (hr : CbD X.K rr ds d) : Xp X B Γ (.Call (.Name x p') (e :: es) [] pos) d := xp_of (pe_callB hc hb.gl hb.no hv pa_u hn hd he hpl) (de_cb ha hr)
theorem xl_cb {id : String} {rr : List V → Hp → VK → Prop} {p' : Pos} {es' : List PyData} (hc : CallR X (.builtin id) rr) (hb : Bi X x) (hv : bootBuiltins x = some (.builtin id)) (hn : x ≠ "__name__") (hd : (x == ("__debug__" : Str)) = false) (he : starEach (e :: es) X.env = (false, eval e X.env) :: starEach es X.env) (hpl : (backTo pos (starEach es X.env)).any (·.1) = false)
    (ha : Xa X B Γ (e :: es) es') (hr : CbL X.K rr es' ds) : Xl X B Γ (.Call (.Name x p') (e :: es) [] pos) ds := xl_of (pe_callB hc hb.gl hb.no hv pa_u hn hd he hpl) (dl_cb ha hr)
theorem xp_ct {id : String} {rr : List V → Hp → VK → Prop} {p' : Pos} (hc : CallR X (.type id) rr) (hb : Bi X x) (hv : bootBuiltins x = some (.type id)) (hn : x ≠ "__name__") (hd : (x == ("__debug__" : Str)) = false) (he : starEach (e :: es) X.env = (false, eval e X.env) :: starEach es X.env) (hpl : (backTo pos (starEach es X.env)).any (·.1) = false)
    (ha : Xa X B Γ (e :: es) ds) (hr : CbD X.K rr ds d) : Xp X B Γ (.Call (.Name x p') (e :: es) [] pos) d := xp_of (pe_callTy hc hb.gl hb.no hv pa_u hn hd he hpl) (de_cb ha hr)
theorem xl_ct {id : String} {rr : List V → Hp → VK → Prop} {p' : Pos} {es' : List PyData} (hc : CallR X (.type id) rr) (hb : Bi X x) (hv : bootBuiltins x = some (.type id)) (hn : x ≠ "__name__") (hd : (x == ("__debug__" : Str)) = false) (he : starEach (e :: es) X.env = (false, eval e X.env) :: starEach es X.env) (hpl : (backTo pos (starEach es X.env)).any (·.1) = false)
    (ha : Xa X B Γ (e :: es) es') (hr : CbL X.K rr es' ds) : Xl X B Γ (.Call (.Name x p') (e :: es) [] pos) ds := xl_of (pe_callTy hc hb.gl hb.no hv pa_u hn hd he hpl) (dl_cb ha hr)
theorem cb1 {K : PySem.W.Frag} {rr : List V → Hp → VK → Prop} (h : ∀ H Hs x, (∀ a o, Hs a = some o → H a = some o) → Dq K Hs x d1 → ∀ Q : VK, (∀ v H' Hs', Gr H Hs H' Hs' → Dq K Hs' v d → Q v H') → rr [x] H Q) : CbD K rr [d1] d := fun H Hs xs s a Q q => by
  cases a with
  | cons a1 a2 => cases a2; exact h H Hs _ s a1 Q q
theorem cb2 {K : PySem.W.Frag} {rr : List V → Hp → VK → Prop} (h : ∀ H Hs x y, (∀ a o, Hs a = some o → H a = some o) → Dq K Hs x d1 → Dq K Hs y d2 → ∀ Q : VK, (∀ v H' Hs', Gr H Hs H' Hs' → Dq K Hs' v d → Q v H') → rr [x, y] H Q) : CbD K rr [d1, d2] d := fun H Hs xs s a Q q => by
  cases a with
  | cons a1 a2 =>
    cases a2 with
    | cons a2 a3 => cases a3; exact h H Hs _ _ s a1 a2 Q q
/-- what the call rules ask of the written arguments -/
abbrev St1 (X : Cx) (e : Expr) (es : List Expr) : Prop := starEach (e :: es) X.env = (false, eval e X.env) :: starEach es X.env
abbrev Pl1 (X : Cx) (pos : Pos) (es : List Expr) : Prop := (backTo pos (starEach es X.env)).any (·.1) = false
variable {p' : Pos}
theorem xp_lenL (hb : Bi X "len") (he : St1 X e []) (hp : Pl1 X pos []) (h : Xp X B Γ e (.list ds)) : Xp X B Γ (.Call (.Name "len" p') [e] [] pos) (.int ds.length) :=
  xp_cb call_len_seq hb PySem.boot_len (by decide) (by decide) he hp (xa_cons he h xa_nil) (cb1 fun H Hs x s hx Q q => by
    cases hx with
    | lst hq ha => exact ⟨_, _, rfl, .inl (sub_l s hq), by rw [ha.length]; exact q _ H Hs (Gr.refl s) (.int _)⟩)
theorem xp_lenT (hb : Bi X "len") (he : St1 X e []) (hp : Pl1 X pos []) (h : Xp X B Γ e (.tuple ds)) : Xp X B Γ (.Call (.Name "len" p') [e] [] pos) (.int ds.length) :=
  xp_cb call_len_seq hb PySem.boot_len (by decide) (by decide) he hp (xa_cons he h xa_nil) (cb1 fun H Hs x s hx Q q => by
    cases hx with
    | tup hq ha => exact ⟨_, _, rfl, .inr (sub_t s hq), by rw [ha.length]; exact q _ H Hs (Gr.refl s) (.int _)⟩)
theorem xp_lenS (hb : Bi X "len") (he : St1 X e []) (hp : Pl1 X pos []) (h : Xp X B Γ e (.str y)) (hz : y.length ≤ sizeLine) : Xp X B Γ (.Call (.Name "len" p') [e] [] pos) (.int y.length) :=
  xp_cb call_len_str hb PySem.boot_len (by decide) (by decide) he hp (xa_cons he h xa_nil) (cb1 fun H Hs x s hx Q q => by
    cases hx
    exact ⟨y, rfl, hz, q _ H Hs (Gr.refl s) (.int _)⟩)
/-- len of one's own list -/
theorem xp_lenO (hb : Bi X "len") {p2 : Pos} (he : St1 X (.Name x p2) []) (hp : Pl1 X pos []) (h : Rk X i x) (k : Γ[i]? = some (.ow ds)) : Xp X B Γ (.Call (.Name "len" p') [.Name x p2] [] pos) (.int ds.length) :=
  xp_of (pe_callB call_len_seq hb.gl hb.no PySem.boot_len (pa_cons (pe_var h.ix h.vis h.d1 h.d2) pa_nil he) (by decide) (by decide) he hp) fun H Hs σ E Q q => by
    obtain ⟨l, xs, e1, h1, h2, _, _⟩ := E.ow k
    exact ⟨.ref l, e1, l, xs, rfl, .inl (SqL.of h1), by rw [h2.length]; exact q _ H Hs (Gr.refl E.sub) (.int _)⟩
theorem xp_abs (hb : Bi X "abs") (he : St1 X e []) (hp : Pl1 X pos []) (h : Xp X B Γ e (.int m)) : Xp X B Γ (.Call (.Name "abs" p') [e] [] pos) (.int (if m < 0 then -m else m)) :=
  xp_cb call_abs hb (by decide +kernel) (by decide) (by decide) he hp (xa_cons he h xa_nil) (cb1 fun H Hs x s hx Q q => by
    cases hx
    exact ⟨m, rfl, q _ H Hs (Gr.refl s) (.int _)⟩)
theorem xp_min (hc : X.calm = true) (hb : Bi X "min") (he : St1 X e [a]) (he2 : St1 X a []) (hp : Pl1 X pos [a]) (h : Xp X B Γ e (.int m)) (h2 : Xp X B Γ a (.int n)) : Xp X B Γ (.Call (.Name "min" p') [e, a] [] pos) (.int (if n < m then n else m)) :=
  xp_cb (call_min2 hc) hb (by decide +kernel) (by decide) (by decide) he hp (xa_cons he h (xa_cons he2 h2 xa_nil)) (cb2 fun H Hs x y s hx hy Q q => by
    cases hx; cases hy
    exact ⟨m, n, rfl, q _ H Hs (Gr.refl s) (.int _)⟩)
theorem xp_max (hc : X.calm = true) (hb : Bi X "max") (he : St1 X e [a]) (he2 : St1 X a []) (hp : Pl1 X pos [a]) (h : Xp X B Γ e (.int m)) (h2 : Xp X B Γ a (.int n)) : Xp X B Γ (.Call (.Name "max" p') [e, a] [] pos) (.int (if n > m then n else m)) :=
  xp_cb (call_max2 hc) hb (by decide +kernel) (by decide) (by decide) he hp (xa_cons he h (xa_cons he2 h2 xa_nil)) (cb2 fun H Hs x y s hx hy Q q => by
    cases hx; cases hy
    exact ⟨m, n, rfl, q _ H Hs (Gr.refl s) (.int _)⟩)
theorem xp_strI (hb : Bi X "str") (he : St1 X e []) (hp : Pl1 X pos []) (h : Xp X B Γ e (.int m)) (hz : m.natAbs.log2 < 1920) : Xp X B Γ (.Call (.Name "str" p') [e] [] pos) (.str (toString m)) :=
  xp_ct call_str_int hb (by decide +kernel) (by decide) (by decide) he hp (xa_cons he h xa_nil) (cb1 fun H Hs x s hx Q q => by
    cases hx
    exact ⟨m, rfl, hz, q _ H Hs (Gr.refl s) (.str _)⟩)
theorem xp_intS (hb : Bi X "int") (he : St1 X e []) (hp : Pl1 X pos []) (h : Xp X B Γ e (.str y)) (hn : PySem.intText? y = some m) (hz : y.length ≤ 640) : Xp X B Γ (.Call (.Name "int" p') [e] [] pos) (.int m) :=
  xp_ct call_int_str hb (by decide +kernel) (by decide) (by decide) he hp (xa_cons he h xa_nil) (cb1 fun H Hs x s hx Q q => by
    cases hx
    exact ⟨y, m, rfl, hn, hz, q _ H Hs (Gr.refl s) (.int _)⟩)
theorem xp_intB (hb : Bi X "int") (he : St1 X e []) (hp : Pl1 X pos []) (h : Xp X B Γ e (.bool p)) : Xp X B Γ (.Call (.Name "int" p') [e] [] pos) (.int (if p then 1 else 0)) :=
  xp_ct call_int1 hb (by decide +kernel) (by decide) (by decide) he hp (xa_cons he h xa_nil) (cb1 fun H Hs x s hx Q q => by
    cases hx
    exact .inr ⟨p, rfl, q _ H Hs (Gr.refl s) (.int _)⟩)
/-- sorted of ints: the one list in order -/
theorem perm_sorted {l l' : List Int} (h : l.Perm l') (h1 : l.Pairwise (· ≤ ·)) (h2 : l'.Pairwise (· ≤ ·)) : l = l' := h.eq_of_pairwise (fun a b _ _ h1 h2 => Int.le_antisymm h1 h2) h1 h2
theorem xl_sortI {ns ms : List Int} (hb : Bi X "sorted") (he : St1 X e []) (hp : Pl1 X pos []) (h : Xp X B Γ e (.list (ns.map .int))) (hz : ns.length < 64) (hm : ms.Perm ns) (hs : ms.Pairwise (· ≤ ·)) : Xl X B Γ (.Call (.Name "sorted" p') [e] [] pos) (ms.map .int) :=
  xl_cb cr_sorted hb (by decide +kernel) (by decide) (by decide) he hp (xa_cons he h xa_nil) fun H Hs xs s a Q q => by
    cases a with
    | cons a1 a2 =>
      cases a2
      cases a1 with
      | lst hq ha =>
        have e1 := ha.ints_inv
        subst e1
        refine ⟨_, ns, rfl, sub_l s hq, hz, fun ns' p hp' hs' n => ?_⟩
        cases perm_sorted (hp'.trans hm.symm) hs' hs
        exact q p _ n (.ints _)
theorem xp_gcd (hg : Gl X x) (hm : X.mg x = some (.builtin "math.gcd")) (hd : (x == ("__debug__" : Str)) = false) (he : St1 X e [a]) (he2 : St1 X a []) (hp : Pl1 X pos [a]) (h : Xp X B Γ e (.int m)) (h2 : Xp X B Γ a (.int n)) : Xp X B Γ (.Call (.Name x p') [e, a] [] pos) (.int ((Nat.gcd m.natAbs n.natAbs : Nat) : Int)) :=
  xp_of (pe_callBfun cr_gcd hg hm pa_u hd he hp) (de_cb (xa_cons he h (xa_cons he2 h2 xa_nil)) (cb2 fun H Hs x y s hx hy Q q => by
    cases hx; cases hy
    exact ⟨m, n, rfl, q _ H Hs (Gr.refl s) (.int _)⟩))
/-! isinstance -/
def tyD : PyData → String
  | .none => "NoneType"
  | .bool _ => "bool"
  | .int _ => "int"
  | .str _ => "str"
  | .list _ => "list"
  | .tuple _ => "tuple"
  | .dict _ => "dict"
theorem tyX_of {K : PySem.W.Frag} {H Hs : Hp} {v : V} (s : ∀ a o, Hs a = some o → H a = some o) (h : Dq K Hs v d) : TyX K H v (.type (tyD d)) := by
  cases h with
  | non => exact .base .non
  | bl b => exact .base (.bl b)
  | int i => exact .base (.int i)
  | str x => exact .base (.str x)
  | lst hq ha =>
    rcases sub_l s hq with (h | ⟨o, h⟩) | ⟨o, _, _, hk, hc, _⟩
    · exact .base (.lst h)
    · exact .base (.frz h)
    · exact .kList hk hc
  | tup hq ha =>
    rcases sub_t s hq with (h | ⟨o, h⟩) | ⟨o, _, _, hk, hc, _⟩
    · exact .base (.tup h)
    · exact .fTuple h
    · exact .kTuple hk hc
  | dic hq ha =>
    rcases sub_rd s hq with h | ⟨o, h⟩
    · exact .base (.dK h)
    · exact .fDict h
/-- a built-in class, as a value -/
theorem pe_ty {T : String} (hb : Bi X x) (hv : bootBuiltins x = some (.type T)) (hn : x ≠ "__name__") (hd : (x == ("__debug__" : Str)) = false) : PE X (.Name x pos) (tC (.ty T)) := pe_bltn hb.gl hb.no hv rfl hn hd
theorem xp_isi {T : String} {p2 : Pos} (hb : Bi X "isinstance") (ht : Bi X x) (hv : bootBuiltins x = some (.type T)) (hn : x ≠ "__name__") (hd : (x == ("__debug__" : Str)) = false) (he : St1 X e [.Name x p2]) (he2 : St1 X (.Name x p2) []) (hp : Pl1 X pos [.Name x p2])
    (h : Xp X B Γ e d) (hr : kitB (tyD d) T = some p) : Xp X B Γ (.Call (.Name "isinstance" p') [e, .Name x p2] [] pos) (.bool p) :=
  xp_of (pe_callB call_isi hb.gl hb.no (by decide +kernel) (pa_cons pe_u (pa_cons (pe_ty ht hv hn hd) pa_nil he2) he) (by decide) (by decide) he hp) fun H Hs σ E Q q => h H Hs σ E _ fun v H1 Hs1 g1 p1 =>
    ⟨v, .ty T, _, _, p, rfl, .ty T, tyX_of g1.sub p1, kit_ty hr, q _ H1 Hs1 g1 (.bl _)⟩
/-! ### methods of texts -/
def MtD (K : PySem.W.Frag) (rr : V → List V → Hp → VK → Prop) (y : Str) (as : List PyData) (d : PyData) : Prop := ∀ H Hs xs, (∀ a o, Hs a = some o → H a = some o) → DqAll K Hs xs as → ∀ Q : VK, (∀ v H' Hs', Gr H Hs H' Hs' → Dq K Hs' v d → Q v H') → rr (.str y) xs H Q
/-- what the rule of a method asks of its place in the text -/
abbrev Mb (X : Cx) (o : Expr) (name : Str) : Prop := attributeBase o name X.env (eval o X.env) = eval o X.env
abbrev Mf (X : Cx) (cpos : Pos) (e : Expr) (es : List Expr) : Prop := ((backTo cpos (starEach (e :: es) X.env)).all (fun x => !x.1) && (backToKw cpos (keywordEach [] X.env)).all (fun x => x.1.isSome)
      && decide ((e :: es).length + ([] : List Keyword).length + (if ([] : List Keyword).isEmpty then 0 else 1) < 30)) = true
variable {o : Expr} {ap : Pos} {name : Str} {id : String} {rr : V → List V → Hp → VK → Prop}
theorem xp_m0 (slot : Slot "str" name id) (hty : typeOf (.builtin id) = pure (.type "method_descriptor")) (hm : MtR X id rr) (hb : Mb X o name) (hl : (ap.endLine == pos.line) = true) (ho : Xp X B Γ o (.str y)) (hr : MtD X.K rr y [] d) : Xp X B Γ (.Call (.Attribute o name ap) [] [] pos) d :=
  xp_of (pe_bm0 PySem.F.plainAttrs_str slot hty hm pe_u hb hl) fun H Hs σ E Q q => ho H Hs σ E _ fun v H1 Hs1 g1 p1 => by
    cases p1
    exact ⟨rfl, hr H1 Hs1 [] g1.sub .nil Q fun w H2 Hs2 g2 p2 => q w H2 Hs2 (g1.trans g2) p2⟩
theorem xp_m {as : List PyData} (slot : Slot "str" name id) (hty : typeOf (.builtin id) = pure (.type "method_descriptor")) (hm : MtR X id rr) (hb : Mb X o name) (hf : Mf X pos e es) (hl : (ap.endLine == pos.line) = true) (he : St1 X e es) (hp : Pl1 X pos es) (ho : Xp X B Γ o (.str y)) (ha : Xa X B Γ (e :: es) as) (hr : MtD X.K rr y as d) : Xp X B Γ (.Call (.Attribute o name ap) (e :: es) [] pos) d :=
  xp_of (pe_bm PySem.F.plainAttrs_str slot hty hm pe_u pa_u hb hf hl he hp) fun H Hs σ E Q q => ho H Hs σ E _ fun v H1 Hs1 g1 p1 => by
    cases p1
    exact ⟨rfl, ha H1 Hs1 σ (E.grow g1) _ fun vs H2 Hs2 g2 p2 => hr H2 Hs2 vs g2.sub p2 Q fun w H3 Hs3 g3 p3 => q w H3 Hs3 ((g1.trans g2).trans g3) p3⟩
theorem xl_m {as : List PyData} (slot : Slot "str" name id) (hty : typeOf (.builtin id) = pure (.type "method_descriptor")) (hm : MtR X id rr) (hb : Mb X o name) (hf : Mf X pos e es) (hl : (ap.endLine == pos.line) = true) (he : St1 X e es) (hp : Pl1 X pos es) (ho : Xp X B Γ o (.str y)) (ha : Xa X B Γ (e :: es) as)
    (hr : ∀ H Hs xs, (∀ a o, Hs a = some o → H a = some o) → DqAll X.K Hs xs as → ∀ Q : VK, (∀ p zs, H p = none → DqAll X.K Hs zs ds → Q (.ref p) (upd H p (.lst zs))) → rr (.str y) xs H Q) : Xl X B Γ (.Call (.Attribute o name ap) (e :: es) [] pos) ds :=
  xl_of (pe_bm PySem.F.plainAttrs_str slot hty hm pe_u pa_u hb hf hl he hp) fun H Hs σ E Q q => ho H Hs σ E _ fun v H1 Hs1 g1 p1 => by
    cases p1
    exact ⟨rfl, ha H1 Hs1 σ (E.grow g1) _ fun vs H2 Hs2 g2 p2 => hr H2 Hs2 vs g2.sub p2 Q fun p zs n a => dl_new (g1.trans g2) q n a⟩
theorem xp_partition (hb : Mb X o "partition") (hf : Mf X pos e []) (hl : (ap.endLine == pos.line) = true) (he : St1 X e []) (hp : Pl1 X pos []) (ho : Xp X B Γ o (.str y)) (ha : Xp X B Γ e (.str z)) (h1 : (z.length == 0) = false) (h2 : y.length ≤ sizeLine) :
    Xp X B Γ (.Call (.Attribute o "partition" ap) [e] [] pos) (.tuple [.str (Txt.partition y z).1, .str (Txt.partition y z).2.1, .str (Txt.partition y z).2.2]) :=
  xp_m PySem.F.slot_str_partition PySem.F.type_str_partition mt_partition hb hf hl he hp ho (xa_cons he ha xa_nil) fun H Hs xs s a Q q => by
    cases a with
    | cons a1 a2 =>
      cases a2; cases a1
      exact ⟨y, z, rfl, rfl, h1, h2, fun p n => q _ _ _ ((Gr.refl s).share n) (.tup (SqT.of upd_same) (.cons (.str _) (.cons (.str _) (.cons (.str _) .nil))))⟩
theorem xl_split (hb : Mb X o "split") (hf : Mf X pos e []) (hl : (ap.endLine == pos.line) = true) (he : St1 X e []) (hp : Pl1 X pos []) (ho : Xp X B Γ o (.str y)) (ha : Xp X B Γ e (.str z)) (h1 : (z.length == 0) = false) (h2 : y.length + 2 ≤ sizeLine) :
    Xl X B Γ (.Call (.Attribute o "split" ap) [e] [] pos) ((Txt.split y z).map .str) :=
  xl_m PySem.F.slot_str_split PySem.F.type_str_split mt_split hb hf hl he hp ho (xa_cons he ha xa_nil) fun H Hs xs s a Q q => by
    cases a with
    | cons a1 a2 =>
      cases a2; cases a1
      exact ⟨y, z, rfl, rfl, h1, h2, fun p n => q p _ n (.strs _)⟩
theorem xp_join {ys : List Str} (hb : Mb X o "join") (hf : Mf X pos e []) (hl : (ap.endLine == pos.line) = true) (he : St1 X e []) (hp : Pl1 X pos []) (ho : Xp X B Γ o (.str y)) (ha : Xp X B Γ e (.list (ys.map .str))) (hz : (ys.map (·.length)).sum + ys.length * y.length ≤ 16777216) :
    Xp X B Γ (.Call (.Attribute o "join" ap) [e] [] pos) (.str (Txt.join y ys)) :=
  xp_m PySem.F.slot_str_join PySem.F.type_str_join mt_join hb hf hl he hp ho (xa_cons he ha xa_nil) fun H Hs xs s a Q q => by
    cases a with
    | cons a1 a2 =>
      cases a2
      cases a1 with
      | lst hq ha =>
        have e1 := ha.strs_inv
        subst e1
        exact ⟨y, _, ys, rfl, rfl, .inl (sub_l s hq), hz, q _ H Hs (Gr.refl s) (.str _)⟩
theorem xp_isdigit (hb : Mb X o "isdigit") (hl : (ap.endLine == pos.line) = true) (ho : Xp X B Γ o (.str y)) : Xp X B Γ (.Call (.Attribute o "isdigit" ap) [] [] pos) (.bool (Txt.isdigit y)) :=
  xp_m0 PySem.F.slot_str_isdigit PySem.F.type_str_isdigit mt_isdigit hb hl ho fun H Hs xs s a Q q => by
    cases a
    exact ⟨y, rfl, rfl, trivial, q _ H Hs (Gr.refl s) (.bl _)⟩
theorem xp_isascii (hb : Mb X o "isascii") (hl : (ap.endLine == pos.line) = true) (ho : Xp X B Γ o (.str y)) : Xp X B Γ (.Call (.Attribute o "isascii" ap) [] [] pos) (.bool (Txt.isascii y)) :=
  xp_m0 PySem.F.slot_str_isascii PySem.F.type_str_isascii mt_isascii hb hl ho fun H Hs xs s a Q q => by
    cases a
    exact ⟨y, rfl, rfl, trivial, q _ H Hs (Gr.refl s) (.bl _)⟩
theorem xp_upper (hb : Mb X o "upper") (hl : (ap.endLine == pos.line) = true) (ho : Xp X B Γ o (.str y)) (hz : y.length ≤ 5592405) : Xp X B Γ (.Call (.Attribute o "upper" ap) [] [] pos) (.str (Txt.upper y)) :=
  xp_m0 PySem.F.slot_str_upper PySem.F.type_str_upper mt_upper hb hl ho fun H Hs xs s a Q q => by
    cases a
    exact ⟨y, rfl, rfl, hz, q _ H Hs (Gr.refl s) (.str _)⟩
/-! ### own defs -/
theorem xp_call {R : List PyData → PyData → Prop} (hg : Gl X x) (c : Ce X x R) (he : St1 X e es) (hp : Pl1 X pos es) (ha : Xa X B Γ (e :: es) ds) (hr : R ds d) : Xp X B Γ (.Call (.Name x p') (e :: es) [] pos) d := by
  obtain ⟨k, f, fd, ps, hm, F, kp, bi, hr'⟩ := c.ex
  exact xp_of (pe_call F hr' hg hm kp bi .nil (E := E0) pass0 pa_u c.db he hp) (de_call ha hr)
theorem xp_call0 {R : List PyData → PyData → Prop} (hg : Gl X x) (c : Ce X x R) (hr : R [] d) : Xp X B Γ (.Call (.Name x p') [] [] pos) d := by
  obtain ⟨k, f, fd, ps, hm, F, kp, bi, hr'⟩ := c.ex
  exact xp_of (pe_call0 F hr' hg hm kp bi .nil (E := E0) pass0 c.db) (de_call da_nil hr)
/-! ### statements -/
theorem xb_nil (h : P (.nx Γ)) : Xb X B Γ [] P := xb_of pss_nil (ds_next h)
theorem xb_cons (h : Xs X B Γ st fun o => match o with | .nx Γ' => Xb X B Γ' ss P | o => P o) : Xb X B Γ (st :: ss) P := xb_of (pss_cons ps_u pb_u) (ds_seq (ds_imp h fun o ho => by cases o <;> exact ho))
theorem xs_set {p2 : Pos} (k : Lk X i x) (hs : swapsWith e (some (.Name x p2)) pos.line X.env = pure false) (h : Xp X B Γ e d) (hP : P (.nx (Γ.set i (.sh d)))) : Xs X B Γ (.Assign [.Name x p2] e pos) P := xs_of (ps_set k.nd k.ix k.loc pe_u hs k.fn) (ds_asg h hP)
theorem xs_setO {p2 : Pos} (k : Lk X i x) (hs : swapsWith e (some (.Name x p2)) pos.line X.env = pure false) (h : Xl X B Γ e ds) (hP : P (.nx (Γ.set i (.ow ds)))) : Xs X B Γ (.Assign [.Name x p2] e pos) P := xs_of (ps_set k.nd k.ix k.loc pe_u hs k.fn) (ds_asgO h hP)
theorem xs_ret (h : Xp X B Γ e d) (hP : P (.rt d)) : Xs X B Γ (.Return (some e) pos) P := xs_of (ps_ret pe_u) (ds_ret h hP)
theorem xs_retN (hP : P (.rt .none)) : Xs X B Γ (.Return none pos) P := xs_of ps_retN (ds_retN hP)
theorem xs_if {ss2 : List Stmt} (h : Xt X B Γ c p) (h1 : p = true → Xb X B Γ ss P) (h2 : p = false → Xb X B Γ ss2 P) : Xs X B Γ (.If c ss ss2 pos) P := xs_of (ps_if pt_u pb_u pb_u) (ds_if h h1 h2)
theorem xs_pass (hP : P (.nx Γ)) : Xs X B Γ (.Pass pos) P := xs_of ps_pass (ds_next hP)
theorem xs_brk (hP : P (.bk Γ)) : Xs X B Γ (.Break pos) P := xs_of ps_break (ds_brk hP)
theorem xs_cont (hP : P (.ct Γ)) : Xs X B Γ (.Continue pos) P := xs_of ps_continue (ds_cont hP)
theorem xs_free {st : Stmt} (hi : Γ[i]? = some (.ow ds)) (h : Xs X B (Γ.set i (.sh (.list ds))) st P) : Xs X B Γ st P := ds_free hi h
theorem xb_free (hi : Γ[i]? = some (.ow ds)) (h : Xb X B (Γ.set i (.sh (.list ds))) ss P) : Xb X B Γ ss P := ds_free hi h
theorem xs_app {p2 : Pos} (k : Rk X i x) (hs : swapsWith (.Call (.Attribute (.Name x p2) "append" ap) [e] [] p') none pos.line X.env = pure false) (hb : Mb X (.Name x p2) "append") (hf : Mf X p' e []) (hl : (ap.endLine == p'.line) = true) (he : St1 X e []) (hp : Pl1 X p' [])
    (hi : Γ[i]? = some (.ow ds)) (h : Xp X B Γ e d) (hz : ds.length < sizeLine) (hP : P (.nx (Γ.set i (.ow (ds ++ [d]))))) : Xs X B Γ (.Expr (.Call (.Attribute (.Name x p2) "append" ap) [e] [] p') pos) P :=
  xs_of (ps_expr (pe_bm PySem.F.plainAttrs_list PySem.F.slot_list_append PySem.F.type_list_append mt_append (pe_var k.ix k.vis k.d1 k.d2) (pa_cons pe_u pa_nil he) hb hf hl he hp) hs) (ds_app hi h hz hP)
/-- targets -/
def uG (X : Cx) (tg : Expr) : TG := fun v σ H Q => ∃ t, PG X tg t ∧ t v σ H Q
theorem pg_u {tg : Expr} : PG X tg (uG X tg) := ⟨fun pins s σ H v u Q I r ⟨_, p, h⟩ => p.run pins s σ H v u Q I r h⟩
def Xg (X : Cx) (tg : Expr) (js : List Nat) (d : PyData) (Γ Γ' : Gm) : Prop := DG X.K (uG X tg) js d Γ Γ'
theorem xg_of {tg : Expr} {t : TG} {js : List Nat} {Γ' : Gm} (h : PG X tg t) (k : DG X.K t js d Γ Γ') : Xg X tg js d Γ Γ' := fun B H Hs σ v E p Q q => ⟨t, h, k B H Hs σ v E p Q q⟩
theorem xg_name {p2 : Pos} (k : Lk X i x) : Xg X (.Name x p2) [i] d Γ (Γ.set i (.sh d)) := xg_of (pg_name k.nd k.ix k.loc k.fn) dg_name
def uGs (X : Cx) (tg : List Expr) : TGs := fun v σ H Q => ∃ t, PGs X tg t ∧ t v σ H Q
theorem pgs_u {tg : List Expr} : PGs X tg (uGs X tg) := ⟨fun pins s σ H v u Q I r ⟨_, p, h⟩ => p.run pins s σ H v u Q I r h⟩
def Xgs (X : Cx) (tg : List Expr) (js : List Nat) (ds : List PyData) (Γ Γ' : Gm) : Prop := DGs X.K (uGs X tg) js ds Γ Γ'
theorem xgs_nil : Xgs X [] [] [] Γ Γ := fun B H Hs σ v E p Q q => ⟨_, pgs_nil, dgs_nil B H Hs σ v E p Q q⟩
end
end Dl
set_option Elab.async false
set_option linter.all false
set_option maxRecDepth 100000
set_option maxHeartbeats 2000000
namespace Dl
open PySem L2 PyProof.Rows
section
variable {X : Cx} {B : Bs} {Γ : Gm} {e a b c : Expr} {es : List Expr} {s st : Stmt} {ss rest : List Stmt} {d d1 d2 : PyData} {ds : List PyData} {P : Out → Prop} {pos p' : Pos} {x : Str} {i : Nat} {p q r : Bool} {m n : Int} {y z : Str}
/-! ### targets -/
theorem xgs_cons {tg : Expr} {tgs : List Expr} {js ks : List Nat} {Γ1 Γ2 : Gm} (hs : (assignEach (tg :: tgs) X.env).map (·.2) = assign tg X.env :: (assignEach tgs X.env).map (·.2)) (h : Xg X tg js d Γ Γ1) (hr : Xgs X tgs ks ds Γ1 Γ2) : Xgs X (tg :: tgs) (js ++ ks) (d :: ds) Γ Γ2 :=
  fun B H Hs σ v E p Q q => ⟨_, pgs_cons pg_u pgs_u hs, dgs_cons h hr B H Hs σ v E p Q q⟩
theorem xg_tup {tgs : List Expr} {kk n : Nat} {js : List Nat} {Γ1 : Gm} (hc : X.calm = true) (hn : (assignEach tgs X.env).length = n) (hst : (assignEach tgs X.env).findIdx? (·.1) = none) (hl : ds.length = n) (h : Xgs X tgs js ds Γ Γ1) : Xg X (.Tuple tgs kk pos) js (.tuple ds) Γ Γ1 :=
  xg_of (pg_tup hc pgs_u hn hst) (dg_tup h hl)
theorem xg_unl {tgs : List Expr} {kk n : Nat} {js : List Nat} {Γ1 : Gm} (hc : X.calm = true) (hn : (assignEach tgs X.env).length = n) (hst : (assignEach tgs X.env).findIdx? (·.1) = none) (hl : ds.length = n) (h : Xgs X tgs js ds Γ Γ1) : Xg X (.Tuple tgs kk pos) js (.list ds) Γ Γ1 :=
  xg_of (pg_unl hc pgs_u hn hst) fun B H Hs σ v E p Q q => by
    cases p with
    | lst hq ha => exact ⟨_, _, rfl, sub_l E.sub hq, by rw [ha.length]; exact hl, h B H Hs σ _ E ha Q q⟩
theorem xs_asg {tg : Expr} {js : List Nat} {Γ1 : Gm} (hs : swapsWithSole [tg] e pos.line X.env = pure false) (hw : swappedStores [tg] e X.env = pure none) (h1 : (assignEach [tg] X.env).map (·.2) = [assign tg X.env]) (h : Xp X B Γ e d) (hg : Xg X tg js d Γ Γ1) (hP : P (.nx Γ1)) : Xs X B Γ (.Assign [tg] e pos) P :=
  xs_of (ps_asg pe_u pg_u hs hw h1) (ds_asgG h hg hP)
theorem xs_par {i j : Nat} {x y : Str} {a b : Expr} {px py pt : Pos} {kt k2 pt2} (hc : X.calm = true) (ki : Lk X i x) (kj : Lk X j y) (hij : i ≠ j) (hx : X.env.scope.names.lookup x = some .local) (hy : X.env.scope.names.lookup y = some .local)
    (hw : swappedStores [.Tuple [.Name x px, .Name y py] kt pt] (.Tuple [a, b] k2 pt2) X.env = pure (some [x, y])) (hs : swapsWithSole [.Tuple [.Name x px, .Name y py] kt pt] (.Tuple [a, b] k2 pt2) pos.line X.env = pure false)
    (ha : Xa X B Γ [a, b] [d1, d2]) (hP : P (.nx ((Γ.set i (.sh d1)).set j (.sh d2)))) : Xs X B Γ (.Assign [.Tuple [.Name x px, .Name y py] kt pt] (.Tuple [a, b] k2 pt2) pos) P :=
  xs_of (ps_par hc ki.nd ki.ix kj.ix hij hx hy pa_u hw hs) (ds_par ha hP)
theorem ds_aug {K : PySem.W.Frag} {i : Nat} {te : TE} {f : Int → Int → Int} (hi : Γ[i]? = some (.sh (.int m))) (h : DE K B te Γ (.int n)) (hP : P (.nx (Γ.set i (.sh (.int (f m n)))))) : DS K B (tAug i te (ipI f)) Γ P := fun D H Hs σ E q => by
  obtain ⟨v, e, p⟩ := E.sh hi
  cases p
  refine ⟨_, e, h H Hs σ E _ fun u H1 Hs1 g1 p1 => ?_⟩
  cases p1
  exact ⟨m, n, rfl, rfl, q _ hP H1 Hs1 _ ((E.grow g1).setSh i (.int _))⟩
theorem xs_augA {p2 : Pos} (k : Lk X i x) (hi : Γ[i]? = some (.sh (.int m))) (h : Xp X B Γ e (.int n)) (hP : P (.nx (Γ.set i (.sh (.int (m + n)))))) : Xs X B Γ (.AugAssign (.Name x p2) .Add e pos) P := xs_of (ps_aug k.nd k.ix k.loc pe_u ip_add k.fn) (ds_aug hi h hP)
theorem xs_augS {p2 : Pos} (k : Lk X i x) (hi : Γ[i]? = some (.sh (.int m))) (h : Xp X B Γ e (.int n)) (hP : P (.nx (Γ.set i (.sh (.int (m - n)))))) : Xs X B Γ (.AugAssign (.Name x p2) .Sub e pos) P := xs_of (ps_aug k.nd k.ix k.loc pe_u ip_sub k.fn) (ds_aug hi h hP)
/-! ### what is walked -/
theorem xi_list {tg : Expr} (h : Xp X B Γ e (.list ds)) : Xi X B Γ tg e ds := xi_of (pi_list pe_u) (di_list h)
theorem xi_tup {tg : Expr} (h : Xp X B Γ e (.tuple ds)) : Xi X B Γ tg e ds := xi_of (pi_tup pe_u) (di_tup h)
theorem xi_str {tg : Expr} (h : Xp X B Γ e (.str y)) : Xi X B Γ tg e (signsD y) := xi_of (pi_str pe_u) (di_str h)
theorem xi_rng1 {tg : Expr} (hb : Bi X "range") (he : St1 X e []) (h : Xp X B Γ e (.int n)) (hn : -(2 ^ 62) ≤ n ∧ n < 2 ^ 62) : Xi X B Γ tg (.Call (.Name "range" p') [e] [] pos) (rangeD 0 n.toNat) := xi_of (pi_range1 hb.gl hb.no pa_u he) (di_rng1 (xa_cons he h xa_nil) hn)
theorem xi_rng2 {tg : Expr} (hb : Bi X "range") (he : starEach [e, a] X.env = [(false, eval e X.env), (false, eval a X.env)]) (he1 : St1 X e [a]) (he2 : St1 X a []) (h : Xp X B Γ e (.int m)) (h2 : Xp X B Γ a (.int n)) (hm : -(2 ^ 62) ≤ m ∧ m < 2 ^ 62) (hn : -(2 ^ 62) ≤ n ∧ n < 2 ^ 62) : Xi X B Γ tg (.Call (.Name "range" p') [e, a] [] pos) (rangeD m (n - m).toNat) :=
  xi_of (pi_range2 hb.gl hb.no pa_u he he2) (di_rng2 (xa_cons he1 h (xa_cons he2 h2 xa_nil)) hm hn)
theorem xi_enum {tgs : List Expr} {kk : Nat} {p3 : Pos} (hb : Bi X "enumerate") (he : starEach [e] X.env = [(false, eval e X.env)]) (he1 : St1 X e []) (h : Xp X B Γ e (.list ds)) : Xi X B Γ (.Tuple tgs kk p3) (.Call (.Name "enumerate" p') [e] [] pos) (enumD 0 ds) := xi_of (pi_enum hb.gl hb.no pa_u he) (di_enum (xa_cons he1 h xa_nil))
/-! ### loops -/
theorem xs_for {tg iter : Expr} {body : List Stmt} (hp : PassesOwn (model X.prog X.w) X.A X.env X.xe) (hc : X.calm = true) (hs : ∀ x, foldedSetIterable iter X.env x = pure x) (h : Xi X B Γ tg iter ds) (I : Nat → Gm → Prop) (h0 : I 0 Γ)
    (hb : ∀ B' k d Γ', ds[k]? = some d → I k Γ' → ∃ js Γ2, Xg X tg js d Γ' Γ2 ∧ Xb X B' Γ2 body (turnS I k P)) (hd : ∀ Γ', I ds.length Γ' → P (.nx Γ')) : Xs X B Γ (.For tg iter body [] pos) P :=
  xs_of (ps_for hp hc pi_u pg_u pb_u hs) (ds_for h I h0 hb hd)
/-- what a while's turn leaves -/
def whS (I : Nat → Gm → Prop) (m : Nat) (P : Out → Prop) : Out → Prop
  | .nx Γ => ∃ m', m' < m ∧ I m' Γ
  | .ct Γ => ∃ m', m' < m ∧ I m' Γ
  | .bk Γ => P (.nx Γ)
  | .rt v => P (.rt v)
theorem xs_while {body : List Stmt} (hp : PassesOwn (model X.prog X.w) X.A X.env X.xe) (I : Nat → Gm → Prop) (m0 : Nat) (h0 : I m0 Γ)
    (hs : ∀ m Γ', I m Γ' → ∃ b, Xt X B Γ' c b ∧ (b = true → Xb X B Γ' body (whS I m P)) ∧ (b = false → P (.nx Γ'))) : Xs X B Γ (.While c body [] pos) P :=
  xs_of (ps_while hp pt_u pb_u) (ds_while I m0 h0 fun m Γ' hI => by
    obtain ⟨b, h1, h2, h3⟩ := hs m Γ' hI
    exact ⟨b, h1, fun hb => ds_imp (h2 hb) fun o ho => by cases o <;> exact ho, h3⟩)
/-! ### comprehensions -/
def uQ (X : Cx) (ifs : List Expr) : TT := fun σ H Q => ∃ t, PTs X ifs t ∧ t σ H Q
theorem pq_u {ifs : List Expr} : PTs X ifs (uQ X ifs) := ⟨fun pins s σ H Q I ⟨_, p, h⟩ => p.run pins s σ H Q I h⟩
def Xq (X : Cx) (B : Bs) (Γ : Gm) (ifs : List Expr) (b : Bool) : Prop := DT X.K B (uQ X ifs) Γ b
theorem xq_nil : Xq X B Γ [] true := fun H Hs σ E Q q => ⟨_, pts_nil, q H Hs (Gr.refl E.sub)⟩
theorem xq_one (h : Xt X B Γ c p) : Xq X B Γ [c] p := fun H Hs σ E Q q => ⟨_, pts_one pt_u, h H Hs σ E Q q⟩
/-- all blocks that such a comprehension may run in -/
def Blk (X : Cx) (scope : Scope) (X' : Cx) : Prop := ∃ s H C cl fp, X' = X.blk s H scope (compEnvC scope cl C X.env) fp
/-- the readings of a comprehension's block, and what they are worth -/
theorem lc_pieces {elt tg : Expr} {ifs : List Expr} {scope : Scope} {vs js : List Nat} (pr : PyData → Bool) (ev : PyData → PyData) (G2 : PyData → Gm)
    (hb : ∀ X', Blk X scope X' → ∀ B' d, d ∈ ds → Xg X' tg js d (wipeG Γ vs) (G2 d) ∧ Xq X' B' (G2 d) ifs (pr d) ∧ (pr d = true → Xp X' B' (G2 d) elt (ev d))) :
    ∃ (g : TG) (tt : TT) (te : TE), (∀ s H C cl fp, PG (X.blk s H scope (compEnvC scope cl C X.env) fp) tg g) ∧ (∀ s H C cl fp, PTs (X.blk s H scope (compEnvC scope cl C X.env) fp) ifs tt) ∧ (∀ s H C cl fp, PE (X.blk s H scope (compEnvC scope cl C X.env) fp) elt te) ∧
      ∀ wi, DI X.K B wi Γ ds → ds.length ≤ 1000000 → (∀ j ∈ js, j ∈ vs) → DL X.K B (tLc wi g tt te vs) Γ ((ds.filter pr).map ev) := by
  have bk : ∀ s H C cl fp, Blk X scope (X.blk s H scope (compEnvC scope cl C X.env) fp) := fun s H C cl fp => ⟨s, H, C, cl, fp, rfl⟩
  have hK : ∀ X', Blk X scope X' → X'.K = X.K := fun X' ⟨s, H, C, cl, fp, e⟩ => by rw [e]; all_goals rfl
  refine ⟨fun v σ H Q => ∀ X', Blk X scope X' → uG X' tg v σ H Q, fun σ H Q => ∀ X', Blk X scope X' → uQ X' ifs σ H Q, fun σ H Q => ∀ X', Blk X scope X' → uE X' elt σ H Q, fun s H C cl fp => ⟨fun pins s' σ H' v u Q I r h => pg_u.run pins s' σ H' v u Q I r (h _ (bk s H C cl fp))⟩,
    fun s H C cl fp => ⟨fun pins s' σ H' Q I h => pq_u.run pins s' σ H' Q I (h _ (bk s H C cl fp))⟩, fun s H C cl fp => ⟨fun pins s' σ H' Q I h => pe_u.run pins s' σ H' Q I (h _ (bk s H C cl fp))⟩, fun wi hi hz hv => dl_lc (js := js) hi pr ev hz hv fun B' d hd => ⟨G2 d, ?_, ?_, fun hp => ?_⟩⟩
  · intro B1 H Hs σ v E p Q q X' hX
    have := (hb X' hX B' d hd).1
    unfold Xg at this
    rw [hK X' hX] at this
    exact this B1 H Hs σ v E p Q q
  · intro H Hs σ E Q q X' hX
    have := (hb X' hX B' d hd).2.1
    unfold Xq at this
    rw [hK X' hX] at this
    exact this H Hs σ E Q q
  · intro H Hs σ E Q q X' hX
    have := (hb X' hX B' d hd).2.2 hp
    unfold Xp at this
    rw [hK X' hX] at this
    exact this H Hs σ E Q q
theorem xl_lc {elt tg iter : Expr} {ifs : List Expr} {scope : Scope} {own : List (Str × Nat)} {js : List Nat} (pr : PyData → Bool) (ev : PyData → PyData) (G2 : PyData → Gm) (hc : X.calm = true) (hN : X.N.Nodup) (ok : BlkOk X.N X.env.scope scope own) (hs : ∀ x, foldedSetIterable iter X.env x = pure x)
    (hi : Xi X B Γ tg iter ds) (hz : ds.length ≤ 1000000) (hv : ∀ j ∈ js, j ∈ own.map (·.2))
    (hb : ∀ X', Blk X scope X' → ∀ B' d, d ∈ ds → Xg X' tg js d (wipeG Γ (own.map (·.2))) (G2 d) ∧ Xq X' B' (G2 d) ifs (pr d) ∧ (pr d = true → Xp X' B' (G2 d) elt (ev d))) : Xl X B Γ (.ListComp elt [⟨tg, iter, ifs, 0⟩] scope pos) ((ds.filter pr).map ev) := by
  obtain ⟨g, tt, te, h1, h2, h3, h4⟩ := lc_pieces (B := B) pr ev G2 hb
  exact xl_of (pe_lc (own := own) (g := g) (tt := tt) (te := te) hc hN pi_u ok h1 h2 h3 hs) (h4 _ hi hz hv)
/-- y = [..] on one line; y one's own list, or shared -/
theorem xs_setLc {elt tg iter : Expr} {ifs : List Expr} {scope : Scope} {own : List (Str × Nat)} {js : List Nat} {py spos : Pos} (sl : Bool) (pr : PyData → Bool) (ev : PyData → PyData) (G2 : PyData → Gm) (k : Lk X i x) (hyl : X.env.scope.names.lookup x = some .local) (hc : X.calm = true) (ok : BlkOk X.N X.env.scope scope own)
    (hsw : swapsWith (.ListComp elt [⟨tg, iter, ifs, 0⟩] scope pos) (some (.Name x py)) spos.line X.env = pure true) (hs : ∀ x, foldedSetIterable iter X.env x = pure x)
    (hi : Xi X B Γ tg iter ds) (hz : ds.length ≤ 1000000) (hv : ∀ j ∈ js, j ∈ own.map (·.2))
    (hb : ∀ X', Blk X scope X' → ∀ B' d, d ∈ ds → Xg X' tg js d (wipeG Γ (own.map (·.2))) (G2 d) ∧ Xq X' B' (G2 d) ifs (pr d) ∧ (pr d = true → Xp X' B' (G2 d) elt (ev d)))
    (hP : P (.nx (Γ.set i (if sl then .ow ((ds.filter pr).map ev) else .sh (.list ((ds.filter pr).map ev)))))) : Xs X B Γ (.Assign [.Name x py] (.ListComp elt [⟨tg, iter, ifs, 0⟩] scope pos) spos) P := by
  obtain ⟨g, tt, te, h1, h2, h3, h4⟩ := lc_pieces (B := B) pr ev G2 hb
  refine xs_of (ps_setLc (i := i) (own := own) (g := g) (tt := tt) (te := te) hc k.nd k.ix hyl hsw pi_u ok h1 h2 h3 hs) ?_
  cases sl with
  | true => exact ds_asgO (h4 _ hi hz hv) hP
  | false => exact ds_asg (de_of_dl (h4 _ hi hz hv)) hP
/-! ### f-strings -/
theorem dj_nil {K : PySem.W.Frag} {acc : Str} : ∀ H Hs σ, Enb K B H Hs σ Γ → ∀ Q : Str → Hp → Prop, (∀ H' Hs', Gr H Hs H' Hs' → Q acc H') → tJs [] acc σ H Q := fun H Hs σ E Q q => q H Hs (Gr.refl E.sub)
theorem dj_cons {K : PySem.W.Frag} {t : TE} {ts : List TE} {acc out : Str} (h : DE K B t Γ (.str y)) (hz : (acc ++ y).length ≤ sizeLine) (hr : ∀ H Hs σ, Enb K B H Hs σ Γ → ∀ Q : Str → Hp → Prop, (∀ H' Hs', Gr H Hs H' Hs' → Q out H') → tJs ts (acc ++ y) σ H Q) :
    ∀ H Hs σ, Enb K B H Hs σ Γ → ∀ Q : Str → Hp → Prop, (∀ H' Hs', Gr H Hs H' Hs' → Q out H') → tJs (t :: ts) acc σ H Q := fun H Hs σ E Q q => h H Hs σ E _ fun v H1 Hs1 g1 p1 => by
  cases p1
  exact ⟨y, rfl, hz, hr H1 Hs1 σ (E.grow g1) Q fun H2 Hs2 g2 => q H2 Hs2 (g1.trans g2)⟩
/-- a part: {e} of a text, of an int; a written text -/
theorem xp_fmtS (h : Xp X B Γ e (.str y)) (hz : y.length ≤ sizeLine) : Xp X B Γ (.FormattedValue e (-1) none pos) (.str y) := xp_of (pe_fmt pe_u) fun H Hs σ E Q q => h H Hs σ E _ fun v H1 Hs1 g1 p1 => by
  cases p1
  exact .inl ⟨y, rfl, hz, q _ H1 Hs1 g1 (.str _)⟩
theorem xp_fmtI (h : Xp X B Γ e (.int m)) (hz : m.natAbs.log2 < 1920) : Xp X B Γ (.FormattedValue e (-1) none pos) (.str (toString m)) := xp_of (pe_fmt pe_u) fun H Hs σ E Q q => h H Hs σ E _ fun v H1 Hs1 g1 p1 => by
  cases p1
  exact .inr ⟨m, rfl, hz, q _ H1 Hs1 g1 (.str _)⟩
def uJ (X : Cx) (es : List Expr) : List TE := es.map (uE X)
theorem pj_u : ∀ es : List Expr, PJ X es (uJ X es)
  | [] => .nil
  | e :: es => .cons pe_u (pj_u es)
def Xj (X : Cx) (B : Bs) (Γ : Gm) (es : List Expr) (acc out : Str) : Prop := ∀ H Hs σ, Enb X.K B H Hs σ Γ → ∀ Q : Str → Hp → Prop, (∀ H' Hs', Gr H Hs H' Hs' → Q out H') → tJs (uJ X es) acc σ H Q
theorem xj_nil {acc : Str} : Xj X B Γ [] acc acc := dj_nil
theorem xj_cons {acc out : Str} (h : Xp X B Γ e (.str y)) (hz : (acc ++ y).length ≤ sizeLine) (hr : Xj X B Γ es (acc ++ y) out) : Xj X B Γ (e :: es) acc out := dj_cons h hz hr
theorem xp_joined {e1 e2 : Expr} {out : Str} (h : Xj X B Γ (e1 :: e2 :: es) Str.empty out) : Xp X B Γ (.JoinedStr (e1 :: e2 :: es) pos) (.str out) := xp_of (pe_joined (pj_u _)) fun H Hs σ E Q q => h H Hs σ E _ fun H1 Hs1 g1 => q _ H1 Hs1 g1 (.str _)
end
/-! ### a def by its body -/
section
variable {P : Program} {w : World} {K : PySem.W.Frag} {mg : Str → Option Value} {base : Heap}
abbrev Xc (P : Program) (w : World) (K : PySem.W.Frag) (mg : Str → Option Value) (base : Heap) (N : List Str) (qual : Str) (st : Stmt) (f : Addr) (cdv : Value) (A : Around) (outer : List Env) (s : Shared) (H : Hp) (E : XK) : Cx := (cxOf CX0 P w K mg base N qual (defScope st) f cdv A outer s H E).nox
def startG (N : List Str) (ds : List PyData) : Gm := ds.map .sh ++ List.replicate (N.length - ds.length) .un
def RetP (d : PyData) : Out → Prop := fun o => o = .rt d ∨ (d = .none ∧ ∃ Γ, o = .nx Γ)
theorem en_start {N : List Str} {vs : List V} {ds : List PyData} {H Hs : Hp} (s : ∀ a o, Hs a = some o → H a = some o) (a : DqAll K Hs vs ds) : Enb K ⟨H, Hs, Hs⟩ H Hs (L2.start N vs) (startG N ds) := by
  refine ⟨Gr.refl s, Ext.refl _, ?_, fun i t o h1 h2 => ?_, fun i j ds' es l h1 h2 => ?_⟩
  · unfold L2.start startG
    rw [List.length_append, List.length_append, List.length_map, List.length_map, List.length_replicate, List.length_replicate, a.length]
  · unfold startG at h1
    unfold L2.start at h2
    by_cases hi : i < ds.length
    · rw [List.getElem?_append_left (by rw [List.length_map]; exact hi), List.getElem?_map, List.getElem?_eq_getElem hi] at h1
      rw [List.getElem?_append_left (by rw [List.length_map, a.length]; exact hi), List.getElem?_map] at h2
      obtain ⟨v, hv, pv⟩ := a.get (List.getElem?_eq_getElem hi)
      rw [hv] at h2
      cases h1
      cases h2
      exact ⟨v, rfl, pv⟩
    · rw [List.getElem?_append_right (by rw [List.length_map]; omega), List.getElem?_replicate] at h1
      split at h1
      · cases h1; trivial
      · cases h1
  · unfold startG at h1
    by_cases hi : i < ds.length
    · rw [List.getElem?_append_left (by rw [List.length_map]; exact hi), List.getElem?_map, List.getElem?_eq_getElem hi] at h1
      cases h1
    · rw [List.getElem?_append_right (by rw [List.length_map]; omega), List.getElem?_replicate] at h1
      split at h1 <;> cases h1
/-- THE RULE: a def keeps a relation of data -/
theorem fn_ok {x qual : Str} {st : Stmt} {f : Addr} {fd : FuncData} {N ps : List Str} {k : Nat} {R : List PyData → PyData → Prop} (F : Fun K x qual st f fd) (S : FnScope N ps (defScope st)) (len : ∀ ds d, R ds d → ds.length = ps.length)
    (body : ∀ (cdv : Value) (A : Around) (outer : List Env) (s : Shared) (H : Hp) (E : XK) (B : Bs) (ds : List PyData) (d : PyData), Room k (Xc P w K mg base N qual st f cdv A outer s H E).A → R ds d → Xb (Xc P w K mg base N qual st f cdv A outer s H E) B (startG N ds) (defBody st) (RetP d)) : FnOk P w K mg base CX0 (k + 1) f fd ps (spR K R) := by
  refine F.ok S (fun vs H Q E h => ?_) (fun cdv A outer s H vs Q E hr h => ?_)
  · obtain ⟨ds, d, Hs, _, a, hR, _⟩ := h
    rw [a.length]
    exact len ds d hR
  · obtain ⟨ds, d, Hs, hsub, a, hR, q⟩ := h
    refine ⟨_, pb_u, body cdv A outer s H E ⟨H, Hs, Hs⟩ ds d hr hR _ H Hs (L2.start N vs) (en_start hsub a) fun o ho => ?_⟩
    rcases ho with rfl | ⟨rfl, Γ, rfl⟩
    · exact fun v H' Hs' g p => q v H' Hs' g p
    · exact fun H' Hs' σ' E' => q .non H' Hs' E'.gr .non
/-! ### what a def's scope says, told at once -/
/-- N: the def's names, G: the names of the module that it asks -/
def scF (N G : List Str) (st : Stmt) : Bool := (N.all fun x => ((defScope st).names.lookup x == some .local || (defScope st).names.lookup x == some .cell) && !(x == ("__debug__" : Str)) && !(x == ("__classdict__" : Str))) && decide N.Nodup && (G.all fun x => (defScope st).names.lookup x == some .globalImplicit)
section
variable {N G : List Str} {st : Stmt} {qual : Str} {f : Addr} {cdv : Value} {A : Around} {outer : List Env} {s : Shared} {H : Hp} {E : XK} {i : Nat} {x : Str}
theorem scF_loc (h : scF N G st = true) (hi : N[i]? = some x) : Loc (defScope st) x ∧ (x == ("__debug__" : Str)) = false ∧ (x == ("__classdict__" : Str)) = false := by
  unfold scF at h
  simp only [Bool.and_eq_true, List.all_eq_true, Bool.or_eq_true, Bool.not_eq_true', beq_iff_eq] at h
  obtain ⟨⟨a, b⟩, c⟩ := h.1.1 x (List.mem_of_getElem? hi)
  exact ⟨a, by simpa using b, by simpa using c⟩
theorem rk_of (h : scF N G st = true) (hi : N[i]? = some x) : Rk (Xc P w K mg base N qual st f cdv A outer s H E) i x := by
  obtain ⟨a, b, c⟩ := scF_loc h hi
  refine ⟨hi, ?_, b, c⟩
  rcases a with a | a
  · exact .inl a
  · exact .inr (.inl a)
theorem lk_of (h : scF N G st = true) (hi : N[i]? = some x) : Lk (Xc P w K mg base N qual st f cdv A outer s H E) i x := by
  obtain ⟨a, b, c⟩ := scF_loc h hi
  unfold scF at h
  simp only [Bool.and_eq_true, decide_eq_true_eq] at h
  exact ⟨h.1.2, hi, a, .inl rfl⟩
theorem gl_of (h : scF N G st = true) (hx : x ∈ G) : Gl (Xc P w K mg base N qual st f cdv A outer s H E) x := by
  unfold scF at h
  simp only [Bool.and_eq_true, List.all_eq_true, beq_iff_eq] at h
  exact h.2 x hx
theorem bi_of (h : scF N G st = true) (hx : x ∈ G) (hm : mg x = none) : Bi (Xc P w K mg base N qual st f cdv A outer s H E) x := ⟨gl_of h hx, hm⟩
end
/-- the same where some names of N are no names of the def's own scope (a comprehension's) -/
def scF2 (N Nf G : List Str) (st : Stmt) : Bool := (Nf.all fun x => ((defScope st).names.lookup x == some .local || (defScope st).names.lookup x == some .cell) && !(x == ("__debug__" : Str)) && !(x == ("__classdict__" : Str))) && decide N.Nodup && (G.all fun x => (defScope st).names.lookup x == some .globalImplicit)
section
variable {N Nf G : List Str} {st : Stmt} {qual : Str} {f : Addr} {cdv : Value} {A : Around} {outer : List Env} {s : Shared} {H : Hp} {E : XK} {i : Nat} {x : Str}
theorem scF2_loc (h : scF2 N Nf G st = true) (hi : x ∈ Nf) : Loc (defScope st) x ∧ (x == ("__debug__" : Str)) = false ∧ (x == ("__classdict__" : Str)) = false := by
  unfold scF2 at h
  simp only [Bool.and_eq_true, List.all_eq_true, Bool.or_eq_true, Bool.not_eq_true', beq_iff_eq] at h
  obtain ⟨⟨a, b⟩, c⟩ := h.1.1 x hi
  exact ⟨a, by simpa using b, by simpa using c⟩
theorem rk_of2 (h : scF2 N Nf G st = true) (hi : N[i]? = some x) (hx : x ∈ Nf) : Rk (Xc P w K mg base N qual st f cdv A outer s H E) i x := by
  obtain ⟨a, b, c⟩ := scF2_loc h hx
  refine ⟨hi, ?_, b, c⟩
  rcases a with a | a
  · exact .inl a
  · exact .inr (.inl a)
theorem lk_of2 (h : scF2 N Nf G st = true) (hi : N[i]? = some x) (hx : x ∈ Nf) : Lk (Xc P w K mg base N qual st f cdv A outer s H E) i x := by
  obtain ⟨a, b, c⟩ := scF2_loc h hx
  unfold scF2 at h
  simp only [Bool.and_eq_true, decide_eq_true_eq] at h
  exact ⟨h.1.2, hi, a, .inl rfl⟩
theorem gl_of2 (h : scF2 N Nf G st = true) (hx : x ∈ G) : Gl (Xc P w K mg base N qual st f cdv A outer s H E) x := by
  unfold scF2 at h
  simp only [Bool.and_eq_true, List.all_eq_true, beq_iff_eq] at h
  exact h.2 x hx
end
/-- a module's constant, by the module's names -/
structure CnM (K : PySem.W.Frag) (mg : Str → Option Value) (x : Str) (d : PyData) : Prop where
  ex : ∃ u v, mg x = some u ∧ RelV v u ∧ ∀ H, Dq K H v d
  db : (x == ("__debug__" : Str)) = false
theorem CnM.at {X : Cx} {x : Str} {d : PyData} (h : CnM X.K X.mg x d) : Cn X x d := ⟨h.ex, h.db⟩
/-- a def of the module by its promise -/
structure Dn (P : Program) (w : World) (K : PySem.W.Frag) (mg : Str → Option Value) (base : Heap) (k : Nat) (x : Str) (R : List PyData → PyData → Prop) : Prop where
  ex : ∃ (f : Addr) (fd : FuncData) (ps : List Str), mg x = some (.ref f) ∧ FnOk P w K mg base CX0 k f fd ps (spR K R) ∧ PySem.W.keepIn K (.ref f) = true ∧ Binds K fd ps []
theorem ce_of {N : List Str} {st : Stmt} {qual : Str} {f : Addr} {cdv : Value} {A : Around} {outer : List Env} {s : Shared} {H : Hp} {E : XK} {x : Str} {R : List PyData → PyData → Prop} {k j : Nat} (D : Dn P w K mg base k x R) (hr : Room j (Xc P w K mg base N qual st f cdv A outer s H E).A) (hk : k ≤ j) (hd : (x == ("__debug__" : Str)) = false) :
    Ce (Xc P w K mg base N qual st f cdv A outer s H E) x R := by
  obtain ⟨g, fd, ps, h1, h2, h3, h4⟩ := D.ex
  exact ⟨⟨k, g, fd, ps, h1, h2, h3, h4, hr.mono hk⟩, hd⟩
theorem dn_of {x qual : Str} {st : Stmt} {f : Addr} {fd : FuncData} {ps : List Str} {k : Nat} {R : List PyData → PyData → Prop} (F : Fun K x qual st f fd) (hm : mg x = some (.ref f)) (hb : Binds K fd ps []) (h : FnOk P w K mg base CX0 k f fd ps (spR K R)) : Dn P w K mg base k x R := ⟨f, fd, ps, hm, h, F.kp, hb⟩
end
end Dl
set_option Elab.async false
set_option linter.all false
set_option maxRecDepth 100000
set_option maxHeartbeats 2000000
namespace Dl
open PySem L2 PyProof.Rows
inductive TyN where
  | int | str | bool | tuple | list | dict
def TyN.name : TyN → String
  | .int => "int"
  | .str => "str"
  | .bool => "bool"
  | .tuple => "tuple"
  | .list => "list"
  | .dict => "dict"
def isiD : PyData → TyN → Bool
  | .bool _, .bool => true
  | .bool _, .int => true
  | .int _, .int => true
  | .str _, .str => true
  | .tuple _, .tuple => true
  | .list _, .list => true
  | .dict _, .dict => true
  | _, _ => false
theorem isi_ok (d : PyData) (T : TyN) : kitB (tyD d) T.name = some (isiD d T) := by
  cases d <;> cases T <;> (simp only [tyD, TyN.name, isiD]; decide +kernel)
/-- what computing shows -/
structure Tt (p : Prop) : Prop where
  h : p
/-- the slots told anew -/
structure Sg (a b : Gm) : Prop where
  h : a = b
/-- what is left to the prover -/
structure Side (p : Prop) : Prop where
  h : p
inductive AddD : PyData → PyData → PyData → Prop where
  | int {m : Int} {n : Int} : AddD (.int m) (.int n) (.int (m + n))
  | str {y : Str} {z : Str} (hz : Side (y.length + z.length ≤ sizeLine)) : AddD (.str y) (.str z) (.str (y ++ z))
  | lst {es1 : List PyData} {es2 : List PyData} (hz : Side (es1.length + es2.length ≤ sizeLine)) : AddD (.list es1) (.list es2) (.list (es1 ++ es2))
  | tup {es1 : List PyData} {es2 : List PyData} (hz : Side (es1.length + es2.length ≤ sizeLine)) : AddD (.tuple es1) (.tuple es2) (.tuple (es1 ++ es2))
inductive MulD : PyData → PyData → PyData → Prop where
  | int {m : Int} {n : Int} (hz : Side (CMulW m n)) : MulD (.int m) (.int n) (.int (m * n))
  | str {y : Str} {n : Int} (hz : Side (MulOk y n)) : MulD (.str y) (.int n) (.str (Txt.mul y n))
inductive FdivD : Int → Int → Int → Prop where
  | lit {m n : Int} (h : 0 < n ∧ n < 1073741824) : FdivD m n (m / n)
  | gen {m n : Int} (h : Side (CDivG m n)) : FdivD m n (m.fdiv n)
inductive EqD : PyData → PyData → Bool → Prop where
  | int {m : Int} {n : Int} : EqD (.int m) (.int n) (decide (m = n))
  | str {y : Str} {z : Str} : EqD (.str y) (.str z) (decide (y = z))
  | bl {p : Bool} {q : Bool} : EqD (.bool p) (.bool q) (decide (p = q))
  | dat {d1 : PyData} {d2 : PyData} (h1 : Side (SeqAt.shaped d1 = true)) (h2 : Side (SeqAt.shaped d2 = true)) : EqD d1 d2 (PyData.eqv d1 d2)
inductive InD : PyData → PyData → Bool → Prop where
  | lst {d : PyData} {ds : List PyData} (f : Tt (flatD d = true)) (g : Tt (ds.all flatD = true)) : InD d (.list ds) (inD d ds)
  | tup {d : PyData} {ds : List PyData} (f : Tt (flatD d = true)) (g : Tt (ds.all flatD = true)) : InD d (.tuple ds) (inD d ds)
  | sgn {z : Str} {k : Nat} : InD (.str ⟨#[k]⟩) (.str z) (decide (k ∈ z.cps.toList))
inductive IxD : PyData → PyData → PyData → Prop where
  | lst {d : PyData} {ds : List PyData} {i : Int} (h : Side (atI ds i = some d)) : IxD (.list ds) (.int i) d
  | tup {d : PyData} {ds : List PyData} {i : Int} (h : Side (atI ds i = some d)) : IxD (.tuple ds) (.int i) d
  | str {y : Str} {i : Int} {k : Nat} (hz : Side (y.length ≤ sizeLine)) (h : Side (atI y.cps.toList i = some k)) : IxD (.str y) (.int i) (.str ⟨#[k]⟩)
inductive SlD : PyData → Option Int → Option Int → PyData → Prop where
  | lst {ds : List PyData} {l h : Option Int} : SlD (.list ds) l h (.list (cutD ds l h))
  | str {y : Str} {l h : Option Int} (hz : Side (y.length ≤ sizeLine)) : SlD (.str y) l h (.str (cutS y l h))
inductive LenD : PyData → Int → Prop where
  | lst {ds : List PyData} : LenD (.list ds) ds.length
  | tup {ds : List PyData} : LenD (.tuple ds) ds.length
  | str {y : Str} (hz : Side (y.length ≤ sizeLine)) : LenD (.str y) y.length
inductive IntD : PyData → Int → Prop where
  | str {m : Int} {y : Str} (hn : Side (PySem.intText? y = some m)) (hz : Side (y.length ≤ 640)) : IntD (.str y) m
  | bl {p : Bool} : IntD (.bool p) (if p then 1 else 0)
inductive SortD : PyData → List PyData → Prop where
  | ofI {ds : List PyData} {ns ms : List Int} (hm : Side (ds = ns.map .int ∧ ns.length < 64 ∧ ms.Perm ns ∧ ms.Pairwise (· ≤ ·))) : SortD (.list ds) (ms.map .int)
inductive TruD : PyData → Bool → Prop where
  | bl {p : Bool} : TruD (.bool p) p
  | int {m : Int} : TruD (.int m) (m != 0)
  | non : TruD .none false
  | str {y : Str} (hz : Side (y.length ≤ sizeLine)) : TruD (.str y) ((y.length : Int) != 0)
  | lst {ds : List PyData} : TruD (.list ds) (!ds.isEmpty)
  | tup {ds : List PyData} : TruD (.tuple ds) (!ds.isEmpty)
inductive UnpD : PyData → List PyData → Prop where
  | tup {ds : List PyData} : UnpD (.tuple ds) ds
  | lst {ds : List PyData} : UnpD (.list ds) ds
inductive ItrD : PyData → List PyData → Prop where
  | lst {ds : List PyData} : ItrD (.list ds) ds
  | tup {ds : List PyData} : ItrD (.tuple ds) ds
  | str {y : Str} : ItrD (.str y) (signsD y)
inductive FmtD : PyData → Str → Prop where
  | str {y : Str} (hz : Side (y.length ≤ sizeLine)) : FmtD (.str y) y
  | int {m : Int} (hz : Side (m.natAbs.log2 < 1920)) : FmtD (.int m) (toString m)
section
variable {X : Cx} {B : Bs} {Γ : Gm} {e a b c o : Expr} {es : List Expr} {s st : Stmt} {ss rest : List Stmt} {d d1 d2 d3 : PyData} {ds es1 es2 : List PyData} {P : Out → Prop} {pos p' ap : Pos} {x : Str} {i : Nat} {p q r : Bool} {m n : Int} {y z : Str}
/-! ### rules by relations of data: no choice but by the text -/
theorem op_mulS : OpR X (binaryOp .Mult) (fun x y H Q => ∃ a k, x = .str a ∧ y = .int k ∧ MulOk a k ∧ Q (.str (Txt.mul a k)) H) := by
  intro pins s σ H x y v u Q I rx ry h
  obtain ⟨a, k, rfl, rfl, hk, q⟩ := h
  obtain ⟨t, rfl⟩ := rx
  obtain ⟨t', rfl⟩ := ry
  exact SB.mul hk fun t2 k2 => ⟨.str _, H, I.tok _, ⟨_, rfl⟩, q⟩
theorem xp_mulS (ha : Xp X B Γ a (.str y)) (hb : Xp X B Γ b (.int n)) (hk : MulOk y n) : Xp X B Γ (.BinOp a .Mult b pos) (.str (Txt.mul y n)) := xp_bin op_mulS (fun H Hs u v s hx hy Q q => by
  cases hx; cases hy
  exact ⟨y, n, rfl, rfl, hk, q _ H Hs (Gr.refl s) (.str _)⟩) ha hb
theorem xe_add (ha : Xp X B Γ a d1) (hb : Xp X B Γ b d2) (h : AddD d1 d2 d) : Xp X B Γ (.BinOp a .Add b pos) d := by
  cases h with
  | int => exact xp_add ha hb
  | str hz => exact xp_adds ha hb hz.h
  | lst hz => exact xp_l (xl_cat ha hb hz.h)
  | tup hz => exact xp_catT ha hb hz.h
theorem xe_sub (ha : Xp X B Γ a (.int m)) (hb : Xp X B Γ b (.int n)) : Xp X B Γ (.BinOp a .Sub b pos) (.int (m - n)) := xp_sub ha hb
theorem xe_mul (ha : Xp X B Γ a d1) (hb : Xp X B Γ b d2) (h : MulD d1 d2 d) : Xp X B Γ (.BinOp a .Mult b pos) d := by
  cases h with
  | int hz => exact xp_mul ha hb hz.h
  | str hz => exact xp_mulS ha hb hz.h
theorem xe_fdiv {k : Int} (ha : Xp X B Γ a (.int m)) (hb : Xp X B Γ b (.int n)) (hc : FdivD m n k) : Xp X B Γ (.BinOp a .FloorDiv b pos) (.int k) := by
  cases hc with
  | lit h => exact xp_bin op_fdiv (opd_I h fun _ => .int _) ha hb
  | gen h => exact xp_fdiv ha hb h.h
theorem xe_mod (ha : Xp X B Γ a (.int m)) (hb : Xp X B Γ b (.int n)) (hc : Side (0 < n)) : Xp X B Γ (.BinOp a .Mod b pos) (.int (m % n)) := xp_mod ha hb hc.h
theorem xe_pow (ha : Xp X B Γ a (.int m)) (hb : Xp X B Γ b (.int n)) (hc : Side (CPow m n)) : Xp X B Γ (.BinOp a .Pow b pos) (.int (m ^ n.toNat)) := xp_pow ha hb hc.h




/-- one comparison, as a value and as a test -/
def CmpOk (X : Cx) (op : CmpOp) (d1 d2 : PyData) (p : Bool) : Prop := ∃ rr : R2, OpR X (compareOp op) rr ∧ OpD X.K rr d1 d2 (.bool p)
theorem xe_cmp {op : CmpOp} (hm : Tt (behindInMarks op b = false)) (ha : Xp X B Γ a d1) (hb : Xp X B Γ b d2) (k : CmpOk X op d1 d2 p) : Xp X B Γ (.Compare a [op] [b] pos) (.bool p) := by
  obtain ⟨rr, ho, hr⟩ := k
  exact xp_cmp ho hr ha hb hm.h
theorem xte_cmp {op : CmpOp} (hm : Tt (behindInMarks op b = false)) (ha : Xp X B Γ a d1) (hb : Xp X B Γ b d2) (k : CmpOk X op d1 d2 p) : Xt X B Γ (.Compare a [op] [b] pos) p := by
  obtain ⟨rr, ho, hr⟩ := k
  exact xt_cmp ho hr ha hb hm.h
theorem ck_lt : CmpOk X .Lt (.int m) (.int n) (decide (m < n)) := ⟨_, op_lt, opd_I0 fun _ => .bl _⟩
theorem ck_le : CmpOk X .LtE (.int m) (.int n) (decide (m ≤ n)) := ⟨_, op_le, opd_I0 fun _ => .bl _⟩
theorem ck_gt : CmpOk X .Gt (.int m) (.int n) (decide (n < m)) := ⟨_, op_gt, opd_I0 fun _ => .bl _⟩
theorem ck_ge : CmpOk X .GtE (.int m) (.int n) (decide (n ≤ m)) := ⟨_, op_ge, opd_I0 fun _ => .bl _⟩
theorem ck_eqi : CmpOk X .Eq (.int m) (.int n) (decide (m = n)) := by
  rw [← dec_int]
  exact ⟨_, op_eq, opd_sc (f := fun x y => decide (x = y)) (fun _ _ _ _ h q => ⟨h, q⟩) rfl dq_int dq_int⟩
theorem ck_nei : CmpOk X .NotEq (.int m) (.int n) (!decide (m = n)) := by
  rw [← dec_int]
  exact ⟨_, op_ne, opd_sc (f := fun x y => !decide (x = y)) (fun _ _ _ _ h q => ⟨h, q⟩) rfl dq_int dq_int⟩
theorem ck_eqs : CmpOk X .Eq (.str y) (.str z) (decide (y = z)) := by
  rw [← dec_str]
  exact ⟨_, op_eq, opd_sc (f := fun x y => decide (x = y)) (fun _ _ _ _ h q => ⟨h, q⟩) rfl dq_str dq_str⟩
theorem ck_nes : CmpOk X .NotEq (.str y) (.str z) (!decide (y = z)) := by
  rw [← dec_str]
  exact ⟨_, op_ne, opd_sc (f := fun x y => !decide (x = y)) (fun _ _ _ _ h q => ⟨h, q⟩) rfl dq_str dq_str⟩
theorem ck_eqb : CmpOk X .Eq (.bool p) (.bool q) (decide (p = q)) := by
  rw [← dec_bl]
  exact ⟨_, op_eq, opd_sc (f := fun x y => decide (x = y)) (fun _ _ _ _ h q => ⟨h, q⟩) rfl dq_bl dq_bl⟩
theorem ck_neb : CmpOk X .NotEq (.bool p) (.bool q) (!decide (p = q)) := by
  rw [← dec_bl]
  exact ⟨_, op_ne, opd_sc (f := fun x y => !decide (x = y)) (fun _ _ _ _ h q => ⟨h, q⟩) rfl dq_bl dq_bl⟩
/-- room for a deep comparison -/
structure Rm (X : Cx) : Prop where
  h : X.A.units + 64 < cLine
theorem ck_eqd (hu : Rm X) (h1 : Side (SeqAt.shaped d1 = true)) (h2 : Side (SeqAt.shaped d2 = true)) : CmpOk X .Eq d1 d2 (PyData.eqv d1 d2) :=
  ⟨_, op_eqD hu.h, fun H Hs u v s hx hy Q q => ⟨d1, d2, (dp_sub s hx).plain (shaped_plain h1.h), (dp_sub s hy).plain (shaped_plain h2.h), h1.h, h2.h, q _ H Hs (Gr.refl s) (.bl _)⟩⟩
theorem ck_ned (hu : Rm X) (h1 : Side (SeqAt.shaped d1 = true)) (h2 : Side (SeqAt.shaped d2 = true)) : CmpOk X .NotEq d1 d2 (!PyData.eqv d1 d2) :=
  ⟨_, op_neD hu.h, fun H Hs u v s hx hy Q q => ⟨d1, d2, (dp_sub s hx).plain (shaped_plain h1.h), (dp_sub s hy).plain (shaped_plain h2.h), h1.h, h2.h, q _ H Hs (Gr.refl s) (.bl _)⟩⟩
theorem ck_isN : CmpOk X .Is d .none (isNone d) := ⟨_, op_isN, fun H Hs u v s hx hy Q q => by
  cases hy
  refine ⟨rfl, ?_⟩
  rw [isNone_v hx]
  exact q _ H Hs (Gr.refl s) (.bl _)⟩
theorem ck_notN : CmpOk X .IsNot d .none (!isNone d) := ⟨_, op_notN, fun H Hs u v s hx hy Q q => by
  cases hy
  refine ⟨rfl, ?_⟩
  rw [isNone_v hx]
  exact q _ H Hs (Gr.refl s) (.bl _)⟩
theorem ck_isB : CmpOk X .Is (.bool p) (.bool q) (decide (p = q)) := ⟨_, op_is_bl, fun H Hs u v s hx hy Q q => by
  cases hx; cases hy
  exact ⟨_, _, rfl, rfl, q _ H Hs (Gr.refl s) (.bl _)⟩⟩
theorem ck_notB : CmpOk X .IsNot (.bool p) (.bool q) (!decide (p = q)) := ⟨_, op_isnot_bl, fun H Hs u v s hx hy Q q => by
  cases hx; cases hy
  exact ⟨_, _, rfl, rfl, q _ H Hs (Gr.refl s) (.bl _)⟩⟩
theorem ck_inL (f : Tt (flatD d = true)) (g : Tt (ds.all flatD = true)) : CmpOk X .In d (.list ds) (inD d ds) := ⟨_, op_in_seq, opd_in (neg := false) f.h g.h (.inl rfl)⟩
theorem ck_inT (f : Tt (flatD d = true)) (g : Tt (ds.all flatD = true)) : CmpOk X .In d (.tuple ds) (inD d ds) := ⟨_, op_in_seq, opd_in (neg := false) f.h g.h (.inr rfl)⟩
theorem ck_ninL (f : Tt (flatD d = true)) (g : Tt (ds.all flatD = true)) : CmpOk X .NotIn d (.list ds) (!inD d ds) := ⟨_, op_notIn_seq, opd_in (neg := true) f.h g.h (.inl rfl)⟩
theorem ck_ninT (f : Tt (flatD d = true)) (g : Tt (ds.all flatD = true)) : CmpOk X .NotIn d (.tuple ds) (!inD d ds) := ⟨_, op_notIn_seq, opd_in (neg := true) f.h g.h (.inr rfl)⟩
theorem ck_inS {k : Nat} : CmpOk X .In (.str ⟨#[k]⟩) (.str z) (decide (k ∈ z.cps.toList)) := ⟨_, op_in_sign, fun H Hs u v s hx hy Q q => by
  cases hx; cases hy
  exact ⟨k, z, rfl, rfl, q _ H Hs (Gr.refl s) (.bl _)⟩⟩
theorem ck_ninS {k : Nat} : CmpOk X .NotIn (.str ⟨#[k]⟩) (.str z) (!decide (k ∈ z.cps.toList)) := ⟨_, op_notIn_sign, fun H Hs u v s hx hy Q q => by
  cases hx; cases hy
  exact ⟨k, z, rfl, rfl, q _ H Hs (Gr.refl s) (.bl _)⟩⟩
/-- a < b < c -/
theorem de_chain {K : PySem.W.Frag} {ta tb tc : TE} {rr rr' : R2} (ha : DE K B ta Γ d1) (hb : DE K B tb Γ d2) (hr : OpD K rr d1 d2 (.bool p)) (hc : DE K B tc Γ d3) (hr' : OpD K rr' d2 d3 (.bool q)) : DE K B (tChain rr rr' ta tb tc) Γ (.bool (p && q)) :=
  fun H Hs σ E Q q' => ha H Hs σ E _ fun v H1 Hs1 g1 p1 => hb H1 Hs1 σ (E.grow g1) _ fun u H2 Hs2 g2 p2 => hr H2 Hs2 v u g2.sub (p1.mono g2.exs) p2 _ fun w H3 Hs3 g3 p3 => by
    cases p3
    refine ⟨p, rfl, ?_⟩
    have E3 := ((E.grow g1).grow g2).grow g3
    cases p with
    | true =>
      show tc σ H3 _
      exact hc H3 Hs3 σ E3 _ fun z H4 Hs4 g4 p4 => hr' H4 Hs4 u z g4.sub ((p2.mono g3.exs).mono g4.exs) p4 _ fun y H5 Hs5 g5 p5 => q' y H5 Hs5 ((((g1.trans g2).trans g3).trans g4).trans g5) p5
    | false => exact q' _ H3 Hs3 ((g1.trans g2).trans g3) (.bl _)
theorem xe_chain {op op' : CmpOp} (hm : Tt (lastMarks [op, op'] [b, c] = false)) (ha : Xp X B Γ a d1) (hb : Xp X B Γ b d2) (k : CmpOk X op d1 d2 p) (hc : Xp X B Γ c d3) (k' : CmpOk X op' d2 d3 q) : Xp X B Γ (.Compare a [op, op'] [b, c] pos) (.bool (p && q)) := by
  obtain ⟨rr, ho, hr⟩ := k
  obtain ⟨rr', ho', hr'⟩ := k'
  exact xp_of (pe_chain ho ho' pe_u pe_u pe_u hm.h) (de_chain ha hb hr hc hr')
theorem xte_chain {op op' : CmpOp} (hm : Tt (lastMarks [op, op'] [b, c] = false)) (ha : Xp X B Γ a d1) (hb : Xp X B Γ b d2) (k : CmpOk X op d1 d2 p) (hc : Xp X B Γ c d3) (k' : CmpOk X op' d2 d3 q) : Xt X B Γ (.Compare a [op, op'] [b, c] pos) (p && q) := by
  obtain ⟨rr, ho, hr⟩ := k
  obtain ⟨rr', ho', hr'⟩ := k'
  exact xt_of (pt_chain ho ho' pe_u pe_u pe_u hm.h) (dt_B (de_chain ha hb hr hc hr'))
/-! ### arguments, displays, more -/
theorem xe_ix (hs : Tt (PlainIx b)) (ha : Xp X B Γ a d1) (hb : Xp X B Γ b d2) (h : IxD d1 d2 d) : Xp X B Γ (.Subscript a b pos) d := by
  cases h with
  | lst h => exact xp_ixL hs.h ha hb h.h
  | tup h => exact xp_ixT hs.h ha hb h.h
  | str hz h => exact xp_ixS hs.h ha hb hz.h h.h
theorem xe_sl {lo hi : Option Expr} {l h : Option Int} {p2 : Pos} (he : Xp X B Γ e d1) (hl : Xo X B Γ lo l) (hh : Xo X B Γ hi h) (k : SlD d1 l h d) : Xp X B Γ (.Subscript e (.Slice lo hi none p2) pos) d := by
  cases k with
  | lst => exact xp_l (xl_sl he hl hh)
  | str hz => exact xp_slS he hz.h hl hh
theorem xe_len (hb : Bi X "len") (he : Tt (St1 X e [])) (hp : Tt (Pl1 X pos [])) (h : Xp X B Γ e d) (k : LenD d n) : Xp X B Γ (.Call (.Name "len" p') [e] [] pos) (.int n) := by
  cases k with
  | lst => exact xp_lenL hb he.h hp.h h
  | tup => exact xp_lenT hb he.h hp.h h
  | str hz => exact xp_lenS hb he.h hp.h h hz.h
theorem xe_lenO (hb : Bi X "len") {p2 : Pos} (he : Tt (St1 X (.Name x p2) [])) (hp : Tt (Pl1 X pos [])) (h : Rk X i x) (k : Tt (Γ[i]? = some (.ow ds))) : Xp X B Γ (.Call (.Name "len" p') [.Name x p2] [] pos) (.int ds.length) := xp_lenO hb he.h hp.h h k.h
theorem xe_abs (hb : Bi X "abs") (he : Tt (St1 X e [])) (hp : Tt (Pl1 X pos [])) (h : Xp X B Γ e (.int m)) : Xp X B Γ (.Call (.Name "abs" p') [e] [] pos) (.int (if m < 0 then -m else m)) := xp_abs hb he.h hp.h h
theorem xe_min (hc : Tt (X.calm = true)) (hb : Bi X "min") (he : Tt (St1 X e [a])) (he2 : Tt (St1 X a [])) (hp : Tt (Pl1 X pos [a])) (h : Xp X B Γ e (.int m)) (h2 : Xp X B Γ a (.int n)) : Xp X B Γ (.Call (.Name "min" p') [e, a] [] pos) (.int (if n < m then n else m)) := xp_min hc.h hb he.h he2.h hp.h h h2
theorem xe_max (hc : Tt (X.calm = true)) (hb : Bi X "max") (he : Tt (St1 X e [a])) (he2 : Tt (St1 X a [])) (hp : Tt (Pl1 X pos [a])) (h : Xp X B Γ e (.int m)) (h2 : Xp X B Γ a (.int n)) : Xp X B Γ (.Call (.Name "max" p') [e, a] [] pos) (.int (if n > m then n else m)) := xp_max hc.h hb he.h he2.h hp.h h h2
theorem xe_str (hb : Bi X "str") (he : Tt (St1 X e [])) (hp : Tt (Pl1 X pos [])) (h : Xp X B Γ e (.int m)) (hz : Side (m.natAbs.log2 < 1920)) : Xp X B Γ (.Call (.Name "str" p') [e] [] pos) (.str (toString m)) := xp_strI hb he.h hp.h h hz.h
theorem xe_int (hb : Bi X "int") (he : Tt (St1 X e [])) (hp : Tt (Pl1 X pos [])) (h : Xp X B Γ e d) (k : IntD d m) : Xp X B Γ (.Call (.Name "int" p') [e] [] pos) (.int m) := by
  cases k with
  | str hn hz => exact xp_intS hb he.h hp.h h hn.h hz.h
  | bl => exact xp_intB hb he.h hp.h h
theorem sortD2 {m n : Int} : SortD (.list [.int m, .int n]) [.int (min m n), .int (max m n)] := by
  have := SortD.ofI (ds := [.int m, .int n]) (ns := [m, n]) (ms := [min m n, max m n]) ⟨rfl, (show 2 < 64 by decide), ?_, ?_⟩
  · exact this
  · by_cases h : m ≤ n
    · rw [Int.min_eq_left h, Int.max_eq_right h]
    · rw [Int.min_eq_right (by omega), Int.max_eq_left (by omega)]
      exact List.Perm.swap _ _ _
  · refine List.pairwise_cons.mpr ⟨fun x hx => ?_, by simp⟩
    rw [List.mem_singleton.mp hx]
    omega
theorem xe_sorted (hb : Bi X "sorted") (he : Tt (St1 X e [])) (hp : Tt (Pl1 X pos [])) (h : Xp X B Γ e d) (k : SortD d ds) : Xp X B Γ (.Call (.Name "sorted" p') [e] [] pos) (.list ds) := by
  cases k with
  | ofI hm =>
    obtain ⟨⟨rfl, h1, h2, h3⟩⟩ := hm
    exact xp_l (xl_sortI hb he.h hp.h h h1 h2 h3)
/-- math.gcd under its own name -/
structure Gc (X : Cx) (x : Str) : Prop where
  gl : Gl X x
  is : X.mg x = some (.builtin "math.gcd")
  db : (x == ("__debug__" : Str)) = false
theorem xe_gcd (g : Gc X x) (he : Tt (St1 X e [a])) (he2 : Tt (St1 X a [])) (hp : Tt (Pl1 X pos [a])) (h : Xp X B Γ e (.int m)) (h2 : Xp X B Γ a (.int n)) : Xp X B Γ (.Call (.Name x p') [e, a] [] pos) (.int ((Nat.gcd m.natAbs n.natAbs : Nat) : Int)) := xp_gcd g.gl g.is g.db he.h he2.h hp.h h h2
/-- a built-in class by its name -/
structure Ty (X : Cx) (x : Str) (T : TyN) : Prop where
  bi : Bi X x
  is : bootBuiltins x = some (.type T.name)
  nn : x ≠ "__name__"
  db : (x == ("__debug__" : Str)) = false
theorem xe_isi {T : TyN} {p2 : Pos} (hb : Bi X "isinstance") (ht : Ty X x T) (he : Tt (St1 X e [.Name x p2])) (he2 : Tt (St1 X (.Name x p2) [])) (hp : Tt (Pl1 X pos [.Name x p2])) (h : Xp X B Γ e d) : Xp X B Γ (.Call (.Name "isinstance" p') [e, .Name x p2] [] pos) (.bool (isiD d T)) :=
  xp_isi hb ht.bi ht.is ht.nn ht.db he.h he2.h hp.h h (isi_ok d T)
theorem xe_partition (hb : Tt (Mb X o "partition")) (hf : Tt (Mf X pos e [])) (hl : Tt ((ap.endLine == pos.line) = true)) (he : Tt (St1 X e [])) (hp : Tt (Pl1 X pos [])) (ho : Xp X B Γ o (.str y)) (ha : Xp X B Γ e (.str z)) (h1 : Side ((z.length == 0) = false)) (h2 : Side (y.length ≤ sizeLine)) :
    Xp X B Γ (.Call (.Attribute o "partition" ap) [e] [] pos) (.tuple [.str (Txt.partition y z).1, .str (Txt.partition y z).2.1, .str (Txt.partition y z).2.2]) := xp_partition hb.h hf.h hl.h he.h hp.h ho ha h1.h h2.h
/-- a text cut, as known -/
structure Part (y z a s b : Str) : Prop where
  h : Txt.partition y z = (a, s, b)
theorem xe_partF {u v w : Str} (k : Part y z u v w) (hb : Tt (Mb X o "partition")) (hf : Tt (Mf X pos e [])) (hl : Tt ((ap.endLine == pos.line) = true)) (he : Tt (St1 X e [])) (hp : Tt (Pl1 X pos [])) (ho : Xp X B Γ o (.str y)) (ha : Xp X B Γ e (.str z)) (h1 : Side ((z.length == 0) = false)) (h2 : Side (y.length ≤ sizeLine)) :
    Xp X B Γ (.Call (.Attribute o "partition" ap) [e] [] pos) (.tuple [.str u, .str v, .str w]) := by
  have := xp_partition hb.h hf.h hl.h he.h hp.h ho ha h1.h h2.h
  rw [k.h] at this
  exact this
theorem xe_split (hb : Tt (Mb X o "split")) (hf : Tt (Mf X pos e [])) (hl : Tt ((ap.endLine == pos.line) = true)) (he : Tt (St1 X e [])) (hp : Tt (Pl1 X pos [])) (ho : Xp X B Γ o (.str y)) (ha : Xp X B Γ e (.str z)) (h1 : Side ((z.length == 0) = false)) (h2 : Side (y.length + 2 ≤ sizeLine)) :
    Xp X B Γ (.Call (.Attribute o "split" ap) [e] [] pos) (.list ((Txt.split y z).map .str)) := xp_l (xl_split hb.h hf.h hl.h he.h hp.h ho ha h1.h h2.h)
theorem xe_join {ys : List Str} (hb : Tt (Mb X o "join")) (hf : Tt (Mf X pos e [])) (hl : Tt ((ap.endLine == pos.line) = true)) (he : Tt (St1 X e [])) (hp : Tt (Pl1 X pos [])) (ho : Xp X B Γ o (.str y)) (ha : Xp X B Γ e (.list ds)) (hy : Side (ds = ys.map .str)) (hz : Side ((ys.map (·.length)).sum + ys.length * y.length ≤ 16777216)) :
    Xp X B Γ (.Call (.Attribute o "join" ap) [e] [] pos) (.str (Txt.join y ys)) := by
  obtain ⟨rfl⟩ := hy
  exact xp_join hb.h hf.h hl.h he.h hp.h ho ha hz.h
theorem xe_isdigit (hb : Tt (Mb X o "isdigit")) (hl : Tt ((ap.endLine == pos.line) = true)) (ho : Xp X B Γ o (.str y)) : Xp X B Γ (.Call (.Attribute o "isdigit" ap) [] [] pos) (.bool (Txt.isdigit y)) := xp_isdigit hb.h hl.h ho
theorem xe_isascii (hb : Tt (Mb X o "isascii")) (hl : Tt ((ap.endLine == pos.line) = true)) (ho : Xp X B Γ o (.str y)) : Xp X B Γ (.Call (.Attribute o "isascii" ap) [] [] pos) (.bool (Txt.isascii y)) := xp_isascii hb.h hl.h ho
theorem xe_upper (hb : Tt (Mb X o "upper")) (hl : Tt ((ap.endLine == pos.line) = true)) (ho : Xp X B Γ o (.str y)) (hz : Side (y.length ≤ 5592405)) : Xp X B Γ (.Call (.Attribute o "upper" ap) [] [] pos) (.str (Txt.upper y)) := xp_upper hb.h hl.h ho hz.h
/-- what a def of the module is called with, what it gives -/
structure Cal (R : List PyData → PyData → Prop) (ds : List PyData) (d : PyData) : Prop where
  h : R ds d
theorem xe_call {R : List PyData → PyData → Prop} (c : Ce X x R) (hg : Gl X x) (he : Tt (St1 X e es)) (hp : Tt (Pl1 X pos es)) (ha : Xa X B Γ (e :: es) ds) (hr : Cal R ds d) : Xp X B Γ (.Call (.Name x p') (e :: es) [] pos) d := xp_call hg c he.h hp.h ha hr.h
theorem xe_call0 {R : List PyData → PyData → Prop} (c : Ce X x R) (hg : Gl X x) (hr : Cal R [] d) : Xp X B Γ (.Call (.Name x p') [] [] pos) d := xp_call0 hg c hr.h
theorem xe_var (h : Rk X i x) (k : Tt (Γ[i]? = some (.sh d))) : Xp X B Γ (.Name x pos) d := xp_var h k.h
theorem xe_tup {x1} (h : Xa X B Γ es ds) (hl : Tt (decide (ds.length ≤ 16777216) = true)) : Xp X B Γ (.Tuple es x1 pos) (.tuple ds) := xp_tup h (by have := of_decide_eq_true hl.h; rw [sizeLine_eq]; exact this)
theorem xe_lst (h : Xa X B Γ es ds) (hl : Tt (decide (ds.length ≤ 16777216) = true)) : Xp X B Γ (.List es pos) (.list ds) := xp_l (xl_lst h (by have := of_decide_eq_true hl.h; rw [sizeLine_eq]; exact this))
theorem xle_lst (h : Xa X B Γ es ds) (hl : Tt (decide (ds.length ≤ 16777216) = true)) : Xl X B Γ (.List es pos) ds := xl_lst h (by have := of_decide_eq_true hl.h; rw [sizeLine_eq]; exact this)
theorem xae_cons (hs : Tt (St1 X e es)) (h : Xp X B Γ e d) (hr : Xa X B Γ es ds) : Xa X B Γ (e :: es) (d :: ds) := xa_cons hs.h h hr
/-- an answer that is known or open -/
theorem xe_and (h1 : Xp X B Γ a (.bool p)) (h2 : p = true → Xp X B Γ (.BoolOp .And (b :: es) pos) (.bool q)) : Xp X B Γ (.BoolOp .And (a :: b :: es) pos) (.bool (p && q)) := xp_and h1 h2
/-! tests -/
theorem xt_any (he : Tt (∀ whole, isTrue e X.env whole = (do let v ← whole; standAt e.pos; holding [v] (truthy v)))) (h : Xp X B Γ e d) (k : TruD d p) : Xt X B Γ e p := by
  cases k with
  | bl => exact xt_val he.h h
  | int => exact xt_tru he.h h trivial
  | non => exact xt_tru he.h h trivial
  | str hz => exact xt_tru he.h h hz.h
  | lst => exact xt_tru he.h h trivial
  | tup => exact xt_tru he.h h trivial
/-! ### statements -/
/-- a block's rest -/
def seqP (X : Cx) (B : Bs) (ss : List Stmt) (P : Out → Prop) : Out → Prop
  | .nx Γ => Xb X B Γ ss P
  | o => P o
theorem seq_nx (h : Xb X B Γ ss P) : seqP X B ss P (.nx Γ) := h
theorem seq_rt (h : P (.rt d)) : seqP X B ss P (.rt d) := h
theorem seq_bk (h : P (.bk Γ)) : seqP X B ss P (.bk Γ) := h
theorem seq_ct (h : P (.ct Γ)) : seqP X B ss P (.ct Γ) := h
theorem xbe_cons (h : Xs X B Γ st (seqP X B ss P)) : Xb X B Γ (st :: ss) P := xb_of (pss_cons ps_u pb_u) (ds_seq (ds_imp h fun o ho => by cases o <;> exact ho))
theorem xbe_one (h : Xs X B Γ st P) : Xb X B Γ [st] P := xb_of (pss_one ps_u) h
theorem ret_rt (h : d1 = d) : RetP d (.rt d1) := .inl (by rw [h])
theorem turn_nx {I : Nat → Gm → Prop} {k : Nat} (h : I (k + 1) Γ) : turnS I k P (.nx Γ) := h
theorem turn_ct {I : Nat → Gm → Prop} {k : Nat} (h : I (k + 1) Γ) : turnS I k P (.ct Γ) := h
theorem turn_bk {I : Nat → Gm → Prop} {k : Nat} (h : P (.nx Γ)) : turnS I k P (.bk Γ) := h
theorem wh_nx {I : Nat → Gm → Prop} {k : Nat} (h : ∃ m', m' < k ∧ I m' Γ) : whS I k P (.nx Γ) := h
theorem wh_ct {I : Nat → Gm → Prop} {k : Nat} (h : ∃ m', m' < k ∧ I m' Γ) : whS I k P (.ct Γ) := h
theorem wh_bk {I : Nat → Gm → Prop} {k : Nat} (h : P (.nx Γ)) : whS I k P (.bk Γ) := h
theorem wh_rt {I : Nat → Gm → Prop} {k : Nat} (h : P (.rt d)) : whS I k P (.rt d) := h
theorem turn_rt {I : Nat → Gm → Prop} {k : Nat} (h : P (.rt d)) : turnS I k P (.rt d) := h
theorem xse_set {p2 : Pos} {Γ' : Gm} (k : Lk X i x) (hs : Tt (swapsWith e (some (.Name x p2)) pos.line X.env = pure false)) (h : Xp X B Γ e d) (hΓ : Sg (Γ.set i (.sh d)) Γ') (hP : P (.nx Γ')) : Xs X B Γ (.Assign [.Name x p2] e pos) P := xs_set k hs.h h (by rw [hΓ.h]; exact hP)
theorem xse_setO {p2 : Pos} {Γ' : Gm} (k : Lk X i x) (hs : Tt (swapsWith e (some (.Name x p2)) pos.line X.env = pure false)) (h : Xl X B Γ e ds) (hΓ : Sg (Γ.set i (.ow ds)) Γ') (hP : P (.nx Γ')) : Xs X B Γ (.Assign [.Name x p2] e pos) P := xs_setO k hs.h h (by rw [hΓ.h]; exact hP)
theorem xse_aug {p2 : Pos} {Γ' : Gm} (k : Lk X i x) (hi : Tt (Γ[i]? = some (.sh (.int m)))) (h : Xp X B Γ e (.int n)) (hΓ : Sg (Γ.set i (.sh (.int (m + n)))) Γ') (hP : P (.nx Γ')) : Xs X B Γ (.AugAssign (.Name x p2) .Add e pos) P := xs_augA k hi.h h (by rw [hΓ.h]; exact hP)
theorem xse_par {j : Nat} {x y : Str} {px py pt : Pos} {kt k2 pt2} {Γ' : Gm} (hc : Tt (X.calm = true)) (ki : Lk X i x) (kj : Lk X j y) (hij : Tt (decide (i ≠ j) = true)) (hx : Tt (X.env.scope.names.lookup x = some .local)) (hy : Tt (X.env.scope.names.lookup y = some .local))
    (hw : Tt (swappedStores [.Tuple [.Name x px, .Name y py] kt pt] (.Tuple [a, b] k2 pt2) X.env = pure (some [x, y]))) (hs : Tt (swapsWithSole [.Tuple [.Name x px, .Name y py] kt pt] (.Tuple [a, b] k2 pt2) pos.line X.env = pure false))
    (ha : Xa X B Γ [a, b] [d1, d2]) (hΓ : Sg ((Γ.set i (.sh d1)).set j (.sh d2)) Γ') (hP : P (.nx Γ')) : Xs X B Γ (.Assign [.Tuple [.Name x px, .Name y py] kt pt] (.Tuple [a, b] k2 pt2) pos) P := xs_par hc.h ki kj (of_decide_eq_true hij.h) hx.h hy.h hw.h hs.h ha (by rw [hΓ.h]; exact hP)
/-- a, b, .. = a tuple or a list -/
theorem xse_unp {tgs : List Expr} {kk : Nat} {js : List Nat} {Γ1 : Gm} (hc : Tt (X.calm = true)) (hs : Tt (swapsWithSole [.Tuple tgs kk p'] e pos.line X.env = pure false)) (hw : Tt (swappedStores [.Tuple tgs kk p'] e X.env = pure none)) (h1 : Tt ((assignEach [.Tuple tgs kk p'] X.env).map (·.2) = [assign (.Tuple tgs kk p') X.env]))
    (hn : Tt ((assignEach tgs X.env).length = tgs.length)) (hst : Tt ((assignEach tgs X.env).findIdx? (·.1) = none)) (h : Xp X B Γ e d) (u : UnpD d ds) (hl : Tt (ds.length = tgs.length)) (hg : Xgs X tgs js ds Γ Γ1) (hP : P (.nx Γ1)) : Xs X B Γ (.Assign [.Tuple tgs kk p'] e pos) P := by
  cases u with
  | tup => exact xs_asg hs.h hw.h h1.h h (xg_tup hc.h hn.h hst.h hl.h hg) hP
  | lst => exact xs_asg hs.h hw.h h1.h h (xg_unl hc.h hn.h hst.h hl.h hg) hP
theorem xge_name {p2 : Pos} {Γ' : Gm} (k : Lk X i x) (hΓ : Sg (Γ.set i (.sh d)) Γ') : Xg X (.Name x p2) [i] d Γ Γ' := by
  obtain ⟨rfl⟩ := hΓ
  exact xg_name k
theorem xgse_cons {tg : Expr} {tgs : List Expr} {js ks : List Nat} {Γ1 Γ2 : Gm} (hs : Tt ((assignEach (tg :: tgs) X.env).map (·.2) = assign tg X.env :: (assignEach tgs X.env).map (·.2))) (h : Xg X tg js d Γ Γ1) (hr : Xgs X tgs ks ds Γ1 Γ2) : Xgs X (tg :: tgs) (js ++ ks) (d :: ds) Γ Γ2 := xgs_cons hs.h h hr
theorem xge_tup {tgs : List Expr} {kk : Nat} {js : List Nat} {Γ1 : Gm} (hc : Tt (X.calm = true)) (hn : Tt ((assignEach tgs X.env).length = tgs.length)) (hst : Tt ((assignEach tgs X.env).findIdx? (·.1) = none)) (hl : Tt (ds.length = tgs.length)) (h : Xgs X tgs js ds Γ Γ1) : Xg X (.Tuple tgs kk pos) js (.tuple ds) Γ Γ1 := xg_tup hc.h hn.h hst.h hl.h h
theorem xse_app {p2 : Pos} {Γ' : Gm} (k : Rk X i x) (hs : Tt (swapsWith (.Call (.Attribute (.Name x p2) "append" ap) [e] [] p') none pos.line X.env = pure false)) (hb : Tt (Mb X (.Name x p2) "append")) (hf : Tt (Mf X p' e [])) (hl : Tt ((ap.endLine == p'.line) = true)) (he : Tt (St1 X e [])) (hp : Tt (Pl1 X p' []))
    (hi : Tt (Γ[i]? = some (.ow ds))) (h : Xp X B Γ e d) (hz : Side (ds.length < sizeLine)) (hΓ : Sg (Γ.set i (.ow (ds ++ [d]))) Γ') (hP : P (.nx Γ')) : Xs X B Γ (.Expr (.Call (.Attribute (.Name x p2) "append" ap) [e] [] p') pos) P := xs_app k hs.h hb.h hf.h hl.h he.h hp.h hi.h h hz.h (by rw [hΓ.h]; exact hP)
/-! iterables -/
theorem xie_any {tg : Expr} (h : Xp X B Γ e d) (k : ItrD d ds) : Xi X B Γ tg e ds := by
  cases k with
  | lst => exact xi_list h
  | tup => exact xi_tup h
  | str => exact xi_str h
theorem xie_rng1 {tg : Expr} (hb : Bi X "range") (he : Tt (St1 X e [])) (h : Xp X B Γ e (.int n)) (hn : Side (-(2 ^ 62) ≤ n ∧ n < 2 ^ 62)) : Xi X B Γ tg (.Call (.Name "range" p') [e] [] pos) (rangeD 0 n.toNat) := xi_rng1 hb he.h h hn.h
theorem xie_rng2 {tg : Expr} (hb : Bi X "range") (he1 : Tt (St1 X e [a])) (he2 : Tt (St1 X a [])) (h : Xp X B Γ e (.int m)) (h2 : Xp X B Γ a (.int n)) (hm : Side (-(2 ^ 62) ≤ m ∧ m < 2 ^ 62)) (hn : Side (-(2 ^ 62) ≤ n ∧ n < 2 ^ 62)) : Xi X B Γ tg (.Call (.Name "range" p') [e, a] [] pos) (rangeD m (n - m).toNat) :=
  xi_rng2 hb (by rw [he1.h, he2.h]; all_goals rfl) he1.h he2.h h h2 hm.h hn.h
theorem xie_enum {tgs : List Expr} {kk : Nat} {p3 : Pos} (hb : Bi X "enumerate") (he1 : Tt (St1 X e [])) (h : Xp X B Γ e (.list ds)) : Xi X B Γ (.Tuple tgs kk p3) (.Call (.Name "enumerate" p') [e] [] pos) (enumD 0 ds) := xi_enum hb (by rw [he1.h]; all_goals rfl) he1.h h
theorem xje_cons {acc out : Str} (h : Xp X B Γ e (.str y)) (hz : Side ((acc ++ y).length ≤ sizeLine)) (hr : Xj X B Γ es (acc ++ y) out) : Xj X B Γ (e :: es) acc out := xj_cons h hz.h hr
theorem xe_fmt (h : Xp X B Γ e d) (k : FmtD d y) : Xp X B Γ (.FormattedValue e (-1) none pos) (.str y) := by
  cases k with
  | str hz => exact xp_fmtS h hz.h
  | int hz => exact xp_fmtI h hz.h
end
section
variable {X : Cx} {B : Bs} {Γ : Gm} {pos : Pos}
theorem xe_dict0 : Xp X B Γ (.Dict [] [] pos) (.dict []) := xp_of pe_dnewK fun H Hs σ E Q q => fun p n => q (.ref p) _ (upd Hs p (.dK [])) ((Gr.refl E.sub).share n) (.dic (.inl upd_same) .nil)
end
/-! ### what is left, made lighter -/
inductive IntsL : List PyData → List Int → Prop where
  | nil : IntsL [] []
  | cons {a : Int} {ds : List PyData} {L : List Int} : IntsL ds L → IntsL (.int a :: ds) (a :: L)
inductive StrsL : List PyData → List Str → Prop where
  | nil : StrsL [] []
  | cons {a : Str} {ds : List PyData} {L : List Str} : StrsL ds L → StrsL (.str a :: ds) (a :: L)
theorem IntsL.eq {ds : List PyData} {L : List Int} (h : IntsL ds L) : ds = L.map .int := by
  induction h with
  | nil => rfl
  | cons _ ih => rw [ih]; rfl
theorem StrsL.eq {ds : List PyData} {L : List Str} (h : StrsL ds L) : ds = L.map .str := by
  induction h with
  | nil => rfl
  | cons _ ih => rw [ih]; rfl
theorem atI_pos {α : Type} {xs : List α} {i : Int} (h0 : 0 ≤ i) (h1 : i < xs.length) : atI xs i = xs[i.toNat]? := by
  unfold atI ixN
  rw [if_pos h0, if_pos h1]; rfl
theorem at_ints {ds : List PyData} {L : List Int} {i : Int} (h : IntsL ds L) (hi : Side (0 ≤ i ∧ i < L.length)) : Side (atI ds i = some (.int (L.getD i.toNat 0))) := by
  obtain ⟨h0, h1⟩ := hi.h
  refine ⟨?_⟩
  rw [h.eq, atI_pos h0 (by rw [List.length_map]; exact h1), List.getElem?_map, List.getD_eq_getElem?_getD, List.getElem?_eq_getElem (show i.toNat < L.length by omega)]; rfl
theorem at_any {ds : List PyData} {i : Int} (hi : Side (0 ≤ i ∧ i < ds.length)) : Side (atI ds i = some (ds.getD i.toNat .none)) := by
  obtain ⟨h0, h1⟩ := hi.h
  refine ⟨?_⟩
  rw [atI_pos h0 h1, List.getD_eq_getElem?_getD, List.getElem?_eq_getElem (show i.toNat < ds.length by omega)]; rfl
theorem getD_all {α : Type} {p : α → Prop} {L : List α} {i : Nat} {d : α} (h : ∀ x ∈ L, p x) (hi : i < L.length) : p (L.getD i d) := by
  rw [List.getD_eq_getElem?_getD, List.getElem?_eq_getElem hi]
  exact h _ (List.getElem_mem hi)
theorem at_0 {a : PyData} {r : List PyData} : Side (atI (a :: r) 0 = some a) := ⟨atI_nat (j := 0) rfl⟩
theorem at_1 {a b : PyData} {r : List PyData} : Side (atI (a :: b :: r) 1 = some b) := ⟨atI_nat (j := 1) rfl⟩
theorem at_2 {a b c : PyData} {r : List PyData} : Side (atI (a :: b :: c :: r) 2 = some c) := ⟨atI_nat (j := 2) rfl⟩
theorem at_strs {ds : List PyData} {L : List Str} {i : Int} (h : StrsL ds L) (hi : Side (0 ≤ i ∧ i < L.length)) : Side (atI ds i = some (.str (L.getD i.toNat Str.empty))) := by
  obtain ⟨h0, h1⟩ := hi.h
  refine ⟨?_⟩
  rw [h.eq, atI_pos h0 (by rw [List.length_map]; exact h1), List.getElem?_map, List.getD_eq_getElem?_getD, List.getElem?_eq_getElem (show i.toNat < L.length by omega)]; rfl
theorem side_mul {m n : Int} (a b : Nat) (ha : m.natAbs < 2 ^ a) (hb : n.natAbs < 2 ^ b) (h0 : 0 < a := by decide) (h1 : 0 < b := by decide) (h : a + b ≤ 1000000 := by decide) : Side (CMulW m n) := ⟨wide_mul ha hb h0 h1 h⟩
theorem two64 : (2 : Nat) ^ 64 = 18446744073709551616 := by decide
theorem side_mul64 {m n : Int} (h : -18446744073709551616 < m ∧ m < 18446744073709551616 ∧ -18446744073709551616 < n ∧ n < 18446744073709551616) : Side (CMulW m n) := by
  refine side_mul 64 64 ?_ ?_ <;> rw [two64] <;> omega
theorem side_fdiv {m n : Int} (a : Nat) (h : n ≠ 0) (hb : n.natAbs < 2 ^ a) (h0 : 0 < a := by decide) (h9 : a ≤ 9000 := by decide) : Side (CDivG m n) := ⟨h, Nat.lt_of_lt_of_le (PySem.Flt.log2_lt_of h0 hb) h9⟩
theorem side_fdiv64 {m n : Int} (h : n ≠ 0 ∧ -18446744073709551616 < n ∧ n < 18446744073709551616) : Side (CDivG m n) := by
  refine side_fdiv 64 h.1 ?_
  rw [two64]
  omega
theorem side_str {m : Int} (a : Nat) (hb : m.natAbs < 2 ^ a) (h0 : 0 < a := by decide) (h9 : a ≤ 1920 := by decide) : Side (m.natAbs.log2 < 1920) := ⟨Nat.lt_of_lt_of_le (PySem.Flt.log2_lt_of h0 hb) h9⟩
theorem side_size {n : Nat} (h : n ≤ 1000000) : n ≤ sizeLine := by rw [sizeLine_eq]; omega
end Dl
set_option Elab.async false
set_option linter.all false
set_option maxRecDepth 100000
set_option maxHeartbeats 2000000
namespace Sm
open PySem L2 Dl PySem.NumText TL
/-! ### sizes -/
def Bd (k : Nat) (n : Int) : Prop := n.natAbs < 2 ^ k
theorem Bd.mono {j k : Nat} {n : Int} (h : Bd j n) (e : j ≤ k := by decide) : Bd k n := Nat.lt_of_lt_of_le h (Nat.pow_le_pow_right (by decide) e)
theorem Bd.le {k : Nat} {m n : Int} (h : Bd k n) (e : m.natAbs ≤ n.natAbs) : Bd k m := Nat.lt_of_le_of_lt e h
theorem Bd.mul {j k : Nat} {m n : Int} (h : Bd j m) (h2 : Bd k n) : Bd (j + k) (m * n) := wide_lt h h2
theorem Bd.add {k : Nat} {m n : Int} (h : Bd k m) (h2 : Bd k n) : Bd (k + 1) (m + n) := by
  unfold Bd at *
  rw [Nat.pow_succ]
  omega
theorem Bd.neg {k : Nat} {m : Int} (h : Bd k m) : Bd k (-m) := by
  unfold Bd at *
  rw [Int.natAbs_neg]
  exact h
theorem Bd.sub {k : Nat} {m n : Int} (h : Bd k m) (h2 : Bd k n) : Bd (k + 1) (m - n) := by
  rw [Int.sub_eq_add_neg]
  exact h.add h2.neg
theorem Bd.of {k : Nat} {n : Int} (h : n.natAbs < 2 ^ k) : Bd k n := h
theorem Bd.of64 {n : Int} (h : -18446744073709551616 < n ∧ n < 18446744073709551616) : Bd 64 n := by
  unfold Bd
  rw [two64]
  omega
theorem side_mulB (j k : Nat) {m n : Int} (h : Bd j m) (h2 : Bd k n) (h0 : 0 < j := by decide) (h1 : 0 < k := by decide) (e : j + k ≤ 1000000 := by decide) : Side (CMulW m n) := side_mul j k h h2 h0 h1 e
theorem side_fdivB (k : Nat) {m n : Int} (h : n ≠ 0) (h2 : Bd k n) (h0 : 0 < k := by decide) (h9 : k ≤ 9000 := by decide) : Side (CDivG m n) := side_fdiv k h h2 h0 h9
theorem side_strB (k : Nat) {m : Int} (h : Bd k m) (h0 : 0 < k := by decide) (h9 : k ≤ 1920 := by decide) : Side (m.natAbs.log2 < 1920) := side_str k h h0 h9
/-! ### shares -/
abbrev pairD (z : Int × Int) : PyData := .tuple [.int z.1, .int z.2]
def gcdI (n p : Int) : Int := ((Nat.gcd n.natAbs p.natAbs : Nat) : Int)
theorem gcdI_pos {n p : Int} (h : p ≠ 0) : 0 < gcdI n p := by
  unfold gcdI
  have : 0 < Nat.gcd n.natAbs p.natAbs := Nat.gcd_pos_of_pos_right _ (by omega)
  omega
theorem gcdI_le {n p : Int} (h : p ≠ 0) : (gcdI n p).natAbs ≤ p.natAbs := by
  unfold gcdI
  rw [Int.natAbs_natCast]
  exact Nat.le_of_dvd (by omega) (Nat.gcd_dvd_right _ _)
theorem gcdI_dvd1 (n p : Int) : gcdI n p ∣ n := Int.ofNat_dvd_left.mpr (Nat.gcd_dvd_left _ _)
theorem gcdI_dvd2 (n p : Int) : gcdI n p ∣ p := Int.ofNat_dvd_left.mpr (Nat.gcd_dvd_right _ _)
/-- one parted by the other in lowest terms -/
def redI (n p : Int) : Int × Int := ((if p < 0 then -n else n) / gcdI n p, (if p < 0 then -p else p) / gcdI n p)
theorem red_neg {n p : Int} (h : p < 0) : (n.fdiv (-gcdI n p), p.fdiv (-gcdI n p)) = redI n p := by
  have g := gcdI_pos (n := n) (p := p) (by omega)
  have e : ∀ x : Int, x.fdiv (-gcdI n p) = (-x) / gcdI n p := fun x => by
    rw [← Int.fdiv_eq_ediv_of_nonneg _ (by omega), ← Int.neg_fdiv_neg, Int.neg_neg]
  unfold redI
  rw [if_pos h, if_pos h, e, e]
theorem red_pos {n p : Int} (h : ¬ p < 0) : (n.fdiv (gcdI n p), p.fdiv (gcdI n p)) = redI n p := by
  have e : ∀ x : Int, x.fdiv (gcdI n p) = x / gcdI n p := fun x => Int.fdiv_eq_ediv_of_nonneg _ (by unfold gcdI; omega)
  unfold redI
  rw [if_neg h, if_neg h, e, e]
theorem red_neg2 (n p : Int) (h : p < 0) : redI (-n) (-p) = redI n p := by
  unfold redI
  rw [if_neg (by omega), if_neg (by omega), if_pos h, if_pos h]
  unfold gcdI
  rw [Int.natAbs_neg, Int.natAbs_neg]
theorem ediv_natAbs_le (x g : Int) (h : 0 < g) : (x / g).natAbs ≤ x.natAbs := by
  by_cases hx : 0 ≤ x
  · have h1 := Int.ediv_nonneg hx (Int.le_of_lt h)
    have h2 : x / g ≤ x := Int.ediv_le_self _ hx
    omega
  · have h1 : x ≤ x / g := by
      have := Int.le_ediv_of_mul_le h (show x * g ≤ x by
        have h3 : x * g ≤ x * 1 := Int.mul_le_mul_of_nonpos_left (by omega) (by omega)
        omega)
      exact this
    have h2 : x / g < 0 := Int.ediv_neg_of_neg_of_pos (by omega) h
    omega
theorem red_le1 (n : Int) {p : Int} (h : p ≠ 0) : (redI n p).1.natAbs ≤ n.natAbs := by
  unfold redI
  have g := gcdI_pos (n := n) h
  refine Nat.le_trans (ediv_natAbs_le _ _ g) ?_
  split <;> omega
theorem red_le2 (n : Int) {p : Int} (h : p ≠ 0) : (redI n p).2.natAbs ≤ p.natAbs := by
  unfold redI
  have g := gcdI_pos (n := n) h
  refine Nat.le_trans (ediv_natAbs_le _ _ g) ?_
  split <;> omega
theorem red_pos2 (n : Int) {p : Int} (h : p ≠ 0) : 0 < (redI n p).2 := by
  unfold redI
  have g := gcdI_pos (n := n) h
  have d : gcdI n p ∣ (if p < 0 then -p else p) := by
    split
    · exact Int.dvd_neg.mpr (gcdI_dvd2 n p)
    · exact gcdI_dvd2 n p
  obtain ⟨k, hk⟩ := d
  show 0 < (if p < 0 then -p else p) / gcdI n p
  rw [hk, Int.mul_ediv_cancel_left _ (by omega)]
  have hp : 0 < (if p < 0 then -p else p) := by split <;> omega
  rw [hk] at hp
  exact Int.pos_of_mul_pos_right hp (by omega) |> fun h => by
    first
    | exact h
    | omega
theorem red_gcd (n : Int) {p : Int} (h : p ≠ 0) : gcdI (redI n p).1 (redI n p).2 = 1 := by
  have g := gcdI_pos (n := n) h
  have e : ∀ x : Int, ((if p < 0 then -x else x) / gcdI n p).natAbs = x.natAbs / (Nat.gcd n.natAbs p.natAbs) ∨ ¬ gcdI n p ∣ x := fun x => by
    by_cases hd : gcdI n p ∣ x
    · left
      obtain ⟨k, hk⟩ := hd
      have e1 : (if p < 0 then -x else x) = gcdI n p * (if p < 0 then -k else k) := by
        split
        · rw [hk, Int.mul_neg]
        · exact hk
      rw [e1, Int.mul_ediv_cancel_left _ (by omega), hk, Int.natAbs_mul]
      have e2 : (gcdI n p).natAbs = Nat.gcd n.natAbs p.natAbs := by unfold gcdI; rw [Int.natAbs_natCast]
      rw [e2, Nat.mul_div_cancel_left _ (by unfold gcdI at g; omega)]
      split <;> omega
    · exact .inr hd
  have e1 := (e n).resolve_right fun z => z (gcdI_dvd1 n p)
  have e2 := (e p).resolve_right fun z => z (gcdI_dvd2 n p)
  unfold gcdI redI
  rw [show (((if p < 0 then -n else n) / gcdI n p, (if p < 0 then -p else p) / gcdI n p) : Int × Int).1 = (if p < 0 then -n else n) / gcdI n p from rfl, show (((if p < 0 then -n else n) / gcdI n p, (if p < 0 then -p else p) / gcdI n p) : Int × Int).2 = (if p < 0 then -p else p) / gcdI n p from rfl, e1, e2,
    Nat.gcd_div (Nat.gcd_dvd_left _ _) (Nat.gcd_dvd_right _ _), Nat.div_self (by unfold gcdI at g; omega)]
  rfl
/-- a pair in lowest terms stays -/
theorem red_low {a b : Int} (hb : 0 < b) (hg : gcdI a b = 1) : redI a b = (a, b) := by
  unfold redI
  rw [if_neg (by omega), if_neg (by omega), hg, Int.ediv_one, Int.ediv_one]
def isWhole : PyData → Bool
  | .int _ => true
  | _ => false
def isShare : PyData → Bool
  | .tuple ds => match ds with
    | [a, b] => match a, b with
      | .int n, .int m => decide (1 ≤ m) && decide (gcdI n m = 1)
      | _, _ => false
    | _ => false
  | _ => false
theorem whole_is {d : PyData} (h : isWhole d = true) : ∃ n, d = .int n := by
  cases d <;> first | exact ⟨_, rfl⟩ | cases h
theorem share_red (n : Int) {p : Int} (h : p ≠ 0) : isShare (pairD (redI n p)) = true := by
  show (decide (1 ≤ (redI n p).2) && decide (gcdI (redI n p).1 (redI n p).2 = 1)) = true
  rw [decide_eq_true (by have := red_pos2 n h; omega), decide_eq_true (red_gcd n h)]; rfl
theorem isShare_no {a b : PyData} (h : isWhole a = false ∨ isWhole b = false) : isShare (.tuple [a, b]) = false := by
  cases a <;> cases b <;> first | rfl | (rcases h with h | h <;> cases h)
theorem isShare_len {ds : List PyData} (h : ds.length ≠ 2) : isShare (.tuple ds) = false := by
  match ds, h with
  | [], _ => rfl
  | [_], _ => rfl
  | [_, _], h => exact absurd rfl h
  | _ :: _ :: _ :: _, _ => rfl
theorem slash_signs : tl (Str.ofString "/") = 47 :: [] := by decide +kernel
theorem part_len (y : Str) : (Txt.partition y "/").1.length ≤ y.length ∧ (Txt.partition y "/").2.2.length ≤ y.length := by
  have g : ∀ (S l acc a b : List Nat), par S acc l = some (a, b) → a.length + b.length ≤ acc.length + l.length := fun S l => by
    induction l with
    | nil => intro acc a b h; cases h
    | cons c r ih =>
      intro acc a b h
      unfold par at h
      split at h
      · cases h
        rw [List.length_drop]
        omega
      · have := ih _ _ _ h
        rw [List.length_append, List.length_singleton] at this
        rw [List.length_cons]
        omega
  rw [partition_par y "/" (by rw [slash_signs]; simp)]
  cases h : par (tl "/") [] (tl y) with
  | none => exact ⟨Nat.le_refl _, Nat.zero_le _⟩
  | some z =>
    obtain ⟨a, b⟩ := z
    have := g _ _ _ _ _ h
    rw [List.length_nil, Nat.zero_add] at this
    have e1 : (⟨a.toArray⟩ : Str).length = a.length := by rw [len_tl]
    have e2 : (⟨b.toArray⟩ : Str).length = b.length := by rw [len_tl]
    show (⟨a.toArray⟩ : Str).length ≤ _ ∧ (⟨b.toArray⟩ : Str).length ≤ _
    rw [e1, e2, len_tl]
    exact ⟨by omega, by omega⟩
/-! ### figures -/
def digC (c : Nat) : Bool := decide (48 ≤ c) && decide (c ≤ 57)
def figOk (l : List Nat) : Bool := !l.isEmpty && l.all digC && !(l.head? == some 48 && decide (1 < l.length))
def figI (m : Nat) (y : Str) : Option Int := if decide (y.length ≤ m) && figOk y.cps.toList then some ((digitsVal y.cps.toList : Nat) : Int) else none
def optI : Option Int → PyData
  | none => .none
  | some i => .int i
def optP : Option (Int × Int) → PyData
  | none => .none
  | some z => pairD z
theorem isDigit_small : ∀ c : Nat, c < 128 → Unicode.isDigit c = digC c := by decide +kernel
theorem len_list (y : Str) : y.length = y.cps.toList.length := by simp [Str.length]
theorem ascii_digits {y : Str} : (Txt.isascii y && Txt.isdigit y) = (!y.cps.toList.isEmpty && y.cps.toList.all digC) := by
  unfold Txt.isascii Txt.isdigit
  rw [len_list, ← Array.all_toList, ← Array.all_toList]
  generalize y.cps.toList = l
  have e : ∀ l : List Nat, (l.all (fun x => decide (x < 128)) && l.all Unicode.isDigit) = l.all digC := fun l => by
    induction l with
    | nil => rfl
    | cons c r ih =>
      rw [List.all_cons, List.all_cons, List.all_cons, ← ih]
      by_cases hc : c < 128
      · rw [isDigit_small c hc, decide_eq_true hc]
        cases r.all (fun x => decide (x < 128)) <;> cases digC c <;> simp
      · rw [decide_eq_false hc]
        have : digC c = false := by
          unfold digC
          have : ¬ c ≤ 57 := by omega
          rw [decide_eq_false this, Bool.and_false]
        rw [this]
        simp
  rw [← e l]
  cases l with
  | nil => rfl
  | cons c r => simp only [List.length_cons, List.isEmpty_cons, Bool.not_false, Bool.true_and, Nat.zero_lt_succ, decide_true, gt_iff_lt]
theorem fig_text {m : Nat} {y : Str} {i : Int} (hm : m ≤ 640) (h : figI m y = some i) : PySem.intText? y = some i ∧ y.length ≤ 640 := by
  unfold figI at h
  split at h
  · rename_i hc
    rw [Bool.and_eq_true, decide_eq_true_eq] at hc
    obtain ⟨h1, h2⟩ := hc
    unfold figOk at h2
    simp only [Bool.and_eq_true, Bool.not_eq_true', List.all_eq_true] at h2
    cases h
    refine ⟨intText_digits (fun c hc => ?_) ?_ (by omega), by omega⟩
    · have := h2.1.2 c hc
      unfold digC at this
      simp only [Bool.and_eq_true, decide_eq_true_eq] at this
      exact this
    · intro e
      rw [e] at h2
      simp at h2
  · cases h
theorem digitsVal_bound : ∀ l : List Nat, (∀ c ∈ l, c ≤ 57) → digitsVal l < 10 ^ l.length := fun l => by
  have g : ∀ (l : List Nat) (acc k : Nat), (∀ c ∈ l, c ≤ 57) → acc < 10 ^ k → l.foldl (fun acc c => acc * 10 + (c - 48)) acc < 10 ^ (k + l.length) := fun l => by
    induction l with
    | nil => intro acc k _ h; simpa using h
    | cons c r ih =>
      intro acc k hl h
      have h1 := hl c List.mem_cons_self
      have := ih (acc * 10 + (c - 48)) (k + 1) (fun d hd => hl d (List.mem_cons_of_mem _ hd)) (by rw [Nat.pow_succ]; omega)
      rw [List.length_cons, show k + (r.length + 1) = k + 1 + r.length by omega]
      exact this
  intro h
  have := g l 0 0 h (by decide)
  rw [Nat.zero_add] at this
  exact this
theorem pow10_lt (k : Nat) : 10 ^ k ≤ 2 ^ (4 * k) := by
  rw [Nat.pow_mul]
  exact Nat.pow_le_pow_left (by decide) k
theorem fig_bound {m : Nat} {y : Str} {i : Int} (hm : m ≤ 640) (h : figI m y = some i) : 0 ≤ i ∧ Bd 2560 i := by
  unfold figI at h
  split at h
  · rename_i hc
    rw [Bool.and_eq_true, decide_eq_true_eq] at hc
    obtain ⟨h1, h2⟩ := hc
    unfold figOk at h2
    simp only [Bool.and_eq_true, Bool.not_eq_true', List.all_eq_true] at h2
    cases h
    have b := digitsVal_bound y.cps.toList fun c hc => by
      have := h2.1.2 c hc
      unfold digC at this
      simp only [Bool.and_eq_true, decide_eq_true_eq] at this
      exact this.2
    have l1 : y.cps.toList.length ≤ 640 := by rw [← len_list]; omega
    refine ⟨Int.natCast_nonneg _, ?_⟩
    unfold Bd
    rw [Int.natAbs_natCast]
    exact Nat.lt_of_lt_of_le b (Nat.le_trans (Nat.pow_le_pow_right (by decide) l1) (pow10_lt 640))
  · cases h
/-- the text of a share -/
def shareIn (y : Str) : Option (Int × Int) :=
  match figI 400 (Txt.partition y "/").1, figI 400 (Txt.partition y "/").2.2 with
  | some n, some p => if p = 0 then none else some (redI n p)
  | _, _ => none
theorem fig_no1 {y : Str} (h : 400 < (y.length : Int)) : figI 400 y = none := by
  unfold figI
  rw [decide_eq_false (by omega)]; rfl
theorem fig_no2 {y : Str} (h : Txt.isascii y = false ∨ Txt.isdigit y = false) : figI 400 y = none := by
  have e := ascii_digits (y := y)
  have e2 : (Txt.isascii y && Txt.isdigit y) = false := by rcases h with h | h <;> rw [h] <;> simp
  rw [e2] at e
  unfold figI figOk
  rw [← e]
  simp
theorem fig_head {y : Str} (h : Txt.isascii y = true ∧ Txt.isdigit y = true) : ∃ c r, y.cps.toList = c :: r ∧ (∀ x ∈ c :: r, 48 ≤ x ∧ x ≤ 57) := by
  have e := ascii_digits (y := y)
  rw [h.1, h.2] at e
  cases hl : y.cps.toList with
  | nil => rw [hl] at e; cases e
  | cons c r =>
    rw [hl] at e
    have e2 : (c :: r).all digC = true := by simpa using e.symm
    rw [List.all_eq_true] at e2
    refine ⟨c, r, rfl, fun x hx => ?_⟩
    have := e2 x hx
    unfold digC at this
    simpa using this
theorem fig_at {y : Str} (h : Txt.isascii y = true ∧ Txt.isdigit y = true) : Side (atI y.cps.toList 0 = some (y.cps.toList.headD 0)) := by
  obtain ⟨c, r, e, _⟩ := fig_head h
  rw [e]
  exact ⟨atI_nat (j := 0) rfl⟩
theorem fig_okd {y : Str} (h : Txt.isascii y = true ∧ Txt.isdigit y = true) : figOk y.cps.toList = !(decide (y.cps.toList.headD 0 = 48) && decide (1 < y.cps.toList.length)) := by
  obtain ⟨c, r, e, hd⟩ := fig_head h
  unfold figOk
  rw [e]
  have : (c :: r).all digC = true := by
    rw [List.all_eq_true]
    intro x hx
    unfold digC
    rw [decide_eq_true (hd x hx).1, decide_eq_true (hd x hx).2]; rfl
  rw [this]
  show (true && true && !((some c == some 48) && decide (1 < (c :: r).length))) = !(decide (c = 48) && decide (1 < (c :: r).length))
  have e1 : ((some c : Option Nat) == some 48) = decide (c = 48) := by
    by_cases hc : c = 48 <;> simp [hc]
  rw [e1]; rfl
theorem str_eq {x y : Str} (h : x.cps.toList = y.cps.toList) : x = y := ext_tl h
theorem zero_signs : (Str.ofString "0").cps.toList = [48] := by decide +kernel
theorem one_zero {y : Str} (h : Txt.isascii y = true ∧ Txt.isdigit y = true) : (y.cps.toList.headD 0 = 48 ∧ ¬ 1 < y.cps.toList.length) ↔ y = Str.ofString "0" := by
  obtain ⟨c, r, e, _⟩ := fig_head h
  rw [e]
  constructor
  · intro ⟨h1, h2⟩
    apply str_eq
    rw [e, zero_signs]
    have h3 : c = 48 := h1
    cases r with
    | nil => rw [h3]
    | cons a b => simp at h2
  · intro z
    rw [z, zero_signs] at e
    cases e
    exact ⟨rfl, by decide⟩
theorem sgn_zero {c : Nat} : (⟨#[c]⟩ : Str) = Str.ofString "0" ↔ c = 48 := by
  constructor
  · intro h
    have := congrArg (fun z : Str => z.cps.toList) h
    simp only [zero_signs] at this
    simpa using this
  · intro h
    apply str_eq
    rw [zero_signs, h]
theorem fig_no3 {y : Str} (h : Txt.isascii y = true ∧ Txt.isdigit y = true) (h1 : (⟨#[y.cps.toList.headD 0]⟩ : Str) = Str.ofString "0" ∧ ¬ y = Str.ofString "0") : figI 400 y = none := by
  have a := sgn_zero.mp h1.1
  have b : 1 < y.cps.toList.length := by
    by_cases z : 1 < y.cps.toList.length
    · exact z
    · exact absurd ((one_zero h).mp ⟨a, z⟩) h1.2
  unfold figI
  rw [fig_okd h, decide_eq_true a, decide_eq_true b]
  simp
theorem fig_yes {y : Str} (h0 : ¬ 400 < (y.length : Int)) (h : Txt.isascii y = true ∧ Txt.isdigit y = true) (h1 : ¬ (⟨#[y.cps.toList.headD 0]⟩ : Str) = Str.ofString "0" ∨ y = Str.ofString "0") : figI 400 y = some ((digitsVal y.cps.toList : Nat) : Int) := by
  have : (decide (y.cps.toList.headD 0 = 48) && decide (1 < y.cps.toList.length)) = false := by
    rcases h1 with h1 | h1
    · rw [decide_eq_false fun z => h1 (sgn_zero.mpr z)]; rfl
    · rw [decide_eq_false ((one_zero h).mpr h1).2, Bool.and_false]
  unfold figI
  rw [fig_okd h, this, decide_eq_true (by omega)]; rfl
/-! ### numbers as texts -/
theorem num_head : ∀ n : Nat, n ≠ 0 → (numL n).head? ≠ some 48 := fun n => by
  induction n using Nat.strongRecOn with
  | _ n ih =>
    intro hn
    by_cases h : n < 10
    · rw [numL_lt h]
      intro e
      have : 48 + n = 48 := Option.some.inj e
      omega
    · rw [numL_step (by omega)]
      have hne := numL_ne (n / 10)
      have := ih (n / 10) (by omega) (by omega)
      cases hl : numL (n / 10) with
      | nil => exact absurd hl hne
      | cons c r =>
        rw [hl] at this
        exact this
theorem num_ok (n : Nat) : figOk (numL n) = true := by
  unfold figOk
  have h1 : (numL n).all digC = true := by
    rw [List.all_eq_true]
    intro c hc
    have := numL_digits n c hc
    unfold digC
    rw [decide_eq_true this.1, decide_eq_true this.2]; rfl
  have h2 : (numL n).isEmpty = false := by
    cases h : numL n with
    | nil => exact absurd h (numL_ne n)
    | cons c r => rfl
  rw [h1, h2]
  by_cases h0 : n = 0
  · subst h0
    rw [numL_lt (by decide)]; rfl
  · have h3 := num_head n h0
    have : ((numL n).head? == some 48) = false := by
      cases h : (numL n).head? == some 48 with
      | false => rfl
      | true => exact absurd (eq_of_beq h) h3
    rw [this]; rfl
/-- the text of a number that isn't below nought -/
theorem fig_num {m k : Nat} {a : Int} (h0 : 0 ≤ a) (hk : 0 < k) (h : a.natAbs < 10 ^ k) (hm : k ≤ m) : figI m (Str.ofString (toString a)) = some a := by
  obtain ⟨n, rfl⟩ := Int.eq_ofNat_of_zero_le h0
  rw [Int.natAbs_natCast] at h
  have e : (Str.ofString (toString ((n : Nat) : Int))).cps.toList = numL n := tl_num n
  unfold figI
  rw [e, num_ok, Bool.and_true, decide_eq_true (by rw [len_list, e]; exact Nat.le_trans (numL_len hk h) hm), if_pos rfl, numL_val]
theorem num_slash (a : Int) (h0 : 0 ≤ a) : (47 : Nat) ∉ (Str.ofString (toString a)).cps.toList := by
  obtain ⟨n, rfl⟩ := Int.eq_ofNat_of_zero_le h0
  have e : (Str.ofString (toString ((n : Nat) : Int))).cps.toList = numL n := tl_num n
  rw [e]
  exact numL_free (.inl (by decide))
def shareText (a b : Int) : Str := Str.ofString (toString a) ++ Str.ofString "/" ++ Str.ofString (toString b)
theorem share_back {a b : Int} (ha : 0 ≤ a) (hb : 0 < b) (h1 : a.natAbs < 10 ^ 100) (h2 : b.natAbs < 10 ^ 100) (hg : gcdI a b = 1) : shareIn (shareText a b) = some (a, b) := by
  unfold shareIn shareText
  rw [partition_app slash_signs (num_slash a ha)]
  show (match figI 400 (Str.ofString (toString a)), figI 400 (Str.ofString (toString b)) with
    | some n, some p => if p = 0 then none else some (redI n p)
    | _, _ => none) = _
  rw [fig_num ha (by decide) h1 (by decide), fig_num (by omega) (by decide) h2 (by decide)]
  show (if b = 0 then none else some (redI a b)) = _
  rw [if_neg (by omega), red_low hb hg]
theorem len_num {a : Int} (h0 : 0 ≤ a) (h : Bd 100 a) : (Str.ofString (toString a)).length ≤ 100 := by
  obtain ⟨n, rfl⟩ := Int.eq_ofNat_of_zero_le h0
  unfold Bd at h
  rw [Int.natAbs_natCast] at h
  rw [len_list, show (Str.ofString (toString ((n : Nat) : Int))).cps.toList = numL n from tl_num n]
  exact numL_len (by decide) (Nat.lt_of_lt_of_le h (Nat.pow_le_pow_left (by decide) 100))
theorem len_slash : (Str.ofString "/").length = 1 := by decide +kernel
end Sm
set_option Elab.async false
set_option linter.all false
set_option maxRecDepth 100000
set_option maxHeartbeats 4000000
set_option exponentiation.threshold 20000
open PySem L2 Dl
local macro_rules
  | `(tactic| ktf_call "tt") => `(tactic| ((with_reducible apply Tt.mk); first | rfl | (intro _; rfl) | (intro _ _; rfl) | decide))
local macro_rules
  | `(tactic| ktf_call "sg") => `(tactic| ((with_reducible apply Sg.mk); first | (simp only [List.set]; exact rfl) | (simp only [List.set]; done) | exact rfl))
local macro_rules
  | `(tactic| ktf_call "xecn") => `(tactic| with_reducible first
    | refine' xe_call (by assumption) (by assumption) ?_ ?_ ?_ ?_
    | refine' xe_len (by assumption) ?_ ?_ ?_ ?_
    | refine' xe_isi (by assumption) (by assumption) ?_ ?_ ?_ ?_
    | refine' xe_call0 (by assumption) (by assumption) ?_
    | refine' xe_abs (by assumption) ?_ ?_ ?_
    | refine' xe_str (by assumption) ?_ ?_ ?_ ?_
    | refine' xe_int (by assumption) ?_ ?_ ?_ ?_
    | refine' xe_sorted (by assumption) ?_ ?_ ?_ ?_
    | refine' xe_gcd (by assumption) ?_ ?_ ?_ ?_ ?_
    | refine' xe_min ?_ (by assumption) ?_ ?_ ?_ ?_ ?_
    | refine' xe_max ?_ (by assumption) ?_ ?_ ?_ ?_ ?_)
local macro_rules
  | `(tactic| ktf_call "xeca") => `(tactic| with_reducible first
    | refine' xe_partF (by assumption) ?_ ?_ ?_ ?_ ?_ ?_ ?_ ?_ ?_
    | refine' xe_partition ?_ ?_ ?_ ?_ ?_ ?_ ?_ ?_ ?_
    | refine' xe_split ?_ ?_ ?_ ?_ ?_ ?_ ?_ ?_ ?_
    | refine' xe_join ?_ ?_ ?_ ?_ ?_ ?_ ?_ ?_ ?_
    | refine' xe_isdigit ?_ ?_ ?_
    | refine' xe_isascii ?_ ?_ ?_
    | refine' xe_upper ?_ ?_ ?_ ?_)
local macro_rules
  | `(tactic| ktf_call "xe") => `(tactic| first
    | ((with_reducible show Xp _ _ _ (.Name _ _) _); with_reducible first | refine' xe_var (by assumption) ?_ | refine' xp_cn (by assumption) (by assumption))
    | ((with_reducible show Xp _ _ _ (.Constant _ _ _) _); with_reducible first | exact xp_int | exact xp_str | exact xp_bl | exact xp_non)
    | ((with_reducible show Xp _ _ _ (.Call (.Name _ _) _ _ _) _); ktf_call "xecn")
    | ((with_reducible show Xp _ _ _ (.Call (.Attribute _ _ _) _ _ _) _); ktf_call "xeca")
    | ((with_reducible show Xp _ _ _ (.BinOp _ _ _ _) _); with_reducible first | refine' xe_add ?_ ?_ ?_ | refine' xe_mul ?_ ?_ ?_ | refine' xe_sub ?_ ?_ | refine' xe_mod ?_ ?_ ?_ | refine' xe_fdiv ?_ ?_ ?_ | refine' xe_pow ?_ ?_ ?_)
    | with_reducible first
      | refine' xe_sl ?_ ?_ ?_ ?_
      | refine' xe_ix ?_ ?_ ?_ ?_
      | refine' xe_cmp ?_ ?_ ?_ ?_
      | refine' xe_chain ?_ ?_ ?_ ?_ ?_ ?_
      | refine' xe_tup ?_ ?_
      | refine' xp_not ?_
      | refine' xp_one ?_
      | refine' xe_and ?_ ?_
      | refine' xp_or ?_ ?_
      | refine' xp_if ?_ ?_ ?_
      | refine' xe_lst ?_ ?_
      | exact xe_dict0
      | refine' xp_neg ?_
      | refine' xp_joined ?_
      | refine' xe_fmt ?_ ?_)
local macro_rules
  | `(tactic| ktf_call "xck") => `(tactic| with_reducible first
    | exact ck_lt | exact ck_gt | exact ck_le | exact ck_ge | exact ck_eqi | exact ck_nei | exact ck_eqs | exact ck_nes | exact ck_eqb | exact ck_neb | exact ck_isN | exact ck_notN | exact ck_isB | exact ck_notB | exact ck_inS | exact ck_ninS | refine' ck_inL ?_ ?_ | refine' ck_inT ?_ ?_ | refine' ck_ninL ?_ ?_ | refine' ck_ninT ?_ ?_ | refine' ck_eqd (by assumption) ?_ ?_ | refine' ck_ned (by assumption) ?_ ?_)
local macro_rules
  | `(tactic| ktf_call "xd") => `(tactic| first
    | ((with_reducible show CmpOk _ _ _ _ _); ktf_call "xck")
    | ((with_reducible show IxD _ _ _); with_reducible first | refine' IxD.lst ?_ | refine' IxD.tup ?_ | refine' IxD.str ?_ ?_)
    | with_reducible first
      | exact AddD.int | refine' AddD.str ?_ | refine' AddD.lst ?_ | refine' AddD.tup ?_
      | refine' MulD.int ?_ | refine' MulD.str ?_ | (exact FdivD.lit (by decide)) | refine' FdivD.gen ?_ | exact sortD2
      | exact LenD.lst | exact LenD.tup | refine' LenD.str ?_
      | exact TruD.bl | exact TruD.int | exact TruD.non | refine' TruD.str ?_ | exact TruD.lst | exact TruD.tup
      | exact SlD.lst | refine' SlD.str ?_
      | exact IntD.bl | refine' IntD.str ?_ ?_
      | exact UnpD.tup | exact UnpD.lst
      | exact ItrD.lst | exact ItrD.tup | exact ItrD.str
      | refine' FmtD.str ?_ | refine' FmtD.int ?_)
local macro_rules
  | `(tactic| ktf_call "xa") => `(tactic| first
    | ((with_reducible show Xa _ _ _ _ _); with_reducible first | exact xa_nil | refine' xae_cons ?_ ?_ ?_)
    | with_reducible first
      | exact xo_none | refine' xo_some ?_ | exact xj_nil | refine' xje_cons ?_ ?_ ?_ | exact xgs_nil | refine' xgse_cons ?_ ?_ ?_ | refine' xge_name (by assumption) ?_ | refine' xge_tup ?_ ?_ ?_ ?_ ?_ | exact xq_nil | refine' xq_one ?_
      | refine' xie_rng1 (by assumption) ?_ ?_ ?_ | refine' xie_rng2 (by assumption) ?_ ?_ ?_ ?_ ?_ ?_ | refine' xie_enum (by assumption) ?_ ?_ | refine' xie_any ?_ ?_)
local macro_rules
  | `(tactic| ktf_call "xt") => `(tactic| with_reducible first
    | refine' xte_cmp ?_ ?_ ?_ ?_ | refine' xte_chain ?_ ?_ ?_ ?_ ?_ ?_ | refine' xt_not ?_ | refine' xt_w ?_ | refine' xw_and1 ?_ | refine' xw_or1 ?_ | refine' xw_and ?_ ?_ | refine' xw_or ?_ ?_ | refine' xt_any ?_ ?_ ?_)
local macro_rules
  | `(tactic| ktf_call "xs") => `(tactic| with_reducible first
    | refine' xse_set (by assumption) ?_ ?_ ?_ ?_ | refine' xs_ret ?_ ?_ | refine' xs_if ?_ ?_ ?_ | refine' xse_aug (by assumption) ?_ ?_ ?_ ?_
    | refine' xse_par ?_ (by assumption) (by assumption) ?_ ?_ ?_ ?_ ?_ ?_ ?_ ?_ | refine' xse_unp ?_ ?_ ?_ ?_ ?_ ?_ ?_ ?_ ?_ ?_ ?_ | refine' xse_app (by assumption) ?_ ?_ ?_ ?_ ?_ ?_ ?_ ?_ ?_ ?_ ?_
    | refine' xs_brk ?_ | refine' xs_cont ?_ | refine' xs_retN ?_ | refine' xs_pass ?_)
local macro_rules
  | `(tactic| ktf_call "xo") => `(tactic| with_reducible first
    | refine' seq_nx ?_ | refine' seq_rt ?_ | refine' seq_bk ?_ | refine' seq_ct ?_ | refine' wh_nx ?_ | refine' wh_rt ?_ | refine' wh_bk ?_ | refine' wh_ct ?_ | refine' turn_nx ?_ | refine' turn_rt ?_ | refine' turn_bk ?_ | refine' turn_ct ?_ | (refine' ret_rt ?_; try with_reducible rfl))
local macro_rules
  | `(tactic| ktf_call "xb") => `(tactic| first
    | (with_reducible refine' xb_nil ?_) | (with_reducible refine' xbe_one ?_) | (with_reducible refine' xbe_cons ?_) | refine' xbe_cons ?_)
local macro_rules
  | `(tactic| ktf_call "xi") => `(tactic| first
    | ((with_reducible show decide _ = true → _); first | exact (fun h => absurd h (by decide)) | (refine fun h => absurd (of_decide_eq_true h) ?_; with_reducible assumption) | (refine fun h => (fun h' => ?_) (of_decide_eq_true h); clear h))
    | ((with_reducible show decide _ = false → _); first | exact (fun h => absurd h (by decide)) | (refine fun h => absurd ?_ (of_decide_eq_false h); with_reducible assumption) | (refine fun h => (fun h' => ?_) (of_decide_eq_false h); clear h))
    | exact (fun h => absurd (show false = true from h) Bool.false_ne_true)
    | exact (fun h => absurd (show false = true from h.symm) Bool.false_ne_true)
    | (intro h; try simp only [Bool.not_eq_true', Bool.not_eq_false', Bool.and_eq_true, Bool.or_eq_true, Bool.and_eq_false_iff, Bool.or_eq_false_iff, decide_eq_true_eq, decide_eq_false_iff_not, Bool.not_true, Bool.not_false, Bool.false_eq_true, Bool.true_eq_false, and_false, false_and, and_true, true_and, or_false, false_or, reduceCtorEq] at h))
local macro_rules
  | `(tactic| ktf_call "il") => `(tactic| first | exact IntsL.nil | exact StrsL.nil | ((with_reducible apply IntsL.cons); ktf_call "il") | ((with_reducible apply StrsL.cons); ktf_call "il"))
local macro_rules
  | `(tactic| ktf_call "at") => `(tactic| first
    | with_reducible exact at_0 | with_reducible exact at_1 | with_reducible exact at_2
    | (refine' at_ints (by ktf_call "il") ?_; (apply Side.mk; simp only [List.length_cons, List.length_nil]; omega))
    | (refine' at_strs (by ktf_call "il") ?_; (apply Side.mk; simp only [List.length_cons, List.length_nil]; omega))
    | (refine' at_any ?_; (apply Side.mk; simp only [List.length_cons, List.length_nil, List.cons_append, List.nil_append]; omega)))
local macro_rules
  | `(tactic| ktf_call "side") => `(tactic| first
    | with_reducible assumption
    | ((with_reducible show Side (atI _ _ = _)); ktf_call "at")
    | ((with_reducible show Side (CMulW _ _)); exact side_mul64 (by omega))
    | ((with_reducible show Side (CDivG _ _)); exact side_fdiv64 (by omega))
    | ((with_reducible show Side (CPow _ _)); exact ⟨⟨by decide, by decide, by decide⟩⟩)
    | ((with_reducible show Side (SeqAt.shaped _ = true)); exact ⟨rfl⟩)
    | ((with_reducible apply Side.mk); first | omega | decide))
local macro_rules
  | `(tactic| ktf_call "x1") => `(tactic| ((with_reducible show (_ : Prop)); first
    | ktf_call "tt"
    | ((with_reducible show Xp _ _ _ _ _); ktf_call "xe")
    | ((with_reducible show Xs _ _ _ _ _); ktf_call "xs")
    | ((with_reducible show Xb _ _ _ _ _); ktf_call "xb")
    | ktf_call "sg" | ktf_call "xa" | ktf_call "xt" | ktf_call "xo" | ktf_call "xd" | ktf_call "side" | ktf_call "cal" | ((with_reducible show _ = _ → _); ktf_call "xi")))
local macro_rules
  | `(tactic| ktf_call "xf") => `(tactic| all_goals first | ((with_reducible show Bool); exact false) | skip)
local macro_rules
  | `(tactic| ktf_call "x") => `(tactic| repeat' ktf_call "x1")

namespace K1
open PySem L2 Dl
def topS (i : Nat) : Stmt := PySem.Challenge.pw_faultwood_k01_shares.main.body.getD i (.Pass ⟨0, 0, 0, 0⟩)
abbrev s_is_whole : Stmt := topS 3
abbrev n_is_whole : List Str := ["thing"]
theorem f_is_whole : scF2 n_is_whole ["thing"] ["isinstance", "int", "bool"] s_is_whole = true := by decide +kernel
theorem c_is_whole : FnScope n_is_whole ["thing"] (defScope s_is_whole) := ⟨rfl, rfl, rfl, by decide +kernel, rfl, by decide +kernel, by decide +kernel⟩
abbrev s_is_share : Stmt := topS 4
abbrev n_is_share : List Str := ["thing"]
theorem f_is_share : scF2 n_is_share ["thing"] ["isinstance", "tuple", "len", "is_whole", "gcd"] s_is_share = true := by decide +kernel
theorem c_is_share : FnScope n_is_share ["thing"] (defScope s_is_share) := ⟨rfl, rfl, rfl, by decide +kernel, rfl, by decide +kernel, by decide +kernel⟩
abbrev s_share : Stmt := topS 5
abbrev n_share : List Str := ["number", "parts", "common"]
theorem f_share : scF2 n_share ["number", "parts", "common"] ["gcd"] s_share = true := by decide +kernel
theorem c_share : FnScope n_share ["number", "parts"] (defScope s_share) := ⟨rfl, rfl, rfl, by decide +kernel, rfl, by decide +kernel, by decide +kernel⟩
abbrev s_plus : Stmt := topS 6
abbrev n_plus : List Str := ["one", "other"]
theorem f_plus : scF2 n_plus ["one", "other"] ["share"] s_plus = true := by decide +kernel
theorem c_plus : FnScope n_plus ["one", "other"] (defScope s_plus) := ⟨rfl, rfl, rfl, by decide +kernel, rfl, by decide +kernel, by decide +kernel⟩
abbrev s_minus : Stmt := topS 7
abbrev n_minus : List Str := ["one", "other"]
theorem f_minus : scF2 n_minus ["one", "other"] ["share"] s_minus = true := by decide +kernel
theorem c_minus : FnScope n_minus ["one", "other"] (defScope s_minus) := ⟨rfl, rfl, rfl, by decide +kernel, rfl, by decide +kernel, by decide +kernel⟩
abbrev s_times : Stmt := topS 8
abbrev n_times : List Str := ["one", "other"]
theorem f_times : scF2 n_times ["one", "other"] ["share"] s_times = true := by decide +kernel
theorem c_times : FnScope n_times ["one", "other"] (defScope s_times) := ⟨rfl, rfl, rfl, by decide +kernel, rfl, by decide +kernel, by decide +kernel⟩
abbrev s_over : Stmt := topS 9
abbrev n_over : List Str := ["one", "other"]
theorem f_over : scF2 n_over ["one", "other"] ["share"] s_over = true := by decide +kernel
theorem c_over : FnScope n_over ["one", "other"] (defScope s_over) := ⟨rfl, rfl, rfl, by decide +kernel, rfl, by decide +kernel, by decide +kernel⟩
abbrev s_less : Stmt := topS 10
abbrev n_less : List Str := ["one", "other"]
theorem f_less : scF2 n_less ["one", "other"] [] s_less = true := by decide +kernel
theorem c_less : FnScope n_less ["one", "other"] (defScope s_less) := ⟨rfl, rfl, rfl, by decide +kernel, rfl, by decide +kernel, by decide +kernel⟩
abbrev s_share_text : Stmt := topS 11
abbrev n_share_text : List Str := ["one"]
theorem f_share_text : scF2 n_share_text ["one"] [] s_share_text = true := by decide +kernel
theorem c_share_text : FnScope n_share_text ["one"] (defScope s_share_text) := ⟨rfl, rfl, rfl, by decide +kernel, rfl, by decide +kernel, by decide +kernel⟩
abbrev s_figures_in : Stmt := topS 12
abbrev n_figures_in : List Str := ["text"]
theorem f_figures_in : scF2 n_figures_in ["text"] ["len", "MOST_FIGURES", "int"] s_figures_in = true := by decide +kernel
theorem c_figures_in : FnScope n_figures_in ["text"] (defScope s_figures_in) := ⟨rfl, rfl, rfl, by decide +kernel, rfl, by decide +kernel, by decide +kernel⟩
abbrev s_share_in : Stmt := topS 13
abbrev n_share_in : List Str := ["text", "ahead", "_", "behind", "number", "parts"]
theorem f_share_in : scF2 n_share_in ["text", "ahead", "_", "behind", "number", "parts"] ["isinstance", "str", "figures_in", "share"] s_share_in = true := by decide +kernel
theorem c_share_in : FnScope n_share_in ["text"] (defScope s_share_in) := ⟨rfl, rfl, rfl, by decide +kernel, rfl, by decide +kernel, by decide +kernel⟩
abbrev s_law_mixed : Stmt := topS 15
abbrev n_law_mixed : List Str := ["_law_cell", "_law_k", "_law_number"]
theorem f_law_mixed : scF2 n_law_mixed ["_law_cell", "_law_k", "_law_number"] [] s_law_mixed = true := by decide +kernel
theorem c_law_mixed : FnScope n_law_mixed ["_law_cell", "_law_k"] (defScope s_law_mixed) := ⟨rfl, rfl, rfl, by decide +kernel, rfl, by decide +kernel, by decide +kernel⟩
abbrev s_law_pair : Stmt := topS 16
abbrev n_law_pair : List Str := ["_law_number", "_law_one", "_law_other"]
theorem f_law_pair : scF2 n_law_pair ["_law_number", "_law_one", "_law_other"] [] s_law_pair = true := by decide +kernel
theorem c_law_pair : FnScope n_law_pair ["_law_number"] (defScope s_law_pair) := ⟨rfl, rfl, rfl, by decide +kernel, rfl, by decide +kernel, by decide +kernel⟩
abbrev s_law_divides : Stmt := topS 17
abbrev n_law_divides : List Str := ["_law_one", "_law_other", "_law_small", "_law_great"]
theorem f_law_divides : scF2 n_law_divides ["_law_one", "_law_other", "_law_small", "_law_great"] ["sorted", "abs"] s_law_divides = true := by decide +kernel
theorem c_law_divides : FnScope n_law_divides ["_law_one", "_law_other"] (defScope s_law_divides) := ⟨rfl, rfl, rfl, by decide +kernel, rfl, by decide +kernel, by decide +kernel⟩
abbrev s_law_least : Stmt := topS 18
abbrev n_law_least : List Str := ["_law_one", "_law_other", "_law_more"]
theorem f_law_least : scF2 n_law_least ["_law_one", "_law_other", "_law_more"] ["_law_divides"] s_law_least = true := by decide +kernel
theorem c_law_least : FnScope n_law_least ["_law_one", "_law_other"] (defScope s_law_least) := ⟨rfl, rfl, rfl, by decide +kernel, rfl, by decide +kernel, by decide +kernel⟩
abbrev s_law_is : Stmt := topS 19
abbrev n_law_is : List Str := ["_law_found", "_law_due"]
theorem f_law_is : scF2 n_law_is ["_law_found", "_law_due"] ["isinstance", "tuple", "bool"] s_law_is = true := by decide +kernel
theorem c_law_is : FnScope n_law_is ["_law_found", "_law_due"] (defScope s_law_is) := ⟨rfl, rfl, rfl, by decide +kernel, rfl, by decide +kernel, by decide +kernel⟩
abbrev s_law_right : Stmt := topS 20
abbrev n_law_right : List Str := ["_law_first", "_law_second", "_law_one", "_law_other", "_law_above", "_law_beneath", "_law_both", "_law_told"]
theorem f_law_right : scF2 n_law_right ["_law_first", "_law_second", "_law_one", "_law_other", "_law_above", "_law_beneath", "_law_both", "_law_told"] ["_law_least", "_law_is", "share", "is_share", "plus", "minus", "times", "over", "less", "isinstance", "bool"] s_law_right = true := by decide +kernel
theorem c_law_right : FnScope n_law_right ["_law_first", "_law_second"] (defScope s_law_right) := ⟨rfl, rfl, rfl, by decide +kernel, rfl, by decide +kernel, by decide +kernel⟩
abbrev s_law_figures : Stmt := topS 21
abbrev n_law_figures : List Str := ["_law_text_here", "_law_bad", "_law_sign"]
theorem f_law_figures : scF2 n_law_figures ["_law_text_here", "_law_bad"] ["len", "int"] s_law_figures = true := by decide +kernel
theorem c_law_figures : FnScope n_law_figures ["_law_text_here"] (defScope s_law_figures) := ⟨rfl, rfl, rfl, by decide +kernel, rfl, by decide +kernel, by decide +kernel⟩
abbrev s_law_text : Stmt := topS 22
abbrev n_law_text : List Str := ["_law_number", "_law_head", "_law_sign", "_law_tail", "_law_size", "_law_one"]
theorem f_law_text : scF2 n_law_text ["_law_number", "_law_head", "_law_sign", "_law_tail", "_law_size", "_law_one"] ["str"] s_law_text = true := by decide +kernel
theorem c_law_text : FnScope n_law_text ["_law_number"] (defScope s_law_text) := ⟨rfl, rfl, rfl, by decide +kernel, rfl, by decide +kernel, by decide +kernel⟩
abbrev s_law_texts_right : Stmt := topS 23
abbrev n_law_texts_right : List Str := ["_law_number", "_law_text_here", "_law_above", "_law_sign", "_law_beneath", "_law_due", "_law_found", "_law_told"]
theorem f_law_texts_right : scF2 n_law_texts_right ["_law_number", "_law_text_here", "_law_above", "_law_sign", "_law_beneath", "_law_due", "_law_found", "_law_told"] ["_law_text", "_law_figures", "_law_least", "share_in", "_law_is", "figures_in", "is_whole"] s_law_texts_right = true := by decide +kernel
theorem c_law_texts_right : FnScope n_law_texts_right ["_law_number"] (defScope s_law_texts_right) := ⟨rfl, rfl, rfl, by decide +kernel, rfl, by decide +kernel, by decide +kernel⟩
abbrev s_law : Stmt := topS 24
abbrev n_law : List Str := ["_law_script", "_law_odd", "_law_k", "_law_cell", "_law_first", "_law_second", "_law_one"]
theorem f_law : scF2 n_law ["_law_script", "_law_odd", "_law_k", "_law_cell", "_law_first", "_law_second", "_law_one"] ["enumerate", "_law_pair", "_law_mixed", "_law_right", "is_share", "_law_texts_right", "_law_least", "abs", "share_text", "str", "_law_is", "share_in", "is_whole"] s_law = true := by decide +kernel
theorem c_law : FnScope n_law ["_law_script"] (defScope s_law) := ⟨rfl, rfl, rfl, by decide +kernel, rfl, by decide +kernel, by decide +kernel⟩
/-- what the module's names hold -/
structure Mg (mg : Str → Option Value) : Prop where
  m_isinstance : mg "isinstance" = none
  m_int : mg "int" = none
  m_bool : mg "bool" = none
  m_tuple : mg "tuple" = none
  m_len : mg "len" = none
  m_str : mg "str" = none
  m_sorted : mg "sorted" = none
  m_abs : mg "abs" = none
  m_enumerate : mg "enumerate" = none
  m_gcd : mg "gcd" = some (.builtin "math.gcd")
variable {P : Program} {w : World} {K : PySem.W.Frag} {mg : Str → Option Value} {base : Heap}
open Sm TL PySem.NumText
/-! ### what each def promises -/
abbrev d_MOST_FIGURES : PyData := .int 400
def r_is_whole : List PyData → PyData → Prop := fun ds d => ∃ x, ds = [x] ∧ d = .bool (isWhole x)
def r_is_share : List PyData → PyData → Prop := fun ds d => ∃ x, ds = [x] ∧ d = .bool (isShare x)
def r_share : List PyData → PyData → Prop := fun ds d => ∃ n p, ds = [.int n, .int p] ∧ p ≠ 0 ∧ Bd 8000 n ∧ Bd 8000 p ∧ d = pairD (redI n p)
def r_plus : List PyData → PyData → Prop := fun ds d => ∃ a b c e, ds = [.tuple [.int a, .int b], .tuple [.int c, .int e]] ∧ b ≠ 0 ∧ e ≠ 0 ∧ Bd 1000 a ∧ Bd 1000 b ∧ Bd 1000 c ∧ Bd 1000 e ∧ d = pairD (redI (a * e + c * b) (b * e))
def r_minus : List PyData → PyData → Prop := fun ds d => ∃ a b c e, ds = [.tuple [.int a, .int b], .tuple [.int c, .int e]] ∧ b ≠ 0 ∧ e ≠ 0 ∧ Bd 1000 a ∧ Bd 1000 b ∧ Bd 1000 c ∧ Bd 1000 e ∧ d = pairD (redI (a * e - c * b) (b * e))
def r_times : List PyData → PyData → Prop := fun ds d => ∃ a b c e, ds = [.tuple [.int a, .int b], .tuple [.int c, .int e]] ∧ b ≠ 0 ∧ e ≠ 0 ∧ Bd 1000 a ∧ Bd 1000 b ∧ Bd 1000 c ∧ Bd 1000 e ∧ d = pairD (redI (a * c) (b * e))
def r_over : List PyData → PyData → Prop := fun ds d => ∃ a b c e, ds = [.tuple [.int a, .int b], .tuple [.int c, .int e]] ∧ b ≠ 0 ∧ c ≠ 0 ∧ Bd 1000 a ∧ Bd 1000 b ∧ Bd 1000 c ∧ Bd 1000 e ∧ d = pairD (redI (a * e) (b * c))
def r_less : List PyData → PyData → Prop := fun ds d => ∃ a b c e, ds = [.tuple [.int a, .int b], .tuple [.int c, .int e]] ∧ Bd 1000 a ∧ Bd 1000 b ∧ Bd 1000 c ∧ Bd 1000 e ∧ d = .bool (decide (a * e < c * b))
def r_share_text : List PyData → PyData → Prop := fun ds d => ∃ a b, ds = [.tuple [.int a, .int b]] ∧ 0 ≤ a ∧ 0 ≤ b ∧ Bd 100 a ∧ Bd 100 b ∧ d = .str (shareText a b)
def r_figures_in : List PyData → PyData → Prop := fun ds d => ∃ y, ds = [.str y] ∧ y.length ≤ 100000 ∧ d = optI (figI 400 y)
def shareInD : PyData → PyData
  | .str y => optP (shareIn y)
  | _ => .none
def strLe : PyData → Prop
  | .str y => y.length ≤ 100000
  | _ => True
def r_share_in : List PyData → PyData → Prop := fun ds d => ∃ x, ds = [x] ∧ strLe x ∧ d = shareInD x
def mixI (c k : Int) : Int := (c % 1000000007 + 31 * k * k + 7) * 48271 % 2147483647 * (16807 + 7919 * k) % 2147483629
def r_law_mixed : List PyData → PyData → Prop := fun ds d => ∃ c k, ds = [.int c, .int k] ∧ 0 ≤ k ∧ k ≤ 20 ∧ d = .int (mixI c k)
def r_law_divides : List PyData → PyData → Prop := fun ds d => ∃ a b, ds = [.int a, .int b] ∧ Bd 8000 a ∧ Bd 8000 b ∧ d = .int (gcdI a b)
def r_law_least : List PyData → PyData → Prop := fun ds d => ∃ a b, ds = [.int a, .int b] ∧ b ≠ 0 ∧ Bd 8000 a ∧ Bd 8000 b ∧ d = pairD (redI a b)
def r_law_is : List PyData → PyData → Prop := fun ds d => ∃ a b c e, ds = [.tuple [.int a, .int b], .tuple [.int c, .int e]] ∧ ∃ p : Bool, (p = true ↔ a = c ∧ b = e) ∧ d = .bool p
def r_law_right : List PyData → PyData → Prop := fun ds d => ∃ a b c e, ds = [.tuple [.int a, .int b], .tuple [.int c, .int e]] ∧ b ≠ 0 ∧ e ≠ 0 ∧ Bd 100 a ∧ Bd 100 b ∧ Bd 100 c ∧ Bd 100 e ∧ d = .bool true
/-! ### calls -/
local macro_rules
  | `(tactic| ktf_call "cal") => `(tactic| first
    | with_reducible assumption
    | ((with_reducible show Cal r_is_whole _ _); exact ⟨⟨_, rfl, rfl⟩⟩)
    | ((with_reducible show Cal r_is_share _ _); exact ⟨⟨_, rfl, rfl⟩⟩)
    | ((with_reducible show Cal r_share _ _); refine' ⟨⟨_, _, rfl, ?_, ?_, ?_, rfl⟩⟩)
    | ((with_reducible show Cal r_plus _ _); refine' ⟨⟨_, _, _, _, rfl, ?_, ?_, ?_, ?_, ?_, ?_, rfl⟩⟩)
    | ((with_reducible show Cal r_minus _ _); refine' ⟨⟨_, _, _, _, rfl, ?_, ?_, ?_, ?_, ?_, ?_, rfl⟩⟩)
    | ((with_reducible show Cal r_times _ _); refine' ⟨⟨_, _, _, _, rfl, ?_, ?_, ?_, ?_, ?_, ?_, rfl⟩⟩)
    | ((with_reducible show Cal r_over _ _); refine' ⟨⟨_, _, _, _, rfl, ?_, ?_, ?_, ?_, ?_, ?_, rfl⟩⟩)
    | ((with_reducible show Cal r_less _ _); refine' ⟨⟨_, _, _, _, rfl, ?_, ?_, ?_, ?_, rfl⟩⟩)
    | ((with_reducible show Cal r_law_divides _ _); refine' ⟨⟨_, _, rfl, ?_, ?_, rfl⟩⟩)
    | ((with_reducible show Cal r_law_least _ _); refine' ⟨⟨_, _, rfl, ?_, ?_, ?_, rfl⟩⟩)
    | ((with_reducible show Cal r_figures_in _ _); refine' ⟨⟨_, rfl, ?_, rfl⟩⟩)
    | ((with_reducible show Cal r_share_in _ _); refine' ⟨⟨_, rfl, ?_, rfl⟩⟩)
    | ((with_reducible show Cal r_share_text _ _); refine' ⟨⟨_, _, rfl, ?_, ?_, ?_, ?_, rfl⟩⟩)
    | ((with_reducible show Cal r_law_mixed _ _); refine' ⟨⟨_, _, rfl, ?_, ?_, rfl⟩⟩)
    | ((with_reducible show Cal r_law_is _ _); refine' ⟨⟨_, _, _, _, rfl, true, ?_, rfl⟩⟩))
/-! ### defs -/
theorem ok_is_whole {f : Addr} {fd : FuncData} (F : Fun K "is_whole" "is_whole" s_is_whole f fd) (hm : mg "is_whole" = some (.ref f)) (T : Mg mg) : Dn P w K mg base 1 "is_whole" r_is_whole := by
  refine dn_of F hm (F.binds (ps := ["thing"]) fun _ _ _ _ _ _ us hl => match us, hl with | [_], _ => rfl) ?_
  refine fn_ok F c_is_whole (fun ds d hR => ?_) fun cdv A outer s H E B ds d hr hR => ?_
  · obtain ⟨x, rfl, rfl⟩ := hR
    rfl
  obtain ⟨x, rfl, rfl⟩ := hR
  have r0 : Rk (Xc P w K mg base n_is_whole "is_whole" s_is_whole f cdv A outer s H E) 0 "thing" := rk_of2 f_is_whole rfl (by decide +kernel)
  have l0 : Lk (Xc P w K mg base n_is_whole "is_whole" s_is_whole f cdv A outer s H E) 0 "thing" := lk_of2 f_is_whole rfl (by decide +kernel)
  have b0 : Bi (Xc P w K mg base n_is_whole "is_whole" s_is_whole f cdv A outer s H E) "isinstance" := ⟨(gl_of2 f_is_whole (by decide +kernel)), T.m_isinstance⟩
  have b1 : Bi (Xc P w K mg base n_is_whole "is_whole" s_is_whole f cdv A outer s H E) "int" := ⟨(gl_of2 f_is_whole (by decide +kernel)), T.m_int⟩
  have t1 : Ty (Xc P w K mg base n_is_whole "is_whole" s_is_whole f cdv A outer s H E) "int" .int := ⟨b1, by decide +kernel, by decide +kernel, by decide +kernel⟩
  have b2 : Bi (Xc P w K mg base n_is_whole "is_whole" s_is_whole f cdv A outer s H E) "bool" := ⟨(gl_of2 f_is_whole (by decide +kernel)), T.m_bool⟩
  have t2 : Ty (Xc P w K mg base n_is_whole "is_whole" s_is_whole f cdv A outer s H E) "bool" .bool := ⟨b2, by decide +kernel, by decide +kernel, by decide +kernel⟩
  have rm : Rm (Xc P w K mg base n_is_whole "is_whole" s_is_whole f cdv A outer s H E) := ⟨hr.units⟩
  have hG : startG n_is_whole [x] = [.sh (x)] := rfl
  rw [hG]; clear hG
  cases x <;> (ktf_call "x"; ktf_call "xf"; all_goals rfl)
theorem ok_is_share {f : Addr} {fd : FuncData} (F : Fun K "is_share" "is_share" s_is_share f fd) (hm : mg "is_share" = some (.ref f)) (T : Mg mg) (D_is_whole : Dn P w K mg base 1 "is_whole" r_is_whole) : Dn P w K mg base 2 "is_share" r_is_share := by
  refine dn_of F hm (F.binds (ps := ["thing"]) fun _ _ _ _ _ _ us hl => match us, hl with | [_], _ => rfl) ?_
  refine fn_ok F c_is_share (fun ds d hR => ?_) fun cdv A outer s H E B ds d hr hR => ?_
  · obtain ⟨x, rfl, rfl⟩ := hR
    rfl
  obtain ⟨x, rfl, rfl⟩ := hR
  have r0 : Rk (Xc P w K mg base n_is_share "is_share" s_is_share f cdv A outer s H E) 0 "thing" := rk_of2 f_is_share rfl (by decide +kernel)
  have l0 : Lk (Xc P w K mg base n_is_share "is_share" s_is_share f cdv A outer s H E) 0 "thing" := lk_of2 f_is_share rfl (by decide +kernel)
  have b0 : Bi (Xc P w K mg base n_is_share "is_share" s_is_share f cdv A outer s H E) "isinstance" := ⟨(gl_of2 f_is_share (by decide +kernel)), T.m_isinstance⟩
  have b1 : Bi (Xc P w K mg base n_is_share "is_share" s_is_share f cdv A outer s H E) "tuple" := ⟨(gl_of2 f_is_share (by decide +kernel)), T.m_tuple⟩
  have t1 : Ty (Xc P w K mg base n_is_share "is_share" s_is_share f cdv A outer s H E) "tuple" .tuple := ⟨b1, by decide +kernel, by decide +kernel, by decide +kernel⟩
  have b2 : Bi (Xc P w K mg base n_is_share "is_share" s_is_share f cdv A outer s H E) "len" := ⟨(gl_of2 f_is_share (by decide +kernel)), T.m_len⟩
  have g3 : Gl (Xc P w K mg base n_is_share "is_share" s_is_share f cdv A outer s H E) "is_whole" := (gl_of2 f_is_share (by decide +kernel))
  have c3 : Ce (Xc P w K mg base n_is_share "is_share" s_is_share f cdv A outer s H E) "is_whole" r_is_whole := ce_of D_is_whole hr (by decide) (by decide +kernel)
  have g4 : Gc (Xc P w K mg base n_is_share "is_share" s_is_share f cdv A outer s H E) "gcd" := ⟨(gl_of2 f_is_share (by decide +kernel)), T.m_gcd, by decide +kernel⟩
  have rm : Rm (Xc P w K mg base n_is_share "is_share" s_is_share f cdv A outer s H E) := ⟨hr.units⟩
  have hG : startG n_is_share [x] = [.sh (x)] := rfl
  rw [hG]; clear hG
  cases x with
  | tuple ds =>
    by_cases hl : ds.length = 2
    · match ds, hl with
      | [a, b], _ =>
        by_cases hw : isWhole a = true ∧ isWhole b = true
        · obtain ⟨n, rfl⟩ := whole_is hw.1
          obtain ⟨m, rfl⟩ := whole_is hw.2
          (ktf_call "x"; ktf_call "xf"; all_goals rfl)
        · ktf_call "x"
          ktf_call "xf"
          all_goals first
            | (rename_i h; rw [isShare_no h]; done)
            | (rename_i h; exact absurd h hw)
    · ktf_call "x"
      all_goals first | (rw [isShare_len hl]; done) | (exfalso; omega)
  | _ => (ktf_call "x"; ktf_call "xf"; all_goals rfl)
theorem ok_share {f : Addr} {fd : FuncData} (F : Fun K "share" "share" s_share f fd) (hm : mg "share" = some (.ref f)) (T : Mg mg) : Dn P w K mg base 1 "share" r_share := by
  refine dn_of F hm (F.binds (ps := ["number", "parts"]) fun _ _ _ _ _ _ us hl => match us, hl with | [_, _], _ => rfl) ?_
  refine fn_ok F c_share (fun ds d hR => ?_) fun cdv A outer s H E B ds d hr hR => ?_
  · obtain ⟨n, p, rfl, hp, hn1, hp1, rfl⟩ := hR
    rfl
  obtain ⟨n, p, rfl, hp, hn1, hp1, rfl⟩ := hR
  have r0 : Rk (Xc P w K mg base n_share "share" s_share f cdv A outer s H E) 0 "number" := rk_of2 f_share rfl (by decide +kernel)
  have l0 : Lk (Xc P w K mg base n_share "share" s_share f cdv A outer s H E) 0 "number" := lk_of2 f_share rfl (by decide +kernel)
  have r1 : Rk (Xc P w K mg base n_share "share" s_share f cdv A outer s H E) 1 "parts" := rk_of2 f_share rfl (by decide +kernel)
  have l1 : Lk (Xc P w K mg base n_share "share" s_share f cdv A outer s H E) 1 "parts" := lk_of2 f_share rfl (by decide +kernel)
  have r2 : Rk (Xc P w K mg base n_share "share" s_share f cdv A outer s H E) 2 "common" := rk_of2 f_share rfl (by decide +kernel)
  have l2 : Lk (Xc P w K mg base n_share "share" s_share f cdv A outer s H E) 2 "common" := lk_of2 f_share rfl (by decide +kernel)
  have g0 : Gc (Xc P w K mg base n_share "share" s_share f cdv A outer s H E) "gcd" := ⟨(gl_of2 f_share (by decide +kernel)), T.m_gcd, by decide +kernel⟩
  have rm : Rm (Xc P w K mg base n_share "share" s_share f cdv A outer s H E) := ⟨hr.units⟩
  have hG : startG n_share [.int n, .int p] = [.sh (.int n), .sh (.int p), .un] := rfl
  rw [hG]; clear hG
  have g2 := gcdI_pos (n := n) hp
  have g3 := gcdI_le (n := n) hp
  unfold gcdI at g2 g3
  ktf_call "x"
  all_goals first
    | exact side_fdivB 8000 (by omega) (hp1.le (by omega))
    | (exact congrArg pairD (red_neg (by assumption)))
    | (exact congrArg pairD (red_pos (by assumption)))
theorem ok_plus {f : Addr} {fd : FuncData} (F : Fun K "plus" "plus" s_plus f fd) (hm : mg "plus" = some (.ref f)) (T : Mg mg) (D_share : Dn P w K mg base 1 "share" r_share) : Dn P w K mg base 2 "plus" r_plus := by
  refine dn_of F hm (F.binds (ps := ["one", "other"]) fun _ _ _ _ _ _ us hl => match us, hl with | [_, _], _ => rfl) ?_
  refine fn_ok F c_plus (fun ds d hR => ?_) fun cdv A outer s H E B ds d hr hR => ?_
  · obtain ⟨a, b, c, e, rfl, hb, he, ta, tb, tc, te, rfl⟩ := hR
    rfl
  obtain ⟨a, b, c, e, rfl, hb, he, ta, tb, tc, te, rfl⟩ := hR
  have r0 : Rk (Xc P w K mg base n_plus "plus" s_plus f cdv A outer s H E) 0 "one" := rk_of2 f_plus rfl (by decide +kernel)
  have l0 : Lk (Xc P w K mg base n_plus "plus" s_plus f cdv A outer s H E) 0 "one" := lk_of2 f_plus rfl (by decide +kernel)
  have r1 : Rk (Xc P w K mg base n_plus "plus" s_plus f cdv A outer s H E) 1 "other" := rk_of2 f_plus rfl (by decide +kernel)
  have l1 : Lk (Xc P w K mg base n_plus "plus" s_plus f cdv A outer s H E) 1 "other" := lk_of2 f_plus rfl (by decide +kernel)
  have g0 : Gl (Xc P w K mg base n_plus "plus" s_plus f cdv A outer s H E) "share" := (gl_of2 f_plus (by decide +kernel))
  have c0 : Ce (Xc P w K mg base n_plus "plus" s_plus f cdv A outer s H E) "share" r_share := ce_of D_share hr (by decide) (by decide +kernel)
  have rm : Rm (Xc P w K mg base n_plus "plus" s_plus f cdv A outer s H E) := ⟨hr.units⟩
  have hG : startG n_plus [.tuple [.int a, .int b], .tuple [.int c, .int e]] = [.sh (.tuple [.int a, .int b]), .sh (.tuple [.int c, .int e])] := rfl
  rw [hG]; clear hG
  ktf_call "x"
  all_goals first
    | exact side_mulB 1000 1000 (by assumption) (by assumption)
    | (exfalso; rename_i h; exact Int.mul_ne_zero hb he h)
    | exact Bd.mono (k := 8000) ((ta.mul te).add (tc.mul tb)) (by decide)
    | exact Bd.mono (k := 8000) (tb.mul te) (by decide)
theorem ok_minus {f : Addr} {fd : FuncData} (F : Fun K "minus" "minus" s_minus f fd) (hm : mg "minus" = some (.ref f)) (T : Mg mg) (D_share : Dn P w K mg base 1 "share" r_share) : Dn P w K mg base 2 "minus" r_minus := by
  refine dn_of F hm (F.binds (ps := ["one", "other"]) fun _ _ _ _ _ _ us hl => match us, hl with | [_, _], _ => rfl) ?_
  refine fn_ok F c_minus (fun ds d hR => ?_) fun cdv A outer s H E B ds d hr hR => ?_
  · obtain ⟨a, b, c, e, rfl, hb, he, ta, tb, tc, te, rfl⟩ := hR
    rfl
  obtain ⟨a, b, c, e, rfl, hb, he, ta, tb, tc, te, rfl⟩ := hR
  have r0 : Rk (Xc P w K mg base n_minus "minus" s_minus f cdv A outer s H E) 0 "one" := rk_of2 f_minus rfl (by decide +kernel)
  have l0 : Lk (Xc P w K mg base n_minus "minus" s_minus f cdv A outer s H E) 0 "one" := lk_of2 f_minus rfl (by decide +kernel)
  have r1 : Rk (Xc P w K mg base n_minus "minus" s_minus f cdv A outer s H E) 1 "other" := rk_of2 f_minus rfl (by decide +kernel)
  have l1 : Lk (Xc P w K mg base n_minus "minus" s_minus f cdv A outer s H E) 1 "other" := lk_of2 f_minus rfl (by decide +kernel)
  have g0 : Gl (Xc P w K mg base n_minus "minus" s_minus f cdv A outer s H E) "share" := (gl_of2 f_minus (by decide +kernel))
  have c0 : Ce (Xc P w K mg base n_minus "minus" s_minus f cdv A outer s H E) "share" r_share := ce_of D_share hr (by decide) (by decide +kernel)
  have rm : Rm (Xc P w K mg base n_minus "minus" s_minus f cdv A outer s H E) := ⟨hr.units⟩
  have hG : startG n_minus [.tuple [.int a, .int b], .tuple [.int c, .int e]] = [.sh (.tuple [.int a, .int b]), .sh (.tuple [.int c, .int e])] := rfl
  rw [hG]; clear hG
  ktf_call "x"
  all_goals first
    | exact side_mulB 1000 1000 (by assumption) (by assumption)
    | (exfalso; rename_i h; exact Int.mul_ne_zero hb he h)
    | exact Bd.mono (k := 8000) ((ta.mul te).sub (tc.mul tb)) (by decide)
    | exact Bd.mono (k := 8000) (tb.mul te) (by decide)
theorem ok_times {f : Addr} {fd : FuncData} (F : Fun K "times" "times" s_times f fd) (hm : mg "times" = some (.ref f)) (T : Mg mg) (D_share : Dn P w K mg base 1 "share" r_share) : Dn P w K mg base 2 "times" r_times := by
  refine dn_of F hm (F.binds (ps := ["one", "other"]) fun _ _ _ _ _ _ us hl => match us, hl with | [_, _], _ => rfl) ?_
  refine fn_ok F c_times (fun ds d hR => ?_) fun cdv A outer s H E B ds d hr hR => ?_
  · obtain ⟨a, b, c, e, rfl, hb, he, ta, tb, tc, te, rfl⟩ := hR
    rfl
  obtain ⟨a, b, c, e, rfl, hb, he, ta, tb, tc, te, rfl⟩ := hR
  have r0 : Rk (Xc P w K mg base n_times "times" s_times f cdv A outer s H E) 0 "one" := rk_of2 f_times rfl (by decide +kernel)
  have l0 : Lk (Xc P w K mg base n_times "times" s_times f cdv A outer s H E) 0 "one" := lk_of2 f_times rfl (by decide +kernel)
  have r1 : Rk (Xc P w K mg base n_times "times" s_times f cdv A outer s H E) 1 "other" := rk_of2 f_times rfl (by decide +kernel)
  have l1 : Lk (Xc P w K mg base n_times "times" s_times f cdv A outer s H E) 1 "other" := lk_of2 f_times rfl (by decide +kernel)
  have g0 : Gl (Xc P w K mg base n_times "times" s_times f cdv A outer s H E) "share" := (gl_of2 f_times (by decide +kernel))
  have c0 : Ce (Xc P w K mg base n_times "times" s_times f cdv A outer s H E) "share" r_share := ce_of D_share hr (by decide) (by decide +kernel)
  have rm : Rm (Xc P w K mg base n_times "times" s_times f cdv A outer s H E) := ⟨hr.units⟩
  have hG : startG n_times [.tuple [.int a, .int b], .tuple [.int c, .int e]] = [.sh (.tuple [.int a, .int b]), .sh (.tuple [.int c, .int e])] := rfl
  rw [hG]; clear hG
  ktf_call "x"
  all_goals first
    | exact side_mulB 1000 1000 (by assumption) (by assumption)
    | (exfalso; rename_i h; exact Int.mul_ne_zero hb he h)
    | exact Bd.mono (k := 8000) (ta.mul tc) (by decide)
    | exact Bd.mono (k := 8000) (tb.mul te) (by decide)
theorem ok_over {f : Addr} {fd : FuncData} (F : Fun K "over" "over" s_over f fd) (hm : mg "over" = some (.ref f)) (T : Mg mg) (D_share : Dn P w K mg base 1 "share" r_share) : Dn P w K mg base 2 "over" r_over := by
  refine dn_of F hm (F.binds (ps := ["one", "other"]) fun _ _ _ _ _ _ us hl => match us, hl with | [_, _], _ => rfl) ?_
  refine fn_ok F c_over (fun ds d hR => ?_) fun cdv A outer s H E B ds d hr hR => ?_
  · obtain ⟨a, b, c, e, rfl, hb, hc, ta, tb, tc, te, rfl⟩ := hR
    rfl
  obtain ⟨a, b, c, e, rfl, hb, hc, ta, tb, tc, te, rfl⟩ := hR
  have r0 : Rk (Xc P w K mg base n_over "over" s_over f cdv A outer s H E) 0 "one" := rk_of2 f_over rfl (by decide +kernel)
  have l0 : Lk (Xc P w K mg base n_over "over" s_over f cdv A outer s H E) 0 "one" := lk_of2 f_over rfl (by decide +kernel)
  have r1 : Rk (Xc P w K mg base n_over "over" s_over f cdv A outer s H E) 1 "other" := rk_of2 f_over rfl (by decide +kernel)
  have l1 : Lk (Xc P w K mg base n_over "over" s_over f cdv A outer s H E) 1 "other" := lk_of2 f_over rfl (by decide +kernel)
  have g0 : Gl (Xc P w K mg base n_over "over" s_over f cdv A outer s H E) "share" := (gl_of2 f_over (by decide +kernel))
  have c0 : Ce (Xc P w K mg base n_over "over" s_over f cdv A outer s H E) "share" r_share := ce_of D_share hr (by decide) (by decide +kernel)
  have rm : Rm (Xc P w K mg base n_over "over" s_over f cdv A outer s H E) := ⟨hr.units⟩
  have hG : startG n_over [.tuple [.int a, .int b], .tuple [.int c, .int e]] = [.sh (.tuple [.int a, .int b]), .sh (.tuple [.int c, .int e])] := rfl
  rw [hG]; clear hG
  ktf_call "x"
  all_goals first
    | exact side_mulB 1000 1000 (by assumption) (by assumption)
    | (exfalso; rename_i h; exact Int.mul_ne_zero hb hc h)
    | exact Bd.mono (k := 8000) (ta.mul te) (by decide)
    | exact Bd.mono (k := 8000) (tb.mul tc) (by decide)
theorem ok_less {f : Addr} {fd : FuncData} (F : Fun K "less" "less" s_less f fd) (hm : mg "less" = some (.ref f)) (T : Mg mg) : Dn P w K mg base 1 "less" r_less := by
  refine dn_of F hm (F.binds (ps := ["one", "other"]) fun _ _ _ _ _ _ us hl => match us, hl with | [_, _], _ => rfl) ?_
  refine fn_ok F c_less (fun ds d hR => ?_) fun cdv A outer s H E B ds d hr hR => ?_
  · obtain ⟨a, b, c, e, rfl, ta, tb, tc, te, rfl⟩ := hR
    rfl
  obtain ⟨a, b, c, e, rfl, ta, tb, tc, te, rfl⟩ := hR
  have r0 : Rk (Xc P w K mg base n_less "less" s_less f cdv A outer s H E) 0 "one" := rk_of2 f_less rfl (by decide +kernel)
  have l0 : Lk (Xc P w K mg base n_less "less" s_less f cdv A outer s H E) 0 "one" := lk_of2 f_less rfl (by decide +kernel)
  have r1 : Rk (Xc P w K mg base n_less "less" s_less f cdv A outer s H E) 1 "other" := rk_of2 f_less rfl (by decide +kernel)
  have l1 : Lk (Xc P w K mg base n_less "less" s_less f cdv A outer s H E) 1 "other" := lk_of2 f_less rfl (by decide +kernel)
  have rm : Rm (Xc P w K mg base n_less "less" s_less f cdv A outer s H E) := ⟨hr.units⟩
  have hG : startG n_less [.tuple [.int a, .int b], .tuple [.int c, .int e]] = [.sh (.tuple [.int a, .int b]), .sh (.tuple [.int c, .int e])] := rfl
  rw [hG]; clear hG
  ktf_call "x"
  all_goals exact side_mulB 1000 1000 (by assumption) (by assumption)
theorem ok_share_text {f : Addr} {fd : FuncData} (F : Fun K "share_text" "share_text" s_share_text f fd) (hm : mg "share_text" = some (.ref f)) (T : Mg mg) : Dn P w K mg base 1 "share_text" r_share_text := by
  refine dn_of F hm (F.binds (ps := ["one"]) fun _ _ _ _ _ _ us hl => match us, hl with | [_], _ => rfl) ?_
  refine fn_ok F c_share_text (fun ds d hR => ?_) fun cdv A outer s H E B ds d hr hR => ?_
  · obtain ⟨a, b, rfl, ha, hb, ta, tb, rfl⟩ := hR
    rfl
  obtain ⟨a, b, rfl, ha, hb, ta, tb, rfl⟩ := hR
  have r0 : Rk (Xc P w K mg base n_share_text "share_text" s_share_text f cdv A outer s H E) 0 "one" := rk_of2 f_share_text rfl (by decide +kernel)
  have l0 : Lk (Xc P w K mg base n_share_text "share_text" s_share_text f cdv A outer s H E) 0 "one" := lk_of2 f_share_text rfl (by decide +kernel)
  have rm : Rm (Xc P w K mg base n_share_text "share_text" s_share_text f cdv A outer s H E) := ⟨hr.units⟩
  have hG : startG n_share_text [.tuple [.int a, .int b]] = [.sh (.tuple [.int a, .int b])] := rfl
  rw [hG]; clear hG
  have la := len_num ha ta
  have lb := len_num hb tb
  have ls := len_slash
  ktf_call "x"
  all_goals first | exact side_strB 100 (by assumption) | skip
  all_goals first | (refine ⟨side_size ?_⟩; simp only [Str.empty_append, Str.length_append]; omega) | (rw [Str.empty_append]; rfl)
theorem ok_figures_in {f : Addr} {fd : FuncData} (F : Fun K "figures_in" "figures_in" s_figures_in f fd) (hm : mg "figures_in" = some (.ref f)) (T : Mg mg) (C_MOST_FIGURES : CnM K mg "MOST_FIGURES" d_MOST_FIGURES) : Dn P w K mg base 1 "figures_in" r_figures_in := by
  refine dn_of F hm (F.binds (ps := ["text"]) fun _ _ _ _ _ _ us hl => match us, hl with | [_], _ => rfl) ?_
  refine fn_ok F c_figures_in (fun ds d hR => ?_) fun cdv A outer s H E B ds d hr hR => ?_
  · obtain ⟨y, rfl, hy, rfl⟩ := hR
    rfl
  obtain ⟨y, rfl, hy, rfl⟩ := hR
  have r0 : Rk (Xc P w K mg base n_figures_in "figures_in" s_figures_in f cdv A outer s H E) 0 "text" := rk_of2 f_figures_in rfl (by decide +kernel)
  have l0 : Lk (Xc P w K mg base n_figures_in "figures_in" s_figures_in f cdv A outer s H E) 0 "text" := lk_of2 f_figures_in rfl (by decide +kernel)
  have b0 : Bi (Xc P w K mg base n_figures_in "figures_in" s_figures_in f cdv A outer s H E) "len" := ⟨(gl_of2 f_figures_in (by decide +kernel)), T.m_len⟩
  have g1 : Gl (Xc P w K mg base n_figures_in "figures_in" s_figures_in f cdv A outer s H E) "MOST_FIGURES" := (gl_of2 f_figures_in (by decide +kernel))
  have c1 : Cn (Xc P w K mg base n_figures_in "figures_in" s_figures_in f cdv A outer s H E) "MOST_FIGURES" d_MOST_FIGURES := C_MOST_FIGURES.at
  have b2 : Bi (Xc P w K mg base n_figures_in "figures_in" s_figures_in f cdv A outer s H E) "int" := ⟨(gl_of2 f_figures_in (by decide +kernel)), T.m_int⟩
  have t2 : Ty (Xc P w K mg base n_figures_in "figures_in" s_figures_in f cdv A outer s H E) "int" .int := ⟨b2, by decide +kernel, by decide +kernel, by decide +kernel⟩
  have rm : Rm (Xc P w K mg base n_figures_in "figures_in" s_figures_in f cdv A outer s H E) := ⟨hr.units⟩
  have hG : startG n_figures_in [.str y] = [.sh (.str y)] := rfl
  rw [hG]; clear hG
  ktf_call "x"
  all_goals first | exact ⟨side_size (by omega)⟩ | skip
  · rename_i h; rw [fig_no1 h]; rfl
  · rename_i h; rw [fig_no2 h]; rfl
  · exact y.cps.toList.headD 0
  · rename_i h; exact fig_at h
  · rename_i h h1; rw [fig_no3 h h1]; rfl
  · exact ((PySem.NumText.digitsVal y.cps.toList : Nat) : Int)
  · rename_i h0 h h1; exact ⟨(fig_text (by decide) (fig_yes h0 h h1)).1⟩
  all_goals (rename_i h0 h h1; rw [fig_yes h0 h h1]; rfl)
theorem ok_share_in {f : Addr} {fd : FuncData} (F : Fun K "share_in" "share_in" s_share_in f fd) (hm : mg "share_in" = some (.ref f)) (T : Mg mg) (D_figures_in : Dn P w K mg base 1 "figures_in" r_figures_in) (D_share : Dn P w K mg base 1 "share" r_share) : Dn P w K mg base 2 "share_in" r_share_in := by
  refine dn_of F hm (F.binds (ps := ["text"]) fun _ _ _ _ _ _ us hl => match us, hl with | [_], _ => rfl) ?_
  refine fn_ok F c_share_in (fun ds d hR => ?_) fun cdv A outer s H E B ds d hr hR => ?_
  · obtain ⟨x, rfl, hx, rfl⟩ := hR
    rfl
  obtain ⟨x, rfl, hx, rfl⟩ := hR
  have r0 : Rk (Xc P w K mg base n_share_in "share_in" s_share_in f cdv A outer s H E) 0 "text" := rk_of2 f_share_in rfl (by decide +kernel)
  have l0 : Lk (Xc P w K mg base n_share_in "share_in" s_share_in f cdv A outer s H E) 0 "text" := lk_of2 f_share_in rfl (by decide +kernel)
  have r1 : Rk (Xc P w K mg base n_share_in "share_in" s_share_in f cdv A outer s H E) 1 "ahead" := rk_of2 f_share_in rfl (by decide +kernel)
  have l1 : Lk (Xc P w K mg base n_share_in "share_in" s_share_in f cdv A outer s H E) 1 "ahead" := lk_of2 f_share_in rfl (by decide +kernel)
  have r2 : Rk (Xc P w K mg base n_share_in "share_in" s_share_in f cdv A outer s H E) 2 "_" := rk_of2 f_share_in rfl (by decide +kernel)
  have l2 : Lk (Xc P w K mg base n_share_in "share_in" s_share_in f cdv A outer s H E) 2 "_" := lk_of2 f_share_in rfl (by decide +kernel)
  have r3 : Rk (Xc P w K mg base n_share_in "share_in" s_share_in f cdv A outer s H E) 3 "behind" := rk_of2 f_share_in rfl (by decide +kernel)
  have l3 : Lk (Xc P w K mg base n_share_in "share_in" s_share_in f cdv A outer s H E) 3 "behind" := lk_of2 f_share_in rfl (by decide +kernel)
  have r4 : Rk (Xc P w K mg base n_share_in "share_in" s_share_in f cdv A outer s H E) 4 "number" := rk_of2 f_share_in rfl (by decide +kernel)
  have l4 : Lk (Xc P w K mg base n_share_in "share_in" s_share_in f cdv A outer s H E) 4 "number" := lk_of2 f_share_in rfl (by decide +kernel)
  have r5 : Rk (Xc P w K mg base n_share_in "share_in" s_share_in f cdv A outer s H E) 5 "parts" := rk_of2 f_share_in rfl (by decide +kernel)
  have l5 : Lk (Xc P w K mg base n_share_in "share_in" s_share_in f cdv A outer s H E) 5 "parts" := lk_of2 f_share_in rfl (by decide +kernel)
  have b0 : Bi (Xc P w K mg base n_share_in "share_in" s_share_in f cdv A outer s H E) "isinstance" := ⟨(gl_of2 f_share_in (by decide +kernel)), T.m_isinstance⟩
  have b1 : Bi (Xc P w K mg base n_share_in "share_in" s_share_in f cdv A outer s H E) "str" := ⟨(gl_of2 f_share_in (by decide +kernel)), T.m_str⟩
  have t1 : Ty (Xc P w K mg base n_share_in "share_in" s_share_in f cdv A outer s H E) "str" .str := ⟨b1, by decide +kernel, by decide +kernel, by decide +kernel⟩
  have g2 : Gl (Xc P w K mg base n_share_in "share_in" s_share_in f cdv A outer s H E) "figures_in" := (gl_of2 f_share_in (by decide +kernel))
  have c2 : Ce (Xc P w K mg base n_share_in "share_in" s_share_in f cdv A outer s H E) "figures_in" r_figures_in := ce_of D_figures_in hr (by decide) (by decide +kernel)
  have g3 : Gl (Xc P w K mg base n_share_in "share_in" s_share_in f cdv A outer s H E) "share" := (gl_of2 f_share_in (by decide +kernel))
  have c3 : Ce (Xc P w K mg base n_share_in "share_in" s_share_in f cdv A outer s H E) "share" r_share := ce_of D_share hr (by decide) (by decide +kernel)
  have rm : Rm (Xc P w K mg base n_share_in "share_in" s_share_in f cdv A outer s H E) := ⟨hr.units⟩
  have hG : startG n_share_in [x] = [.sh (x), .un, .un, .un, .un, .un] := rfl
  rw [hG]; clear hG
  cases x with
  | str y =>
    have hx' : y.length ≤ 100000 := hx
    obtain ⟨p1, p2⟩ := part_len y
    show Xb _ _ _ _ (RetP (optP (shareIn y)))
    unfold shareIn
    cases h1 : figI 400 (Txt.partition y "/").1 with
    | none =>
      have k1 : Cal r_figures_in [.str (Txt.partition y "/").1] .none := ⟨_, rfl, by omega, by rw [h1]; rfl⟩
      have k2 : Cal r_figures_in [.str (Txt.partition y "/").2.2] (optI (figI 400 (Txt.partition y "/").2.2)) := ⟨_, rfl, by omega, rfl⟩
      ktf_call "x"
      all_goals first | exact ⟨side_size (by omega)⟩ | skip
      ktf_call "xf"
      all_goals rfl
    | some n =>
      have k1 : Cal r_figures_in [.str (Txt.partition y "/").1] (.int n) := ⟨_, rfl, by omega, by rw [h1]; rfl⟩
      cases h2 : figI 400 (Txt.partition y "/").2.2 with
      | none =>
        have k2 : Cal r_figures_in [.str (Txt.partition y "/").2.2] .none := ⟨_, rfl, by omega, by rw [h2]; rfl⟩
        ktf_call "x"
        all_goals first | exact ⟨side_size (by omega)⟩ | skip
        ktf_call "xf"
        all_goals rfl
      | some p =>
        have k2 : Cal r_figures_in [.str (Txt.partition y "/").2.2] (.int p) := ⟨_, rfl, by omega, by rw [h2]; rfl⟩
        have b1 := fig_bound (by decide) h1
        have b2 := fig_bound (by decide) h2
        ktf_call "x"
        all_goals first | exact ⟨side_size (by omega)⟩ | skip
        all_goals first
          | exact b1.2.mono
          | exact b2.2.mono
          | (rename_i h hp; exact absurd hp h.2.2)
          | (rename_i h; exact absurd h.2.2 (by assumption))
          | (rename_i h; rcases h with h | h | h
             · cases h
             · cases h
             · show _ = optP (if p = 0 then none else _)
               rw [if_pos h]; rfl)
          | (rename_i h; show _ = optP (if p = 0 then none else _); rw [if_neg h.2.2]; rfl)
  | _ => (ktf_call "x"; ktf_call "xf"; all_goals rfl)
theorem ok_law_mixed {f : Addr} {fd : FuncData} (F : Fun K "_law_mixed" "_law_mixed" s_law_mixed f fd) (hm : mg "_law_mixed" = some (.ref f)) (T : Mg mg) : Dn P w K mg base 1 "_law_mixed" r_law_mixed := by
  refine dn_of F hm (F.binds (ps := ["_law_cell", "_law_k"]) fun _ _ _ _ _ _ us hl => match us, hl with | [_, _], _ => rfl) ?_
  refine fn_ok F c_law_mixed (fun ds d hR => ?_) fun cdv A outer s H E B ds d hr hR => ?_
  · obtain ⟨c, k, rfl, h0, h1, rfl⟩ := hR
    rfl
  obtain ⟨c, k, rfl, h0, h1, rfl⟩ := hR
  have r0 : Rk (Xc P w K mg base n_law_mixed "_law_mixed" s_law_mixed f cdv A outer s H E) 0 "_law_cell" := rk_of2 f_law_mixed rfl (by decide +kernel)
  have l0 : Lk (Xc P w K mg base n_law_mixed "_law_mixed" s_law_mixed f cdv A outer s H E) 0 "_law_cell" := lk_of2 f_law_mixed rfl (by decide +kernel)
  have r1 : Rk (Xc P w K mg base n_law_mixed "_law_mixed" s_law_mixed f cdv A outer s H E) 1 "_law_k" := rk_of2 f_law_mixed rfl (by decide +kernel)
  have l1 : Lk (Xc P w K mg base n_law_mixed "_law_mixed" s_law_mixed f cdv A outer s H E) 1 "_law_k" := lk_of2 f_law_mixed rfl (by decide +kernel)
  have r2 : Rk (Xc P w K mg base n_law_mixed "_law_mixed" s_law_mixed f cdv A outer s H E) 2 "_law_number" := rk_of2 f_law_mixed rfl (by decide +kernel)
  have l2 : Lk (Xc P w K mg base n_law_mixed "_law_mixed" s_law_mixed f cdv A outer s H E) 2 "_law_number" := lk_of2 f_law_mixed rfl (by decide +kernel)
  have rm : Rm (Xc P w K mg base n_law_mixed "_law_mixed" s_law_mixed f cdv A outer s H E) := ⟨hr.units⟩
  have hG : startG n_law_mixed [.int c, .int k] = [.sh (.int c), .sh (.int k), .un] := rfl
  rw [hG]; clear hG
  have hk0 : 0 ≤ 31 * k * k := Int.mul_nonneg (by omega) h0
  have hk1 : 31 * k * k ≤ 31 * 20 * 20 := Int.mul_le_mul (by omega) h1 h0 (by omega)
  ktf_call "x"
  rfl
theorem ok_law_divides {f : Addr} {fd : FuncData} (F : Fun K "_law_divides" "_law_divides" s_law_divides f fd) (hm : mg "_law_divides" = some (.ref f)) (T : Mg mg) : Dn P w K mg base 1 "_law_divides" r_law_divides := by
  refine dn_of F hm (F.binds (ps := ["_law_one", "_law_other"]) fun _ _ _ _ _ _ us hl => match us, hl with | [_, _], _ => rfl) ?_
  refine fn_ok F c_law_divides (fun ds d hR => ?_) fun cdv A outer s H E B ds d hr hR => ?_
  · obtain ⟨a, b, rfl, ta, tb, rfl⟩ := hR
    rfl
  obtain ⟨a, b, rfl, ta, tb, rfl⟩ := hR
  have r0 : Rk (Xc P w K mg base n_law_divides "_law_divides" s_law_divides f cdv A outer s H E) 0 "_law_one" := rk_of2 f_law_divides rfl (by decide +kernel)
  have l0 : Lk (Xc P w K mg base n_law_divides "_law_divides" s_law_divides f cdv A outer s H E) 0 "_law_one" := lk_of2 f_law_divides rfl (by decide +kernel)
  have r1 : Rk (Xc P w K mg base n_law_divides "_law_divides" s_law_divides f cdv A outer s H E) 1 "_law_other" := rk_of2 f_law_divides rfl (by decide +kernel)
  have l1 : Lk (Xc P w K mg base n_law_divides "_law_divides" s_law_divides f cdv A outer s H E) 1 "_law_other" := lk_of2 f_law_divides rfl (by decide +kernel)
  have r2 : Rk (Xc P w K mg base n_law_divides "_law_divides" s_law_divides f cdv A outer s H E) 2 "_law_small" := rk_of2 f_law_divides rfl (by decide +kernel)
  have l2 : Lk (Xc P w K mg base n_law_divides "_law_divides" s_law_divides f cdv A outer s H E) 2 "_law_small" := lk_of2 f_law_divides rfl (by decide +kernel)
  have r3 : Rk (Xc P w K mg base n_law_divides "_law_divides" s_law_divides f cdv A outer s H E) 3 "_law_great" := rk_of2 f_law_divides rfl (by decide +kernel)
  have l3 : Lk (Xc P w K mg base n_law_divides "_law_divides" s_law_divides f cdv A outer s H E) 3 "_law_great" := lk_of2 f_law_divides rfl (by decide +kernel)
  have b0 : Bi (Xc P w K mg base n_law_divides "_law_divides" s_law_divides f cdv A outer s H E) "sorted" := ⟨(gl_of2 f_law_divides (by decide +kernel)), T.m_sorted⟩
  have b1 : Bi (Xc P w K mg base n_law_divides "_law_divides" s_law_divides f cdv A outer s H E) "abs" := ⟨(gl_of2 f_law_divides (by decide +kernel)), T.m_abs⟩
  have rm : Rm (Xc P w K mg base n_law_divides "_law_divides" s_law_divides f cdv A outer s H E) := ⟨hr.units⟩
  have hG : startG n_law_divides [.int a, .int b] = [.sh (.int a), .sh (.int b), .un, .un] := rfl
  rw [hG]; clear hG
  have e0 : ∀ x : Int, (if x < 0 then -x else x) = (x.natAbs : Int) := fun x => by split <;> omega
  ktf_call "x"
  rw [e0, e0]
  refine xs_while PassesOwn.never (fun m Γ => ∃ s g : Int, Γ = [.sh (.int a), .sh (.int b), .sh (.int s), .sh (.int g)] ∧ 0 ≤ s ∧ s ≤ g ∧ Bd 8000 g ∧ Nat.gcd s.natAbs g.natAbs = Nat.gcd a.natAbs b.natAbs ∧ m = s.natAbs) (min (a.natAbs : Int) (b.natAbs : Int)).natAbs ⟨_, _, rfl, by omega, by omega, ?_, ?_, rfl⟩ ?_
  · by_cases h : (a.natAbs : Int) ≤ b.natAbs
    · rw [Int.max_eq_right h]; exact tb.le (by omega)
    · rw [Int.max_eq_left (by omega)]; exact ta.le (by omega)
  · by_cases h : (a.natAbs : Int) ≤ b.natAbs
    · rw [Int.max_eq_right h, Int.min_eq_left h]; rfl
    · rw [Int.max_eq_left (by omega), Int.min_eq_right (by omega)]; exact Nat.gcd_comm _ _
  · rintro m Γ ⟨s, g, rfl, h0, h1, tg, hg, rfl⟩
    refine ⟨decide (0 < s), ?_, fun hb => ?_, fun hb => ?_⟩
    · ktf_call "x"
    · have hs := of_decide_eq_true hb
      have ts : Bd 8000 s := tg.le (by omega)
      have ef : g.fdiv s = g / s := Int.fdiv_eq_ediv_of_nonneg _ (by omega)
      have em : g - g / s * s = g % s := by have := Int.mul_ediv_add_emod g s; rw [Int.mul_comm s] at this; omega
      have m0 := Int.emod_nonneg g (show s ≠ 0 by omega)
      have m1 := Int.emod_lt_of_pos g hs
      ktf_call "x"
      · exact side_fdivB 8000 (by omega) ts
      · rw [ef]; exact side_mulB 8000 8000 (tg.le (ediv_natAbs_le _ _ hs)) ts
      · rw [ef, em, Int.min_eq_right (by omega), Int.max_eq_left (by omega)]
        refine ⟨(g % s).natAbs, by omega, g % s, s, rfl, m0, by omega, ts, ?_, rfl⟩
        have e2 : (g % s).natAbs = g.natAbs % s.natAbs := by
          have e3 : ((g.natAbs % s.natAbs : Nat) : Int) = g % s := by rw [Int.natCast_emod, Int.natAbs_of_nonneg (show 0 ≤ g by omega), Int.natAbs_of_nonneg h0]
          omega
        rw [← hg, Nat.gcd_rec s.natAbs g.natAbs, e2]
    · have hs := of_decide_eq_false hb
      have s0 : s = 0 := by omega
      subst s0
      ktf_call "x"
      show PyData.int g = PyData.int ((Nat.gcd a.natAbs b.natAbs : Nat) : Int)
      rw [← hg, Int.natAbs_zero, Nat.gcd_zero_left, Int.natAbs_of_nonneg h1]
theorem ok_law_least {f : Addr} {fd : FuncData} (F : Fun K "_law_least" "_law_least" s_law_least f fd) (hm : mg "_law_least" = some (.ref f)) (T : Mg mg) (D_law_divides : Dn P w K mg base 1 "_law_divides" r_law_divides) : Dn P w K mg base 2 "_law_least" r_law_least := by
  refine dn_of F hm (F.binds (ps := ["_law_one", "_law_other"]) fun _ _ _ _ _ _ us hl => match us, hl with | [_, _], _ => rfl) ?_
  refine fn_ok F c_law_least (fun ds d hR => ?_) fun cdv A outer s H E B ds d hr hR => ?_
  · obtain ⟨a, b, rfl, hb, ta, tb, rfl⟩ := hR
    rfl
  obtain ⟨a, b, rfl, hb, ta, tb, rfl⟩ := hR
  have r0 : Rk (Xc P w K mg base n_law_least "_law_least" s_law_least f cdv A outer s H E) 0 "_law_one" := rk_of2 f_law_least rfl (by decide +kernel)
  have l0 : Lk (Xc P w K mg base n_law_least "_law_least" s_law_least f cdv A outer s H E) 0 "_law_one" := lk_of2 f_law_least rfl (by decide +kernel)
  have r1 : Rk (Xc P w K mg base n_law_least "_law_least" s_law_least f cdv A outer s H E) 1 "_law_other" := rk_of2 f_law_least rfl (by decide +kernel)
  have l1 : Lk (Xc P w K mg base n_law_least "_law_least" s_law_least f cdv A outer s H E) 1 "_law_other" := lk_of2 f_law_least rfl (by decide +kernel)
  have r2 : Rk (Xc P w K mg base n_law_least "_law_least" s_law_least f cdv A outer s H E) 2 "_law_more" := rk_of2 f_law_least rfl (by decide +kernel)
  have l2 : Lk (Xc P w K mg base n_law_least "_law_least" s_law_least f cdv A outer s H E) 2 "_law_more" := lk_of2 f_law_least rfl (by decide +kernel)
  have g0 : Gl (Xc P w K mg base n_law_least "_law_least" s_law_least f cdv A outer s H E) "_law_divides" := (gl_of2 f_law_least (by decide +kernel))
  have c0 : Ce (Xc P w K mg base n_law_least "_law_least" s_law_least f cdv A outer s H E) "_law_divides" r_law_divides := ce_of D_law_divides hr (by decide) (by decide +kernel)
  have rm : Rm (Xc P w K mg base n_law_least "_law_least" s_law_least f cdv A outer s H E) := ⟨hr.units⟩
  have hG : startG n_law_least [.int a, .int b] = [.sh (.int a), .sh (.int b), .un] := rfl
  rw [hG]; clear hG
  have g2 := gcdI_pos (n := a) hb
  have g3 := gcdI_le (n := a) hb
  have z : ∀ x : Int, 0 - x = -x := fun x => Int.zero_sub x
  have eg : gcdI (-a) (-b) = gcdI a b := by unfold gcdI; rw [Int.natAbs_neg, Int.natAbs_neg]
  ktf_call "x"
  all_goals first
    | assumption
    | (rw [z]; exact ta.neg)
    | (rw [z]; exact tb.neg)
    | (rw [z, z, eg]; exact side_fdivB 8000 (by omega) (tb.le (by omega)))
    | (exact side_fdivB 8000 (by omega) (tb.le (by omega)))
    | (rename_i h; exact congrArg pairD (red_pos h))
    | (rename_i h; rw [z, z]; exact congrArg pairD ((red_pos (n := -a) (p := -b) (by omega)).trans (red_neg2 a b h)))
theorem ok_law_is {f : Addr} {fd : FuncData} (F : Fun K "_law_is" "_law_is" s_law_is f fd) (hm : mg "_law_is" = some (.ref f)) (T : Mg mg) : Dn P w K mg base 1 "_law_is" r_law_is := by
  refine dn_of F hm (F.binds (ps := ["_law_found", "_law_due"]) fun _ _ _ _ _ _ us hl => match us, hl with | [_, _], _ => rfl) ?_
  refine fn_ok F c_law_is (fun ds d hR => ?_) fun cdv A outer s H E B ds d hr hR => ?_
  · obtain ⟨a, b, c, e, rfl, p, hp, rfl⟩ := hR
    rfl
  obtain ⟨a, b, c, e, rfl, p, hp, rfl⟩ := hR
  have r0 : Rk (Xc P w K mg base n_law_is "_law_is" s_law_is f cdv A outer s H E) 0 "_law_found" := rk_of2 f_law_is rfl (by decide +kernel)
  have l0 : Lk (Xc P w K mg base n_law_is "_law_is" s_law_is f cdv A outer s H E) 0 "_law_found" := lk_of2 f_law_is rfl (by decide +kernel)
  have r1 : Rk (Xc P w K mg base n_law_is "_law_is" s_law_is f cdv A outer s H E) 1 "_law_due" := rk_of2 f_law_is rfl (by decide +kernel)
  have l1 : Lk (Xc P w K mg base n_law_is "_law_is" s_law_is f cdv A outer s H E) 1 "_law_due" := lk_of2 f_law_is rfl (by decide +kernel)
  have b0 : Bi (Xc P w K mg base n_law_is "_law_is" s_law_is f cdv A outer s H E) "isinstance" := ⟨(gl_of2 f_law_is (by decide +kernel)), T.m_isinstance⟩
  have b1 : Bi (Xc P w K mg base n_law_is "_law_is" s_law_is f cdv A outer s H E) "tuple" := ⟨(gl_of2 f_law_is (by decide +kernel)), T.m_tuple⟩
  have t1 : Ty (Xc P w K mg base n_law_is "_law_is" s_law_is f cdv A outer s H E) "tuple" .tuple := ⟨b1, by decide +kernel, by decide +kernel, by decide +kernel⟩
  have b2 : Bi (Xc P w K mg base n_law_is "_law_is" s_law_is f cdv A outer s H E) "bool" := ⟨(gl_of2 f_law_is (by decide +kernel)), T.m_bool⟩
  have t2 : Ty (Xc P w K mg base n_law_is "_law_is" s_law_is f cdv A outer s H E) "bool" .bool := ⟨b2, by decide +kernel, by decide +kernel, by decide +kernel⟩
  have rm : Rm (Xc P w K mg base n_law_is "_law_is" s_law_is f cdv A outer s H E) := ⟨hr.units⟩
  have hG : startG n_law_is [.tuple [.int a, .int b], .tuple [.int c, .int e]] = [.sh (.tuple [.int a, .int b]), .sh (.tuple [.int c, .int e])] := rfl
  rw [hG]; clear hG
  have eq : PyData.eqv (.tuple [.int a, .int b]) (.tuple [.int c, .int e]) = p := by
    simp only [PyData.eqv, PyData.eqvAll, Bool.and_true]
    cases p with
    | true =>
      obtain ⟨rfl, rfl⟩ := hp.mp rfl
      simp
    | false =>
      by_cases h1 : a = c
      · by_cases h2 : b = e
        · exact absurd (hp.mpr ⟨h1, h2⟩) (by decide)
        · simp [h2]
      · simp [h1]
  ktf_call "x"
  · rename_i h
    rcases h with h | h
    · cases h
    · rw [eq] at h; rw [h]
  · rename_i h
    rw [eq] at h; rw [h.2]; rfl
theorem ok_law_right {f : Addr} {fd : FuncData} (F : Fun K "_law_right" "_law_right" s_law_right f fd) (hm : mg "_law_right" = some (.ref f)) (T : Mg mg) (D_law_least : Dn P w K mg base 2 "_law_least" r_law_least) (D_law_is : Dn P w K mg base 1 "_law_is" r_law_is) (D_share : Dn P w K mg base 1 "share" r_share) (D_is_share : Dn P w K mg base 2 "is_share" r_is_share) (D_plus : Dn P w K mg base 2 "plus" r_plus) (D_minus : Dn P w K mg base 2 "minus" r_minus) (D_times : Dn P w K mg base 2 "times" r_times) (D_over : Dn P w K mg base 2 "over" r_over) (D_less : Dn P w K mg base 1 "less" r_less) : Dn P w K mg base 3 "_law_right" r_law_right := by
  refine dn_of F hm (F.binds (ps := ["_law_first", "_law_second"]) fun _ _ _ _ _ _ us hl => match us, hl with | [_, _], _ => rfl) ?_
  refine fn_ok F c_law_right (fun ds d hR => ?_) fun cdv A outer s H E B ds d hr hR => ?_
  · obtain ⟨a, b, c, e, rfl, hb, he, ta, tb, tc, te, rfl⟩ := hR
    rfl
  obtain ⟨a, b, c, e, rfl, hb, he, ta, tb, tc, te, rfl⟩ := hR
  have r0 : Rk (Xc P w K mg base n_law_right "_law_right" s_law_right f cdv A outer s H E) 0 "_law_first" := rk_of2 f_law_right rfl (by decide +kernel)
  have l0 : Lk (Xc P w K mg base n_law_right "_law_right" s_law_right f cdv A outer s H E) 0 "_law_first" := lk_of2 f_law_right rfl (by decide +kernel)
  have r1 : Rk (Xc P w K mg base n_law_right "_law_right" s_law_right f cdv A outer s H E) 1 "_law_second" := rk_of2 f_law_right rfl (by decide +kernel)
  have l1 : Lk (Xc P w K mg base n_law_right "_law_right" s_law_right f cdv A outer s H E) 1 "_law_second" := lk_of2 f_law_right rfl (by decide +kernel)
  have r2 : Rk (Xc P w K mg base n_law_right "_law_right" s_law_right f cdv A outer s H E) 2 "_law_one" := rk_of2 f_law_right rfl (by decide +kernel)
  have l2 : Lk (Xc P w K mg base n_law_right "_law_right" s_law_right f cdv A outer s H E) 2 "_law_one" := lk_of2 f_law_right rfl (by decide +kernel)
  have r3 : Rk (Xc P w K mg base n_law_right "_law_right" s_law_right f cdv A outer s H E) 3 "_law_other" := rk_of2 f_law_right rfl (by decide +kernel)
  have l3 : Lk (Xc P w K mg base n_law_right "_law_right" s_law_right f cdv A outer s H E) 3 "_law_other" := lk_of2 f_law_right rfl (by decide +kernel)
  have r4 : Rk (Xc P w K mg base n_law_right "_law_right" s_law_right f cdv A outer s H E) 4 "_law_above" := rk_of2 f_law_right rfl (by decide +kernel)
  have l4 : Lk (Xc P w K mg base n_law_right "_law_right" s_law_right f cdv A outer s H E) 4 "_law_above" := lk_of2 f_law_right rfl (by decide +kernel)
  have r5 : Rk (Xc P w K mg base n_law_right "_law_right" s_law_right f cdv A outer s H E) 5 "_law_beneath" := rk_of2 f_law_right rfl (by decide +kernel)
  have l5 : Lk (Xc P w K mg base n_law_right "_law_right" s_law_right f cdv A outer s H E) 5 "_law_beneath" := lk_of2 f_law_right rfl (by decide +kernel)
  have r6 : Rk (Xc P w K mg base n_law_right "_law_right" s_law_right f cdv A outer s H E) 6 "_law_both" := rk_of2 f_law_right rfl (by decide +kernel)
  have l6 : Lk (Xc P w K mg base n_law_right "_law_right" s_law_right f cdv A outer s H E) 6 "_law_both" := lk_of2 f_law_right rfl (by decide +kernel)
  have r7 : Rk (Xc P w K mg base n_law_right "_law_right" s_law_right f cdv A outer s H E) 7 "_law_told" := rk_of2 f_law_right rfl (by decide +kernel)
  have l7 : Lk (Xc P w K mg base n_law_right "_law_right" s_law_right f cdv A outer s H E) 7 "_law_told" := lk_of2 f_law_right rfl (by decide +kernel)
  have g0 : Gl (Xc P w K mg base n_law_right "_law_right" s_law_right f cdv A outer s H E) "_law_least" := (gl_of2 f_law_right (by decide +kernel))
  have c0 : Ce (Xc P w K mg base n_law_right "_law_right" s_law_right f cdv A outer s H E) "_law_least" r_law_least := ce_of D_law_least hr (by decide) (by decide +kernel)
  have g1 : Gl (Xc P w K mg base n_law_right "_law_right" s_law_right f cdv A outer s H E) "_law_is" := (gl_of2 f_law_right (by decide +kernel))
  have c1 : Ce (Xc P w K mg base n_law_right "_law_right" s_law_right f cdv A outer s H E) "_law_is" r_law_is := ce_of D_law_is hr (by decide) (by decide +kernel)
  have g2 : Gl (Xc P w K mg base n_law_right "_law_right" s_law_right f cdv A outer s H E) "share" := (gl_of2 f_law_right (by decide +kernel))
  have c2 : Ce (Xc P w K mg base n_law_right "_law_right" s_law_right f cdv A outer s H E) "share" r_share := ce_of D_share hr (by decide) (by decide +kernel)
  have g3 : Gl (Xc P w K mg base n_law_right "_law_right" s_law_right f cdv A outer s H E) "is_share" := (gl_of2 f_law_right (by decide +kernel))
  have c3 : Ce (Xc P w K mg base n_law_right "_law_right" s_law_right f cdv A outer s H E) "is_share" r_is_share := ce_of D_is_share hr (by decide) (by decide +kernel)
  have g4 : Gl (Xc P w K mg base n_law_right "_law_right" s_law_right f cdv A outer s H E) "plus" := (gl_of2 f_law_right (by decide +kernel))
  have c4 : Ce (Xc P w K mg base n_law_right "_law_right" s_law_right f cdv A outer s H E) "plus" r_plus := ce_of D_plus hr (by decide) (by decide +kernel)
  have g5 : Gl (Xc P w K mg base n_law_right "_law_right" s_law_right f cdv A outer s H E) "minus" := (gl_of2 f_law_right (by decide +kernel))
  have c5 : Ce (Xc P w K mg base n_law_right "_law_right" s_law_right f cdv A outer s H E) "minus" r_minus := ce_of D_minus hr (by decide) (by decide +kernel)
  have g6 : Gl (Xc P w K mg base n_law_right "_law_right" s_law_right f cdv A outer s H E) "times" := (gl_of2 f_law_right (by decide +kernel))
  have c6 : Ce (Xc P w K mg base n_law_right "_law_right" s_law_right f cdv A outer s H E) "times" r_times := ce_of D_times hr (by decide) (by decide +kernel)
  have g7 : Gl (Xc P w K mg base n_law_right "_law_right" s_law_right f cdv A outer s H E) "over" := (gl_of2 f_law_right (by decide +kernel))
  have c7 : Ce (Xc P w K mg base n_law_right "_law_right" s_law_right f cdv A outer s H E) "over" r_over := ce_of D_over hr (by decide) (by decide +kernel)
  have g8 : Gl (Xc P w K mg base n_law_right "_law_right" s_law_right f cdv A outer s H E) "less" := (gl_of2 f_law_right (by decide +kernel))
  have c8 : Ce (Xc P w K mg base n_law_right "_law_right" s_law_right f cdv A outer s H E) "less" r_less := ce_of D_less hr (by decide) (by decide +kernel)
  have b9 : Bi (Xc P w K mg base n_law_right "_law_right" s_law_right f cdv A outer s H E) "isinstance" := ⟨(gl_of2 f_law_right (by decide +kernel)), T.m_isinstance⟩
  have b10 : Bi (Xc P w K mg base n_law_right "_law_right" s_law_right f cdv A outer s H E) "bool" := ⟨(gl_of2 f_law_right (by decide +kernel)), T.m_bool⟩
  have t10 : Ty (Xc P w K mg base n_law_right "_law_right" s_law_right f cdv A outer s H E) "bool" .bool := ⟨b10, by decide +kernel, by decide +kernel, by decide +kernel⟩
  have rm : Rm (Xc P w K mg base n_law_right "_law_right" s_law_right f cdv A outer s H E) := ⟨hr.units⟩
  have hG : startG n_law_right [.tuple [.int a, .int b], .tuple [.int c, .int e]] = [.sh (.tuple [.int a, .int b]), .sh (.tuple [.int c, .int e]), .un, .un, .un, .un, .un, .un] := rfl
  rw [hG]; clear hG
  have hx1 : Bd 100 (redI a b).1 := ta.le (red_le1 a hb)
  have hx2 : Bd 100 (redI a b).2 := tb.le (red_le2 a hb)
  have hy1 : Bd 100 (redI c e).1 := tc.le (red_le1 c he)
  have hy2 : Bd 100 (redI c e).2 := te.le (red_le2 c he)
  have px2 := red_pos2 a hb
  have py2 := red_pos2 c he
  have nb : (redI a b).2 * (redI c e).2 ≠ 0 := Int.mul_ne_zero (by omega) (by omega)
  have ks : Cal r_is_share [pairD (redI a b)] (.bool true) := ⟨_, rfl, by rw [share_red a hb]⟩
  ktf_call "x"
  all_goals first
    | exact ta.mono
    | exact tb.mono
    | exact tc.mono
    | exact te.mono
    | exact hx1.mono
    | exact hx2.mono
    | exact hy1.mono
    | exact hy2.mono
    | exact ⟨fun _ => ⟨rfl, rfl⟩, fun _ => rfl⟩
    | exact side_mulB 100 100 (by assumption) (by assumption)
    | exact ((hx1.mul hy2).add (hy1.mul hx2)).mono
    | exact ((hx1.mul hy2).sub (hy1.mul hx2)).mono
    | exact (hx2.mul hy2).mono
    | exact (hx1.mul hy1).mono
    | exact (hx1.mul hy2).mono
    | exact (hy1.mul hx2).mono
    | assumption
    | omega
    | (rename_i h; exact absurd rfl h)
    | (refine ⟨fun _ => ?_, fun _ => rfl⟩; rw [Int.mul_comm (redI a b).2 (redI c e).1]; exact ⟨rfl, rfl⟩)
    | (simp [isiD]; done)
    | (exfalso; rename_i h1 h2; rcases Int.mul_eq_zero.mp h2 with z | z <;> first | exact h1 z | omega)
/-! ### the law's own defs -/
def oneI (n : Int) : Int := ([0, 1, n / 5 % 30, n * 48271 % 10 ^ Int.toNat 12, n / 5 % 12 * 840] : List Int).getD (n % 5).toNat 0
def otherI (n : Int) : Int := ([1, 2, 1 + n / 35 % 30, 1 + n * 16807 % 10 ^ Int.toNat 12, 840] : List Int).getD (n / 7 % 5).toNat 0
def pairI (n : Int) : Int × Int := (if n / 900 % 3 = 1 then 0 - oneI n else oneI n, ([otherI n, 0 - otherI n] : List Int).getD (n / 2700 % 5 / 4).toNat 0)
def r_law_pair : List PyData → PyData → Prop := fun ds d => ∃ n, ds = [.int n] ∧ 0 ≤ n ∧ n < 2147483648 ∧ d = pairD (pairI n)
theorem ten12 : (10 : Int) ^ Int.toNat 12 = 1000000000000 := by decide
theorem one_bd (n : Int) : Bd 64 (oneI n) := by
  refine Bd.of64 ?_
  unfold oneI
  refine getD_all (p := fun x : Int => -18446744073709551616 < x ∧ x < 18446744073709551616) (fun x hx => ?_) (by show _ < 5; omega)
  rw [ten12] at hx
  simp only [List.mem_cons, List.not_mem_nil, or_false] at hx
  rcases hx with h | h | h | h | h <;> omega
theorem other_bd (n : Int) : 0 < otherI n ∧ otherI n < 18446744073709551616 := by
  unfold otherI
  refine getD_all (p := fun x : Int => 0 < x ∧ x < 18446744073709551616) (fun x hx => ?_) (by show _ < 5; omega)
  rw [ten12] at hx
  simp only [List.mem_cons, List.not_mem_nil, or_false] at hx
  rcases hx with h | h | h | h | h <;> omega
theorem pair_ok (n : Int) : (pairI n).2 ≠ 0 ∧ Bd 100 (pairI n).1 ∧ Bd 100 (pairI n).2 := by
  have h1 := one_bd n
  have h2 := other_bd n
  have h3 : (pairI n).2 ≠ 0 ∧ Bd 64 (pairI n).2 := by
    show ([otherI n, 0 - otherI n] : List Int).getD (n / 2700 % 5 / 4).toNat 0 ≠ 0 ∧ Bd 64 (([otherI n, 0 - otherI n] : List Int).getD (n / 2700 % 5 / 4).toNat 0)
    refine getD_all (p := fun x : Int => x ≠ 0 ∧ Bd 64 x) (fun x hx => ?_) (by show _ < 2; omega)
    simp only [List.mem_cons, List.not_mem_nil, or_false] at hx
    rcases hx with h | h <;> exact ⟨by omega, Bd.of64 (by omega)⟩
  refine ⟨h3.1, ?_, h3.2.mono⟩
  show Bd 100 (if n / 900 % 3 = 1 then 0 - oneI n else oneI n)
  split
  · rw [Int.zero_sub]; exact h1.neg.mono
  · exact h1.mono
theorem ok_law_pair {f : Addr} {fd : FuncData} (F : Fun K "_law_pair" "_law_pair" s_law_pair f fd) (hm : mg "_law_pair" = some (.ref f)) (T : Mg mg) : Dn P w K mg base 1 "_law_pair" r_law_pair := by
  refine dn_of F hm (F.binds (ps := ["_law_number"]) fun _ _ _ _ _ _ us hl => match us, hl with | [_], _ => rfl) ?_
  refine fn_ok F c_law_pair (fun ds d hR => ?_) fun cdv A outer s H E B ds d hr hR => ?_
  · obtain ⟨n, rfl, h0, h1, rfl⟩ := hR
    rfl
  obtain ⟨n, rfl, h0, h1, rfl⟩ := hR
  have r0 : Rk (Xc P w K mg base n_law_pair "_law_pair" s_law_pair f cdv A outer s H E) 0 "_law_number" := rk_of2 f_law_pair rfl (by decide +kernel)
  have l0 : Lk (Xc P w K mg base n_law_pair "_law_pair" s_law_pair f cdv A outer s H E) 0 "_law_number" := lk_of2 f_law_pair rfl (by decide +kernel)
  have r1 : Rk (Xc P w K mg base n_law_pair "_law_pair" s_law_pair f cdv A outer s H E) 1 "_law_one" := rk_of2 f_law_pair rfl (by decide +kernel)
  have l1 : Lk (Xc P w K mg base n_law_pair "_law_pair" s_law_pair f cdv A outer s H E) 1 "_law_one" := lk_of2 f_law_pair rfl (by decide +kernel)
  have r2 : Rk (Xc P w K mg base n_law_pair "_law_pair" s_law_pair f cdv A outer s H E) 2 "_law_other" := rk_of2 f_law_pair rfl (by decide +kernel)
  have l2 : Lk (Xc P w K mg base n_law_pair "_law_pair" s_law_pair f cdv A outer s H E) 2 "_law_other" := lk_of2 f_law_pair rfl (by decide +kernel)
  have rm : Rm (Xc P w K mg base n_law_pair "_law_pair" s_law_pair f cdv A outer s H E) := ⟨hr.units⟩
  have hG : startG n_law_pair [.int n] = [.sh (.int n), .un, .un] := rfl
  rw [hG]; clear hG
  ktf_call "x"
  · rename_i h
    show _ = PyData.tuple [.int (if n / 900 % 3 = 1 then 0 - oneI n else oneI n), _]
    rw [if_pos h]; rfl
  · rename_i h
    show _ = PyData.tuple [.int (if n / 900 % 3 = 1 then 0 - oneI n else oneI n), _]
    rw [if_neg h]; rfl
/-! texts -/
def Asc (y : Str) : Prop := ∀ c ∈ y.cps.toList, c < 128
theorem asc_app {x y : Str} (h : Asc x) (k : Asc y) : Asc (x ++ y) := fun c hc => by
  rw [show (x ++ y).cps.toList = x.cps.toList ++ y.cps.toList from tl_append x y] at hc
  rcases List.mem_append.mp hc with z | z
  · exact h c z
  · exact k c z
theorem asc_num {a : Int} (h : 0 ≤ a) : Asc (Str.ofString (toString a)) := fun c hc => by
  obtain ⟨n, rfl⟩ := Int.eq_ofNat_of_zero_le h
  rw [show (Str.ofString (toString ((n : Nat) : Int))).cps.toList = numL n from tl_num n] at hc
  have := numL_digits n c hc
  omega
theorem asc_cut {y : Str} {l h : Option Int} (k : Asc y) : Asc (cutS y l h) := fun c hc => by
  unfold cutS at hc
  exact k c (List.mem_of_mem_drop (List.mem_of_mem_take hc))
theorem foldl_app (x : Array Nat) : ∀ (n : Nat) (acc : Array Nat), ((List.replicate n x).foldl (· ++ ·) acc).toList = acc.toList ++ (List.replicate n x.toList).flatten := fun n => by
  induction n with
  | zero => intro acc; simp
  | succ n ih =>
    intro acc
    rw [List.replicate_succ, List.foldl_cons, ih, List.replicate_succ, List.flatten_cons, Array.toList_append, List.append_assoc]
theorem asc_mul {y : Str} {n : Int} (k : Asc y) : Asc (Txt.mul y n) := fun c hc => by
  unfold Txt.mul at hc
  split at hc
  · exact absurd hc (by simp [Str.empty])
  · split at hc
    · exact k c hc
    · rw [foldl_app] at hc
      simp only [List.nil_append] at hc
      obtain ⟨l, hl, hc⟩ := List.mem_flatten.mp hc
      rw [List.eq_of_mem_replicate hl] at hc
      exact k c hc
theorem len_mul (y : Str) (n : Int) : (Txt.mul y n).length ≤ y.length * n.toNat := by
  unfold Txt.mul
  split
  · exact Nat.zero_le _
  · rename_i h
    split
    · rename_i h2
      simp only [Bool.or_eq_true, beq_iff_eq] at h2
      rcases h2 with h2 | h2
      · rw [h2]; simp
      · rw [h2]; simp
    · rw [len_list, foldl_app, len_list y]
      simp [List.length_flatten, List.map_replicate, Nat.mul_comm]
theorem asc_str {s : String} (h : ∀ c ∈ (Str.ofString s).cps.toList, c < 128) : Asc (Str.ofString s) := h
def headL : List Str := ["", "", "", "0", "-", " ", "+"]
def signL : List Str := ["/", "/", "/", "", "//", " / ", ":"]
def tailL : List Str := ["", "", "", "", "0", "x", "/1"]
def sizeI (n : Int) : Int := ([1, 2, 9, 399, 400, 401] : List Int).getD (n / 343 % 6).toNat 0
def oneS (n : Int) : Str := cutS (Str.ofString (toString ((10 : Int) ^ Int.toNat 9 + n))) (some 1) (some (2 + n % 9))
def midS (n : Int) : Str := ([Str.ofString "0", Str.ofString "1", Txt.mul (Str.ofString (toString (1 + n % 9))) (sizeI n)] : List Str).getD (n / 2058 % 3).toNat Str.empty
def textI (n : Int) : Str := headL.getD (n % 7).toNat Str.empty ++ oneS n ++ signL.getD (n / 7 % 7).toNat Str.empty ++ midS n ++ tailL.getD (n / 49 % 7).toNat Str.empty
def r_law_text : List PyData → PyData → Prop := fun ds d => ∃ n, ds = [.int n] ∧ 0 ≤ n ∧ n < 2147483648 ∧ d = .str (textI n)
def Short (k : Nat) (y : Str) : Prop := y.length ≤ k ∧ Asc y
theorem short_app {j k : Nat} {x y : Str} (h : Short j x) (h2 : Short k y) : Short (j + k) (x ++ y) := ⟨by rw [Str.length_append]; have := h.1; have := h2.1; omega, asc_app h.2 h2.2⟩
theorem headL_ok : ∀ x ∈ headL, Short 3 x := by
  have : headL.all (fun x => decide (x.length ≤ 3) && x.cps.toList.all (fun c => decide (c < 128))) = true := by decide +kernel
  intro x hx
  have h := List.all_eq_true.mp this x hx
  simp only [Bool.and_eq_true, decide_eq_true_eq, List.all_eq_true] at h
  exact h
theorem signL_ok : ∀ x ∈ signL, Short 3 x := by
  have : signL.all (fun x => decide (x.length ≤ 3) && x.cps.toList.all (fun c => decide (c < 128))) = true := by decide +kernel
  intro x hx
  have h := List.all_eq_true.mp this x hx
  simp only [Bool.and_eq_true, decide_eq_true_eq, List.all_eq_true] at h
  exact h
theorem tailL_ok : ∀ x ∈ tailL, Short 3 x := by
  have : tailL.all (fun x => decide (x.length ≤ 3) && x.cps.toList.all (fun c => decide (c < 128))) = true := by decide +kernel
  intro x hx
  have h := List.all_eq_true.mp this x hx
  simp only [Bool.and_eq_true, decide_eq_true_eq, List.all_eq_true] at h
  exact h
theorem zo_ok : Short 3 (Str.ofString "0") ∧ Short 3 (Str.ofString "1") := by
  have : [Str.ofString "0", Str.ofString "1"].all (fun x => decide (x.length ≤ 3) && x.cps.toList.all (fun c => decide (c < 128))) = true := by decide +kernel
  simp only [List.all_cons, List.all_nil, Bool.and_eq_true, decide_eq_true_eq, List.all_eq_true, and_true] at this
  exact this
theorem size_ok (n : Int) : 0 < sizeI n ∧ sizeI n ≤ 401 := by
  unfold sizeI
  refine getD_all (p := fun x : Int => 0 < x ∧ x ≤ 401) (fun x hx => ?_) (by show _ < 6; omega)
  simp only [List.mem_cons, List.not_mem_nil, or_false] at hx
  rcases hx with h | h | h | h | h | h <;> omega
theorem num_short {a : Int} (h0 : 0 ≤ a) (h : a < 18446744073709551616) : Short 100 (Str.ofString (toString a)) := ⟨len_num h0 ((Bd.of64 (by omega)).mono), asc_num h0⟩
theorem dig_len {a : Int} (h0 : 0 ≤ a) (h : a < 10) : (Str.ofString (toString a)).length ≤ 1 := by
  obtain ⟨n, rfl⟩ := Int.eq_ofNat_of_zero_le h0
  rw [len_list, show (Str.ofString (toString ((n : Nat) : Int))).cps.toList = numL n from tl_num n, numL_lt (by omega)]
  exact Nat.le_refl _
theorem mid_ok (n : Int) : Short 401 (midS n) := by
  unfold midS
  refine getD_all (p := Short 401) (fun x hx => ?_) (by show _ < 3; omega)
  simp only [List.mem_cons, List.not_mem_nil, or_false] at hx
  have z := zo_ok
  rcases hx with h | h | h
  · rw [h]; exact ⟨Nat.le_trans z.1.1 (by decide), z.1.2⟩
  · rw [h]; exact ⟨Nat.le_trans z.2.1 (by decide), z.2.2⟩
  · rw [h]
    refine ⟨Nat.le_trans (len_mul _ _) ?_, asc_mul (asc_num (by omega))⟩
    have a := dig_len (a := 1 + n % 9) (by omega) (by omega)
    have b := (size_ok n).2
    exact Nat.le_trans (Nat.mul_le_mul a (show (sizeI n).toNat ≤ 401 by omega)) (by decide)
theorem one_ok {n : Int} (h0 : 0 ≤ n) (h1 : n < 2147483648) : Short 100 (oneS n) := by
  have s := num_short (a := (10 : Int) ^ Int.toNat 9 + n) (by have : (10 : Int) ^ Int.toNat 9 = 1000000000 := by decide
                                                              omega) (by have : (10 : Int) ^ Int.toNat 9 = 1000000000 := by decide
                                                                         omega)
  exact ⟨Nat.le_trans (cutS_length _ _ _) s.1, asc_cut s.2⟩
theorem text_ok {n : Int} (h0 : 0 ≤ n) (h1 : n < 2147483648) : Short 510 (textI n) := by
  have a := getD_all (d := Str.empty) headL_ok (show (n % 7).toNat < headL.length by show _ < 7; omega)
  have b := getD_all (d := Str.empty) signL_ok (show (n / 7 % 7).toNat < signL.length by show _ < 7; omega)
  have c := getD_all (d := Str.empty) tailL_ok (show (n / 49 % 7).toNat < tailL.length by show _ < 7; omega)
  exact short_app (short_app (short_app (short_app a (one_ok h0 h1)) b) (mid_ok n)) c
theorem ok_law_text {f : Addr} {fd : FuncData} (F : Fun K "_law_text" "_law_text" s_law_text f fd) (hm : mg "_law_text" = some (.ref f)) (T : Mg mg) : Dn P w K mg base 1 "_law_text" r_law_text := by
  refine dn_of F hm (F.binds (ps := ["_law_number"]) fun _ _ _ _ _ _ us hl => match us, hl with | [_], _ => rfl) ?_
  refine fn_ok F c_law_text (fun ds d hR => ?_) fun cdv A outer s H E B ds d hr hR => ?_
  · obtain ⟨n, rfl, h0, h1, rfl⟩ := hR
    rfl
  obtain ⟨n, rfl, h0, h1, rfl⟩ := hR
  have r0 : Rk (Xc P w K mg base n_law_text "_law_text" s_law_text f cdv A outer s H E) 0 "_law_number" := rk_of2 f_law_text rfl (by decide +kernel)
  have l0 : Lk (Xc P w K mg base n_law_text "_law_text" s_law_text f cdv A outer s H E) 0 "_law_number" := lk_of2 f_law_text rfl (by decide +kernel)
  have r1 : Rk (Xc P w K mg base n_law_text "_law_text" s_law_text f cdv A outer s H E) 1 "_law_head" := rk_of2 f_law_text rfl (by decide +kernel)
  have l1 : Lk (Xc P w K mg base n_law_text "_law_text" s_law_text f cdv A outer s H E) 1 "_law_head" := lk_of2 f_law_text rfl (by decide +kernel)
  have r2 : Rk (Xc P w K mg base n_law_text "_law_text" s_law_text f cdv A outer s H E) 2 "_law_sign" := rk_of2 f_law_text rfl (by decide +kernel)
  have l2 : Lk (Xc P w K mg base n_law_text "_law_text" s_law_text f cdv A outer s H E) 2 "_law_sign" := lk_of2 f_law_text rfl (by decide +kernel)
  have r3 : Rk (Xc P w K mg base n_law_text "_law_text" s_law_text f cdv A outer s H E) 3 "_law_tail" := rk_of2 f_law_text rfl (by decide +kernel)
  have l3 : Lk (Xc P w K mg base n_law_text "_law_text" s_law_text f cdv A outer s H E) 3 "_law_tail" := lk_of2 f_law_text rfl (by decide +kernel)
  have r4 : Rk (Xc P w K mg base n_law_text "_law_text" s_law_text f cdv A outer s H E) 4 "_law_size" := rk_of2 f_law_text rfl (by decide +kernel)
  have l4 : Lk (Xc P w K mg base n_law_text "_law_text" s_law_text f cdv A outer s H E) 4 "_law_size" := lk_of2 f_law_text rfl (by decide +kernel)
  have r5 : Rk (Xc P w K mg base n_law_text "_law_text" s_law_text f cdv A outer s H E) 5 "_law_one" := rk_of2 f_law_text rfl (by decide +kernel)
  have l5 : Lk (Xc P w K mg base n_law_text "_law_text" s_law_text f cdv A outer s H E) 5 "_law_one" := lk_of2 f_law_text rfl (by decide +kernel)
  have b0 : Bi (Xc P w K mg base n_law_text "_law_text" s_law_text f cdv A outer s H E) "str" := ⟨(gl_of2 f_law_text (by decide +kernel)), T.m_str⟩
  have t0 : Ty (Xc P w K mg base n_law_text "_law_text" s_law_text f cdv A outer s H E) "str" .str := ⟨b0, by decide +kernel, by decide +kernel, by decide +kernel⟩
  have rm : Rm (Xc P w K mg base n_law_text "_law_text" s_law_text f cdv A outer s H E) := ⟨hr.units⟩
  have hG : startG n_law_text [.int n] = [.sh (.int n), .un, .un, .un, .un, .un] := rfl
  rw [hG]; clear hG
  have e9 : (10 : Int) ^ Int.toNat 9 = 1000000000 := by decide
  have sn := num_short (a := (10 : Int) ^ Int.toNat 9 + n) (by omega) (by omega)
  have a := getD_all (d := Str.empty) headL_ok (show (n % 7).toNat < headL.length by show _ < 7; omega)
  have b := getD_all (d := Str.empty) signL_ok (show (n / 7 % 7).toNat < signL.length by show _ < 7; omega)
  have c := getD_all (d := Str.empty) tailL_ok (show (n / 49 % 7).toNat < tailL.length by show _ < 7; omega)
  have o1 := one_ok h0 h1
  have m1 := mid_ok n
  have sz := size_ok n
  have dl := dig_len (a := 1 + n % 9) (by omega) (by omega)
  unfold sizeI at sz
  unfold headL at a
  unfold signL at b
  unfold tailL at c
  unfold oneS at o1
  unfold midS sizeI at m1
  have ab := short_app a o1
  have abb := short_app ab b
  have abm := short_app abb m1
  ktf_call "x"
  · exact side_strB 64 (Bd.of64 (by omega))
  · exact ⟨side_size (Nat.le_trans sn.1 (by decide))⟩
  · exact ⟨side_size (Nat.le_trans (Nat.add_le_add a.1 o1.1) (by decide))⟩
  · exact ⟨side_size (Nat.le_trans (Nat.add_le_add ab.1 b.1) (by decide))⟩
  · exact side_strB 64 (Bd.of64 (by omega))
  · exact ⟨PyProof.Rows.mulOk_of 1 401 dl sz.2 (by omega) (by decide) (by decide)⟩
  · exact ⟨side_size (Nat.le_trans (Nat.add_le_add abb.1 m1.1) (by decide))⟩
  · exact ⟨side_size (Nat.le_trans (Nat.add_le_add abm.1 c.1) (by decide))⟩
  · rfl
def r_law_figures : List PyData → PyData → Prop := fun ds d => ∃ y, ds = [.str y] ∧ Short 100000 y ∧ d = optI (figI 400 y)
def r_law_texts_right : List PyData → PyData → Prop := fun ds d => ∃ n, ds = [.int n] ∧ 0 ≤ n ∧ n < 2147483648 ∧ d = .bool true
def signD : PyData → Nat
  | .str z => z.cps.getD 0 0
  | _ => 0
theorem ten_signs : (Str.ofString "0123456789").cps.toList = [48, 49, 50, 51, 52, 53, 54, 55, 56, 57] := by decide +kernel
def badD (d : PyData) : Bool := !decide (signD d ∈ (Str.ofString "0123456789").cps.toList)
theorem bad_dig {c : Nat} : badD (.str ⟨#[c]⟩) = !digC c := by
  unfold badD
  rw [ten_signs]
  show (!decide (c ∈ [48, 49, 50, 51, 52, 53, 54, 55, 56, 57])) = _
  unfold digC
  congr 1
  by_cases h : 48 ≤ c ∧ c ≤ 57
  · rw [decide_eq_true h.1, decide_eq_true h.2]
    refine decide_eq_true ?_
    simp only [List.mem_cons, List.not_mem_nil, or_false]
    omega
  · rw [show (decide (48 ≤ c) && decide (c ≤ 57)) = decide (48 ≤ c ∧ c ≤ 57) by simp, decide_eq_false h]
    refine decide_eq_false fun z => h ?_
    simp only [List.mem_cons, List.not_mem_nil, or_false] at z
    omega
def badL (y : Str) : List PyData := ((signsD y).filter badD).map id
theorem badL_empty (y : Str) : (badL y).isEmpty = y.cps.toList.all digC := by
  unfold badL signsD
  generalize y.cps.toList = l
  induction l with
  | nil => rfl
  | cons c r ih =>
    rw [List.map_cons, List.filter_cons, bad_dig, List.all_cons]
    cases digC c with
    | true => simpa using ih
    | false => rfl
theorem badL_mem {y : Str} (h : Asc y) : ∀ d ∈ badL y, ∃ c, c < 128 ∧ d = .str ⟨#[c]⟩ := fun d hd => by
  unfold badL at hd
  rw [List.map_id] at hd
  have := (List.mem_filter.mp hd).1
  unfold signsD at this
  obtain ⟨c, hc, e⟩ := List.mem_map.mp this
  exact ⟨c, h c hc, e.symm⟩
theorem plain_strs : ∀ l : List PyData, (∀ d ∈ l, ∃ c, c < 128 ∧ d = .str ⟨#[c]⟩) → PyData.canLayAll0 l = true ∧ PyData.depthAll l = 0 := fun l => by
  induction l with
  | nil => intro _; exact ⟨rfl, rfl⟩
  | cons d r ih =>
    intro h
    obtain ⟨c, hc, rfl⟩ := h d List.mem_cons_self
    obtain ⟨h1, h2⟩ := ih fun x hx => h x (List.mem_cons_of_mem _ hx)
    constructor
    · show (PyData.strOk ⟨#[c]⟩ && PyData.canLayAll0 r) = true
      rw [h1, Bool.and_true]
      unfold PyData.strOk
      simp
      omega
    · show max 0 (PyData.depthAll r) = 0
      rw [h2]; rfl
theorem badL_plain {y : Str} (h : Asc y) : SeqAt.shaped (.list (badL y)) = true := by
  obtain ⟨h1, h2⟩ := plain_strs _ (badL_mem h)
  unfold SeqAt.shaped
  show (PyData.canLayAll0 (badL y) && decide (PyData.depthAll (badL y) + 1 ≤ 64)) = true
  rw [h1, h2]; rfl
theorem eqv_nil (l : List PyData) : PyData.eqv (.list l) (.list []) = l.isEmpty := by
  cases l <;> rfl
theorem nil_signs : (Str.ofString "").cps.toList = [] := by decide +kernel
theorem fig_parts {y : Str} : figOk y.cps.toList = (!decide (y = Str.ofString "") && (badL y).isEmpty && !(y.cps.toList.head? == some 48 && decide (1 < y.cps.toList.length))) := by
  unfold figOk
  rw [badL_empty]
  congr 2
  congr 1
  cases h : y.cps.toList with
  | nil =>
    rw [decide_eq_true (str_eq (h.trans nil_signs.symm))]; rfl
  | cons c r =>
    rw [decide_eq_false fun z => by rw [z, nil_signs] at h; cases h]; rfl
theorem fig_nil : figI 400 (Str.ofString "") = none := by
  unfold figI figOk
  rw [nil_signs]
  simp
theorem fig_len {y : Str} {c : Nat} {r : List Nat} (hl : y.cps.toList = c :: r) : y.length = r.length + 1 := by rw [len_list, hl]; rfl
theorem sgn_zero2 {c : Nat} : (⟨#[c]⟩ : Str) = Str.ofString "0" ↔ c = 48 := by
  rw [show Str.ofString "0" = ⟨#[48]⟩ from str_eq (show (Str.ofString "0").cps.toList = [48] by decide +kernel)]
  constructor
  · intro h
    have := congrArg (fun s : Str => s.cps.toList) h
    simpa using this
  · intro h; rw [h]
theorem fig_law_no {y : Str} {c : Nat} {r : List Nat} (hl : y.cps.toList = c :: r) (h : y = Str.ofString "" ∨ (PyData.list (badL y)).eqv (.list []) = false ∨ 400 < (y.length : Int) ∨ (⟨#[c]⟩ : Str) = Str.ofString "0" ∧ 1 < (y.length : Int)) : figI 400 y = none := by
  unfold figI
  rw [fig_parts]
  refine if_neg fun z => ?_
  rw [eqv_nil] at h
  rw [hl] at z
  simp only [Bool.and_eq_true, decide_eq_true_eq, Bool.not_eq_true', decide_eq_false_iff_not, List.head?_cons, Bool.and_eq_false_iff, beq_eq_false_iff_ne, List.length_cons] at z
  obtain ⟨z1, ⟨z2, z3⟩, z4⟩ := z
  rcases h with h | h | h | ⟨h, h'⟩
  · exact z2 h
  · rw [z3] at h; cases h
  · omega
  · rw [sgn_zero2] at h
    rw [fig_len hl] at h'
    rcases z4 with z4 | z4
    · exact z4 (by rw [h])
    · omega
theorem fig_law_yes {y : Str} {c : Nat} {r : List Nat} (hl : y.cps.toList = c :: r) (h : ¬ y = Str.ofString "" ∧ (PyData.list (badL y)).eqv (.list []) = true ∧ ¬ 400 < (y.length : Int) ∧ (¬ (⟨#[c]⟩ : Str) = Str.ofString "0" ∨ ¬ 1 < (y.length : Int))) : figI 400 y = some ((digitsVal y.cps.toList : Nat) : Int) := by
  obtain ⟨h1, h2, h3, h4⟩ := h
  rw [eqv_nil] at h2
  unfold figI
  rw [fig_parts]
  refine if_pos ?_
  rw [hl]
  simp only [Bool.and_eq_true, decide_eq_true_eq, Bool.not_eq_true', decide_eq_false_iff_not, List.head?_cons, Bool.and_eq_false_iff, beq_eq_false_iff_ne, List.length_cons]
  refine ⟨by omega, ⟨h1, h2⟩, ?_⟩
  rw [sgn_zero2, fig_len hl] at h4
  rcases h4 with h4 | h4
  · exact .inl fun z => h4 (Option.some.inj z)
  · exact .inr (by omega)
theorem part_cases {k : Nat} {y : Str} (h : Short k y) : Part y (Str.ofString "/") y (Str.ofString "") (Str.ofString "") ∨ ∃ a b, Part y (Str.ofString "/") a (Str.ofString "/") b ∧ Short k a ∧ Short k b := by
  have g : ∀ (l acc a b : List Nat), par [47] acc l = some (a, b) → (∀ x ∈ a, x ∈ acc ∨ x ∈ l) ∧ (∀ x ∈ b, x ∈ l) := fun l => by
    induction l with
    | nil => intro acc a b h; cases h
    | cons c r ih =>
      intro acc a b h
      unfold par at h
      split at h
      · cases h
        exact ⟨fun x hx => .inl hx, fun x hx => List.mem_of_mem_drop hx⟩
      · obtain ⟨h1, h2⟩ := ih _ _ _ h
        refine ⟨fun x hx => ?_, fun x hx => List.mem_cons_of_mem _ (h2 x hx)⟩
        rcases h1 x hx with z | z
        · rcases List.mem_append.mp z with z | z
          · exact .inl z
          · rw [List.mem_singleton.mp z]; exact .inr List.mem_cons_self
        · exact .inr (List.mem_cons_of_mem _ z)
  have pl := part_len y
  have e := partition_par y (Str.ofString "/") (by rw [slash_signs]; simp)
  rw [slash_signs] at e
  cases hp : par [47] [] (tl y) with
  | none =>
    rw [hp] at e
    exact .inl ⟨by rw [e]; rfl⟩
  | some z =>
    obtain ⟨a, b⟩ := z
    rw [hp] at e
    obtain ⟨g1, g2⟩ := g _ _ _ _ hp
    rw [e] at pl
    refine .inr ⟨_, _, ⟨e⟩, ⟨Nat.le_trans pl.1 h.1, fun c hc => ?_⟩, ⟨Nat.le_trans pl.2 h.1, fun c hc => h.2 c (g2 c hc)⟩⟩
    rcases g1 c hc with z | z
    · cases z
    · exact h.2 c z
theorem ok_law_figures {f : Addr} {fd : FuncData} (F : Fun K "_law_figures" "_law_figures" s_law_figures f fd) (hm : mg "_law_figures" = some (.ref f)) (T : Mg mg) : Dn P w K mg base 1 "_law_figures" r_law_figures := by
  refine dn_of F hm (F.binds (ps := ["_law_text_here"]) fun _ _ _ _ _ _ us hl => match us, hl with | [_], _ => rfl) ?_
  refine fn_ok F c_law_figures (fun ds d hR => ?_) fun cdv A outer s H E B ds d hr hR => ?_
  · obtain ⟨y, rfl, hy, rfl⟩ := hR
    rfl
  obtain ⟨y, rfl, hy, rfl⟩ := hR
  have r0 : Rk (Xc P w K mg base n_law_figures "_law_figures" s_law_figures f cdv A outer s H E) 0 "_law_text_here" := rk_of2 f_law_figures rfl (by decide +kernel)
  have l0 : Lk (Xc P w K mg base n_law_figures "_law_figures" s_law_figures f cdv A outer s H E) 0 "_law_text_here" := lk_of2 f_law_figures rfl (by decide +kernel)
  have r1 : Rk (Xc P w K mg base n_law_figures "_law_figures" s_law_figures f cdv A outer s H E) 1 "_law_bad" := rk_of2 f_law_figures rfl (by decide +kernel)
  have l1 : Lk (Xc P w K mg base n_law_figures "_law_figures" s_law_figures f cdv A outer s H E) 1 "_law_bad" := lk_of2 f_law_figures rfl (by decide +kernel)
  have b0 : Bi (Xc P w K mg base n_law_figures "_law_figures" s_law_figures f cdv A outer s H E) "len" := ⟨(gl_of2 f_law_figures (by decide +kernel)), T.m_len⟩
  have b1 : Bi (Xc P w K mg base n_law_figures "_law_figures" s_law_figures f cdv A outer s H E) "int" := ⟨(gl_of2 f_law_figures (by decide +kernel)), T.m_int⟩
  have t1 : Ty (Xc P w K mg base n_law_figures "_law_figures" s_law_figures f cdv A outer s H E) "int" .int := ⟨b1, by decide +kernel, by decide +kernel, by decide +kernel⟩
  have rm : Rm (Xc P w K mg base n_law_figures "_law_figures" s_law_figures f cdv A outer s H E) := ⟨hr.units⟩
  have hG : startG n_law_figures [.str y] = [.sh (.str y), .un, .un] := rfl
  rw [hG]; clear hG
  have sh := badL_plain hy.2
  have hyl : (Xc P w K mg base n_law_figures "_law_figures" s_law_figures f cdv A outer s H E).env.scope.names.lookup ("_law_bad" : Str) = some NameKind.local := (show (defScope s_law_figures).names.lookup ("_law_bad" : Str) = some NameKind.local by decide +kernel)
  refine xbe_cons ?_
  refine xs_setLc (i := 1) (own := [("_law_sign", 2)]) (js := [2]) (ds := signsD y) false badD id (fun d => [.sh (.str y), .un, .sh d]) l1 hyl rfl (blkOk_by (N := n_law_figures) (sc := defScope s_law_figures) (by decide +kernel)) (sw_true rfl hyl rfl (by decide +kernel)) (fun _ => rfl) ?_ ?_ (fun _ h => h) ?_ ?_
  · ktf_call "x"
  · unfold signsD
    rw [List.length_map, ← len_list]
    exact Nat.le_trans hy.1 (by decide)
  · rintro X' ⟨s', H', C, cl, fp, rfl⟩ B' d hd
    unfold signsD at hd
    obtain ⟨c, _, rfl⟩ := List.mem_map.mp hd
    refine ⟨?_, ?_, fun _ => ?_⟩
    · refine xge_name (i := 2) ⟨l1.nd, rfl, .inl rfl, .inr rfl⟩ ?_
      ktf_call "sg"
    · show Xq _ _ _ _ (!decide (c ∈ (Str.ofString "0123456789").cps.toList))
      refine xq_one ?_
      refine' xte_cmp ?_ (xe_var (d := .str ⟨#[c]⟩) (i := 2) ⟨rfl, .inl rfl, by decide +kernel, by decide +kernel⟩ ?_) ?_ ?_
      all_goals ktf_call "x"
    · refine xe_var (i := 2) ⟨rfl, .inl rfl, by decide +kernel, by decide +kernel⟩ ?_
      ktf_call "tt"
  · show seqP _ _ _ _ (.nx [.sh (.str y), .sh (.list (badL y)), .un])
    have s1 : Side (y.length ≤ sizeLine) := ⟨side_size (Nat.le_trans hy.1 (by decide))⟩
    rcases hl : y.cps.toList with _ | ⟨c, r⟩
    · have hy0 : y = Str.ofString "" := str_eq (hl.trans nil_signs.symm)
      subst hy0
      ktf_call "x"
      ktf_call "xf"
      exact congrArg optI fig_nil.symm
    · have s2 : Side (atI y.cps.toList 0 = some c) := ⟨by rw [hl]; exact atI_nat (j := 0) rfl⟩
      ktf_call "x"
      · rename_i h; exact congrArg optI (fig_law_no hl h).symm
      · exact ((digitsVal y.cps.toList : Nat) : Int)
      · rename_i h; exact ⟨(fig_text (by decide) (fig_law_yes hl h)).1⟩
      · rename_i h; exact congrArg optI (fig_law_yes hl h).symm
/-! the law's look at a text -/
local macro_rules
  | `(tactic| ktf_call "cal") => `(tactic| first
    | with_reducible assumption
    | ((with_reducible show Cal r_is_whole _ _); exact ⟨⟨_, rfl, rfl⟩⟩)
    | ((with_reducible show Cal r_law_is _ _); refine' ⟨⟨_, _, _, _, rfl, true, ?_, rfl⟩⟩))
theorem nil_short : Short 100000 (Str.ofString "") := by
  unfold Short Asc
  rw [len_list, nil_signs]
  exact ⟨by decide, fun c h => by cases h⟩
theorem ok_law_texts_right {f : Addr} {fd : FuncData} (F : Fun K "_law_texts_right" "_law_texts_right" s_law_texts_right f fd) (hm : mg "_law_texts_right" = some (.ref f)) (T : Mg mg) (D_law_text : Dn P w K mg base 1 "_law_text" r_law_text) (D_law_figures : Dn P w K mg base 1 "_law_figures" r_law_figures) (D_law_least : Dn P w K mg base 2 "_law_least" r_law_least) (D_share_in : Dn P w K mg base 2 "share_in" r_share_in) (D_law_is : Dn P w K mg base 1 "_law_is" r_law_is) (D_figures_in : Dn P w K mg base 1 "figures_in" r_figures_in) (D_is_whole : Dn P w K mg base 1 "is_whole" r_is_whole) : Dn P w K mg base 3 "_law_texts_right" r_law_texts_right := by
  refine dn_of F hm (F.binds (ps := ["_law_number"]) fun _ _ _ _ _ _ us hl => match us, hl with | [_], _ => rfl) ?_
  refine fn_ok F c_law_texts_right (fun ds d hR => ?_) fun cdv A outer s H E B ds d hr hR => ?_
  · obtain ⟨n, rfl, h0, h1, rfl⟩ := hR
    rfl
  obtain ⟨n, rfl, h0, h1, rfl⟩ := hR
  have r0 : Rk (Xc P w K mg base n_law_texts_right "_law_texts_right" s_law_texts_right f cdv A outer s H E) 0 "_law_number" := rk_of2 f_law_texts_right rfl (by decide +kernel)
  have l0 : Lk (Xc P w K mg base n_law_texts_right "_law_texts_right" s_law_texts_right f cdv A outer s H E) 0 "_law_number" := lk_of2 f_law_texts_right rfl (by decide +kernel)
  have r1 : Rk (Xc P w K mg base n_law_texts_right "_law_texts_right" s_law_texts_right f cdv A outer s H E) 1 "_law_text_here" := rk_of2 f_law_texts_right rfl (by decide +kernel)
  have l1 : Lk (Xc P w K mg base n_law_texts_right "_law_texts_right" s_law_texts_right f cdv A outer s H E) 1 "_law_text_here" := lk_of2 f_law_texts_right rfl (by decide +kernel)
  have r2 : Rk (Xc P w K mg base n_law_texts_right "_law_texts_right" s_law_texts_right f cdv A outer s H E) 2 "_law_above" := rk_of2 f_law_texts_right rfl (by decide +kernel)
  have l2 : Lk (Xc P w K mg base n_law_texts_right "_law_texts_right" s_law_texts_right f cdv A outer s H E) 2 "_law_above" := lk_of2 f_law_texts_right rfl (by decide +kernel)
  have r3 : Rk (Xc P w K mg base n_law_texts_right "_law_texts_right" s_law_texts_right f cdv A outer s H E) 3 "_law_sign" := rk_of2 f_law_texts_right rfl (by decide +kernel)
  have l3 : Lk (Xc P w K mg base n_law_texts_right "_law_texts_right" s_law_texts_right f cdv A outer s H E) 3 "_law_sign" := lk_of2 f_law_texts_right rfl (by decide +kernel)
  have r4 : Rk (Xc P w K mg base n_law_texts_right "_law_texts_right" s_law_texts_right f cdv A outer s H E) 4 "_law_beneath" := rk_of2 f_law_texts_right rfl (by decide +kernel)
  have l4 : Lk (Xc P w K mg base n_law_texts_right "_law_texts_right" s_law_texts_right f cdv A outer s H E) 4 "_law_beneath" := lk_of2 f_law_texts_right rfl (by decide +kernel)
  have r5 : Rk (Xc P w K mg base n_law_texts_right "_law_texts_right" s_law_texts_right f cdv A outer s H E) 5 "_law_due" := rk_of2 f_law_texts_right rfl (by decide +kernel)
  have l5 : Lk (Xc P w K mg base n_law_texts_right "_law_texts_right" s_law_texts_right f cdv A outer s H E) 5 "_law_due" := lk_of2 f_law_texts_right rfl (by decide +kernel)
  have r6 : Rk (Xc P w K mg base n_law_texts_right "_law_texts_right" s_law_texts_right f cdv A outer s H E) 6 "_law_found" := rk_of2 f_law_texts_right rfl (by decide +kernel)
  have l6 : Lk (Xc P w K mg base n_law_texts_right "_law_texts_right" s_law_texts_right f cdv A outer s H E) 6 "_law_found" := lk_of2 f_law_texts_right rfl (by decide +kernel)
  have r7 : Rk (Xc P w K mg base n_law_texts_right "_law_texts_right" s_law_texts_right f cdv A outer s H E) 7 "_law_told" := rk_of2 f_law_texts_right rfl (by decide +kernel)
  have l7 : Lk (Xc P w K mg base n_law_texts_right "_law_texts_right" s_law_texts_right f cdv A outer s H E) 7 "_law_told" := lk_of2 f_law_texts_right rfl (by decide +kernel)
  have g0 : Gl (Xc P w K mg base n_law_texts_right "_law_texts_right" s_law_texts_right f cdv A outer s H E) "_law_text" := (gl_of2 f_law_texts_right (by decide +kernel))
  have c0 : Ce (Xc P w K mg base n_law_texts_right "_law_texts_right" s_law_texts_right f cdv A outer s H E) "_law_text" r_law_text := ce_of D_law_text hr (by decide) (by decide +kernel)
  have g1 : Gl (Xc P w K mg base n_law_texts_right "_law_texts_right" s_law_texts_right f cdv A outer s H E) "_law_figures" := (gl_of2 f_law_texts_right (by decide +kernel))
  have c1 : Ce (Xc P w K mg base n_law_texts_right "_law_texts_right" s_law_texts_right f cdv A outer s H E) "_law_figures" r_law_figures := ce_of D_law_figures hr (by decide) (by decide +kernel)
  have g2 : Gl (Xc P w K mg base n_law_texts_right "_law_texts_right" s_law_texts_right f cdv A outer s H E) "_law_least" := (gl_of2 f_law_texts_right (by decide +kernel))
  have c2 : Ce (Xc P w K mg base n_law_texts_right "_law_texts_right" s_law_texts_right f cdv A outer s H E) "_law_least" r_law_least := ce_of D_law_least hr (by decide) (by decide +kernel)
  have g3 : Gl (Xc P w K mg base n_law_texts_right "_law_texts_right" s_law_texts_right f cdv A outer s H E) "share_in" := (gl_of2 f_law_texts_right (by decide +kernel))
  have c3 : Ce (Xc P w K mg base n_law_texts_right "_law_texts_right" s_law_texts_right f cdv A outer s H E) "share_in" r_share_in := ce_of D_share_in hr (by decide) (by decide +kernel)
  have g4 : Gl (Xc P w K mg base n_law_texts_right "_law_texts_right" s_law_texts_right f cdv A outer s H E) "_law_is" := (gl_of2 f_law_texts_right (by decide +kernel))
  have c4 : Ce (Xc P w K mg base n_law_texts_right "_law_texts_right" s_law_texts_right f cdv A outer s H E) "_law_is" r_law_is := ce_of D_law_is hr (by decide) (by decide +kernel)
  have g5 : Gl (Xc P w K mg base n_law_texts_right "_law_texts_right" s_law_texts_right f cdv A outer s H E) "figures_in" := (gl_of2 f_law_texts_right (by decide +kernel))
  have c5 : Ce (Xc P w K mg base n_law_texts_right "_law_texts_right" s_law_texts_right f cdv A outer s H E) "figures_in" r_figures_in := ce_of D_figures_in hr (by decide) (by decide +kernel)
  have g6 : Gl (Xc P w K mg base n_law_texts_right "_law_texts_right" s_law_texts_right f cdv A outer s H E) "is_whole" := (gl_of2 f_law_texts_right (by decide +kernel))
  have c6 : Ce (Xc P w K mg base n_law_texts_right "_law_texts_right" s_law_texts_right f cdv A outer s H E) "is_whole" r_is_whole := ce_of D_is_whole hr (by decide) (by decide +kernel)
  have rm : Rm (Xc P w K mg base n_law_texts_right "_law_texts_right" s_law_texts_right f cdv A outer s H E) := ⟨hr.units⟩
  have hG : startG n_law_texts_right [.int n] = [.sh (.int n), .un, .un, .un, .un, .un, .un, .un] := rfl
  rw [hG]; clear hG
  have k0 : Cal r_law_text [.int n] (.str (textI n)) := ⟨n, rfl, h0, h1, rfl⟩
  have ht := text_ok h0 h1
  generalize textI n = y at k0 ht
  have hy : y.length ≤ 100000 := Nat.le_trans ht.1 (by decide)
  have sz : Side (y.length ≤ sizeLine) := ⟨side_size (Nat.le_trans ht.1 (by decide))⟩
  have e1 : ¬ Str.ofString "/" = Str.ofString "" := by decide +kernel
  have e2 : inD (.int 0) [.none, .int 0] = true := rfl
  rcases part_cases ht with hp | ⟨a, b, hp, ha, hb⟩
  · have e3 : shareInD (.str y) = .none := by
      show optP (shareIn y) = .none
      unfold shareIn
      rw [hp.h]
      simp only [fig_nil]
      cases figI 400 y <;> rfl
    have k1 : Cal r_law_figures [.str (Str.ofString "")] .none := ⟨_, rfl, nil_short, by rw [fig_nil]; rfl⟩
    have k2 : Cal r_figures_in [.str (Str.ofString "")] .none := ⟨_, rfl, nil_short.1, by rw [fig_nil]; rfl⟩
    have k3 : Cal r_share_in [.str y] .none := ⟨_, rfl, hy, e3.symm⟩
    ktf_call "x"
    ktf_call "xf"
    all_goals first | rfl | (exact ⟨fun _ => ⟨rfl, rfl⟩, fun _ => rfl⟩) | (refine congrArg PyData.bool ?_; simp [isNone, isWhole]; done) | (exfalso; rename_i h; simp [isNone, e1, e2] at h; done) | (exfalso; rename_i h _; simp [isNone, e1, e2] at h; done)
  · have ha' : Short 100000 a := ⟨Nat.le_trans ha.1 (by decide), ha.2⟩
    have hb' : Short 100000 b := ⟨Nat.le_trans hb.1 (by decide), hb.2⟩
    have k1 : Cal r_law_figures [.str a] (optI (figI 400 a)) := ⟨_, rfl, ha', rfl⟩
    have k2 : Cal r_law_figures [.str b] (optI (figI 400 b)) := ⟨_, rfl, hb', rfl⟩
    have k3 : Cal r_figures_in [.str b] (optI (figI 400 b)) := ⟨_, rfl, hb'.1, rfl⟩
    have k4 : Cal r_share_in [.str y] (optP (shareIn y)) := ⟨_, rfl, hy, rfl⟩
    unfold shareIn at k4
    rw [hp.h] at k4
    simp only [] at k4
    cases h1 : figI 400 a with
    | none =>
      rw [h1] at k1 k4
      cases h2 : figI 400 b with
      | none =>
        rw [h2] at k2 k3 k4
        replace k1 : Cal r_law_figures [.str a] .none := k1
        replace k2 : Cal r_law_figures [.str b] .none := k2
        replace k3 : Cal r_figures_in [.str b] .none := k3
        replace k4 : Cal r_share_in [.str y] .none := k4
        ktf_call "x"
        ktf_call "xf"
        all_goals first | rfl | (exact ⟨fun _ => ⟨rfl, rfl⟩, fun _ => rfl⟩) | (refine congrArg PyData.bool ?_; simp [isNone, isWhole]; done) | (exfalso; rename_i h; simp [isNone, e1, e2] at h; done) | (exfalso; rename_i h _; simp [isNone, e1, e2] at h; done)
      | some p =>
        rw [h2] at k2 k3 k4
        replace k1 : Cal r_law_figures [.str a] .none := k1
        replace k2 : Cal r_law_figures [.str b] (.int p) := k2
        replace k3 : Cal r_figures_in [.str b] (.int p) := k3
        replace k4 : Cal r_share_in [.str y] .none := k4
        ktf_call "x"
        ktf_call "xf"
        all_goals first | rfl | (exact ⟨fun _ => ⟨rfl, rfl⟩, fun _ => rfl⟩) | (refine congrArg PyData.bool ?_; simp [isNone, isWhole]; done) | (exfalso; rename_i h; simp [isNone, e1, e2] at h; done) | (exfalso; rename_i h _; simp [isNone, e1, e2] at h; done)
    | some i =>
      rw [h1] at k1 k4
      cases h2 : figI 400 b with
      | none =>
        rw [h2] at k2 k3 k4
        replace k1 : Cal r_law_figures [.str a] (.int i) := k1
        replace k2 : Cal r_law_figures [.str b] .none := k2
        replace k3 : Cal r_figures_in [.str b] .none := k3
        replace k4 : Cal r_share_in [.str y] .none := k4
        ktf_call "x"
        ktf_call "xf"
        all_goals first | rfl | (exact ⟨fun _ => ⟨rfl, rfl⟩, fun _ => rfl⟩) | (refine congrArg PyData.bool ?_; simp [isNone, isWhole]; done) | (exfalso; rename_i h; simp [isNone, e1, e2] at h; done) | (exfalso; rename_i h _; simp [isNone, e1, e2] at h; done)
      | some p =>
        rw [h2] at k2 k3 k4
        replace k1 : Cal r_law_figures [.str a] (.int i) := k1
        replace k2 : Cal r_law_figures [.str b] (.int p) := k2
        replace k3 : Cal r_figures_in [.str b] (.int p) := k3
        have b1 := fig_bound (by decide) h1
        have b2 := fig_bound (by decide) h2
        by_cases hp0 : p = 0
        · subst hp0
          replace k4 : Cal r_share_in [.str y] .none := k4
          ktf_call "x"
          ktf_call "xf"
          all_goals first | rfl | (exact ⟨fun _ => ⟨rfl, rfl⟩, fun _ => rfl⟩) | (refine congrArg PyData.bool ?_; simp [isNone, isWhole]; done) | (exfalso; rename_i h; simp [isNone, e1, e2] at h; done) | (exfalso; rename_i h _; simp [isNone, e1, e2] at h; done)
        · have k4' : Cal r_share_in [.str y] (pairD (redI i p)) := by
            simp only [if_neg hp0] at k4
            exact k4
          clear k4 e2
          have e2 : inD (.int p) [.none, .int 0] = false := by
            show inV (.int p) [.non, .int 0] = false
            simp only [inV, List.any_cons, List.any_nil, Bool.or_false, Bool.or_eq_false_iff]
            refine ⟨rfl, ?_⟩
            show decide ((0 : Int) = p) = false
            exact decide_eq_false fun h => hp0 h.symm
          have k5 : Cal r_law_least [.int i, .int p] (pairD (redI i p)) := ⟨_, _, rfl, hp0, b1.2.mono, b2.2.mono, rfl⟩
          ktf_call "x"
          ktf_call "xf"
          all_goals first | rfl | (exact ⟨fun _ => ⟨rfl, rfl⟩, fun _ => rfl⟩) | (refine congrArg PyData.bool ?_; simp [isNone, isWhole]; done) | (exfalso; rename_i h; simp [isNone, e1, e2] at h; done) | (exfalso; rename_i h _; simp [isNone, e1, e2] at h; done)
/-! the law -/
def r_law : List PyData → PyData → Prop := fun ds d => ∃ ns : List Int, ds = [.list (ns.map .int)] ∧ ns.length ≤ 63 ∧ d = .bool true
abbrev oddL : List PyData := [.none, .int 5, .bool true, .tuple [.int 1], .tuple [.int 1, .int 2, .int 3], .list [.int 1, .int 2], .tuple [.int 2, .int 4], .tuple [.int 0, .int 2], .tuple [.int 1, .int 0], .tuple [.int 1, .int (-2)], .tuple [.bool true, .int 2]] ++ [.tuple [.int 1, .bool true], .tuple [.str (Str.ofString "1"), .int 2], .str (Str.ofString "1/2"), .dict []]
theorem odd_no (k : Nat) : isShare (oddL.getD ((k : Int) % 15).toNat .none) = false := by
  refine getD_all (p := fun x => isShare x = false) (fun x hx => ?_) (by show _ < 15; omega)
  simp only [oddL, List.cons_append, List.nil_append, List.mem_cons, List.not_mem_nil, or_false] at hx
  rcases hx with h | h | h | h | h | h | h | h | h | h | h | h | h | h | h <;> rw [h] <;> rfl
theorem mix_ok (c k : Int) : 0 ≤ mixI c k ∧ mixI c k < 2147483648 := by
  unfold mixI
  omega
local macro_rules
  | `(tactic| ktf_call "cal") => `(tactic| first
    | with_reducible assumption
    | ((with_reducible show Cal r_is_whole _ _); exact ⟨⟨_, rfl, rfl⟩⟩)
    | ((with_reducible show Cal r_share_in _ _); refine' ⟨⟨_, rfl, ?_, rfl⟩⟩)
    | ((with_reducible show Cal r_law_is _ _); refine' ⟨⟨_, _, _, _, rfl, true, ?_, rfl⟩⟩))
theorem there_back {a b : Int} (ha : 0 ≤ a) (hb : 0 < b) (ta : Bd 100 a) (tb : Bd 100 b) : 0 ≤ (redI a b).1 ∧ 0 ≤ (redI a b).2 ∧ Bd 100 (redI a b).1 ∧ Bd 100 (redI a b).2 ∧ (shareText (redI a b).1 (redI a b).2).length ≤ 201 ∧ pairD (redI a b) = shareInD (.str (shareText (redI a b).1 (redI a b).2)) ∧ True := by
  have hb0 : b ≠ 0 := by omega
  have p2 := red_pos2 a hb0
  have b1 : Bd 100 (redI a b).1 := ta.le (red_le1 a hb0)
  have b2 : Bd 100 (redI a b).2 := tb.le (red_le2 a hb0)
  have g := red_gcd a hb0
  have p1 : 0 ≤ (redI a b).1 := by
    unfold redI
    rw [if_neg (by omega)]
    exact Int.ediv_nonneg ha (by have := gcdI_pos (n := a) hb0; omega)
  generalize redI a b = q at *
  refine ⟨p1, by omega, b1, b2, ?_, ?_, trivial⟩
  · have w1 := len_num p1 b1
    have w2 := len_num (show 0 ≤ q.2 by omega) b2
    have w3 := len_slash
    unfold shareText
    simp only [Str.length_append]
    omega
  · show _ = optP (shareIn _)
    have e : (2 : Nat) ^ 100 ≤ 10 ^ 100 := Nat.pow_le_pow_left (by decide) _
    rw [share_back p1 p2 (Nat.lt_of_lt_of_le b1 e) (Nat.lt_of_lt_of_le b2 e) g]
    rfl
theorem ok_law {f : Addr} {fd : FuncData} (F : Fun K "law" "law" s_law f fd) (hm : mg "law" = some (.ref f)) (T : Mg mg) (D_law_pair : Dn P w K mg base 1 "_law_pair" r_law_pair) (D_law_mixed : Dn P w K mg base 1 "_law_mixed" r_law_mixed) (D_law_right : Dn P w K mg base 3 "_law_right" r_law_right) (D_is_share : Dn P w K mg base 2 "is_share" r_is_share) (D_law_texts_right : Dn P w K mg base 3 "_law_texts_right" r_law_texts_right) (D_law_least : Dn P w K mg base 2 "_law_least" r_law_least) (D_share_text : Dn P w K mg base 1 "share_text" r_share_text) (D_law_is : Dn P w K mg base 1 "_law_is" r_law_is) (D_share_in : Dn P w K mg base 2 "share_in" r_share_in) (D_is_whole : Dn P w K mg base 1 "is_whole" r_is_whole) : FnOk P w K mg base CX0 4 f fd ["_law_script"] (spR K r_law) := by
  refine fn_ok F c_law (fun ds d hR => ?_) fun cdv A outer s H E B ds d hr hR => ?_
  · obtain ⟨ns, rfl, hl, rfl⟩ := hR
    rfl
  obtain ⟨ns, rfl, hl, rfl⟩ := hR
  have r0 : Rk (Xc P w K mg base n_law "law" s_law f cdv A outer s H E) 0 "_law_script" := rk_of2 f_law rfl (by decide +kernel)
  have l0 : Lk (Xc P w K mg base n_law "law" s_law f cdv A outer s H E) 0 "_law_script" := lk_of2 f_law rfl (by decide +kernel)
  have r1 : Rk (Xc P w K mg base n_law "law" s_law f cdv A outer s H E) 1 "_law_odd" := rk_of2 f_law rfl (by decide +kernel)
  have l1 : Lk (Xc P w K mg base n_law "law" s_law f cdv A outer s H E) 1 "_law_odd" := lk_of2 f_law rfl (by decide +kernel)
  have r2 : Rk (Xc P w K mg base n_law "law" s_law f cdv A outer s H E) 2 "_law_k" := rk_of2 f_law rfl (by decide +kernel)
  have l2 : Lk (Xc P w K mg base n_law "law" s_law f cdv A outer s H E) 2 "_law_k" := lk_of2 f_law rfl (by decide +kernel)
  have r3 : Rk (Xc P w K mg base n_law "law" s_law f cdv A outer s H E) 3 "_law_cell" := rk_of2 f_law rfl (by decide +kernel)
  have l3 : Lk (Xc P w K mg base n_law "law" s_law f cdv A outer s H E) 3 "_law_cell" := lk_of2 f_law rfl (by decide +kernel)
  have r4 : Rk (Xc P w K mg base n_law "law" s_law f cdv A outer s H E) 4 "_law_first" := rk_of2 f_law rfl (by decide +kernel)
  have l4 : Lk (Xc P w K mg base n_law "law" s_law f cdv A outer s H E) 4 "_law_first" := lk_of2 f_law rfl (by decide +kernel)
  have r5 : Rk (Xc P w K mg base n_law "law" s_law f cdv A outer s H E) 5 "_law_second" := rk_of2 f_law rfl (by decide +kernel)
  have l5 : Lk (Xc P w K mg base n_law "law" s_law f cdv A outer s H E) 5 "_law_second" := lk_of2 f_law rfl (by decide +kernel)
  have r6 : Rk (Xc P w K mg base n_law "law" s_law f cdv A outer s H E) 6 "_law_one" := rk_of2 f_law rfl (by decide +kernel)
  have l6 : Lk (Xc P w K mg base n_law "law" s_law f cdv A outer s H E) 6 "_law_one" := lk_of2 f_law rfl (by decide +kernel)
  have b0 : Bi (Xc P w K mg base n_law "law" s_law f cdv A outer s H E) "enumerate" := ⟨(gl_of2 f_law (by decide +kernel)), T.m_enumerate⟩
  have g1 : Gl (Xc P w K mg base n_law "law" s_law f cdv A outer s H E) "_law_pair" := (gl_of2 f_law (by decide +kernel))
  have c1 : Ce (Xc P w K mg base n_law "law" s_law f cdv A outer s H E) "_law_pair" r_law_pair := ce_of D_law_pair hr (by decide) (by decide +kernel)
  have g2 : Gl (Xc P w K mg base n_law "law" s_law f cdv A outer s H E) "_law_mixed" := (gl_of2 f_law (by decide +kernel))
  have c2 : Ce (Xc P w K mg base n_law "law" s_law f cdv A outer s H E) "_law_mixed" r_law_mixed := ce_of D_law_mixed hr (by decide) (by decide +kernel)
  have g3 : Gl (Xc P w K mg base n_law "law" s_law f cdv A outer s H E) "_law_right" := (gl_of2 f_law (by decide +kernel))
  have c3 : Ce (Xc P w K mg base n_law "law" s_law f cdv A outer s H E) "_law_right" r_law_right := ce_of D_law_right hr (by decide) (by decide +kernel)
  have g4 : Gl (Xc P w K mg base n_law "law" s_law f cdv A outer s H E) "is_share" := (gl_of2 f_law (by decide +kernel))
  have c4 : Ce (Xc P w K mg base n_law "law" s_law f cdv A outer s H E) "is_share" r_is_share := ce_of D_is_share hr (by decide) (by decide +kernel)
  have g5 : Gl (Xc P w K mg base n_law "law" s_law f cdv A outer s H E) "_law_texts_right" := (gl_of2 f_law (by decide +kernel))
  have c5 : Ce (Xc P w K mg base n_law "law" s_law f cdv A outer s H E) "_law_texts_right" r_law_texts_right := ce_of D_law_texts_right hr (by decide) (by decide +kernel)
  have g6 : Gl (Xc P w K mg base n_law "law" s_law f cdv A outer s H E) "_law_least" := (gl_of2 f_law (by decide +kernel))
  have c6 : Ce (Xc P w K mg base n_law "law" s_law f cdv A outer s H E) "_law_least" r_law_least := ce_of D_law_least hr (by decide) (by decide +kernel)
  have b7 : Bi (Xc P w K mg base n_law "law" s_law f cdv A outer s H E) "abs" := ⟨(gl_of2 f_law (by decide +kernel)), T.m_abs⟩
  have g8 : Gl (Xc P w K mg base n_law "law" s_law f cdv A outer s H E) "share_text" := (gl_of2 f_law (by decide +kernel))
  have c8 : Ce (Xc P w K mg base n_law "law" s_law f cdv A outer s H E) "share_text" r_share_text := ce_of D_share_text hr (by decide) (by decide +kernel)
  have b9 : Bi (Xc P w K mg base n_law "law" s_law f cdv A outer s H E) "str" := ⟨(gl_of2 f_law (by decide +kernel)), T.m_str⟩
  have t9 : Ty (Xc P w K mg base n_law "law" s_law f cdv A outer s H E) "str" .str := ⟨b9, by decide +kernel, by decide +kernel, by decide +kernel⟩
  have g10 : Gl (Xc P w K mg base n_law "law" s_law f cdv A outer s H E) "_law_is" := (gl_of2 f_law (by decide +kernel))
  have c10 : Ce (Xc P w K mg base n_law "law" s_law f cdv A outer s H E) "_law_is" r_law_is := ce_of D_law_is hr (by decide) (by decide +kernel)
  have g11 : Gl (Xc P w K mg base n_law "law" s_law f cdv A outer s H E) "share_in" := (gl_of2 f_law (by decide +kernel))
  have c11 : Ce (Xc P w K mg base n_law "law" s_law f cdv A outer s H E) "share_in" r_share_in := ce_of D_share_in hr (by decide) (by decide +kernel)
  have g12 : Gl (Xc P w K mg base n_law "law" s_law f cdv A outer s H E) "is_whole" := (gl_of2 f_law (by decide +kernel))
  have c12 : Ce (Xc P w K mg base n_law "law" s_law f cdv A outer s H E) "is_whole" r_is_whole := ce_of D_is_whole hr (by decide) (by decide +kernel)
  have rm : Rm (Xc P w K mg base n_law "law" s_law f cdv A outer s H E) := ⟨hr.units⟩
  have hG : startG n_law [.list (ns.map .int)] = [.sh (.list (ns.map .int)), .un, .un, .un, .un, .un, .un] := rfl
  rw [hG]; clear hG
  ktf_call "x"
  refine xs_for PassesOwn.never rfl (fun _ => rfl) (ds := enumD 0 (cutD (ns.map .int) none (some 63) ++ [.int 7])) ?_ (fun _ Γ => ∃ a b c d e, Γ = [.sh (.list (ns.map .int)), .sh (.list oddL), a, b, c, d, e]) ⟨_, _, _, _, _, rfl⟩ ?_ ?_
  · ktf_call "x"
    refine ⟨side_size ?_⟩
    unfold cutD
    rw [List.length_take, List.length_drop, List.length_map]
    show _ + 1 ≤ _
    omega
  · rintro B' k d Γ' hk ⟨z1, z2, z3, z4, z5, rfl⟩
    obtain ⟨d', hd', rfl⟩ := enumD_get hk
    rw [Nat.zero_add]
    obtain ⟨n, rfl⟩ : ∃ n : Int, d' = .int n := by
      rcases List.mem_append.mp (List.mem_of_getElem? hd') with h | h
      · unfold cutD at h
        obtain ⟨x, _, e⟩ := List.mem_map.mp (List.mem_of_mem_drop (List.mem_of_mem_take h))
        exact ⟨x, e.symm⟩
      · exact ⟨7, List.mem_singleton.mp h⟩
    have c1 : Cal r_law_mixed [.int n, .int ((k : Int) % 5)] (.int (mixI n ((k : Int) % 5))) := ⟨_, _, rfl, by omega, by omega, rfl⟩
    have c2 : Cal r_law_mixed [.int n, .int (9 + (k : Int) % 5)] (.int (mixI n (9 + (k : Int) % 5))) := ⟨_, _, rfl, by omega, by omega, rfl⟩
    have c3 : Cal r_law_mixed [.int n, .int 20] (.int (mixI n 20)) := ⟨_, _, rfl, by omega, by omega, rfl⟩
    have m1 := mix_ok n ((k : Int) % 5)
    have m2 := mix_ok n (9 + (k : Int) % 5)
    have m3 := mix_ok n 20
    generalize mixI n ((k : Int) % 5) = x1 at *
    generalize mixI n (9 + (k : Int) % 5) = x2 at *
    generalize mixI n 20 = x3 at *
    have p1 : Cal r_law_pair [.int x1] (pairD (pairI x1)) := ⟨_, rfl, m1.1, m1.2, rfl⟩
    have p2 : Cal r_law_pair [.int x2] (pairD (pairI x2)) := ⟨_, rfl, m2.1, m2.2, rfl⟩
    have t1 : Cal r_law_texts_right [.int x3] (.bool true) := ⟨_, rfl, m3.1, m3.2, rfl⟩
    have s1 : Cal r_is_share [oddL.getD ((k : Int) % 15).toNat .none] (.bool false) := ⟨_, rfl, by rw [odd_no]⟩
    have o1 := pair_ok x1
    have o2 := pair_ok x2
    generalize pairI x1 = y1 at *
    generalize pairI x2 = y2 at *
    obtain ⟨hb, ta, tb⟩ := o1
    obtain ⟨he, tc, te⟩ := o2
    have r1 : Cal r_law_right [pairD y1, pairD y2] (.bool true) := ⟨_, _, _, _, rfl, hb, he, ta, tb, tc, te, rfl⟩
    have r2 : Cal r_law_right [pairD y2, pairD y1] (.bool true) := ⟨_, _, _, _, rfl, he, hb, tc, te, ta, tb, rfl⟩
    have r3 : Cal r_law_right [pairD y1, pairD y1] (.bool true) := ⟨_, _, _, _, rfl, hb, hb, ta, tb, ta, tb, rfl⟩
    have hA : 0 ≤ (if y1.1 < 0 then -y1.1 else y1.1) ∧ (if y1.1 < 0 then -y1.1 else y1.1).natAbs = y1.1.natAbs := by split <;> omega
    by_cases hpos : 0 < y1.2
    · obtain ⟨q1, q2, q3, q4, q5, q6, q7⟩ := there_back hA.1 hpos (ta.le (by omega)) tb
      have l1 : Cal r_law_least [.int (if y1.1 < 0 then -y1.1 else y1.1), .int y1.2] (pairD (redI (if y1.1 < 0 then -y1.1 else y1.1) y1.2)) := ⟨_, _, rfl, hb, (ta.le (by omega)).mono, tb.mono, rfl⟩
      generalize redI (if y1.1 < 0 then -y1.1 else y1.1) y1.2 = q at *
      have l2 : Cal r_share_text [pairD q] (.str (shareText q.1 q.2)) := ⟨_, _, rfl, q1, q2, q3, q4, rfl⟩
      have l3 : Cal r_share_in [.str (shareText q.1 q.2)] (pairD q) := ⟨_, rfl, Nat.le_trans q5 (by decide), q6⟩
      have w1 := len_num q1 q3
      have w2 := len_num q2 q4
      have w3 := len_slash
      refine' ⟨_, _, ?tgt, ?bdy⟩
      case tgt => ktf_call "x"
      case bdy =>
        ktf_call "x"
        all_goals first
          | exact side_strB 100 (by assumption)
          | exact ⟨fun _ => ⟨rfl, rfl⟩, fun _ => rfl⟩
          | (refine ⟨side_size ?_⟩; (try simp only [Str.length_append]); omega)
          | exact ⟨_, _, _, _, _, rfl⟩
          | (exfalso; rename_i h; exact h rfl)
    · obtain ⟨q1, q2, q3, q4, q5, q6, q7⟩ := there_back (b := 0 - y1.2) hA.1 (by omega) (ta.le (by omega)) (tb.le (by omega))
      have l1 : Cal r_law_least [.int (if y1.1 < 0 then -y1.1 else y1.1), .int (0 - y1.2)] (pairD (redI (if y1.1 < 0 then -y1.1 else y1.1) (0 - y1.2))) := ⟨_, _, rfl, by omega, (ta.le (by omega)).mono, (tb.le (by omega)).mono, rfl⟩
      generalize redI (if y1.1 < 0 then -y1.1 else y1.1) (0 - y1.2) = q at *
      have l2 : Cal r_share_text [pairD q] (.str (shareText q.1 q.2)) := ⟨_, _, rfl, q1, q2, q3, q4, rfl⟩
      have l3 : Cal r_share_in [.str (shareText q.1 q.2)] (pairD q) := ⟨_, rfl, Nat.le_trans q5 (by decide), q6⟩
      have w1 := len_num q1 q3
      have w2 := len_num q2 q4
      have w3 := len_slash
      refine' ⟨_, _, ?tgt2, ?bdy2⟩
      case tgt2 => ktf_call "x"
      case bdy2 =>
        ktf_call "x"
        all_goals first
          | exact side_strB 100 (by assumption)
          | exact ⟨fun _ => ⟨rfl, rfl⟩, fun _ => rfl⟩
          | (refine ⟨side_size ?_⟩; (try simp only [Str.length_append]); omega)
          | exact ⟨_, _, _, _, _, rfl⟩
          | (exfalso; rename_i h; exact h rfl)
  · rintro Γ' ⟨z1, z2, z3, z4, z5, rfl⟩
    show seqP _ _ _ _ (.nx _)
    ktf_call "x"
    all_goals first | exact trivial | rfl
theorem law_sp {K : PySem.W.Frag} {H : Hp} {a : Addr} {ns : List Int} (hl : ns.length ≤ 63) (hS : SqL K H a (ns.map V.int)) : spR K r_law [V.ref a] H (fun v _ => v = V.bl true) fun _ _ _ => False := by
  refine ⟨[.list (ns.map .int)], .bool true, H, fun _ _ h => h, .cons (.lst hS ?_) .nil, ⟨ns, rfl, hl, rfl⟩, fun v H' Hs' _ p => by cases p; rfl⟩
  clear hS hl
  induction ns with
  | nil => exact .nil
  | cons n r ih => exact .cons (.int n) ih
/-! the end -/
section
theorem all_mk {l : PySem.W.OpenLaw} {w : World} {K : PySem.W.Frag} {h : Heap} {mg : Str → Option Value} {fa : Addr} (X : K.In h) (G : h.Ns mainGlobals mg) (hfa : mg "law" = some (.ref fa))
    {f0 : Addr} {od0 an0 : Option Addr} {sl0 : Array (Option Value)} {oc0 kV0 dc0 pm0 cd0 ct0 : Value}
    (a0 : PySem.W.nsIn K mainGlobals "is_whole" = some (some (.ref f0))) (l0 : K.lookup f0 = some ⟨oc0, od0, .func (PySem.W.fnOf "is_whole" "is_whole" (defArgs s_is_whole) (defBody s_is_whole) (defScope s_is_whole) .none kV0 dc0 pm0 an0 cd0 ct0), sl0⟩) (c0 : PySem.W.codeIn K cd0 "is_whole" = true) (k0 : PySem.W.keepIn K (.ref f0) = true)
    {f1 : Addr} {od1 an1 : Option Addr} {sl1 : Array (Option Value)} {oc1 kV1 dc1 pm1 cd1 ct1 : Value}
    (a1 : PySem.W.nsIn K mainGlobals "is_share" = some (some (.ref f1))) (l1 : K.lookup f1 = some ⟨oc1, od1, .func (PySem.W.fnOf "is_share" "is_share" (defArgs s_is_share) (defBody s_is_share) (defScope s_is_share) .none kV1 dc1 pm1 an1 cd1 ct1), sl1⟩) (c1 : PySem.W.codeIn K cd1 "is_share" = true) (k1 : PySem.W.keepIn K (.ref f1) = true)
    {f2 : Addr} {od2 an2 : Option Addr} {sl2 : Array (Option Value)} {oc2 kV2 dc2 pm2 cd2 ct2 : Value}
    (a2 : PySem.W.nsIn K mainGlobals "share" = some (some (.ref f2))) (l2 : K.lookup f2 = some ⟨oc2, od2, .func (PySem.W.fnOf "share" "share" (defArgs s_share) (defBody s_share) (defScope s_share) .none kV2 dc2 pm2 an2 cd2 ct2), sl2⟩) (c2 : PySem.W.codeIn K cd2 "share" = true) (k2 : PySem.W.keepIn K (.ref f2) = true)
    {f3 : Addr} {od3 an3 : Option Addr} {sl3 : Array (Option Value)} {oc3 kV3 dc3 pm3 cd3 ct3 : Value}
    (a3 : PySem.W.nsIn K mainGlobals "plus" = some (some (.ref f3))) (l3 : K.lookup f3 = some ⟨oc3, od3, .func (PySem.W.fnOf "plus" "plus" (defArgs s_plus) (defBody s_plus) (defScope s_plus) .none kV3 dc3 pm3 an3 cd3 ct3), sl3⟩) (c3 : PySem.W.codeIn K cd3 "plus" = true) (k3 : PySem.W.keepIn K (.ref f3) = true)
    {f4 : Addr} {od4 an4 : Option Addr} {sl4 : Array (Option Value)} {oc4 kV4 dc4 pm4 cd4 ct4 : Value}
    (a4 : PySem.W.nsIn K mainGlobals "minus" = some (some (.ref f4))) (l4 : K.lookup f4 = some ⟨oc4, od4, .func (PySem.W.fnOf "minus" "minus" (defArgs s_minus) (defBody s_minus) (defScope s_minus) .none kV4 dc4 pm4 an4 cd4 ct4), sl4⟩) (c4 : PySem.W.codeIn K cd4 "minus" = true) (k4 : PySem.W.keepIn K (.ref f4) = true)
    {f5 : Addr} {od5 an5 : Option Addr} {sl5 : Array (Option Value)} {oc5 kV5 dc5 pm5 cd5 ct5 : Value}
    (a5 : PySem.W.nsIn K mainGlobals "times" = some (some (.ref f5))) (l5 : K.lookup f5 = some ⟨oc5, od5, .func (PySem.W.fnOf "times" "times" (defArgs s_times) (defBody s_times) (defScope s_times) .none kV5 dc5 pm5 an5 cd5 ct5), sl5⟩) (c5 : PySem.W.codeIn K cd5 "times" = true) (k5 : PySem.W.keepIn K (.ref f5) = true)
    {f6 : Addr} {od6 an6 : Option Addr} {sl6 : Array (Option Value)} {oc6 kV6 dc6 pm6 cd6 ct6 : Value}
    (a6 : PySem.W.nsIn K mainGlobals "over" = some (some (.ref f6))) (l6 : K.lookup f6 = some ⟨oc6, od6, .func (PySem.W.fnOf "over" "over" (defArgs s_over) (defBody s_over) (defScope s_over) .none kV6 dc6 pm6 an6 cd6 ct6), sl6⟩) (c6 : PySem.W.codeIn K cd6 "over" = true) (k6 : PySem.W.keepIn K (.ref f6) = true)
    {f7 : Addr} {od7 an7 : Option Addr} {sl7 : Array (Option Value)} {oc7 kV7 dc7 pm7 cd7 ct7 : Value}
    (a7 : PySem.W.nsIn K mainGlobals "less" = some (some (.ref f7))) (l7 : K.lookup f7 = some ⟨oc7, od7, .func (PySem.W.fnOf "less" "less" (defArgs s_less) (defBody s_less) (defScope s_less) .none kV7 dc7 pm7 an7 cd7 ct7), sl7⟩) (c7 : PySem.W.codeIn K cd7 "less" = true) (k7 : PySem.W.keepIn K (.ref f7) = true)
    {f8 : Addr} {od8 an8 : Option Addr} {sl8 : Array (Option Value)} {oc8 kV8 dc8 pm8 cd8 ct8 : Value}
    (a8 : PySem.W.nsIn K mainGlobals "share_text" = some (some (.ref f8))) (l8 : K.lookup f8 = some ⟨oc8, od8, .func (PySem.W.fnOf "share_text" "share_text" (defArgs s_share_text) (defBody s_share_text) (defScope s_share_text) .none kV8 dc8 pm8 an8 cd8 ct8), sl8⟩) (c8 : PySem.W.codeIn K cd8 "share_text" = true) (k8 : PySem.W.keepIn K (.ref f8) = true)
    {f9 : Addr} {od9 an9 : Option Addr} {sl9 : Array (Option Value)} {oc9 kV9 dc9 pm9 cd9 ct9 : Value}
    (a9 : PySem.W.nsIn K mainGlobals "figures_in" = some (some (.ref f9))) (l9 : K.lookup f9 = some ⟨oc9, od9, .func (PySem.W.fnOf "figures_in" "figures_in" (defArgs s_figures_in) (defBody s_figures_in) (defScope s_figures_in) .none kV9 dc9 pm9 an9 cd9 ct9), sl9⟩) (c9 : PySem.W.codeIn K cd9 "figures_in" = true) (k9 : PySem.W.keepIn K (.ref f9) = true)
    {f10 : Addr} {od10 an10 : Option Addr} {sl10 : Array (Option Value)} {oc10 kV10 dc10 pm10 cd10 ct10 : Value}
    (a10 : PySem.W.nsIn K mainGlobals "share_in" = some (some (.ref f10))) (l10 : K.lookup f10 = some ⟨oc10, od10, .func (PySem.W.fnOf "share_in" "share_in" (defArgs s_share_in) (defBody s_share_in) (defScope s_share_in) .none kV10 dc10 pm10 an10 cd10 ct10), sl10⟩) (c10 : PySem.W.codeIn K cd10 "share_in" = true) (k10 : PySem.W.keepIn K (.ref f10) = true)
    {f11 : Addr} {od11 an11 : Option Addr} {sl11 : Array (Option Value)} {oc11 kV11 dc11 pm11 cd11 ct11 : Value}
    (a11 : PySem.W.nsIn K mainGlobals "_law_mixed" = some (some (.ref f11))) (l11 : K.lookup f11 = some ⟨oc11, od11, .func (PySem.W.fnOf "_law_mixed" "_law_mixed" (defArgs s_law_mixed) (defBody s_law_mixed) (defScope s_law_mixed) .none kV11 dc11 pm11 an11 cd11 ct11), sl11⟩) (c11 : PySem.W.codeIn K cd11 "_law_mixed" = true) (k11 : PySem.W.keepIn K (.ref f11) = true)
    {f12 : Addr} {od12 an12 : Option Addr} {sl12 : Array (Option Value)} {oc12 kV12 dc12 pm12 cd12 ct12 : Value}
    (a12 : PySem.W.nsIn K mainGlobals "_law_pair" = some (some (.ref f12))) (l12 : K.lookup f12 = some ⟨oc12, od12, .func (PySem.W.fnOf "_law_pair" "_law_pair" (defArgs s_law_pair) (defBody s_law_pair) (defScope s_law_pair) .none kV12 dc12 pm12 an12 cd12 ct12), sl12⟩) (c12 : PySem.W.codeIn K cd12 "_law_pair" = true) (k12 : PySem.W.keepIn K (.ref f12) = true)
    {f13 : Addr} {od13 an13 : Option Addr} {sl13 : Array (Option Value)} {oc13 kV13 dc13 pm13 cd13 ct13 : Value}
    (a13 : PySem.W.nsIn K mainGlobals "_law_divides" = some (some (.ref f13))) (l13 : K.lookup f13 = some ⟨oc13, od13, .func (PySem.W.fnOf "_law_divides" "_law_divides" (defArgs s_law_divides) (defBody s_law_divides) (defScope s_law_divides) .none kV13 dc13 pm13 an13 cd13 ct13), sl13⟩) (c13 : PySem.W.codeIn K cd13 "_law_divides" = true) (k13 : PySem.W.keepIn K (.ref f13) = true)
    {f14 : Addr} {od14 an14 : Option Addr} {sl14 : Array (Option Value)} {oc14 kV14 dc14 pm14 cd14 ct14 : Value}
    (a14 : PySem.W.nsIn K mainGlobals "_law_least" = some (some (.ref f14))) (l14 : K.lookup f14 = some ⟨oc14, od14, .func (PySem.W.fnOf "_law_least" "_law_least" (defArgs s_law_least) (defBody s_law_least) (defScope s_law_least) .none kV14 dc14 pm14 an14 cd14 ct14), sl14⟩) (c14 : PySem.W.codeIn K cd14 "_law_least" = true) (k14 : PySem.W.keepIn K (.ref f14) = true)
    {f15 : Addr} {od15 an15 : Option Addr} {sl15 : Array (Option Value)} {oc15 kV15 dc15 pm15 cd15 ct15 : Value}
    (a15 : PySem.W.nsIn K mainGlobals "_law_is" = some (some (.ref f15))) (l15 : K.lookup f15 = some ⟨oc15, od15, .func (PySem.W.fnOf "_law_is" "_law_is" (defArgs s_law_is) (defBody s_law_is) (defScope s_law_is) .none kV15 dc15 pm15 an15 cd15 ct15), sl15⟩) (c15 : PySem.W.codeIn K cd15 "_law_is" = true) (k15 : PySem.W.keepIn K (.ref f15) = true)
    {f16 : Addr} {od16 an16 : Option Addr} {sl16 : Array (Option Value)} {oc16 kV16 dc16 pm16 cd16 ct16 : Value}
    (a16 : PySem.W.nsIn K mainGlobals "_law_right" = some (some (.ref f16))) (l16 : K.lookup f16 = some ⟨oc16, od16, .func (PySem.W.fnOf "_law_right" "_law_right" (defArgs s_law_right) (defBody s_law_right) (defScope s_law_right) .none kV16 dc16 pm16 an16 cd16 ct16), sl16⟩) (c16 : PySem.W.codeIn K cd16 "_law_right" = true) (k16 : PySem.W.keepIn K (.ref f16) = true)
    {f17 : Addr} {od17 an17 : Option Addr} {sl17 : Array (Option Value)} {oc17 kV17 dc17 pm17 cd17 ct17 : Value}
    (a17 : PySem.W.nsIn K mainGlobals "_law_figures" = some (some (.ref f17))) (l17 : K.lookup f17 = some ⟨oc17, od17, .func (PySem.W.fnOf "_law_figures" "_law_figures" (defArgs s_law_figures) (defBody s_law_figures) (defScope s_law_figures) .none kV17 dc17 pm17 an17 cd17 ct17), sl17⟩) (c17 : PySem.W.codeIn K cd17 "_law_figures" = true) (k17 : PySem.W.keepIn K (.ref f17) = true)
    {f18 : Addr} {od18 an18 : Option Addr} {sl18 : Array (Option Value)} {oc18 kV18 dc18 pm18 cd18 ct18 : Value}
    (a18 : PySem.W.nsIn K mainGlobals "_law_text" = some (some (.ref f18))) (l18 : K.lookup f18 = some ⟨oc18, od18, .func (PySem.W.fnOf "_law_text" "_law_text" (defArgs s_law_text) (defBody s_law_text) (defScope s_law_text) .none kV18 dc18 pm18 an18 cd18 ct18), sl18⟩) (c18 : PySem.W.codeIn K cd18 "_law_text" = true) (k18 : PySem.W.keepIn K (.ref f18) = true)
    {f19 : Addr} {od19 an19 : Option Addr} {sl19 : Array (Option Value)} {oc19 kV19 dc19 pm19 cd19 ct19 : Value}
    (a19 : PySem.W.nsIn K mainGlobals "_law_texts_right" = some (some (.ref f19))) (l19 : K.lookup f19 = some ⟨oc19, od19, .func (PySem.W.fnOf "_law_texts_right" "_law_texts_right" (defArgs s_law_texts_right) (defBody s_law_texts_right) (defScope s_law_texts_right) .none kV19 dc19 pm19 an19 cd19 ct19), sl19⟩) (c19 : PySem.W.codeIn K cd19 "_law_texts_right" = true) (k19 : PySem.W.keepIn K (.ref f19) = true)
    {f20 : Addr} {od20 an20 : Option Addr} {sl20 : Array (Option Value)} {oc20 kV20 dc20 pm20 cd20 ct20 : Value}
    (a20 : PySem.W.nsIn K mainGlobals "law" = some (some (.ref f20))) (l20 : K.lookup f20 = some ⟨oc20, od20, .func (PySem.W.fnOf "law" "law" (defArgs s_law) (defBody s_law) (defScope s_law) .none kV20 dc20 pm20 an20 cd20 ct20), sl20⟩) (c20 : PySem.W.codeIn K cd20 "law" = true) (k20 : PySem.W.keepIn K (.ref f20) = true)
    (z_isinstance : PySem.W.nsIn K mainGlobals "isinstance" = some none)
    (z_int : PySem.W.nsIn K mainGlobals "int" = some none)
    (z_bool : PySem.W.nsIn K mainGlobals "bool" = some none)
    (z_tuple : PySem.W.nsIn K mainGlobals "tuple" = some none)
    (z_len : PySem.W.nsIn K mainGlobals "len" = some none)
    (z_str : PySem.W.nsIn K mainGlobals "str" = some none)
    (z_sorted : PySem.W.nsIn K mainGlobals "sorted" = some none)
    (z_abs : PySem.W.nsIn K mainGlobals "abs" = some none)
    (z_enumerate : PySem.W.nsIn K mainGlobals "enumerate" = some none)
    (z_gcd : PySem.W.nsIn K mainGlobals "gcd" = some (some (.builtin "math.gcd")))
    {t_MOST_FIGURES : _} (z_MOST_FIGURES : PySem.W.nsIn K mainGlobals "MOST_FIGURES" = some (some (.int 400 t_MOST_FIGURES)))
    : ∃ fd : FuncData, (∀ (s : Shared) (v : Value), BindsTo s fd ⟨[v], []⟩ [("_law_script", v)]) ∧ ∀ base : Heap, K.In base → base.Ns mainGlobals mg → FnOk l.prog w K mg base CX0 4 fa fd ["_law_script"] (spR K r_law) := by
  have e := hfa.symm.trans (PySem.W.mg_of X G a20)
  cases e
  have T : Mg mg := ⟨PySem.W.mg_none_of X G z_isinstance, PySem.W.mg_none_of X G z_int, PySem.W.mg_none_of X G z_bool, PySem.W.mg_none_of X G z_tuple, PySem.W.mg_none_of X G z_len, PySem.W.mg_none_of X G z_str, PySem.W.mg_none_of X G z_sorted, PySem.W.mg_none_of X G z_abs, PySem.W.mg_none_of X G z_enumerate, PySem.W.mg_of X G z_gcd⟩
  have C_MOST_FIGURES : CnM K mg "MOST_FIGURES" d_MOST_FIGURES := ⟨⟨_, (.int 400 : V), PySem.W.mg_of X G z_MOST_FIGURES, ⟨_, rfl⟩, fun _ => .int _⟩, by decide +kernel⟩
  refine ⟨PySem.W.fnOf "law" "law" (defArgs s_law) (defBody s_law) (defScope s_law) .none kV20 dc20 pm20 an20 cd20 ct20, fun s v => .of_eq rfl, fun base _ _ => ?_⟩
  have D_is_whole : Dn l.prog w K mg base 1 "is_whole" r_is_whole := ok_is_whole (fun_mk (st := s_is_whole) l0 c0 k0) (PySem.W.mg_of X G a0) T
  have D_share : Dn l.prog w K mg base 1 "share" r_share := ok_share (fun_mk (st := s_share) l2 c2 k2) (PySem.W.mg_of X G a2) T
  have D_less : Dn l.prog w K mg base 1 "less" r_less := ok_less (fun_mk (st := s_less) l7 c7 k7) (PySem.W.mg_of X G a7) T
  have D_share_text : Dn l.prog w K mg base 1 "share_text" r_share_text := ok_share_text (fun_mk (st := s_share_text) l8 c8 k8) (PySem.W.mg_of X G a8) T
  have D_figures_in : Dn l.prog w K mg base 1 "figures_in" r_figures_in := ok_figures_in (fun_mk (st := s_figures_in) l9 c9 k9) (PySem.W.mg_of X G a9) T C_MOST_FIGURES
  have D_law_mixed : Dn l.prog w K mg base 1 "_law_mixed" r_law_mixed := ok_law_mixed (fun_mk (st := s_law_mixed) l11 c11 k11) (PySem.W.mg_of X G a11) T
  have D_law_pair : Dn l.prog w K mg base 1 "_law_pair" r_law_pair := ok_law_pair (fun_mk (st := s_law_pair) l12 c12 k12) (PySem.W.mg_of X G a12) T
  have D_law_divides : Dn l.prog w K mg base 1 "_law_divides" r_law_divides := ok_law_divides (fun_mk (st := s_law_divides) l13 c13 k13) (PySem.W.mg_of X G a13) T
  have D_law_is : Dn l.prog w K mg base 1 "_law_is" r_law_is := ok_law_is (fun_mk (st := s_law_is) l15 c15 k15) (PySem.W.mg_of X G a15) T
  have D_law_figures : Dn l.prog w K mg base 1 "_law_figures" r_law_figures := ok_law_figures (fun_mk (st := s_law_figures) l17 c17 k17) (PySem.W.mg_of X G a17) T
  have D_law_text : Dn l.prog w K mg base 1 "_law_text" r_law_text := ok_law_text (fun_mk (st := s_law_text) l18 c18 k18) (PySem.W.mg_of X G a18) T
  have D_is_share : Dn l.prog w K mg base 2 "is_share" r_is_share := ok_is_share (fun_mk (st := s_is_share) l1 c1 k1) (PySem.W.mg_of X G a1) T D_is_whole
  have D_plus : Dn l.prog w K mg base 2 "plus" r_plus := ok_plus (fun_mk (st := s_plus) l3 c3 k3) (PySem.W.mg_of X G a3) T D_share
  have D_minus : Dn l.prog w K mg base 2 "minus" r_minus := ok_minus (fun_mk (st := s_minus) l4 c4 k4) (PySem.W.mg_of X G a4) T D_share
  have D_times : Dn l.prog w K mg base 2 "times" r_times := ok_times (fun_mk (st := s_times) l5 c5 k5) (PySem.W.mg_of X G a5) T D_share
  have D_over : Dn l.prog w K mg base 2 "over" r_over := ok_over (fun_mk (st := s_over) l6 c6 k6) (PySem.W.mg_of X G a6) T D_share
  have D_share_in : Dn l.prog w K mg base 2 "share_in" r_share_in := ok_share_in (fun_mk (st := s_share_in) l10 c10 k10) (PySem.W.mg_of X G a10) T D_figures_in D_share
  have D_law_least : Dn l.prog w K mg base 2 "_law_least" r_law_least := ok_law_least (fun_mk (st := s_law_least) l14 c14 k14) (PySem.W.mg_of X G a14) T D_law_divides
  have D_law_right : Dn l.prog w K mg base 3 "_law_right" r_law_right := ok_law_right (fun_mk (st := s_law_right) l16 c16 k16) (PySem.W.mg_of X G a16) T D_law_least D_law_is D_share D_is_share D_plus D_minus D_times D_over D_less
  have D_law_texts_right : Dn l.prog w K mg base 3 "_law_texts_right" r_law_texts_right := ok_law_texts_right (fun_mk (st := s_law_texts_right) l19 c19 k19) (PySem.W.mg_of X G a19) T D_law_text D_law_figures D_law_least D_share_in D_law_is D_figures_in D_is_whole
  exact ok_law (fun_mk (st := s_law) l20 c20 k20) (PySem.W.mg_of X G a20) T D_law_pair D_law_mixed D_law_right D_is_share D_law_texts_right D_law_least D_share_text D_law_is D_share_in D_is_whole
end
end K1
open PySem PySem.W PyProof.Rows
set_option maxRecDepth 100000 in
set_option maxHeartbeats 0 in
theorem PySem.Challenge.cw_faultwood_k01_shares_holds : PySem.Challenge.rw_faultwood_k01_shares.Holds := by
  w_on; o_law; k_head; (case hw => w_witness2)
  k_fill
  refine L2.walk_of (l := PySem.Challenge.rw_faultwood_k01_shares) (n := 63) (k := 4) (x := "_law_script") (CX := fun _ => L2.CX0) (sp := fun w => Dl.spR _ K1.r_law) rfl (by decide) rfl ⟨rfl, by decide, by decide⟩ (fun w h Y => PySem.W.kIn_of Y) ?F (fun w H a ns hl _ hS => K1.law_sp hl hS) (fun _ _ _ _ _ h => h)
  case F =>
    intro w mg fa h KX G hmg
    refine' K1.all_mk KX G hmg ?a0 ?l0 ?c0 ?k0 ?a1 ?l1 ?c1 ?k1 ?a2 ?l2 ?c2 ?k2 ?a3 ?l3 ?c3 ?k3 ?a4 ?l4 ?c4 ?k4 ?a5 ?l5 ?c5 ?k5 ?a6 ?l6 ?c6 ?k6 ?a7 ?l7 ?c7 ?k7 ?a8 ?l8 ?c8 ?k8 ?a9 ?l9 ?c9 ?k9 ?a10 ?l10 ?c10 ?k10 ?a11 ?l11 ?c11 ?k11 ?a12 ?l12 ?c12 ?k12 ?a13 ?l13 ?c13 ?k13 ?a14 ?l14 ?c14 ?k14 ?a15 ?l15 ?c15 ?k15 ?a16 ?l16 ?c16 ?k16 ?a17 ?l17 ?c17 ?k17 ?a18 ?l18 ?c18 ?k18 ?a19 ?l19 ?c19 ?k19 ?a20 ?l20 ?c20 ?k20 ?z_isinstance ?z_int ?z_bool ?z_tuple ?z_len ?z_str ?z_sorted ?z_abs ?z_enumerate ?z_gcd ?z_MOST_FIGURES
    (case a0 => k_is)
    (case l0 => k_is)
    (case c0 => k_is)
    (case k0 => k_is)
    (case a1 => k_is)
    (case l1 => k_is)
    (case c1 => k_is)
    (case k1 => k_is)
    (case a2 => k_is)
    (case l2 => k_is)
    (case c2 => k_is)
    (case k2 => k_is)
    (case a3 => k_is)
    (case l3 => k_is)
    (case c3 => k_is)
    (case k3 => k_is)
    (case a4 => k_is)
    (case l4 => k_is)
    (case c4 => k_is)
    (case k4 => k_is)
    (case a5 => k_is)
    (case l5 => k_is)
    (case c5 => k_is)
    (case k5 => k_is)
    (case a6 => k_is)
    (case l6 => k_is)
    (case c6 => k_is)
    (case k6 => k_is)
    (case a7 => k_is)
    (case l7 => k_is)
    (case c7 => k_is)
    (case k7 => k_is)
    (case a8 => k_is)
    (case l8 => k_is)
    (case c8 => k_is)
    (case k8 => k_is)
    (case a9 => k_is)
    (case l9 => k_is)
    (case c9 => k_is)
    (case k9 => k_is)
    (case a10 => k_is)
    (case l10 => k_is)
    (case c10 => k_is)
    (case k10 => k_is)
    (case a11 => k_is)
    (case l11 => k_is)
    (case c11 => k_is)
    (case k11 => k_is)
    (case a12 => k_is)
    (case l12 => k_is)
    (case c12 => k_is)
    (case k12 => k_is)
    (case a13 => k_is)
    (case l13 => k_is)
    (case c13 => k_is)
    (case k13 => k_is)
    (case a14 => k_is)
    (case l14 => k_is)
    (case c14 => k_is)
    (case k14 => k_is)
    (case a15 => k_is)
    (case l15 => k_is)
    (case c15 => k_is)
    (case k15 => k_is)
    (case a16 => k_is)
    (case l16 => k_is)
    (case c16 => k_is)
    (case k16 => k_is)
    (case a17 => k_is)
    (case l17 => k_is)
    (case c17 => k_is)
    (case k17 => k_is)
    (case a18 => k_is)
    (case l18 => k_is)
    (case c18 => k_is)
    (case k18 => k_is)
    (case a19 => k_is)
    (case l19 => k_is)
    (case c19 => k_is)
    (case k19 => k_is)
    (case a20 => k_is)
    (case l20 => k_is)
    (case c20 => k_is)
    (case k20 => k_is)
    (case z_isinstance => k_is)
    (case z_int => k_is)
    (case z_bool => k_is)
    (case z_tuple => k_is)
    (case z_len => k_is)
    (case z_str => k_is)
    (case z_sorted => k_is)
    (case z_abs => k_is)
    (case z_enumerate => k_is)
    (case z_gcd => k_is)
    (case z_MOST_FIGURES => k_is)
