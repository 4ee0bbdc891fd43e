import PyProof.Rows.All
import Wide.All
import OpenK.AllK
import Wide.FinOn
import HandS.ForMost
import HandS.Walk
import PyProof.ReprRoads
import PyProof.Rows.NestShow
import HandS.TupAny
import HandS.RaiseMore
import HandS.Zip
import HandS.IsInst
import HandS.Style
import HandS.Evl
import HandS.Strs
import HandS.SetFor
import HandS.SetBool
import PyProof.Rows.SortShellAny
import HandS.Comp
import HandS.TupMul
import HandS.Set
import PyProof.StrLawsRepr
import PyProof.FitsInt
import PyProof.Rows.StrMeet
import HandS.Iter
import HandS.More
import HandS.Dict
import HandS.SortInts
import HandS.DictComp
import HandS.Conv
import HandS.SortKw
import KE.DataMinMax
import KE.KDictList
import HandS.ListItems
import HandS.Deep
import HandS.Flow
import HandS.Zip0
import KE.KItemsList
import HandS.Exc
import HandS.ExcOwn
import HandS.ExcInit
import HandS.ExcField
import KE.KDictZip
import PyProof.ListStr
import KE.GoesEnumKw
import KE.KDictKeyed
import HandS.SetKeys
import HandS.TupLen
import PySem.Challenge.RW_splitsays_k09_whole_tidy_sheets
set_option Elab.async false
set_option linter.all false
set_option maxRecDepth 100000
section
/-! Pu: readings over plain data. A name's slot holds data (d), a raw value (v) or a list that nobody else holds (own). -/
namespace Pu
open PySem L2

/-! ### hidden objects: the law's source, a dict at a with its cells' list at c -/
abbrev Hid := Option (Addr × Addr)
def Hid.has (h : Hid) (b : Addr) : Prop := match h with
  | none => False
  | some p => b = p.1 ∨ b = p.2
def srcD (c : Addr) (l m t : Int) : List (Key × V) := [(Sum.inr "cells", .ref c), (Sum.inr "left", .int l), (Sum.inr "mixed", .int m), (Sum.inr "turn", .int t)]
def SrcAt (H : Hp) (a c : Addr) : Prop := ∃ (ns : List Int) (l m t : Int), H a = some (.dK (srcD c l m t)) ∧ H c = some (.lst (ns.map V.int))
def Hid.Ok (h : Hid) (H : Hp) : Prop := match h with
  | none => True
  | some p => SrcAt H p.1 p.2
theorem Hid.Ok.there {h : Hid} {H : Hp} {b : Addr} (k : h.Ok H) (hb : h.has b) : ∃ o, H b = some o := by
  cases h with
  | none => exact hb.elim
  | some p =>
    obtain ⟨ns, l, m, t, e1, e2⟩ := k
    rcases hb with rfl | rfl
    · exact ⟨_, e1⟩
    · exact ⟨_, e2⟩
theorem Hid.Ok.keeps {h : Hid} {H H' : Hp} (k : h.Ok H) (e : ∀ b o, h.has b → H b = some o → H' b = some o) : h.Ok H' := by
  cases h with
  | none => trivial
  | some p =>
    obtain ⟨ns, l, m, t, e1, e2⟩ := k
    exact ⟨ns, l, m, t, e _ _ (.inl rfl) e1, e _ _ (.inr rfl) e2⟩

/-! ### heaps: Hb what is known and stays, H what stands -/
structure St0 (hid : Hid) (Hb H : Hp) : Prop where
  ex : Same Hb H
  ok : hid.Ok H
  out : ∀ b, hid.has b → Hb b = none
structure Step (hid : Hid) (Hb H Hb' H' : Hp) : Prop where
  st : St0 hid Hb' H'
  ex : Same Hb Hb'
  new : ∀ b o, Hb' b = some o → Hb b = none → H b = none
  keep : ∀ b o, H b = some o → ¬ hid.has b → H' b = some o
section
variable {hid : Hid} {Hb H Hb1 H1 Hb2 H2 : Hp}
theorem Step.refl (s : St0 hid Hb H) : Step hid Hb H Hb H := ⟨s, Same.refl _, fun b o e n => (by rw [n] at e; cases e), fun _ _ e _ => e⟩
theorem none_back {H H' : Hp} {b : Addr} (k : ∀ o, H b = some o → H' b = some o) (n : H' b = none) : H b = none := by
  cases e : H b with
  | none => rfl
  | some o => rw [k o e] at n; cases n
theorem Step.back (a : Step hid Hb H Hb1 H1) {b : Addr} (n : H1 b = none) : H b = none := by
  by_cases hb : hid.has b
  · obtain ⟨o, e⟩ := a.st.ok.there hb
    rw [e] at n; cases n
  · exact none_back (fun o e => a.keep b o e hb) n
theorem Step.trans (a : Step hid Hb H Hb1 H1) (c : Step hid Hb1 H1 Hb2 H2) : Step hid Hb H Hb2 H2 where
  st := c.st
  ex := a.ex.trans c.ex
  new := fun b o e n => by
    cases q : Hb1 b with
    | some u => exact a.new b u q n
    | none => exact a.back (c.new b o e q)
  keep := fun b o e hb => c.keep b o (a.keep b o e hb) hb
/-- a new object: known from now on -/
theorem Step.laid {p : Addr} {o : HO} (s : St0 hid Hb H) (hp : H p = none) : Step hid Hb H (upd Hb p o) (upd H p o) := by
  have nb : Hb p = none := none_back (fun o e => s.ex p o e) hp
  have np : ¬ hid.has p := fun z => by obtain ⟨o, e⟩ := s.ok.there z; rw [e] at hp; cases hp
  refine ⟨⟨fun b u e => ?_, s.ok.keeps fun b u hb e => ?_, fun b hb => ?_⟩, fun b u e => ?_, fun b u e n => ?_, fun b u e _ => ?_⟩
  · by_cases q : b = p
    · subst q; rw [upd_same] at e ⊢; exact e
    · rw [upd_ne q] at e ⊢; exact s.ex b u e
  · rw [upd_ne (fun q : b = p => np (q ▸ hb))]; exact e
  · rw [upd_ne (fun q : b = p => np (q ▸ hb))]; exact s.out b hb
  · rw [upd_ne (ne_of_none e nb)]; exact e
  · by_cases q : b = p
    · rw [q]; exact hp
    · rw [upd_ne q, n] at e; cases e
  · rw [upd_ne (ne_of_none e hp)]; exact e
/-- a new object, not known: a list of one's own -/
theorem Step.raw {p : Addr} {o : HO} (s : St0 hid Hb H) (hp : H p = none) : Step hid Hb H Hb (upd H p o) := by
  have np : ¬ hid.has p := fun z => by obtain ⟨o, e⟩ := s.ok.there z; rw [e] at hp; cases hp
  refine ⟨⟨fun b u e => ?_, s.ok.keeps fun b u hb e => ?_, s.out⟩, Same.refl _, fun b u e n => (by rw [n] at e; cases e), fun b u e _ => ?_⟩
  · rw [upd_ne (ne_of_none (s.ex b u e) hp)]; exact s.ex b u e
  · rw [upd_ne (fun q : b = p => np (q ▸ hb))]; exact e
  · rw [upd_ne (ne_of_none e hp)]; exact e
end

/-! ### data -/
section
variable {K : PySem.W.Frag} {H H' : Hp}
theorem Same.seqT {a : Addr} {xs : List V} (e : Same H H') (h : SqT K H a xs) : SqT K H' a xs := by
  rcases h with (h | ⟨o, h⟩) | h
  · exact .inl (.inl (e _ _ h))
  · exact .inl (.inr ⟨o, e _ _ h⟩)
  · exact .inr h
def keyD : Key → PyData
  | .inl i => .int i
  | .inr x => .str x
mutual
/-- v stands for the data d: all of it is known in H -/
inductive Dq (K : PySem.W.Frag) (H : Hp) : V → PyData → Prop
  | non : Dq K H .non .none
  | bl (b : Bool) : Dq K H (.bl b) (.bool b)
  | int (i : Int) : Dq K H (.int i) (.int i)
  | str (x : Str) : Dq K H (.str x) (.str x)
  | lst {a : Addr} {xs : List V} {ds : List PyData} : H a = some (.lst xs) → DqAll K H xs ds → Dq K H (.ref a) (.list ds)
  | tup {a : Addr} {xs : List V} {ds : List PyData} : SqT K H a xs → DqAll K H xs ds → Dq K H (.ref a) (.tuple ds)
  | dic {a : Addr} {kvs : List (Key × V)} {ds : List (PyData × PyData)} : H a = some (.dK kvs) → ds.map Prod.fst = kvs.map (fun p => keyD p.1) → DqAll K H (kvs.map Prod.snd) (ds.map Prod.snd) → Dq K H (.ref a) (.dict ds)
inductive DqAll (K : PySem.W.Frag) (H : Hp) : List V → List PyData → Prop
  | nil : DqAll K H [] []
  | cons {v : V} {vs : List V} {d : PyData} {ds : List PyData} : Dq K H v d → DqAll K H vs ds → DqAll K H (v :: vs) (d :: ds)
end
theorem Dq.mono (e : Same H H') {d : PyData} {v : V} (h : Dq K H v d) : Dq K H' v d :=
  Dq.rec (motive_1 := fun v d _ => Dq K H' v d) (motive_2 := fun vs ds _ => DqAll K H' vs ds) .non .bl .int .str (fun h1 _ i => .lst (e _ _ h1) i) (fun h1 _ i => .tup (Same.seqT e h1) i)
    (fun h1 h2 _ i => .dic (e _ _ h1) h2 i) .nil (fun _ _ i1 i2 => .cons i1 i2) h
theorem DqAll.mono (e : Same H H') {ds : List PyData} {vs : List V} (h : DqAll K H vs ds) : DqAll K H' vs ds :=
  DqAll.rec (motive_1 := fun v d _ => Dq K H' v d) (motive_2 := fun vs ds _ => DqAll K H' vs ds) .non .bl .int .str (fun h1 _ i => .lst (e _ _ h1) i) (fun h1 _ i => .tup (Same.seqT e h1) i)
    (fun h1 h2 _ i => .dic (e _ _ h1) h2 i) .nil (fun _ _ i1 i2 => .cons i1 i2) h
theorem DqAll.length : ∀ {ds : List PyData} {vs : List V}, DqAll K H vs ds → vs.length = ds.length
  | [], _, .nil => rfl
  | _ :: _, _, .cons _ h2 => congrArg (· + 1) (DqAll.length h2)
theorem DqAll.get : ∀ {ds : List PyData} {vs : List V} {i : Nat} {v : V}, DqAll K H vs ds → vs[i]? = some v → ∃ d, ds[i]? = some d ∧ Dq K H v d
  | _, _, _, _, .nil, e => by simp at e
  | _, _, 0, _, .cons h _, e => by simp at e; subst e; exact ⟨_, rfl, h⟩
  | _, _, i + 1, _, .cons _ h, e => by
    obtain ⟨d, h1, h2⟩ := DqAll.get (i := i) h (by simpa using e)
    exact ⟨d, by simpa using h1, h2⟩
theorem DqAll.get' : ∀ {ds : List PyData} {vs : List V} {i : Nat} {d : PyData}, DqAll K H vs ds → ds[i]? = some d → ∃ v, vs[i]? = some v ∧ Dq K H v d
  | _, _, _, _, .nil, e => by simp at e
  | _, _, 0, _, .cons h _, e => by simp at e; subst e; exact ⟨_, rfl, h⟩
  | _, _, i + 1, _, .cons _ h, e => by
    obtain ⟨d, h1, h2⟩ := DqAll.get' (i := i) h (by simpa using e)
    exact ⟨d, by simpa using h1, h2⟩
theorem DqAll.append : ∀ {ds es : List PyData} {vs us : List V}, DqAll K H vs ds → DqAll K H us es → DqAll K H (vs ++ us) (ds ++ es)
  | [], _, _, _, .nil, h => h
  | _ :: _, _, _, _, .cons h1 h2, h => .cons h1 (DqAll.append h2 h)
theorem DqAll.take : ∀ {ds : List PyData} {vs : List V} (n : Nat), DqAll K H vs ds → DqAll K H (vs.take n) (ds.take n)
  | _, _, 0, _ => .nil
  | _, _, _ + 1, .nil => .nil
  | _, _, n + 1, .cons h t => .cons h (DqAll.take n t)
theorem DqAll.drop : ∀ {ds : List PyData} {vs : List V} (n : Nat), DqAll K H vs ds → DqAll K H (vs.drop n) (ds.drop n)
  | _, _, 0, h => h
  | _, _, _ + 1, .nil => .nil
  | _, _, n + 1, .cons _ t => DqAll.drop n t
end

/-! ### slots -/
inductive Sl where
  | d (x : PyData) | v (x : V) | own (xs : List PyData) | src | ownD (kvs : List (PyData × PyData)) | ownX (T : Addr → HO → Hp → Prop) | any
/-- an object of one's own -/
def Sl.isOwn : Sl → Prop
  | .own _ => True
  | .ownD _ => True
  | .ownX _ => True
  | _ => False
/-- a value that everybody may hold -/
def Sl.fz : Sl → Sl
  | .own xs => .d (.list xs)
  | .ownD kvs => .d (.dict kvs)
  | .ownX _ => .any
  | s => s
abbrev EV := List (Option Sl)
/-- a dict's keys and values -/
def DRel (K : PySem.W.Frag) (H : Hp) (kvs : List (Key × V)) (ds : List (PyData × PyData)) : Prop := ds.map Prod.fst = kvs.map (fun p => keyD p.1) ∧ DqAll K H (kvs.map Prod.snd) (ds.map Prod.snd)
def RepSl (K : PySem.W.Frag) (hid : Hid) (Hb H : Hp) (v : V) : Sl → Prop
  | .d x => Dq K Hb v x
  | .v y => v = y
  | .src => ∃ a c, hid = some (a, c) ∧ v = .ref a
  | .own xs => ∃ p vs, v = .ref p ∧ H p = some (.lst vs) ∧ DqAll K Hb vs xs ∧ Hb p = none ∧ ¬ hid.has p
  | .ownD ds => ∃ p kvs, v = .ref p ∧ H p = some (.dK kvs) ∧ DRel K Hb kvs ds ∧ Hb p = none ∧ ¬ hid.has p
  | .ownX T => ∃ p o, v = .ref p ∧ H p = some o ∧ (∀ Hc, Same Hb Hc → T p o Hc) ∧ Hb p = none ∧ ¬ hid.has p
  | .any => True
/-- ahead of H a list of one's own was not there -/
def FrSl (H : Hp) (v : V) : Sl → Prop
  | .own _ => ∀ p, v = .ref p → H p = none
  | .ownD _ => ∀ p, v = .ref p → H p = none
  | .ownX _ => ∀ p, v = .ref p → H p = none
  | _ => True
theorem FrSl.back {hid : Hid} {Hb H Hb1 H1 : Hp} {v : V} (a : Step hid Hb H Hb1 H1) : ∀ {s : Sl}, FrSl H1 v s → FrSl H v s
  | .d _, _ => trivial
  | .v _, _ => trivial
  | .src, _ => trivial
  | .own _, h => fun p e => a.back (h p e)
  | .ownD _, h => fun p e => a.back (h p e)
  | .ownX _, h => fun p e => a.back (h p e)
  | .any, _ => trivial
section
variable {K : PySem.W.Frag} {hid : Hid} {Hb H Hb1 H1 H0 : Hp} {v : V}
theorem RepSl.step (a : Step hid Hb H Hb1 H1) : ∀ {s : Sl}, RepSl K hid Hb H v s → RepSl K hid Hb1 H1 v s
  | .d _, h => Dq.mono a.ex h
  | .v _, h => h
  | .src, h => h
  | .own xs, ⟨p, vs, e1, e2, e3, e4, e5⟩ => ⟨p, vs, e1, a.keep p _ e2 e5, DqAll.mono a.ex e3, (by
      cases q : Hb1 p with
      | none => rfl
      | some o =>
        have z := a.new p o q e4
        rw [e2] at z; cases z), e5⟩
  | .ownD ds, ⟨p, vs, e1, e2, e3, e4, e5⟩ => ⟨p, vs, e1, a.keep p _ e2 e5, ⟨e3.1, DqAll.mono a.ex e3.2⟩, (by
      cases q : Hb1 p with
      | none => rfl
      | some o =>
        have z := a.new p o q e4
        rw [e2] at z; cases z), e5⟩
  | .ownX T, ⟨p, o, e1, e2, e3, e4, e5⟩ => ⟨p, o, e1, a.keep p _ e2 e5, fun Hc ex => e3 Hc (a.ex.trans ex), (by
      cases q : Hb1 p with
      | none => rfl
      | some o =>
        have z := a.new p o q e4
        rw [e2] at z; cases z), e5⟩
  | .any, _ => trivial
/-- a list of one's own becomes everybody's -/
theorem RepSl.fz (st : St0 hid Hb H) : ∀ {s : Sl}, RepSl K hid Hb H v s → FrSl H0 v s → (∀ b, H b = none → H0 b = none) → ∃ Hb1, St0 hid Hb1 H ∧ Same Hb Hb1 ∧ (∀ b o, Hb1 b = some o → Hb b = none → H0 b = none) ∧ RepSl K hid Hb1 H v s.fz
  | .d _, h, _, _ => ⟨Hb, st, Same.refl _, fun b o e n => (by rw [n] at e; cases e), h⟩
  | .v _, h, _, _ => ⟨Hb, st, Same.refl _, fun b o e n => (by rw [n] at e; cases e), h⟩
  | .src, h, _, _ => ⟨Hb, st, Same.refl _, fun b o e n => (by rw [n] at e; cases e), h⟩
  | .ownX _, _, _, _ => ⟨Hb, st, Same.refl _, fun b o e n => (by rw [n] at e; cases e), trivial⟩
  | .any, _, _, _ => ⟨Hb, st, Same.refl _, fun b o e n => (by rw [n] at e; cases e), trivial⟩
  | .own xs, ⟨p, vs, e1, e2, e3, e4, e5⟩, f, _ => by
      have ex : Same Hb (upd Hb p (.lst vs)) := fun b u e => by rw [upd_ne (ne_of_none e e4)]; exact e
      refine ⟨upd Hb p (.lst vs), ⟨fun b u e => ?_, st.ok, fun b hb => ?_⟩, ex, fun b o e n => ?_, ?_⟩
      · by_cases q : b = p
        · subst q; rw [upd_same] at e; cases e; exact e2
        · rw [upd_ne q] at e; exact st.ex b u e
      · rw [upd_ne (fun q : b = p => e5 (q ▸ hb))]; exact st.out b hb
      · by_cases q : b = p
        · rw [q]; exact f p e1
        · rw [upd_ne q, n] at e; cases e
      · subst e1
        exact .lst upd_same (DqAll.mono ex e3)
  | .ownD ds, ⟨p, vs, e1, e2, e3, e4, e5⟩, f, _ => by
      have ex : Same Hb (upd Hb p (.dK vs)) := fun b u e => by rw [upd_ne (ne_of_none e e4)]; exact e
      refine ⟨upd Hb p (.dK vs), ⟨fun b u e => ?_, st.ok, fun b hb => ?_⟩, ex, fun b o e n => ?_, ?_⟩
      · by_cases q : b = p
        · subst q; rw [upd_same] at e; cases e; exact e2
        · rw [upd_ne q] at e; exact st.ex b u e
      · rw [upd_ne (fun q : b = p => e5 (q ▸ hb))]; exact st.out b hb
      · by_cases q : b = p
        · rw [q]; exact f p e1
        · rw [upd_ne q, n] at e; cases e
      · subst e1
        exact .dic upd_same e3.1 (DqAll.mono ex e3.2)
end

/-! ### a def's state: from the entry (B0, H0) to here; its slots -/
structure Fr where
  hid : Hid
  B0 : Hp
  H0 : Hp
  M0 : Hp
structure Rep (K : PySem.W.Frag) (F : Fr) (Hb H : Hp) (σ : L2.St) (env : EV) : Prop where
  step : Step F.hid F.B0 F.H0 Hb H
  mid : Same F.M0 Hb
  len : env.length = σ.length
  sl : ∀ (i : Nat) (s : Sl), env[i]? = some (some s) → ∃ v, σ[i]? = some (some v) ∧ RepSl K F.hid Hb H v s ∧ FrSl F.H0 v s
  dis : ∀ (i j : Nat) (s u : Sl) (p : Addr), i ≠ j → env[i]? = some (some s) → env[j]? = some (some u) → s.isOwn → u.isOwn → σ[i]? = some (some (.ref p)) → σ[j]? ≠ some (some (.ref p))
section
variable {K : PySem.W.Frag} {F : Fr} {Hb H Hb1 H1 : Hp} {σ : L2.St} {env : EV}
theorem Rep.st (r : Rep K F Hb H σ env) : St0 F.hid Hb H := r.step.st
theorem Rep.on (r : Rep K F Hb H σ env) (a : Step F.hid Hb H Hb1 H1) : Rep K F Hb1 H1 σ env :=
  ⟨r.step.trans a, r.mid.trans a.ex, r.len, fun i s e => let ⟨v, e1, e2, e3⟩ := r.sl i s e; ⟨v, e1, e2.step a, e3⟩, r.dis⟩
/-- a name is stored -/
theorem Rep.set (r : Rep K F Hb H σ env) (a : Step F.hid Hb H Hb1 H1) {v : V} {s : Sl} (h : RepSl K F.hid Hb1 H1 v s) (f : FrSl H v s) (i : Nat) : Rep K F Hb1 H1 (σ.set i (some v)) (env.set i (some s)) := by
  have r1 := r.on a
  refine ⟨r1.step, r1.mid, by simpa using r.len, fun j u e => ?_, fun j k t1 t2 p hjk ej ek o1 o2 sj sk => ?_⟩
  · by_cases hij : i = j
    · subst hij
      have hi : i < env.length := by
        cases Nat.lt_or_ge i env.length with
        | inl h => exact h
        | inr h => rw [List.getElem?_eq_none (by simpa using h)] at e; cases e
      rw [List.getElem?_set_self hi] at e
      cases e
      exact ⟨v, List.getElem?_set_self (by rw [← r.len]; exact hi), h, FrSl.back r.step f⟩
    · rw [List.getElem?_set_ne hij] at e
      obtain ⟨w, e1, e2, e3⟩ := r1.sl j u e
      exact ⟨w, by rw [List.getElem?_set_ne hij]; exact e1, e2, e3⟩
  · -- an own list in slot i is new
    have old : ∀ (m : Nat) (z : Sl) (q : Addr), i ≠ m → env[m]? = some (some z) → z.isOwn → σ[m]? = some (some (.ref q)) → ∃ o, H q = some o := fun m z q hm em oz sm => by
      obtain ⟨w, e1, e2, _⟩ := r.sl m _ em
      rw [sm] at e1; cases e1
      cases z with
      | own zs =>
        obtain ⟨p', vs, e2, e3, _⟩ := e2
        cases e2
        exact ⟨_, e3⟩
      | ownD zs =>
        obtain ⟨p', vs, e2, e3, _⟩ := e2
        cases e2
        exact ⟨_, e3⟩
      | ownX T =>
        obtain ⟨p', vs, e2, e3, _⟩ := e2
        cases e2
        exact ⟨_, e3⟩
      | any => exact oz.elim
      | d x => exact oz.elim
      | v x => exact oz.elim
      | src => exact oz.elim
    have new : ∀ (m : Nat) (z : Sl) (q : Addr), i = m → (env.set i (some s))[m]? = some (some z) → z.isOwn → (σ.set i (some v))[m]? = some (some (.ref q)) → H q = none := fun m z q hm em oz sm => by
      subst hm
      have hi : i < env.length := by
        cases Nat.lt_or_ge i env.length with
        | inl h => exact h
        | inr h => rw [List.getElem?_eq_none (by simpa using h)] at em; cases em
      rw [List.getElem?_set_self hi] at em
      rw [List.getElem?_set_self (by rw [← r.len]; exact hi)] at sm
      cases em; cases sm
      cases s with
      | own zs => exact f q rfl
      | ownD zs => exact f q rfl
      | ownX zs => exact f q rfl
      | any => exact oz.elim
      | d x => exact oz.elim
      | v x => exact oz.elim
      | src => exact oz.elim
    by_cases hij : i = j
    · have hik : i ≠ k := fun z => hjk (hij.symm.trans z)
      have z1 := new j t1 p hij ej o1 sj
      rw [List.getElem?_set_ne hik] at ek sk
      obtain ⟨o, z2⟩ := old k t2 p hik ek o2 sk
      rw [z1] at z2; cases z2
    · by_cases hik : i = k
      · have z1 := new k t2 p hik ek o2 sk
        rw [List.getElem?_set_ne hij] at ej sj
        obtain ⟨o, z2⟩ := old j t1 p hij ej o1 sj
        rw [z1] at z2; cases z2
      · rw [List.getElem?_set_ne hij] at ej sj
        rw [List.getElem?_set_ne hik] at ek sk
        exact r.dis j k t1 t2 p hjk ej ek o1 o2 sj sk
/-- a name forgotten -/
theorem Rep.forget (r : Rep K F Hb H σ env) (i : Nat) (o : Option V) : Rep K F Hb H (σ.set i o) (env.set i none) := by
  have look : ∀ (j : Nat) (s : Sl), (env.set i none)[j]? = some (some s) → i ≠ j ∧ env[j]? = some (some s) := fun j s e => by
    by_cases hij : i = j
    · subst hij
      rw [List.getElem?_set] at e
      split at e
      · split at e <;> cases e
      · rename_i h; exact (h rfl).elim
    · rw [List.getElem?_set_ne hij] at e
      exact ⟨hij, e⟩
  refine ⟨r.step, r.mid, by simpa using r.len, fun j u e => ?_, fun j k t1 t2 p hjk ej ek o1 o2 sj sk => ?_⟩
  · obtain ⟨h1, h2⟩ := look j u e
    obtain ⟨w, e1, e2⟩ := r.sl j u h2
    exact ⟨w, by rw [List.getElem?_set_ne h1]; exact e1, e2⟩
  · obtain ⟨h1, h2⟩ := look j _ ej
    obtain ⟨h3, h4⟩ := look k _ ek
    rw [List.getElem?_set_ne h1] at sj
    rw [List.getElem?_set_ne h3] at sk
    exact r.dis j k t1 t2 p hjk h2 h4 o1 o2 sj sk
end
end Pu

end

section
/-! Pu1: the judgements. A reading te of the hand layer is followed by a plain one t. -/
namespace Pu
open PySem L2

abbrev DK := Sl → Prop
abbrev DTE := EV → DK → Prop
abbrev DTT := EV → (Bool → Prop) → Prop
abbrev DTA := EV → (List Sl → Prop) → Prop
/-- values that everybody may hold -/
inductive RepAll (K : PySem.W.Frag) (hid : Hid) (Hb H : Hp) : List V → List Sl → Prop
  | nil : RepAll K hid Hb H [] []
  | cons {v : V} {vs : List V} {s : Sl} {ss : List Sl} : RepSl K hid Hb H v s → s.fz = s → RepAll K hid Hb H vs ss → RepAll K hid Hb H (v :: vs) (s :: ss)
section
variable (K : PySem.W.Frag) (F : Fr)
def SdE (te : TE) (t : DTE) : Prop := ∀ (Hb H : Hp) (σ : L2.St) (env : EV) (Q : DK) (k : VK), Rep K F Hb H σ env → t env Q →
  (∀ v Hb' H' s, Step F.hid Hb H Hb' H' → RepSl K F.hid Hb' H' v s → FrSl H v s → Q s → k v H') → te σ H k
def SdT (tt : TT) (t : DTT) : Prop := ∀ (Hb H : Hp) (σ : L2.St) (env : EV) (Q : Bool → Prop) (k : Bool → Hp → Prop), Rep K F Hb H σ env → t env Q →
  (∀ b Hb' H', Step F.hid Hb H Hb' H' → Q b → k b H') → tt σ H k
def SdA (ta : TA) (t : DTA) : Prop := ∀ (Hb H : Hp) (σ : L2.St) (env : EV) (Q : List Sl → Prop) (k : List V → Hp → Prop), Rep K F Hb H σ env → t env Q →
  (∀ vs Hb' H' ss, Step F.hid Hb H Hb' H' → RepAll K F.hid Hb' H' vs ss → Q ss → k vs H') → ta σ H k
end
structure DE (X : Cx) (F : Fr) (e : Expr) (te : TE) (t : DTE) : Prop where
  pe : PE X e te
  sd : SdE X.K F te t
structure DT (X : Cx) (F : Fr) (e : Expr) (te : TT) (t : DTT) : Prop where
  pe : PT X e te
  sd : SdT X.K F te t
structure DW (X : Cx) (F : Fr) (e : Expr) (te : TT) (t : DTT) : Prop where
  pe : PW X e te
  sd : SdT X.K F te t
structure DA (X : Cx) (F : Fr) (es : List Expr) (te : TA) (t : DTA) : Prop where
  pe : PA X es te
  sd : SdA X.K F te t
theorem fz_fz (s : Sl) : s.fz.fz = s.fz := by cases s <;> rfl
theorem fr_fz {H : Hp} {v : V} (s : Sl) : FrSl H v s.fz := by cases s <;> trivial
theorem fr_of {H : Hp} {v : V} {s : Sl} (e : s.fz = s) : FrSl H v s := e ▸ fr_fz s
section
variable {K : PySem.W.Frag} {F : Fr} {hid : Hid} {te ta tb : TE} {t fa fb : DTE}
theorem RepAll.step {Hb H Hb1 H1 : Hp} (a : Step hid Hb H Hb1 H1) : ∀ {vs : List V} {ss : List Sl}, RepAll K hid Hb H vs ss → RepAll K hid Hb1 H1 vs ss
  | _, _, .nil => .nil
  | _, _, .cons h e t => .cons (h.step a) e (RepAll.step a t)
theorem SdE.go (h : SdE K F te t) {Hb H : Hp} {σ : L2.St} {env : EV} {Q : DK} {k : VK} (r : Rep K F Hb H σ env) (q : t env fun s => Q s.fz)
    (c : ∀ v Hb' H' s, Step F.hid Hb H Hb' H' → RepSl K F.hid Hb' H' v s → s.fz = s → Q s → k v H') : te σ H k := by
  refine h Hb H σ env _ k r q fun v Hb' H' s st rs f q => ?_
  obtain ⟨Hb1, st1, ex, new, rep⟩ := RepSl.fz st.st rs f fun b n => st.back n
  refine c v Hb1 H' s.fz ⟨st1, st.ex.trans ex, fun b o e n => ?_, st.keep⟩ rep (fz_fz s) q
  cases z : Hb' b with
  | some u => exact st.new b u z n
  | none => exact new b o e z
theorem SdE.fz (h : SdE K F te t) : SdE K F te (fun env Q => t env fun s => Q s.fz) := fun Hb H σ env Q k r q c =>
  h.go r q fun v Hb' H' s st rs e q => c v Hb' H' s st rs (fr_of e) q
theorem DE.fz {X : Cx} {e : Expr} (h : DE X F e te t) : DE X F e te (fun env Q => t env fun s => Q s.fz) := ⟨h.pe, (h.sd).fz⟩

/-! ### names, constants -/
def dVar (i : Nat) : DTE := fun env Q => match env[i]? with
  | some (some (.d x)) => Q (.d x)
  | some (some (.v y)) => Q (.v y)
  | some (some .src) => Q .src
  | _ => False
theorem sd_var (i : Nat) : SdE K F (tVar i) (dVar i) := by
  intro Hb H σ env Q k r q c
  unfold dVar at q
  split at q
  · rename_i x e
    obtain ⟨v, e1, e2, e3⟩ := r.sl i _ e
    exact ⟨v, e1, c v Hb H _ (Step.refl r.st) e2 trivial q⟩
  · rename_i y e
    obtain ⟨v, e1, e2, e3⟩ := r.sl i _ e
    exact ⟨v, e1, c v Hb H _ (Step.refl r.st) e2 trivial q⟩
  · rename_i e
    obtain ⟨v, e1, e2, e3⟩ := r.sl i _ e
    exact ⟨v, e1, c v Hb H .src (Step.refl r.st) e2 trivial q⟩
  · exact q.elim
def dC (x : PyData) : DTE := fun _ Q => Q (.d x)
def dV (y : V) : DTE := fun _ Q => Q (.v y)
theorem sd_c {v : V} {x : PyData} (h : ∀ Hb : Hp, Dq K Hb v x) : SdE K F (tC v) (dC x) := by
  intro Hb H σ env Q k r q c
  exact c v Hb H (.d x) (Step.refl r.st) (h Hb) trivial q
theorem sd_v {v : V} : SdE K F (tC v) (dV v) := by
  intro Hb H σ env Q k r q c
  exact c v Hb H (.v v) (Step.refl r.st) rfl trivial q
end
section
variable {X : Cx} {F : Fr}
theorem de_v (i : Nat) {x : Str} {pos : Pos} (hN : X.N[i]? = some x := by rfl) (hv : Vis X.env.scope x := by first | exact Or.inl rfl | exact Or.inr (Or.inl rfl) | exact Or.inr (Or.inr rfl)) (hd : (x == ("__debug__" : Str)) = false := by decide)
    (hcd : (x == ("__classdict__" : Str)) = false := by decide) : DE X F (.Name x pos) (tVar i) (dVar i) := ⟨pe_var hN hv hd hcd, sd_var i⟩
theorem de_int {i j pos} : DE X F (.Constant (.int i) j pos) (tC (.int i)) (dC (.int i)) := ⟨pe_int, sd_c fun _ => .int i⟩
theorem de_bl {b j pos} : DE X F (.Constant (.bool b) j pos) (tC (.bl b)) (dC (.bool b)) := ⟨pe_bl, sd_c fun _ => .bl b⟩
theorem de_str {x j pos} : DE X F (.Constant (.str x) j pos) (tC (.str x)) (dC (.str x)) := ⟨pe_str, sd_c fun _ => .str x⟩
theorem de_bltn {x : Str} {n : String} {pos : Pos} (hm : X.mg x = none) (hv : bootBuiltins x = some (.type n) := by decide +kernel) (hg : Gl X x := by rfl) (hn : x ≠ "__name__" := by decide) (hd : (x == ("__debug__" : Str)) = false := by decide) : DE X F (.Name x pos) (tC (.ty n)) (dV (.ty n)) := ⟨pe_bltn hg hm hv rfl hn hd, sd_v⟩
end

/-! ### operators by values -/
section
variable (K : PySem.W.Frag) (hid : Hid)
abbrev F2 := Sl → Sl → DK → Prop
abbrev F1 := Sl → DK → Prop
abbrev FN := List Sl → DK → Prop
def LO (r : R2) (f : F2) : Prop := ∀ (Hb H : Hp) (x y : V) (s u : Sl) (Q : DK) (k : VK), St0 hid Hb H → RepSl K hid Hb H x s → RepSl K hid Hb H y u → f s u Q →
  (∀ v Hb' H' s', Step hid Hb H Hb' H' → RepSl K hid Hb' H' v s' → FrSl H v s' → Q s' → k v H') → r x y H k
def LU (r : V → Hp → VK → Prop) (f : F1) : Prop := ∀ (Hb H : Hp) (x : V) (s : Sl) (Q : DK) (k : VK), St0 hid Hb H → RepSl K hid Hb H x s → f s Q →
  (∀ v Hb' H' s', Step hid Hb H Hb' H' → RepSl K hid Hb' H' v s' → FrSl H v s' → Q s' → k v H') → r x H k
def LC (r : List V → Hp → VK → Prop) (f : FN) : Prop := ∀ (Hb H : Hp) (xs : List V) (ss : List Sl) (Q : DK) (k : VK), St0 hid Hb H → RepAll K hid Hb H xs ss → f ss Q →
  (∀ v Hb' H' s', Step hid Hb H Hb' H' → RepSl K hid Hb' H' v s' → FrSl H v s' → Q s' → k v H') → r xs H k
end
def dOp (f : F2) (fa fb : DTE) : DTE := fun env Q => fa env fun s => fb env fun u => f s.fz u.fz Q
def dUn (f : F1) (fa : DTE) : DTE := fun env Q => fa env fun s => f s.fz Q
def dCall (f : FN) (fa : DTA) : DTE := fun env Q => fa env fun ss => f ss Q
section
variable {K : PySem.W.Frag} {F : Fr} {ta tb tc : TE} {fa fb fc : DTE} {r r' : R2} {f f' : F2}
theorem sd_op (lo : LO K F.hid r f) (ha : SdE K F ta fa) (hb : SdE K F tb fb) : SdE K F (tOp r ta tb) (dOp f fa fb) := by
  intro Hb H σ env Q k rp q c
  refine ha.go (Q := fun s => fb env fun u => f s u.fz Q) rp q fun x Hb1 H1 s st1 rs1 _ q1 => ?_
  refine hb.go (Q := fun u => f s u Q) (rp.on st1) q1 fun y Hb2 H2 u st2 rs2 _ q2 => ?_
  exact lo Hb2 H2 x y s u Q k st2.st (rs1.step st2) rs2 q2 fun v Hb' H' s' st3 r3 f3 q3 => c v Hb' H' s' ((st1.trans st2).trans st3) r3 (FrSl.back (st1.trans st2) f3) q3
theorem sd_un {r : V → Hp → VK → Prop} {f : F1} (lo : LU K F.hid r f) (ha : SdE K F ta fa) : SdE K F (tUn r ta) (dUn f fa) := by
  intro Hb H σ env Q k rp q c
  refine ha.go (Q := fun s => f s Q) rp q fun x Hb1 H1 s st1 rs1 _ q1 => ?_
  exact lo Hb1 H1 x s Q k st1.st rs1 q1 fun v Hb' H' s' st3 r3 f3 q3 => c v Hb' H' s' (st1.trans st3) r3 (FrSl.back st1 f3) q3
theorem sd_nil : SdA K F tNil (fun _ Q => Q []) := by
  intro Hb H σ env Q k r q c
  exact c [] Hb H [] (Step.refl r.st) .nil q
def dCons (fa : DTE) (fr : DTA) : DTA := fun env Q => fa env fun s => fr env fun ss => Q (s.fz :: ss)
theorem sd_cons {tr : TA} {fr : DTA} (ha : SdE K F ta fa) (hr : SdA K F tr fr) : SdA K F (tCons ta tr) (dCons fa fr) := by
  intro Hb H σ env Q k rp q c
  refine ha.go (Q := fun s => fr env fun ss => Q (s :: ss)) rp q fun x Hb1 H1 s st1 rs1 e1 q1 => ?_
  refine hr Hb1 H1 σ env (fun ss => Q (s :: ss)) _ (rp.on st1) q1 fun vs Hb2 H2 ss st2 rs2 q2 => ?_
  exact c _ Hb2 H2 (s :: ss) (st1.trans st2) (.cons (rs1.step st2) e1 rs2) q2
theorem sd_call {r : List V → Hp → VK → Prop} {f : FN} {tr : TA} {fr : DTA} (lo : LC K F.hid r f) (hr : SdA K F tr fr) : SdE K F (tCB r tr) (dCall f fr) := by
  intro Hb H σ env Q k rp q c
  refine hr Hb H σ env _ _ rp q fun vs Hb1 H1 ss st1 rs1 q1 => ?_
  exact lo Hb1 H1 vs ss Q k st1.st rs1 q1 fun v Hb' H' s' st3 r3 f3 q3 => c v Hb' H' s' (st1.trans st3) r3 (FrSl.back st1 f3) q3
end
end Pu

end

section
/-! Pu2: tests, statements, targets, loops. -/
namespace Pu
open PySem L2

/-! ### tests -/
def dTest (f : DTE) : DTT := fun env Q => f env fun s => ∃ b, s.fz = .d (.bool b) ∧ Q b
def dAnd (t u : DTT) : DTT := fun env Q => t env fun c => if c = true then u env Q else Q false
def dOr (t u : DTT) : DTT := fun env Q => t env fun c => if c = true then Q true else u env Q
def dNot (t : DTT) : DTT := fun env Q => t env fun c => Q (!c)
def dAndV (fa fb : DTE) : DTE := fun env Q => fa env fun s => ∃ b, s.fz = .d (.bool b) ∧ if b = true then fb env Q else Q (.d (.bool false))
def dOrV (fa fb : DTE) : DTE := fun env Q => fa env fun s => ∃ b, s.fz = .d (.bool b) ∧ if b = true then Q (.d (.bool true)) else fb env Q
def dNotV (fa : DTE) : DTE := fun env Q => fa env fun s => ∃ b, s.fz = .d (.bool b) ∧ Q (.d (.bool (!b)))
def dIfE (t : DTT) (fa fb : DTE) : DTE := fun env Q => t env fun c => if c = true then fa env Q else fb env Q
section
variable {K : PySem.W.Frag} {F : Fr} {hid : Hid} {ta tb : TE} {fa fb : DTE} {t u : TT} {ft fu : DTT}
theorem bool_of {Hb H : Hp} {x : V} {s : Sl} {b : Bool} (h : RepSl K hid Hb H x s) (e : s = .d (.bool b)) : x = .bl b := by
  subst e
  cases (show Dq K Hb x (.bool b) from h)
  rfl
theorem sd_test (h : SdE K F ta fa) : SdT K F (tTest ta) (dTest fa) := by
  intro Hb H σ env Q k rp q c
  refine h.go (Q := fun s => ∃ b, s = .d (.bool b) ∧ Q b) rp q fun x Hb1 H1 s st1 rs1 _ q1 => ?_
  obtain ⟨b, e, q1⟩ := q1
  exact ⟨b, bool_of rs1 e, c b Hb1 H1 st1 q1⟩
theorem sd_B (h : SdE K F ta fa) : SdT K F (tB ta) (dTest fa) := sd_test h
theorem sd_and (h1 : SdT K F t ft) (h2 : SdT K F u fu) : SdT K F (tAnd t u) (dAnd ft fu) := by
  intro Hb H σ env Q k rp q c
  refine h1 Hb H σ env _ _ rp q fun b Hb1 H1 st1 q1 => ?_
  cases b with
  | true => exact h2 Hb1 H1 σ env Q k (rp.on st1) q1 fun b2 Hb2 H2 st2 q2 => c b2 Hb2 H2 (st1.trans st2) q2
  | false => exact c false Hb1 H1 st1 q1
theorem sd_or (h1 : SdT K F t ft) (h2 : SdT K F u fu) : SdT K F (tOr t u) (dOr ft fu) := by
  intro Hb H σ env Q k rp q c
  refine h1 Hb H σ env _ _ rp q fun b Hb1 H1 st1 q1 => ?_
  cases b with
  | true => exact c true Hb1 H1 st1 q1
  | false => exact h2 Hb1 H1 σ env Q k (rp.on st1) q1 fun b2 Hb2 H2 st2 q2 => c b2 Hb2 H2 (st1.trans st2) q2
theorem sd_not (h1 : SdT K F t ft) : SdT K F (tNot t) (dNot ft) := by
  intro Hb H σ env Q k rp q c
  exact h1 Hb H σ env _ _ rp q fun b Hb1 H1 st1 q1 => c (!b) Hb1 H1 st1 q1
theorem sd_andV (h1 : SdE K F ta fa) (h2 : SdE K F tb fb) : SdE K F (tAndV ta tb) (dAndV fa fb) := by
  intro Hb H σ env Q k rp q c
  refine h1.go (Q := fun s => ∃ b, s = .d (.bool b) ∧ if b = true then fb env Q else Q (.d (.bool false))) rp q fun x Hb1 H1 s st1 rs1 _ q1 => ?_
  obtain ⟨b, e, q1⟩ := q1
  refine ⟨b, bool_of rs1 e, ?_⟩
  cases b with
  | true => exact h2 Hb1 H1 σ env Q k (rp.on st1) q1 fun v Hb2 H2 s2 st2 r2 f2 q2 => c v Hb2 H2 s2 (st1.trans st2) r2 (FrSl.back st1 f2) q2
  | false => exact c (.bl false) Hb1 H1 (.d (.bool false)) st1 (Dq.bl false) trivial q1
theorem sd_orV (h1 : SdE K F ta fa) (h2 : SdE K F tb fb) : SdE K F (tOrV ta tb) (dOrV fa fb) := by
  intro Hb H σ env Q k rp q c
  refine h1.go (Q := fun s => ∃ b, s = .d (.bool b) ∧ if b = true then Q (.d (.bool true)) else fb env Q) rp q fun x Hb1 H1 s st1 rs1 _ q1 => ?_
  obtain ⟨b, e, q1⟩ := q1
  refine ⟨b, bool_of rs1 e, ?_⟩
  cases b with
  | false => exact h2 Hb1 H1 σ env Q k (rp.on st1) q1 fun v Hb2 H2 s2 st2 r2 f2 q2 => c v Hb2 H2 s2 (st1.trans st2) r2 (FrSl.back st1 f2) q2
  | true => exact c (.bl true) Hb1 H1 (.d (.bool true)) st1 (Dq.bl true) trivial q1
theorem sd_notV (h1 : SdE K F ta fa) : SdE K F (tNotV ta) (dNotV fa) := by
  intro Hb H σ env Q k rp q c
  refine h1.go (Q := fun s => ∃ b, s = .d (.bool b) ∧ Q (.d (.bool (!b)))) rp q fun x Hb1 H1 s st1 rs1 _ q1 => ?_
  obtain ⟨b, e, q1⟩ := q1
  exact ⟨b, bool_of rs1 e, c (.bl !b) Hb1 H1 (.d (.bool !b)) st1 (Dq.bl _) trivial q1⟩
theorem sd_ifE (h : SdT K F t ft) (h1 : SdE K F ta fa) (h2 : SdE K F tb fb) : SdE K F (tIf t ta tb) (dIfE ft fa fb) := by
  intro Hb H σ env Q k rp q c
  refine h Hb H σ env _ _ rp q fun b Hb1 H1 st1 q1 => ?_
  cases b with
  | true => exact h1 Hb1 H1 σ env Q k (rp.on st1) q1 fun v Hb2 H2 s2 st2 r2 f2 q2 => c v Hb2 H2 s2 (st1.trans st2) r2 (FrSl.back st1 f2) q2
  | false => exact h2 Hb1 H1 σ env Q k (rp.on st1) q1 fun v Hb2 H2 s2 st2 r2 f2 q2 => c v Hb2 H2 s2 (st1.trans st2) r2 (FrSl.back st1 f2) q2
end

/-! ### statements -/
structure DEnds where
  nx : EV → Prop
  rt : Sl → Prop
  bk : EV → Prop := fun _ => False
  ct : EV → Prop := fun _ => False
abbrev DTS := DEnds → EV → Prop
section
variable (K : PySem.W.Frag) (F : Fr)
structure Lk (Hb : Hp) (D : Ends) (E : DEnds) : Prop where
  nx : ∀ Hb' H σ env, Same Hb Hb' → Rep K F Hb' H σ env → E.nx env → D.nx σ H
  bk : ∀ Hb' H σ env, Same Hb Hb' → Rep K F Hb' H σ env → E.bk env → D.bk σ H
  ct : ∀ Hb' H σ env, Same Hb Hb' → Rep K F Hb' H σ env → E.ct env → D.ct σ H
  rt : ∀ v Hb' H s, Same Hb Hb' → Step F.hid F.B0 F.H0 Hb' H → RepSl K F.hid Hb' H v s → FrSl F.H0 v s → E.rt s → D.rt v H
def SdS (ts : TS) (t : DTS) : Prop := ∀ (Hb H : Hp) (σ : L2.St) (env : EV) (D : Ends) (E : DEnds), Rep K F Hb H σ env → t E env → Lk K F Hb D E → ts D σ H
end
structure DS (X : Cx) (F : Fr) (st : Stmt) (ts : TS) (t : DTS) : Prop where
  pe : PS X st ts
  sd : SdS X.K F ts t
structure DSs (X : Cx) (F : Fr) (st : List Stmt) (ts : TS) (t : DTS) : Prop where
  pe : PSs X st ts
  sd : SdS X.K F ts t
def dNext : DTS := fun E env => E.nx env
def dSeq (t u : DTS) : DTS := fun E env => t { E with nx := u E } env
def dRet (t : DTE) : DTS := fun E env => t env E.rt
def dIf (c : DTT) (t u : DTS) : DTS := fun E env => c env fun b => if b = true then t E env else u E env
def dSet (t : DTE) (i : Nat) : DTS := fun E env => t env fun s => E.nx (env.set i (some s))
section
variable {K : PySem.W.Frag} {F : Fr} {hid : Hid} {te ta : TE} {fa : DTE} {t u : TS} {ft fu : DTS} {c : TT} {fc : DTT}
theorem Lk.on {Hb Hb1 : Hp} {D : Ends} {E : DEnds} (l : Lk K F Hb D E) (e : Same Hb Hb1) : Lk K F Hb1 D E :=
  ⟨fun Hb' H σ env s => l.nx Hb' H σ env (e.trans s), fun Hb' H σ env s => l.bk Hb' H σ env (e.trans s), fun Hb' H σ env s => l.ct Hb' H σ env (e.trans s), fun v Hb' H s z => l.rt v Hb' H s (e.trans z)⟩
theorem sd_next : SdS K F tNext dNext := fun Hb H σ env D E r q l => l.nx Hb H σ env (Same.refl _) r q
theorem sd_seq (h1 : SdS K F t ft) (h2 : SdS K F u fu) : SdS K F (tSeq t u) (dSeq ft fu) := by
  intro Hb H σ env D E r q l
  exact h1 Hb H σ env { D with nx := u D } { E with nx := fu E } r q ⟨fun Hb' H σ env s r q => h2 Hb' H σ env D E r q (l.on s), l.bk, l.ct, l.rt⟩
theorem sd_ret (h : SdE K F te fa) : SdS K F (tRet te) (dRet fa) := by
  intro Hb H σ env D E r q l
  exact h Hb H σ env E.rt D.rt r q fun v Hb' H' s st rs f q => l.rt v Hb' H' s st.ex (r.step.trans st) rs (FrSl.back r.step f) q
theorem sd_if (hc : SdT K F c fc) (h1 : SdS K F t ft) (h2 : SdS K F u fu) : SdS K F (tIfS c t u) (dIf fc ft fu) := by
  intro Hb H σ env D E r q l
  refine hc Hb H σ env _ _ r q fun b Hb1 H1 st1 q1 => ?_
  cases b with
  | true => exact h1 Hb1 H1 σ env D E (r.on st1) q1 (l.on st1.ex)
  | false => exact h2 Hb1 H1 σ env D E (r.on st1) q1 (l.on st1.ex)
theorem sd_set (i : Nat) (h : SdE K F te fa) : SdS K F (tAsg te (gName i)) (dSet fa i) := by
  intro Hb H σ env D E r q l
  exact h Hb H σ env _ _ r q fun v Hb' H' s st rs f q => l.nx Hb' H' _ _ st.ex (r.set st rs f i) q
end

/-! ### targets -/
abbrev DTG := Sl → EV → (EV → Prop) → Prop
abbrev DTGs := List PyData → EV → (EV → Prop) → Prop
/-- what a target may change: the names js -/
def Off (js : List Nat) (σ σ' : L2.St) : Prop := σ'.length = σ.length ∧ ∀ i, i ∉ js → σ'[i]? = σ[i]?
section
variable (K : PySem.W.Frag) (F : Fr)
def SdG (js : List Nat) (g : TG) (t : DTG) : Prop := ∀ (Hb H : Hp) (σ : L2.St) (env : EV) (v : V) (s : Sl) (Q : EV → Prop) (k : L2.St → Hp → Prop), Rep K F Hb H σ env → RepSl K F.hid Hb H v s → s.fz = s → t s env Q →
  (∀ σ' env', Off js σ σ' → Rep K F Hb H σ' env' → Q env' → k σ' H) → g v σ H k
def SdGs (js : List Nat) (g : TGs) (t : DTGs) : Prop := ∀ (Hb H : Hp) (σ : L2.St) (env : EV) (vs : List V) (ds : List PyData) (Q : EV → Prop) (k : L2.St → Hp → Prop), Rep K F Hb H σ env → DqAll K Hb vs ds → t ds env Q →
  (∀ σ' env', Off js σ σ' → Rep K F Hb H σ' env' → Q env' → k σ' H) → g vs σ H k
end
theorem Off.refl (js : List Nat) (σ : L2.St) : Off js σ σ := ⟨rfl, fun _ _ => rfl⟩
theorem Off.set {js : List Nat} {σ : L2.St} {i : Nat} (h : i ∈ js) (o : Option V) : Off js σ (σ.set i o) := ⟨by simp, fun j hj => List.getElem?_set_ne fun e : i = j => hj (e ▸ h)⟩
theorem Off.trans {js : List Nat} {a b c : L2.St} (x : Off js a b) (y : Off js b c) : Off js a c := ⟨y.1.trans x.1, fun i hi => (y.2 i hi).trans (x.2 i hi)⟩
def dgName (i : Nat) : DTG := fun s env Q => Q (env.set i (some s))
def dgNil : DTGs := fun ds env Q => ds = [] ∧ Q env
def dgCons (t : DTG) (u : DTGs) : DTGs := fun ds env Q => ∃ d r, ds = d :: r ∧ t (.d d) env fun env' => u r env' Q
def dgTup (n : Nat) (t : DTGs) : DTG := fun s env Q => ∃ ds, s = .d (.tuple ds) ∧ ds.length = n ∧ t ds env Q
section
variable {K : PySem.W.Frag} {F : Fr} {hid : Hid} {js : List Nat}
theorem sg_name (i : Nat) (hi : i ∈ js) : SdG K F js (gName i) (dgName i) := fun Hb H σ env v s Q k r rs e q c =>
  c _ _ (Off.set hi _) (r.set (Step.refl r.st) rs (fr_of e) i) q
theorem sg_nil : SdGs K F js gNil dgNil := fun Hb H σ env vs ds Q k r rs q c => by
  obtain ⟨e, q⟩ := q
  subst e
  cases rs
  exact ⟨rfl, c σ env (Off.refl _ _) r q⟩
theorem sg_cons {g : TG} {gs : TGs} {t : DTG} {u : DTGs} (h1 : SdG K F js g t) (h2 : SdGs K F js gs u) : SdGs K F js (gCons g gs) (dgCons t u) := fun Hb H σ env vs ds Q k r rs q c => by
  obtain ⟨d, rr, e, q⟩ := q
  subst e
  cases rs with
  | cons h t' =>
    refine ⟨_, _, rfl, ?_⟩
    refine h1 Hb H σ env _ (.d d) _ _ r h rfl q fun σ1 env1 o1 r1 q1 => ?_
    exact h2 Hb H σ1 env1 _ rr Q _ r1 t' q1 fun σ2 env2 o2 r2 q2 => c σ2 env2 (o1.trans o2) r2 q2
theorem sg_tup {n : Nat} {gs : TGs} {u : DTGs} (h : SdGs K F js gs u) : SdG K F js (gTup K n gs) (dgTup n u) := fun Hb H σ env v s Q k r rs e q c => by
  obtain ⟨ds, e1, hl, q⟩ := q
  subst e1
  cases (show Dq K Hb v (.tuple ds) from rs) with
  | tup h1 h2 => exact ⟨_, _, rfl, Same.seqT r.st.ex h1, by rw [DqAll.length h2]; exact hl, h Hb H σ env _ ds Q k r h2 q c⟩
end

/-! ### what is walked -/
abbrev DTI := EV → (List PyData → Prop) → Prop
section
variable (K : PySem.W.Frag) (hid : Hid) (F : Fr)
/-- from Hb on the walk J gives the data ys -/
structure Gives (Hb : Hp) (J : It) (ys : List PyData) : Prop where
  ex : ∃ (G : Hp → Prop) (Y : Nat → Hp → V → Hp → Prop), Walk J ys.length G Y ∧ (∀ H, Same Hb H → G H) ∧
    ∀ i Hb' H x H', i < ys.length → St0 hid Hb' H → Same Hb Hb' → Y i H x H' → ∃ Hb2 d, ys[i]? = some d ∧ Step hid Hb' H Hb2 H' ∧ Dq K Hb2 x d
def SdI (wi : TI) (t : DTI) : Prop := ∀ (Hb H : Hp) (σ : L2.St) (env : EV) (Q : List PyData → Prop) (R : It → Hp → Prop), Rep K F Hb H σ env → t env Q →
  (∀ J Hb' H' ys, Step F.hid Hb H Hb' H' → Gives K F.hid Hb' J ys → Q ys → R J H') → wi σ H R
end
structure DI (X : Cx) (F : Fr) (tg e : Expr) (wi : TI) (t : DTI) : Prop where
  pe : PI X tg e wi
  sd : SdI X.K F wi t
/-- a list, a tuple -/
def dList (f : DTE) : DTI := fun env Q => f env fun s => ∃ xs, s.fz = .d (.list xs) ∧ Q xs
def dTup (f : DTE) : DTI := fun env Q => f env fun s => ∃ xs, s.fz = .d (.tuple xs) ∧ Q xs
def rngD (lo : Int) (n : Nat) : List PyData := (List.range n).map fun i => .int (lo + (i : Nat))
def dRng1 (f : DTA) : DTI := fun env Q => f env fun ss => ∃ j : Int, ss = [.d (.int j)] ∧ (-(2 ^ 62) ≤ j ∧ j < 2 ^ 62) ∧ Q (rngD 0 j.toNat)
def dStrI (f : DTE) : DTI := fun env Q => f env fun s => ∃ z : Str, s.fz = .d (.str z) ∧ Q (z.cps.toList.map fun c => .str ⟨#[c]⟩)
def enumD (i : Nat) : List PyData → List PyData
  | [] => []
  | x :: xs => .tuple [.int (i : Nat), x] :: enumD (i + 1) xs
def zipD : List PyData → List PyData → List PyData
  | x :: xs, y :: ys => .tuple [x, y] :: zipD xs ys
  | _, _ => []
section
variable {K : PySem.W.Frag} {F : Fr} {hid : Hid} {ta : TE} {fa : DTE} {tr : TA} {fr : DTA}
theorem gives_at {Hb : Hp} {J : It} {vs : List V} {ys : List PyData} {G : Hp → Prop} (w : Walk J vs.length G (YAt vs)) (hG : ∀ H, Same Hb H → G H) (h : DqAll K Hb vs ys) : Gives K hid Hb J ys := by
  refine ⟨G, YAt vs, by rw [← DqAll.length h]; exact w, hG, fun i Hb' H x H' hi st ex y => ?_⟩
  obtain ⟨e1, e2⟩ := y
  subst e1
  obtain ⟨d, h1, h2⟩ := DqAll.get h e2
  exact ⟨Hb', d, h1, Step.refl st, Dq.mono ex h2⟩
theorem si_list (h : SdE K F ta fa) : SdI K F (iList K ta) (dList fa) := by
  intro Hb H σ env Q R rp q c
  refine h.go (Q := fun s => ∃ xs, s = .d (.list xs) ∧ Q xs) rp q fun x Hb1 H1 s st1 rs1 _ q1 => ?_
  obtain ⟨xs, e, q1⟩ := q1
  subst e
  cases (show Dq K Hb1 x (.list xs) from rs1) with
  | lst h1 h2 => exact ⟨_, rfl, ⟨_, SqL.of (st1.st.ex _ _ h1)⟩, c _ Hb1 H1 xs st1 (gives_at walk_list (fun H' s => SqL.of (s _ _ h1)) h2) q1⟩
theorem si_tup (h : SdE K F ta fa) : SdI K F (iTup K ta) (dTup fa) := by
  intro Hb H σ env Q R rp q c
  refine h.go (Q := fun s => ∃ xs, s = .d (.tuple xs) ∧ Q xs) rp q fun x Hb1 H1 s st1 rs1 _ q1 => ?_
  obtain ⟨xs, e, q1⟩ := q1
  subst e
  cases (show Dq K Hb1 x (.tuple xs) from rs1) with
  | tup h1 h2 => exact ⟨_, rfl, ⟨_, Same.seqT st1.st.ex h1⟩, c _ Hb1 H1 xs st1 (gives_at walk_tup (fun H' s => Same.seqT s h1) h2) q1⟩
theorem gives_rng {Hb : Hp} (lo : Int) (n : Nat) : Gives K hid Hb (Itr lo n) (rngD lo n) := by
  have hl : (rngD lo n).length = n := by simp [rngD]
  refine ⟨fun _ => True, _, by rw [hl]; exact walk_range, fun _ _ => trivial, fun i Hb' H x H' hi st ex y => ?_⟩
  obtain ⟨e1, e2⟩ := y
  subst e1 e2
  exact ⟨Hb', .int (lo + (i : Nat)), by rw [hl] at hi; simp [rngD, hi], Step.refl st, .int _⟩
theorem int_of {Hb H : Hp} {x : V} {i : Int} (h : RepSl K hid Hb H x (.d (.int i))) : x = .int i := by
  cases (show Dq K Hb x (.int i) from h)
  rfl
theorem str_of {Hb H : Hp} {x : V} {i : Str} (h : RepSl K hid Hb H x (.d (.str i))) : x = .str i := by
  cases (show Dq K Hb x (.str i) from h)
  rfl
theorem si_rng1 (h : SdA K F tr fr) : SdI K F (iRng1 tr) (dRng1 fr) := by
  intro Hb H σ env Q R rp q c
  refine h Hb H σ env _ _ rp q fun vs Hb1 H1 ss st1 rs1 q1 => ?_
  obtain ⟨j, e, ⟨h1, h2⟩, q1⟩ := q1
  subst e
  cases rs1 with
  | cons a _ t =>
    cases t
    exact ⟨j, by rw [int_of a], h1, h2, c _ Hb1 H1 _ st1 (gives_rng _ _) q1⟩
theorem si_str (h : SdE K F ta fa) : SdI K F (iStr ta) (dStrI fa) := by
  intro Hb H σ env Q R rp q c
  refine h.go (Q := fun s => ∃ z : Str, s = .d (.str z) ∧ Q (z.cps.toList.map fun c => .str ⟨#[c]⟩)) rp q fun x Hb1 H1 s st1 rs1 _ q1 => ?_
  obtain ⟨z, e, q1⟩ := q1
  subst e
  refine ⟨z, str_of rs1, c _ Hb1 H1 _ st1 ⟨⟨fun _ => True, fun i H v H' => H' = H ∧ ∃ c, z.cps[i]? = some c ∧ v = .str ⟨#[c]⟩, ?_, fun _ _ => trivial, fun i Hb' H x H' hi st ex y => ?_⟩⟩ q1⟩
  · have e : (z.cps.toList.map fun c => PyData.str ⟨#[c]⟩).length = z.cps.size := by simp
    rw [e]
    exact walk_str
  · obtain ⟨e1, c, h1, h2⟩ := y
    subst e1 h2
    exact ⟨Hb', .str ⟨#[c]⟩, by simp [h1], Step.refl st, .str _⟩
/-- a new pair -/
theorem pair_new {Hb Hb' H : Hp} {T : Addr} {x y : V} {dx dy : PyData} (st : St0 hid Hb' H) (n : H T = none) (hx : Dq K Hb' x dx) (hy : Dq K Hb' y dy) : Step hid Hb' H (upd Hb' T (.tup [x, y])) (upd H T (.tup [x, y])) ∧ Dq K (upd Hb' T (.tup [x, y])) (.ref T) (.tuple [dx, dy]) := by
  have s := Step.laid (o := .tup [x, y]) st n
  exact ⟨s, .tup (SqT.of upd_same) (.cons (Dq.mono s.ex hx) (.cons (Dq.mono s.ex hy) .nil))⟩
theorem enumD_length : ∀ (i : Nat) (xs : List PyData), (enumD i xs).length = xs.length
  | _, [] => rfl
  | i, _ :: xs => congrArg (· + 1) (enumD_length (i + 1) xs)
theorem enumD_get : ∀ (i j : Nat) (xs : List PyData) (d : PyData), xs[j]? = some d → (enumD i xs)[j]? = some (.tuple [.int ((i + j : Nat) : Int), d])
  | _, _, [], _, h => by simp at h
  | i, 0, x :: xs, d, h => by simp at h; subst h; simp [enumD]
  | i, j + 1, x :: xs, d, h => by
    have := enumD_get (i + 1) j xs d (by simpa using h)
    show (enumD (i + 1) xs)[j]? = _
    rw [this, show i + 1 + j = i + (j + 1) by omega]
theorem zipD_length : ∀ (xs ys : List PyData), (zipD xs ys).length = min xs.length ys.length
  | [], _ => by simp [zipD]
  | _ :: _, [] => by simp [zipD]
  | _ :: xs, _ :: ys => by simp [zipD, zipD_length xs ys]
theorem zipD_get : ∀ (j : Nat) (xs ys : List PyData) (d e : PyData), xs[j]? = some d → ys[j]? = some e → (zipD xs ys)[j]? = some (.tuple [d, e])
  | _, [], _, _, _, h, _ => by simp at h
  | _, _ :: _, [], _, _, _, h => by simp at h
  | 0, x :: xs, y :: ys, d, e, h, h' => by simp at h h'; subst h h'; simp [zipD]
  | j + 1, x :: xs, y :: ys, d, e, h, h' => by
    show (zipD xs ys)[j]? = _
    exact zipD_get j xs ys d e (by simpa using h) (by simpa using h')
end

/-! ### for -/
/-- the walked data, one behind the other -/
def dLoop (g : DTG) (body : DTS) (E : DEnds) : List PyData → EV → Prop
  | [], env => E.nx env
  | y :: ys, env => g (.d y) env fun env1 => body { nx := dLoop g body E ys, ct := dLoop g body E ys, bk := E.nx, rt := E.rt } env1
def dFor (i : DTI) (g : DTG) (body : DTS) : DTS := fun E env => i env fun ys => dLoop g body E ys env
section
variable {K : PySem.W.Frag} {F : Fr} {hid : Hid} {js : List Nat}
theorem sd_for {wi : TI} {g : TG} {tb : TS} {fi : DTI} {fg : DTG} {fb : DTS} (hi : SdI K F wi fi) (hg : SdG K F js g fg) (hb : SdS K F tb fb) : SdS K F (tFor wi g tb) (dFor fi fg fb) := by
  intro Hb H σ env D E r q l
  refine hi Hb H σ env _ _ r q fun J Hb1 H1 ys st1 gv q1 => ?_
  obtain ⟨G, Y, w, hG, hY⟩ := gv.ex
  refine for_it w (fun i σ' H' => ∃ Hb' env', Same Hb1 Hb' ∧ Rep K F Hb' H' σ' env' ∧ dLoop fg fb E (ys.drop i) env') ⟨Hb1, env, Same.refl _, r.on st1, q1⟩ ?_ ?_ ?_
  · rintro i σ' H' _ ⟨Hb', env', s, r', _⟩
    exact hG H' (s.trans r'.st.ex)
  · rintro i x σ' H' H2 hlt ⟨Hb', env', s, r', q'⟩ y
    obtain ⟨Hb2, d, hd, st2, hx⟩ := hY i Hb' H' x H2 hlt r'.st s y
    have e : ys.drop i = d :: ys.drop (i + 1) := by
      obtain ⟨h1, h2⟩ := List.getElem?_eq_some_iff.mp hd
      rw [List.drop_eq_getElem_cons h1, h2]
    rw [e] at q'
    refine hg Hb2 H2 σ' env' x (.d d) _ _ (r'.on st2) hx rfl q' fun σ3 env3 _ r3 q3 => ?_
    have ex2 : Same Hb1 Hb2 := s.trans st2.ex
    refine hb Hb2 H2 σ3 env3 _ _ r3 q3 ⟨fun Hb4 H4 σ4 env4 s4 r4 q4 => ⟨Hb4, env4, ex2.trans s4, r4, q4⟩, fun Hb4 H4 σ4 env4 s4 r4 q4 => l.nx Hb4 H4 σ4 env4 (st1.ex.trans (ex2.trans s4)) r4 q4, fun Hb4 H4 σ4 env4 s4 r4 q4 => ⟨Hb4, env4, ex2.trans s4, r4, q4⟩, fun v Hb4 H4 s' s4 => l.rt v Hb4 H4 s' (st1.ex.trans (ex2.trans s4))⟩
  · rintro σ' H' ⟨Hb', env', s, r', q'⟩
    rw [List.drop_length] at q'
    exact l.nx Hb' H' σ' env' (st1.ex.trans s) r' q'
end
end Pu

end

section
/-! Pu3: displays, comprehensions, own lists, calls of defs. -/
namespace Pu
open PySem L2

/-! ### displays -/
def allD : List Sl → Option (List PyData)
  | [] => some []
  | .d x :: ss => (allD ss).map (x :: ·)
  | _ :: _ => none
def dTupE (t : DTA) : DTE := fun env Q => t env fun ss => ∃ xs, allD ss = some xs ∧ xs.length ≤ sizeLine ∧ Q (.d (.tuple xs))
def dLstE (t : DTA) : DTE := fun env Q => t env fun ss => ∃ xs, allD ss = some xs ∧ xs.length ≤ sizeLine ∧ Q (.own xs)
section
variable {K : PySem.W.Frag} {hid : Hid} {F : Fr} {Hb H : Hp}
theorem allD_rep : ∀ {ss : List Sl} {vs : List V} {xs : List PyData}, RepAll K hid Hb H vs ss → allD ss = some xs → DqAll K Hb vs xs
  | [], _, xs, .nil, e => by
    cases e
    exact .nil
  | .d x :: ss, _, xs, .cons h _ t, e => by
    unfold allD at e
    cases q : allD ss with
    | none => rw [q] at e; cases e
    | some ys =>
      rw [q] at e
      cases e
      exact .cons h (allD_rep t q)
  | .v _ :: _, _, _, _, e => by cases e
  | .src :: _, _, _, _, e => by cases e
  | .own _ :: _, _, _, _, e => by cases e
  | .ownD _ :: _, _, _, _, e => by cases e
  | .ownX _ :: _, _, _, _, e => by cases e
  | .any :: _, _, _, _, e => by cases e
/-- a new list of one's own -/
theorem own_new {vs : List V} {xs : List PyData} {p : Addr} (st : St0 hid Hb H) (n : H p = none) (h : DqAll K Hb vs xs) : Step hid Hb H Hb (upd H p (.lst vs)) ∧ RepSl K hid Hb (upd H p (.lst vs)) (.ref p) (.own xs) ∧ FrSl H (.ref p) (.own xs) := by
  have s := Step.raw (o := .lst vs) st n
  refine ⟨s, ⟨p, vs, rfl, upd_same, h, none_back (fun o e => st.ex p o e) n, fun z => ?_⟩, fun q e => ?_⟩
  · obtain ⟨o, e⟩ := st.ok.there z
    rw [n] at e; cases e
  · cases e; exact n
theorem tup_new {vs : List V} {xs : List PyData} {p : Addr} (st : St0 hid Hb H) (n : H p = none) (h : DqAll K Hb vs xs) : Step hid Hb H (upd Hb p (.tup vs)) (upd H p (.tup vs)) ∧ Dq K (upd Hb p (.tup vs)) (.ref p) (.tuple xs) := by
  have s := Step.laid (o := .tup vs) st n
  exact ⟨s, .tup (SqT.of upd_same) (DqAll.mono s.ex h)⟩
variable {ta : TA} {fa : DTA}
theorem sd_tup (h : SdA K F ta fa) : SdE K F (tTup ta) (dTupE fa) := by
  intro Hb H σ env Q k rp q c
  refine h Hb H σ env _ _ rp q fun vs Hb1 H1 ss st1 rs1 q1 => ?_
  obtain ⟨xs, e, hl, q1⟩ := q1
  have hd := allD_rep rs1 e
  refine ⟨by rw [DqAll.length hd]; exact hl, fun p hp => ?_⟩
  obtain ⟨s2, r2⟩ := tup_new (K := K) st1.st hp hd
  exact c _ _ _ (.d (.tuple xs)) (st1.trans s2) r2 trivial q1
theorem sd_lst (h : SdA K F ta fa) : SdE K F (tLst ta) (dLstE fa) := by
  intro Hb H σ env Q k rp q c
  refine h Hb H σ env _ _ rp q fun vs Hb1 H1 ss st1 rs1 q1 => ?_
  obtain ⟨xs, e, hl, q1⟩ := q1
  have hd := allD_rep rs1 e
  refine ⟨by rw [DqAll.length hd]; exact hl, fun p hp => ?_⟩
  obtain ⟨s2, r2, f2⟩ := own_new (K := K) st1.st hp hd
  exact c _ _ _ (.own xs) (st1.trans s2) r2 (FrSl.back st1 f2) q1
end

/-! ### comprehensions -/
def wipeE (env : EV) : List Nat → EV
  | [] => env
  | v :: vs => (wipeE env vs).set v none
def dLcGo (g : DTG) (tt : DTT) (te : DTE) (env : EV) : List PyData → List PyData → (List PyData → Prop) → Prop
  | [], acc, Q => Q acc
  | y :: ys, acc, Q => g (.d y) env fun env1 => tt env1 fun b => if b = true then te env1 fun s => ∃ x, s.fz = .d x ∧ dLcGo g tt te env ys (acc ++ [x]) Q else dLcGo g tt te env ys acc Q
def dLc (ti : DTI) (g : DTG) (tt : DTT) (te : DTE) (js : List Nat) : DTE := fun env Q => ti env fun ys => ys.length ≤ sizeLine ∧ dLcGo g tt te (wipeE env js) ys [] fun zs => Q (.own zs)
section
variable {K : PySem.W.Frag} {F : Fr} {Hb H : Hp} {σ : L2.St} {env : EV}
theorem Rep.wipe (r : Rep K F Hb H σ env) : ∀ js : List Nat, Rep K F Hb H (L2.wipe σ js) (wipeE env js)
  | [] => r
  | j :: js => (Rep.wipe r js).forget j none
theorem wipe_get (σ : L2.St) : ∀ (js : List Nat) (i : Nat), (L2.wipe σ js)[i]? = if i ∈ js ∧ i < σ.length then some none else σ[i]?
  | [], i => by simp [L2.wipe]
  | j :: js, i => by
    show ((L2.wipe σ js).set j none)[i]? = _
    rw [List.getElem?_set, wipe_get σ js i]
    have hl := wipe_length σ js
    by_cases hj : j = i
    · subst hj
      by_cases h : j < σ.length
      · simp [hl, h]
      · simp [hl, h]
    · have hij : ¬ i = j := fun e => hj e.symm
      simp [hj, hij]
theorem wipe_off {σ σ' : L2.St} {js : List Nat} (o : Off js σ σ') : L2.wipe σ' js = L2.wipe σ js := by
  apply List.ext_getElem?
  intro i
  rw [wipe_get, wipe_get, o.1]
  by_cases hi : i ∈ js
  · by_cases h : i < σ.length
    · simp [hi, h]
    · have h1 : σ'[i]? = none := List.getElem?_eq_none (by rw [o.1]; omega)
      have h2 : σ[i]? = none := List.getElem?_eq_none (by omega)
      simp [h, h1, h2]
  · simp [hi, o.2 i hi]
theorem wipe_idem (σ : L2.St) (js : List Nat) : L2.wipe (L2.wipe σ js) js = L2.wipe σ js := by
  apply List.ext_getElem?
  intro i
  rw [wipe_get, wipe_get, wipe_length]
  split
  · rename_i h
    simp [h]
  · rename_i h
    simp [h]
theorem sd_lc {js : List Nat} {wi : TI} {g : TG} {tt : TT} {te : TE} {fi : DTI} {fg : DTG} {ft : DTT} {fe : DTE} (hi : SdI K F wi fi) (hg : SdG K F js g fg) (ht : SdT K F tt ft) (he : SdE K F te fe) :
    SdE K F (tLc wi g tt te js) (dLc fi fg ft fe js) := by
  intro Hb H σ env Q k r q c
  refine hi Hb H σ env _ _ r q fun J Hb1 H1 ys st1 gv q1 => ?_
  obtain ⟨hlen, q1⟩ := q1
  obtain ⟨G, Y, w, hG, hY⟩ := gv.ex
  intro D hD
  have r1 := r.on st1
  have nD : ¬ F.hid.has D := fun z => by obtain ⟨o, e⟩ := st1.st.ok.there z; rw [hD] at e; cases e
  have s0 := Step.raw (o := .lst []) st1.st hD
  have bD : Hb1 D = none := none_back (fun o e => st1.st.ex D o e) hD
  -- what holds between the turns: the new list's items so far
  refine lc_it w (fun i H' => ∃ Hb' acc xs, Step F.hid Hb1 H1 Hb' H' ∧ H' D = some (.lst acc) ∧ Hb' D = none ∧ DqAll K Hb' acc xs ∧ acc.length ≤ i ∧ dLcGo fg ft fe (wipeE env js) (ys.drop i) xs fun zs => Q (.own zs)) ⟨Hb1, [], [], s0, upd_same, bD, .nil, Nat.zero_le _, q1⟩ ?_ ?_ ?_
  · rintro i H' _ ⟨Hb', acc, xs, s, _⟩
    exact hG H' (s.ex.trans s.st.ex)
  · rintro i x H' H2 hlt ⟨Hb', acc, xs, s, hA, hN, hq, hl, q'⟩ y
    obtain ⟨Hb2, d, hd, st2, hx⟩ := hY i Hb' H' x H2 hlt s.st s.ex y
    have e : ys.drop i = d :: ys.drop (i + 1) := by
      obtain ⟨h1, h2⟩ := List.getElem?_eq_some_iff.mp hd
      rw [List.drop_eq_getElem_cons h1, h2]
    rw [e] at q'
    have keepD : ∀ {Ha Hc Hbb Hbc : Hp}, Step F.hid Hbb Ha Hbc Hc → Ha D = some (.lst acc) → Hbb D = none → Hc D = some (.lst acc) ∧ Hbc D = none := fun {Ha Hc Hbb Hbc} t h1 h2 => by
      refine ⟨t.keep D _ h1 nD, ?_⟩
      cases z : Hbc D with
      | none => rfl
      | some o =>
        have := t.new D o z h2
        rw [h1] at this; cases this
    obtain ⟨hA2, hN2⟩ := keepD st2 hA hN
    have rw2 : Rep K F Hb2 H2 (L2.wipe σ js) (wipeE env js) := (r1.on (s.trans st2)).wipe js
    refine hg Hb2 H2 _ _ x (.d d) _ _ rw2 hx rfl q' fun σ3 env3 o3 r3 q3 => ⟨?_, ?_⟩
    · rw [wipe_off o3, wipe_idem]
    · refine ht Hb2 H2 σ3 env3 _ _ r3 q3 fun b Hb3 H3 st3 q4 => ?_
      obtain ⟨hA3, hN3⟩ := keepD st3 hA2 hN2
      cases b with
      | false =>
        have q4 : dLcGo fg ft fe (wipeE env js) (ys.drop (i + 1)) xs fun zs => Q (.own zs) := q4
        exact ⟨Hb3, acc, xs, (s.trans st2).trans st3, hA3, hN3, DqAll.mono st3.ex (DqAll.mono st2.ex hq), by omega, q4⟩
      | true =>
        have q4 : fe env3 fun s => ∃ x, s.fz = .d x ∧ dLcGo fg ft fe (wipeE env js) (ys.drop (i + 1)) (xs ++ [x]) fun zs => Q (.own zs) := q4
        show te σ3 H3 _
        refine he.go (Q := fun s => ∃ x, s = .d x ∧ dLcGo fg ft fe (wipeE env js) (ys.drop (i + 1)) (xs ++ [x]) fun zs => Q (.own zs)) (r3.on st3) q4 fun v Hb4 H4 u st4 ru _ q5 => ?_
        obtain ⟨z, e5, q5⟩ := q5
        subst e5
        obtain ⟨hA4, hN4⟩ := keepD st4 hA3 hN3
        have all := ((s.trans st2).trans st3).trans st4
        refine ⟨acc, hA4, ?_, Hb4, acc ++ [v], xs ++ [z], ⟨⟨fun b o e => ?_, all.st.ok.keeps fun b o hb e => ?_, all.st.out⟩, all.ex, all.new, fun b o e hb => ?_⟩, upd_same, hN4, DqAll.append (DqAll.mono ((st2.trans st3).trans st4).ex hq) (.cons ru .nil), by simp; omega, q5⟩
        · omega
        · rw [upd_ne (fun z : b = D => by rw [z, hN4] at e; cases e)]; exact all.st.ex b o e
        · rw [upd_ne (fun z : b = D => nD (z ▸ hb))]; exact e
        · rw [upd_ne (ne_of_none e hD)]; exact all.keep b o e hb
  · rintro H' ⟨Hb', acc, xs, s, hA, hN, hq, hl, q'⟩
    rw [List.drop_length] at q'
    refine c (.ref D) Hb' H' (.own xs) (st1.trans s) ⟨D, acc, rfl, hA, hq, hN, nD⟩ (fun p e => ?_) q'
    cases e
    exact st1.back hD
end

/-! ### own lists in slots -/
section
variable {K : PySem.W.Frag} {F : Fr} {Hb H : Hp} {σ : L2.St} {env : EV}
/-- an own object as everybody's -/
def frzAt (env : EV) (i : Nat) : EV := match env[i]? with
  | some (some (.own xs)) => env.set i (some (.d (.list xs)))
  | some (some (.ownD ds)) => env.set i (some (.d (.dict ds)))
  | _ => env
/-- but for lists and dicts all of H stands in H' -/
def Butl (H H' : Hp) : Prop := ∀ b o, H b = some o → ((∃ vs, o = .lst vs) ∨ ∃ kvs, o = .dK kvs) ∨ H' b = some o
/-- what is new is lists and dicts -/
def NewL (H H' : Hp) : Prop := ∀ b o, H' b = some o → H b = none → (∃ vs, o = .lst vs) ∨ ∃ kvs, o = .dK kvs
theorem Rep.frz1 (r : Rep K F Hb H σ env) {i : Nat} {s : Sl} (e : env[i]? = some (some s)) (hs : s.isOwn) (hx : ∀ T, s ≠ .ownX T := by exact fun _ h => nomatch h) : ∃ (p : Addr) (o : HO), σ[i]? = some (some (.ref p)) ∧ Hb p = none ∧ ((∃ vs, o = .lst vs) ∨ ∃ kvs, o = .dK kvs) ∧ Rep K F (upd Hb p o) H σ (env.set i (some s.fz)) := by
  obtain ⟨v, e1, rs, fr⟩ := r.sl i _ e
  obtain ⟨p, o, ev, hH, hB, hh, ho, hd⟩ : ∃ (p : Addr) (o : HO), v = .ref p ∧ H p = some o ∧ Hb p = none ∧ ¬ F.hid.has p ∧ ((∃ vs, o = .lst vs) ∨ ∃ kvs, o = .dK kvs) ∧ ∀ Hc : Hp, Same Hb Hc → Hc p = some o → RepSl K F.hid Hc H (.ref p) s.fz := by
    cases s with
    | own xs =>
      obtain ⟨p, vs, e2, e3, e4, e5, e6⟩ := rs
      exact ⟨p, _, e2, e3, e5, e6, .inl ⟨_, rfl⟩, fun Hc ex hc => Dq.lst hc (DqAll.mono ex e4)⟩
    | ownD xs =>
      obtain ⟨p, vs, e2, e3, e4, e5, e6⟩ := rs
      exact ⟨p, _, e2, e3, e5, e6, .inr ⟨_, rfl⟩, fun Hc ex hc => Dq.dic hc e4.1 (DqAll.mono ex e4.2)⟩
    | ownX T => exact (hx T rfl).elim
    | any => exact hs.elim
    | d x => exact hs.elim
    | v x => exact hs.elim
    | src => exact hs.elim
  subst ev
  have frp : F.H0 p = none := by
    cases s with
    | own xs => exact fr p rfl
    | ownD xs => exact fr p rfl
    | ownX T => exact fr p rfl
    | any => exact hs.elim
    | d x => exact hs.elim
    | v x => exact hs.elim
    | src => exact hs.elim
  have hi : i < env.length := (List.getElem?_eq_some_iff.mp e).1
  have ex : Same Hb (upd Hb p o) := fun b u e => by rw [upd_ne (ne_of_none e hB)]; exact e
  have notO : ∀ t : Sl, ¬ (t.fz).isOwn := fun t h => by cases t <;> exact h.elim
  refine ⟨p, o, e1, hB, ho, ⟨⟨⟨fun b u e => ?_, r.st.ok, fun b hb => ?_⟩, r.step.ex.trans ex, fun b u e n => ?_, r.step.keep⟩, r.mid.trans ex, by simpa using r.len, fun j u ej => ?_, fun j k t1 t2 q hjk ej ek o1 o2 sj sk => ?_⟩⟩
  · by_cases q : b = p
    · subst q; rw [upd_same] at e; cases e; exact hH
    · rw [upd_ne q] at e; exact r.st.ex b u e
  · rw [upd_ne (fun q : b = p => hh (q ▸ hb))]; exact r.st.out b hb
  · by_cases q : b = p
    · rw [q]; exact frp
    · rw [upd_ne q] at e; exact r.step.new b u e n
  · by_cases hij : i = j
    · subst hij
      rw [List.getElem?_set_self hi] at ej
      cases ej
      exact ⟨.ref p, e1, hd _ ex upd_same, fr_fz s⟩
    · rw [List.getElem?_set_ne hij] at ej
      obtain ⟨w, w1, w2, w3⟩ := r.sl j u ej
      refine ⟨w, w1, ?_, w3⟩
      cases u with
      | d x => exact Dq.mono ex w2
      | v y => exact w2
      | src => exact w2
      | own ys =>
        obtain ⟨q, us, q1, q2, q3, q4, q5⟩ := w2
        subst q1
        refine ⟨q, us, rfl, q2, DqAll.mono ex q3, ?_, q5⟩
        rw [upd_ne (fun z : q = p => r.dis i j s (.own ys) p hij e ej hs trivial e1 (z ▸ w1))]
        exact q4
      | ownD ys =>
        obtain ⟨q, us, q1, q2, q3, q4, q5⟩ := w2
        subst q1
        refine ⟨q, us, rfl, q2, ⟨q3.1, DqAll.mono ex q3.2⟩, ?_, q5⟩
        rw [upd_ne (fun z : q = p => r.dis i j s (.ownD ys) p hij e ej hs trivial e1 (z ▸ w1))]
        exact q4
      | ownX T =>
        obtain ⟨q, us, q1, q2, q3, q4, q5⟩ := w2
        subst q1
        refine ⟨q, us, rfl, q2, fun Hc x => q3 Hc (ex.trans x), ?_, q5⟩
        rw [upd_ne (fun z : q = p => r.dis i j s (.ownX T) p hij e ej hs trivial e1 (z ▸ w1))]
        exact q4
      | any => exact w2
  · have look : ∀ (m : Nat) (z : Sl), (env.set i (some s.fz))[m]? = some (some z) → z.isOwn → env[m]? = some (some z) := fun m z em oz => by
      by_cases him : i = m
      · subst him; rw [List.getElem?_set_self hi] at em; cases em; exact (notO s oz).elim
      · rw [List.getElem?_set_ne him] at em; exact em
    exact r.dis j k t1 t2 q hjk (look _ _ ej o1) (look _ _ ek o2) o1 o2 sj sk
theorem Rep.frz2 (r : Rep K F Hb H σ env) (i : Nat) : ∃ Hb1, Same Hb Hb1 ∧ NewL Hb Hb1 ∧ Rep K F Hb1 H σ (frzAt env i) := by
  have none_ : frzAt env i = env → ∃ Hb1, Same Hb Hb1 ∧ NewL Hb Hb1 ∧ Rep K F Hb1 H σ (frzAt env i) := fun h => by
    rw [h]
    exact ⟨Hb, Same.refl _, fun b o e n => (by rw [n] at e; cases e), r⟩
  have some_ : ∀ s : Sl, env[i]? = some (some s) → s.isOwn → (∀ T, s ≠ .ownX T) → frzAt env i = env.set i (some s.fz) → ∃ Hb1, Same Hb Hb1 ∧ NewL Hb Hb1 ∧ Rep K F Hb1 H σ (frzAt env i) := fun s e hs hx h => by
    rw [h]
    obtain ⟨p, o, _, hB, ho, r1⟩ := r.frz1 e hs hx
    refine ⟨_, fun b u e => by rw [upd_ne (ne_of_none e hB)]; exact e, fun b u e n => ?_, r1⟩
    by_cases q : b = p
    · subst q; rw [upd_same] at e; cases e; exact ho
    · rw [upd_ne q, n] at e; cases e
  cases e : env[i]? with
  | none => exact none_ (by unfold frzAt; rw [e])
  | some m =>
    cases m with
    | none => exact none_ (by unfold frzAt; rw [e])
    | some s =>
      cases s with
      | own xs => exact some_ _ e trivial (fun _ h => nomatch h) (by unfold frzAt; rw [e]; rfl)
      | ownD xs => exact some_ _ e trivial (fun _ h => nomatch h) (by unfold frzAt; rw [e]; rfl)
      | ownX T => exact none_ (by unfold frzAt; rw [e])
      | any => exact none_ (by unfold frzAt; rw [e])
      | d x => exact none_ (by unfold frzAt; rw [e])
      | v x => exact none_ (by unfold frzAt; rw [e])
      | src => exact none_ (by unfold frzAt; rw [e])
theorem Rep.frz (r : Rep K F Hb H σ env) (i : Nat) : ∃ Hb1, Same Hb Hb1 ∧ Rep K F Hb1 H σ (frzAt env i) := by
  obtain ⟨Hb1, a, _, b⟩ := r.frz2 i
  exact ⟨Hb1, a, b⟩
def frzL (env : EV) : List Nat → EV
  | [] => env
  | j :: js => frzL (frzAt env j) js
theorem Rep.frzL : ∀ (js : List Nat) {Hb : Hp} {env : EV}, Rep K F Hb H σ env → ∃ Hb1, Same Hb Hb1 ∧ Rep K F Hb1 H σ (Pu.frzL env js)
  | [], Hb, env, r => ⟨Hb, Same.refl _, r⟩
  | j :: js, Hb, env, r => by
    obtain ⟨Hb1, e1, r1⟩ := r.frz j
    obtain ⟨Hb2, e2, r2⟩ := Rep.frzL js r1
    exact ⟨Hb2, e1.trans e2, r2⟩
/-- from here on everybody's -/
def dFrz (js : List Nat) (t : DTS) : DTS := fun E env => t E (frzL env js)
theorem sd_frz (js : List Nat) {ts : TS} {t : DTS} (h : SdS K F ts t) : SdS K F ts (dFrz js t) := by
  intro Hb H σ env D E r q l
  obtain ⟨Hb1, e1, r1⟩ := r.frzL js
  exact h Hb1 H σ _ D E r1 q (l.on e1)
def flatD : PyData → Bool
  | .none => true
  | .bool _ => true
  | .int _ => true
  | .str _ => true
  | _ => false
def Sl.flat : Sl → Prop
  | .d x => flatD x = true
  | .v _ => True
  | .src => True
  | .own xs => xs.all flatD = true
  | .ownD ds => (ds.map Prod.snd).all flatD = true
  | .ownX _ => False
  | .any => True
theorem Dq.flat {H' : Hp} : ∀ {d : PyData} {v : V}, flatD d = true → Dq K H v d → Dq K H' v d
  | .none, _, _, .non => .non
  | .bool b, _, _, .bl _ => .bl b
  | .int i, _, _, .int _ => .int i
  | .str x, _, _, .str _ => .str x
  | .list _, _, h, _ => by cases h
  | .tuple _, _, h, _ => by cases h
  | .dict _, _, h, _ => by cases h
theorem DqAll.flat {H' : Hp} : ∀ {ds : List PyData} {vs : List V}, ds.all flatD = true → DqAll K H vs ds → DqAll K H' vs ds
  | [], _, _, .nil => .nil
  | _ :: _, _, h, .cons a t => by
    simp only [List.all_cons, Bool.and_eq_true] at h
    exact .cons (Dq.flat h.1 a) (DqAll.flat h.2 t)
theorem back_to {Hb1 Hb2 H' : Hp} (r : Rep K F Hb H σ env) (ex : Same Hb Hb1) (s : Step F.hid Hb1 H Hb2 H') : Step F.hid Hb H Hb H' :=
  ⟨⟨ex.trans (s.ex.trans s.st.ex), s.st.ok, r.st.out⟩, Same.refl _, fun b o e n => (by rw [n] at e; cases e), s.keep⟩
/-- own lists read within an expression whose value is flat -/
def dPeek (js : List Nat) (t : DTE) : DTE := fun env Q => t (frzL env js) fun s => s.flat ∧ Q s
theorem sd_peek (js : List Nat) {te : TE} {t : DTE} (h : SdE K F te t) : SdE K F te (dPeek js t) := by
  intro Hb H σ env Q k r q c
  obtain ⟨Hb1, e1, r1⟩ := r.frzL js
  refine h Hb1 H σ _ _ k r1 q fun v Hb2 H2 s st rs f q => ?_
  obtain ⟨fl, q⟩ := q
  refine c v Hb H2 s (back_to r e1 st) ?_ f q
  cases s with
  | d x => exact Dq.flat fl rs
  | v y => exact rs
  | src => exact rs
  | own xs =>
    obtain ⟨p, vs, e2, e3, e4, e5, e6⟩ := rs
    exact ⟨p, vs, e2, e3, DqAll.flat fl e4, none_back (fun o e => st.ex p o (e1 p o e)) e5, e6⟩
  | ownD ds =>
    obtain ⟨p, vs, e2, e3, e4, e5, e6⟩ := rs
    exact ⟨p, vs, e2, e3, ⟨e4.1, DqAll.flat fl e4.2⟩, none_back (fun o e => st.ex p o (e1 p o e)) e5, e6⟩
  | ownX T => exact fl.elim
  | any => trivial
def dPeekT (js : List Nat) (t : DTT) : DTT := fun env Q => t (frzL env js) Q
theorem sd_peekT (js : List Nat) {te : TT} {t : DTT} (h : SdT K F te t) : SdT K F te (dPeekT js t) := by
  intro Hb H σ env Q k r q c
  obtain ⟨Hb1, e1, r1⟩ := r.frzL js
  exact h Hb1 H σ _ Q k r1 q fun b Hb2 H2 st q => c b Hb H2 (back_to r e1 st) q
/-- one's own object, changed -/
theorem Rep.put1 (r : Rep K F Hb H σ env) {i : Nat} {s s' : Sl} {p : Addr} {o o' : HO} (e : env[i]? = some (some s)) (hs : s.isOwn) (hσ : σ[i]? = some (some (.ref p))) (hH : H p = some o) (hB : Hb p = none) (hh : ¬ F.hid.has p)
    (hs' : s'.isOwn) (rep : RepSl K F.hid Hb (upd H p o') (.ref p) s') : Rep K F Hb (upd H p o') σ (env.set i (some s')) := by
  have hi : i < env.length := (List.getElem?_eq_some_iff.mp e).1
  obtain ⟨v, e1, _, fr⟩ := r.sl i _ e
  rw [hσ] at e1
  cases e1
  have frp : F.H0 p = none := by
    cases s with
    | own xs => exact fr p rfl
    | ownD xs => exact fr p rfl
    | ownX T => exact fr p rfl
    | any => exact hs.elim
    | d x => exact hs.elim
    | v x => exact hs.elim
    | src => exact hs.elim
  have ne : ∀ {b : Addr} {u : HO}, Hb b = some u → b ≠ p := fun e z => by rw [z, hB] at e; cases e
  refine ⟨⟨⟨fun b u e => ?_, r.st.ok.keeps fun b u hb e => ?_, r.st.out⟩, r.step.ex, r.step.new, fun b u e hb => ?_⟩, r.mid, by simpa using r.len, fun j u ej => ?_, fun j m t1 t2 q hjm ej em o1 o2 sj sm => ?_⟩
  · rw [upd_ne (ne e)]; exact r.st.ex b u e
  · rw [upd_ne (fun z : b = p => hh (z ▸ hb))]; exact e
  · rw [upd_ne (fun z : b = p => by rw [z, frp] at e; cases e)]; exact r.step.keep b u e hb
  · by_cases hij : i = j
    · subst hij
      rw [List.getElem?_set_self hi] at ej
      cases ej
      refine ⟨.ref p, hσ, rep, ?_⟩
      cases s' with
      | own xs => exact fun q eq => by cases eq; exact frp
      | ownD xs => exact fun q eq => by cases eq; exact frp
      | ownX T => exact fun q eq => by cases eq; exact frp
      | any => exact hs'.elim
      | d x => exact hs'.elim
      | v x => exact hs'.elim
      | src => exact hs'.elim
    · rw [List.getElem?_set_ne hij] at ej
      obtain ⟨w, w1, w2, w3⟩ := r.sl j u ej
      refine ⟨w, w1, ?_, w3⟩
      cases u with
      | d x => exact w2
      | v y => exact w2
      | src => exact w2
      | own ys =>
        obtain ⟨q, us, q1, q2, q3⟩ := w2
        subst q1
        exact ⟨q, us, rfl, by rw [upd_ne (fun z : q = p => r.dis i j s (.own ys) p hij e ej hs trivial hσ (z ▸ w1))]; exact q2, q3⟩
      | ownD ys =>
        obtain ⟨q, us, q1, q2, q3⟩ := w2
        subst q1
        exact ⟨q, us, rfl, by rw [upd_ne (fun z : q = p => r.dis i j s (.ownD ys) p hij e ej hs trivial hσ (z ▸ w1))]; exact q2, q3⟩
      | ownX T =>
        obtain ⟨q, us, q1, q2, q3⟩ := w2
        subst q1
        exact ⟨q, us, rfl, by rw [upd_ne (fun z : q = p => r.dis i j s (.ownX T) p hij e ej hs trivial hσ (z ▸ w1))]; exact q2, q3⟩
      | any => exact w2
  · have look : ∀ (m : Nat) (z : Sl), (env.set i (some s'))[m]? = some (some z) → z.isOwn → ∃ z', env[m]? = some (some z') ∧ z'.isOwn := fun m z em oz => by
      by_cases him : i = m
      · subst him; exact ⟨_, e, hs⟩
      · rw [List.getElem?_set_ne him] at em; exact ⟨_, em, oz⟩
    obtain ⟨z1, w1, x1⟩ := look _ _ ej o1
    obtain ⟨z2, w2, x2⟩ := look _ _ em o2
    exact r.dis j m z1 z2 q hjm w1 w2 x1 x2 sj sm
/-- own.append(e) -/
def dApp (i : Nat) (t : DTE) : DTS := fun E env => match env[i]? with
  | some (some (.own xs)) => t env fun s => ∃ x, s.fz = .d x ∧ xs.length < sizeLine ∧ E.nx (env.set i (some (.own (xs ++ [x]))))
  | _ => False
theorem sd_app (i : Nat) {te : TE} {t : DTE} (h : SdE K F te t) : SdS K F (tDrop (tBM K "list" rAppend (tVar i) (tCons te tNil))) (dApp i t) := by
  intro Hb H σ env D E r q l
  unfold dApp at q
  split at q
  · rename_i xs e
    obtain ⟨v, e1, rs, fr⟩ := r.sl i _ e
    obtain ⟨p, vs, e2, e3, e4, e5, e6⟩ := rs
    subst e2
    refine ⟨_, e1, .inl ⟨rfl, _, SqL.of e3⟩, ?_⟩
    refine h.go (Q := fun s => ∃ x, s = .d x ∧ xs.length < sizeLine ∧ E.nx (env.set i (some (.own (xs ++ [x]))))) r q fun y Hb1 H1 s st1 rs1 _ q1 => ?_
    obtain ⟨x, ex, hl, q1⟩ := q1
    subst ex
    have hp : H1 p = some (.lst vs) := st1.keep p _ e3 e6
    have hbp : Hb1 p = none := by
      cases z : Hb1 p with
      | none => rfl
      | some o =>
        have := st1.new p o z e5
        rw [e3] at this; cases this
    have hvl := DqAll.length e4
    refine ⟨p, vs, y, rfl, rfl, hp, by omega, ?_⟩
    exact l.nx Hb1 _ σ _ st1.ex ((r.on st1).put1 e trivial e1 hp hbp e6 (s' := .own (xs ++ [x])) trivial ⟨p, vs ++ [y], rfl, upd_same, DqAll.append (DqAll.mono st1.ex e4) (.cons rs1 .nil), hbp, e6⟩) q1
  · exact q.elim
/-- an own list handed back -/
def dRetOwn (i : Nat) : DTS := fun E env => match env[i]? with
  | some (some s) => E.rt s
  | _ => False
theorem sd_retOwn (i : Nat) : SdS K F (tRet (tVar i)) (dRetOwn i) := by
  intro Hb H σ env D E r q l
  unfold dRetOwn at q
  split at q
  · rename_i s e
    obtain ⟨v, e1, rs, fr⟩ := r.sl i _ e
    exact ⟨v, e1, l.rt v Hb H s (Same.refl _) r.step rs fr q⟩
  · exact q.elim
end
end Pu

end

section
/-! PuG: promises of defs that are called where no repr runs (the guards are empty). -/
namespace Pu
open PySem L2 PyProof.Rows

structure RoomG (k : Nat) (A : Around) : Prop where
  r : Room k A
  guards : A.guards = some []
theorem RoomG.mono {j k : Nat} {A : Around} (r : RoomG k A) (h : j ≤ k) : RoomG j A := ⟨r.r.mono h, r.guards⟩
theorem RoomG.units {k : Nat} {A : Around} (r : RoomG k A) : A.units + 64 < cLine := r.r.units
structure FnG (P : Program) (w : World) (K : PySem.W.Frag) (mg : Str → Option Value) (base : Heap) (CX : CXT) (k : Nat) (f : Addr) (fd : FuncData) (ps : List Str) (sp : Sp) : Prop where
  many : ∀ vs H Q E, sp vs H Q E → vs.length = ps.length
  goes : ∀ (B : Around) (above : List Env) (s : Shared) (H : Hp) (as : Args) (us : List Value) (vs : List V) (Q : VK) (E : XK), RoomG k B → Env0 P w K mg base B above s H → BindsTo s fd as (ps.zip us) → Vals vs us →
    sp vs H Q E → codeAny (model P w) B (.call (.ref f) as) (CR CX above P w H s Q E) s
theorem FnG.of {P : Program} {w : World} {K : PySem.W.Frag} {mg : Str → Option Value} {base : Heap} {CX : CXT} {k : Nat} {f : Addr} {fd : FuncData} {ps : List Str} {sp : Sp} (F : FnOk P w K mg base CX k f fd ps sp) : FnG P w K mg base CX k f fd ps sp :=
  ⟨F.len, fun B above s H as us vs Q E hr => F.run B above s H as us vs Q E hr.r⟩
section
variable {X : Cx} {CX : CXT} {k : Nat} {f : Addr} {fd : FuncData} {ps : List Str} {sp : Sp} {E : XK} {x : Str} {p pos : Pos} {e : Expr} {es : List Expr} {t : TA}
theorem goes_fn {pins : List (Addr × Obj)} {σ : L2.St} {H : Hp} {s : Shared} {Q : VK} {us : List Value} {vs : List V} (F : FnG X.prog X.w X.K X.mg X.base CX k f fd ps sp) (room : RoomG k X.A) (bi : Binds X.K fd ps []) (out : Passes CX X E)
    (I : Inv X pins σ H s) (rel : Vals vs us) (q : sp vs H Q E) : wpAny (model X.prog X.w) X.A (call (.ref f) us) (EP X pins σ Q) X.xe s := by
  have many : us.length = ps.length := rel.length ▸ F.many _ _ _ _ q
  have bound := bi s us I.kIn (by rw [List.append_nil]; exact many)
  rw [List.append_nil] at bound
  have go := F.goes X.A X.stack s H ⟨us, []⟩ us vs Q E room I.env0 bound rel q
  refine wpAny_call (codeAny_mono go fun r s2 done => ?_)
  match r, done with
  | .error ex, done => exact out pins σ H s ex s2 I done
  | .ok (.ret u), done => exact I.after done
  | .ok .next, done => exact done.elim
  | .ok .brk, done => exact done.elim
  | .ok .cont, done => exact done.elim
theorem pe_callG (F : FnG X.prog X.w X.K X.mg X.base CX k f fd ps sp) (room : RoomG k X.A) (gl : Gl X x) (at_ : X.mg x = some (.ref f)) (kp : PySem.W.keepIn X.K (.ref f) = true) (bi : Binds X.K fd ps []) (out : Passes CX X E) (args : PA X (e :: es) t)
    (hdb : (x == ("__debug__" : Str)) = false := by decide) (hs : starEach (e :: es) X.env = (false, eval e X.env) :: starEach es X.env := by rfl) (plain : (backTo pos (starEach es X.env)).any (·.1) = false := by rfl) :
    PE X (.Call (.Name x p) (e :: es) [] pos) (fun σ H Q => t σ H fun vs H1 => sp vs H1 Q E) := by
  constructor
  intro pins s σ H Q I q
  refine wpAny_Call_Name_kw (ld_glob I gl at_ (PySem.W.callWith_K (h₀ := X.base) I.ok.mod.kin kp ?_ hs plain) hdb)
  refine thn (args.run pos pins s σ H _ I q) fun us s1 ⟨vs, H1, I1, rel, q1⟩ => ?_
  exact ⟨I1.kIn, goes_fn F room bi out I1 rel q1⟩
end
section
variable {P : Program} {w : World} {K : PySem.W.Frag} {mg : Str → Option Value} {base : Heap}
/-- a def's body keeps its promise -/
theorem goes_of {CX : CXT} {k : Nat} {x qual : Str} {st : Stmt} {f : Addr} {fd : FuncData} {N ps : List Str} {sp : Sp} (F : Fun K x qual st f fd) (S : FnScope N ps (defScope st)) (many : ∀ vs H Q E, sp vs H Q E → vs.length = ps.length)
    (body : ∀ (cdv : Value) (B : Around) (above : List Env) (s : Shared) (H : Hp) (vs : List V) (Q : VK) (E : XK), RoomG k (B.deeper (envOfC qual (defScope st) s.heap.objs.size f cdv)) → sp vs H Q E →
      ∃ t, PSs (cxOf CX P w K mg base N qual (defScope st) f cdv B above s H E) (defBody st) t ∧ t { nx := fun _ H' => Q .non H', rt := Q } (L2.start N vs) H) : FnG P w K mg base CX (k + 1) f fd ps sp := by
  obtain ⟨oc, od, kV, doc, pm, an, cdv, ct, osl, rfl, lk, code⟩ := F.ex
  refine ⟨many, fun B above s H as us vs Q E room e0 bi rel q => ?_⟩
  have cnt : vs.length = ps.length := many _ _ _ _ q
  have old : ∀ b o, base.get? b = some o → s.heap.get? b = some o := fun b o e => (e0.bs b o e).1
  have inK : K.In s.heap := e0.mod.kin.keeps old
  have nolim : s.heap.NoLimit := e0.mod.nolimit.keeps old
  have kinds : ∀ y ∈ ps.zip us, (defScope st).names.lookup y.1 = some .local ∨ ((defScope st).names.lookup y.1 = some .cell ∧ ((cellsFrom (s.heap.objs.size + 1) (defScope st).names []).lookup y.1).isSome = true) := by
    intro y hy
    obtain ⟨n, v⟩ := y
    cases S.par n (List.of_mem_zip hy).1 with
    | inl z => exact .inl z
    | inr z => exact .inr ⟨z, PySem.W.cellsFrom_some _ _ _ (.inl z)⟩
  refine codeAny_call_function room.r.depth (inK _ _ lk) rfl S.co S.gen rfl (PySem.W.codeRec_of inK code) (bi _ _ _ _ (wpAny_newFunctionEnv_cells S.kind kinds fun env he s1 made => ?_))
  cases he
  refine ⟨nolim.keeps made.toInCall.keep, codeAny_func ?_⟩
  have room' : RoomG k (B.deeper (envOfC qual (defScope st) s.heap.objs.size f cdv)) := ⟨room.r.deeper _, room.guards⟩
  obtain ⟨t, walk, q'⟩ := body cdv B above s H vs Q E room' q
  have I := inv_start (CX := CX) (E := E) S room.r.hd e0 cnt rel made
  refine wpAny_mono (walk.run [] s1 (L2.start N vs) H _ I q') (fun fl s' done => ?_) fun ex s' done => done
  match fl, done with
  | .ret u, ⟨v, σ', H', J, rv, qq⟩ => exact ⟨v, H', J.os, J.bare, J.base, J.hok, rv, qq⟩
  | .next, ⟨σ', H', J, qq⟩ => exact ⟨.non, H', J.os, J.bare, J.base, J.hok, rfl, qq⟩
  | .brk, ⟨_, _, _, qq⟩ => exact qq.elim
  | .cont, ⟨_, _, _, qq⟩ => exact qq.elim
/-- no exception leaves -/
theorem goes_of0 {k : Nat} {x qual : Str} {st : Stmt} {f : Addr} {fd : FuncData} {N ps : List Str} {sp : Sp} (F : Fun K x qual st f fd) (S : FnScope N ps (defScope st)) (many : ∀ vs H Q E, sp vs H Q E → vs.length = ps.length)
    (body : ∀ (cdv : Value) (B : Around) (above : List Env) (s : Shared) (H : Hp) (vs : List V) (Q : VK) (E : XK), RoomG k (B.deeper (envOfC qual (defScope st) s.heap.objs.size f cdv)) → sp vs H Q E →
      ∃ t, PSs (cxOf CX0 P w K mg base N qual (defScope st) f cdv B above s H E).nox (defBody st) t ∧ t { nx := fun _ H' => Q .non H', rt := Q } (L2.start N vs) H) : FnG P w K mg base CX0 (k + 1) f fd ps sp :=
  goes_of F S many fun cdv B above s H vs Q E room q => let ⟨t, h1, h2⟩ := body cdv B above s H vs Q E room q; ⟨t, h1.nox, h2⟩
end
/-! ### the end: the law is called at the heap behind the top -/
def scriptObj (vs : List Value) : Obj := { cls := .type "list", data := .seq vs.toArray }
/-- the abstract heap ahead of the law: the script alone, and that only where the module does not hold it -/
def ahead (held : Bool) (a : Addr) (vs : List Value) (ns : List Int) : Hp := fun b => if held = false ∧ b = a then some (.frz (scriptObj vs) (.lst (ns.map V.int))) else none
theorem law_end {P : Program} {w : World} {K : PySem.W.Frag} {mg mb : Str → Option Value} {k : Nat} {fa a : Addr} {fd : FuncData} {x : Str} {sp : Sp} {s : Shared} {vs : List Value} {ns : List Int}
    (inK : K.In s.heap) (glob : s.heap.Ns mainGlobals mg) (blt : s.heap.Ns builtinsNs mb) (boot : ∀ x : Str, x ≠ "__name__" → mb x = bootBuiltins x) (nolim : s.heap.NoLimit) (gens : s.gens = #[]) (ha : s.heap.get? a = some (scriptObj vs)) (isI : IntsAre vs ns)
    (short : ns.length ≤ sizeLine) (room : RoomG k callerA) (F : ∀ base : Heap, K.In base → base.Ns mainGlobals mg → FnG P w K mg base CX0 k fa fd [x] sp) (bi : ∀ (s : Shared) (u : Value), BindsTo s fd ⟨[u], []⟩ [(x, u)])
    (promise : ∀ H : Hp, SqL K H a (ns.map V.int) → sp [.ref a] H (fun v _ => v = .bl true) fun _ _ _ => False) :
    codeAny (model P w) callerA (.call (.ref fa) ⟨[.ref a], []⟩) (fun r s' => r = .ok (.ret (.bool true)) ∧ OldK s.heap s'.heap ∧ s'.os = s.os ∧ AllBare s'.gens) s := by
  have rel : Vals (ns.map V.int) vs := vals_of_ints isI
  have many : vs.length = ns.length := isI.length
  let held := (K.lookup a).isSome
  let H := ahead held a vs ns
  have Hc : ∀ b u, H b = some u → b = a ∧ held = false ∧ u = .frz (scriptObj vs) (.lst (ns.map V.int)) := fun b u e => by
    have e' : (if held = false ∧ b = a then some (HO.frz (scriptObj vs) (.lst (ns.map V.int))) else none) = some u := e
    by_cases c : held = false ∧ b = a
    · rw [if_pos c] at e'; cases e'; exact ⟨c.2, c.1, rfl⟩
    · rw [if_neg c] at e'; cases e'
  have notA : ∀ b, b ≠ a → H b = none := fun b hb => by
    cases e : H b with
    | none => rfl
    | some u => exact absurd (Hc b u e).1 hb
  have seen : SqL K H a (ns.map V.int) := by
    cases e : K.lookup a with
    | none =>
      have hh : held = false := by show (K.lookup a).isSome = false; rw [e]; rfl
      exact .inl (.inr ⟨scriptObj vs, if_pos ⟨hh, rfl⟩⟩)
    | some o =>
      have e2 := inK a o e
      rw [ha] at e2
      cases e2
      exact .inr ⟨scriptObj vs, vs.toArray, _, e, rfl, rfl, rfl, by rw [List.size_toArray, many]; exact short, by simpa using rel⟩
  have hok : HOk P w H s.heap := fun b u e => by
    obtain ⟨h1, _, h3⟩ := Hc b u e
    subst h1 h3
    exact ⟨ha, by rw [List.length_map]; exact short, vs, _, rel, ha⟩
  have down : ∀ {b : Addr} {o : Obj}, s.heap.get? b = some o → H b = none → (hidT s.heap H).get? b = some o := fun e n => hidT_get e n
  have dicts : ∀ {b : Addr} {m : Str → Option Value}, s.heap.Ns b m → (hidT s.heap H).Ns b m := fun {b m} ⟨o, es, ep, e, d, r⟩ => by
    refine ⟨o, es, ep, down e (notA b fun z => ?_), d, r⟩
    subst z
    rw [ha] at e
    cases e
    cases d
  have baseK : K.In (hidT s.heap H) := fun b o e => down (inK b o e) (by
    cases q : H b with
    | none => rfl
    | some u =>
      obtain ⟨h1, h2, _⟩ := Hc b u q
      subst h1
      have h2' : (K.lookup b).isSome = false := h2
      rw [e] at h2'; cases h2')
  have md : Mod K mg (hidT s.heap H) := by
    obtain ⟨mc, c1, c2⟩ := nolim
    exact ⟨baseK, dicts glob, ⟨mb, dicts blt, boot⟩, ⟨mc, dicts c1, c2⟩⟩
  have none_in : ∀ b, b ∉ ([] : List Addr) := fun b z => by cases z
  have e0 : Env0 P w K mg (hidT s.heap H) callerA [] s H := ⟨rfl, md, fun b o e => of_hidT e, Nat.le_of_eq (hidT_size _ _), trivial, fun b hb => absurd hb (none_in b), hok, .of_eq gens⟩
  have go := (F _ baseK (dicts glob)).goes callerA [] s H ⟨[.ref a], []⟩ [.ref a] [.ref a] (fun v _ => v = .bl true) (fun _ _ _ => False) room e0 (bi s (.ref a)) (.cons rfl .nil) (promise H seen)
  refine codeAny_mono go fun r s' done => ?_
  match r, done with
  | .error _, done => exact False.elim done
  | .ok .next, done => exact False.elim done
  | .ok .brk, done => exact False.elim done
  | .ok .cont, done => exact False.elim done
  | .ok (.ret u), ⟨v, H2, os, bare, un, ok2, rv, q⟩ =>
    cases q
    cases rv
    refine ⟨rfl, OldK.of_keep fun b o e => ?_, os, bare⟩
    cases q : H b with
    | none => exact un.keep b o e q (none_in b) (none_in b)
    | some u =>
      obtain ⟨h1, _, h3⟩ := Hc b u q
      subst h1 h3
      obtain ⟨g1, _⟩ := ok2 _ _ (un.frzs _ _ _ q)
      rw [ha] at e
      cases e
      exact g1
theorem walkG {l : PySem.W.OpenLaw} {k : Nat} {q : Program} {loose : List Str} {XP : (Str → Option Value) → Heap → Prop} {YP : World → Heap → Prop} {d : DefRec} {K : Params → PySem.W.Frag} {sp : PySem.W.Frag → Sp} {x : Str}
    (most : l.most = some 63) (nodef : d.params.defaults = []) (room : RoomG k callerA) (hY : ∀ (w : World) (h : Heap), YP w h → (K w.params).In h)
    (F : ∀ (w : World) (mg : Str → Option Value) (fa : Addr) (h : Heap), (K w.params).In h → h.Ns mainGlobals mg → mg d.name = some (.ref fa) →
      ∃ fd : FuncData, (∀ (s : Shared) (u : Value), BindsTo s fd ⟨[u], []⟩ [(x, u)]) ∧ ∀ base : Heap, (K w.params).In base → base.Ns mainGlobals mg → FnG l.prog w (K w.params) mg base CX0 k fa fd [x] (sp (K w.params)))
    (promise : ∀ (K : PySem.W.Frag) (H : Hp) (a : Addr) (ns : List Int), ns.length ≤ 63 → SqL K H a (ns.map V.int) → sp K [.ref a] H (fun v _ => v = .bl true) fun _ _ _ => False) :
    PySem.W.WalkO q loose XP YP l.row.toRowW d [] (fun f vs => PySem.call f vs) := by
  refine Att.attach_call most nodef fun w s0 s mg mb fa o pm cd doc a vs ns G Y ho hd hcd hmg hobj hints hlen hg => ?_
  have inK := hY w _ Y
  obtain ⟨fd, bi, hF⟩ := F w mg fa _ inK G.T.g hmg
  exact law_end inK G.T.g G.T.b G.T.builtins G.T.nolimit hg hobj hints (Nat.le_trans hlen (by decide)) room hF bi fun H hS => promise _ H a ns hlen hS
end Pu

end

section
/-! Pu4: calls of defs; a def's promise by its body. -/
namespace Pu
open PySem L2 PyProof.Rows

/-! ### promises -/
def spD (K : PySem.W.Frag) (n : Nat) (hid : Hid) (m : FN) : Sp := fun vs H Q _ => ∃ Hb ss R, St0 hid Hb H ∧ RepAll K hid Hb H vs ss ∧ ss.length = n ∧ m ss R ∧
  ∀ v Hb' H' s, Step hid Hb H Hb' H' → RepSl K hid Hb' H' v s → FrSl H v s → R s → Q v H'
/-- whatever the hidden objects are -/
def spX (K : PySem.W.Frag) (n : Nat) (m : FN) : Sp := fun vs H Q E => ∃ hid, spD K n hid m vs H Q E
theorem RepAll.length {K : PySem.W.Frag} {hid : Hid} {Hb H : Hp} : ∀ {vs : List V} {ss : List Sl}, RepAll K hid Hb H vs ss → vs.length = ss.length
  | _, _, .nil => rfl
  | _, _, .cons _ _ t => congrArg (· + 1) (RepAll.length t)
theorem RepAll.get {K : PySem.W.Frag} {hid : Hid} {Hb H : Hp} : ∀ {vs : List V} {ss : List Sl} {i : Nat} {s : Sl}, RepAll K hid Hb H vs ss → ss[i]? = some s → ∃ v, vs[i]? = some v ∧ RepSl K hid Hb H v s ∧ s.fz = s
  | _, _, _, _, .nil, e => by simp at e
  | _, _, 0, _, .cons h k _, e => by simp at e; subst e; exact ⟨_, rfl, h, k⟩
  | _, _, i + 1, _, .cons _ _ t, e => by
    obtain ⟨v, h1, h2⟩ := RepAll.get (i := i) t (by simpa using e)
    exact ⟨v, by simpa using h1, h2⟩
def startE (N : List Str) (ss : List Sl) : EV := ss.map some ++ List.replicate (N.length - ss.length) none
theorem rep_start {K : PySem.W.Frag} {hid : Hid} {Hb H : Hp} {N : List Str} {vs : List V} {ss : List Sl} (st : St0 hid Hb H) (r : RepAll K hid Hb H vs ss) : Rep K ⟨hid, Hb, H, Hb⟩ Hb H (start N vs) (startE N ss) := by
  have hl := r.length
  have look : ∀ (i : Nat) (s : Sl), (startE N ss)[i]? = some (some s) → ss[i]? = some s := fun i s e => by
    unfold startE at e
    rw [List.getElem?_append] at e
    split at e
    · rename_i h
      rw [List.getElem?_map] at e
      cases q : ss[i]? with
      | none => rw [q] at e; cases e
      | some u => rw [q] at e; cases e; rfl
    · rw [List.getElem?_replicate] at e
      split at e <;> cases e
  refine ⟨Step.refl st, Same.refl _, by simp [startE, L2.start, hl], fun i s e => ?_, fun i j t1 t2 p hij e _ o1 _ _ => ?_⟩
  · obtain ⟨v, h1, h2, h3⟩ := RepAll.get r (look i s e)
    refine ⟨v, ?_, h2, fr_of h3⟩
    unfold L2.start
    rw [List.getElem?_append_left (by rw [List.length_map]; exact (List.getElem?_eq_some_iff.mp h1).1), List.getElem?_map, h1]
    rfl
  · obtain ⟨v, h1, h2, h3⟩ := RepAll.get r (look i _ e)
    cases t1 with
    | own xs => cases h3
    | ownD xs => cases h3
    | ownX T => cases h3
    | any => exact o1.elim
    | d x => exact o1.elim
    | v x => exact o1.elim
    | src => exact o1.elim
section
variable {P : Program} {w : World} {K : PySem.W.Frag} {mg : Str → Option Value} {base : Heap}
/-- THE RULE for a def: its body as a term of rules, and the plain reading of that term -/
theorem okD {x qual : Str} {st : Stmt} {f : Addr} {fd : FuncData} {N ps : List Str} {k : Nat} {m : FN} (F : Fun K x qual st f fd) (S : FnScope N ps (defScope st))
    (body : ∀ (G : Fr) (cdv : Value) (A : Around) (outer : List Env) (s : Shared) (H : Hp) (E : XK), RoomG k (A.deeper (envOfC qual (defScope st) s.heap.objs.size f cdv)) → ∀ (ss : List Sl) (R : DK), ss.length = ps.length → m ss R →
      ∃ ts t, DSs (cxOf CX0 P w K mg base N qual (defScope st) f cdv A outer s H E).nox G (defBody st) ts t ∧ t { nx := fun _ => R (.d .none), rt := R } (startE N ss)) :
    FnG P w K mg base CX0 (k + 1) f fd ps (spX K ps.length m) := by
  refine goes_of0 F S (fun vs H Q E h => ?_) (fun cdv A outer s H vs Q E hr hsp => ?_)
  · obtain ⟨hid, Hb, ss, R, st, r, hl, _⟩ := h
    rw [r.length]; exact hl
  · obtain ⟨hid, Hb, ss, R, st, r, hl, hm, c⟩ := hsp
    obtain ⟨ts, t, B, q⟩ := body ⟨hid, Hb, H, Hb⟩ cdv A outer s H E hr ss R hl hm
    refine ⟨ts, B.pe, B.sd Hb H _ _ _ { nx := fun _ => R (.d .none), rt := R } (rep_start st r) q ⟨fun Hb' H' σ env _ r' q => ?_, fun _ _ _ _ _ _ q => q.elim, fun _ _ _ _ _ _ q => q.elim, fun v Hb' H' s' _ st' rs fr q => ?_⟩⟩
    · exact c .non Hb' H' (.d .none) r'.step Dq.non trivial q
    · exact c v Hb' H' s' st' rs fr q
end
section
variable {X : Cx} {F : Fr} {k n : Nat} {f : Addr} {fd : FuncData} {ps : List Str} {m : FN} {x : Str} {p pos : Pos} {e : Expr} {es : List Expr} {ta : TA} {fa : DTA}
def dFn (n : Nat) (m : FN) (fa : DTA) : DTE := fun env Q => fa env fun ss => ss.length = n ∧ m ss Q
def tFn (sp : Sp) (t : TA) : TE := fun σ H Q => t σ H fun vs H1 => sp vs H1 Q E0
theorem sd_fn {K : PySem.W.Frag} (h : SdA K F ta fa) : SdE K F (tFn (spX K n m) ta) (dFn n m fa) := by
  intro Hb H σ env Q k r q c
  refine h Hb H σ env _ _ r q fun vs Hb1 H1 ss st1 rs1 q1 => ?_
  obtain ⟨hl, hm⟩ := q1
  exact ⟨F.hid, Hb1, ss, Q, st1.st, rs1, hl, hm, fun v Hb' H' s st2 r2 f2 q2 => c v Hb' H' s (st1.trans st2) r2 (FrSl.back st1 f2) q2⟩
theorem de_call (G : FnG X.prog X.w X.K X.mg X.base CX0 k f fd ps (spX X.K n m)) (hr : RoomG k X.A) (hm : X.mg x = some (.ref f)) (hk : PySem.W.keepIn X.K (.ref f) = true) (hb : Binds X.K fd ps []) (ha : DA X F (e :: es) ta fa)
    (hg : Gl X x := by rfl) (hdb : (x == ("__debug__" : Str)) = false := by decide) (he : starEach (e :: es) X.env = (false, eval e X.env) :: starEach es X.env := by rfl) (hpl : (backTo pos (starEach es X.env)).any (·.1) = false := by rfl) :
    DE X F (.Call (.Name x p) (e :: es) [] pos) (tFn (spX X.K n m) ta) (dFn n m fa) := ⟨pe_callG G hr hg hm hk hb pass0 ha.pe hdb he hpl, sd_fn (ha.sd)⟩
end

/-! ### the terms: hand layer and plain layer at once -/
section
variable {X : Cx} {F : Fr} {a b c e : Expr} {es : List Expr} {ta tb tc te : TE} {fa fb fc fe : DTE} {pos : Pos} {tt tu : TT} {ft fu : DTT} {tr : TA} {fr : DTA}
theorem da_nil : DA X F [] tNil (fun _ Q => Q []) := ⟨pa_nil, sd_nil⟩
theorem da_cons (ha : DE X F e te fe) (hr : DA X F es tr fr) (hs : starEach (e :: es) X.env = (false, eval e X.env) :: starEach es X.env := by rfl) : DA X F (e :: es) (tCons te tr) (dCons fe fr) := ⟨pa_cons ha.pe hr.pe hs, sd_cons (ha.sd) (hr.sd)⟩
theorem de_tup {x1} (h : DA X F es tr fr) : DE X F (.Tuple es x1 pos) (tTup tr) (dTupE fr) := ⟨pe_tup h.pe, sd_tup (h.sd)⟩
theorem de_lst (h : DA X F es tr fr) : DE X F (.List es pos) (tLst tr) (dLstE fr) := ⟨pe_lst h.pe, sd_lst (h.sd)⟩
theorem de_op {op : Operator} {r : R2} {f : F2} (ho : OpR X (binaryOp op) r) (lo : ∀ hid, LO X.K hid r f) (ha : DE X F a ta fa) (hb : DE X F b tb fb) : DE X F (.BinOp a op b pos) (tOp r ta tb) (dOp f fa fb) := ⟨pe_op ho ha.pe hb.pe, sd_op (lo F.hid) (ha.sd) (hb.sd)⟩
theorem de_un {op : UnaryOp} {r : V → Hp → VK → Prop} {f : F1} (ho : UnR X (unaryOp op) r) (lo : ∀ hid, LU X.K hid r f) (ha : DE X F a ta fa) : DE X F (.UnaryOp op a pos) (tUn r ta) (dUn f fa) := ⟨pe_un ho ha.pe, sd_un (lo F.hid) (ha.sd)⟩
theorem de_cmp {op : CmpOp} {r : R2} {f : F2} (ho : OpR X (compareOp op) r) (lo : ∀ hid, LO X.K hid r f) (ha : DE X F a ta fa) (hb : DE X F b tb fb) (hm : behindInMarks op b = false := by first | exact nomark _ | rfl) : DE X F (.Compare a [op] [b] pos) (tOp r ta tb) (dOp f fa fb) :=
  ⟨pe_cmpR ho ha.pe hb.pe hm, sd_op (lo F.hid) (ha.sd) (hb.sd)⟩
theorem dt_cmp {op : CmpOp} {r : R2} {f : F2} (ho : OpR X (compareOp op) r) (lo : ∀ hid, LO X.K hid r f) (ha : DE X F a ta fa) (hb : DE X F b tb fb) (hm : behindInMarks op b = false := by first | exact nomark _ | rfl) : DT X F (.Compare a [op] [b] pos) (tTest (tOp r ta tb)) (dTest (dOp f fa fb)) :=
  ⟨pt_cmpR ho ha.pe hb.pe hm, sd_test (sd_op (lo F.hid) (ha.sd) (hb.sd))⟩
theorem dt_val (h : DE X F e te fe) (he : ∀ whole, isTrue e X.env whole = (do let v ← whole; standAt e.pos; holding [v] (truthy v)) := by intro _; rfl) : DT X F e (tB te) (dTest fe) := ⟨pt_val h.pe he, sd_B (h.sd)⟩
theorem dw_and1 (ha : DT X F a tt ft) : DW X F (.BoolOp .And [a] pos) tt ft := ⟨pw_and1 ha.pe, (ha.sd)⟩
theorem dw_or1 (ha : DT X F a tt ft) : DW X F (.BoolOp .Or [a] pos) tt ft := ⟨pw_or1 ha.pe, (ha.sd)⟩
theorem dw_and (ha : DT X F a tt ft) (hb : DW X F (.BoolOp .And (b :: es) pos) tu fu) : DW X F (.BoolOp .And (a :: b :: es) pos) (tAnd tt tu) (dAnd ft fu) := ⟨pw_and ha.pe hb.pe, sd_and (ha.sd) (hb.sd)⟩
theorem dw_or (ha : DT X F a tt ft) (hb : DW X F (.BoolOp .Or (b :: es) pos) tu fu) : DW X F (.BoolOp .Or (a :: b :: es) pos) (tOr tt tu) (dOr ft fu) := ⟨pw_or ha.pe hb.pe, sd_or (ha.sd) (hb.sd)⟩
theorem DW.dt (h : DW X F e tt ft) : DT X F e tt ft := ⟨h.pe.pt, (h.sd)⟩
theorem dt_not (ha : DT X F a tt ft) : DT X F (.UnaryOp .Not a pos) (tNot tt) (dNot ft) := ⟨pt_not ha.pe, sd_not (ha.sd)⟩
theorem de_one {op} (h : DE X F a te fe) : DE X F (.BoolOp op [a] pos) te fe := ⟨pe_one h.pe, (h.sd)⟩
theorem de_and (ha : DE X F a ta fa) (hb : DE X F (.BoolOp .And (b :: es) pos) tb fb) : DE X F (.BoolOp .And (a :: b :: es) pos) (tAndV ta tb) (dAndV fa fb) := ⟨pe_and ha.pe hb.pe, sd_andV (ha.sd) (hb.sd)⟩
theorem de_or (ha : DE X F a ta fa) (hb : DE X F (.BoolOp .Or (b :: es) pos) tb fb) : DE X F (.BoolOp .Or (a :: b :: es) pos) (tOrV ta tb) (dOrV fa fb) := ⟨pe_or ha.pe hb.pe, sd_orV (ha.sd) (hb.sd)⟩
theorem de_not (ha : DE X F a ta fa) : DE X F (.UnaryOp .Not a pos) (tNotV ta) (dNotV fa) := ⟨pe_not ha.pe, sd_notV (ha.sd)⟩
theorem de_ifE (hc : DT X F c tt ft) (ha : DE X F a ta fa) (hb : DE X F b tb fb) : DE X F (.IfExp c a b pos) (tIf tt ta tb) (dIfE ft fa fb) := ⟨pe_ifExp hc.pe ha.pe hb.pe, sd_ifE (hc.sd) (ha.sd) (hb.sd)⟩
theorem de_peek (js : List Nat) (h : DE X F e te fe) : DE X F e te (dPeek js fe) := ⟨h.pe, sd_peek js (h.sd)⟩
theorem dt_peek (js : List Nat) (h : DT X F e tt ft) : DT X F e tt (dPeekT js ft) := ⟨h.pe, sd_peekT js (h.sd)⟩
/-- a built-in function, a built-in type called -/
theorem de_callB {id : String} {r : List V → Hp → VK → Prop} {f : FN} {x : Str} {p : Pos} (hc : CallR X (.builtin id) r) (lo : ∀ hid, LC X.K hid r f) (hm : X.mg x = none) (ha : DA X F (e :: es) tr fr) (hv : bootBuiltins x = some (.builtin id) := by decide +kernel) (hg : Gl X x := by rfl) (hn : x ≠ "__name__" := by decide)
    (hdb : (x == ("__debug__" : Str)) = false := by decide) (he : starEach (e :: es) X.env = (false, eval e X.env) :: starEach es X.env := by rfl) (hpl : (backTo pos (starEach es X.env)).any (·.1) = false := by rfl) : DE X F (.Call (.Name x p) (e :: es) [] pos) (tCB r tr) (dCall f fr) :=
  ⟨pe_callB hc hg hm hv ha.pe hn hdb he hpl, sd_call (lo F.hid) (ha.sd)⟩
theorem de_callTy {T : String} {r : List V → Hp → VK → Prop} {f : FN} {x : Str} {p : Pos} (hc : CallR X (.type T) r) (lo : ∀ hid, LC X.K hid r f) (hm : X.mg x = none) (ha : DA X F (e :: es) tr fr) (hv : bootBuiltins x = some (.type T) := by decide +kernel) (hg : Gl X x := by rfl) (hn : x ≠ "__name__" := by decide)
    (hdb : (x == ("__debug__" : Str)) = false := by decide) (he : starEach (e :: es) X.env = (false, eval e X.env) :: starEach es X.env := by rfl) (hpl : (backTo pos (starEach es X.env)).any (·.1) = false := by rfl) : DE X F (.Call (.Name x p) (e :: es) [] pos) (tCB r tr) (dCall f fr) :=
  ⟨pe_callTy hc hg hm hv ha.pe hn hdb he hpl, sd_call (lo F.hid) (ha.sd)⟩
theorem de_ix {r : R2} {f : F2} (hr : IxR X r) (lo : ∀ hid, LO X.K hid r f) (ha : DE X F a ta fa) (hb : DE X F b tb fb) (hs : PlainIx b := by exact fun _ _ => rfl) : DE X F (.Subscript a b pos) (tOp r ta tb) (dOp f fa fb) := ⟨pe_ix hr ha.pe hb.pe hs, sd_op (lo F.hid) (ha.sd) (hb.sd)⟩

/-! statements -/
variable {st : Stmt} {sts rest : List Stmt} {ts tv : TS} {fs fv : DTS}
theorem dss_nil : DSs X F [] tNext dNext := ⟨pss_nil, sd_next⟩
theorem dss_cons (h1 : DS X F st ts fs) (h2 : DSs X F rest tv fv) : DSs X F (st :: rest) (tSeq ts tv) (dSeq fs fv) := ⟨pss_cons h1.pe h2.pe, sd_seq (h1.sd) (h2.sd)⟩
theorem dss_one (h1 : DS X F st ts fs) : DSs X F [st] ts fs := ⟨pss_one h1.pe, (h1.sd)⟩
theorem dss_frz (js : List Nat) (h : DSs X F sts ts fs) : DSs X F sts ts (dFrz js fs) := ⟨h.pe, sd_frz js (h.sd)⟩
theorem ds_ret (he : DE X F e te fe) : DS X F (.Return (some e) pos) (tRet te) (dRet fe) := ⟨ps_ret he.pe, sd_ret (he.sd)⟩
theorem ds_retOwn (i : Nat) {x : Str} {p : Pos} (hN : X.N[i]? = some x := by rfl) (hv : Vis X.env.scope x := by first | exact Or.inl rfl | exact Or.inr (Or.inl rfl) | exact Or.inr (Or.inr rfl)) (hd : (x == ("__debug__" : Str)) = false := by decide)
    (hcd : (x == ("__classdict__" : Str)) = false := by decide) : DS X F (.Return (some (.Name x p)) pos) (tRet (tVar i)) (dRetOwn i) := ⟨ps_ret (pe_var hN hv hd hcd), sd_retOwn i⟩
theorem ds_if {as bs : List Stmt} (hc : DT X F c tt ft) (h1 : DSs X F as ts fs) (h2 : DSs X F bs tv fv) : DS X F (.If c as bs pos) (tIfS tt ts tv) (dIf ft fs fv) := ⟨ps_if hc.pe h1.pe h2.pe, sd_if (hc.sd) (h1.sd) (h2.sd)⟩
theorem ds_set (i : Nat) {x : Str} {pos' : Pos} (hN : X.N.Nodup) (he : DE X F e te fe) (hi : X.N[i]? = some x := by rfl) (hx : Loc X.env.scope x := by first | exact Or.inl rfl | exact Or.inr rfl) (hs : swapsWith e (some (.Name x pos')) pos.line X.env = pure false := by rfl) (hf : X.fn x = true ∨ X.env.scope.names.lookup x = some .local := by first | exact .inl rfl | exact .inr rfl) :
    DS X F (.Assign [.Name x pos'] e pos) (tAsg te (gName i)) (dSet fe i) := ⟨ps_set hN hi hx he.pe hs hf, sd_set i (he.sd)⟩
end
end Pu

end

section
/-! Pu5: rules by values. -/
namespace Pu
open PySem L2 PyProof.Rows

/-! ### ints -/
def dII (g : Int → Int → PyData) : F2 := fun s u Q => match s, u with
  | .d (.int i), .d (.int j) => Q (.d (g i j))
  | _, _ => False
def dIC (C : Int → Int → Prop) (g : Int → Int → PyData) : F2 := fun s u Q => match s, u with
  | .d (.int i), .d (.int j) => C i j ∧ Q (.d (g i j))
  | _, _ => False
section
variable {K : PySem.W.Frag} {hid : Hid}
theorem lo_I0 {g : Int → Int → V} {g' : Int → Int → PyData} (hg : ∀ (i j : Int) (Hb : Hp), Dq K Hb (g i j) (g' i j)) : LO K hid (rI0 g) (dII g') := by
  intro Hb H x y s u Q k st rx ry q c
  unfold dII at q
  split at q
  · rename_i i j
    exact ⟨i, j, int_of rx, int_of ry, c _ Hb H (.d (g' i j)) (Step.refl st) (hg i j Hb) trivial q⟩
  · exact q.elim
theorem lo_I {C : Int → Int → Prop} {g : Int → Int → V} {g' : Int → Int → PyData} (hg : ∀ (i j : Int) (Hb : Hp), Dq K Hb (g i j) (g' i j)) : LO K hid (rI C g) (dIC C g') := by
  intro Hb H x y s u Q k st rx ry q c
  unfold dIC at q
  split at q
  · rename_i i j
    exact ⟨i, j, int_of rx, int_of ry, q.1, c _ Hb H (.d (g' i j)) (Step.refl st) (hg i j Hb) trivial q.2⟩
  · exact q.elim
abbrev fAdd : F2 := dII fun i j => .int (i + j)
abbrev fSub : F2 := dII fun i j => .int (i - j)
abbrev fMul : F2 := dIC CMul fun i j => .int (i * j)
abbrev fMod : F2 := dIC (fun _ j => 0 < j) fun i j => .int (i % j)
abbrev fPow : F2 := dIC CPow fun i j => .int (i ^ j.toNat)
abbrev fLt : F2 := dII fun i j => .bool (decide (i < j))
abbrev fLe : F2 := dII fun i j => .bool (decide (i ≤ j))
abbrev fGt : F2 := dII fun i j => .bool (decide (j < i))
abbrev fGe : F2 := dII fun i j => .bool (decide (j ≤ i))
theorem lo_add : LO K hid (rI0 fun i j => .int (i + j)) fAdd := lo_I0 fun _ _ _ => .int _
theorem lo_sub : LO K hid (rI0 fun i j => .int (i - j)) fSub := lo_I0 fun _ _ _ => .int _
theorem lo_mul : LO K hid (rI CMul fun i j => .int (i * j)) fMul := lo_I fun _ _ _ => .int _
theorem lo_mod : LO K hid (rI (fun _ j => 0 < j) fun i j => .int (i % j)) fMod := lo_I fun _ _ _ => .int _
theorem lo_pow : LO K hid (rI CPow fun i j => .int (i ^ j.toNat)) fPow := lo_I fun _ _ _ => .int _
theorem lo_lt : LO K hid (rI0 fun i j => .bl (decide (i < j))) fLt := lo_I0 fun _ _ _ => .bl _
theorem lo_le : LO K hid (rI0 fun i j => .bl (decide (i ≤ j))) fLe := lo_I0 fun _ _ _ => .bl _
theorem lo_gt : LO K hid (rI0 fun i j => .bl (decide (j < i))) fGt := lo_I0 fun _ _ _ => .bl _
theorem lo_ge : LO K hid (rI0 fun i j => .bl (decide (j ≤ i))) fGe := lo_I0 fun _ _ _ => .bl _
def fNeg : F1 := fun s Q => match s with
  | .d (.int i) => Q (.d (.int (-i)))
  | _ => False
theorem lu_neg : LU K hid (rU fun i => .int (-i)) fNeg := by
  intro Hb H x s Q k st rx q c
  unfold fNeg at q
  split at q
  · rename_i i
    exact ⟨i, int_of rx, c _ Hb H (.d (.int (-i))) (Step.refl st) (Dq.int _) trivial q⟩
  · exact q.elim
end

/-! ### data is read -/
section
variable {X : Cx} {pins : List (Addr × Obj)} {σ : L2.St} {H : Hp} {s : Shared}
theorem Dq.readsP (I : Inv X pins σ H s) {d : PyData} {v : V} (h : Dq X.K H v d) : d.hasDict = false → ∀ u, RelV v u → ∃ as, Reads s.heap u d as := by
  refine Dq.rec (motive_1 := fun v d _ => d.hasDict = false → ∀ u, RelV v u → ∃ as, Reads s.heap u d as) (motive_2 := fun vs ds _ => PyData.hasDictAll ds = false → ∀ us, Vals vs us → ∃ as, ReadsAll s.heap us ds as) ?_ ?_ ?_ ?_ ?_ ?_ ?_ ?_ ?_ h
  · intro _ u r; cases r; exact ⟨_, Reads.none⟩
  · intro b _ u r; cases r; exact ⟨_, Reads.bool b⟩
  · intro i _ u r; obtain ⟨t, rfl⟩ := r; exact ⟨_, Reads.int i t⟩
  · intro x _ u r; obtain ⟨t, rfl⟩ := r; exact ⟨_, Reads.str x t⟩
  · intro a xs ds h1 _ i hd u r
    cases r
    obtain ⟨its, rv, ⟨o, n, ho, hc, _, hdat⟩, _⟩ := I.list (SqL.of h1)
    obtain ⟨as, hr⟩ := i (by simpa [PyData.hasDict] using hd) its rv
    exact ⟨_, Reads.list ho hc hdat hr⟩
  · intro a xs ds h1 _ i hd u r
    cases r
    obtain ⟨its, rv, ⟨o, ho, hc, n, hdat⟩, _⟩ := I.tuple h1
    obtain ⟨as, hr⟩ := i (by simpa [PyData.hasDict] using hd) its rv
    exact ⟨_, Reads.tuple ho hc hdat hr⟩
  · intro a kvs ds h1 h2 _ i hd u r
    simp [PyData.hasDict] at hd
  · intro _ us r; cases r; exact ⟨_, ReadsAll.nil⟩
  · intro v vs d ds _ _ i1 i2 hd us r
    cases r with
    | cons r1 r2 =>
      have hd' : d.hasDict = false ∧ PyData.hasDictAll ds = false := by simpa [PyData.hasDictAll] using hd
      obtain ⟨as, q1⟩ := i1 hd'.1 _ r1
      obtain ⟨bs, q2⟩ := i2 hd'.2 _ r2
      exact ⟨_, ReadsAll.cons q1 q2⟩
end
section
variable {X : Cx}
/-- data that is compared: without dicts, not too deep -/
def okD1 (d : PyData) : Prop := d.hasDict = false ∧ SeqAt.shaped d = true
def rEqQ (K : PySem.W.Frag) : R2 := fun x y H Q => ∃ d e, Dq K H x d ∧ Dq K H y e ∧ okD1 d ∧ okD1 e ∧ Q (.bl (PyData.eqv d e)) H
def rNeQ (K : PySem.W.Frag) : R2 := fun x y H Q => ∃ d e, Dq K H x d ∧ Dq K H y e ∧ okD1 d ∧ okD1 e ∧ Q (.bl (!PyData.eqv d e)) H
theorem op_eqQ (hu : X.A.units + 64 < cLine) : OpR X (compareOp .Eq) (rEqQ X.K) := by
  intro pins s σ H x y v u Q I rx ry h
  obtain ⟨d, e, hd, he, sd, se, q⟩ := h
  obtain ⟨as, r1⟩ := Dq.readsP I hd sd.1 v rx
  obtain ⟨bs, r2⟩ := Dq.readsP I he se.1 u ry
  exact SeqAt.compareEq_shaped r1 r2 sd.2 se.2 hu ⟨.bl _, H, I, rfl, q⟩
theorem op_neQ (hu : X.A.units + 64 < cLine) : OpR X (compareOp .NotEq) (rNeQ X.K) := by
  intro pins s σ H x y v u Q I rx ry h
  obtain ⟨d, e, hd, he, sd, se, q⟩ := h
  obtain ⟨as, r1⟩ := Dq.readsP I hd sd.1 v rx
  obtain ⟨bs, r2⟩ := Dq.readsP I he se.1 u ry
  exact SeqAt.compareNe_shaped r1 r2 sd.2 se.2 hu ⟨.bl _, H, I, rfl, q⟩
def fEq : F2 := fun s u Q => match s, u with
  | .d x, .d y => okD1 x ∧ okD1 y ∧ Q (.d (.bool (PyData.eqv x y)))
  | _, _ => False
def fNe : F2 := fun s u Q => match s, u with
  | .d x, .d y => okD1 x ∧ okD1 y ∧ Q (.d (.bool (!PyData.eqv x y)))
  | _, _ => False
variable {K : PySem.W.Frag} {hid : Hid}
theorem lo_eq : LO K hid (rEqQ K) fEq := by
  intro Hb H x y s u Q k st rx ry q c
  unfold fEq at q
  split at q
  · rename_i d e
    exact ⟨d, e, Dq.mono st.ex rx, Dq.mono st.ex ry, q.1, q.2.1, c _ Hb H (.d (.bool _)) (Step.refl st) (Dq.bl _) trivial q.2.2⟩
  · exact q.elim
theorem lo_ne : LO K hid (rNeQ K) fNe := by
  intro Hb H x y s u Q k st rx ry q c
  unfold fNe at q
  split at q
  · rename_i d e
    exact ⟨d, e, Dq.mono st.ex rx, Dq.mono st.ex ry, q.1, q.2.1, c _ Hb H (.d (.bool _)) (Step.refl st) (Dq.bl _) trivial q.2.2⟩
  · exact q.elim
/-! ### in -/
def fInQ (neg : Bool) : F2 := fun s u Q => match s, u with
  | .d x, .d (.list ys) => flatD x = true ∧ ys.all flatD = true ∧ Q (.d (.bool (if neg then !(ys.any fun y => PyData.eqv y x) else ys.any fun y => PyData.eqv y x)))
  | .d x, .d (.tuple ys) => flatD x = true ∧ ys.all flatD = true ∧ Q (.d (.bool (if neg then !(ys.any fun y => PyData.eqv y x) else ys.any fun y => PyData.eqv y x)))
  | _, _ => False
theorem flat_v {Hb : Hp} {v : V} {x : PyData} (h : Dq K Hb v x) (f : flatD x = true) : flatV v = true := by
  cases h <;> first | rfl | exact absurd f Bool.false_ne_true
theorem eqv_v {Hb Hc : Hp} {v u : V} {x y : PyData} (h : Dq K Hb v x) (g : Dq K Hc u y) (f : flatD x = true) (f' : flatD y = true) : eqV v u = PyData.eqv x y := by
  cases h <;> first | exact absurd f Bool.false_ne_true | (cases g <;> first | exact absurd f' Bool.false_ne_true | (simp only [eqV, PyData.eqv]))
theorem flats_v {Hb : Hp} : ∀ {ys : List PyData} {vs : List V}, DqAll K Hb vs ys → ys.all flatD = true → vs.all flatV = true
  | [], _, .nil, _ => rfl
  | _ :: _, _, .cons h t, f => by
    simp only [List.all_cons, Bool.and_eq_true] at f ⊢
    exact ⟨flat_v h f.1, flats_v t f.2⟩
theorem inV_d {Hb Hc : Hp} {v : V} {x : PyData} (h : Dq K Hb v x) (f : flatD x = true) : ∀ {ys : List PyData} {vs : List V}, DqAll K Hc vs ys → ys.all flatD = true → inV v vs = ys.any fun y => PyData.eqv y x
  | [], _, .nil, _ => rfl
  | y :: ys, _, .cons (v := u) (vs := us) g t, f' => by
    simp only [List.all_cons, Bool.and_eq_true] at f'
    have i := inV_d h f t f'.2
    unfold inV at i ⊢
    rw [List.any_cons, List.any_cons, i, eqv_v g h f'.1 f]
theorem lo_in (neg : Bool) : LO K hid (rIn K neg) (fInQ neg) := by
  intro Hb H x y s u Q k st rx ry q c
  unfold fInQ at q
  split at q
  · rename_i d ys
    cases (show Dq K Hb y (.list ys) from ry) with
    | lst h1 h2 =>
      refine ⟨_, _, rfl, .inl (SqL.of (st.ex _ _ h1)), flat_v rx q.1, flats_v h2 q.2.1, ?_⟩
      rw [inV_d (K := K) rx q.1 h2 q.2.1]
      exact c _ Hb H (.d (.bool _)) (Step.refl st) (Dq.bl _) trivial q.2.2
  · rename_i d ys
    cases (show Dq K Hb y (.tuple ys) from ry) with
    | tup h1 h2 =>
      refine ⟨_, _, rfl, .inr (Same.seqT st.ex h1), flat_v rx q.1, flats_v h2 q.2.1, ?_⟩
      rw [inV_d (K := K) rx q.1 h2 q.2.1]
      exact c _ Hb H (.d (.bool _)) (Step.refl st) (Dq.bl _) trivial q.2.2
  · exact q.elim
end

/-! ### items, slices, lengths -/
section
variable {K : PySem.W.Frag} {hid : Hid}
def fIx : F2 := fun s u Q => match s, u with
  | .d (.list xs), .d (.int i) => ∃ d, atI xs i = some d ∧ Q (.d d)
  | .d (.tuple xs), .d (.int i) => ∃ d, atI xs i = some d ∧ Q (.d d)
  | .d (.str z), .d (.int i) => ∃ c, z.length ≤ sizeLine ∧ atI z.cps.toList i = some c ∧ Q (.d (.str ⟨#[c]⟩))
  | _, _ => False
theorem at_d {Hb : Hp} {ds : List PyData} {vs : List V} {i : Int} {d : PyData} (h : DqAll K Hb vs ds) (e : atI ds i = some d) : ∃ v, atI vs i = some v ∧ Dq K Hb v d := by
  unfold atI at e ⊢
  rw [DqAll.length h]
  cases q : ixN ds.length i with
  | none => rw [q] at e; cases e
  | some j =>
    rw [q] at e
    obtain ⟨v, h1, h2⟩ := DqAll.get' h (show ds[j]? = some d from e)
    exact ⟨v, h1, h2⟩
theorem lo_ix : LO K hid (rIx K) fIx := by
  intro Hb H x y s u Q k st rx ry q c
  unfold fIx at q
  split at q
  · rename_i xs i
    obtain ⟨d, e, q⟩ := q
    cases (show Dq K Hb x (.list xs) from rx) with
    | lst h1 h2 =>
      obtain ⟨v, h3, h4⟩ := at_d h2 e
      exact .inl ⟨_, _, i, v, rfl, int_of ry, SqL.of (st.ex _ _ h1), h3, c v Hb H (.d d) (Step.refl st) h4 trivial q⟩
  · rename_i xs i
    obtain ⟨d, e, q⟩ := q
    cases (show Dq K Hb x (.tuple xs) from rx) with
    | tup h1 h2 =>
      obtain ⟨v, h3, h4⟩ := at_d h2 e
      exact .inr (.inl ⟨_, _, i, v, rfl, int_of ry, Same.seqT st.ex h1, h3, c v Hb H (.d d) (Step.refl st) h4 trivial q⟩)
  · rename_i z i
    obtain ⟨ch, hz, e, q⟩ := q
    exact .inr (.inr ⟨z, i, ch, str_of rx, int_of ry, hz, e, c _ Hb H (.d (.str _)) (Step.refl st) (Dq.str _) trivial q⟩)
  · exact q.elim
def fLen : FN := fun ss Q => match ss with
  | [.d (.list xs)] => Q (.d (.int xs.length))
  | [.d (.tuple xs)] => Q (.d (.int xs.length))
  | [.d (.str z)] => z.length ≤ sizeLine ∧ Q (.d (.int z.length))
  | _ => False
theorem rep1 {Hb H : Hp} {xs : List V} {s : Sl} (r : RepAll K hid Hb H xs [s]) : ∃ v, xs = [v] ∧ RepSl K hid Hb H v s := by
  cases r with
  | cons h _ t => cases t; exact ⟨_, rfl, h⟩
theorem rep2 {Hb H : Hp} {xs : List V} {s u : Sl} (r : RepAll K hid Hb H xs [s, u]) : ∃ v w, xs = [v, w] ∧ RepSl K hid Hb H v s ∧ RepSl K hid Hb H w u := by
  cases r with
  | cons h _ t => obtain ⟨w, e, h2⟩ := rep1 t; subst e; exact ⟨_, _, rfl, h, h2⟩
theorem lc_len : LC K hid (fun xs H Q => ∃ x n, xs = [x] ∧ LenV K x H n ∧ Q (.int n) H) fLen := by
  intro Hb H xs ss Q k st r q c
  unfold fLen at q
  split at q
  · rename_i ys
    obtain ⟨v, rfl, h⟩ := rep1 r
    cases (show Dq K Hb v (.list ys) from h) with
    | lst h1 h2 => exact ⟨_, _, rfl, .inl ⟨_, SqL.of (st.ex _ _ h1), DqAll.length h2 ▸ rfl⟩, c _ Hb H (.d (.int _)) (Step.refl st) (Dq.int _) trivial q⟩
  · rename_i ys
    obtain ⟨v, rfl, h⟩ := rep1 r
    cases (show Dq K Hb v (.tuple ys) from h) with
    | tup h1 h2 => exact ⟨_, _, rfl, .inr ⟨_, Same.seqT st.ex h1, DqAll.length h2 ▸ rfl⟩, c _ Hb H (.d (.int _)) (Step.refl st) (Dq.int _) trivial q⟩
  · rename_i z
    obtain ⟨v, rfl, h⟩ := rep1 r
    rw [str_of h]
    exact ⟨_, _, rfl, ⟨q.1, rfl⟩, c _ Hb H (.d (.int _)) (Step.refl st) (Dq.int _) trivial q.2⟩
  · exact q.elim
def fMax2 : FN := fun ss Q => match ss with
  | [.d (.int i), .d (.int j)] => Q (.d (.int (if j > i then j else i)))
  | _ => False
def fMin2 : FN := fun ss Q => match ss with
  | [.d (.int i), .d (.int j)] => Q (.d (.int (if j < i then j else i)))
  | _ => False
theorem lc_min2 : LC K hid (fun xs H Q => ∃ i j, xs = [.int i, .int j] ∧ Q (.int (if j < i then j else i)) H) fMin2 := by
  intro Hb H xs ss Q k st r q c
  unfold fMin2 at q
  split at q
  · rename_i i j
    obtain ⟨v, w, rfl, h1, h2⟩ := rep2 r
    exact ⟨i, j, by rw [int_of h1, int_of h2], c _ Hb H (.d (.int _)) (Step.refl st) (Dq.int _) trivial q⟩
  · exact q.elim
/-- list(xs), tuple(xs): new ones -/
def fListOf : FN := fun ss Q => match ss with
  | [.d (.list xs)] => Q (.own xs)
  | [.d (.tuple xs)] => Q (.own xs)
  | _ => False
theorem lc_list : LC K hid (fun xs H Q => ∃ p ys, xs = [.ref p] ∧ (SqL K H p ys ∨ SqT K H p ys) ∧ ∀ l, H l = none → Q (.ref l) (upd H l (.lst ys))) fListOf := by
  intro Hb H xs ss Q k st r q c
  unfold fListOf at q
  split at q
  · rename_i ys
    obtain ⟨v, rfl, h⟩ := rep1 r
    cases (show Dq K Hb v (.list ys) from h) with
    | lst h1 h2 =>
      refine ⟨_, _, rfl, .inl (SqL.of (st.ex _ _ h1)), fun l hl => ?_⟩
      obtain ⟨s2, r2, f2⟩ := own_new (K := K) st hl h2
      exact c _ Hb _ (.own ys) s2 r2 f2 q
  · rename_i ys
    obtain ⟨v, rfl, h⟩ := rep1 r
    cases (show Dq K Hb v (.tuple ys) from h) with
    | tup h1 h2 =>
      refine ⟨_, _, rfl, .inr (Same.seqT st.ex h1), fun l hl => ?_⟩
      obtain ⟨s2, r2, f2⟩ := own_new (K := K) st hl h2
      exact c _ Hb _ (.own ys) s2 r2 f2 q
  · exact q.elim
def fTupOf : FN := fun ss Q => match ss with
  | [.d (.list xs)] => Q (.d (.tuple xs))
  | [.d (.tuple xs)] => Q (.d (.tuple xs))
  | _ => False
theorem lc_tuple : LC K hid (fun xs H Q => ∃ p ys, xs = [.ref p] ∧ ((SqL K H p ys ∧ ∀ l, H l = none → Q (.ref l) (upd H l (.tup ys))) ∨ (SqT K H p ys ∧ Q (.ref p) H))) fTupOf := by
  intro Hb H xs ss Q k st r q c
  unfold fTupOf at q
  split at q
  · rename_i ys
    obtain ⟨v, rfl, h⟩ := rep1 r
    cases (show Dq K Hb v (.list ys) from h) with
    | lst h1 h2 =>
      refine ⟨_, _, rfl, .inl ⟨SqL.of (st.ex _ _ h1), fun l hl => ?_⟩⟩
      obtain ⟨s2, r2⟩ := tup_new (K := K) st hl h2
      exact c _ _ _ (.d (.tuple ys)) s2 r2 trivial q
  · rename_i ys
    obtain ⟨v, rfl, h⟩ := rep1 r
    cases (show Dq K Hb v (.tuple ys) from h) with
    | tup h1 h2 => exact ⟨_, _, rfl, .inr ⟨Same.seqT st.ex h1, c _ Hb H (.d (.tuple ys)) (Step.refl st) (Dq.tup h1 h2) trivial q⟩⟩
  · exact q.elim
/-- xs + ys -/
def fCat : F2 := fun s u Q => match s, u with
  | .d (.list xs), .d (.list ys) => xs.length + ys.length ≤ sizeLine ∧ Q (.own (xs ++ ys))
  | _, _ => False
theorem lo_cat : LO K hid rCat fCat := by
  intro Hb H x y s u Q k st rx ry q c
  unfold fCat at q
  split at q
  · rename_i xs ys
    cases (show Dq K Hb x (.list xs) from rx) with
    | lst h1 h2 =>
      cases (show Dq K Hb y (.list ys) from ry) with
      | lst g1 g2 =>
        refine ⟨_, _, _, _, rfl, rfl, st.ex _ _ h1, st.ex _ _ g1, by rw [DqAll.length h2, DqAll.length g2]; exact q.1, fun p hp => ?_⟩
        obtain ⟨s2, r2, f2⟩ := own_new (K := K) st hp (DqAll.append h2 g2)
        exact c _ Hb _ (.own _) s2 r2 f2 q.2
  · exact q.elim
def fCatT : F2 := fun s u Q => match s, u with
  | .d (.tuple xs), .d (.tuple ys) => xs.length + ys.length ≤ sizeLine ∧ Q (.d (.tuple (xs ++ ys)))
  | _, _ => False
theorem lo_catT : LO K hid (rCatA K) fCatT := by
  intro Hb H x y s u Q k st rx ry q c
  unfold fCatT at q
  split at q
  · rename_i xs ys
    cases (show Dq K Hb x (.tuple xs) from rx) with
    | tup h1 h2 =>
      cases (show Dq K Hb y (.tuple ys) from ry) with
      | tup g1 g2 =>
        refine ⟨_, _, _, _, rfl, rfl, Same.seqT st.ex h1, Same.seqT st.ex g1, by rw [DqAll.length h2, DqAll.length g2]; exact q.1, fun e => ?_, fun _ e => ?_, fun _ _ p hp => ?_⟩
        · subst e
          cases h2
          exact c _ Hb H (.d (.tuple _)) (Step.refl st) (Dq.tup g1 g2) trivial q.2
        · subst e
          cases g2
          refine c _ Hb H (.d (.tuple _)) (Step.refl st) (Dq.tup h1 h2) trivial ?_
          have := q.2
          rw [List.append_nil] at this
          exact this
        · obtain ⟨s2, r2⟩ := tup_new (K := K) st hp (DqAll.append h2 g2)
          exact c _ _ _ (.d (.tuple _)) s2 r2 trivial q.2
  · exact q.elim
/-- xs * k -/
def fRep : F2 := fun s u Q => match s, u with
  | .d (.list xs), .d (.int k) => -(2 ^ 63) ≤ k ∧ k < 2 ^ 63 ∧ xs.length * k.toNat ≤ sizeLine ∧ Q (.own (List.replicate k.toNat xs).flatten)
  | _, _ => False
theorem DqAll.rep {Hb : Hp} {ds : List PyData} {vs : List V} (h : DqAll K Hb vs ds) : ∀ k : Nat, DqAll K Hb (List.replicate k vs).flatten (List.replicate k ds).flatten
  | 0 => .nil
  | k + 1 => by
    rw [List.replicate_succ, List.replicate_succ, List.flatten_cons, List.flatten_cons]
    exact DqAll.append h (DqAll.rep h k)
theorem lo_rep : LO K hid rRep fRep := by
  intro Hb H x y s u Q k st rx ry q c
  unfold fRep at q
  split at q
  · rename_i xs j
    cases (show Dq K Hb x (.list xs) from rx) with
    | lst h1 h2 =>
      refine ⟨_, j, _, rfl, int_of ry, st.ex _ _ h1, q.1, q.2.1, by rw [DqAll.length h2]; exact q.2.2.1, fun p hp => ?_⟩
      obtain ⟨s2, r2, f2⟩ := own_new (K := K) st hp (DqAll.rep h2 _)
      exact c _ Hb _ (.own _) s2 r2 f2 q.2.2.2
  · exact q.elim
end
end Pu

end

section
/-! Pu6: slices, what is walked, loops and comprehensions as terms, repr, sorted, isinstance. -/
namespace Pu
open PySem L2 PyProof.Rows RZ

/-! ### slices -/
abbrev DTO := EV → (Option Int → Prop) → Prop
def dNoPart : DTO := fun _ Q => Q none
def dPart (f : DTE) : DTO := fun env Q => f env fun s => ∃ i, s.fz = .d (.int i) ∧ Q (some i)
abbrev FS := Sl → Option Int → Option Int → DK → Prop
def dSl (f : FS) (fe : DTE) (fl fh : DTO) : DTE := fun env Q => fe env fun s => fl env fun l => fh env fun h => f s.fz l h Q
section
variable (K : PySem.W.Frag) (F : Fr) (hid : Hid)
def SdO (to : TO) (t : DTO) : Prop := ∀ (Hb H : Hp) (σ : L2.St) (env : EV) (Q : Option Int → Prop) (k : Option Int → Hp → Prop), Rep K F Hb H σ env → t env Q →
  (∀ o Hb' H', Step F.hid Hb H Hb' H' → Q o → k o H') → to σ H k
def LS (r : V → Option Int → Option Int → Hp → VK → Prop) (f : FS) : Prop := ∀ (Hb H : Hp) (x : V) (s : Sl) (lo hi : Option Int) (Q : DK) (k : VK), St0 hid Hb H → RepSl K hid Hb H x s → f s lo hi Q →
  (∀ v Hb' H' s', Step hid Hb H Hb' H' → RepSl K hid Hb' H' v s' → FrSl H v s' → Q s' → k v H') → r x lo hi H k
end
structure DO (X : Cx) (F : Fr) (e : Option Expr) (to : TO) (t : DTO) : Prop where
  pe : PO X e to
  sd : SdO X.K F to t
section
variable {K : PySem.W.Frag} {F : Fr} {hid : Hid} {te : TE} {fe : DTE} {tl th : TO} {fl fh : DTO}
theorem so_none : SdO K F tNoPart dNoPart := fun Hb H σ env Q k r q c => c none Hb H (Step.refl r.st) q
theorem so_some (h : SdE K F te fe) : SdO K F (tPart te) (dPart fe) := by
  intro Hb H σ env Q k r q c
  refine h.go (Q := fun s => ∃ i, s = .d (.int i) ∧ Q (some i)) r q fun x Hb1 H1 s st1 rs1 _ q1 => ?_
  obtain ⟨i, e, q1⟩ := q1
  subst e
  exact ⟨i, int_of rs1, c _ Hb1 H1 st1 q1⟩
theorem sd_slice {r : V → Option Int → Option Int → Hp → VK → Prop} {f : FS} (ls : LS K F.hid r f) (he : SdE K F te fe) (hl : SdO K F tl fl) (hh : SdO K F th fh) : SdE K F (tSl r te tl th) (dSl f fe fl fh) := by
  intro Hb H σ env Q k rp q c
  refine he.go (Q := fun s => fl env fun l => fh env fun h => f s l h Q) rp q fun x Hb1 H1 s st1 rs1 _ q1 => ?_
  refine hl Hb1 H1 σ env _ _ (rp.on st1) q1 fun l Hb2 H2 st2 q2 => ?_
  refine hh Hb2 H2 σ env _ _ (rp.on (st1.trans st2)) q2 fun h Hb3 H3 st3 q3 => ?_
  have all := (st1.trans st2).trans st3
  exact ls Hb3 H3 x s l h Q k st3.st (rs1.step (st2.trans st3)) q3 fun v Hb' H' s' st4 r4 f4 q4 => c v Hb' H' s' (all.trans st4) r4 (FrSl.back all f4) q4
def cutD (xs : List PyData) (lo hi : Option Int) : List PyData := (xs.drop (HT.sIx xs.length 0 lo)).take (HT.sIx xs.length xs.length hi - HT.sIx xs.length 0 lo)
theorem cut_all {Hb : Hp} {vs : List V} {xs : List PyData} (h : DqAll K Hb vs xs) (lo hi : Option Int) : DqAll K Hb (cutV vs lo hi) (cutD xs lo hi) := by
  unfold cutV cutD
  rw [DqAll.length h]
  exact DqAll.take _ (DqAll.drop _ h)
def fSlL : FS := fun s lo hi Q => match s with
  | .d (.list xs) => Q (.own (cutD xs lo hi))
  | _ => False
def fSlT : FS := fun s lo hi Q => match s with
  | .d (.tuple xs) => Q (.d (.tuple (cutD xs lo hi)))
  | _ => False
def fSlS : FS := fun s lo hi Q => match s with
  | .d (.str z) => z.length ≤ sizeLine ∧ Q (.d (.str (cutS z lo hi)))
  | _ => False
theorem ls_list : LS K hid (rSlL K) fSlL := by
  intro Hb H x s lo hi Q k st rx q c
  unfold fSlL at q
  split at q
  · rename_i xs
    cases (show Dq K Hb x (.list xs) from rx) with
    | lst h1 h2 =>
      refine ⟨_, _, rfl, SqL.of (st.ex _ _ h1), fun p hp => ?_⟩
      obtain ⟨s2, r2, f2⟩ := own_new (K := K) st hp (cut_all h2 lo hi)
      exact c _ Hb _ (.own _) s2 r2 f2 q
  · exact q.elim
theorem cut_whole {α : Type} {xs : List α} {lo hi : Option Int} (h : HT.sIx xs.length 0 lo = 0 ∧ HT.sIx xs.length xs.length hi = xs.length) : (xs.drop (HT.sIx xs.length 0 lo)).take (HT.sIx xs.length xs.length hi - HT.sIx xs.length 0 lo) = xs := by
  rw [h.1, h.2]
  simp
theorem ls_tup : LS K hid (rSlA K) fSlT := by
  intro Hb H x s lo hi Q k st rx q c
  unfold fSlT at q
  split at q
  · rename_i xs
    cases (show Dq K Hb x (.tuple xs) from rx) with
    | tup h1 h2 =>
      refine ⟨_, _, rfl, Same.seqT st.ex h1, fun hw => ?_, fun _ p hp => ?_⟩
      · rw [DqAll.length h2] at hw
        refine c _ Hb H (.d (.tuple (cutD xs lo hi))) (Step.refl st) ?_ trivial q
        unfold cutD
        rw [cut_whole hw]
        exact Dq.tup h1 h2
      · obtain ⟨s2, r2⟩ := tup_new (K := K) st hp (cut_all h2 lo hi)
        exact c _ _ _ (.d (.tuple _)) s2 r2 trivial q
  · exact q.elim
end

/-! ### zip, enumerate -/
section
variable {K : PySem.W.Frag} {F : Fr} {hid : Hid} {tr : TA} {fr : DTA} {a b : Addr} {xs ys : List V}
theorem walk_zipT {n : Nat} (hn : n = min xs.length ys.length) : Walk (ItzT K a b) n (fun H => SqT K H a xs ∧ SqT K H b ys) (YPair (fun i => xs[i]?) (fun i => ys[i]?)) := by
  subst hn
  refine ⟨fun i _ hi q => ?_, fun _ q => ⟨xs, ys, q.1, q.2, by omega⟩, fun i H v H' _ q y => ?_⟩
  · have h1 : i < xs.length := by omega
    have h2 : i < ys.length := by omega
    exact ⟨xs, ys, xs[i], ys[i], q.1, q.2, by simp [h1], by simp [h2]⟩
  · obtain ⟨T, x, z, h1, h2, h3, h4, h5⟩ := y
    exact ⟨T, x, z, h1, h2, h3, h4 xs q.1, h5 ys q.2⟩
theorem gives_zip {Hb : Hp} {J : It} {vs us : List V} {ds es : List PyData} {G : Hp → Prop} (w : Walk J (min vs.length us.length) G (YPair (fun i => vs[i]?) (fun i => us[i]?))) (hG : ∀ H, Same Hb H → G H) (h : DqAll K Hb vs ds) (h' : DqAll K Hb us es) : Gives K hid Hb J (zipD ds es) := by
  refine ⟨G, _, by rw [zipD_length, ← DqAll.length h, ← DqAll.length h']; exact w, hG, fun i Hb' H x H' hi st ex y => ?_⟩
  obtain ⟨T, p, q, e1, e2, e3, e4, e5⟩ := y
  obtain ⟨d, d1, d2⟩ := DqAll.get h e4
  obtain ⟨e, g1, g2⟩ := DqAll.get h' e5
  subst e1 e3
  obtain ⟨s2, r2⟩ := pair_new (K := K) (Hb := Hb') st e2 (Dq.mono ex d2) (Dq.mono ex g2)
  exact ⟨_, _, zipD_get i ds es d e d1 g1, s2, r2⟩
def dZip (f : DTA) : DTI := fun env Q => f env fun ss => (∃ xs ys, ss = [.d (.list xs), .d (.list ys)] ∧ Q (zipD xs ys)) ∨ (∃ xs ys, ss = [.d (.tuple xs), .d (.tuple ys)] ∧ Q (zipD xs ys))
theorem si_zip (h : SdA K F tr fr) : SdI K F (iZipA K tr) (dZip fr) := by
  intro Hb H σ env Q R rp q c
  refine h Hb H σ env _ _ rp q fun vs Hb1 H1 ss st1 rs1 q1 => ?_
  rcases q1 with ⟨xs, ys, e, q1⟩ | ⟨xs, ys, e, q1⟩
  · subst e
    obtain ⟨v, w, rfl, h1, h2⟩ := rep2 rs1
    cases (show Dq K Hb1 v (.list xs) from h1) with
    | lst a1 a2 =>
      cases (show Dq K Hb1 w (.list ys) from h2) with
      | lst b1 b2 => exact ⟨_, _, _, _, rfl, .inl ⟨SqL.of (st1.st.ex _ _ a1), SqL.of (st1.st.ex _ _ b1), c _ Hb1 H1 _ st1 (gives_zip (walk_zip rfl) (fun H' s => ⟨SqL.of (s _ _ a1), SqL.of (s _ _ b1)⟩) a2 b2) q1⟩⟩
  · subst e
    obtain ⟨v, w, rfl, h1, h2⟩ := rep2 rs1
    cases (show Dq K Hb1 v (.tuple xs) from h1) with
    | tup a1 a2 =>
      cases (show Dq K Hb1 w (.tuple ys) from h2) with
      | tup b1 b2 => exact ⟨_, _, _, _, rfl, .inr ⟨Same.seqT st1.st.ex a1, Same.seqT st1.st.ex b1, c _ Hb1 H1 _ st1 (gives_zip (walk_zipT rfl) (fun H' s => ⟨Same.seqT s a1, Same.seqT s b1⟩) a2 b2) q1⟩⟩
def dEnum (f : DTA) : DTI := fun env Q => f env fun ss => ∃ xs, ss = [.d (.list xs)] ∧ Q (enumD 0 xs)
theorem si_enum (h : SdA K F tr fr) : SdI K F (iEnum K tr) (dEnum fr) := by
  intro Hb H σ env Q R rp q c
  refine h Hb H σ env _ _ rp q fun vs Hb1 H1 ss st1 rs1 q1 => ?_
  obtain ⟨xs, e, q1⟩ := q1
  subst e
  obtain ⟨v, rfl, h1⟩ := rep1 rs1
  cases (show Dq K Hb1 v (.list xs) from h1) with
  | @lst a vs _ a1 a2 =>
    refine ⟨_, _, rfl, SqL.of (st1.st.ex _ _ a1), c _ Hb1 H1 _ st1 ⟨fun H => SqL K H a vs, _, by rw [enumD_length, ← DqAll.length a2]; exact walk_enum, fun H' s => SqL.of (s _ _ a1), fun i Hb' H x H' hi st ex y => ?_⟩ q1⟩
    obtain ⟨T, p, q, e1, e2, e3, e4, e5⟩ := y
    obtain ⟨d, d1, d2⟩ := DqAll.get a2 e5
    cases e4
    subst e1 e3
    obtain ⟨s2, r2⟩ := pair_new (K := K) (Hb := Hb') st e2 (Dq.int (i : Nat)) (Dq.mono ex d2)
    refine ⟨_, _, ?_, s2, r2⟩
    have := enumD_get 0 i xs d d1
    rw [Nat.zero_add] at this
    exact this
end

/-! ### terms -/
structure DG (X : Cx) (F : Fr) (js : List Nat) (tg : Expr) (g : TG) (t : DTG) : Prop where
  pe : PG X tg g
  sd : SdG X.K F js g t
structure DGs (X : Cx) (F : Fr) (js : List Nat) (tg : List Expr) (g : TGs) (t : DTGs) : Prop where
  pe : PGs X tg g
  sd : SdGs X.K F js g t
structure DP (X : Cx) (F : Fr) (es : List Expr) (te : TT) (t : DTT) : Prop where
  pe : PTs X es te
  sd : SdT X.K F te t
def dYes : DTT := fun _ Q => Q true
section
variable {X : Cx} {F : Fr} {js : List Nat} {e tg iter elt c : Expr} {es : List Expr} {te : TE} {fe : DTE} {tr : TA} {fr : DTA} {wi : TI} {fi : DTI} {g : TG} {fg : DTG} {gs : TGs} {fgs : DTGs} {tt : TT} {ft : DTT} {ts : TS} {fs : DTS} {p pos : Pos}
theorem do_none : DO X F none tNoPart dNoPart := ⟨po_none, so_none⟩
theorem do_some (h : DE X F e te fe) : DO X F (some e) (tPart te) (dPart fe) := ⟨po_some h.pe, so_some (h.sd)⟩
theorem de_slice {r : V → Option Int → Option Int → Hp → VK → Prop} {f : FS} {lo hi : Option Expr} {tl th : TO} {fl fh : DTO} {p2 : Pos} (hr : SlR X r) (ls : ∀ hid, LS X.K hid r f) (he : DE X F e te fe) (hl : DO X F lo tl fl) (hh : DO X F hi th fh) :
    DE X F (.Subscript e (.Slice lo hi none p2) pos) (tSl r te tl th) (dSl f fe fl fh) := ⟨pe_slice hr he.pe hl.pe hh.pe, sd_slice (ls F.hid) (he.sd) (hl.sd) (hh.sd)⟩
theorem di_list (h : DE X F e te fe) : DI X F tg e (iList X.K te) (dList fe) := ⟨pi_list h.pe, si_list (h.sd)⟩
theorem di_tup (h : DE X F e te fe) : DI X F tg e (iTup X.K te) (dTup fe) := ⟨pi_tup h.pe, si_tup (h.sd)⟩
theorem di_str (h : DE X F e te fe) : DI X F tg e (iStr te) (dStrI fe) := ⟨pi_str h.pe, si_str (h.sd)⟩
theorem di_rng1 {a : Expr} (hm : X.mg "range" = none) (ha : DA X F [a] tr fr) (hg : Gl X "range" := by rfl) (hs : starEach [a] X.env = [(false, eval a X.env)] := by rfl) : DI X F tg (.Call (.Name "range" p) [a] [] pos) (iRng1 tr) (dRng1 fr) := ⟨pi_range1 hg hm ha.pe hs, si_rng1 (ha.sd)⟩
theorem di_zip {a b : Expr} {elts : List Expr} {kk : Nat} {tpos : Pos} (hm : X.mg "zip" = none) (ha : DA X F [a, b] tr fr) (hg : Gl X "zip" := by rfl) (hs : starEach [a, b] X.env = (false, eval a X.env) :: starEach [b] X.env := by rfl) (hpl : (backTo pos (starEach [b] X.env)).any (·.1) = false := by rfl) :
    DI X F (.Tuple elts kk tpos) (.Call (.Name "zip" p) [a, b] [] pos) (iZipA X.K tr) (dZip fr) := ⟨pi_zipA hg hm ha.pe hs hpl, si_zip (ha.sd)⟩
theorem di_enum {a : Expr} {elts : List Expr} {kk : Nat} {tpos : Pos} (hm : X.mg "enumerate" = none) (ha : DA X F [a] tr fr) (hg : Gl X "enumerate" := by rfl) (hs : starEach [a] X.env = [(false, eval a X.env)] := by rfl) :
    DI X F (.Tuple elts kk tpos) (.Call (.Name "enumerate" p) [a] [] pos) (iEnum X.K tr) (dEnum fr) := ⟨pi_enum hg hm ha.pe hs, si_enum (ha.sd)⟩
theorem dg_name (i : Nat) (hj : i ∈ js) {x : Str} (hN : X.N.Nodup) (hi : X.N[i]? = some x := by rfl) (hx : Loc X.env.scope x := by first | exact Or.inl rfl | exact Or.inr rfl) (hf : X.fn x = true ∨ X.env.scope.names.lookup x = some .local := by first | exact .inl rfl | exact .inr rfl) : DG X F js (.Name x pos) (gName i) (dgName i) := ⟨pg_name hN hi hx hf, sg_name i hj⟩
theorem dgs_nil : DGs X F js [] gNil dgNil := ⟨pgs_nil, sg_nil⟩
theorem dgs_cons (h1 : DG X F js e g fg) (h2 : DGs X F js es gs fgs) (hs : (assignEach (e :: es) X.env).map (·.2) = assign e X.env :: (assignEach es X.env).map (·.2) := by rfl) : DGs X F js (e :: es) (gCons g gs) (dgCons fg fgs) := ⟨pgs_cons h1.pe h2.pe hs, sg_cons (h1.sd) (h2.sd)⟩
theorem dg_tup {k n : Nat} (hc : X.calm = true) (h : DGs X F js es gs fgs) (hn : (assignEach es X.env).length = n := by rfl) (hst : (assignEach es X.env).findIdx? (·.1) = none := by rfl) : DG X F js (.Tuple es k pos) (gTup X.K n gs) (dgTup n fgs) := ⟨pg_tup hc h.pe hn hst, sg_tup (h.sd)⟩
theorem dp_nil : DP X F [] tYes dYes := ⟨pts_nil, fun Hb H σ env Q k r q c => c true Hb H (Step.refl r.st) q⟩
theorem dp_one (h : DT X F c tt ft) : DP X F [c] tt ft := ⟨pts_one h.pe, (h.sd)⟩
theorem ds_for {body : List Stmt} (hi : DI X F tg iter wi fi) (hg : DG X F js tg g fg) (hb : DSs X F body ts fs) (hp : PassesOwn (model X.prog X.w) X.A X.env X.xe := by exact PassesOwn.never) (hc : X.calm = true := by rfl) (hs : ∀ x, foldedSetIterable iter X.env x = pure x := by intro _; rfl) :
    DS X F (.For tg iter body [] pos) (tFor wi g ts) (dFor fi fg fs) := ⟨ps_for hp hc hi.pe hg.pe hb.pe hs, sd_for (hi.sd) (hg.sd) (hb.sd)⟩
/-- a, b = e -/
def dAsgG (t : DTE) (g : DTG) : DTS := fun E env => t env fun s => g s.fz env E.nx
theorem sd_asgG {K : PySem.W.Frag} (he : SdE K F te fe) (hg : SdG K F js g fg) : SdS K F (tAsg te g) (dAsgG fe fg) := by
  intro Hb H σ env D E r q l
  refine he.go (Q := fun s => fg s env E.nx) r q fun v Hb1 H1 s st1 rs1 e1 q1 => ?_
  exact hg Hb1 H1 σ env v s E.nx _ (r.on st1) rs1 e1 q1 fun σ' env' _ r' q' => l.nx Hb1 H1 σ' env' st1.ex r' q'
theorem ds_asg (he : DE X F e te fe) (hg : DG X F js tg g fg) (hs : swapsWithSole [tg] e pos.line X.env = pure false := by rfl) (hw : swappedStores [tg] e X.env = pure none := by rfl) (h1 : (assignEach [tg] X.env).map (·.2) = [assign tg X.env] := by rfl) : DS X F (.Assign [tg] e pos) (tAsg te g) (dAsgG fe fg) :=
  ⟨ps_asg he.pe hg.pe hs hw h1, sd_asgG (he.sd) (hg.sd)⟩
/-- x.append(e), x a list of one's own -/
theorem ds_app (i : Nat) {x : Str} {px apos cpos : Pos} (he : DE X F e te fe) (hN : X.N[i]? = some x := by rfl) (hv : Vis X.env.scope x := by first | exact Or.inl rfl | exact Or.inr (Or.inl rfl) | exact Or.inr (Or.inr rfl)) (hd : (x == ("__debug__" : Str)) = false := by decide)
    (hcd : (x == ("__classdict__" : Str)) = false := by decide) (h : PE X (.Call (.Attribute (.Name x px) "append" apos) [e] [] cpos) (tBM X.K "list" rAppend (tVar i) (tCons te tNil))) (hs : swapsWith (.Call (.Attribute (.Name x px) "append" apos) [e] [] cpos) none pos.line X.env = pure false := by rfl) :
    DS X F (.Expr (.Call (.Attribute (.Name x px) "append" apos) [e] [] cpos) pos) (tDrop (tBM X.K "list" rAppend (tVar i) (tCons te tNil))) (dApp i fe) := ⟨ps_expr h hs, sd_app i (he.sd)⟩
theorem de_lc {ifs : List Expr} {scope : Scope} {own : List (Str × Nat)} (hN : X.N.Nodup) (hi : DI X F tg iter wi fi) (ok : BlkOk X.N X.env.scope scope own)
    (hg : ∀ (s : Shared) (H : Hp) (C : Addr) (cl : List (Str × Addr)) (fp : List Addr), DG (X.blk s H scope (compEnvC scope cl C X.env) fp) F (own.map (·.2)) tg g fg) (ht : ∀ (s : Shared) (H : Hp) (C : Addr) (cl : List (Str × Addr)) (fp : List Addr), DP (X.blk s H scope (compEnvC scope cl C X.env) fp) F ifs tt ft)
    (he : ∀ (s : Shared) (H : Hp) (C : Addr) (cl : List (Str × Addr)) (fp : List Addr), DE (X.blk s H scope (compEnvC scope cl C X.env) fp) F elt te fe) (hc : X.calm = true := by rfl) (hs : ∀ x, foldedSetIterable iter X.env x = pure x := by intro _; rfl) :
    DE X F (.ListComp elt [⟨tg, iter, ifs, 0⟩] scope pos) (tLc wi g tt te (own.map (·.2))) (dLc fi fg ft fe (own.map (·.2))) :=
  ⟨pe_lc hc hN hi.pe ok (fun s H C cl fp => (hg s H C cl fp).pe) (fun s H C cl fp => (ht s H C cl fp).pe) (fun s H C cl fp => (he s H C cl fp).pe) hs,
    sd_lc (hi.sd) ((hg {} (fun _ => none) 0 [] []).sd) ((ht {} (fun _ => none) 0 [] []).sd) ((he {} (fun _ => none) 0 [] []).sd)⟩
end

/-! ### repr -/
def okR (d : PyData) : Prop := d.hasDict = false ∧ d.showable = true ∧ d.shown.length ≤ sizeLine ∧ d.depth ≤ 60
section
variable {X : Cx} {K : PySem.W.Frag} {hid : Hid}
def isSeq : PyData → Bool
  | .list _ => true | .tuple _ => true | _ => false
def fRepr : FN := fun ss Q => match ss with
  | [.d x] => okR x ∧ isSeq x = true ∧ Q (.d (.str x.shown))
  | _ => False
/-! ### sorted texts -/
def strsD : List PyData → Option (List Str)
  | [] => some []
  | .str x :: ds => (strsD ds).map (x :: ·)
  | _ :: _ => none
theorem strs_rep {Hb : Hp} : ∀ {ds : List PyData} {vs : List V} {xs : List Str}, DqAll K Hb vs ds → strsD ds = some xs → vs = xs.map V.str
  | [], _, _, .nil, e => by cases e; rfl
  | .str x :: ds, _, xs, .cons h t, e => by
    unfold strsD at e
    cases q : strsD ds with
    | none => rw [q] at e; cases e
    | some ys =>
      rw [q] at e
      cases e
      cases h
      rw [strs_rep t q]
      rfl
  | .none :: _, _, _, _, e => by cases e
  | .bool _ :: _, _, _, _, e => by cases e
  | .int _ :: _, _, _, _, e => by cases e
  | .list _ :: _, _, _, _, e => by cases e
  | .tuple _ :: _, _, _, _, e => by cases e
  | .dict _ :: _, _, _, _, e => by cases e
theorem strs_all {Hb : Hp} : ∀ xs : List Str, DqAll K Hb (xs.map V.str) (xs.map PyData.str)
  | [] => .nil
  | x :: xs => .cons (.str x) (strs_all xs)
def fSortedS : FN := fun ss Q => match ss with
  | [.d (.list ds)] => ∃ xs, strsD ds = some xs ∧ xs.length < 64 ∧ ∀ ys : List Str, ys.Perm xs → sortedS ys = true → Q (.own (ys.map PyData.str))
  | _ => False
theorem lc_sortedS : LC K hid (rSortedS K) fSortedS := by
  intro Hb H xs ss Q k st r q c
  unfold fSortedS at q
  split at q
  · rename_i ds
    obtain ⟨zs, e, h64, q⟩ := q
    obtain ⟨v, rfl, h⟩ := rep1 r
    cases (show Dq K Hb v (.list ds) from h) with
    | lst h1 h2 =>
      have ev := strs_rep h2 e
      subst ev
      refine ⟨_, zs, rfl, SqL.of (st.ex _ _ h1), h64, fun ys p hp hs hn => ?_⟩
      obtain ⟨s2, r2, f2⟩ := own_new (K := K) st hn (strs_all (K := K) (Hb := Hb) ys)
      exact c _ Hb _ (.own _) s2 r2 f2 (q ys hp hs)
  · exact q.elim
end
end Pu

end

section
/-! Pu7: defs bundled, the law's own def. -/
namespace Pu
open PySem L2 PyProof.Rows RZ

/-- a def of the text as it stands: its object, its name, its promise -/
structure At (K : PySem.W.Frag) (mg : Str → Option Value) (x : Str) (st : Stmt) (ps : List Str) : Prop where
  ex : ∃ f fd, Fun K x x st f fd ∧ mg x = some (.ref f) ∧ Binds K fd ps []
structure Fn (P : Program) (w : World) (K : PySem.W.Frag) (mg : Str → Option Value) (base : Heap) (x : Str) (k : Nat) (ps : List Str) (sp : Sp) : Prop where
  ex : ∃ f fd, mg x = some (.ref f) ∧ PySem.W.keepIn K (.ref f) = true ∧ Binds K fd ps [] ∧ FnG P w K mg base CX0 k f fd ps sp
section
variable {P : Program} {w : World} {K : PySem.W.Frag} {mg : Str → Option Value} {base : Heap}
theorem Fn.mk' {x : Str} {st : Stmt} {ps : List Str} {k : Nat} {sp : Sp} (A : At K mg x st ps) (h : ∀ f fd, Fun K x x st f fd → FnG P w K mg base CX0 k f fd ps sp) : Fn P w K mg base x k ps sp := by
  obtain ⟨f, fd, F, hm, hb⟩ := A.ex
  exact ⟨f, fd, hm, F.kp, hb, h f fd F⟩
theorem fnD {x : Str} {st : Stmt} {N ps : List Str} {k : Nat} {m : FN} (A : At K mg x st ps) (S : FnScope N ps (defScope st))
    (body : ∀ (G : Fr) (f : Addr) (cdv : Value) (A : Around) (outer : List Env) (s : Shared) (H : Hp) (E : XK), RoomG k (A.deeper (envOfC x (defScope st) s.heap.objs.size f cdv)) → ∀ (ss : List Sl) (R : DK), ss.length = ps.length → m ss R →
      ∃ ts t, DSs (cxOf CX0 P w K mg base N x (defScope st) f cdv A outer s H E).nox G (defBody st) ts t ∧ t { nx := fun _ => R (.d .none), rt := R } (startE N ss)) :
    Fn P w K mg base x (k + 1) ps (spX K ps.length m) :=
  .mk' A fun f fd F => okD F S (fun G cdv A outer s H E hr => body G f cdv A outer s H E hr)
end
section
variable {X : Cx} {F : Fr} {k n : Nat} {ps : List Str} {m : FN} {x : Str} {p pos : Pos} {e : Expr} {es : List Expr} {ta : TA} {fa : DTA}
theorem de_fn (G : Fn X.prog X.w X.K X.mg X.base x k ps (spX X.K n m)) (hr : RoomG k X.A) (ha : DA X F (e :: es) ta fa)
    (hg : Gl X x := by rfl) (hdb : (x == ("__debug__" : Str)) = false := by decide) (he : starEach (e :: es) X.env = (false, eval e X.env) :: starEach es X.env := by rfl) (hpl : (backTo pos (starEach es X.env)).any (·.1) = false := by rfl) :
    DE X F (.Call (.Name x p) (e :: es) [] pos) (tFn (spX X.K n m) ta) (dFn n m fa) := by
  obtain ⟨f, fd, hm, hk, hb, J⟩ := G.ex
  exact de_call J hr hm hk hb ha hg hdb he hpl
end
/-! ### the law's def -/
def spSource (K : PySem.W.Frag) : Sp := fun vs H Q _ => ∃ (a : Addr) (ns : List Int), vs = [.ref a] ∧ SqL K H a (ns.map V.int) ∧ ns.length ≤ 100 ∧ ∀ H' p c, Same H H' → H p = none → H c = none → SrcAt H' p c → Q (.ref p) H'
def spLaw (K : PySem.W.Frag) : Sp := fun vs H Q _ => ∃ (a : Addr) (ns : List Int), vs = [.ref a] ∧ SqL K H a (ns.map V.int) ∧ ns.length ≤ 63 ∧ ∀ H', Q (.bl true) H'
section
variable {P : Program} {w : World} {K : PySem.W.Frag} {mg : Str → Option Value} {base : Heap}
theorem okLaw {st : Stmt} {f : Addr} {fd : FuncData} {N : List Str} {k : Nat} {rest : List Stmt} {px p1 p2 p3 pos : Pos} (F : Fun K "law" "law" st f fd) (S : FnScope ("script" :: "source" :: N) ["script"] (defScope st))
    (hb : defBody st = .Assign [.Name "source" px] (.Call (.Name "_law_source" p1) [.Name "script" p2] [] p3) pos :: rest) (G : Fn P w K mg base "_law_source" 1 ["script"] (spSource K))
    (body : ∀ (cdv : Value) (A : Around) (outer : List Env) (s : Shared) (H : Hp) (E : XK), RoomG (k + 1) (A.deeper (envOfC "law" (defScope st) s.heap.objs.size f cdv)) →
      ∃ ts t, (∀ G : Fr, DSs (cxOf CX0 P w K mg base ("script" :: "source" :: N) "law" (defScope st) f cdv A outer s H E).nox G rest ts t) ∧ t { nx := fun _ => False, rt := fun s => s = .d (.bool true) } (none :: some .src :: List.replicate N.length none))
    (first : ∀ (cdv : Value) (A : Around) (outer : List Env) (s : Shared) (H : Hp) (E : XK), RoomG (k + 1) (A.deeper (envOfC "law" (defScope st) s.heap.objs.size f cdv)) →
      PS (cxOf CX0 P w K mg base ("script" :: "source" :: N) "law" (defScope st) f cdv A outer s H E).nox (.Assign [.Name "source" px] (.Call (.Name "_law_source" p1) [.Name "script" p2] [] p3) pos) (tAsg (tFn (spSource K) (tCons (tVar 0) tNil)) (gName 1))) :
    FnG P w K mg base CX0 (k + 2) f fd ["script"] (spLaw K) := by
  refine goes_of0 F S (fun vs H Q E h => ?_) (fun cdv A outer s H vs Q E hr hsp => ?_)
  · obtain ⟨a, ns, rfl, _⟩ := h
    rfl
  · obtain ⟨a, ns, rfl, hS, hlen, q⟩ := hsp
    rw [hb]
    obtain ⟨ts, t, B0, h⟩ := body cdv A outer s H E hr
    refine ⟨_, pss_cons (first cdv A outer s H E hr) (B0 ⟨none, fun _ => none, fun _ => none, fun _ => none⟩).pe, ?_⟩
    refine ⟨_, rfl, a, ns, rfl, hS, by omega, fun H' p c sm hp hc src => ?_⟩
    have st0 : St0 (some (p, c)) (fun _ => none) H' := ⟨fun b o e => (by cases e), src, fun _ _ => rfl⟩
    have B := (B0 ⟨some (p, c), fun _ => none, H', fun _ => none⟩).sd (fun _ => none) H' (some (.ref a) :: some (.ref p) :: List.replicate N.length none) (none :: some .src :: List.replicate N.length none)
      { nx := fun _ H' => Q .non H', rt := Q } { nx := fun _ => False, rt := fun s => s = .d (.bool true) }
    refine B ⟨Step.refl st0, Same.refl _, by simp, fun i s e => ?_, fun i j t1 t2 p hij e _ o1 _ _ => ?_⟩ h ⟨fun _ _ _ _ _ _ z => z.elim, fun _ _ _ _ _ _ z => z.elim, fun _ _ _ _ _ _ z => z.elim, fun v Hb' H2 s' _ _ rs _ e => ?_⟩
    · match i with
      | 0 => cases e
      | 1 => cases e; exact ⟨.ref p, rfl, ⟨p, c, rfl, rfl⟩, trivial⟩
      | i + 2 =>
        have e' : (List.replicate N.length (none : Option Sl))[i]? = some (some s) := e
        rw [List.getElem?_replicate] at e'
        split at e' <;> cases e'
    · match i with
      | 0 => cases e
      | 1 => cases e; exact o1.elim
      | i + 2 =>
        have e' : (List.replicate N.length (none : Option Sl))[i]? = some (some t1) := e
        rw [List.getElem?_replicate] at e'
        split at e' <;> cases e'
    · subst e
      have e2 := bool_of rs rfl
      subst e2
      exact q H2
end
end Pu
namespace Pu
open PySem L2 PyProof.Rows RZ
section
variable {X : Cx} {F : Fr} {tg iter elt : Expr} {te : TE} {fe : DTE} {wi : TI} {fi : DTI} {g : TG} {fg : DTG} {tt : TT} {ft : DTT} {pos : Pos}
theorem ds_setLcF (i : Nat) {y : Str} {py : Pos} {spos : Pos} {ifs : List Expr} {scope : Scope} {own : List (Str × Nat)} (hN : X.N.Nodup) (hi : DI X F tg iter wi fi) (ok : BlkOk X.N X.env.scope scope own)
    (hg : ∀ (s : Shared) (H : Hp) (C : Addr) (cl : List (Str × Addr)) (fp : List Addr), DG (X.blk s H scope (compEnvC scope cl C X.env) fp) F (own.map (·.2)) tg g fg) (ht : ∀ (s : Shared) (H : Hp) (C : Addr) (cl : List (Str × Addr)) (fp : List Addr), DP (X.blk s H scope (compEnvC scope cl C X.env) fp) F ifs tt ft)
    (he : ∀ (s : Shared) (H : Hp) (C : Addr) (cl : List (Str × Addr)) (fp : List Addr), DE (X.blk s H scope (compEnvC scope cl C X.env) fp) F elt te fe) (hsw : swapsWith (.ListComp elt [⟨tg, iter, ifs, 0⟩] scope pos) (some (.Name y py)) spos.line X.env = pure true) (hc : X.calm = true := by rfl) (hs : ∀ x, foldedSetIterable iter X.env x = pure x := by intro _; rfl)
    (hy : X.N[i]? = some y := by rfl) (hyl : X.env.scope.names.lookup y = some .local := by rfl) :
    DS X F (.Assign [.Name y py] (.ListComp elt [⟨tg, iter, ifs, 0⟩] scope pos) spos) (tAsg (tLc wi g tt te (own.map (·.2))) (gName i)) (dSet (fun env Q => dLc fi fg ft fe (own.map (·.2)) env fun s => Q s.fz) i) :=
  ⟨ps_setLc hc hN hy hyl hsw hi.pe ok (fun s H C cl fp => (hg s H C cl fp).pe) (fun s H C cl fp => (ht s H C cl fp).pe) (fun s H C cl fp => (he s H C cl fp).pe) hs,
    sd_set i (sd_lc (hi.sd) ((hg {} (fun _ => none) 0 [] []).sd) ((ht {} (fun _ => none) 0 [] []).sd) ((he {} (fun _ => none) 0 [] []).sd)).fz⟩
end
end Pu
/-! The rules that name the written part, with it by name. -/
namespace Pu
open PySem L2 PyProof.Rows RZ
section
variable {X : Cx} {F : Fr} {K : PySem.W.Frag}
theorem k_eq (e : X.K = K) (hu : X.A.units + 64 < cLine) : OpR X (compareOp .Eq) (rEqQ K) := e ▸ op_eqQ hu
theorem k_ne (e : X.K = K) (hu : X.A.units + 64 < cLine) : OpR X (compareOp .NotEq) (rNeQ K) := e ▸ op_neQ hu
theorem k_in (e : X.K = K) : OpR X (compareOp .In) (rIn K false) := e ▸ op_in_seq
theorem k_notIn (e : X.K = K) : OpR X (compareOp .NotIn) (rIn K true) := e ▸ op_notIn_seq
theorem k_ix (e : X.K = K) : IxR X (rIx K) := e ▸ ix_seq
theorem k_slL (e : X.K = K) : SlR X (rSlL K) := e ▸ sl_list
theorem k_slT (e : X.K = K) : SlR X (rSlA K) := e ▸ sl_tupA
theorem k_catT (e : X.K = K) : OpR X (binaryOp .Add) (rCatA K) := e ▸ op_catA
theorem k_len (e : X.K = K) : CallR X (.builtin "len") (fun xs H Q => ∃ x n, xs = [x] ∧ LenV K x H n ∧ Q (.int n) H) := e ▸ call_len
theorem k_list (e : X.K = K) : CallR X (.type "list") (fun xs H Q => ∃ p ys, xs = [.ref p] ∧ (SqL K H p ys ∨ SqT K H p ys) ∧ ∀ l, H l = none → Q (.ref l) (upd H l (.lst ys))) := e ▸ call_list_of
theorem k_tuple (e : X.K = K) : CallR X (.type "tuple") (fun xs H Q => ∃ p ys, xs = [.ref p] ∧ ((SqL K H p ys ∧ ∀ l, H l = none → Q (.ref l) (upd H l (.tup ys))) ∨ (SqT K H p ys ∧ Q (.ref p) H))) := e ▸ call_tuple_of
theorem k_sortedS (e : X.K = K) : CallR X (.builtin "sorted") (rSortedS K) := e ▸ cr_sortedS
variable {tg e : Expr} {te : TE} {fe : DTE} {tr : TA} {fr : DTA} {es : List Expr} {js : List Nat} {gs : TGs} {fgs : DTGs} {p pos : Pos}
theorem ki_list (q : X.K = K) (h : DE X F e te fe) : DI X F tg e (iList K te) (dList fe) := q ▸ di_list h
theorem ki_tup (q : X.K = K) (h : DE X F e te fe) : DI X F tg e (iTup K te) (dTup fe) := q ▸ di_tup h
theorem ki_zip (q : X.K = K) {a b : Expr} {elts : List Expr} {kk : Nat} {tpos : Pos} (hm : X.mg "zip" = none) (ha : DA X F [a, b] tr fr) (hg : Gl X "zip" := by rfl) (hs : starEach [a, b] X.env = (false, eval a X.env) :: starEach [b] X.env := by rfl) (hpl : (backTo pos (starEach [b] X.env)).any (·.1) = false := by rfl) :
    DI X F (.Tuple elts kk tpos) (.Call (.Name "zip" p) [a, b] [] pos) (iZipA K tr) (dZip fr) := q ▸ di_zip hm ha hg hs hpl
theorem ki_enum (q : X.K = K) {a : Expr} {elts : List Expr} {kk : Nat} {tpos : Pos} (hm : X.mg "enumerate" = none) (ha : DA X F [a] tr fr) (hg : Gl X "enumerate" := by rfl) (hs : starEach [a] X.env = [(false, eval a X.env)] := by rfl) :
    DI X F (.Tuple elts kk tpos) (.Call (.Name "enumerate" p) [a] [] pos) (iEnum K tr) (dEnum fr) := q ▸ di_enum hm ha hg hs
theorem kg_tup (q : X.K = K) {k n : Nat} (hc : X.calm = true) (h : DGs X F js es gs fgs) (hn : (assignEach es X.env).length = n := by rfl) (hst : (assignEach es X.env).findIdx? (·.1) = none := by rfl) : DG X F js (.Tuple es k pos) (gTup K n gs) (dgTup n fgs) := q ▸ dg_tup hc h hn hst
theorem k_fn (q : X.K = K) {k n : Nat} {ps : List Str} {m : FN} {x : Str} {ta : TA} {fa : DTA} (G : Fn X.prog X.w K X.mg X.base x k ps (spX K n m)) (hr : RoomG k X.A) (ha : DA X F (e :: es) ta fa)
    (hg : Gl X x := by rfl) (hdb : (x == ("__debug__" : Str)) = false := by decide) (he : starEach (e :: es) X.env = (false, eval e X.env) :: starEach es X.env := by rfl) (hpl : (backTo pos (starEach es X.env)).any (·.1) = false := by rfl) :
    DE X F (.Call (.Name x p) (e :: es) [] pos) (tFn (spX K n m) ta) (dFn n m fa) := by
  subst q
  exact de_fn G hr ha hg hdb he hpl
end
end Pu

end

section
/-! PuT: sets of texts, whose order nobody knows. -/
namespace Pu
open PySem L2 PySem.Spec PyProof.Rows

section
variable {P : Program} {w : World} {κ : Type} [DecidableEq κ] (kd : PySem.KeyKind P w κ)
/-- no two rows hold the same key -/
def Apart (l : List (Int × Value)) : Prop := l.Pairwise fun x y => ∀ k, kd.is k x.2 = true → kd.is k y.2 = true → False
structure SG0 (o : Obj) (es : Array (Int × Value)) (ep : Nat) (t : SetTable) (S : κ → Bool) (n : Nat) : Prop where
  ex : o.ExactSet
  da : o.data = .set es ep t
  el : ElemsOf kd es.toList
  ap : Apart kd es.toList
  me : ∀ k, S k = true ↔ ∃ e ∈ es.toList, kd.is k e.2 = true
  lt : es.size < scanBound
  fi : t.fits es.size = true
  sz : es.size = n
  ri : Ris t.place.toList
  le : w.params.followText "set-order" = true ∨ t.led = true
/-- at a stands a set with the members S, n of them -/
def SG (h : Heap) (a : Addr) (S : κ → Bool) (n : Nat) : Prop := ∃ o es ep t, h.get? a = some o ∧ SG0 kd o es ep t S n
end
section
variable {P : Program} {w : World} {κ : Type} [DecidableEq κ] {kd : PySem.KeyKind P w κ} {h h' : Heap} {a : Addr} {S S' : κ → Bool} {n : Nat}
theorem SG.at (R : SG kd h a S n) (k : ∀ o, h.get? a = some o → h'.get? a = some o) : SG kd h' a S n := let ⟨o, es, ep, t, ho, r⟩ := R; ⟨o, es, ep, t, k o ho, r⟩
theorem SG.congr (R : SG kd h a S n) (e : ∀ k, S' k = S k) : SG kd h a S' n := (funext e : S' = S) ▸ R
theorem apart_perm {l l' : List (Int × Value)} (p : l'.Perm l) (q : Apart kd l) : Apart kd l' :=
  (p.pairwise_iff (R := fun x y : Int × Value => ∀ k, kd.is k x.2 = true → kd.is k y.2 = true → False) fun h k i j => h k j i).mpr q
theorem mem_perm {l l' : List (Int × Value)} (p : l'.Perm l) (k : κ) : (∃ e ∈ l', kd.is k e.2 = true) ↔ ∃ e ∈ l, kd.is k e.2 = true :=
  ⟨fun ⟨e, i, j⟩ => ⟨e, p.mem_iff.mp i, j⟩, fun ⟨e, i, j⟩ => ⟨e, p.mem_iff.mpr i, j⟩⟩
end

/-! ### a member put in -/
section
variable {P : Program} {w : World} {κ : Type} [DecidableEq κ] {kd : PySem.KeyKind P w κ} {A : Around} {E : Value → Shared → Prop} {s : Shared} {a : Addr} {S S' : κ → Bool} {n : Nat}
theorem sg_tail {g : Bool → Sem Unit} (hg : ∀ (b : Bool) (s₁ : Shared) (Q' : Unit → Shared → Prop), Q' () s₁ → wpAny (model P w) A (g b) Q' E s₁)
    {o : Obj} {es es1 : Array (Int × Value)} {ep : Nat} {t t2 : SetTable} (ho : s.heap.get? a = some o) (hex : o.ExactSet) (hd : o.data = .set es ep t)
    (g1 : ElemsOf kd es1.toList) (ap : Apart kd es1.toList) (me : ∀ k, S' k = true ↔ ∃ e ∈ es1.toList, kd.is k e.2 = true) (lt : es1.size < scanBound) (fi : t2.fits es1.size = true) (ri : Ris t2.place.toList)
    (le : w.params.followText "set-order" = true ∨ t2.led = true) {dum : Bool} {R : Option Bool → Shared → Prop}
    (hR : ∀ h', Heap.SameBut a s.heap h' → SG kd h' a S' es1.size → R (some true) { s with heap := h' }) :
    wpAny (model P w) A (do
        storeSet a es1 t2
        if (!dum && t2.tooFull) = true then do
            g (relayAll t2 es1 (SetTable.grown es1.size)).2.2
            storeSet a (relayAll t2 es1 (SetTable.grown es1.size)).1 (relayAll t2 es1 (SetTable.grown es1.size)).2.1
            pure (some true)
          else pure (some true)) R E s := by
  refine wpAny_bind (wpAny_storeSet_of ho hd ?_ (fits_of_scanBound lt))
  have at1 := store_at (es' := es1) (t' := t2) ho hd
  have but1 := Heap.SameBut.update s.heap a (Obj.putSet es1 t2)
  split
  · have p1 := relayAll_perm t2 es1 (SetTable.grown es1.size)
    have p2 := relayAll_fits t2 es1 (SetTable.grown es1.size)
    have p3 := relayAll_ris t2 es1 (SetTable.grown es1.size)
    have p4 := relayAll_led t2 es1 (SetTable.grown es1.size)
    generalize relayAll t2 es1 (SetTable.grown es1.size) = Z at p1 p2 p3 p4 ⊢
    obtain ⟨es2, t3, gv⟩ := Z
    dsimp only at p1 p2 p3 p4 ⊢
    have z2 : es2.size = es1.size := by rw [← Array.length_toList, p1.length_eq, Array.length_toList]
    refine wpAny_bind (hg _ _ _ ?_)
    refine wpAny_bind (wpAny_storeSet_of at1 rfl ?_ (fits_of_scanBound (z2 ▸ lt)))
    have at2 := store_at (es' := es2) (t' := t3) at1 rfl
    exact wpAny_pure (hR _ (but1.trans (Heap.SameBut.update _ a _)) ⟨_, es2, _, t3, at2, hex, rfl, g1.perm p1, apart_perm p1 ap, fun k => (me k).trans (mem_perm p1 k).symm, z2 ▸ lt, p2, z2, p3, le.imp id fun q => p4 ▸ q⟩)
  · exact wpAny_pure (hR _ but1 ⟨_, es1, _, t2, at1, hex, rfl, g1, ap, me, lt, fi, rfl, ri, le⟩)
theorem sg_put {k : κ} {v : Value} {Q : Bool → Shared → Prop} (kv : kd.is k v = true) (sc : v.scannable = true) (R : SG kd s.heap a S n) (room : n + 1 < scanBound)
    (hQ : ∀ h', Heap.SameBut a s.heap h' → SG kd h' a (fun j => S j || decide (j = k)) (if S k = true then n else n + 1) → Q (!S k) { s with heap := h' }) :
    wpAny (model P w) A (setAddHashed a v (kd.hash k)) Q E s := by
  obtain ⟨o, es, ep, t, ho, r⟩ := R
  unfold setAddHashed setAddHashedIn
  refine wpAny_holding (wpAny_bind (wpAny_setState_of ho r.da r.fi ?_))
  dsimp only
  rw [byScan_of sc r.lt r.el]
  simp only [↓reduceIte]
  unfold setAddByScan
  refine wpAny_bind (wpAny_bind (wpAny_rule (wpAny_bind (wpAny_setScan_of kv ho r.da r.fi r.el ?_))))
  cases fnd : List.findIdx? (fun e => kd.is k e.2) es.toList with
  | some j =>
    dsimp only
    obtain ⟨hj, pj, _⟩ := List.findIdx?_eq_some_iff_getElem.mp fnd
    have inS : S k = true := (r.me k).2 ⟨es.toList[j], List.getElem_mem hj, pj⟩
    have q := hQ s.heap (Heap.SameBut.refl a s.heap) ⟨o, es, ep, t, ho, r.ex, r.da, r.el, r.ap, fun i => by
      rw [Bool.or_eq_true, decide_eq_true_eq, ← r.me i]
      exact ⟨fun z => z.elim id (fun e => e ▸ inS), .inl⟩, r.lt, r.fi, (by rw [if_pos inS]; exact r.sz), r.ri, r.le⟩
    rw [inS] at q
    exact wpAny_pure (wpAny_pure q)
  | none =>
    dsimp only
    have away : ∀ e ∈ es.toList, kd.is k e.2 = true → False := fun e he z => by
      have c := List.findIdx?_eq_none_iff.mp fnd e he
      rw [z] at c; cases c
    have notS : S k = false := by
      cases q : S k with
      | false => rfl
      | true =>
        obtain ⟨e, he, z⟩ := (r.me k).1 q
        exact (away e he z).elim
    have told : ∀ (b : Bool) {s₁ : Shared} {Q' : Unit → Shared → Prop}, Q' () s₁ → wpAny (model P w) A (match b with | true => rule "set.scan.the-table-gave-way" | false => pure ()) Q' E s₁ :=
      fun b s₁ Q' q => by cases b <;> first | exact wpAny_pure q | exact wpAny_rule q
    have p1 := layNew_perm t es (kd.hash k) v
    have p2 := layNew_fits t es (kd.hash k) v
    have p3 := layNew_ris t es (kd.hash k) v r.ri
    have p4 := layNew_led t es (kd.hash k) v
    generalize layNew t es (kd.hash k) v = Z at p1 p2 p3 p4 ⊢
    obtain ⟨es1, t1, dum, gv⟩ := Z
    dsimp only at p1 p2 p3 p4 ⊢
    rw [Array.toList_push] at p1
    have pc : es1.toList.Perm ((kd.hash k, v) :: es.toList) := p1.trans (List.perm_append_singleton _ _)
    have e1 : ElemsOf kd es1.toList := fun e he => by
      rcases List.mem_cons.mp (pc.mem_iff.mp he) with z | z
      · rw [z]; exact ⟨⟨k, kv, rfl⟩, sc⟩
      · exact r.el e z
    have a1 : Apart kd es1.toList := apart_perm pc (List.pairwise_cons.mpr ⟨fun e he j i1 i2 => by
      have ej : j = k := kd.inj v j k i1 kv
      rw [ej] at i2
      exact away e he i2, r.ap⟩)
    have m1 : ∀ i, (S i || decide (i = k)) = true ↔ ∃ e ∈ es1.toList, kd.is i e.2 = true := fun i => by
      rw [Bool.or_eq_true, decide_eq_true_eq, r.me i, mem_perm pc i]
      constructor
      · rintro (⟨e, i1, i2⟩ | e)
        · exact ⟨e, List.mem_cons_of_mem _ i1, i2⟩
        · exact ⟨_, List.mem_cons_self, e ▸ kv⟩
      · rintro ⟨e, i1, i2⟩
        rcases List.mem_cons.mp i1 with z | z
        · subst z
          exact .inr (kd.inj v i k i2 kv)
        · exact .inl ⟨e, z, i2⟩
    have z1 : es1.size = n + 1 := by rw [← Array.length_toList, pc.length_eq, List.length_cons, Array.length_toList, r.sz]
    have b1 : es1.size < scanBound := by rw [z1]; exact room
    have l1 : w.params.followText "set-order" = true ∨ t1.led = true := r.le.imp id fun q => p4 ▸ q
    have fin : ∀ h', Heap.SameBut a s.heap h' → SG kd h' a (fun j => S j || decide (j = k)) es1.size → Q true { s with heap := h' } := fun h' sb r' => by
      have q := hQ h' sb
      rw [notS] at q
      rw [z1] at r'
      exact q r'
    refine wpAny_bind (told _ ?_)
    split
    · refine wpAny_bind ?_
      rw [hashByValue_scannable 8 sc]
      refine wpAny_pure (sg_tail (kd := kd) ?_ ho r.ex r.da e1 a1 m1 b1 ?_ ?_ ?_ ?_)
      · intro b s₁ Q' q; cases b <;> first | exact wpAny_pure q | exact wpAny_rule q
      · first | (split <;> first | exact p2 | exact SetTable.fits_plain_off p2) | exact p2
      · first | (split <;> exact p3) | exact p3
      · first | (split <;> exact l1) | exact l1
      · intro h' sb r'; dsimp only; exact wpAny_pure (fin h' sb r')
    · refine wpAny_bind (wpAny_pure ?_)
      simp only [↓reduceIte]
      refine sg_tail (kd := kd) ?_ ho r.ex r.da e1 a1 m1 b1 p2 p3 l1 ?_
      · intro b s₁ Q' q; cases b <;> first | exact wpAny_pure q | exact wpAny_rule q
      · intro h' sb r'; dsimp only; exact wpAny_pure (fin h' sb r')
theorem sg_fresh {h : Heap} {b : Addr} (ho : h.get? b = some { cls := .type "set", dict := none, data := .set #[] 0 (.fresh 0 0 (!w.params.followText "set-order")) }) : SG kd h b (fun _ => false) 0 :=
  ⟨_, #[], 0, _, ho, ⟨rfl, rfl, rfl⟩, rfl, (fun e he => by simp at he), .nil, (fun k => by simp), (by decide), (by rfl), rfl, List.Pairwise.nil, by
    show _ ∨ (!w.params.followText "set-order") = true
    cases w.params.followText "set-order"
    · exact .inr rfl
    · exact .inl rfl⟩
end
end Pu
/-!KEEP-/
namespace Pu
open PySem L2 PySem.Spec PyProof.Rows
section
variable {P : Program} {w : World} {κ : Type} [DecidableEq κ] {kd : PySem.KeyKind P w κ} {A : Around} {E : Value → Shared → Prop} {s : Shared}
/-- the empty set that stands at the heap's end -/
abbrev hot0 (w : World) (h : Heap) : Heap := h.push { cls := .type "set", dict := none, data := .set #[] 0 (.fresh 0 0 (!w.params.followText "set-order")) }
def memB (ks : List κ) (k : κ) : Bool := decide (k ∈ ks)
theorem sg_loop {I : Addr} {fp wr : List Addr} {G : Array GenState → Array GenState → Prop} {n : Nat} {Pv : Nat → Value → Prop} {St : Nat → Shared → Prop} {R : Result → Shared → Prop}
    (W : WalksS P w A.in1 I fp wr G n Pv St) (z : Addr) (zf : z ∉ fp) (ks : List κ) (hn : n = ks.length) (hb : ks.length + 1 < scanBound) (val : ∀ i v, Pv i v → ∃ k, ks[i]? = some k ∧ kd.is k v = true ∧ v.scannable = true) :
    ∀ (m i : Nat) (s : Shared), n - i = m → i ≤ n → St i s → (∃ c, c ≤ i ∧ SG kd s.heap z (memB (ks.take i)) c) →
      (∀ s' c, Moved (z :: wr) G s s' → c ≤ n → SG kd s'.heap z (memB ks) c → R (.ok (.ret .none)) s') →
      codeAny (model P w) A (.builtin "set.update.loop" ⟨[.ref z, .ref I], []⟩) R s
  | 0, i, s, hm, hi, st, ⟨c, hc, R0⟩, fin => by
    refine codeAny_builtin F.entry_set_update_loop ?_
    rw [Around.under_plainId F.plain_set_update_loop _]
    show wpAny _ A.in1 (pyNext (.ref I) >>= _) _ _ s
    refine wpAny_bind (W.done s _ _ ((by omega : i = n) ▸ st) fun s' mv => ?_)
    show wpAny _ A.in1 (ret Value.none) _ _ s'
    rw [List.take_of_length_le (by omega)] at R0
    exact wpAny_pure (fin s' c (mv.mono fun b hb => List.mem_cons_of_mem _ hb) (by omega) (R0.at fun o e => mv.heap z o (fun h => zf (W.sub _ h)) e))
  | m + 1, i, s, hm, hi, st, ⟨c, hc, R0⟩, fin => by
    refine codeAny_builtin F.entry_set_update_loop ?_
    rw [Around.under_plainId F.plain_set_update_loop _]
    show wpAny _ A.in1 (pyNext (.ref I) >>= _) _ _ s
    refine wpAny_bind (W.item i s _ _ (by omega) st fun v s' hP st' mv => ?_)
    obtain ⟨k, hk, kv, sc⟩ := val i v hP
    have R1 : SG kd s'.heap z (memB (ks.take i)) c := R0.at fun o e => mv.heap z o (fun h => zf (W.sub _ h)) e
    show wpAny _ A.in1 (holding [v] (setAdd z v) >>= _) _ _ s'
    refine wpAny_bind (wpAny_holding ?_)
    unfold setAdd
    refine wpAny_holding (wpAny_bind (kd.pyHash kv (sg_put (s := { s' with toks := s'.toks + 1 }) kv sc R1 (by omega) fun h' but R2 => ?_)))
    have R3 : SG kd h' z (memB (ks.take (i + 1))) (if memB (ks.take i) k = true then c else c + 1) := R2.congr fun j => by
      unfold memB
      rw [List.take_add_one, hk]
      simp [List.mem_append]
    have c3 : (if memB (ks.take i) k = true then c else c + 1) ≤ i + 1 := by split <;> omega
    refine wpAny_pure ⟨plainId_quiet F.plain_set_update_loop _, sg_loop W z zf ks hn hb val m (i + 1) _ (by omega) (by omega) (W.frame _ s' _ _ st' (Nat.le_succ _) fun b hb o e => ?_) ⟨_, c3, R3⟩ fun s'' c2 mv2 hc2 R4 => ?_⟩
    · rw [but.2 b (fun h : b = z => zf (h ▸ hb))]; exact e
    · refine fin s'' c2 (Moved.trans W.gtrans ((mv.mono fun b hb => List.mem_cons_of_mem _ hb).then_heap (Nat.le_succ _) fun b o hb e => ?_) mv2) hc2 R4
      rw [but.2 b (fun h : b = z => hb (h ▸ List.mem_cons_self))]; exact e

set_option maxHeartbeats 3200000 in
/-- set(a list) -/
theorem sg_of_list {l : Addr} {items : Array Value} {ks : List κ} {Q : Value → Shared → Prop} (hh : A.handled = none) (hl : s.heap.IsList l items) (len : items.size = ks.length) (hb : ks.length + 1 < scanBound)
    (val : ∀ (i : Nat) (v : Value), items[i]? = some v → ∃ k, ks[i]? = some k ∧ kd.is k v = true ∧ v.scannable = true)
    (hQ : ∀ (h' : Heap) (tk c : Nat), SG kd h' s.heap.objs.size (memB ks) c → c ≤ ks.length → (∀ b o, s.heap.get? b = some o → h'.get? b = some o) → Q (.ref s.heap.objs.size) { s with heap := h', toks := tk }) :
    wpAny (model P w) A (call (.type "set") [.ref l]) Q E s := by
  have ⟨c, tl, hmro⟩ := F.called_set.mro
  have i1 := F.called_set.made
  have i2 := F.called_set.sub
  refine wpAny_call (codeAny_of_tree ?_)
  show wpAny _ _ (callAny (.type "set") _) _ _ _
  refine wpAny_pure ⟨Code.quiet_builtin _ (by decide +kernel), codeAny_builtin F.entry_type_call ?_⟩
  rw [Around.under_plain (weight_type_call_type "set" [.ref l] []) rfl]
  have i3 := F.called_set.notType
  have i4 := F.called_set.canCreate
  have i5 := F.typeCall_set_1 (.ref l)
  repeat (any_goals (first | assumption | wp_step))
  refine codeAny_mono (code_set_led1 (.ref l) (E := E) (Q₁ := fun v t => v = .ref s.heap.objs.size ∧ t = { s with heap := hot0 w s.heap }) ⟨rfl, rfl⟩) fun r t hr => ?_
  match r, hr with
  | .error e, hr => exact hr
  | .ok (.ret obj), hr =>
    obtain ⟨rfl, rfl⟩ := hr
    have own : (hot0 w s.heap).get? s.heap.objs.size = some { cls := .type "set", dict := none, data := .set #[] 0 (.fresh 0 0 (!w.params.followText "set-order")) } := Heap.get?_push_size _ rfl
    have ty : Shared.TypeIs { s with heap := hot0 w s.heap } (.ref s.heap.objs.size) "set" := ⟨_, own, rfl⟩
    have i6 := F.called_set.init.lookup
    have i7 := F.called_set.init.bind (.ref s.heap.objs.size)
    repeat (any_goals (first | assumption | wp_step))
    refine codeAny_mono (codeAny_call_builtin (R := wants (fun r t => r = .none ∧ ∃ h' tk c, t = { s with heap := h', toks := tk } ∧ SG kd h' s.heap.objs.size (memB ks) c ∧ c ≤ ks.length ∧ (∀ b o, s.heap.get? b = some o → h'.get? b = some o)) E) F.called_set.init.plain F.entry_set_init (check_set_init_1 ty ?_)) fun r t hr => ?_
    · have ⟨⟨ocls, odict, odata, oslots⟩, at0, j1, nl, j2⟩ := hl
      simp only at j1 j2
      subst j1; subst j2
      have at1 : (hot0 w s.heap).get? l = some { cls := .type "list", dict := odict, data := .seq items nl, slots := oslots } := Heap.get?_push_of_some _ at0
      have j3 := F.sub_list_set
      have j4 := F.sub_list_frozenset
      have j5 : (Value.type "list" == Value.type "dict") = false := by decide
      have l1 : (hot0 w s.heap).IsList l items := ⟨_, at1, rfl, nl, rfl⟩
      unfold Builtin.«set.__init__» noKeywords Builtin.Frozenset.updateFrom
      generalize hPI : pyIter = PI
      wp_walk
      subst hPI
      refine wpAny_pyIter_list l1 (wpAny_bind (wpAny_runValue ?_))
      have lt0 : l < s.heap.objs.size := Heap.lt_size at0
      have hd3 : A.in1.in1.in1.handled = none := by simp [hh]
      have z1 : (hot0 w s.heap).objs.size = s.heap.objs.size + 1 := Heap.size_push ..
      refine sg_loop (kd := kd) ((Walks.list hd3 _ l (by rw [z1]; exact Nat.ne_of_lt (Nat.lt_succ_of_lt lt0)) items).toS) s.heap.objs.size (fun m => by
        rcases List.mem_cons.mp m with e | m
        · exact Nat.ne_of_lt (Nat.lt_succ_self _) (z1 ▸ e)
        · exact Nat.ne_of_gt lt0 (List.mem_singleton.mp m)) ks len hb val (items.size - 0) 0 _ (by omega) (Nat.zero_le _) ⟨⟨_, Heap.get?_push_size _ rfl, rfl, rfl⟩, (l1.push _)⟩ ⟨0, Nat.le_refl 0, (sg_fresh (Heap.get?_push_of_some _ own)).congr fun j => by simp [memB]⟩ fun t c2 mv hc2 R4 => ?_
      obtain ⟨h', g2, d', tk', os'⟩ := t
      obtain rfl : g2 = s.gens := mv.gens
      obtain rfl : d' = s.drawn := mv.drawn
      obtain rfl : os' = s.os := mv.os
      show wpAny _ _ _ _ _ _
      refine wpAny_pure ?_
      show wpAny _ _ (ret Value.none) _ _ _
      refine wpAny_pure ⟨rfl, h', tk', c2, rfl, R4, len ▸ hc2, fun b o e => ?_⟩
      have lt1 : b < s.heap.objs.size := Heap.lt_size e
      refine mv.heap b o (fun m => ?_) (Heap.get?_push_of_some _ (Heap.get?_push_of_some _ e))
      rcases List.mem_cons.mp m with q | m
      · exact Nat.ne_of_lt lt1 q
      · exact Nat.ne_of_lt (Nat.lt_succ_of_lt lt1) ((List.mem_singleton.mp m).trans z1)
    · match r, hr with
      | .error e, hr => exact hr
      | .ok (.ret _), hr =>
        obtain ⟨rfl, h', tk, c2, rfl, R4, hc2, kp⟩ := hr
        repeat (any_goals (first | assumption | wp_step))
        exact hQ _ _ _ R4 hc2 kp
end
end Pu

end

section
/-! PuU: sets of texts as objects of the heap; set(..), sorted(..), set comprehensions of two clauses. -/
namespace Pu
open PySem L2 PySem.Spec PyProof.Rows

/-- the set of texts at a -/
def SSo (P : Program) (w : World) (a : Addr) (S : Str → Bool) (n : Nat) : HO := .ext fun h => SG (PySem.strKind P w) h a S n
section
variable {X : Cx} {P : Program} {w : World} {H : Hp} {h : Heap} {a : Addr} {S : Str → Bool} {n : Nat} {pins : List (Addr × Obj)} {σ : L2.St} {s : Shared}
theorem sso_new (R : SG (PySem.strKind P w) h a S n) : ObjOk P w H h a (SSo P w a S n) := ⟨R, (let ⟨o, _, _, _, ho, _⟩ := R; ⟨o, ho⟩), fun _ _ p k => SG.at p k⟩
theorem sso_get (I : Inv X pins σ H s) (e : H a = some (SSo X.prog X.w a S n)) : SG (PySem.strKind X.prog X.w) s.heap a S n := (I.hok a _ e).1
theorem str_is (x : Str) (t : Tok) : (PySem.strKind P w).is x (.str x t) = true := by show Value.isStrOf x (.str x t) = true; simp [Value.isStrOf, Value.isStr]
theorem strs_get : ∀ {us : List Value} {xs : List Str} (i : Nat) (v : Value), StrsAre us xs → us[i]? = some v → ∃ x t, xs[i]? = some x ∧ v = .str x t
  | _, _, i, v, .nil, e => by simp at e
  | _, _, 0, v, .cons y t r, e => by simp at e; exact ⟨y, t, rfl, e.symm⟩
  | _, _, i + 1, v, .cons y t r, e => by
    obtain ⟨x, u, h1, h2⟩ := strs_get i v r (by simpa using e)
    exact ⟨x, u, by simpa using h1, h2⟩
/-- set(xs), xs a list of texts -/
def rSetS (K : PySem.W.Frag) (P : Program) (w : World) : List V → Hp → VK → Prop := fun vs H Q => ∃ (l : Addr) (ks : List Str), vs = [V.ref l] ∧ SqL K H l (ks.map V.str) ∧ ks.length + 1 < scanBound ∧ ∀ p c, H p = none → c ≤ ks.length → Q (.ref p) (upd H p (SSo P w p (memB ks) c))
theorem cr_setS (hc : X.calm = true) : CallR X (.type "set") (rSetS X.K X.prog X.w) := by
  intro pins s σ H vs us Q I r q
  obtain ⟨l, ks, rfl, hl, hb, q⟩ := q
  obtain ⟨its, rv, pl, hz⟩ := I.list hl
  have rs := rv.strs
  rw [Vals.ref1 r]
  refine sg_of_list (P := X.prog) (w := X.w) (kd := PySem.strKind X.prog X.w) (ks := ks) (I.ok.hd hc) pl.isList (by rw [List.size_toArray]; exact rs.length) hb (fun i v hv => ?_) fun h' tk c R hc kp => ?_
  · obtain ⟨x, t, h1, rfl⟩ := strs_get i v rs (by simpa using hv)
    exact ⟨x, h1, str_is x t, rfl⟩
  · exact ⟨.ref s.heap.objs.size, upd H s.heap.objs.size (SSo X.prog X.w s.heap.objs.size (memB ks) c), I.laid (t' := tk) kp (Nat.le_refl _) (sso_new R), rfl, q _ c (I.hok.fresh (Nat.le_refl _)) hc⟩
/-! ### sorted -/
def strV : Value → Str
  | .str x _ => x
  | _ => Str.empty
theorem strs_by : ∀ l : List Value, (∀ v ∈ l, ∃ x t, v = Value.str x t) → StrsAre l (l.map strV)
  | [], _ => .nil
  | v :: l, h => by
    obtain ⟨x, t, rfl⟩ := h v List.mem_cons_self
    exact .cons x t (strs_by l fun u hu => h u (List.mem_cons_of_mem _ hu))
theorem sorted_sg {A : Around} {E : Value → Shared → Prop} {Q : Value → Shared → Prop} (R : SG (PySem.strKind P w) s.heap a S n) (hh : A.handled = none)
    (hQ : ∀ s' p (out : Array Value) (c : Nat) (ys : List Str), (∀ b o, s.heap.get? b = some o → s'.heap.get? b = some o) → s'.gens = s.gens → s'.os = s.os → s.heap.objs.size ≤ p →
      s'.heap.get? p = some (seqObj "list" out c) → StrsAre out.toList ys → sortedS ys = true → ys.Nodup → (∀ k, k ∈ ys ↔ S k = true) → ys.length = n → n < scanBound → Q (.ref p) s') :
    wpAny (model P w) A (call (.builtin "sorted") [.ref a]) Q E s := by
  obtain ⟨o, es, ep, t, ho, r⟩ := R
  have shape : ∀ e ∈ es.toList, ∃ x u, e.2 = Value.str x u := fun e he => by
    obtain ⟨⟨k, h1, _⟩, _⟩ := r.el e he
    obtain ⟨u, h2⟩ := Value.isStrOf_shape h1
    exact ⟨k, u, h2⟩
  refine Calls.call_function_entry kind_sorted plain_sorted entry_sorted (args_sorted1 _) ?_
  unfold Builtin.«sorted»
  refine wpAny_bind (m := checkCount "sorted" 1 1 _) (wpAny_pure (wpAny_bind (collect_set (A := A.in1) hh ⟨o, ho, r.ex.1, r.da⟩ r.fi r.lt r.ri r.le fun s1 vs k1 z1 g1 o1 pm => ?_)))
  have sV : ∀ v ∈ vs, ∃ x u, v = Value.str x u := fun v hv => by
    obtain ⟨e, he, q⟩ := List.mem_map.mp (pm.mem_iff.mp hv)
    obtain ⟨x, u, h⟩ := shape e he
    exact ⟨x, u, q ▸ h⟩
  have many : vs.length = n := by rw [pm.length_eq, List.length_map, Array.length_toList]; exact r.sz
  have few : vs.length ≤ sizeLine := by rw [many, ← r.sz]; exact fits_of_scanBound r.lt
  have hS := strs_by vs sV
  have pk : (vs.map strV).Perm (es.toList.map fun e => strV e.2) := by
    have q := pm.map strV
    rw [List.map_map] at q
    exact q
  have isK : ∀ e ∈ es.toList, ∀ k, (PySem.strKind P w).is k e.2 = true ↔ strV e.2 = k := fun e he k => by
    obtain ⟨x, u, h⟩ := shape e he
    rw [h]
    exact ⟨fun z => (PySem.strKind P w).inj _ _ _ (str_is x u) z, fun z => by
      have z' : x = k := z
      rw [← z']; exact str_is x u⟩
  have nd : (es.toList.map fun e => strV e.2).Nodup := by
    have q : ∀ l : List (Int × Value), (∀ e ∈ l, e ∈ es.toList) → Apart (PySem.strKind P w) l → (l.map fun e => strV e.2).Nodup := fun l => by
      induction l with
      | nil => intro _ _; exact List.nodup_nil
      | cons e l ih =>
        intro hm ha
        obtain ⟨h1, h2⟩ := List.pairwise_cons.mp ha
        refine List.nodup_cons.mpr ⟨fun z => ?_, ih (fun f hf => hm f (List.mem_cons_of_mem _ hf)) h2⟩
        obtain ⟨f, hf, ef⟩ := List.mem_map.mp z
        exact h1 f hf (strV e.2) ((isK e (hm e List.mem_cons_self) _).2 rfl) ((isK f (hm f (List.mem_cons_of_mem _ hf)) _).2 ef)
    exact q _ (fun _ h => h) r.ap
  have mem : ∀ k, k ∈ (es.toList.map fun e => strV e.2) ↔ S k = true := fun k => by
    rw [r.me k, List.mem_map]
    exact ⟨fun ⟨e, he, q⟩ => ⟨e, he, (isK e he k).2 q⟩, fun ⟨e, he, q⟩ => ⟨e, he, (isK e he k).1 q⟩⟩
  refine wpAny_bind (wpAny_newList ?_ few)
  have own : (s1.heap.push (seqObj "list" vs.toArray 0)).get? s1.heap.objs.size = some (seqObj "list" vs.toArray 0) := Heap.get?_push_size _ rfl
  refine wpAny_bind (wpAny_holding (wpAny_call_entry slot_list_sort ⟨_, own, rfl⟩ entry_list_sort (list_sort_treeKAny strKind_oneLt own hS.keysOf (fun v₁ v₂ rest e => keyKind_strs (by rw [← e]; exact hS)) few fun st' hp hs => ⟨_, rfl, ?_⟩) (args_list_sort _)))
  obtain ⟨ys, y1, y2, y3⟩ := sorted_out_str hS hp hs
  obtain ⟨c, hc⟩ := sortedHeap_at (vs := vs) (out := (arrOf st').map (·.2)) own
  have pn := y2.trans pk
  refine wpAny_pure ⟨_, rfl, hQ _ s1.heap.objs.size _ c ys (fun b u e => ?_) g1 o1 z1 hc y1 y3 (pn.nodup_iff.mpr nd) (fun k => by rw [pn.mem_iff, mem k]) ?_ (r.sz ▸ r.lt)⟩
  · have q := k1 b u e
    have l1 := Heap.lt_size q
    show (sortedHeap (s1.heap.push (seqObj "list" vs.toArray 0)) s1.heap.objs.size vs _).get? b = some u
    rw [sortedHeap_old (Nat.ne_of_lt l1) (by rw [size_push']; exact Nat.lt_succ_of_lt l1)]
    exact Heap.get?_push_of_some _ q
  · rw [pn.length_eq, List.length_map, Array.length_toList]; exact r.sz
def rSortSS (P : Program) (w : World) : List V → Hp → VK → Prop := fun vs H Q => ∃ (a : Addr) (S : Str → Bool) (n : Nat), vs = [V.ref a] ∧ H a = some (SSo P w a S n) ∧
  ∀ (ys : List Str) (p : Addr), sortedS ys = true → ys.Nodup → (∀ k, k ∈ ys ↔ S k = true) → ys.length = n → n < scanBound → H p = none → Q (.ref p) (upd H p (.lst (ys.map V.str)))
theorem cr_sortSS (hc : X.calm = true) : CallR X (.builtin "sorted") (rSortSS X.prog X.w) := by
  intro pins s σ H vs us Q I r q
  obtain ⟨a, S, n, rfl, ha, q⟩ := q
  rw [Vals.ref1 r]
  refine sorted_sg (sso_get I ha) (I.ok.hd hc) fun s' p out c ys kp g o hp hg hi hs nd hm hl hb => ?_
  have len : (ys.map V.str).length ≤ sizeLine := by rw [List.length_map, hl]; exact fits_of_scanBound hb
  have free : H p = none := I.hok.fresh hp
  have J : Inv X pins σ (upd H p (.lst (ys.map V.str))) { s with heap := s'.heap, gens := s'.gens, drawn := s'.drawn, toks := s'.toks } :=
    I.call (ch := []) (Un.laid kp hp free) (I.hok.laid kp hp ⟨len, out.toList, c, vals_of_strs hi, hg⟩) (g.symm ▸ I.bare) (fun _ z => nomatch z)
  have e : s' = { s with heap := s'.heap, gens := s'.gens, drawn := s'.drawn, toks := s'.toks } := by
    obtain ⟨_, _, _, _, _⟩ := s'
    obtain ⟨_, _, _, _, _⟩ := s
    obtain rfl := o
    rfl
  rw [e]
  exact ⟨.ref p, _, J, rfl, q ys p hs nd hm hl hb free⟩
end
end Pu

end

section
/-! PuV: {e for x in a for y in b} of texts. -/
namespace Pu
open PySem L2 PySem.Spec PyProof.Rows

section
variable {prog : Program} {w : World} {A : Around} {R : Result → Shared → Prop} {s : Shared} {elt t0 i0 t1 i1 : Expr} {f0 f1 : List Expr} {scope : Scope} {pos : Pos} {it acc : Value} {env : Env}
/-- what a raised error meets -/
abbrev nb (prog : Program) (w : World) (A : Around) (env : Env) (R : Result → Shared → Prop) : Value → Shared → Prop := notedBy (model prog w) A env fun e s' => R (.error e) s'
abbrev tests (f : List Expr) (env : Env) : Sem Bool := forIn f true fun c r => if r = true then do let ok ← isTrue c env (eval c env); pure (ForInStep.yield ok) else pure (ForInStep.yield r)
end
section
variable {X : Cx}
variable {elt tg iter tg1 iter1 : Expr} {f0 f1 : List Expr} {scope : Scope} {own : List (Str × Nat)} {vs1 : List Nat} {pos : Pos} {wi wi1 : TI} {g g1 : TG} {tt tt1 : TT} {te : TE}
end
end Pu

end

section
/-! PuW: sets of texts, comprehensions of two clauses, in the plain layer. -/
namespace Pu
open PySem L2 PyProof.Rows RZ

/-! ### no own lists -/
def unown (env : EV) : EV := env.map fun s => match s with
  | some (.own _) => none
  | some (.ownD _) => none
  | some (.ownX _) => none
  | s => s
section
variable {K : PySem.W.Frag} {F : Fr} {Hb H : Hp} {σ : L2.St} {env : EV}
theorem unown_get {i : Nat} {s : Sl} (e : (unown env)[i]? = some (some s)) : env[i]? = some (some s) ∧ ¬ s.isOwn := by
  unfold unown at e
  rw [List.getElem?_map] at e
  match h : env[i]? with
  | none => rw [h] at e; cases e
  | some none => rw [h] at e; cases e
  | some (some (.own xs)) => rw [h] at e; cases e
  | some (some (.ownD xs)) => rw [h] at e; cases e
  | some (some (.ownX T)) => rw [h] at e; cases e
  | some (some .any) => rw [h] at e; cases e; exact ⟨rfl, fun z => z.elim⟩
  | some (some (.d x)) => rw [h] at e; cases e; exact ⟨rfl, fun z => z.elim⟩
  | some (some (.v x)) => rw [h] at e; cases e; exact ⟨rfl, fun z => z.elim⟩
  | some (some .src) => rw [h] at e; cases e; exact ⟨rfl, fun z => z.elim⟩
theorem Rep.unown (r : Rep K F Hb H σ env) : Rep K F Hb H σ (Pu.unown env) :=
  ⟨r.step, r.mid, by simpa [Pu.unown] using r.len, fun i s e => r.sl i s (unown_get e).1, fun i j t1 t2 p _ e _ o1 _ _ => absurd o1 (unown_get e).2⟩
/-- an unknown object is written -/
theorem Rep.swap (r : Rep K F Hb H σ (Pu.unown env)) {D : Addr} (o : HO) (h0 : F.H0 D = none) (hb : Hb D = none) (nD : ¬ F.hid.has D) : Rep K F Hb (upd H D o) σ (Pu.unown env) := by
  refine ⟨⟨⟨fun b u e => ?_, r.st.ok.keeps fun b u hb' e => ?_, r.st.out⟩, r.step.ex, r.step.new, fun b u e hb' => ?_⟩, r.mid, r.len, fun i s e => ?_, fun i j t1 t2 p _ e _ o1 _ _ => absurd o1 (unown_get e).2⟩
  · rw [upd_ne (fun z : b = D => by rw [z, hb] at e; cases e)]; exact r.st.ex b u e
  · rw [upd_ne (fun z : b = D => nD (z ▸ hb'))]; exact e
  · rw [upd_ne (ne_of_none e h0)]; exact r.step.keep b u e hb'
  · obtain ⟨v, e1, e2, e3⟩ := r.sl i s e
    refine ⟨v, e1, ?_, e3⟩
    match s, (unown_get e).2, e2 with
    | .d x, _, e2 => exact e2
    | .v x, _, e2 => exact e2
    | .src, _, e2 => exact e2
    | .own xs, n, _ => exact absurd trivial n
    | .ownD xs, n, _ => exact absurd trivial n
    | .ownX T, n, _ => exact absurd trivial n
    | .any, _, _ => trivial
end
/-! ### sorted(set(xs)) -/
def sortedOf (xs : List Str) (Q : DK) : Prop := ∀ ys : List Str, sortedS ys = true → ys.Nodup → (∀ k, k ∈ ys ↔ k ∈ xs) → Q (.own (ys.map PyData.str))
def fSortSet : FN := fun ss Q => match ss with
  | [.d (.list ds)] => ∃ xs, strsD ds = some xs ∧ xs.length + 1 < scanBound ∧ sortedOf xs Q
  | _ => False
section
variable {K : PySem.W.Frag} {F : Fr} {hid : Hid} {P : Program} {w : World}
theorem memB_iff {xs : List Str} {k : Str} : memB xs k = true ↔ k ∈ xs := by unfold memB; exact decide_eq_true_iff
theorem sort_end {Hb Hb1 H H1 : Hp} {D : Addr} {xs : List Str} {n : Nat} {Q : DK} {k : VK} (st : Step hid Hb H Hb1 H1) (hD : H1 D = some (SSo P w D (memB xs) n)) (q : sortedOf xs Q)
    (c : ∀ v Hb' H' s', Step hid Hb H Hb' H' → RepSl K hid Hb' H' v s' → FrSl H v s' → Q s' → k v H') : rSortSS P w [V.ref D] H1 k := by
  refine ⟨D, memB xs, n, rfl, hD, fun ys p h1 h2 h3 _ _ hp => ?_⟩
  obtain ⟨s2, r2, f2⟩ := own_new (K := K) st.st hp (strs_all (K := K) (Hb := Hb1) ys)
  exact c _ Hb1 _ (.own _) (st.trans s2) r2 (FrSl.back st f2) (q ys h1 h2 fun k => (h3 k).trans memB_iff)
theorem sd_sortSet {ta : TA} {fa : DTA} (h : SdA K F ta fa) : SdE K F (tCB (rSortSS P w) (tCons (tCB (rSetS K P w) ta) tNil)) (dCall fSortSet fa) := by
  intro Hb H σ env Q k rp q c
  refine h Hb H σ env _ _ rp q fun vs Hb1 H1 ss st1 rs1 q1 => ?_
  unfold fSortSet at q1
  split at q1
  · rename_i ds
    obtain ⟨xs, e, hb, q1⟩ := q1
    obtain ⟨v, rfl, h⟩ := rep1 rs1
    cases (show Dq K Hb1 v (.list ds) from h) with
    | lst h1 h2 =>
      have ev := strs_rep h2 e
      subst ev
      refine ⟨_, xs, rfl, SqL.of (st1.st.ex _ _ h1), hb, fun p n hp hn => ?_⟩
      exact sort_end (K := K) (st1.trans (Step.raw st1.st hp)) upd_same q1 c
  · exact q1.elim
end
section
variable {X : Cx} {F : Fr} {K : PySem.W.Frag} {e : Expr} {ta : TA} {fa : DTA} {p p2 pos pos2 : Pos}
theorem k_sortSet (q : X.K = K) (h1 : X.mg "sorted" = none) (h2 : X.mg "set" = none) (ha : DA X F [e] ta fa) (hc : X.calm = true := by rfl) (hg : Gl X "sorted" := by rfl) (hg2 : Gl X "set" := by rfl)
    (hs : starEach [e] X.env = (false, eval e X.env) :: starEach [] X.env := by rfl) (hs2 : starEach [.Call (.Name "set" p2) [e] [] pos2] X.env = (false, eval (.Call (.Name "set" p2) [e] [] pos2) X.env) :: starEach [] X.env := by rfl) :
    DE X F (.Call (.Name "sorted" p) [.Call (.Name "set" p2) [e] [] pos2] [] pos) (tCB (rSortSS X.prog X.w) (tCons (tCB (rSetS K X.prog X.w) ta) tNil)) (dCall fSortSet fa) := by
  subst q
  exact ⟨pe_callB (cr_sortSS hc) hg h1 (by decide +kernel) (pa_cons (pe_callTy (cr_setS hc) hg2 h2 (by decide +kernel) ha.pe (by decide) (by decide) hs) pa_nil hs2) (by decide) (by decide) hs2, sd_sortSet ha.sd⟩
end

/-! ### sorted({z for .. for ..}) of texts -/
section
variable {K : PySem.W.Frag} {F : Fr} {P : Program} {w : World}
end

/-! ### [e for .. for ..] -/
section
variable {K : PySem.W.Frag} {F : Fr} {P : Program} {w : World}
end

/-! ### the rules -/
section
variable {X : Cx} {F : Fr} {K : PySem.W.Frag} {tg iter tg1 iter1 elt : Expr} {te : TE} {fe : DTE} {wi wi1 : TI} {fi fi1 : DTI} {g g1 : TG} {fg fg1 : DTG} {tt tt1 : TT} {ft ft1 : DTT} {pos p2 p3 : Pos} {ifs ifs1 : List Expr} {scope : Scope} {own : List (Str × Nat)} {vs1 : List Nat}
end
end Pu

end

section
set_option maxHeartbeats 800000
/-! PuR: ranges whose ends may be anything. -/
namespace Pu
open PySem L2 PySem.Spec PyProof.Rows

theorem slot_lr_next : Slot "longrange_iterator" "__next__" "longrange_iterator.__next__" :=
  .of (owner := "longrange_iterator") (n := "__next__") (by rw [typeLookup_type, builtinLookup_eq_fast]; kernel_rfl) (by decide +kernel) (by decide +kernel) (by decide +kernel) (by first | exact .inl (by decide +kernel) | exact .inr (by decide +kernel)) (by rw [isSubtype_type]; kernel_rfl)
theorem entry_lr_next : entryFor table "longrange_iterator.__next__" = some Builtin.«longrange_iterator.__next__» := entryFor_of_fast (by kernel_rfl)
theorem args_lr_next (a : Value) : argsOk "longrange_iterator.__next__" ⟨[a], []⟩ := by unfold argsOk; kernel_rfl
theorem slot_lr_iter : Slot "longrange_iterator" "__iter__" "longrange_iterator.__iter__" :=
  .of (owner := "longrange_iterator") (n := "__iter__") (by rw [typeLookup_type, builtinLookup_eq_fast]; kernel_rfl) (by decide +kernel) (by decide +kernel) (by decide +kernel) (by first | exact .inl (by decide +kernel) | exact .inr (by decide +kernel)) (by rw [isSubtype_type]; kernel_rfl)
theorem entry_lr_iter : entryFor table "longrange_iterator.__iter__" = some Builtin.«dict_keyiterator.__iter__» := entryFor_alias (id' := "dict_keyiterator.__iter__") (by kernel_rfl) rfl (by decide +kernel) (by kernel_rfl)
theorem args_lr_iter (a : Value) : argsOk "longrange_iterator.__iter__" ⟨[a], []⟩ := by unfold argsOk; kernel_rfl
/-- a long range's iterator: x next, left more -/
abbrev IsLong (h : Heap) (it : Addr) (x left : Int) : Prop := h.get? it = some { cls := .type "longrange_iterator", dict := none, data := .fields #[rawInt x, rawInt left, rawInt 1], slots := #[] }
theorem long_step (it : Addr) (x left : Int) (hl : ¬ left ≤ 0) : Meets (Builtin.«longrange_iterator.__next__» ⟨[.ref it], []⟩) (fun _ R s => IsLong s.heap it x left ∧
    R (.ok (.ret (Value.int x s.toks))) { s with heap := (s.heap.update it (Obj.mapFields fun fs => fs.setIfInBounds 0 (rawInt (x + 1)))).update it (Obj.mapFields fun fs => fs.setIfInBounds 1 (rawInt (left - 1))), toks := s.toks + 1 }) :=
  .of_wp fun prog w A R s h => by
    obtain ⟨hp, g, d, tk, os⟩ := s
    obtain ⟨at_, h⟩ := h
    wp_walk
    exact ⟨_, rfl, h⟩
theorem long_iter (r : Addr) (a b : Int) (t u v : Tok) (hs : Builtin.Range.small a b 1 = false) : Meets (Builtin.«range.__iter__» ⟨[.ref r], []⟩) (fun _ R s => IsRange s.heap r a b 1 t u v ∧
    R (.ok (.ret (Value.ref s.heap.objs.size))) { s with heap := s.heap.push { cls := .type "longrange_iterator", data := .fields #[rawInt a, rawInt (Builtin.Range.rangeSize a b 1), rawInt 1] }, toks := s.toks }) :=
  .of_wp fun prog w A R s h => by
    obtain ⟨hp, g, d, tk, os⟩ := s
    obtain ⟨at_, h⟩ := h
    unfold Builtin.Range.small at hs
    wp_walk
    rw [hs]
    simp only [Bool.not_false, if_true, Bool.false_eq_true, if_false]
    refine wpAny_bind (wpAny_rule ?_)
    simp only [newFields]
    wp_walk
    exact ⟨_, rfl, h⟩
section
variable {prog : Program} {w : World} {A : Around} {E : Value → Shared → Prop} {s : Shared} {it r : Addr} {x left a b : Int} {t u v : Tok}
theorem long_item {Q : Option Value → Shared → Prop} (hit : IsLong s.heap it x left) (hl : 0 < left) (hQ : ∀ h', IsLong h' it (x + 1) (left - 1) → Heap.SameBut it s.heap h' → Q (some (.int x s.toks)) { s with heap := h', toks := s.toks + 1 }) : wpAny (model prog w) A (pyNext (.ref it)) Q E s := by
  have ty : s.TypeIs (.ref it) "longrange_iterator" := ⟨_, hit, rfl⟩
  unfold pyNext
  refine wpAny_bind (wpAny_attempt (wpAny_callSpecial?_slot (name := Str.ofString "__next__") ty slot_lr_next (call_meets slot_lr_next ty entry_lr_next (args_lr_next _) (long_step it x left (by omega)) ⟨hit, ?_⟩)))
  exact wpAny_pure (hQ _ (Heap.get?_update_self _ (Heap.get?_update_self _ hit rfl) rfl) ((Heap.SameBut.update ..).trans (Heap.SameBut.update ..)))
theorem long_end {Q : Option Value → Shared → Prop} (hh : A.handled = none) (hit : IsLong s.heap it x left) (hl : left ≤ 0) (hQ : ∀ h', Heap.ExtBut it s.heap h' → Q none { s with heap := h' }) : wpAny (model prog w) A (pyNext (.ref it)) Q E s := by
  have ty : s.TypeIs (.ref it) "longrange_iterator" := ⟨_, hit, rfl⟩
  unfold pyNext
  refine wpAny_bind (wpAny_attempt (wpAny_callSpecial?_slot (name := Str.ofString "__next__") ty slot_lr_next (wpAny_call_entry slot_lr_next ty entry_lr_next ?_ (args_lr_next _))))
  obtain ⟨hp, g, d, tk, os⟩ := s
  unfold Builtin.«longrange_iterator.__next__»
  wp_walk
  simp only [raiseNew]
  refine wpAny_bind (wpAny_handled ?_)
  rw [show A.in1.handled = none from hh]
  refine wpAny_bind (wpAny_pure (wpAny_throw ?_))
  refine wpAny_bind (wpAny_isInstance (T := "StopIteration") (b := true) ⟨_, Heap.get?_push_size _ rfl, rfl⟩ isSubtype_stop ?_)
  exact wpAny_pure (hQ _ (((Heap.ExtBut.refl it hp).push _).push _))
theorem long_iter_at {Q : Value → Shared → Prop} (hr : IsRange s.heap r a b 1 t u v) (hs : Builtin.Range.small a b 1 = false) (hQ : Q (.ref s.heap.objs.size) { s with heap := s.heap.push { cls := .type "longrange_iterator", data := .fields #[rawInt a, rawInt (Builtin.Range.rangeSize a b 1), rawInt 1] } }) : wpAny (model prog w) A (pyIter (.ref r)) Q E s := by
  have ty : s.TypeIs (.ref r) "range" := ⟨_, hr, rfl⟩
  refine wpAny_pyIter_slot ty F.slot_range_iter (call_meets F.slot_range_iter ty F.entry_range_iter (F.args_range_iter_1 _) (long_iter r a b t u v hs) ⟨hr, ?_⟩)
  exact ⟨"longrange_iterator", _, ⟨_, Heap.get?_push_size _ rfl, rfl⟩, slot_lr_next.lookup, hQ⟩
theorem long_self {Q : Value → Shared → Prop} (hit : IsLong s.heap it x left) (h : Q (.ref it) s) : wpAny (model prog w) A (pyIter (.ref it)) Q E s := by
  have ty : s.TypeIs (.ref it) "longrange_iterator" := ⟨_, hit, rfl⟩
  refine wpAny_pyIter_slot ty slot_lr_iter (wpAny_call_entry slot_lr_iter ty entry_lr_iter ?_ (args_lr_iter _))
  show wpAny _ _ (ret (.ref it)) _ _ s
  exact wpAny_pure ⟨_, rfl, "longrange_iterator", _, ty, slot_lr_next.lookup, h⟩
end
theorem turn_long {P : Program} {w : World} {K : PySem.W.Frag} {tg : Expr} (it : Addr) (lo : Int) (n : Nat) : Turn P w K tg (Itr lo n) [it] it (fun i h => IsLong h it (lo + (i : Nat)) ((n : Int) - (i : Nat))) where
  mem := by simp
  obj := fun i h st b hb => by
    obtain rfl : b = it := by simpa using hb
    exact ⟨_, st, fun v z => by
      have z' : Data.fields _ = Data.cell v := z
      cases z'⟩
  keep := fun i h h' st k => k it (by simp) _ st
  item := by
    intro X hP hw hK hc i pins s σ H E I hf st hg
    subst hP hw hK
    obtain ⟨f0, f1, f2, f3, f4, f5⟩ := hf it (by simp)
    have hi : i < n := hg
    refine long_item st (by omega) fun h' st' sb => ?_
    have I1 : Inv X pins σ H { s with heap := h', toks := s.toks + 1 } := I.turned (fun b o hb e => (sb.2 b hb).trans e) f0 f1 f3 f4 f5
    refine ⟨_, rfl, go_of (s := { s with heap := h', toks := s.toks + 1 }) (n := "longrange_iterator") st' rfl rfl (by decide) ⟨.int (lo + i), H, I1, ⟨s.toks, rfl⟩, ⟨rfl, rfl⟩, ?_, fun b hb => (hf b hb).1⟩⟩
    have e1 : lo + ((i + 1 : Nat) : Int) = lo + (i : Int) + 1 := by omega
    have e2 : (n : Int) - ((i + 1 : Nat) : Int) = (n : Int) - (i : Int) - 1 := by omega
    show IsLong h' it _ _
    rw [e1, e2]
    exact st'
  done := by
    intro X hP hw hK hc i pins s σ H E I hf st hg
    subst hP hw hK
    obtain ⟨f0, f1, f2, f3, f4, f5⟩ := hf it (by simp)
    exact long_end (I.ok.hd hc) st (by have : n ≤ i := hg; omega) fun h' eb => ⟨rfl, I.turned (t' := s.toks) (fun b o hb e => eb b o hb e) f0 f1 f3 f4 f5⟩
  self := fun _ _ _ _ _ st h => long_self st h
/-- a range just made, walked, whatever its ends -/
theorem range_any {X : Cx} {tg : Expr} {pins : List (Addr × Obj)} {σ : L2.St} {H : Hp} {s : Shared} {R : It → Hp → Prop} {E : Value → Shared → Prop} {lo hi : Int} {t u v : Tok} {tk : Nat} (I : Inv X pins σ H s)
    (q : R (Itr lo (hi - lo).toNat) H) : wpAny (model X.prog X.w) X.A (pyIter (.ref s.heap.objs.size)) (PIE X pins σ tg R) E { s with heap := s.heap.push { cls := .type "range", data := .fields #[.int lo t, .int hi u, .int 1 v] }, toks := tk } := by
  have I1 : Inv X pins σ H { s with heap := s.heap.push { cls := .type "range", data := .fields #[.int lo t, .int hi u, .int 1 v] }, toks := tk } := I.kept fun b o e => Heap.get?_push_of_some _ e
  have e2 : (((hi - lo).toNat : Nat) : Int) - ((0 : Nat) : Int) = Builtin.Range.rangeSize lo hi 1 := by rw [rangeSize_one]; split <;> omega
  cases hs : Builtin.Range.small lo hi 1 with
  | true =>
    refine wpAny_pyIter_range (IsRange.new ..) hs ?_
    refine ⟨_, [_], _, _, H, rfl, I1.kept (t' := tk) fun b o e => Heap.get?_push_of_some _ e, turn_range _ lo (hi - lo).toNat, ?_, fun b hb => ?_, q⟩
    · have e1 : lo + ((0 : Nat) : Int) * 1 = lo := by simp
      show IsRangeIter _ _ (lo + ((0 : Nat) : Int) * 1) ((((hi - lo).toNat : Nat) : Int) - ((0 : Nat) : Int)) 1
      rw [e1, e2]
      exact Heap.get?_push_size _ rfl
    · obtain rfl := List.mem_singleton.mp hb
      exact I1.fpOk (Nat.le_refl _) (I1.hok.fresh (Nat.le_refl _))
  | false =>
    refine long_iter_at (IsRange.new ..) hs ?_
    refine ⟨_, [_], _, _, H, rfl, I1.kept (t' := tk) fun b o e => Heap.get?_push_of_some _ e, turn_long _ lo (hi - lo).toNat, ?_, fun b hb => ?_, q⟩
    · have e1 : lo + ((0 : Nat) : Int) = lo := by simp
      show IsLong _ _ (lo + ((0 : Nat) : Int)) ((((hi - lo).toNat : Nat) : Int) - ((0 : Nat) : Int))
      rw [e1, e2]
      exact Heap.get?_push_size _ rfl
    · obtain rfl := List.mem_singleton.mp hb
      exact I1.fpOk (Nat.le_refl _) (I1.hok.fresh (Nat.le_refl _))
def iRngA (ta : TA) : TI := fun σ H R => ta σ H fun vs H1 => ∃ i j : Int, vs = [.int i, .int j] ∧ R (Itr i (j - i).toNat) H1
theorem pi_rangeA {X : Cx} {tg a b : Expr} {ta : TA} {p pos : Pos} (hg : Gl X "range") (hm : X.mg "range" = none) (ha : PA X [a, b] ta) (hs : starEach [a, b] X.env = [(false, eval a X.env), (false, eval b X.env)] := by rfl) (hs2 : starEach [b] X.env = [(false, eval b X.env)] := by rfl) :
    PI X tg (.Call (.Name "range" p) [a, b] [] pos) (iRngA ta) := by
  refine ⟨fun pins s σ H R I h => ?_⟩
  refine Call_ (ld_blt I hg hm boot_range (PyProof.Rows.callWith_type1 (thn (ha.run pos pins s σ H _ I h) fun us s1 hh => ?_) (by rw [hs, hs2]) (by rw [hs2]; rfl)))
  obtain ⟨vs, H1, I1, rel, lo, hi, e, q⟩ := hh
  subst e
  cases rel with
  | cons r0 rel =>
    cases rel with
    | cons r1 rel =>
      cases rel
      obtain ⟨t0, rfl⟩ := r0
      obtain ⟨t1, rfl⟩ := r1
      exact call_range_2 (range_any I1 q)
def dRngA (f : DTA) : DTI := fun env Q => f env fun ss => ∃ i j : Int, ss = [.d (.int i), .d (.int j)] ∧ Q (rngD i (j - i).toNat)
theorem si_rngA {K : PySem.W.Frag} {F : Fr} {tr : TA} {fr : DTA} (h : SdA K F tr fr) : SdI K F (iRngA tr) (dRngA fr) := by
  intro Hb H σ env Q R rp q c
  refine h Hb H σ env _ _ rp q fun vs Hb1 H1 ss st1 rs1 q1 => ?_
  obtain ⟨i, j, e, q1⟩ := q1
  subst e
  obtain ⟨v, w, rfl, a, b⟩ := rep2 rs1
  exact ⟨i, j, by rw [int_of a, int_of b], c _ Hb1 H1 _ st1 (gives_rng _ _) q1⟩
theorem di_rngA {X : Cx} {F : Fr} {tg a b : Expr} {tr : TA} {fr : DTA} {p pos : Pos} (hm : X.mg "range" = none) (ha : DA X F [a, b] tr fr) (hg : Gl X "range" := by rfl) (hs : starEach [a, b] X.env = [(false, eval a X.env), (false, eval b X.env)] := by rfl) (hs2 : starEach [b] X.env = [(false, eval b X.env)] := by rfl) :
    DI X F tg (.Call (.Name "range" p) [a, b] [] pos) (iRngA tr) (dRngA fr) := ⟨pi_rangeA hg hm ha.pe hs hs2, si_rngA ha.sd⟩
end Pu

end

section
/-! PuX: tuple * int, chains of comparisons. -/
namespace Pu
open PySem L2 PySem.Spec PyProof.Rows

set_option maxHeartbeats 2000000 in
theorem tup_once (l : Addr) (items : Array Value) (n : Nat) (dd : Option Addr) (sl : Array (Option Value)) (x : Int) (u : Tok) (b0 : (decide (x < -(2 ^ 63)) || decide (x ≥ 2 ^ 63)) = false) (b1 : (items.isEmpty || x == 1) = true) :
    Meets (Builtin.«tuple.__mul__» ⟨[.ref l, .int x u], []⟩) (fun _ R s => s.heap.get? l = some { cls := .type "tuple", dict := dd, data := .seq items n, slots := sl } ∧ R (.ok (.ret (Value.ref l))) s) :=
  .of_wp fun prog w A R s h => by
    obtain ⟨hp, g, d, tk, os⟩ := s
    obtain ⟨hl, h⟩ := h
    have f1 := AutoSeq1.idx_int
    wp_walk using wpAny_loadPart' hl
    repeat (first
      | (refine wpAny_ite_false (decide_eq_false (by rw [b0]; exact Bool.false_ne_true)) ?_; wp_walk using wpAny_loadPart' hl)
      | (refine wpAny_ite_true (decide_eq_true b1) ?_; wp_walk using wpAny_loadPart' hl)
      | (refine wpAny_ite_true b1 ?_; wp_walk using wpAny_loadPart' hl))
    exact ⟨_, rfl, h⟩
def rRepB (K : PySem.W.Frag) : R2 := fun x y H Q => ∃ l k xs, x = .ref l ∧ y = .int k ∧ SqT K H l xs ∧ xs.length ≤ 1000 ∧ k ≤ 1000 ∧ ((xs = [] ∧ 0 ≤ k) ∨ 1 ≤ k) ∧ (xs = [] ∨ k = 1 → Q (.ref l) H) ∧ (xs ≠ [] → 2 ≤ k → ∀ p, H p = none → Q (.ref p) (upd H p (.tup (List.replicate k.toNat xs).flatten)))
section
variable {X : Cx}
theorem op_repB : OpR X (binaryOp .Mult) (rRepB X.K) := by
  intro pins s σ H x y v u Q I rx ry h
  obtain ⟨l, k, xs, rfl, rfl, hT, hz, h2, h1, q1, q2⟩ := h
  by_cases c : xs = [] ∨ k = 1
  · cases rx
    obtain ⟨t, rfl⟩ := ry
    obtain ⟨its, r, ⟨⟨cls, dd, data, sl⟩, ho, hc, n, hd⟩, hs⟩ := I.tuple hT
    simp only at hc hd
    subst hc hd
    have b0 : (decide (k < -(2 ^ 63)) || decide (k ≥ 2 ^ 63)) = false := by rw [decide_eq_false (by omega), decide_eq_false (by omega)]; rfl
    have b1 : (its.toArray.isEmpty || k == 1) = true := by
      rcases c with e | e
      · subst e
        cases r
        rfl
      · rw [e]; simp
    refine wpAny_binaryOp_repeat_ref (T := "tuple") (U := "int") (by decide) ⟨_, ho, rfl⟩ (fun s' => typeIs_int s' k t) noFill_tuple_mul F.fills_int_mul F.slot_int_rmul repeat_tuple F.slot_int_index.lookup
      (call_meets F.slot_int_rmul (typeIs_int s k t) F.entry_int_rmul (F.args_int_rmul_2 _ _) (int_rmul_tuple k t l its.toArray n dd sl)
        ⟨ho, rfl, ⟨_, ho, rfl⟩, call_meets F.slot_tuple_mul ⟨_, ho, rfl⟩ F.entry_tuple_mul (F.args_tuple_mul_2 _ _) (tup_once l its.toArray n dd sl k t b0 b1) ⟨ho, ?_⟩⟩)
    exact ⟨.ref l, H, I, rfl, q1 c⟩
  · have n1 : xs ≠ [] := fun e => c (.inl e)
    have n2 : k ≠ 1 := fun e => c (.inr e)
    have n3 : 2 ≤ k := by
      rcases h1 with ⟨e, _⟩ | h1
      · exact absurd e n1
      · omega
    exact op_repT pins s σ H _ _ v u Q I rx ry ⟨l, k, xs, rfl, rfl, hT, n1, n3, h2, hz, q2 n1 n3⟩
end
def fRepT : F2 := fun s u Q => match s, u with
  | .d (.tuple xs), .d (.int k) => xs.length ≤ 1000 ∧ k ≤ 1000 ∧ ((xs = [] ∧ 0 ≤ k) ∨ 1 ≤ k) ∧ Q (.d (.tuple (List.replicate k.toNat xs).flatten))
  | _, _ => False
section
variable {K : PySem.W.Frag} {hid : Hid}
theorem rep_nil {α : Type} : ∀ k : Nat, (List.replicate k ([] : List α)).flatten = []
  | 0 => rfl
  | k + 1 => by rw [List.replicate_succ, List.flatten_cons, rep_nil k]; rfl
theorem lo_repT : LO K hid (rRepB K) fRepT := by
  intro Hb H x y s u Q k st rx ry q c
  unfold fRepT at q
  split at q
  · rename_i xs j
    cases (show Dq K Hb x (.tuple xs) from rx) with
    | tup h1 h2 =>
      have hl := DqAll.length h2
      refine ⟨_, j, _, rfl, int_of ry, Same.seqT st.ex h1, by rw [hl]; exact q.1, q.2.1, ?_, fun e => ?_, fun n1 n2 p hp => ?_⟩
      · rcases q.2.2.1 with ⟨e, e2⟩ | e
        · subst e
          cases h2
          exact .inl ⟨rfl, e2⟩
        · exact .inr e
      · refine c _ Hb H (.d (.tuple xs)) (Step.refl st) (Dq.tup h1 h2) trivial ?_
        have e2 : (List.replicate j.toNat xs).flatten = xs := by
          rcases e with e | e
          · subst e
            cases h2
            exact rep_nil _
          · subst e
            simp
        rw [e2] at q
        exact q.2.2.2
      · obtain ⟨s2, r2⟩ := tup_new (K := K) st hp (DqAll.rep h2 j.toNat)
        exact c _ _ _ (.d (.tuple _)) s2 r2 trivial q.2.2.2
  · exact q.elim
end
/-! ### a < b < c -/
def dChain (f f' : F2) (fa fb fc : DTE) : DTE := fun env Q => fa env fun s => fb env fun u => f s.fz u.fz fun z => ∃ b, z.fz = .d (.bool b) ∧ if b = true then fc env fun t => f' u.fz t.fz Q else Q (.d (.bool false))
section
variable {K : PySem.W.Frag} {F : Fr} {ta tb tc : TE} {fa fb fc : DTE} {r r' : R2} {f f' : F2}
theorem sd_chain (lo : LO K F.hid r f) (lo' : LO K F.hid r' f') (ha : SdE K F ta fa) (hb : SdE K F tb fb) (hc : SdE K F tc fc) : SdE K F (tChain r r' ta tb tc) (dChain f f' fa fb fc) := by
  intro Hb H σ env Q k rp q c
  refine ha.go (Q := fun s => fb env fun u => f s u.fz fun z => ∃ b, z.fz = .d (.bool b) ∧ if b = true then fc env fun t => f' u.fz t.fz Q else Q (.d (.bool false))) rp q fun x Hb1 H1 s st1 rs1 _ q1 => ?_
  refine hb.go (Q := fun u => f s u fun z => ∃ b, z.fz = .d (.bool b) ∧ if b = true then fc env fun t => f' u t.fz Q else Q (.d (.bool false))) (rp.on st1) q1 fun y Hb2 H2 u st2 rs2 _ q2 => ?_
  refine lo Hb2 H2 x y s u _ _ st2.st (rs1.step st2) rs2 q2 fun v Hb3 H3 z st3 r3 f3 q3 => ?_
  obtain ⟨b, e, q3⟩ := q3
  have ez : z = .d (.bool b) := by cases z <;> first | exact e | cases e
  have all := (st1.trans st2).trans st3
  refine ⟨b, bool_of r3 ez, ?_⟩
  match b, q3 with
  | false, q3 => exact c (.bl false) Hb3 H3 (.d (.bool false)) all (Dq.bl false) trivial q3
  | true, q3 =>
    show tc σ H3 _
    refine hc.go (Q := fun t => f' u t Q) (rp.on all) q3 fun w Hb4 H4 t st4 rt _ q4 => ?_
    exact lo' Hb4 H4 y w u t Q k st4.st ((rs2.step st3).step st4) rt q4 fun v Hb' H' s' st5 r5 f5 q5 => c v Hb' H' s' ((all.trans st4).trans st5) r5 (FrSl.back (all.trans st4) f5) q5
end
section
variable {X : Cx} {F : Fr} {a b c : Expr} {ta tb tc : TE} {fa fb fc : DTE} {r r' : R2} {f f' : F2} {op op' : CmpOp} {pos : Pos} {K : PySem.W.Frag}
theorem de_chain (ho : OpR X (compareOp op) r) (lo : ∀ hid, LO X.K hid r f) (ho' : OpR X (compareOp op') r') (lo' : ∀ hid, LO X.K hid r' f') (ha : DE X F a ta fa) (hb : DE X F b tb fb) (hc : DE X F c tc fc)
    (hm : lastMarks [op, op'] [b, c] = false := by with_unfolding_all rfl) : DE X F (.Compare a [op, op'] [b, c] pos) (tChain r r' ta tb tc) (dChain f f' fa fb fc) :=
  ⟨pe_chain ho ho' ha.pe hb.pe hc.pe hm, sd_chain (lo F.hid) (lo' F.hid) ha.sd hb.sd hc.sd⟩
theorem dt_chain (ho : OpR X (compareOp op) r) (lo : ∀ hid, LO X.K hid r f) (ho' : OpR X (compareOp op') r') (lo' : ∀ hid, LO X.K hid r' f') (ha : DE X F a ta fa) (hb : DE X F b tb fb) (hc : DE X F c tc fc)
    (hm : lastMarks [op, op'] [b, c] = false := by with_unfolding_all rfl) : DT X F (.Compare a [op, op'] [b, c] pos) (tTest (tChain r r' ta tb tc)) (dTest (dChain f f' fa fb fc)) :=
  ⟨pt_chain ho ho' ha.pe hb.pe hc.pe hm, sd_test (sd_chain (lo F.hid) (lo' F.hid) ha.sd hb.sd hc.sd)⟩
theorem k_repT (e : X.K = K) : OpR X (binaryOp .Mult) (rRepB K) := e ▸ op_repB
end

/-! ### a, b = x, y -/
section
variable {K : PySem.W.Frag} {F : Fr} {ta : TA} {fa : DTA}
end
section
variable {X : Cx} {F : Fr} {a b c : Expr} {ta : TA} {fa : DTA} {px py pz pt pos : Pos} {kt k2 : Nat} {pt2 : Pos}
end

/-! ### source = _law_source(script) -/
section
variable {X : Cx} {px p1 p2 p3 pos : Pos} {K : PySem.W.Frag}
theorem ps_first (q : X.K = K) (G : Fn X.prog X.w K X.mg X.base "_law_source" 1 ["script"] (spSource K)) (hr : RoomG 1 X.A) (hN : X.N.Nodup) (h0 : X.N[0]? = some ("script" : Str) := by rfl) (h1 : X.N[1]? = some ("source" : Str) := by rfl) (v0 : Vis X.env.scope "script" := by first | exact Or.inl rfl | exact Or.inr (Or.inl rfl) | exact Or.inr (Or.inr rfl))
    (hx : Loc X.env.scope "source" := by first | exact Or.inl rfl | exact Or.inr rfl) (hg : Gl X "_law_source" := by rfl) (he : starEach [Expr.Name "script" p2] X.env = (false, eval (Expr.Name "script" p2) X.env) :: starEach [] X.env := by rfl)
    (hs : swapsWith (.Call (.Name "_law_source" p1) [.Name "script" p2] [] p3) (some (.Name "source" px)) pos.line X.env = pure false := by rfl) (hf : X.fn "source" = true ∨ X.env.scope.names.lookup ("source" : Str) = some .local := by first | exact .inl rfl | exact .inr rfl) :
    PS X (.Assign [.Name "source" px] (.Call (.Name "_law_source" p1) [.Name "script" p2] [] p3) pos) (tAsg (tFn (spSource K) (tCons (tVar 0) tNil)) (gName 1)) := by
  subst q
  obtain ⟨f, fd, hm, hk, hb, J⟩ := G.ex
  exact ps_set (i := 1) hN h1 hx (pe_callG J hr hg hm hk hb pass0 (pa_cons (pe_var h0 v0 (by decide) (by decide)) pa_nil) (by decide) he) hs hf
end
end Pu

end

section
/-! PuM: pure facts: equal scalars, the length of shown data, sorted lists, walks. -/
namespace Pu
open PySem L2 PyProof.Rows

/-! ### scalars -/
def fEqS (neg : Bool) : F2 := fun s u Q => match s, u with
  | .d (.str a), .d (.str b) => Q (.d (.bool (if neg then !decide (a = b) else decide (a = b))))
  | .d (.int a), .d (.int b) => Q (.d (.bool (if neg then !decide (a = b) else decide (a = b))))
  | .d (.bool a), .d (.bool b) => Q (.d (.bool (if neg then !decide (a = b) else decide (a = b))))
  | .d (.none), .d (.int _) => Q (.d (.bool neg))
  | .d (.int _), .d (.none) => Q (.d (.bool neg))
  | .d (.none), .d (.str _) => Q (.d (.bool neg))
  | .d (.str _), .d (.none) => Q (.d (.bool neg))
  | .d (.int _), .d (.str _) => Q (.d (.bool neg))
  | .d (.str _), .d (.int _) => Q (.d (.bool neg))
  | .d (.none), .d (.none) => Q (.d (.bool (!neg)))
  | _, _ => False
section
variable {K : PySem.W.Frag} {hid : Hid} {Hb H : Hp}
theorem bool_of' {x : V} {b : Bool} (h : RepSl K hid Hb H x (.d (.bool b))) : x = .bl b := bool_of h rfl
theorem non_of {x : V} (h : RepSl K hid Hb H x (.d .none)) : x = .non := by
  cases (show Dq K Hb x .none from h)
  rfl
theorem lo_eqS : LO K hid rEq (fEqS false) := by
  intro Hb H x y s u Q k st rx ry q c
  unfold fEqS at q
  split at q
  · rename_i a b; rw [str_of rx, str_of ry]; exact ⟨rfl, c _ Hb H (.d (.bool (decide (a = b)))) (Step.refl st) (by rw [show decide (V.str a = V.str b) = decide (a = b) by simp]; exact Dq.bl _) trivial q⟩
  · rename_i a b; rw [int_of rx, int_of ry]; exact ⟨rfl, c _ Hb H (.d (.bool (decide (a = b)))) (Step.refl st) (by rw [show decide (V.int a = V.int b) = decide (a = b) by simp]; exact Dq.bl _) trivial q⟩
  · rename_i a b; rw [bool_of' rx, bool_of' ry]; exact ⟨rfl, c _ Hb H (.d (.bool (decide (a = b)))) (Step.refl st) (by rw [show decide (V.bl a = V.bl b) = decide (a = b) by simp]; exact Dq.bl _) trivial q⟩
  · rw [non_of rx, int_of ry]; exact ⟨rfl, c _ Hb H (.d (.bool false)) (Step.refl st) (Dq.bl _) trivial q⟩
  · rw [non_of ry, int_of rx]; exact ⟨rfl, c _ Hb H (.d (.bool false)) (Step.refl st) (Dq.bl _) trivial q⟩
  · rw [non_of rx, str_of ry]; exact ⟨rfl, c _ Hb H (.d (.bool false)) (Step.refl st) (Dq.bl _) trivial q⟩
  · rw [non_of ry, str_of rx]; exact ⟨rfl, c _ Hb H (.d (.bool false)) (Step.refl st) (Dq.bl _) trivial q⟩
  · rw [int_of rx, str_of ry]; exact ⟨rfl, c _ Hb H (.d (.bool false)) (Step.refl st) (Dq.bl _) trivial q⟩
  · rw [str_of rx, int_of ry]; exact ⟨rfl, c _ Hb H (.d (.bool false)) (Step.refl st) (Dq.bl _) trivial q⟩
  · rw [non_of rx, non_of ry]; exact ⟨rfl, c _ Hb H (.d (.bool true)) (Step.refl st) (Dq.bl _) trivial q⟩
  · exact q.elim
theorem lo_neS : LO K hid rNe (fEqS true) := by
  intro Hb H x y s u Q k st rx ry q c
  unfold fEqS at q
  split at q
  · rename_i a b; rw [str_of rx, str_of ry]; exact ⟨rfl, c _ Hb H (.d (.bool (!decide (a = b)))) (Step.refl st) (by rw [show decide (V.str a = V.str b) = decide (a = b) by simp]; exact Dq.bl _) trivial q⟩
  · rename_i a b; rw [int_of rx, int_of ry]; exact ⟨rfl, c _ Hb H (.d (.bool (!decide (a = b)))) (Step.refl st) (by rw [show decide (V.int a = V.int b) = decide (a = b) by simp]; exact Dq.bl _) trivial q⟩
  · rename_i a b; rw [bool_of' rx, bool_of' ry]; exact ⟨rfl, c _ Hb H (.d (.bool (!decide (a = b)))) (Step.refl st) (by rw [show decide (V.bl a = V.bl b) = decide (a = b) by simp]; exact Dq.bl _) trivial q⟩
  · rw [non_of rx, int_of ry]; exact ⟨rfl, c _ Hb H (.d (.bool true)) (Step.refl st) (Dq.bl _) trivial q⟩
  · rw [non_of ry, int_of rx]; exact ⟨rfl, c _ Hb H (.d (.bool true)) (Step.refl st) (Dq.bl _) trivial q⟩
  · rw [non_of rx, str_of ry]; exact ⟨rfl, c _ Hb H (.d (.bool true)) (Step.refl st) (Dq.bl _) trivial q⟩
  · rw [non_of ry, str_of rx]; exact ⟨rfl, c _ Hb H (.d (.bool true)) (Step.refl st) (Dq.bl _) trivial q⟩
  · rw [int_of rx, str_of ry]; exact ⟨rfl, c _ Hb H (.d (.bool true)) (Step.refl st) (Dq.bl _) trivial q⟩
  · rw [str_of rx, int_of ry]; exact ⟨rfl, c _ Hb H (.d (.bool true)) (Step.refl st) (Dq.bl _) trivial q⟩
  · rw [non_of rx, non_of ry]; exact ⟨rfl, c _ Hb H (.d (.bool false)) (Step.refl st) (Dq.bl _) trivial q⟩
  · exact q.elim
end

/-! ### how long shown data is -/
mutual
def big : PyData → Nat
  | .none => 4
  | .bool _ => 5
  | .int _ => 101
  | .str x => 10 * x.length + 2
  | .list xs => bigAll xs + 3
  | .tuple xs => bigAll xs + 3
  | .dict _ => 0
def bigAll : List PyData → Nat
  | [] => 0
  | x :: xs => big x + 2 + bigAll xs
end
mutual
/-- plain data: no dicts, ints of at most 100 figures, texts of common signs -/
def tame : PyData → Bool
  | .none => true
  | .bool _ => true
  | .int i => decide (i.natAbs < 10 ^ 100)
  | .str x => x.cps.toList.all fun c => decide (c < 16 ^ 8)
  | .list xs => tameAll xs
  | .tuple xs => tameAll xs
  | .dict _ => false
def tameAll : List PyData → Bool
  | [] => true
  | x :: xs => tame x && tameAll xs
end
theorem small_pow : (10 : Nat) ^ 100 < 2 ^ 400 := by decide +kernel
mutual
theorem tame_noDict : ∀ d : PyData, tame d = true → d.hasDict = false
  | .none, _ => by simp [PyData.hasDict]
  | .bool _, _ => by simp [PyData.hasDict]
  | .int _, _ => by simp [PyData.hasDict]
  | .str _, _ => by simp [PyData.hasDict]
  | .list xs, h => by simp only [PyData.hasDict]; exact tame_noDictAll xs (by simpa [tame] using h)
  | .tuple xs, h => by simp only [PyData.hasDict]; exact tame_noDictAll xs (by simpa [tame] using h)
  | .dict _, h => by simp [tame] at h
theorem tame_noDictAll : ∀ xs : List PyData, tameAll xs = true → PyData.hasDictAll xs = false
  | [], _ => rfl
  | x :: xs, h => by
    simp only [tameAll, Bool.and_eq_true] at h
    simp only [PyData.hasDictAll, tame_noDict x h.1, tame_noDictAll xs h.2, Bool.or_self]
end
mutual
theorem tame_showable : ∀ d : PyData, tame d = true → d.showable = true
  | .none, _ => by simp [PyData.showable]
  | .bool _, _ => by simp [PyData.showable]
  | .int i, h => by
    simp only [tame, decide_eq_true_eq] at h
    simp only [PyData.showable, decide_eq_true_eq]
    by_cases h0 : i.natAbs = 0
    · rw [h0]; decide
    · exact Nat.lt_of_lt_of_le ((Nat.log2_lt h0).mpr (Nat.lt_trans h small_pow)) (by decide)
  | .str _, _ => by simp [PyData.showable]
  | .list xs, h => by simp only [PyData.showable]; exact tame_showableAll xs (by simpa [tame] using h)
  | .tuple xs, h => by simp only [PyData.showable]; exact tame_showableAll xs (by simpa [tame] using h)
  | .dict _, h => by simp [tame] at h
theorem tame_showableAll : ∀ xs : List PyData, tameAll xs = true → PyData.showableAll xs = true
  | [], _ => rfl
  | x :: xs, h => by
    simp only [tameAll, Bool.and_eq_true] at h
    simp only [PyData.showableAll, tame_showable x h.1, tame_showableAll xs h.2, Bool.and_self]
end
theorem piled_nil : piled [] = 0 := rfl
theorem textFrom_le : ∀ (ts : List Str) (k : Nat) (acc : Str), (textFrom k acc ts).length ≤ acc.length + piled ts
  | [], k, acc => Nat.le_refl _
  | t :: r, k, acc => by
    have ih := textFrom_le r (k + 1) (acc ++ (if k > 0 then ", " else "" : String) ++ t)
    have e : (acc ++ (if k > 0 then ", " else "" : String) ++ t).length = acc.length + (if k > 0 then 2 else 0) + t.length := by
      rw [strLen_append, strLen_append]; split <;> rfl
    rw [e] at ih
    show (textFrom (k + 1) _ r).length ≤ _
    rw [piled_cons]
    have d : (if k > 0 then 2 else 0 : Nat) ≤ 2 := by split <;> omega
    omega
theorem listText_le (ts : List Str) : (listText ts).length ≤ piled ts + 2 := by
  unfold listText
  rw [strLen_append]
  have h := textFrom_le ts 0 "["
  have e1 : ((("[" : String) : Str)).length = 1 := rfl
  have e2 : ((("]" : String) : Str)).length = 1 := rfl
  omega
theorem tupleText_le (ts : List Str) : (tupleText ts).length ≤ piled ts + 3 := by
  unfold tupleText
  rw [strLen_append, strLen_append]
  have e1 : ((("(" : String) : Str)).length = 1 := rfl
  have e3 : (((if ts.length == 1 then ",)" else ")" : String) : Str)).length ≤ 2 := by split <;> decide
  rw [e1]
  by_cases h : ts = []
  · subst h
    have : (Str.join ", " []).length = 0 := rfl
    rw [piled_nil]; omega
  · have := join_length_add ts h
    omega
mutual
theorem shown_le : ∀ d : PyData, tame d = true → d.shown.length ≤ big d
  | .none, _ => by simp only [PyData.shown, big]; decide
  | .bool b, _ => by cases b <;> (simp only [PyData.shown, big]; decide)
  | .int i, h => by
    simp only [tame, decide_eq_true_eq] at h
    have := int_text_length_le10 (a := i) (k := 100) (by decide) h
    simp only [PyData.shown, big]
    show (Str.ofString (toString i)).length ≤ 101
    rw [PySem.ofString_length]
    omega
  | .str x, h => by
    simp only [PyData.shown, big]
    simp only [tame, List.all_eq_true, decide_eq_true_eq] at h
    exact PySem.StrLaws.reprText_len x h
  | .list xs, h => by
    have i := shownAll_le xs (by simpa [tame] using h)
    have j := listText_le (PyData.shownAll xs)
    simp only [PyData.shown, big]
    omega
  | .tuple xs, h => by
    have i := shownAll_le xs (by simpa [tame] using h)
    have j := tupleText_le (PyData.shownAll xs)
    simp only [PyData.shown, big]
    omega
  | .dict _, h => by simp [tame] at h
theorem shownAll_le : ∀ xs : List PyData, tameAll xs = true → piled (PyData.shownAll xs) ≤ bigAll xs
  | [], _ => Nat.le_refl _
  | x :: xs, h => by
    simp only [tameAll, Bool.and_eq_true] at h
    have i := shown_le x h.1
    have j := shownAll_le xs h.2
    simp only [PyData.shownAll, bigAll, piled_cons]
    omega
end
theorem okR_of {d : PyData} (h : tame d = true) (hb : big d ≤ 16777216) (hd : d.depth ≤ 60) : okR d := ⟨tame_noDict d h, tame_showable d h, by rw [sizeLine_eq]; have := shown_le d h; omega, hd⟩
theorem tameAll_iff {xs : List PyData} : tameAll xs = true ↔ ∀ x ∈ xs, tame x = true := by
  induction xs with
  | nil => simp [tameAll]
  | cons x xs ih => simp [tameAll, ih]
theorem bigAll_le {xs : List PyData} {n : Nat} (h : ∀ x ∈ xs, big x ≤ n) : bigAll xs ≤ xs.length * (n + 2) := by
  induction xs with
  | nil => simp [bigAll]
  | cons x xs ih =>
    have h1 := h x List.mem_cons_self
    have h2 := ih fun y hy => h y (List.mem_cons_of_mem _ hy)
    simp only [bigAll, List.length_cons, Nat.add_mul, Nat.one_mul]
    omega
theorem depthAll_le {xs : List PyData} {n : Nat} (h : ∀ x ∈ xs, x.depth ≤ n) : PyData.depthAll xs ≤ n := by
  induction xs with
  | nil => simp [PyData.depthAll]
  | cons x xs ih =>
    have h1 := h x List.mem_cons_self
    have h2 := ih fun y hy => h y (List.mem_cons_of_mem _ hy)
    simp only [PyData.depthAll]
    exact Nat.max_le.mpr ⟨h1, h2⟩

/-! ### sorted texts -/
/-- a before b -/
def StrLe (a b : Str) : Prop := ¬ b.cps.toList < a.cps.toList
theorem StrLe.trans {a b c : Str} (h1 : StrLe a b) (h2 : StrLe b c) : StrLe a c := by
  unfold StrLe at *
  rw [List.not_lt] at *
  exact List.le_trans h1 h2
end Pu

end

section
/-! PuN: comprehensions and loops by what they give. -/
namespace Pu
open PySem L2 PyProof.Rows

/-! ### one-clause comprehensions -/
/-- one turn: what is put in -/
def dTurn (g : DTG) (tt : DTT) (te : DTE) (env : EV) (y : PyData) (k : List PyData → Prop) : Prop := g (.d y) env fun env1 => tt env1 fun b => if b = true then te env1 fun s => ∃ x, s.fz = .d x ∧ k [x] else k []
section
variable {g : DTG} {tt : DTT} {te : DTE} {env : EV}
theorem lcGo_by : ∀ (ys : List PyData) (I : Nat → List PyData → Prop) (i : Nat) (acc : List PyData) (Q : List PyData → Prop), I i acc →
    (∀ j y acc, ys[j]? = some y → I (i + j) acc → ∀ k : List PyData → Prop, (∀ o, I (i + j + 1) (acc ++ o) → k o) → dTurn g tt te env y k) → (∀ acc, I (i + ys.length) acc → Q acc) → dLcGo g tt te env ys acc Q
  | [], I, i, acc, Q, h, _, fin => fin acc h
  | y :: ys, I, i, acc, Q, h, step, fin => by
    have st := step 0 y acc rfl h (fun o => dLcGo g tt te env ys (acc ++ o) Q) fun o ho => lcGo_by ys I (i + 1) (acc ++ o) Q ho
      (fun j z acc' hz hI k hk => step (j + 1) z acc' hz (by rw [show i + (j + 1) = i + 1 + j by omega]; exact hI) k fun o ho => hk o (by rw [show i + 1 + j + 1 = i + (j + 1) + 1 by omega]; exact ho)) (fun acc' ha => fin acc' (by rw [List.length_cons, show i + (ys.length + 1) = i + 1 + ys.length by omega]; exact ha))
    show g (.d y) env fun env1 => tt env1 fun b => if b = true then te env1 fun s => ∃ x, s.fz = .d x ∧ dLcGo g tt te env ys (acc ++ [x]) Q else dLcGo g tt te env ys acc Q
    unfold dTurn at st
    simpa only [List.append_nil] using st
theorem lc_by {ys : List PyData} {Q : List PyData → Prop} (I : Nat → List PyData → Prop) (h0 : I 0 []) (step : ∀ j y acc, ys[j]? = some y → I j acc → ∀ k : List PyData → Prop, (∀ o, I (j + 1) (acc ++ o) → k o) → dTurn g tt te env y k) (fin : ∀ acc, I ys.length acc → Q acc) :
    dLcGo g tt te env ys [] Q := lcGo_by ys I 0 [] Q h0 (fun j y acc hy hI k hk => step j y acc hy (by simpa using hI) k fun o ho => hk o (by simpa using ho)) (fun acc ha => fin acc (by simpa using ha))
theorem take_more' {α : Type} {l : List α} {i : Nat} {x : α} (h : l[i]? = some x) : l.take (i + 1) = l.take i ++ [x] := by rw [List.take_add_one, h]; rfl
/-- each item by f -/
theorem lc_map (f : PyData → PyData) {ys : List PyData} {Q : List PyData → Prop} (h : ∀ y ∈ ys, ∀ k : DK, (∀ s, s.fz = .d (f y) → k s) → g (.d y) env fun env1 => te env1 k) (q : Q (ys.map f)) : dLcGo g dYes te env ys [] Q := by
  refine lc_by (fun i acc => acc = (ys.take i).map f) rfl (fun j y acc hy hI k hk => ?_) (fun acc ha => by rw [ha, List.take_length]; exact q)
  refine h y (List.mem_of_getElem? hy) _ fun s hs => ⟨f y, hs, hk [f y] ?_⟩
  rw [hI, take_more' hy, List.map_append]
  rfl
/-- each item anything with P -/
theorem lc_all (P : PyData → Prop) {ys : List PyData} {Q : List PyData → Prop} (h : ∀ y ∈ ys, ∀ k : DK, (∀ s x, s.fz = .d x → P x → k s) → g (.d y) env fun env1 => te env1 k) (q : ∀ zs : List PyData, zs.length = ys.length → (∀ z ∈ zs, P z) → Q zs) : dLcGo g dYes te env ys [] Q := by
  refine lc_by (fun i acc => i ≤ ys.length → acc.length = i ∧ ∀ z ∈ acc, P z) (fun _ => ⟨rfl, fun z hz => by cases hz⟩) (fun j y acc hy hI k hk => ?_) (fun acc ha => q acc (ha (Nat.le_refl _)).1 (ha (Nat.le_refl _)).2)
  have hj : j < ys.length := (List.getElem?_eq_some_iff.mp hy).1
  obtain ⟨h1, h2⟩ := hI (by omega)
  refine h y (List.mem_of_getElem? hy) _ fun s x hs hp => ⟨x, hs, hk [x] fun _ => ⟨by simp [h1], fun z hz => ?_⟩⟩
  rcases List.mem_append.mp hz with hz | hz
  · exact h2 z hz
  · rw [List.mem_singleton.mp hz]; exact hp
/-- some of the items -/
theorem lc_some {ys : List PyData} {Q : List PyData → Prop} (h : ∀ y ∈ ys, ∀ k : List PyData → Prop, k [y] → k [] → dTurn g tt te env y k) (q : ∀ zs : List PyData, zs.Sublist ys → Q zs) : dLcGo g tt te env ys [] Q := by
  refine lc_by (fun i acc => acc.Sublist (ys.take i)) (List.nil_sublist _) (fun j y acc hy hI k hk => ?_) (fun acc ha => q acc (by rw [List.take_length] at ha; exact ha))
  have e := take_more' hy
  refine h y (List.mem_of_getElem? hy) k (hk [y] ?_) (hk [] ?_)
  · show (acc ++ [y]).Sublist (ys.take (j + 1)); rw [e]; exact hI.append (List.Sublist.refl _)
  · show (acc ++ []).Sublist (ys.take (j + 1)); rw [e, List.append_nil]; exact hI.trans (List.sublist_append_left _ _)
end
/-! ### two clauses, texts -/
/-! ### loops -/
theorem loop_go {g : DTG} {body : DTS} {E : DEnds} : ∀ (ys : List PyData) (I : Nat → EV → Prop) (i : Nat) (env : EV), I i env →
    (∀ j y env, ys[j]? = some y → I (i + j) env → ∀ nx : EV → Prop, (∀ env', I (i + j + 1) env' → nx env') → g (.d y) env fun env1 => body { nx := nx, ct := nx, bk := E.nx, rt := E.rt } env1) → (∀ env, I (i + ys.length) env → E.nx env) → dLoop g body E ys env
  | [], I, i, env, h, _, fin => fin env h
  | y :: ys, I, i, env, h, step, fin =>
    step 0 y env rfl h (dLoop g body E ys) fun env' ho => loop_go ys I (i + 1) env' ho
      (fun j z env' hz hI nx hk => step (j + 1) z env' hz (by rw [show i + (j + 1) = i + 1 + j by omega]; exact hI) nx fun o ho => hk o (by rw [show i + 1 + j + 1 = i + (j + 1) + 1 by omega]; exact ho)) (fun env' ha => fin env' (by rw [List.length_cons, show i + (ys.length + 1) = i + 1 + ys.length by omega]; exact ha))
theorem loop_by {g : DTG} {body : DTS} {E : DEnds} {ys : List PyData} {env : EV} (I : Nat → EV → Prop) (h0 : I 0 env)
    (step : ∀ j y env, ys[j]? = some y → I j env → ∀ nx : EV → Prop, (∀ env', I (j + 1) env' → nx env') → g (.d y) env fun env1 => body { nx := nx, ct := nx, bk := E.nx, rt := E.rt } env1) (fin : ∀ env, I ys.length env → E.nx env) : dLoop g body E ys env :=
  loop_go ys I 0 env h0 (fun j y env hy hI nx hk => step j y env hy (by simpa using hI) nx fun e he => hk e (by simpa using he)) (fun e he => fin e (by simpa using he))
/-! ### small facts on data -/
theorem any_strs {z : Str} : ∀ {xs : List Str}, ((xs.map PyData.str).any fun y => PyData.eqv y (.str z)) = decide (z ∈ xs)
  | [] => by simp
  | x :: xs => by
    rw [List.map_cons, List.any_cons, any_strs]
    simp only [PyData.eqv, List.mem_cons]
    by_cases c : x = z
    · simp [c]
    · have c' : ¬ z = x := fun e => c e.symm
      simp [c, c', show (x == z) = false by simpa using c]
theorem all_flat_strs : ∀ {xs : List Str}, (xs.map PyData.str).all flatD = true
  | [] => rfl
  | x :: xs => by rw [List.map_cons, List.all_cons, all_flat_strs]; rfl
theorem strsD_map : ∀ xs : List Str, strsD (xs.map PyData.str) = some xs
  | [] => rfl
  | x :: xs => by show (strsD (xs.map PyData.str)).map (x :: ·) = _; rw [strsD_map xs]; rfl
theorem sub_map {α β : Type} {f : α → β} {zs : List β} {xs : List α} (h : zs.Sublist (xs.map f)) : ∃ ys : List α, ys.Sublist xs ∧ zs = ys.map f := List.sublist_map_iff.mp h
theorem perm_map {α β : Type} {f : α → β} {g : β → α} (hg : ∀ x, g (f x) = x) {zs : List β} {xs : List α} (h : zs.Perm (xs.map f)) : ∃ ys : List α, ys.Perm xs ∧ zs = ys.map f := by
  refine ⟨zs.map g, ?_, ?_⟩
  · have q := h.map g
    rw [List.map_map] at q
    have e : xs.map (g ∘ f) = xs := by
      have e2 : xs.map (g ∘ f) = xs.map id := List.map_congr_left fun x _ => hg x
      rw [e2, List.map_id]
    rw [e] at q
    exact q
  · rw [List.map_map]
    have e : zs.map (f ∘ g) = zs.map id := List.map_congr_left fun z hz => by
      obtain ⟨x, _, rfl⟩ := List.mem_map.mp (h.mem_iff.mp hz)
      show f (g (f x)) = f x
      rw [hg]
    rw [e, List.map_id]
def unStr : PyData → Str
  | .str x => x
  | _ => Str.empty
end Pu

end

section
set_option maxHeartbeats 1000000
/-! PuZ: slices from behind, ranges that fall, max of a list, int of a truth, isinstance. -/
namespace Pu
open PySem L2 PyProof.Rows

/-! ### t[::-1] of a tuple -/
section
variable {prog : Program} {w : World} {A : Around} {E : Value → Shared → Prop} {s : Shared}
theorem fm_congr {α β : Type} {f g : α → Option β} : ∀ {l : List α}, (∀ x ∈ l, f x = g x) → l.filterMap f = l.filterMap g
  | [], _ => rfl
  | x :: l, h => by rw [List.filterMap_cons, List.filterMap_cons, h x List.mem_cons_self, fm_congr fun y hy => h y (List.mem_cons_of_mem _ hy)]
end

section
variable {X : Cx}
end
theorem DqAll.reverse {K : PySem.W.Frag} {H : Hp} : ∀ {ds : List PyData} {vs : List V}, DqAll K H vs ds → DqAll K H vs.reverse ds.reverse
  | _, _, .nil => .nil
  | _, _, .cons h t => by
    rw [List.reverse_cons, List.reverse_cons]
    exact DqAll.append (DqAll.reverse t) (.cons h .nil)
def dRevL (f : DTE) : DTE := fun env Q => f env fun s => ∃ xs, s.fz = .d (.list xs) ∧ Q (.own xs.reverse)
section
variable {K : PySem.W.Frag} {F : Fr} {te : TE} {fe : DTE}
theorem sd_revL (h : SdE K F te fe) : SdE K F (tRevL K te) (dRevL fe) := by
  intro Hb H σ env Q k rp q c
  refine h.go (Q := fun s => ∃ xs, s = .d (.list xs) ∧ Q (.own xs.reverse)) rp q fun x Hb1 H1 s st1 rs1 _ q1 => ?_
  obtain ⟨xs, e, q1⟩ := q1
  subst e
  cases (show Dq K Hb1 x (.list xs) from rs1) with
  | lst a1 a2 =>
    refine ⟨_, _, rfl, SqL.of (st1.st.ex _ _ a1), fun p hp => ?_⟩
    obtain ⟨s2, r2, f2⟩ := own_new (K := K) st1.st hp (DqAll.reverse a2)
    exact c _ _ _ (.own xs.reverse) (st1.trans s2) r2 (FrSl.back st1 f2) q1
end
section
variable {X : Cx} {F : Fr} {e : Expr} {te : TE} {fe : DTE} {k : Nat} {p1 p2 p3 pos : Pos}
theorem de_revL (h : DE X F e te fe) : DE X F (.Subscript e (.Slice none none (some (.UnaryOp .USub (.Constant (.int 1) k p1) p2)) p3) pos) (tRevL X.K te) (dRevL fe) := ⟨pe_revL h.pe, sd_revL h.sd⟩
theorem k_revL {K : PySem.W.Frag} (ek : X.K = K) (h : DE X F e te fe) : DE X F (.Subscript e (.Slice none none (some (.UnaryOp .USub (.Constant (.int 1) k p1) p2)) p3) pos) (tRevL K te) (dRevL fe) := ek ▸ de_revL h
end

/-! ### range(i, j, -1) -/
def downD (hi : Int) (n : Nat) : List PyData := (List.range n).map fun i => .int (hi - (i : Nat))
def dDown (f : DTA) : DTI := fun env Q => f env fun ss => ∃ i j : Int, ss = [.d (.int i), .d (.int j), .d (.int (-1))] ∧ (-(2 ^ 60) ≤ i ∧ i < 2 ^ 60 ∧ -(2 ^ 60) ≤ j ∧ j < 2 ^ 60) ∧ Q (downD i (i - j).toNat)
section
variable {K : PySem.W.Frag} {F : Fr} {hid : Hid} {tr : TA} {fr : DTA}
theorem gives_down {Hb : Hp} (hi : Int) (n : Nat) : Gives K hid Hb (Itc hi (-1) n) (downD hi n) := by
  have hl : (downD hi n).length = n := by simp [downD]
  refine ⟨fun _ => True, _, by rw [hl]; exact walk_rangeC, fun _ _ => trivial, fun i Hb' H x H' hi' st ex y => ?_⟩
  obtain ⟨e1, e2⟩ := y
  subst e1 e2
  rw [hl] at hi'
  refine ⟨Hb', .int (hi - (i : Nat)), by simp [downD, hi'], Step.refl st, ?_⟩
  have e : hi + (i : Int) * -1 = hi - (i : Int) := by omega
  show Dq K Hb' (.int (hi + (i : Int) * -1)) _
  rw [e]
  exact .int _
theorem down_size {i j : Int} : Builtin.Range.rangeSize i j (-1) = (i - j).toNat := by
  unfold Builtin.Range.rangeSize
  rw [if_neg (by decide)]
  by_cases c : i > j
  · rw [if_pos c, show (-(-1 : Int)) = 1 by decide, Int.ediv_one]; omega
  · rw [if_neg c]; omega
theorem rgC_down {i j : Int} (h : -(2 ^ 60) ≤ i ∧ i < 2 ^ 60 ∧ -(2 ^ 60) ≤ j ∧ j < 2 ^ 60) : RgC i j (-1) (i - j).toNat := by
  refine ⟨by decide, by decide, ?_, down_size⟩
  have fit : ∀ x : Int, -(2 ^ 62) ≤ x → x < 2 ^ 62 → Builtin.Range.rangeFitsLong x = true := fun x h1 h2 => by
    unfold Builtin.Range.rangeFitsLong
    rw [Bool.and_eq_true]
    exact ⟨decide_eq_true (by omega), decide_eq_true (by omega)⟩
  unfold Builtin.Range.small
  rw [down_size, fit i (by omega) (by omega), fit j (by omega) (by omega), fit (-1) (by omega) (by omega), fit _ (by omega) (by omega)]
  rw [if_neg (by decide), fit (j + (-1 + 1)) (by omega) (by omega), Bool.or_true]
  rfl
theorem rep3 {Hb H : Hp} {xs : List V} {s u t : Sl} (r : RepAll K hid Hb H xs [s, u, t]) : ∃ v w x, xs = [v, w, x] ∧ RepSl K hid Hb H v s ∧ RepSl K hid Hb H w u ∧ RepSl K hid Hb H x t := by
  cases r with
  | cons h _ t =>
    cases t with
    | cons h2 _ t =>
      cases t with
      | cons h3 _ t => cases t; exact ⟨_, _, _, rfl, h, h2, h3⟩
theorem si_down (h : SdA K F tr fr) : SdI K F (iRng3 tr) (dDown fr) := by
  intro Hb H σ env Q R rp q c
  refine h Hb H σ env _ _ rp q fun vs Hb1 H1 ss st1 rs1 q1 => ?_
  obtain ⟨i, j, e, b, q1⟩ := q1
  subst e
  obtain ⟨x, y, z, rfl, h1, h2, h3⟩ := rep3 rs1
  rw [int_of h1, int_of h2, int_of h3]
  exact ⟨i, j, -1, _, rfl, rgC_down b, c _ Hb1 H1 _ st1 (gives_down i _) q1⟩
end
section
variable {X : Cx} {F : Fr} {tg : Expr} {tr : TA} {fr : DTA} {p pos : Pos}
theorem di_down {a b c : Expr} (hm : X.mg "range" = none) (ha : DA X F [a, b, c] tr fr) (hg : Gl X "range" := by rfl) (hs : starEach [a, b, c] X.env = (false, eval a X.env) :: starEach [b, c] X.env := by rfl) (hpl : (backTo pos (starEach [b, c] X.env)).any (·.1) = false := by rfl) : DI X F tg (.Call (.Name "range" p) [a, b, c] [] pos) (iRng3 tr) (dDown fr) := ⟨pi_range3 hg hm ha.pe hs hpl, si_down ha.sd⟩
end

/-! ### max of a list of ints, int of a truth, isinstance -/
def intsD : List PyData → Option (List Int)
  | [] => some []
  | .int i :: xs => (intsD xs).map (i :: ·)
  | _ :: _ => none
theorem intsD_map : ∀ ns : List Int, intsD (ns.map PyData.int) = some ns
  | [] => rfl
  | n :: ns => by rw [List.map_cons]; unfold intsD; rw [intsD_map ns]; rfl
theorem ints_v {K : PySem.W.Frag} {H : Hp} : ∀ {ds : List PyData} {vs : List V} {ns : List Int}, DqAll K H vs ds → intsD ds = some ns → vs = ns.map V.int
  | [], _, _, .nil, e => by cases e; rfl
  | d :: ds, _, _, .cons h t, e => by
    cases h with
    | int i =>
      unfold intsD at e
      obtain ⟨r, e1, e2⟩ := Option.map_eq_some_iff.mp e
      subst e2
      rw [ints_v t e1]; rfl
    | _ => cases e
def fMax1 : FN := fun ss Q => match ss with
  | [.d (.list ds)] => ∃ ns, intsD ds = some ns ∧ 0 < ns.length ∧ ∀ m, m ∈ ns → (∀ y ∈ ns, y ≤ m) → Q (.d (.int m))
  | _ => False
def fIntA : FN := fun ss Q => match ss with
  | [.d (.int i)] => Q (.d (.int i))
  | [.d (.bool b)] => Q (.d (.int (if b then 1 else 0)))
  | _ => False
def tyName : PyData → String
  | .none => "NoneType"
  | .bool _ => "bool"
  | .int _ => "int"
  | .str _ => "str"
  | .list _ => "list"
  | .tuple _ => "tuple"
  | .dict _ => "dict"
def fIsi : FN := fun ss Q => match ss with
  | [.d x, .v (.ty n)] => ∃ b, kitB (tyName x) n = some b ∧ Q (.d (.bool b))
  | _ => False
section
variable {K : PySem.W.Frag} {hid : Hid}
theorem lc_max1 : LC K hid (rMax K) fMax1 := by
  intro Hb H xs ss Q k st r q c
  unfold fMax1 at q
  split at q
  · rename_i ds
    obtain ⟨v, rfl, h⟩ := rep1 r
    obtain ⟨ns, e, hl, q⟩ := q
    cases (show Dq K Hb v (.list ds) from h) with
    | lst h1 h2 =>
      have ev := ints_v h2 e
      subst ev
      exact ⟨_, ns, rfl, SqL.of (st.ex _ _ h1), hl, fun m hm hy => c _ Hb H (.d (.int _)) (Step.refl st) (Dq.int _) trivial (q m hm hy)⟩
  · exact q.elim
theorem lc_intA : LC K hid (fun xs H Q => (∃ i, xs = [.int i] ∧ Q (.int i) H) ∨ ∃ k, xs = [.bl k] ∧ Q (.int (if k then 1 else 0)) H) fIntA := by
  intro Hb H xs ss Q k st r q c
  unfold fIntA at q
  split at q
  · obtain ⟨v, rfl, h⟩ := rep1 r
    rw [int_of h]
    exact .inl ⟨_, rfl, c _ Hb H (.d (.int _)) (Step.refl st) (Dq.int _) trivial q⟩
  · obtain ⟨v, rfl, h⟩ := rep1 r
    rw [bool_of' h]
    exact .inr ⟨_, rfl, c _ Hb H (.d (.int _)) (Step.refl st) (Dq.int _) trivial q⟩
  · exact q.elim
theorem ty_of {Hb H : Hp} {v : V} {x : PyData} (h : Dq K Hb v x) (s : Same Hb H) : TyX K H v (.type (tyName x)) := by
  cases h with
  | non => exact .base .non
  | bl b => exact .base (.bl b)
  | int i => exact .base (.int i)
  | str z => exact .base (.str z)
  | lst h1 _ => exact .base (.lst (s _ _ h1))
  | dic h1 _ _ => exact .base (.dK (s _ _ h1))
  | tup h1 _ =>
    rcases h1 with (h1 | ⟨o, h1⟩) | ⟨o, its, n, h2, h3, _⟩
    · exact .base (.tup (s _ _ h1))
    · exact .fTuple (s _ _ h1)
    · exact .kTuple h2 h3
theorem lc_isi : LC K hid (rIsi K) fIsi := by
  intro Hb H xs ss Q k st r q c
  unfold fIsi at q
  split at q
  · rename_i x n
    obtain ⟨v, w, rfl, h1, h2⟩ := rep2 r
    obtain ⟨b, e, q⟩ := q
    have e2 : w = .ty n := h2
    subst e2
    exact ⟨v, .ty n, .type (tyName x), .type n, b, rfl, .ty n, ty_of h1 st.ex, kit_ty e, c _ Hb H (.d (.bool b)) (Step.refl st) (Dq.bl b) trivial q⟩
  · exact q.elim
end
theorem k_max1 {X : Cx} {K : PySem.W.Frag} (e : X.K = K) (hc : X.calm = true := by rfl) : CallR X (.builtin "max") (rMax K) := e ▸ cr_max hc
theorem k_isi {X : Cx} {K : PySem.W.Frag} (e : X.K = K) : CallR X (.builtin "isinstance") (rIsi K) := e ▸ call_isi
end Pu

end

section
set_option maxHeartbeats 1000000
/-! PuY: own lists read where the value holds no list; an own list's item; dicts made, read; written dicts read. -/
namespace Pu
open PySem L2 PyProof.Rows

/-! ### values without lists -/
mutual
def lfD : PyData → Bool
  | .none => true
  | .bool _ => true
  | .int _ => true
  | .str _ => true
  | .tuple xs => lfAll xs
  | .list _ => false
  | .dict _ => false
def lfAll : List PyData → Bool
  | [] => true
  | x :: xs => lfD x && lfAll xs
end
theorem lfAll_iff : ∀ {xs : List PyData}, lfAll xs = true ↔ ∀ x ∈ xs, lfD x = true
  | [] => by simp [lfAll]
  | x :: xs => by simp [lfAll, lfAll_iff]
def Sl.lf : Sl → Prop
  | .d x => lfD x = true
  | .v _ => True
  | .src => True
  | .own xs => lfAll xs = true
  | .ownD ds => lfAll (ds.map Prod.snd) = true
  | .ownX _ => False
  | .any => True
section
variable {K : PySem.W.Frag} {F : Fr} {Hb H : Hp} {σ : L2.St} {env : EV}
theorem Butl.seqT {H H' : Hp} {a : Addr} {xs : List V} (e : Butl H H') (h : SqT K H a xs) : SqT K H' a xs := by
  rcases h with (h | ⟨o, h⟩) | h
  · rcases e _ _ h with (⟨vs, z⟩ | ⟨vs, z⟩) | z
    · cases z
    · cases z
    · exact .inl (.inl z)
  · rcases e _ _ h with (⟨vs, z⟩ | ⟨vs, z⟩) | z
    · cases z
    · cases z
    · exact .inl (.inr ⟨o, z⟩)
  · exact .inr h
theorem Dq.lf {H H' : Hp} (e : Butl H H') {d : PyData} {v : V} (h : Dq K H v d) : lfD d = true → Dq K H' v d :=
  Dq.rec (motive_1 := fun v d _ => lfD d = true → Dq K H' v d) (motive_2 := fun vs ds _ => lfAll ds = true → DqAll K H' vs ds) (fun _ => .non) (fun b _ => .bl b) (fun i _ => .int i) (fun x _ => .str x)
    (fun _ _ _ z => by cases z) (fun h1 _ i z => .tup (e.seqT h1) (i (by simpa [lfD] using z)))
    (fun _ _ _ _ z => by cases z) (fun _ => .nil) (fun _ _ i1 i2 z => by
      rw [lfAll, Bool.and_eq_true] at z
      exact .cons (i1 z.1) (i2 z.2)) h
theorem DqAll.lf {H H' : Hp} (e : Butl H H') : ∀ {ds : List PyData} {vs : List V}, DqAll K H vs ds → lfAll ds = true → DqAll K H' vs ds
  | _, _, .nil, _ => .nil
  | _, _, .cons h t, z => by
    rw [lfAll, Bool.and_eq_true] at z
    exact .cons (Dq.lf e h z.1) (DqAll.lf e t z.2)
theorem Rep.frzL2 : ∀ (js : List Nat) {Hb : Hp} {env : EV}, Rep K F Hb H σ env → ∃ Hb1, Same Hb Hb1 ∧ NewL Hb Hb1 ∧ Rep K F Hb1 H σ (Pu.frzL env js)
  | [], Hb, env, r => ⟨Hb, Same.refl _, fun b o e n => (by rw [n] at e; cases e), r⟩
  | j :: js, Hb, env, r => by
    obtain ⟨Hb1, e1, n1, r1⟩ := r.frz2 j
    obtain ⟨Hb2, e2, n2, r2⟩ := Rep.frzL2 js r1
    refine ⟨Hb2, e1.trans e2, fun b o e n => ?_, r2⟩
    cases z : Hb1 b with
    | none => exact n2 b o e z
    | some u =>
      have := e2 b u z
      rw [this] at e
      cases e
      exact n1 b _ z n
open Classical in
/-- own lists read within an expression whose value holds no list -/
def dPeekF (js : List Nat) (t : DTE) : DTE := fun env Q => t (frzL env js) fun s => s.lf ∧ Q s
open Classical in
theorem sd_peekF (js : List Nat) {te : TE} {t : DTE} (h : SdE K F te t) : SdE K F te (dPeekF js t) := by
  intro Hb H σ env Q k r q c
  obtain ⟨Hb1, e1, n1, r1⟩ := r.frzL2 js
  refine h Hb1 H σ _ _ k r1 q fun v Hb2 H' s st rs f q => ?_
  obtain ⟨fl, q⟩ := q
  let Hb3 : Hp := fun b => if Hb b = none ∧ Hb1 b ≠ none then none else Hb2 b
  have sub : ∀ b o, Hb3 b = some o → Hb2 b = some o := fun b o e => by
    have e : (if Hb b = none ∧ Hb1 b ≠ none then none else Hb2 b) = some o := e
    split at e
    · cases e
    · exact e
  have keep : Butl Hb2 Hb3 := fun b o e => by
    by_cases z : Hb b = none ∧ Hb1 b ≠ none
    · left
      cases y : Hb1 b with
      | none => exact (z.2 y).elim
      | some u =>
        have := st.ex b u y
        rw [this] at e
        cases e
        exact n1 b _ y z.1
    · right
      show (if Hb b = none ∧ Hb1 b ≠ none then none else Hb2 b) = some o
      rw [if_neg z]; exact e
  have step : Step F.hid Hb H Hb3 H' := by
    refine ⟨⟨fun b o e => st.st.ex b o (sub b o e), st.st.ok, fun b hb => ?_⟩, fun b o e => ?_, fun b o e n => ?_, st.keep⟩
    · cases y : Hb3 b with
      | none => rfl
      | some u =>
        have := sub b u y
        rw [st.st.out b hb] at this
        cases this
    · show (if Hb b = none ∧ Hb1 b ≠ none then none else Hb2 b) = some o
      rw [if_neg (fun z => by rw [z.1] at e; cases e)]
      exact st.ex b o (e1 b o e)
    · have e' := sub b o e
      cases y : Hb1 b with
      | none => exact st.new b o e' y
      | some u =>
        have e : (if Hb b = none ∧ Hb1 b ≠ none then none else Hb2 b) = some o := e
        rw [if_pos ⟨n, fun z => by rw [z] at y; cases y⟩] at e
        cases e
  refine c v Hb3 H' s step ?_ f q
  cases s with
  | d x => exact Dq.lf keep rs fl
  | v y => exact rs
  | src => exact rs
  | own xs =>
    obtain ⟨p, vs, e2, e3, e4, e5, e6⟩ := rs
    refine ⟨p, vs, e2, e3, DqAll.lf keep e4 fl, ?_, e6⟩
    cases y : Hb3 p with
    | none => rfl
    | some u =>
      have := sub p u y
      rw [e5] at this; cases this
  | ownD ds =>
    obtain ⟨p, vs, e2, e3, e4, e5, e6⟩ := rs
    refine ⟨p, vs, e2, e3, ⟨e4.1, DqAll.lf keep e4.2 fl⟩, ?_, e6⟩
    cases y : Hb3 p with
    | none => rfl
    | some u =>
      have := sub p u y
      rw [e5] at this; cases this
  | ownX T => exact fl.elim
  | any => trivial
end
section
variable {X : Cx} {F : Fr} {e : Expr} {te : TE} {fe : DTE}
theorem de_peekF (js : List Nat) (h : DE X F e te fe) : DE X F e te (dPeekF js fe) := ⟨h.pe, sd_peekF js h.sd⟩
end

/-! ### an item of an own list -/
def dIxOwn (i : Nat) (f : DTE) : DTE := fun env Q => ∃ xs, env[i]? = some (some (.own xs)) ∧ f env fun s => ∃ n d, s.fz = .d (.int n) ∧ atI xs n = some d ∧ Q (.d d)
section
variable {K : PySem.W.Frag} {F : Fr}
theorem sd_ixOwn {i : Nat} {tk : TE} {fk : DTE} (h : SdE K F tk fk) : SdE K F (tOp (rIx K) (tVar i) tk) (dIxOwn i fk) := by
  intro Hb H σ env Q k r q c
  obtain ⟨xs, e, q⟩ := q
  obtain ⟨v, e1, rs, fr⟩ := r.sl i _ e
  obtain ⟨p, vs, e2, e3, e4, e5, e6⟩ := rs
  subst e2
  refine ⟨_, e1, ?_⟩
  refine h.go (Q := fun s => ∃ n d, s = .d (.int n) ∧ atI xs n = some d ∧ Q (.d d)) r q fun y Hb1 H1 s st1 rs1 _ q1 => ?_
  obtain ⟨n, d, es, ed, q1⟩ := q1
  subst es
  obtain ⟨u, h3, h4⟩ := at_d (DqAll.mono st1.ex e4) ed
  exact .inl ⟨_, _, n, u, rfl, int_of rs1, SqL.of (st1.keep p _ e3 e6), h3, c u Hb1 H1 (.d d) st1 h4 trivial q1⟩
end
theorem k_ixOwn {X : Cx} {F : Fr} {K : PySem.W.Frag} {i : Nat} {x : Str} {b : Expr} {tk : TE} {fk : DTE} {ps pos : Pos} (ek : X.K = K) (h : DE X F b tk fk) (hN : X.N[i]? = some x := by rfl)
    (hv : Vis X.env.scope x := by first | exact Or.inl rfl | exact Or.inr (Or.inl rfl) | exact Or.inr (Or.inr rfl)) (hd : (x == ("__debug__" : Str)) = false := by decide)
    (hcd : (x == ("__classdict__" : Str)) = false := by decide) (hs : PlainIx b := by exact fun _ _ => rfl) : DE X F (.Subscript (.Name x ps) b pos) (tOp (rIx K) (tVar i) tk) (dIxOwn i fk) :=
  ek ▸ ⟨pe_ix ix_seq (pe_var hN hv hd hcd) h.pe hs, sd_ixOwn h.sd⟩
end Pu

end

section
set_option maxHeartbeats 1000000
/-! PuDc: dicts with texts for keys: made, read; written ones read. -/
namespace Pu
open PySem L2 PyProof.Rows
def isStr : PyData → Str → Bool
  | .str k, z => decide (k = z)
  | _, _ => false
theorem isStr_key {q : Key} {z : Str} : isStr (keyD q) z = true ↔ q = Sum.inr z := by
  cases q with
  | inl i => simp [keyD, isStr]
  | inr x => simp [keyD, isStr]
def getS : List (PyData × PyData) → Str → Option PyData
  | [], _ => none
  | p :: r, z => if isStr p.1 z = true then some p.2 else getS r z
theorem getS_some {K : PySem.W.Frag} {H : Hp} {z : Str} {d : PyData} : ∀ {ds : List (PyData × PyData)} {kvs : List (Key × V)}, ds.map Prod.fst = kvs.map (fun p => keyD p.1) → DqAll K H (kvs.map Prod.snd) (ds.map Prod.snd) → getS ds z = some d →
    ∃ v, valV kvs (Sum.inr z) = some v ∧ Dq K H v d
  | [], _, _, _, e => by cases e
  | p :: ds, [], e, _, _ => by cases e
  | p :: ds, q :: kvs, e, h, g => by
    rw [List.map_cons, List.map_cons] at e h
    injection e with e1 e2
    cases h with
    | cons h t =>
      unfold getS at g
      rw [e1] at g
      by_cases c : q.1 = Sum.inr z
      · rw [if_pos (isStr_key.mpr c)] at g
        cases g
        exact ⟨_, valV_pos c, h⟩
      · rw [if_neg (fun y => c (isStr_key.mp y))] at g
        rw [valV_neg c]
        exact getS_some e2 t g
theorem getS_none {z : Str} : ∀ {ds : List (PyData × PyData)} {kvs : List (Key × V)}, ds.map Prod.fst = kvs.map (fun p => keyD p.1) → getS ds z = none → valV kvs (Sum.inr z) = none
  | [], [], _, _ => rfl
  | [], q :: kvs, e, _ => by cases e
  | p :: ds, [], e, _ => by cases e
  | p :: ds, q :: kvs, e, g => by
    rw [List.map_cons, List.map_cons] at e
    injection e with e1 e2
    unfold getS at g
    rw [e1] at g
    by_cases c : q.1 = Sum.inr z
    · rw [if_pos (isStr_key.mpr c)] at g
      cases g
    · rw [if_neg (fun y => c (isStr_key.mp y))] at g
      rw [valV_neg c]
      exact getS_none e2 g
/-- d[z] -/
def fDIx : F2 := fun s u Q => match s, u with
  | .d (.dict kvs), .d (.str z) => ∃ d, getS kvs z = some d ∧ Q (.d d)
  | _, _ => False
def rDIx : R2 := fun x y H Q => ∃ a v, x = .ref a ∧ DGet H a y (some v) ∧ Q v H
section
variable {K : PySem.W.Frag} {hid : Hid}
theorem lo_dix : LO K hid rDIx fDIx := by
  intro Hb H x y s u Q k st rx ry q c
  unfold fDIx at q
  split at q
  · rename_i kvs z
    obtain ⟨d, e, q⟩ := q
    cases (show Dq K Hb x (.dict kvs) from rx) with
    | dic h1 h2 h3 =>
      obtain ⟨v, ev, hv⟩ := getS_some h2 h3 e
      rw [str_of ry]
      refine ⟨_, v, rfl, ?_, c v Hb H (.d d) (Step.refl st) hv trivial q⟩
      rw [← ev]
      exact DGet.k (k := Sum.inr z) (st.ex _ _ h1)
  · exact q.elim
end
section
variable {X : Cx} {F : Fr} {a b : Expr} {ta tb tx : TE} {fa fb fx : DTE} {pos : Pos}
theorem de_dix (hu : X.A.units + 64 < cLine) (ha : DE X F a ta fa) (hb : DE X F b tb fb) (hs : NoSl b := by exact fun _ _ => rfl) : DE X F (.Subscript a b pos) (tOp rDIx ta tb) (dOp fDIx fa fb) := ⟨pe_dget (Nat.lt_of_le_of_lt (Nat.add_le_add_left (by decide) _) hu) ha.pe hb.pe hs, sd_op lo_dix ha.sd hb.sd⟩
end
/-! ### d.get(z, x) -/
def orSl (o : Option PyData) (t : Sl) : Sl := match o with
  | some d => .d d
  | none => t

def dGet2 (f g h : DTE) : DTE := fun env Q => f env fun s => ∃ kvs, s.fz = .d (.dict kvs) ∧ g env fun u => ∃ z, u.fz = .d (.str z) ∧ h env fun t => Q (orSl (getS kvs z) t.fz)
section
variable {K : PySem.W.Frag} {F : Fr} {ta tb tx : TE} {fa fb fx : DTE}
theorem sd_get2 (h1 : SdE K F ta fa) (h2 : SdE K F tb fb) (h3 : SdE K F tx fx) : SdE K F (tDGet2 ta tb tx) (dGet2 fa fb fx) := by
  intro Hb H σ env Q k rp q c
  refine h1.go (Q := fun s => ∃ kvs, s = .d (.dict kvs) ∧ fb env fun u => ∃ z, u.fz = .d (.str z) ∧ fx env fun t => Q (orSl (getS kvs z) t.fz)) rp q fun x Hb1 H1 s st1 rs1 _ q1 => ?_
  obtain ⟨kvs, e, q1⟩ := q1
  subst e
  cases (show Dq K Hb1 x (.dict kvs) from rs1) with
  | dic a1 a2 a3 =>
    refine ⟨_, rfl, .inl ⟨_, .inl (st1.st.ex _ _ a1)⟩, ?_⟩
    refine h2.go (Q := fun u => ∃ z, u = .d (.str z) ∧ fx env fun t => Q (orSl (getS kvs z) t.fz)) (rp.on st1) q1 fun y Hb2 H2 u st2 rs2 _ q2 => ?_
    obtain ⟨z, e, q2⟩ := q2
    subst e
    refine h3.go (Q := fun t => Q (orSl (getS kvs z) t)) (rp.on (st1.trans st2)) q2 fun t Hb3 H3 u st3 rs3 ez q3 => ?_
    rw [str_of rs2]
    have a1' := (st2.trans st3).ex _ _ a1
    refine ⟨_, DGet.k (k := Sum.inr z) (st3.st.ex _ _ a1'), ?_⟩
    have all := (st1.trans st2).trans st3
    cases g : getS kvs z with
    | none =>
      rw [g] at q3
      rw [getS_none a2 g]
      exact c t Hb3 H3 u all rs3 (fr_of ez) q3
    | some d =>
      rw [g] at q3
      obtain ⟨v, ev, hv⟩ := getS_some a2 (DqAll.mono (st2.trans st3).ex a3) g
      rw [ev]
      exact c v Hb3 H3 (.d d) all hv trivial q3
end
section
variable {X : Cx} {F : Fr} {o e f : Expr} {ta tb tx : TE} {fa fb fx : DTE} {apos cpos : Pos}
theorem de_get2 (hu : X.A.units + 64 < cLine) (ha : DE X F o ta fa) (hb : DE X F e tb fb) (hx : DE X F f tx fx) (m : M2 X o "get" apos e f cpos := by exact ⟨rfl, rfl, rfl, rfl⟩) : DE X F (.Call (.Attribute o "get" apos) [e, f] [] cpos) (tDGet2 ta tb tx) (dGet2 fa fb fx) :=
  ⟨pe_dget2 (Nat.lt_of_le_of_lt (Nat.add_le_add_left (by decide) _) hu) ha.pe hb.pe hx.pe m, sd_get2 ha.sd hb.sd hx.sd⟩
end
/-! ### written dicts -/
section
variable {K : PySem.W.Frag} {w : World} {F : Fr} {a : Addr} {ws : List Str} {tb : Str → Option PyData} {ty tx : TE} {fy fx : DTE}
end
section
variable {X : Cx} {F : Fr} {K : PySem.W.Frag} {a : Addr} {ws : List Str} {tb : Str → Option PyData} {e f : Expr} {ty tx : TE} {fy fx : DTE} {x : Str} {p apos cpos : Pos}
end
/-! ### {k: v, ..} -/
structure DPs (X : Cx) (F : Fr) (pos : Pos) (ks : List Str) (keys : List (Option Expr)) (vals : List Expr) (trs : List (TE × TE)) (f : DTA) : Prop where
  pe : PPs X pos keys vals trs
  sd : ∀ (Hb H : Hp) (σ : L2.St) (env : EV) (Q : List Sl → Prop) (k : List (V × V) → Hp → Prop), Rep X.K F Hb H σ env → f env Q →
    (∀ vs Hb' H' ss, Step F.hid Hb H Hb' H' → RepAll X.K F.hid Hb' H' vs ss → vs.length = ks.length → Q ss → k ((ks.map V.str).zip vs) H') → tPairs trs σ H k
  all_ : keys.all (·.isSome) = true
  eq : keys.length = vals.length
  len : keys.length = ks.length
theorem dps_nil {X : Cx} {F : Fr} {pos : Pos} : DPs X F pos [] [] [] [] (fun _ Q => Q []) := ⟨pps_nil, fun Hb H σ env Q k r q c => c [] Hb H [] (Step.refl r.st) .nil rfl q, rfl, rfl, rfl⟩
theorem dps_cons {X : Cx} {F : Fr} {pos : Pos} {k : Str} {ks : List Str} {e : Expr} {keys : List (Option Expr)} {vals : List Expr} {trs : List (TE × TE)} {f : DTA} {te : TE} {fe : DTE} {j : Nat} {p : Pos} (h : DE X F e te fe) (r : DPs X F pos ks keys vals trs f) :
    DPs X F pos (k :: ks) (some (.Constant (.str k) j p) :: keys) (e :: vals) ((tC (.str k), te) :: trs) (dCons fe f) := by
  refine ⟨pps_cons pe_str h.pe r.pe, fun Hb H σ env Q c rp q cc => ?_, by rw [List.all_cons, r.all_]; rfl, by rw [List.length_cons, List.length_cons, r.eq], by rw [List.length_cons, List.length_cons, r.len]⟩
  show te σ H fun y H2 => tPairs trs σ H2 fun ps H3 => c ((V.str k, y) :: ps) H3
  refine h.sd.go (Q := fun s => f env fun ss => Q (s :: ss)) rp q fun x Hb1 H1 s st1 rs1 e1 q1 => ?_
  refine r.sd Hb1 H1 σ env (fun ss => Q (s :: ss)) _ (rp.on st1) q1 fun vs Hb2 H2 ss st2 rs2 hl q2 => ?_
  exact cc (x :: vs) Hb2 H2 (s :: ss) (st1.trans st2) (.cons (rs1.step st2) e1 rs2) (congrArg (· + 1) hl) q2
theorem putK_new {k : Key} {v : V} : ∀ {acc : List (Key × V)}, k ∉ acc.map Prod.fst → putK acc k v = acc ++ [(k, v)] := by
  intro acc h
  unfold putK
  rw [if_neg]
  intro z
  obtain ⟨p, hp, e⟩ := List.any_eq_true.mp z
  exact h (List.mem_map.mpr ⟨p, hp, of_decide_eq_true e⟩)
theorem mergeK_new : ∀ {more acc : List (Key × V)}, (acc.map Prod.fst ++ more.map Prod.fst).Nodup → mergeK acc more = acc ++ more
  | [], acc, _ => by rw [List.append_nil]; rfl
  | p :: r, acc, h => by
    have h1 : p.1 ∉ acc.map Prod.fst := fun z => by
      have := (List.nodup_append.mp h).2.2 _ z _ (List.mem_map.mpr ⟨p, List.mem_cons_self, rfl⟩)
      exact this rfl
    show mergeK (putK acc p.1 p.2) r = _
    rw [putK_new h1, mergeK_new]
    · rw [List.append_assoc]; rfl
    · rw [List.map_append, List.append_assoc]; exact h
def dDisp (ks : List Str) (f : DTA) : DTE := fun env Q => f env fun ss => ∃ ds, allD ss = some ds ∧ Q (.d (.dict ((ks.map PyData.str).zip ds)))
theorem nodup_inr : ∀ {ks : List Str}, ks.Nodup → (ks.map (Sum.inr : Str → Key)).Nodup
  | [], _ => List.nodup_nil
  | k :: ks, h => by
    obtain ⟨h1, h2⟩ := List.nodup_cons.mp h
    rw [List.map_cons]
    refine List.nodup_cons.mpr ⟨fun z => ?_, nodup_inr h2⟩
    obtain ⟨y, hy, e⟩ := List.mem_map.mp z
    cases e
    exact h1 hy
theorem zip_fst {α β : Type} : ∀ {xs : List α} {ys : List β}, xs.length = ys.length → (xs.zip ys).map Prod.fst = xs
  | [], [], _ => rfl
  | x :: xs, y :: ys, h => by rw [List.zip_cons_cons, List.map_cons, zip_fst (by simpa using h)]
  | [], _ :: _, h => by cases h
  | _ :: _, [], h => by cases h
theorem zip_snd {α β : Type} : ∀ {xs : List α} {ys : List β}, xs.length = ys.length → (xs.zip ys).map Prod.snd = ys
  | [], [], _ => rfl
  | x :: xs, y :: ys, h => by rw [List.zip_cons_cons, List.map_cons, zip_snd (by simpa using h)]
  | [], _ :: _, h => by cases h
  | _ :: _, [], h => by cases h
theorem zip_map_l {α β γ : Type} (g : α → γ) : ∀ {xs : List α} {ys : List β}, (xs.map g).zip ys = (xs.zip ys).map fun p => (g p.1, p.2)
  | [], _ => by simp
  | x :: xs, [] => by simp
  | x :: xs, y :: ys => by simp [zip_map_l g]
theorem de_disp {X : Cx} {F : Fr} {pos : Pos} {ks : List Str} {keys : List (Option Expr)} {vals : List Expr} {trs : List (TE × TE)} {f : DTA} (h : DPs X F pos ks keys vals trs f) (nd : ks.Nodup := by decide) (h0 : keys ≠ [] := by exact List.cons_ne_nil _ _) (h15 : ks.length ≤ 15 := by decide) :
    DE X F (.Dict keys vals pos) (tDisp trs) (dDisp ks f) := by
  refine ⟨pe_disp h.pe h.all_ h.eq h0 (by rw [h.len]; exact h15), ?_⟩
  intro Hb H σ env Q k rp q c p hp
  have s0 := Step.raw (o := .dK []) rp.st hp
  have bp : Hb p = none := none_back (fun o e => rp.st.ex p o e) hp
  have np : ¬ F.hid.has p := fun z => by obtain ⟨o, e⟩ := rp.st.ok.there z; rw [e] at hp; cases hp
  refine h.sd Hb _ σ env _ _ (rp.on s0) q fun vs Hb1 H1 ss st1 rs1 hl q1 => ?_
  obtain ⟨ds, ed, q1⟩ := q1
  have hd := allD_rep rs1 ed
  have hp1 : H1 p = some (.dK []) := st1.keep p _ upd_same np
  have bp1 : Hb1 p = none := by
    cases z : Hb1 p with
    | none => rfl
    | some o =>
      have := st1.new p o z bp
      rw [upd_same] at this; cases this
  have lv : (ks.map (Sum.inr : Str → Key)).length = vs.length := by rw [List.length_map, hl]
  have ld : (ks.map PyData.str).length = ds.length := by rw [List.length_map, ← hl, DqAll.length hd]
  have em : mergeK [] ((ks.map (Sum.inr : Str → Key)).zip vs) = (ks.map (Sum.inr : Str → Key)).zip vs := by
    rw [mergeK_new, List.nil_append]
    rw [zip_fst lv]
    show (ks.map (Sum.inr : Str → Key)).Nodup
    exact nodup_inr nd
  refine ⟨hp1, (ks.map (Sum.inr : Str → Key)).zip vs, ?_, ?_, ?_⟩
  · rw [zip_map_l V.str, zip_map_l (Sum.inr : Str → Key), List.map_map]
    rfl
  · rw [List.length_zip, List.length_map]; omega
  rw [em]
  have all := s0.trans st1
  refine c (.ref p) (upd Hb1 p (.dK ((ks.map (Sum.inr : Str → Key)).zip vs))) _ (.d (.dict ((ks.map PyData.str).zip ds))) ⟨⟨fun b o e => ?_, all.st.ok.keeps fun b o hb e => ?_, fun b hb => ?_⟩, fun b o e => ?_, fun b o e n => ?_, fun b o e hb => ?_⟩ ?_ trivial q1
  · by_cases z : b = p
    · subst z; rw [upd_same] at e ⊢; exact e
    · rw [upd_ne z] at e ⊢; exact all.st.ex b o e
  · rw [upd_ne (fun z : b = p => np (z ▸ hb))]; exact e
  · rw [upd_ne (fun z : b = p => np (z ▸ hb))]; exact all.st.out b hb
  · rw [upd_ne (ne_of_none e bp)]; exact all.ex b o e
  · by_cases z : b = p
    · rw [z]; exact hp
    · rw [upd_ne z] at e; exact all.new b o e n
  · rw [upd_ne (ne_of_none e hp)]; exact all.keep b o e hb
  · have ex : Same Hb1 (upd Hb1 p (.dK ((ks.map (Sum.inr : Str → Key)).zip vs))) := fun b u e => by rw [upd_ne (ne_of_none e bp1)]; exact e
    refine .dic upd_same ?_ ?_
    · rw [zip_fst ld]
      rw [show (fun (p : Key × V) => keyD p.1) = keyD ∘ Prod.fst from rfl, ← List.map_map, zip_fst lv, List.map_map]
      rfl
    · rw [zip_snd ld, zip_snd lv]
      exact DqAll.mono ex hd
end Pu

end

section
set_option maxHeartbeats 1000000
/-! PuP: a, b = x, y, where one of the two is a list of one's own. -/
namespace Pu
open PySem L2 PyProof.Rows
/-- the last one is one's own -/
def dParL (i j : Nat) (fa fb : DTE) : DTS := fun E env => fa env fun s => fb env fun u => E.nx ((env.set i (some s.fz)).set j (some u))
section
variable {K : PySem.W.Frag} {F : Fr} {ta tb : TE} {fa fb : DTE} {Hb H Hb1 H1 : Hp} {σ : L2.St} {env : EV}
theorem Rep.setL (r : Rep K F Hb H σ env) (a : Step F.hid Hb H Hb1 H1) {v w : V} {s u : Sl} (h : RepSl K F.hid Hb1 H1 v s) (e : s.fz = s) (h2 : RepSl K F.hid Hb1 H1 w u) (f : FrSl H w u) {i j : Nat} (hij : i ≠ j) :
    Rep K F Hb1 H1 ((σ.set i (some v)).set j (some w)) ((env.set i (some s)).set j (some u)) := by
  rw [List.set_comm _ _ hij, List.set_comm (some s) (some u) hij]
  exact (r.set a h2 f j).set (Step.refl a.st) h (fr_of e) i
theorem go_parL (ha : SdE K F ta fa) (hb : SdE K F tb fb) {Q : Sl → Sl → Prop} {k : List V → Hp → Prop} (r : Rep K F Hb H σ env) (q : fa env fun s => fb env fun u => Q s.fz u)
    (c : ∀ v w Hb' H' s u, Step F.hid Hb H Hb' H' → RepSl K F.hid Hb' H' v s → s.fz = s → RepSl K F.hid Hb' H' w u → FrSl H w u → Q s u → k [v, w] H') : tCons ta (tCons tb tNil) σ H k := by
  refine ha.go (Q := fun s => fb env fun u => Q s u) r q fun x Hb1 H1 s st1 rs1 e1 q1 => ?_
  refine hb Hb1 H1 σ env _ _ (r.on st1) q1 fun y Hb2 H2 u st2 rs2 f2 q2 => ?_
  exact c x y Hb2 H2 s u (st1.trans st2) (rs1.step st2) e1 rs2 (FrSl.back st1 f2) q2
theorem sd_parL {i j : Nat} (hij : i ≠ j) (ha : SdE K F ta fa) (hb : SdE K F tb fb) : SdS K F (tPar i j (tCons ta (tCons tb tNil))) (dParL i j fa fb) := by
  intro Hb H σ env D E r q l
  refine go_parL ha hb (Q := fun s u => E.nx ((env.set i (some s)).set j (some u))) r q fun v w Hb' H' s u st rs e ru f q => ?_
  exact ⟨v, w, rfl, l.nx Hb' H' _ _ st.ex (r.setL st rs e ru f hij) q⟩
theorem sd_parLC {i j : Nat} (hij : i ≠ j) (ha : SdE K F ta fa) (hb : SdE K F tb fb) : SdS K F (tAsg (tTup (tCons ta (tCons tb tNil))) (gTup K 2 (gCons (gName i) (gCons (gName j) gNil)))) (dParL i j fa fb) := by
  intro Hb H σ env D E r q l
  show tCons ta (tCons tb tNil) σ H (fun vs H1 => vs.length ≤ sizeLine ∧ ∀ p, H1 p = none → gTup K 2 (gCons (gName i) (gCons (gName j) gNil)) (.ref p) σ (upd H1 p (.tup vs)) D.nx)
  refine go_parL ha hb (Q := fun s u => E.nx ((env.set i (some s)).set j (some u))) r q fun v w Hb' H' s u st rs e ru f q => ?_
  refine ⟨by rw [sizeLine_eq]; show 2 ≤ 16777216; omega, fun p hp => ?_⟩
  have s0 := Step.raw (o := .tup [v, w]) st.st hp
  exact ⟨p, _, rfl, SqT.of upd_same, rfl, v, [w], rfl, w, [], rfl, rfl, l.nx Hb' _ _ _ st.ex (r.setL (st.trans s0) (rs.step s0) e (ru.step s0) f hij) q⟩
end
section
variable {X : Cx} {F : Fr} {a b : Expr} {ta tb : TE} {fa fb : DTE} {px py pt pt2 pos : Pos} {kt k2 : Nat}
theorem ds_parL (i j : Nat) {x y : Str} (hN : X.N.Nodup) (ha : DE X F a ta fa) (hb : DE X F b tb fb) (hp : PA X [a, b] (tCons ta (tCons tb tNil))) (hi : X.N[i]? = some x := by rfl) (hj : X.N[j]? = some y := by rfl) (hij : i ≠ j := by decide) (hx : X.env.scope.names.lookup x = some .local := by rfl) (hy : X.env.scope.names.lookup y = some .local := by rfl) (hc : X.calm = true := by rfl)
    (hw : swappedStores [.Tuple [.Name x px, .Name y py] kt pt] (.Tuple [a, b] k2 pt2) X.env = pure (some [x, y]) := by rfl) (hs : swapsWithSole [.Tuple [.Name x px, .Name y py] kt pt] (.Tuple [a, b] k2 pt2) pos.line X.env = pure false := by rfl) :
    DS X F (.Assign [.Tuple [.Name x px, .Name y py] kt pt] (.Tuple [a, b] k2 pt2) pos) (tPar i j (tCons ta (tCons tb tNil))) (dParL i j fa fb) := ⟨ps_par hc hN hi hj hij hx hy hp hw hs, sd_parL hij ha.sd hb.sd⟩
theorem k_parLC {K : PySem.W.Frag} (ek : X.K = K) (i j : Nat) {x y : Str} (hN : X.N.Nodup) (ha : DE X F a ta fa) (hb : DE X F b tb fb) (hp : PA X [a, b] (tCons ta (tCons tb tNil))) (hg : PG X (.Tuple [.Name x px, .Name y py] kt pt) (gTup X.K 2 (gCons (gName i) (gCons (gName j) gNil)))) (hij : i ≠ j := by decide)
    (hs : swapsWithSole [.Tuple [.Name x px, .Name y py] kt pt] (.Tuple [a, b] k2 pt2) pos.line X.env = pure false := by rfl) (hw : swappedStores [.Tuple [.Name x px, .Name y py] kt pt] (.Tuple [a, b] k2 pt2) X.env = pure none := by rfl) (h1 : (assignEach [.Tuple [.Name x px, .Name y py] kt pt] X.env).map (·.2) = [assign (.Tuple [.Name x px, .Name y py] kt pt) X.env] := by rfl) :
    DS X F (.Assign [.Tuple [.Name x px, .Name y py] kt pt] (.Tuple [a, b] k2 pt2) pos) (tAsg (tTup (tCons ta (tCons tb tNil))) (gTup K 2 (gCons (gName i) (gCons (gName j) gNil)))) (dParL i j fa fb) := ek ▸ ⟨ps_asg (pe_tup hp) hg hs hw h1, sd_parLC hij ha.sd hb.sd⟩
end
end Pu

end

section
set_option maxHeartbeats 2000000
namespace Law
open PySem L2 PyProof.Rows RZ Pu
/-- any order -/
def mMixed : FN := fun ss R => ∃ xs, ss = [.src, .d (.list xs)] ∧ xs.length < 1000000 ∧ ∀ ys : List PyData, ys.Perm xs → R (.own ys)

/-! ### the mirror -/
abbrev lotD (l : List Str) : PyData := .tuple (l.map PyData.str)
abbrev lotsD (ls : List (List Str)) : PyData := .tuple (ls.map lotD)
structure Row where
  first : Int
  left : List (List Str)
  mid : List (List Str)
  right : List (List Str)
abbrev rowD (r : Row) : PyData := .tuple [.int r.first, lotsD r.left, lotsD r.mid, lotsD r.right]
def Row.Good (r : Row) : Prop := r.left ≠ [] ∧ r.right ≠ []
def lotAt (r : Row) (n : Int) : List Str :=
  if n - r.first < 0 then r.left.getD ((n - r.first) % (r.left.length : Int)).toNat []
  else if n - r.first < (r.mid.length : Int) then r.mid.getD (n - r.first).toNat [] else r.right.getD ((n - r.first - (r.mid.length : Int)) % (r.right.length : Int)).toNat []
def Row.lots (r : Row) : List (List Str) := r.left ++ r.mid ++ r.right
/-- what is drawn: small, its lots parts of ws -/
structure Row.Ok (ws : List Str) (r : Row) : Prop where
  l1 : 1 ≤ r.left.length
  l2 : r.left.length ≤ 30
  m : r.mid.length ≤ 60
  r1 : 1 ≤ r.right.length
  r2 : r.right.length ≤ 30
  sub : ∀ lot ∈ r.lots, lot.Sublist ws
  far : r.first.natAbs ≤ 10 ^ 40
def baseW : List Str := ["a", "b", "c", "p", "q", "yes", "not", "until", "since", "left", "x1", "ab", "abcdefghijkl"]
structure Words (n : Nat) (ws : List Str) : Prop where
  so : sortedS ws = true
  nd : ws.Nodup
  len : ws.length = n
  sub : ∀ x ∈ ws, x ∈ baseW
def mLotAt : FN := fun ss R => ∃ r k, ss = [.d (rowD r), .d (.int k)] ∧ r.Good ∧ R (.d (lotD (lotAt r k)))
abbrev m__law_lot_at : FN := mLotAt
def rangeI (lo hi : Int) : List Int := (List.range (hi - lo).toNat).map fun i => lo + (i : Nat)
def m__law_of : FN := fun ss R => ∃ xs : List PyData, ss = [.src, .d (.list xs)] ∧ xs ≠ [] ∧ xs.length < 1000000 ∧ ∀ x ∈ xs, R (.d x)
abbrev m__law_mixed : FN := mMixed
def m__law_words : FN := fun ss R => ∃ n : Nat, ss = [.src, .d (.int n)] ∧ 1 ≤ n ∧ n ≤ 13 ∧ ∀ ws, Words n ws → R (.own (ws.map PyData.str))
def m__law_lot : FN := fun ss R => ∃ ws : List Str, ss = [.src, .d (.list (ws.map PyData.str))] ∧ ws.length ≤ 100 ∧ ∀ lot : List Str, lot.Sublist ws → R (.d (lotD lot))
def m__law_row : FN := fun ss R => ∃ (ws : List Str) (n : Int), ss = [.src, .d (.list (ws.map PyData.str)), .d (.int n)] ∧ ws.length ≤ 100 ∧ 1 ≤ n ∧ n ≤ 10 ∧ ∀ r : Row, r.Ok ws → R (.d (rowD r))
def unLot : PyData → List Str
  | .tuple xs => xs.map unStr
  | _ => []
theorem unLot_lot (l : List Str) : unLot (lotD l) = l := by
  show (l.map PyData.str).map unStr = l
  rw [List.map_map]
  have e2 : l.map (unStr ∘ PyData.str) = l.map id := List.map_congr_left fun x _ => rfl
  rw [e2, List.map_id]
theorem nodup_len : ∀ (l D : List Str), l.Nodup → (∀ x ∈ l, x ∈ D) → l.length ≤ D.length
  | [], _, _, _ => Nat.zero_le _
  | x :: l, D, n, h => by
    obtain ⟨n1, n2⟩ := List.nodup_cons.mp n
    have hx := h x List.mem_cons_self
    have i := nodup_len l (D.erase x) n2 fun y hy => (List.mem_erase_of_ne (a := y) (b := x) fun (e : y = x) => n1 (e ▸ hy)).mpr (h y (List.mem_cons_of_mem _ hy))
    rw [List.length_erase_of_mem hx] at i
    have := List.length_pos_of_mem hx
    rw [List.length_cons]
    omega
structure PartOk (ws : List Str) (n : Nat) (part : List (List Str)) : Prop where
  len : part.length = n
  sub : ∀ l ∈ part, l.Sublist ws
def unInt : PyData → Int
  | .int i => i
  | _ => 0
theorem rngD_length (lo : Int) (n : Nat) : (rngD lo n).length = n := by simp [rngD]
theorem lots_of {ws : List Str} {zs : List PyData} (h : ∀ z ∈ zs, ∃ l : List Str, l.Sublist ws ∧ z = lotD l) : ∃ part : List (List Str), zs = part.map lotD ∧ ∀ l ∈ part, l.Sublist ws := by
  refine ⟨zs.map unLot, ?_, fun l hl => ?_⟩
  · rw [List.map_map]
    have e : zs.map (lotD ∘ unLot) = zs.map id := List.map_congr_left fun z hz => by
      obtain ⟨l, _, rfl⟩ := h z hz
      show lotD (unLot (lotD l)) = lotD l
      rw [unLot_lot]
    rw [e, List.map_id]
  · obtain ⟨z, hz, rfl⟩ := List.mem_map.mp hl
    obtain ⟨l, h1, rfl⟩ := h z hz
    rw [unLot_lot]
    exact h1
theorem rowOk {ws : List Str} {m0 m1 m2 k : Int} {p0 p1 p2 : List (List Str)} (q0 : PartOk ws m0.toNat p0) (q1 : PartOk ws m1.toNat p1) (q2 : PartOk ws m2.toNat p2) (a1 : 1 ≤ m0) (a2 : m0 ≤ 30) (b : m1 ≤ 60) (c1 : 1 ≤ m2) (c2 : m2 ≤ 30) (far : k.natAbs ≤ 10 ^ 40) : Row.Ok ws ⟨k, p0, p1, p2⟩ := by
  refine ⟨?_, ?_, ?_, ?_, ?_, fun l hl => ?_, far⟩
  · show 1 ≤ p0.length; rw [q0.len]; omega
  · show p0.length ≤ 30; rw [q0.len]; omega
  · show p1.length ≤ 60; rw [q1.len]; omega
  · show 1 ≤ p2.length; rw [q2.len]; omega
  · show p2.length ≤ 30; rw [q2.len]; omega
  · unfold Row.lots at hl
    rcases List.mem_append.mp hl with hl | hl
    · rcases List.mem_append.mp hl with hl | hl
      · exact q0.sub l hl
      · exact q1.sub l hl
    · exact q2.sub l hl
/-- found: each of them once -/
structure Fd (ws : List Str) (all found : List Str) : Prop where
  nd : found.Nodup
  me : ∀ k, k ∈ found ↔ k ∈ all
  su : ∀ k ∈ found, k ∈ ws
theorem Fd.len {ws all found : List Str} (h : Fd ws all found) (nd : ws.Nodup) : found.length ≤ ws.length := nodup_len found ws h.nd h.su
theorem Fd.more {ws all found l : List Str} (h : Fd ws all found) (hl : l.Nodup) (hs : ∀ k ∈ l, k ∈ ws) : Fd ws (all ++ l) (found ++ l.filter fun z => !decide (z ∈ found)) := by
  refine ⟨List.nodup_append.mpr ⟨h.nd, hl.sublist List.filter_sublist, fun x hx y hy e => ?_⟩, fun k => ?_, fun k hk => ?_⟩
  · subst e
    simp [hx] at hy
  · by_cases c : k ∈ found
    · have := (h.me k).1 c
      simp [c, this]
    · have : k ∉ all := fun z => c ((h.me k).2 z)
      simp [c, this]
  · rcases List.mem_append.mp hk with hk | hk
    · exact h.su k hk
    · exact hs k (List.mem_filter.mp hk).1
theorem cut_take {xs : List PyData} {n : Nat} : Pu.cutD xs none (some (n : Int)) = xs.take n := by
  unfold Pu.cutD
  rw [HT.sIx_none, HT.sIx_nat, List.drop_zero, Nat.sub_zero]
  rcases Nat.le_total n xs.length with h | h
  · rw [Nat.min_eq_left h]
  · rw [Nat.min_eq_right h, List.take_length, List.take_of_length_le h]
theorem at_lots {l : List (List Str)} {i : Int} (h0 : 0 ≤ i) (h1 : i < (l.length : Int)) : atI (l.map lotD) i = some (lotD (l.getD i.toNat [])) := by
  have hn : i.toNat < l.length := by omega
  unfold atI ixN
  rw [List.length_map, if_pos h0, if_pos h1]
  show (l.map lotD)[i.toNat]? = _
  rw [List.getElem?_map, List.getElem?_eq_getElem hn, List.getD_eq_getElem?_getD, List.getElem?_eq_getElem hn]
  rfl
/-! ### what is shown is small -/
theorem base_small : ∀ x ∈ baseW, tame (.str x) = true ∧ big (.str x) ≤ 150 := by decide +kernel
def mPick : FN := fun ss R => ∃ n, ss = [.src, .d (.int n)] ∧ n < 536870912 ∧ ∀ k : Int, 0 ≤ k → k < (if n > 1 then n else 1) → R (.d (.int k))
abbrev m__law_pick : FN := mPick
theorem slL_pass {xs : List PyData} {lo hi : Option Int} {Q : DK} (h : Q (.own (Pu.cutD xs lo hi))) : fSlL (.d (.list xs)) lo hi Q := h
theorem base_lay : ∀ x ∈ baseW, PyData.canLay0 (.str x) = true := by decide +kernel
theorem canLayAll_iff {xs : List PyData} : PyData.canLayAll0 xs = true ↔ ∀ x ∈ xs, x.canLay0 = true := by
  induction xs with
  | nil => simp [PyData.canLayAll0]
  | cons x xs ih => simp [PyData.canLayAll0, ih]
end Law

end

section
set_option maxHeartbeats 2000000
namespace Law
open PySem L2 PyProof.Rows RZ Pu
/-! ### sheets -/
inductive Ln where
  | lt (w : Str) | yes | un (i : Nat) | bi (o : Str) (i j : Nat)
def ops : List Str := ["and", "or", "until", "since"]
def lnD : Ln → PyData
  | .lt w => .tuple [.str "letter", .str w]
  | .yes => .tuple [.str "yes"]
  | .un i => .tuple [.str "not", .int (i : Nat)]
  | .bi o i j => .tuple [.str o, .int (i : Nat), .int (j : Nat)]
abbrev sheetD (s : List Ln) : PyData := .tuple (s.map lnD)
def Ln.mem : Ln → List Nat
  | .lt _ => []
  | .yes => []
  | .un i => [i]
  | .bi _ i j => [i, j]
def Ln.word : Ln → Str
  | .lt _ => "letter"
  | .yes => "yes"
  | .un _ => "not"
  | .bi o _ _ => o
/-- its word is one -/
def Ln.W : Ln → Prop
  | .bi o _ _ => o ∈ ops
  | _ => True
def Ln.Ok (n : Nat) (l : Ln) : Prop := l.W ∧ (∀ i ∈ l.mem, i < n) ∧ ∀ w, l = .lt w → w ∈ baseW
structure SOk (s : List Ln) : Prop where
  ne : s ≠ []
  ok : ∀ (k : Nat) (l : Ln), s[k]? = some l → l.Ok k
def Ln.shift (n : Nat) : Ln → Ln
  | .lt w => .lt w
  | .yes => .yes
  | .un i => .un (i + n)
  | .bi o i j => .bi o (i + n) (j + n)
def swapW (o : Str) : Str := if o = "until" then "since" else if o = "since" then "until" else o
def Ln.swap : Ln → Ln
  | .bi o i j => .bi (swapW o) i j
  | l => l
def mPut (o : Str) (s t : List Ln) : List Ln := s ++ t.map (·.shift s.length) ++ [.bi o (s.length - 1) (s.length + t.length - 1)]
theorem opW {o : Str} (h : o ∈ ops) : o ≠ "letter" ∧ o ≠ "yes" ∧ o ≠ "not" := by
  simp only [ops, List.mem_cons, List.not_mem_nil, or_false] at h
  rcases h with rfl | rfl | rfl | rfl <;> decide +kernel
def m__shifted_by : FN := fun ss R => ∃ (l : Ln) (n : Nat), ss = [.d (lnD l), .d (.int n)] ∧ l.W ∧ R (.d (lnD (l.shift n)))
def m_put : FN := fun ss R => ∃ (o : Str) (s t : List Ln), ss = [.d (.str o), .d (sheetD s), .d (sheetD t)] ∧ (∀ l ∈ t, l.W) ∧ s ≠ [] ∧ t ≠ [] ∧ s.length < 1000000 ∧ t.length < 1000000 ∧ R (.d (sheetD (mPut o s t)))
def m__law_members : FN := fun ss R => ∃ (l : Ln), ss = [.d (lnD l)] ∧ l.W ∧ R (.own (l.mem.map fun (i : Nat) => .int i))
/-! tables -/
def maxI (xs : List Int) : Int := xs.foldl (fun a b => if b > a then b else a) 0
def nestOf (w : Str) (acc : List Int) (l : Ln) : Int := maxI (0 :: l.mem.map fun k => acc.getD k 0) + (if l.word = w then 1 else 0)
def nestGo (w : Str) : List Ln → List Int → List Int
  | [], acc => acc
  | l :: r, acc => nestGo w r (acc ++ [nestOf w acc l])
def mNests (w : Str) (s : List Ln) : Int := maxI (nestGo w s [])
def m__law_nests : FN := fun ss R => ∃ (w : Str) (s : List Ln), ss = [.d (sheetD s), .d (.str w)] ∧ SOk s ∧ s.length < 1000000 ∧ R (.d (.int (mNests w s)))
def scanG : List (Bool × Bool) → Bool → List Bool
  | [], _ => []
  | p :: r, g => g :: scanG r (p.1 || (p.2 && g))
def goOn (ps : List (Bool × Bool)) (g : Bool) : Bool := ps.foldl (fun g p => p.1 || (p.2 && g)) g
def mGoing (hs ws : List Bool) (n : Nat) : List Bool := (scanG (hs.zip ws).reverse (goOn ((hs.zip ws).reverse.take n) false)).reverse
abbrev boolsD (bs : List Bool) : PyData := .list (bs.map PyData.bool)
def m__law_going : FN := fun ss R => ∃ (hs ws : List Bool) (n : Nat), ss = [.d (boolsD hs), .d (boolsD ws), .d (.int n)] ∧ hs.length = ws.length ∧ n ≤ hs.length ∧ hs.length < 1000000 ∧ R (.own ((mGoing hs ws n).map PyData.bool))
structure Tab where
  start : Int
  stop : Int
  found : List (List Bool)
def tabOf (lots : List (List Str)) (nl nr : Nat) (acc : List (List Bool)) : Ln → List Bool
  | .lt w => lots.map fun l => decide (w ∈ l)
  | .yes => lots.map fun _ => true
  | .un i => (acc.getD i []).map (!·)
  | .bi o i j => if o = "and" then ((acc.getD i []).zip (acc.getD j [])).map fun p => p.1 && p.2 else if o = "or" then ((acc.getD i []).zip (acc.getD j [])).map fun p => p.1 || p.2
    else if o = "until" then mGoing (acc.getD i []) (acc.getD j []) nr else (mGoing (acc.getD i []).reverse (acc.getD j []).reverse nl).reverse
def tabGo (lots : List (List Str)) (nl nr : Nat) : List Ln → List (List Bool) → List (List Bool)
  | [], acc => acc
  | l :: r, acc => tabGo lots nl nr r (acc ++ [tabOf lots nl nr acc l])
def tStart (s : List Ln) (r : Row) : Int := r.first - r.left.length * (mNests "until" s + 1)
def tStop (s : List Ln) (r : Row) : Int := r.first + r.mid.length + r.right.length * (mNests "since" s + 1)
def mTab (s : List Ln) (r : Row) : Tab := ⟨tStart s r, tStop s r, tabGo ((rangeI (tStart s r) (tStop s r)).map (lotAt r)) r.left.length r.right.length s []⟩
def tabD (t : Tab) (r : Row) : PyData := .dict [(.str "start", .int t.start), (.str "end", .int t.stop), (.str "found", .list (t.found.map boolsD)), (.str "row", rowD r)]
structure RSmall (r : Row) : Prop where
  l1 : 1 ≤ r.left.length
  l2 : r.left.length ≤ 100
  m : r.mid.length ≤ 100
  r1 : 1 ≤ r.right.length
  r2 : r.right.length ≤ 100
def m__law_tables : FN := fun ss R => ∃ (s : List Ln) (r : Row), ss = [.d (sheetD s), .d (rowD r)] ∧ SOk s ∧ s.length ≤ 1000 ∧ RSmall r ∧ R (.d (tabD (mTab s r) r))
def whereT (t : Tab) (r : Row) (n : Int) : Int :=
  let a := if n < t.start then t.start + (n - t.start) % (r.left.length : Int) else n
  let b := if a ≥ t.stop then t.stop - r.right.length + (a - t.stop) % (r.right.length : Int) else a
  b - t.start
def m__law_truths : FN := fun ss R => ∃ (t : Tab) (r : Row) (n : Int), ss = [.d (tabD t r), .d (.int n)] ∧ RSmall r ∧ t.start + r.left.length ≤ t.stop ∧ t.start + r.right.length ≤ t.stop ∧ (∀ b ∈ t.found, b.length = (t.stop - t.start).toNat) ∧ t.found.length ≤ 100000 ∧
  R (.own (t.found.map fun b => .bool (b.getD (whereT t r n).toNat false)))
def m__law_drawn_sheet : FN := fun ss R => ∃ n : Int, ss = [.src, .d (.int n)] ∧ 1 ≤ n ∧ n ≤ 100 ∧ ∀ s, SOk s → (s.length : Int) ≤ n → R (.d (sheetD s))
theorem eqS_yes {z : Str} {A B : Prop} (h : A) : fEqS false (.d (.str z)) (.d (.str z)) (fun s => ∃ b, s.fz = .d (.bool b) ∧ (if b = true then A else B)) := ⟨true, by show Sl.d (.bool (decide (z = z))) = _; rw [decide_eq_true rfl], h⟩
theorem eqS_no {y z : Str} (n : y ≠ z) {A B : Prop} (h : B) : fEqS false (.d (.str y)) (.d (.str z)) (fun s => ∃ b, s.fz = .d (.bool b) ∧ (if b = true then A else B)) := ⟨false, by show Sl.d (.bool (decide (y = z))) = _; rw [decide_eq_false n], h⟩
theorem ix_at {xs : List PyData} {k : Nat} {d : PyData} (h : xs[k]? = some d) : atI xs (k : Int) = some d := by
  have hk := (List.getElem?_eq_some_iff.mp h).1
  unfold atI ixN
  rw [if_pos (by omega), if_pos (by omega)]
  exact h
theorem ix_0 {x : PyData} {xs : List PyData} : atI (x :: xs) 0 = some x := ix_at (k := 0) rfl
theorem ix_1 {x y : PyData} {xs : List PyData} : atI (x :: y :: xs) 1 = some y := ix_at (k := 1) rfl
theorem s16 {n : Nat} (h : n ≤ 16777216) : n ≤ sizeLine := by rw [sizeLine_eq]; exact h
theorem cut_tail {x : PyData} {xs : List PyData} : Pu.cutD (x :: xs) (some 1) none = xs := by
  unfold Pu.cutD
  have e : HT.sIx (x :: xs).length 0 (some 1) = 1 := by
    show (if (1 : Int) < 0 then ((1 : Int) + ((x :: xs).length : Int)).toNat else min (1 : Int).toNat (x :: xs).length) = 1
    rw [if_neg (by decide), List.length_cons]
    show min 1 (xs.length + 1) = 1
    omega
  rw [e, HT.sIx_none, List.drop_one, List.tail_cons, List.length_cons, Nat.add_sub_cancel, List.take_length]
/-- a line that is no letter line -/
structure NoLt (l : Ln) : Prop where
  ne : l.word ≠ "letter"
  d : lnD l = .tuple (.str l.word :: l.mem.map fun (i : Nat) => .int i)
  sh : ∀ n : Nat, lnD (l.shift n) = .tuple (.str l.word :: l.mem.map fun (i : Nat) => .int ((i : Int) + n))
  sw : lnD l.swap = .tuple (.str (swapW l.word) :: l.mem.map fun (i : Nat) => .int i)
theorem ln_split (l : Ln) (h : l.W) : (∃ w, l = .lt w) ∨ NoLt l := by
  cases l with
  | lt w => exact .inl ⟨w, rfl⟩
  | yes => exact .inr ⟨by show ("yes" : Str) ≠ "letter"; decide +kernel, rfl, fun _ => rfl, by show _ = PyData.tuple (.str (swapW "yes") :: []); rw [show swapW "yes" = "yes" by decide +kernel]; rfl⟩
  | un i => exact .inr ⟨by show ("not" : Str) ≠ "letter"; decide +kernel, rfl, fun _ => rfl, by show _ = PyData.tuple (.str (swapW "not") :: _); rw [show swapW "not" = "not" by decide +kernel]; rfl⟩
  | bi o i j => exact .inr ⟨(opW h).1, rfl, fun _ => rfl, rfl⟩
theorem mem_len (l : Ln) : l.mem.length ≤ 2 := by cases l <;> simp [Ln.mem]
theorem inT_yes {z : Str} {zs : List Str} (i : z ∈ zs) {A B : Prop} (h : A) : fInQ false (.d (.str z)) (.d (.tuple (zs.map PyData.str))) (fun s => ∃ b, s.fz = .d (.bool b) ∧ (if b = true then A else B)) :=
  ⟨rfl, all_flat_strs, true, by show Sl.d (.bool ((zs.map PyData.str).any fun y => PyData.eqv y (.str z))) = _; rw [any_strs, decide_eq_true i], h⟩
theorem inT_no {z : Str} {zs : List Str} (i : ¬ z ∈ zs) {A B : Prop} (h : B) : fInQ false (.d (.str z)) (.d (.tuple (zs.map PyData.str))) (fun s => ∃ b, s.fz = .d (.bool b) ∧ (if b = true then A else B)) :=
  ⟨rfl, all_flat_strs, false, by show Sl.d (.bool ((zs.map PyData.str).any fun y => PyData.eqv y (.str z))) = _; rw [any_strs, decide_eq_false i], h⟩
theorem lc_mapGo {α : Type} (enc f : α → PyData) {g : DTG} {te : DTE} {env : EV} {Q : List PyData → Prop} : ∀ (l : List α) (acc : List PyData), (∀ x ∈ l, ∀ k : DK, (∀ s, s.fz = .d (f x) → k s) → g (.d (enc x)) env fun env1 => te env1 k) →
    Q (acc ++ l.map f) → dLcGo g dYes te env (l.map enc) acc Q
  | [], acc, _, q => by rw [List.map_nil, List.append_nil] at q; exact q
  | x :: l, acc, h, q => by
    show g (.d (enc x)) env fun env1 => te env1 fun s => ∃ y, s.fz = .d y ∧ dLcGo g dYes te env (l.map enc) (acc ++ [y]) Q
    refine h x List.mem_cons_self _ fun s e => ⟨f x, e, ?_⟩
    refine lc_mapGo enc f l _ (fun y hy => h y (List.mem_cons_of_mem _ hy)) ?_
    rw [List.append_assoc]
    exact q
theorem lc_mapT {α : Type} (enc f : α → PyData) {l : List α} {g : DTG} {te : DTE} {env : EV} {Q : List PyData → Prop} (h : ∀ x ∈ l, ∀ k : DK, (∀ s, s.fz = .d (f x) → k s) → g (.d (enc x)) env fun env1 => te env1 k)
    (q : Q (l.map f)) : dLcGo g dYes te env (l.map enc) [] Q := lc_mapGo enc f l [] h (by rw [List.nil_append]; exact q)
theorem loop_byT {α : Type} (enc : α → PyData) {l : List α} {g : DTG} {body : DTS} {E : DEnds} {env : EV} (I : Nat → EV → Prop) (h0 : I 0 env)
    (step : ∀ j x env, l[j]? = some x → I j env → ∀ nx : EV → Prop, (∀ env', I (j + 1) env' → nx env') → g (.d (enc x)) env fun env1 => body { nx := nx, ct := nx, bk := E.nx, rt := E.rt } env1) (fin : ∀ env, I l.length env → E.nx env) : dLoop g body E (l.map enc) env := by
  refine loop_by I h0 (fun j y env hy hI nx hn => ?_) (by rw [List.length_map]; exact fin)
  rw [List.getElem?_map] at hy
  obtain ⟨x, hx, rfl⟩ := Option.map_eq_some_iff.mp hy
  exact step j x env hx hI nx hn
theorem take_snoc {α β : Type} {l : List α} {j : Nat} {x : α} (h : l[j]? = some x) (f : α → β) : (l.take j).map f ++ [f x] = (l.take (j + 1)).map f := by
  rw [List.take_add_one, h, List.map_append]; rfl
theorem sl16 {n : Nat} (h : n < 16777216) : n < sizeLine := by rw [sizeLine_eq]; exact h
theorem slT_pass {xs : List PyData} {lo hi : Option Int} {Q : DK} (h : Q (.d (.tuple (Pu.cutD xs lo hi)))) : fSlT (.d (.tuple xs)) lo hi Q := h
theorem lf_ln (l : Ln) : lfD (lnD l) = true := by cases l <;> rfl
theorem lf_sheet (s : List Ln) : lfAll (s.map lnD) = true := lfAll_iff.mpr fun x hx => by
  obtain ⟨l, _, rfl⟩ := List.mem_map.mp hx
  exact lf_ln l
theorem lf_sheetD (s : List Ln) : lfD (sheetD s) = true := by show lfAll _ = true; exact lf_sheet s
def lnR : Ln → List PyData
  | .lt w => [.str w]
  | .yes => []
  | .un i => [.int (i : Nat)]
  | .bi _ i j => [.int (i : Nat), .int (j : Nat)]
theorem ln_d (l : Ln) : lnD l = .tuple (.str l.word :: lnR l) := by cases l <;> rfl
theorem scan_snoc : ∀ (xs : List (Bool × Bool)) (x : Bool × Bool) (g : Bool), scanG (xs ++ [x]) g = scanG xs g ++ [goOn xs g]
  | [], _, _ => rfl
  | y :: xs, x, g => by
    show g :: scanG (xs ++ [x]) _ = g :: (scanG xs _ ++ [_])
    rw [scan_snoc xs x]
    rfl
theorem goOn_snoc (xs : List (Bool × Bool)) (x : Bool × Bool) (g : Bool) : goOn (xs ++ [x]) g = (x.1 || (x.2 && goOn xs g)) := by
  unfold goOn
  rw [List.foldl_append]; rfl
theorem zip_back {hs ws : List Bool} (hl : hs.length = ws.length) {j : Nat} (hj : j < hs.length) : ∃ h w, (hs.zip ws).reverse[j]? = some (h, w) ∧ hs[hs.length - 1 - j]? = some h ∧ ws[hs.length - 1 - j]? = some w := by
  have h1 : hs.length - 1 - j < hs.length := by omega
  have h2 : hs.length - 1 - j < ws.length := by omega
  refine ⟨hs[hs.length - 1 - j], ws[hs.length - 1 - j], ?_, List.getElem?_eq_getElem h1, List.getElem?_eq_getElem h2⟩
  have lz : (hs.zip ws).length = hs.length := by rw [List.length_zip, ← hl, Nat.min_self]
  rw [List.getElem?_reverse (by rw [lz]; exact hj), lz]
  rw [List.getElem?_eq_getElem (by rw [lz]; exact h1), List.getElem_zip]
theorem bools_ix {bs : List Bool} {i : Nat} {b : Bool} {k : Int} (h : bs[i]? = some b) (e : k = i) : atI (bs.map PyData.bool) k = some (.bool b) := by
  subst e
  exact ix_at (by rw [List.getElem?_map, h]; rfl)
theorem flat_bools (bs : List Bool) : (bs.map PyData.bool).all flatD = true := by
  rw [List.all_eq_true]
  intro x hx
  obtain ⟨b, _, rfl⟩ := List.mem_map.mp hx
  rfl
/-- h or (w and g) -/
theorem or_and {hs ws g : DTE} {env : EV} {Q : DK} {h w b : Bool} (h1 : ∀ Q : DK, Q (.d (.bool h)) → hs env Q) (h2 : ∀ Q : DK, Q (.d (.bool w)) → ws env Q) (h3 : ∀ Q : DK, Q (.d (.bool b)) → g env Q) (q : Q (.d (.bool (h || (w && b))))) : dOrV hs (dAndV ws g) env Q := by
  refine h1 _ ⟨h, rfl, ?_⟩
  cases h with
  | true => exact q
  | false =>
    refine h2 _ ⟨w, rfl, ?_⟩
    cases w with
    | true => exact h3 _ q
    | false => exact q
theorem foldl_max : ∀ (xs : List Int) (a : Int), a ≤ xs.foldl (fun a b => if b > a then b else a) a ∧ (∀ x ∈ xs, x ≤ xs.foldl (fun a b => if b > a then b else a) a) ∧ (xs.foldl (fun a b => if b > a then b else a) a = a ∨ xs.foldl (fun a b => if b > a then b else a) a ∈ xs)
  | [], a => ⟨Int.le_refl _, fun _ h => (by cases h), .inl rfl⟩
  | x :: xs, a => by
    have e : (x :: xs).foldl (fun a b => if b > a then b else a) a = xs.foldl (fun a b => if b > a then b else a) (if x > a then x else a) := rfl
    rw [e]
    by_cases c : x > a
    · rw [if_pos c]
      obtain ⟨h1, h2, h3⟩ := foldl_max xs x
      refine ⟨by omega, fun y hy => ?_, ?_⟩
      · rcases List.mem_cons.mp hy with rfl | hy
        · omega
        · exact h2 y hy
      · rcases h3 with h3 | h3
        · rw [h3]; exact .inr List.mem_cons_self
        · exact .inr (List.mem_cons_of_mem _ h3)
    · rw [if_neg c]
      obtain ⟨h1, h2, h3⟩ := foldl_max xs a
      refine ⟨h1, fun y hy => ?_, ?_⟩
      · rcases List.mem_cons.mp hy with rfl | hy
        · omega
        · exact h2 y hy
      · rcases h3 with h3 | h3
        · exact .inl h3
        · exact .inr (List.mem_cons_of_mem _ h3)
theorem maxI_spec {xs : List Int} (h0 : ∀ x ∈ xs, 0 ≤ x) {m : Int} (hm : m ∈ xs) (hx : ∀ y ∈ xs, y ≤ m) : m = maxI xs := by
  obtain ⟨h1, h2, h3⟩ := foldl_max xs 0
  have a := h2 m hm
  have b := h0 m hm
  unfold maxI
  rcases h3 with h3 | h3
  · omega
  · have := hx _ h3; omega
theorem maxI_le {xs : List Int} {b : Int} (hb : 0 ≤ b) (h : ∀ x ∈ xs, x ≤ b) : 0 ≤ maxI xs ∧ maxI xs ≤ b := by
  obtain ⟨h1, h2, h3⟩ := foldl_max xs 0
  unfold maxI
  refine ⟨h1, ?_⟩
  rcases h3 with h3 | h3
  · omega
  · exact h _ h3
theorem set_or_and {hs ws g : DTE} {i : Nat} {E : DEnds} {env : EV} {h w b : Bool} (h1 : ∀ Q : DK, Q (.d (.bool h)) → hs env Q) (h2 : ∀ Q : DK, Q (.d (.bool w)) → ws env Q) (h3 : ∀ Q : DK, Q (.d (.bool b)) → g env Q) (q : E.nx (env.set i (some (.d (.bool (h || (w && b))))))) : dSet (dOrV hs (dAndV ws g)) i E env :=
  or_and (Q := fun s => E.nx (env.set i (some s))) h1 h2 h3 q
/-- the nests so far are small -/
def NAcc (acc : List Int) : Prop := ∀ x ∈ acc, 0 ≤ x ∧ x ≤ acc.length
theorem getD_acc {acc : List Int} (h : NAcc acc) (k : Nat) : 0 ≤ acc.getD k 0 ∧ acc.getD k 0 ≤ acc.length := by
  rw [List.getD_eq_getElem?_getD]
  cases e : acc[k]? with
  | none => exact ⟨Int.le_refl _, by show (0 : Int) ≤ _; omega⟩
  | some x => exact h x (List.mem_of_getElem? e)
theorem nestOf_b {w : Str} {acc : List Int} {l : Ln} (h : NAcc acc) : 0 ≤ nestOf w acc l ∧ nestOf w acc l ≤ acc.length + 1 := by
  have := maxI_le (xs := 0 :: l.mem.map fun k => acc.getD k 0) (b := acc.length) (by omega) fun x hx => by
    rcases List.mem_cons.mp hx with rfl | hx
    · omega
    · obtain ⟨k, _, rfl⟩ := List.mem_map.mp hx
      exact (getD_acc h k).2
  unfold nestOf
  split <;> omega
theorem NAcc.snoc {w : Str} {acc : List Int} {l : Ln} (h : NAcc acc) : NAcc (acc ++ [nestOf w acc l]) := fun x hx => by
  rw [List.length_append, List.length_singleton]
  rcases List.mem_append.mp hx with hx | hx
  · have := h x hx; omega
  · rw [List.mem_singleton.mp hx]
    have := nestOf_b (w := w) (l := l) h; omega
theorem nestGo_ok (w : Str) : ∀ (s : List Ln) (acc : List Int), NAcc acc → NAcc (nestGo w s acc) ∧ (nestGo w s acc).length = acc.length + s.length
  | [], acc, h => ⟨h, rfl⟩
  | l :: s, acc, h => by
    obtain ⟨h1, h2⟩ := nestGo_ok w s _ (h.snoc (w := w) (l := l))
    refine ⟨h1, ?_⟩
    show (nestGo w s (acc ++ [nestOf w acc l])).length = _
    rw [h2, List.length_append, List.length_singleton, List.length_cons]; omega
theorem nestGo_snoc (w : Str) (l : Ln) : ∀ (s : List Ln) (acc : List Int), nestGo w (s ++ [l]) acc = nestGo w s acc ++ [nestOf w (nestGo w s acc) l]
  | [], _ => rfl
  | x :: s, acc => nestGo_snoc w l s _
theorem nests_b (w : Str) (s : List Ln) : 0 ≤ mNests w s ∧ mNests w s ≤ s.length := by
  obtain ⟨h1, h2⟩ := nestGo_ok w s [] (fun x hx => by cases hx)
  rw [List.length_nil, Nat.zero_add] at h2
  exact maxI_le (by omega) fun x hx => by rw [← h2]; exact (h1 x hx).2
theorem tab_get (t : Tab) (r : Row) : getS [((PyData.str "start" : PyData), PyData.int t.start), (.str "end", .int t.stop), (.str "found", .list (t.found.map boolsD)), (.str "row", rowD r)] "start" = some (.int t.start)
    ∧ getS [((PyData.str "start" : PyData), PyData.int t.start), (.str "end", .int t.stop), (.str "found", .list (t.found.map boolsD)), (.str "row", rowD r)] "end" = some (.int t.stop)
    ∧ getS [((PyData.str "start" : PyData), PyData.int t.start), (.str "end", .int t.stop), (.str "found", .list (t.found.map boolsD)), (.str "row", rowD r)] "found" = some (.list (t.found.map boolsD))
    ∧ getS [((PyData.str "start" : PyData), PyData.int t.start), (.str "end", .int t.stop), (.str "found", .list (t.found.map boolsD)), (.str "row", rowD r)] "row" = some (rowD r) := ⟨rfl, rfl, rfl, rfl⟩
theorem truths_end {t : Tab} {r : Row} {b : Int} {v3 v4 v5 : Option Sl} {Q : DK} (h0 : 0 ≤ b - t.start) (h1 : b < t.stop) (hb : ∀ x ∈ t.found, x.length = (t.stop - t.start).toNat) (hf : t.found.length ≤ 100000)
    (q : Q (.own (t.found.map fun x => .bool (x.getD (b - t.start).toNat false)))) : dLc (dList (dOp fDIx (dVar 0) (dC (.str "found")))) (dgName 5) dYes (dOp fIx (dVar 5) (dOp fSub (dVar 1) (dVar 2))) [5] [some (.d (tabD t r)), some (.d (.int b)), some (.d (.int t.start)), v3, v4, v5] Q := by
  refine ⟨_, (tab_get t r).2.2.1, _, rfl, by rw [List.length_map]; exact s16 (by omega), ?_⟩
  refine lc_mapT boolsD (fun x => .bool (x.getD (b - t.start).toNat false)) (fun x hx k hk => ⟨.bool (x.getD (b - t.start).toNat false), ?_, hk _ rfl⟩) q
  have hl := hb x hx
  refine bools_ix (i := (b - t.start).toNat) ?_ (by omega)
  rw [List.getD_eq_getElem?_getD, List.getElem?_eq_getElem (by rw [hl]; omega)]
  rfl
/-- the lists so far are as long as they should be -/
def TAcc (n : Nat) (acc : List (List Bool)) : Prop := ∀ b ∈ acc, b.length = n
theorem scan_len : ∀ (xs : List (Bool × Bool)) (g : Bool), (scanG xs g).length = xs.length
  | [], _ => rfl
  | x :: xs, g => by show (scanG xs _).length + 1 = _; rw [scan_len]; rfl
theorem going_len {hs ws : List Bool} {n : Nat} (h : hs.length = ws.length) : (mGoing hs ws n).length = hs.length := by
  unfold mGoing
  rw [List.length_reverse, scan_len, List.length_reverse, List.length_zip, ← h, Nat.min_self]
theorem getD_len {n : Nat} {acc : List (List Bool)} (h : TAcc n acc) {i : Nat} (hi : i < acc.length) : (acc.getD i []).length = n ∧ acc[i]? = some (acc.getD i []) := by
  have e : acc[i]? = some (acc.getD i []) := by rw [List.getD_eq_getElem?_getD, List.getElem?_eq_getElem hi]; rfl
  exact ⟨h _ (List.mem_of_getElem? e), e⟩
theorem tabOf_len {lots : List (List Str)} {nl nr : Nat} {acc : List (List Bool)} {l : Ln} (h : TAcc lots.length acc) (hl : ∀ i ∈ l.mem, i < acc.length) : (tabOf lots nl nr acc l).length = lots.length := by
  cases l with
  | lt w => exact List.length_map _
  | yes => exact List.length_map _
  | un i => show ((acc.getD i []).map _).length = _; rw [List.length_map]; exact (getD_len h (hl i (by simp [Ln.mem]))).1
  | bi o i j =>
    have h1 := (getD_len h (hl i (by simp [Ln.mem]))).1
    have h2 := (getD_len h (hl j (by simp [Ln.mem]))).1
    simp only [tabOf]
    split
    · rw [List.length_map, List.length_zip, h1, h2, Nat.min_self]
    · split
      · rw [List.length_map, List.length_zip, h1, h2, Nat.min_self]
      · split
        · rw [going_len (h1.trans h2.symm), h1]
        · rw [List.length_reverse, going_len (by rw [List.length_reverse, List.length_reverse, h1, h2]), List.length_reverse, h1]
theorem TAcc.snoc {n : Nat} {acc : List (List Bool)} {b : List Bool} (h : TAcc n acc) (hb : b.length = n) : TAcc n (acc ++ [b]) := fun x hx => by
  rcases List.mem_append.mp hx with hx | hx
  · exact h x hx
  · rw [List.mem_singleton.mp hx]; exact hb
theorem tabGo_ok (lots : List (List Str)) (nl nr : Nat) : ∀ (s : List Ln) (acc : List (List Bool)), TAcc lots.length acc → (∀ (k : Nat) (l : Ln), s[k]? = some l → ∀ i ∈ l.mem, i < acc.length + k) → TAcc lots.length (tabGo lots nl nr s acc) ∧ (tabGo lots nl nr s acc).length = acc.length + s.length
  | [], acc, h, _ => ⟨h, rfl⟩
  | l :: s, acc, h, hl => by
    have h1 := tabOf_len (nl := nl) (nr := nr) h (fun i hi => by simpa using hl 0 l rfl i hi)
    obtain ⟨a, b⟩ := tabGo_ok lots nl nr s _ (h.snoc h1) (fun k m hk i hi => by
      have := hl (k + 1) m hk i hi
      rw [List.length_append, List.length_singleton]; omega)
    refine ⟨a, ?_⟩
    show (tabGo lots nl nr s (acc ++ [tabOf lots nl nr acc l])).length = _
    rw [b, List.length_append, List.length_singleton, List.length_cons]; omega
theorem tabGo_snoc (lots : List (List Str)) (nl nr : Nat) (l : Ln) : ∀ (s : List Ln) (acc : List (List Bool)), tabGo lots nl nr (s ++ [l]) acc = tabGo lots nl nr s acc ++ [tabOf lots nl nr (tabGo lots nl nr s acc) l]
  | [], _ => rfl
  | x :: s, acc => tabGo_snoc lots nl nr l s _
theorem SOk.nums {s : List Ln} (ok : SOk s) (j : Nat) : ∀ (k : Nat) (l : Ln), (s.take j)[k]? = some l → ∀ i ∈ l.mem, i < ([] : List (List Bool)).length + k := fun k l h i hi => by
  rw [List.getElem?_take] at h
  split at h
  · have := (ok.ok k l h).2.1 i hi
    simpa using this
  · cases h
theorem zipD_bools : ∀ (xs ys : List Bool), zipD (xs.map PyData.bool) (ys.map PyData.bool) = (xs.zip ys).map fun p => PyData.tuple [.bool p.1, .bool p.2]
  | [], _ => by simp [zipD]
  | _ :: _, [] => by simp [zipD]
  | x :: xs, y :: ys => by
    rw [List.map_cons, List.map_cons, List.zip_cons_cons, List.map_cons]
    show _ :: zipD _ _ = _
    rw [zipD_bools xs ys]
theorem rng0 (n : Nat) : rngD 0 n = (List.range n).map fun (i : Nat) => PyData.int i := by
  unfold rngD
  exact List.map_congr_left fun i _ => by rw [Int.zero_add]
theorem perm_pair {α : Type} {x y : α} {ys : List α} (p : ys.Perm [x, y]) : ys = [x, y] ∨ ys = [y, x] := by
  have hl := p.length_eq
  match ys, hl with
  | [a, b], _ =>
    have ha : a ∈ [x, y] := p.mem_iff.mp List.mem_cons_self
    simp only [List.mem_cons, List.not_mem_nil, or_false] at ha
    rcases ha with rfl | rfl
    · have := (List.perm_cons a).mp p
      rw [List.perm_singleton] at this
      injection this with e
      exact .inl (by rw [e])
    · have p2 : [a, b].Perm [a, x] := p.trans (List.Perm.swap _ _ _)
      have := (List.perm_cons a).mp p2
      rw [List.perm_singleton] at this
      injection this with e
      exact .inr (by rw [e])
/-- a line more -/
theorem ok_snoc {s : List Ln} {l : Ln} {j : Nat} (sl : s.length = j) (sok : ∀ (k : Nat) (l : Ln), s[k]? = some l → l.Ok k) (h : l.Ok j) : (s ++ [l]).length = j + 1 ∧ ∀ (k : Nat) (m : Ln), (s ++ [l])[k]? = some m → m.Ok k := by
  refine ⟨by rw [List.length_append, sl]; rfl, fun k m hk => ?_⟩
  rw [List.getElem?_append] at hk
  split at hk
  · exact sok k m hk
  · rename_i c
    have hlt := (List.getElem?_eq_some_iff.mp hk).1
    rw [List.length_singleton] at hlt
    have e : k = j := by omega
    subst e
    rw [show k - s.length = 0 by omega] at hk
    cases hk
    exact h
theorem Ln.Ok.mono {j k : Nat} {l : Ln} (h : l.Ok j) (hjk : j ≤ k) : l.Ok k := ⟨h.1, fun i hi => Nat.lt_of_lt_of_le (h.2.1 i hi) hjk, h.2.2⟩
theorem if_iff {c : DTT} {x y : DTS} {E : DEnds} {env : EV} (p q : Prop) (hc : ∀ Q : Bool → Prop, (p → Q true) → (q → Q false) → c env Q) (hx : p → x E env) (hy : q → y E env) : dIf c x y E env := hc _ hx hy
theorem perm_two {a b : Nat} {zs : List PyData} (p : zs.Perm [.int a, .int b]) : ∃ c d : Nat, zs = [.int c, .int d] ∧ (c = a ∨ c = b) ∧ (d = a ∨ d = b) := by
  rcases perm_pair p with rfl | rfl
  · exact ⟨a, b, rfl, .inl rfl, .inr rfl⟩
  · exact ⟨b, a, rfl, .inr rfl, .inl rfl⟩
theorem neQ_yes {z : Str} {Q : DK} (h : Q (.d (.bool false))) : fEqS true (.d (.str z)) (.d (.str z)) Q := by
  show Q (.d (.bool (!decide (z = z))))
  rw [decide_eq_true rfl]; exact h
theorem neQ_no {y z : Str} (n : y ≠ z) {Q : DK} (h : Q (.d (.bool true))) : fEqS true (.d (.str y)) (.d (.str z)) Q := by
  show Q (.d (.bool (!decide (y = z))))
  rw [decide_eq_false n]; exact h
theorem cut_one {x y : PyData} : Pu.cutD [x, y] none (some (1 + (if false = true then 1 else 0))) = [x] := rfl
theorem cut_two {x y : PyData} : Pu.cutD [x, y] none (some (1 + (if true = true then 1 else 0))) = [x, y] := rfl
theorem dVar_pass {i : Nat} {env : EV} {x : PyData} {Q : DK} (h : env[i]? = some (some (.d x))) (q : Q (.d x)) : dVar i env Q := by
  unfold dVar
  rw [h]
  exact q
theorem if_iffS {c : DTT} {x y z : DTS} {E : DEnds} {env : EV} (p q : Prop) (hc : ∀ Q : Bool → Prop, (p → Q true) → (q → Q false) → c env Q) (hx : p → x { E with nx := z E } env) (hy : q → y { E with nx := z E } env) : dSeq (dIf c x y) z E env := hc _ hx hy

end Law

end

section
set_option maxHeartbeats 2000000
namespace Law
open PySem L2 PyProof.Rows RZ Pu
/-! ### the mirror of a row, of tables -/
def Row.mir (r : Row) : Row := ⟨1 - (r.first + r.mid.length), r.right.reverse, r.mid.reverse, r.left.reverse⟩
theorem back_mod (y n : Int) (h : 0 < n) : (-1 - y) % n = n - 1 - y % n := by
  have h1 := Int.emod_nonneg y (show n ≠ 0 by omega)
  have h2 := Int.emod_lt_of_pos y h
  have h3 := Int.emod_add_mul_ediv y n
  have e : -1 - y = (n - 1 - y % n) + n * (-(y / n) - 1) := by
    rw [Int.mul_sub, Int.mul_neg, Int.mul_one]
    omega
  rw [e, Int.add_mul_emod_self_left]
  exact Int.emod_eq_of_lt (by omega) (by omega)
theorem rev_getD {α : Type} (l : List α) (d : α) {i : Nat} (h : i < l.length) : l.reverse.getD i d = l.getD (l.length - 1 - i) d := by
  rw [List.getD_eq_getElem?_getD, List.getD_eq_getElem?_getD, List.getElem?_reverse h]
theorem swap_mem (l : Ln) : l.swap.mem = l.mem := by cases l <;> rfl
theorem SOk.W {s : List Ln} (ok : SOk s) : ∀ l ∈ s, l.W := fun l hl => by
  obtain ⟨k, hk⟩ := List.getElem?_of_mem hl
  exact (ok.ok k l hk).1
theorem mod_lt' (x : Int) {n : Nat} (h : 1 ≤ n) : 0 ≤ x % (n : Int) ∧ x % (n : Int) < n := ⟨Int.emod_nonneg _ (by omega), Int.emod_lt_of_pos _ (by omega)⟩
theorem where_mir {t : Tab} {r : Row} (l1 : 1 ≤ r.left.length) (r1 : 1 ≤ r.right.length) (h1 : t.start + r.left.length ≤ t.stop) (h2 : t.start + r.right.length ≤ t.stop) (n : Int) {f : List (List Bool)} :
    whereT ⟨1 - t.stop, 1 - t.start, f⟩ r.mir (-n) = t.stop - t.start - 1 - whereT t r n ∧ 0 ≤ whereT t r n ∧ whereT t r n < t.stop - t.start := by
  have hl : r.mir.left.length = r.right.length := List.length_reverse
  have hr : r.mir.right.length = r.left.length := List.length_reverse
  unfold whereT
  dsimp only
  rw [hl, hr]
  obtain ⟨a1, a2⟩ := mod_lt' (n - t.start) l1
  obtain ⟨b1, b2⟩ := mod_lt' (n - t.stop) r1
  have e1 : -n - (1 - t.stop) = -1 - (n - t.stop) := by omega
  have e2 : -n - (1 - t.start) = -1 - (n - t.start) := by omega
  by_cases c1 : n < t.start
  · rw [if_pos c1, if_neg (show ¬ (-n < 1 - t.stop) by omega), if_pos (show -n ≥ 1 - t.start by omega), if_neg (by omega), e2, back_mod _ _ (by omega)]
    omega
  · rw [if_neg c1]
    by_cases c2 : n ≥ t.stop
    · rw [if_pos c2, if_pos (show -n < 1 - t.stop by omega), e1, back_mod _ _ (by omega), if_neg (by omega)]
      omega
    · rw [if_neg c2, if_neg (show ¬ (-n < 1 - t.stop) by omega), if_neg (by omega)]
      omega
theorem mTab_ok {s : List Ln} {r : Row} (ok : SOk s) (l1 : 1 ≤ r.left.length) (r1 : 1 ≤ r.right.length) :
    tStart s r + r.left.length ≤ tStop s r ∧ tStart s r + r.right.length ≤ tStop s r ∧ (∀ b ∈ (mTab s r).found, b.length = (tStop s r - tStart s r).toNat) ∧ (mTab s r).found.length = s.length := by
  obtain ⟨nu1, nu2⟩ := nests_b "until" s
  obtain ⟨ns1, ns2⟩ := nests_b "since" s
  have bU : (r.left.length : Int) ≤ (r.left.length : Int) * (mNests "until" s + 1) := by
    have := Int.mul_le_mul_of_nonneg_left (show (1 : Int) ≤ mNests "until" s + 1 by omega) (show (0 : Int) ≤ r.left.length by omega)
    rwa [Int.mul_one] at this
  have bS : (r.right.length : Int) ≤ (r.right.length : Int) * (mNests "since" s + 1) := by
    have := Int.mul_le_mul_of_nonneg_left (show (1 : Int) ≤ mNests "since" s + 1 by omega) (show (0 : Int) ≤ r.right.length by omega)
    rwa [Int.mul_one] at this
  have ll : ((rangeI (tStart s r) (tStop s r)).map (lotAt r)).length = (tStop s r - tStart s r).toNat := by unfold rangeI; rw [List.length_map, List.length_map, List.length_range]
  obtain ⟨t1, t2⟩ := tabGo_ok ((rangeI (tStart s r) (tStop s r)).map (lotAt r)) r.left.length r.right.length s [] (fun b hb => by cases hb) (fun k l hk i hi => by simpa using (ok.ok k l hk).2.1 i hi)
  rw [List.length_nil, Nat.zero_add] at t2
  refine ⟨by unfold tStart tStop; omega, by unfold tStart tStop; omega, fun b hb => (t1 b hb).trans ll, t2⟩
/-! ### sheets are small -/
theorem ops_small : ∀ o ∈ ops, tame (.str o) = true ∧ big (.str o) ≤ 150 ∧ PyData.canLay0 (.str o) = true := by decide +kernel
theorem key_small : ∀ o ∈ (["letter", "yes", "not"] : List Str), tame (.str o) = true ∧ big (.str o) ≤ 150 ∧ PyData.canLay0 (.str o) = true := by decide +kernel
/-- a line with small numbers -/
theorem ln_small {l : Ln} {n : Nat} (h : l.Ok n) (hn : n ≤ 1000000) : tame (lnD l) = true ∧ big (lnD l) ≤ 400 ∧ (lnD l).depth ≤ 1 ∧ (lnD l).canLay0 = true := by
  have p : (1000000 : Nat) < 10 ^ 100 := by decide +kernel
  cases l with
  | lt w =>
    obtain ⟨a1, a2⟩ := base_small w (h.2.2 w rfl)
    have a3 := base_lay w (h.2.2 w rfl)
    obtain ⟨b1, b2, b3⟩ := key_small "letter" (by decide +kernel)
    refine ⟨?_, ?_, ?_, ?_⟩
    · simp only [lnD, tame, tameAll, Bool.and_true, Bool.and_eq_true]
      exact ⟨b1, a1⟩
    · simp only [lnD, big, bigAll] at a2 b2 ⊢; omega
    · simp [lnD, PyData.depth, PyData.depthAll]
    · simp only [lnD, PyData.canLay0, PyData.canLayAll0, Bool.and_true, Bool.and_eq_true]
      exact ⟨b3, a3⟩
  | yes =>
    obtain ⟨b1, b2, b3⟩ := key_small "yes" (by decide +kernel)
    refine ⟨?_, ?_, ?_, ?_⟩
    · simp only [lnD, tame, tameAll, Bool.and_true]
      exact b1
    · simp only [lnD, big, bigAll] at b2 ⊢; omega
    · simp [lnD, PyData.depth, PyData.depthAll]
    · simp only [lnD, PyData.canLay0, PyData.canLayAll0, Bool.and_true]
      exact b3
  | un i =>
    have hi := h.2.1 i (by simp [Ln.mem])
    obtain ⟨b1, b2, b3⟩ := key_small "not" (by decide +kernel)
    refine ⟨?_, ?_, ?_, ?_⟩
    · simp only [lnD, tame, tameAll, Bool.and_true, Bool.and_eq_true, decide_eq_true_eq]
      exact ⟨b1, by omega⟩
    · simp only [lnD, big, bigAll] at b2 ⊢; omega
    · simp [lnD, PyData.depth, PyData.depthAll]
    · simp only [lnD, PyData.canLay0, PyData.canLayAll0, Bool.and_true]
      exact b3
  | bi o i j =>
    have hi := h.2.1 i (by simp [Ln.mem])
    have hj := h.2.1 j (by simp [Ln.mem])
    obtain ⟨b1, b2, b3⟩ := ops_small o h.1
    refine ⟨?_, ?_, ?_, ?_⟩
    · simp only [lnD, tame, tameAll, Bool.and_true, Bool.and_eq_true, decide_eq_true_eq]
      exact ⟨b1, by omega, by omega⟩
    · simp only [lnD, big, bigAll] at b2 ⊢; omega
    · simp [lnD, PyData.depth, PyData.depthAll]
    · simp only [lnD, PyData.canLay0, PyData.canLayAll0, Bool.and_true]
      exact b3
theorem sheet_small {s : List Ln} (ok : SOk s) (hl : s.length ≤ 5000) : tame (sheetD s) = true ∧ big (sheetD s) ≤ 2100000 ∧ (sheetD s).depth ≤ 2 ∧ (sheetD s).canLay0 = true := by
  have each : ∀ x ∈ s.map lnD, tame x = true ∧ big x ≤ 400 ∧ x.depth ≤ 1 ∧ x.canLay0 = true := fun x hx => by
    obtain ⟨l, hl2, rfl⟩ := List.mem_map.mp hx
    obtain ⟨k, hk⟩ := List.getElem?_of_mem hl2
    have := (List.getElem?_eq_some_iff.mp hk).1
    exact ln_small (ok.ok k l hk) (by omega)
  refine ⟨?_, ?_, ?_, ?_⟩
  · show tameAll _ = true
    exact tameAll_iff.mpr fun x hx => (each x hx).1
  · have := bigAll_le (xs := s.map lnD) (n := 400) fun x hx => (each x hx).2.1
    rw [List.length_map] at this
    show bigAll _ + 3 ≤ _
    omega
  · have := depthAll_le (xs := s.map lnD) (n := 1) fun x hx => (each x hx).2.2.1
    simp only [PyData.depth]; omega
  · show PyData.canLayAll0 _ = true
    exact canLayAll_iff.mpr fun x hx => (each x hx).2.2.2
theorem okR_sheet {s : List Ln} (ok : SOk s) (hl : s.length ≤ 5000) : okR (sheetD s) := by
  obtain ⟨a, b, c, _⟩ := sheet_small ok hl
  exact okR_of a (by omega) (by omega)
theorem okD1_of {d : PyData} (h1 : tame d = true) (h2 : d.depth ≤ 60) (h3 : d.canLay0 = true) : okD1 d := by
  refine ⟨tame_noDict d h1, ?_⟩
  unfold SeqAt.shaped
  exact Bool.and_eq_true_iff.mpr ⟨h3, decide_eq_true (by omega)⟩
theorem okD1_sheet {s : List Ln} (ok : SOk s) (hl : s.length ≤ 5000) : okD1 (sheetD s) := by
  obtain ⟨a, b, c, d⟩ := sheet_small ok hl
  exact okD1_of a (by omega) d
theorem ne_same {d : PyData} (h : okD1 d) {Q : DK} (q : Q (.d (.bool false))) : fNe (.d d) (.d d) Q := by
  refine ⟨h, h, ?_⟩
  rw [PySem.SeqAt.eqv_refl _ (Bool.and_eq_true_iff.mp h.2).1]
  exact q
theorem eq_same {d : PyData} (h : okD1 d) {Q : DK} (q : Q (.d (.bool true))) : fEq (.d d) (.d d) Q := by
  refine ⟨h, h, ?_⟩
  rw [PySem.SeqAt.eqv_refl _ (Bool.and_eq_true_iff.mp h.2).1]
  exact q
theorem swap_W (l : Ln) (hW : l.W) : l.swap.W := by
  cases l with
  | bi o i j =>
    have hW : o ∈ ops := hW
    simp only [ops, List.mem_cons, List.not_mem_nil, or_false] at hW
    show swapW o ∈ ops
    rcases hW with rfl | rfl | rfl | rfl <;> decide +kernel
  | _ => trivial
theorem SOk.swap {s : List Ln} (ok : SOk s) : SOk (s.map Ln.swap) := by
  refine ⟨fun e => ok.ne (List.map_eq_nil_iff.mp e), fun k l hk => ?_⟩
  rw [List.getElem?_map] at hk
  obtain ⟨m, hm, rfl⟩ := Option.map_eq_some_iff.mp hk
  have := ok.ok k m hm
  refine ⟨swap_W m this.1, fun i hi => this.2.1 i (by rwa [swap_mem] at hi), fun w e => ?_⟩
  cases m with
  | lt z => exact this.2.2 w e
  | yes => cases e
  | un i => cases e
  | bi o i j => cases e
def ltOf : Ln → Option Str
  | .lt w => some w
  | _ => none
theorem lc_fmGo {α : Type} (enc : α → PyData) (f : α → Option PyData) {g : DTG} {tt : DTT} {te : DTE} {env : EV} {Q : List PyData → Prop} : ∀ (l : List α) (acc : List PyData), (∀ x ∈ l, ∀ k : List PyData → Prop, k (f x).toList → dTurn g tt te env (enc x) k) →
    Q (acc ++ l.filterMap f) → dLcGo g tt te env (l.map enc) acc Q := fun l acc h q => by
  refine lcGo_by (l.map enc) (fun j a => a = acc ++ (l.take j).filterMap f) 0 acc Q (by rw [List.take_zero, List.filterMap_nil, List.append_nil]) (fun j y a hy e k hk => ?_) (fun a e => ?_)
  · rw [List.getElem?_map] at hy
    obtain ⟨x, hx, rfl⟩ := Option.map_eq_some_iff.mp hy
    refine h x (List.mem_of_getElem? hx) k (hk _ ?_)
    subst e
    rw [Nat.zero_add] at *
    rw [List.take_add_one, hx, List.filterMap_append, List.append_assoc]
    congr 2
  · subst e
    rw [List.length_map, Nat.zero_add, List.take_length]
    exact q
theorem rowOk_small {ws : List Str} {r : Row} (ok : r.Ok ws) : RSmall r ∧ RSmall r.mir := by
  have l1 := ok.l1
  have l2 := ok.l2
  have m := ok.m
  have r1 := ok.r1
  have r2 := ok.r2
  refine ⟨⟨l1, by omega, by omega, r1, by omega⟩, ⟨?_, ?_, ?_, ?_, ?_⟩⟩
  · show 1 ≤ r.right.reverse.length; rw [List.length_reverse]; exact r1
  · show r.right.reverse.length ≤ 100; rw [List.length_reverse]; omega
  · show r.mid.reverse.length ≤ 100; rw [List.length_reverse]; omega
  · show 1 ≤ r.left.reverse.length; rw [List.length_reverse]; exact l1
  · show r.left.reverse.length ≤ 100; rw [List.length_reverse]; omega
theorem shift_ok {l : Ln} {k n : Nat} (h : l.Ok k) : (l.shift n).Ok (n + k) := by
  cases l with
  | lt w => exact ⟨trivial, fun i hi => (by cases hi), fun z e => h.2.2 z e⟩
  | yes => exact ⟨trivial, fun i hi => (by cases hi), fun z e => by cases e⟩
  | un i =>
    have hi := h.2.1 i (by simp [Ln.mem])
    exact ⟨trivial, fun j hj => by simp [Ln.mem, Ln.shift] at hj; omega, fun z e => by cases e⟩
  | bi o i j =>
    have hi := h.2.1 i (by simp [Ln.mem])
    have hj := h.2.1 j (by simp [Ln.mem])
    exact ⟨h.1, fun k hk => by simp [Ln.mem, Ln.shift] at hk; omega, fun z e => by cases e⟩
theorem SOk.put {o : Str} {s t : List Ln} (ho : o ∈ ops) (ok1 : SOk s) (ok2 : SOk t) : SOk (mPut o s t) ∧ (mPut o s t).length = s.length + t.length + 1 := by
  have hs : 0 < s.length := List.length_pos_iff.mpr ok1.ne
  have ht : 0 < t.length := List.length_pos_iff.mpr ok2.ne
  have len : (mPut o s t).length = s.length + t.length + 1 := by unfold mPut; simp; omega
  refine ⟨⟨fun e => by rw [e] at len; simp at len, fun k l hk => ?_⟩, len⟩
  unfold mPut at hk
  have both : ∀ (k : Nat) (l : Ln), (s ++ t.map (·.shift s.length))[k]? = some l → l.Ok k := fun k l hk => by
    rw [List.getElem?_append] at hk
    split at hk
    · exact ok1.ok k l hk
    · rename_i c
      rw [List.getElem?_map] at hk
      obtain ⟨m, hm, rfl⟩ := Option.map_eq_some_iff.mp hk
      have := shift_ok (n := s.length) (ok2.ok _ m hm)
      rwa [show s.length + (k - s.length) = k by omega] at this
  have l1 : (s ++ t.map (·.shift s.length)).length = s.length + t.length := by simp
  exact (ok_snoc (l := .bi o (s.length - 1) (s.length + t.length - 1)) l1 both ⟨ho, fun i hi => by simp [Ln.mem] at hi; omega, fun w e => by cases e⟩).2 k l hk
end Law

end

section
set_option maxHeartbeats 2000000
namespace Law
open PySem L2 PyProof.Rows RZ Pu
/-! ### truths at all moments, and that the law's tables tell them -/
def UntilF (A B : Int → Prop) (n : Int) : Prop := ∃ m, n < m ∧ A m ∧ ∀ k, n < k → k < m → B k
def SinceF (A B : Int → Prop) (n : Int) : Prop := ∃ m, m < n ∧ A m ∧ ∀ k, m < k → k < n → B k
theorem until_step {A B : Int → Prop} (n : Int) : UntilF A B n ↔ A (n + 1) ∨ (B (n + 1) ∧ UntilF A B (n + 1)) := by
  constructor
  · rintro ⟨m, h1, h2, h3⟩
    by_cases c : m = n + 1
    · subst c; exact .inl h2
    · exact .inr ⟨h3 _ (by omega) (by omega), m, by omega, h2, fun k a b => h3 k (by omega) b⟩
  · rintro (h | ⟨h, m, h1, h2, h3⟩)
    · exact ⟨n + 1, by omega, h, fun k a b => by omega⟩
    · refine ⟨m, by omega, h2, fun k a b => ?_⟩
      by_cases c : k = n + 1
      · subst c; exact h
      · exact h3 k (by omega) b
theorem until_right {A B : Int → Prop} {P p : Int} (hA : ∀ n, P ≤ n → (A (n + p) ↔ A n)) (hB : ∀ n, P ≤ n → (B (n + p) ↔ B n)) (n : Int) (hn : P - 1 ≤ n) : UntilF A B (n + p) ↔ UntilF A B n := by
  constructor
  · rintro ⟨m, h1, h2, h3⟩
    refine ⟨m - p, by omega, (hA (m - p) (by omega)).mp (by rwa [Int.sub_add_cancel]), fun k a b => (hB k (by omega)).mp (h3 (k + p) (by omega) (by omega))⟩
  · rintro ⟨m, h1, h2, h3⟩
    refine ⟨m + p, by omega, (hA m (by omega)).mpr h2, fun k a b => ?_⟩
    have := (hB (k - p) (by omega)).mpr (h3 (k - p) (by omega) (by omega))
    rwa [Int.sub_add_cancel] at this
theorem until_left {A B : Int → Prop} {Q p : Int} (hp : 0 < p) (hA : ∀ n, n < Q → (A (n - p) ↔ A n)) (hB : ∀ n, n < Q → (B (n - p) ↔ B n)) (n : Int) (hn : n < Q - p) : UntilF A B (n - p) ↔ UntilF A B n := by
  constructor
  · rintro ⟨m, h1, h2, h3⟩
    by_cases c : m + p < Q
    · refine ⟨m + p, by omega, (hA (m + p) c).mp (by rwa [Int.add_sub_cancel]), fun k a b => (hB k (by omega)).mp (h3 (k - p) (by omega) (by omega))⟩
    · exact ⟨m, by omega, h2, fun k a b => h3 k (by omega) b⟩
  · rintro ⟨m, h1, h2, h3⟩
    by_cases c : m < Q
    · refine ⟨m - p, by omega, (hA m c).mpr h2, fun k a b => ?_⟩
      have := (hB (k + p) (by omega)).mpr (h3 (k + p) (by omega) (by omega))
      rwa [Int.add_sub_cancel] at this
    · refine ⟨m, by omega, h2, fun k a b => ?_⟩
      by_cases c2 : n < k
      · exact h3 k c2 b
      · have := (hB (k + p) (by omega)).mpr (h3 (k + p) (by omega) (by omega))
        rwa [Int.add_sub_cancel] at this
/-! the mirror -/
theorem since_neg {A B : Int → Prop} (n : Int) : SinceF A B n ↔ UntilF (fun k => A (-k)) (fun k => B (-k)) (-n) := by
  constructor
  · rintro ⟨m, h1, h2, h3⟩
    exact ⟨-m, by omega, by show A (- -m); rwa [Int.neg_neg], fun k a b => h3 (-k) (by omega) (by omega)⟩
  · rintro ⟨m, h1, h2, h3⟩
    refine ⟨-m, by omega, h2, fun k a b => ?_⟩
    have : B (- -k) := h3 (-k) (by omega) (by omega)
    rwa [Int.neg_neg] at this
theorem since_left {A B : Int → Prop} {Q p : Int} (hA : ∀ n, n < Q → (A (n - p) ↔ A n)) (hB : ∀ n, n < Q → (B (n - p) ↔ B n)) (n : Int) (hn : n ≤ Q) : SinceF A B (n - p) ↔ SinceF A B n := by
  rw [since_neg, since_neg, show -(n - p) = -n + p by omega]
  exact until_right (P := 1 - Q) (fun k hk => by have := hA (-k) (by omega); rwa [show -k - p = -(k + p) by omega] at this) (fun k hk => by have := hB (-k) (by omega); rwa [show -k - p = -(k + p) by omega] at this) (-n) (by omega)
theorem since_right {A B : Int → Prop} {P p : Int} (hp : 0 < p) (hA : ∀ n, P ≤ n → (A (n + p) ↔ A n)) (hB : ∀ n, P ≤ n → (B (n + p) ↔ B n)) (n : Int) (hn : P + p ≤ n) : SinceF A B (n + p) ↔ SinceF A B n := by
  rw [since_neg, since_neg, show -(n + p) = -n - p by omega]
  exact until_left (Q := 1 - P) hp (fun k hk => by have := hA (-k) (by omega); rwa [show -k + p = -(k - p) by omega] at this) (fun k hk => by have := hB (-k) (by omega); rwa [show -k + p = -(k - p) by omega] at this) (-n) (by omega)
/-! lists -/
/-- the list tells the truths from lo on -/
def Tells (lo : Int) (b : List Bool) (f : Int → Prop) : Prop := ∀ i : Nat, i < b.length → (b.getD i false = true ↔ f (lo + i))
theorem goOn_two (xs : List (Bool × Bool)) : (∀ g g', goOn xs g = goOn xs g') ∨ ∀ p ∈ xs, p = (false, true) := by
  induction xs with
  | nil => exact .inr fun p h => by cases h
  | cons x xs ih =>
    obtain ⟨h, w⟩ := x
    rcases ih with ih | ih
    · refine .inl fun g g' => ?_
      show goOn xs (h || (w && g)) = goOn xs (h || (w && g'))
      exact ih _ _
    · cases h with
      | true => exact .inl fun g g' => rfl
      | false =>
        cases w with
        | false => exact .inl fun g g' => rfl
        | true =>
          refine .inr fun p hp => ?_
          rcases List.mem_cons.mp hp with rfl | hp
          · rfl
          · exact ih p hp
theorem goOn_dull : ∀ (xs : List (Bool × Bool)), (∀ p ∈ xs, p = (false, true)) → goOn xs false = false
  | [], _ => rfl
  | x :: xs, h => by
    have := h x List.mem_cons_self
    subst this
    exact goOn_dull xs fun p hp => h p (List.mem_cons_of_mem _ hp)
theorem scan_get : ∀ (xs : List (Bool × Bool)) (g : Bool) (t : Nat), t < xs.length → (scanG xs g)[t]? = some (goOn (xs.take t) g)
  | x :: xs, g, 0, _ => rfl
  | x :: xs, g, t + 1, h => by
    show (scanG xs (x.1 || (x.2 && g)))[t]? = _
    rw [scan_get xs _ t (by simpa using h)]
    rfl
  | [], _, _, h => by simp at h
/-- from the end on: what is so is what is so at the moment -/
theorem goOn_truth {A B : Int → Prop} {lo : Int} {hs ws : List Bool} (hl : hs.length = ws.length) (tA : Tells lo hs A) (tB : Tells lo ws B) {g : Bool} (hg : g = true ↔ UntilF A B (lo + hs.length - 1)) :
    ∀ t : Nat, t ≤ hs.length → (goOn ((hs.zip ws).reverse.take t) g = true ↔ UntilF A B (lo + hs.length - 1 - t)) := fun t => by
  induction t with
  | zero => intro _; rw [List.take_zero]; simpa [goOn] using hg
  | succ t ih =>
    intro ht
    have ih := ih (by omega)
    obtain ⟨h, w, z1, z2, z3⟩ := zip_back hl (show t < hs.length by omega)
    have e : goOn ((hs.zip ws).reverse.take (t + 1)) g = (h || (w && goOn ((hs.zip ws).reverse.take t) g)) := by
      rw [List.take_add_one, z1]
      exact goOn_snoc _ (h, w) _
    have a := tA (hs.length - 1 - t) (by omega)
    have b := tB (hs.length - 1 - t) (by omega)
    rw [List.getD_eq_getElem?_getD, z2] at a
    rw [List.getD_eq_getElem?_getD, z3] at b
    have a : h = true ↔ A (lo + hs.length - 1 - t) := by
      have e2 : lo + ((hs.length - 1 - t : Nat) : Int) = lo + hs.length - 1 - t := by omega
      rw [e2] at a; exact a
    have b : w = true ↔ B (lo + hs.length - 1 - t) := by
      have e2 : lo + ((hs.length - 1 - t : Nat) : Int) = lo + hs.length - 1 - t := by omega
      rw [e2] at b; exact b
    have e3 : lo + (hs.length : Int) - 1 - ((t + 1 : Nat) : Int) = (lo + hs.length - 1 - t) - 1 := by omega
    rw [e, e3, until_step, Int.sub_add_cancel, ← a, ← b, ← ih]
    simp
theorem goOn_truth0 {A B : Int → Prop} {lo : Int} {hs ws : List Bool} (hl : hs.length = ws.length) (tA : Tells lo hs A) (tB : Tells lo ws B) {p : Nat} (hp : 1 ≤ p) (hpl : p ≤ hs.length)
    (pA : ∀ n, lo + hs.length - p ≤ n → (A (n + p) ↔ A n)) (pB : ∀ n, lo + hs.length - p ≤ n → (B (n + p) ↔ B n)) : goOn ((hs.zip ws).reverse.take p) false = true ↔ UntilF A B (lo + hs.length - 1) := by
  have per := until_right pA pB (lo + hs.length - 1 - p) (by omega)
  rw [show lo + (hs.length : Int) - 1 - p + p = lo + hs.length - 1 by omega] at per
  rcases goOn_two ((hs.zip ws).reverse.take p) with h | h
  · by_cases c : UntilF A B (lo + hs.length - 1)
    · have := goOn_truth hl tA tB (g := true) ⟨fun _ => c, fun _ => rfl⟩ p hpl
      rw [h false true, this]
      exact per.symm
    · have := goOn_truth hl tA tB (g := false) ⟨fun z => (by cases z), fun z => absurd z c⟩ p hpl
      rw [this]
      exact per.symm
  · rw [goOn_dull _ h]
    refine ⟨fun z => (by cases z), ?_⟩
    rintro ⟨m, h1, h2, h3⟩
    exfalso
    -- no head in the last round, so none later
    have no : ∀ t : Nat, t < p → ¬ A (lo + hs.length - 1 - t) := fun t ht => by
      obtain ⟨x, w, z1, z2, z3⟩ := zip_back hl (show t < hs.length by omega)
      have := h (x, w) (List.mem_of_getElem? (i := t) (by rw [List.getElem?_take, if_pos ht]; exact z1))
      cases this
      have a := tA (hs.length - 1 - t) (by omega)
      rw [List.getD_eq_getElem?_getD, z2] at a
      have e2 : lo + ((hs.length - 1 - t : Nat) : Int) = lo + hs.length - 1 - t := by omega
      rw [e2] at a
      intro z
      have := a.mpr z
      cases this
    have all : ∀ (d : Nat) (n : Int), lo + hs.length - p ≤ n → n < lo + hs.length - p + d → ¬ A n := fun d => by
      induction d with
      | zero => intro n a b; omega
      | succ d ih =>
        intro n a b
        by_cases c : n < lo + hs.length
        · have := no (lo + hs.length - 1 - n).toNat (by omega)
          rwa [show lo + (hs.length : Int) - 1 - ((lo + hs.length - 1 - n).toNat : Int) = n by omega] at this
        · have := ih (n - p) (by omega) (by omega)
          rw [← pA (n - p) (by omega), Int.sub_add_cancel] at this
          exact this
    exact all (m - (lo + hs.length - p) + 1).toNat m (by omega) (by omega) h2
theorem tells_until {A B : Int → Prop} {lo : Int} {hs ws : List Bool} (hl : hs.length = ws.length) (tA : Tells lo hs A) (tB : Tells lo ws B) {p : Nat} (hp : 1 ≤ p) (hpl : p ≤ hs.length)
    (pA : ∀ n, lo + hs.length - p ≤ n → (A (n + p) ↔ A n)) (pB : ∀ n, lo + hs.length - p ≤ n → (B (n + p) ↔ B n)) : Tells lo (mGoing hs ws p) (UntilF A B) := fun i hi => by
  rw [going_len hl] at hi
  have g := goOn_truth0 hl tA tB hp hpl pA pB
  have lz : (hs.zip ws).reverse.length = hs.length := by rw [List.length_reverse, List.length_zip, ← hl, Nat.min_self]
  have t := goOn_truth hl tA tB g (hs.length - 1 - i) (by omega)
  rw [show lo + (hs.length : Int) - 1 - ((hs.length - 1 - i : Nat) : Int) = lo + i by omega] at t
  rw [← t]
  unfold mGoing
  rw [List.getD_eq_getElem?_getD, List.getElem?_reverse (by rw [scan_len, lz]; exact hi), scan_len, lz, scan_get _ _ _ (by rw [lz]; omega)]
  rfl
theorem tells_rev {lo : Int} {b : List Bool} {f : Int → Prop} (h : Tells lo b f) : Tells (1 - lo - b.length) b.reverse fun n => f (-n) := fun i hi => by
  rw [List.length_reverse] at hi
  have := h (b.length - 1 - i) (by omega)
  rw [rev_getD _ _ hi, this]
  rw [show lo + ((b.length - 1 - i : Nat) : Int) = -(1 - lo - b.length + i) by omega]
theorem tells_since {A B : Int → Prop} {lo : Int} {hs ws : List Bool} (hl : hs.length = ws.length) (tA : Tells lo hs A) (tB : Tells lo ws B) {p : Nat} (hp : 1 ≤ p) (hpl : p ≤ hs.length)
    (pA : ∀ n, n < lo + p → (A (n - p) ↔ A n)) (pB : ∀ n, n < lo + p → (B (n - p) ↔ B n)) : Tells lo (mGoing hs.reverse ws.reverse p).reverse (SinceF A B) := by
  have tA' := tells_rev tA
  have tB' := tells_rev tB
  rw [← hl] at tB'
  have u := tells_until (by rw [List.length_reverse, List.length_reverse, hl]) tA' tB' hp (by rw [List.length_reverse]; exact hpl)
    (fun n hn => by
      rw [List.length_reverse] at hn
      have := pA (-n) (by omega)
      rwa [show -n - (p : Int) = -(n + p) by omega] at this)
    (fun n hn => by
      rw [List.length_reverse] at hn
      have := pB (-n) (by omega)
      rwa [show -n - (p : Int) = -(n + p) by omega] at this)
  have v := tells_rev u
  have lg : (mGoing hs.reverse ws.reverse p).length = hs.length := by rw [going_len (by rw [List.length_reverse, List.length_reverse, hl]), List.length_reverse]
  intro i hi
  have := v i hi
  rw [this, lg, since_neg, show 1 - (1 - lo - (hs.length : Int)) - hs.length + i = lo + i by omega]
end Law

end

section
set_option maxHeartbeats 2000000
namespace Law
open PySem L2 PyProof.Rows RZ Pu
/-- what a line says, the truths of the ones ahead being known -/
def semOf (r : Row) (acc : List (Int → Prop)) (l : Ln) (n : Int) : Prop := match l with
  | .lt w => w ∈ lotAt r n
  | .yes => True
  | .un i => ¬ (acc.getD i fun _ => False) n
  | .bi o i j => if o = "and" then (acc.getD i fun _ => False) n ∧ (acc.getD j fun _ => False) n else if o = "or" then (acc.getD i fun _ => False) n ∨ (acc.getD j fun _ => False) n
    else if o = "until" then UntilF (acc.getD i fun _ => False) (acc.getD j fun _ => False) n else SinceF (acc.getD i fun _ => False) (acc.getD j fun _ => False) n
def semGo (r : Row) : List Ln → List (Int → Prop) → List (Int → Prop)
  | [], acc => acc
  | l :: s, acc => semGo r s (acc ++ [semOf r acc l])
/-- the truths of a sheet's lines -/
def sems (r : Row) (s : List Ln) : List (Int → Prop) := semGo r s []
/-- comes round on the right behind so many rounds, on the left ahead of so many -/
structure Per (r : Row) (u s : Int) (f : Int → Prop) : Prop where
  rt : ∀ n, r.first + r.mid.length + r.right.length * s ≤ n → (f (n + r.right.length) ↔ f n)
  lt : ∀ n, n < r.first - r.left.length * u → (f (n - r.left.length) ↔ f n)
theorem Per.mono {r : Row} {u s u' s' : Int} {f : Int → Prop} (h : Per r u s f) (hu : u ≤ u') (hs : s ≤ s') : Per r u' s' f := by
  have a := Int.mul_le_mul_of_nonneg_left hs (show (0 : Int) ≤ r.right.length by omega)
  have b := Int.mul_le_mul_of_nonneg_left hu (show (0 : Int) ≤ r.left.length by omega)
  exact ⟨fun n hn => h.rt n (by omega), fun n hn => h.lt n (by omega)⟩
theorem lotAt_right (r : Row) (n : Int) (hn : r.first + r.mid.length ≤ n) : lotAt r (n + r.right.length) = lotAt r n := by
  unfold lotAt
  rw [if_neg (by omega), if_neg (by omega), if_neg (by omega), if_neg (by omega)]
  rw [show n + (r.right.length : Int) - r.first - r.mid.length = (n - r.first - r.mid.length) + r.right.length by omega, Int.add_emod_right]
theorem lotAt_left (r : Row) (n : Int) (hn : n < r.first) : lotAt r (n - r.left.length) = lotAt r n := by
  unfold lotAt
  rw [if_pos (by omega), if_pos (by omega)]
  rw [show n - (r.left.length : Int) - r.first = (n - r.first) - r.left.length by omega, Int.sub_emod_right]
theorem Per.neg {r : Row} {u s : Int} {f : Int → Prop} (h : Per r u s f) : Per r u s fun n => ¬ f n := ⟨fun n hn => not_congr (h.rt n hn), fun n hn => not_congr (h.lt n hn)⟩
theorem Per.and {r : Row} {u s : Int} {f g : Int → Prop} (h : Per r u s f) (k : Per r u s g) : Per r u s fun n => f n ∧ g n := ⟨fun n hn => and_congr (h.rt n hn) (k.rt n hn), fun n hn => and_congr (h.lt n hn) (k.lt n hn)⟩
theorem Per.or {r : Row} {u s : Int} {f g : Int → Prop} (h : Per r u s f) (k : Per r u s g) : Per r u s fun n => f n ∨ g n := ⟨fun n hn => or_congr (h.rt n hn) (k.rt n hn), fun n hn => or_congr (h.lt n hn) (k.lt n hn)⟩
theorem Per.until {r : Row} {u s : Int} {f g : Int → Prop} (l1 : 1 ≤ r.left.length) (h : Per r u s f) (k : Per r u s g) : Per r (u + 1) s (UntilF f g) := by
  refine ⟨fun n hn => until_right h.rt k.rt n (by omega), fun n hn => until_left (by omega) h.lt k.lt n ?_⟩
  rw [Int.mul_add, Int.mul_one] at hn
  omega
theorem Per.since {r : Row} {u s : Int} {f g : Int → Prop} (r1 : 1 ≤ r.right.length) (h : Per r u s f) (k : Per r u s g) : Per r u (s + 1) (SinceF f g) := by
  refine ⟨fun n hn => since_right (by omega) h.rt k.rt n ?_, fun n hn => since_left h.lt k.lt n (by omega)⟩
  rw [Int.mul_add, Int.mul_one] at hn
  omega
/-- what is known of the lines so far -/
structure Known (r : Row) (lo : Int) (len : Nat) (U S : Int) (fs : List (Int → Prop)) (bs : List (List Bool)) (us ss : List Int) : Prop where
  l1 : bs.length = fs.length
  l2 : us.length = fs.length
  l3 : ss.length = fs.length
  len_ : ∀ b ∈ bs, b.length = len
  at_ : ∀ i : Nat, i < fs.length → Tells lo (bs.getD i []) (fs.getD i fun _ => False) ∧ Per r (us.getD i 0) (ss.getD i 0) (fs.getD i fun _ => False)
theorem getD_snoc {α : Type} (l : List α) (x d : α) (i : Nat) : (l ++ [x]).getD i d = if i < l.length then l.getD i d else if i = l.length then x else d := by
  rw [List.getD_eq_getElem?_getD, List.getElem?_append]
  split
  · rw [List.getD_eq_getElem?_getD]
  · rename_i c
    split
    · rename_i e; subst e; simp
    · rename_i e
      rw [List.getElem?_eq_none (by simp; omega)]
      rfl
theorem Known.snoc {r : Row} {lo : Int} {len : Nat} {U S : Int} {fs : List (Int → Prop)} {bs : List (List Bool)} {us ss : List Int} (h : Known r lo len U S fs bs us ss) {f : Int → Prop} {b : List Bool} {u s : Int} (hb : b.length = len) (ht : Tells lo b f) (hp : Per r u s f) :
    Known r lo len U S (fs ++ [f]) (bs ++ [b]) (us ++ [u]) (ss ++ [s]) := by
  refine ⟨by simp [h.l1], by simp [h.l2], by simp [h.l3], fun x hx => ?_, fun i hi => ?_⟩
  · rcases List.mem_append.mp hx with hx | hx
    · exact h.len_ x hx
    · rw [List.mem_singleton.mp hx]; exact hb
  · rw [List.length_append, List.length_singleton] at hi
    rw [getD_snoc, getD_snoc, getD_snoc, getD_snoc, h.l1, h.l2, h.l3]
    by_cases c : i < fs.length
    · rw [if_pos c, if_pos c, if_pos c, if_pos c]
      exact h.at_ i c
    · have e : i = fs.length := by omega
      rw [if_neg c, if_neg c, if_neg c, if_neg c, if_pos e, if_pos e, if_pos e, if_pos e]
      exact ⟨ht, hp⟩
theorem mem_le_max {xs : List Int} (x : Int) (h : x ∈ xs) : x ≤ maxI xs := (foldl_max xs 0).2.1 x h
theorem getD_mem_le (acc : List Int) (l : Ln) {i : Nat} (hi : i ∈ l.mem) : acc.getD i 0 ≤ maxI (0 :: l.mem.map fun k => acc.getD k 0) := mem_le_max _ (List.mem_cons_of_mem _ (List.mem_map.mpr ⟨i, hi, rfl⟩))
theorem getD_of {b : List Bool} {k : Nat} (h : k < b.length) : b[k]? = some (b.getD k false) := by
  rw [List.getD_eq_getElem?_getD, List.getElem?_eq_getElem h]
  rfl
theorem zip_get {a b : List Bool} {k : Nat} (ha : k < a.length) (hb : k < b.length) : (a.zip b)[k]? = some (a.getD k false, b.getD k false) := by
  rw [List.getElem?_eq_getElem (by rw [List.length_zip]; omega), List.getElem_zip]
  have ea := getD_of ha
  have eb := getD_of hb
  rw [List.getElem?_eq_getElem ha] at ea
  rw [List.getElem?_eq_getElem hb] at eb
  rw [Option.some.inj ea, Option.some.inj eb]
theorem map_getD {α : Type} {a : List α} {x : α} {f : α → Bool} {k : Nat} (h : a[k]? = some x) : (a.map f).getD k false = f x := by
  rw [List.getD_eq_getElem?_getD, List.getElem?_map, h]
  rfl
/-- one line more -/
theorem known_step {r : Row} {U S : Int} {fs : List (Int → Prop)} {bs : List (List Bool)} {us ss : List Int} {l : Ln} {lots : List (List Str)} {lo : Int} (l1 : 1 ≤ r.left.length) (r1 : 1 ≤ r.right.length)
    (hlo : lo = r.first - r.left.length * (U + 1)) (hlen : (lots.length : Int) = r.first + r.mid.length + r.right.length * (S + 1) - lo) (hlots : ∀ i : Nat, i < lots.length → lots.getD i [] = lotAt r (lo + i))
    (h : Known r lo lots.length U S fs bs us ss) (hl : ∀ i ∈ l.mem, i < fs.length) (hW : l.W) (hu : nestOf "until" us l ≤ U) (hs : nestOf "since" ss l ≤ S) (hU : 0 ≤ U) (hS : 0 ≤ S) :
    Known r lo lots.length U S (fs ++ [semOf r fs l]) (bs ++ [tabOf lots r.left.length r.right.length bs l]) (us ++ [nestOf "until" us l]) (ss ++ [nestOf "since" ss l]) := by
  have bU : (r.left.length : Int) ≤ r.left.length * (U + 1) := by
    have := Int.mul_le_mul_of_nonneg_left (show (1 : Int) ≤ U + 1 by omega) (show (0 : Int) ≤ r.left.length by omega)
    rwa [Int.mul_one] at this
  have bS : (r.right.length : Int) ≤ r.right.length * (S + 1) := by
    have := Int.mul_le_mul_of_nonneg_left (show (1 : Int) ≤ S + 1 by omega) (show (0 : Int) ≤ r.right.length by omega)
    rwa [Int.mul_one] at this
  have eU : (r.left.length : Int) * (U + 1) = r.left.length * U + r.left.length := by rw [Int.mul_add, Int.mul_one]
  have eS : (r.right.length : Int) * (S + 1) = r.right.length * S + r.right.length := by rw [Int.mul_add, Int.mul_one]
  have tacc : TAcc lots.length bs := h.len_
  have tl := tabOf_len (nl := r.left.length) (nr := r.right.length) (l := l) tacc (fun i hi => by rw [h.l1]; exact hl i hi)
  have mu : ∀ i ∈ l.mem, us.getD i 0 ≤ maxI (0 :: l.mem.map fun k => us.getD k 0) := fun i hi => getD_mem_le us l hi
  have ms : ∀ i ∈ l.mem, ss.getD i 0 ≤ maxI (0 :: l.mem.map fun k => ss.getD k 0) := fun i hi => getD_mem_le ss l hi
  have m0 : ∀ xs : List Int, 0 ≤ maxI (0 :: xs) := fun xs => (foldl_max (0 :: xs) 0).1
  suffices hh : Tells lo (tabOf lots r.left.length r.right.length bs l) (semOf r fs l) ∧ Per r (nestOf "until" us l) (nestOf "since" ss l) (semOf r fs l) from h.snoc tl hh.1 hh.2
  cases l with
  | lt w =>
    refine ⟨fun i hi => ?_, ?_⟩
    · have hi2 : i < lots.length := by rwa [tl] at hi
      show ((lots.map fun l => decide (w ∈ l)).getD i false = true ↔ w ∈ lotAt r (lo + i))
      rw [← hlots i hi2, List.getD_eq_getElem?_getD, List.getElem?_map, List.getD_eq_getElem?_getD, List.getElem?_eq_getElem hi2]
      simp
    · have p0 : Per r 0 0 (semOf r fs (.lt w)) := ⟨fun n hn => by show w ∈ lotAt r _ ↔ w ∈ lotAt r n; rw [lotAt_right r n (by omega)], fun n hn => by show w ∈ lotAt r _ ↔ w ∈ lotAt r n; rw [lotAt_left r n (by omega)]⟩
      refine p0.mono ?_ ?_
      · unfold nestOf; have := m0 ((Ln.lt w).mem.map fun k => us.getD k 0); split <;> omega
      · unfold nestOf; have := m0 ((Ln.lt w).mem.map fun k => ss.getD k 0); split <;> omega
  | yes =>
    refine ⟨fun i hi => ?_, ?_⟩
    · have hi2 : i < lots.length := by rwa [tl] at hi
      show ((lots.map fun _ => true).getD i false = true ↔ True)
      rw [List.getD_eq_getElem?_getD, List.getElem?_map, List.getElem?_eq_getElem hi2]
      simp
    · have p0 : Per r 0 0 (semOf r fs .yes) := ⟨fun n hn => Iff.rfl, fun n hn => Iff.rfl⟩
      refine p0.mono ?_ ?_
      · unfold nestOf; have := m0 (Ln.yes.mem.map fun k => us.getD k 0); split <;> omega
      · unfold nestOf; have := m0 (Ln.yes.mem.map fun k => ss.getD k 0); split <;> omega
  | un i =>
    have hi := hl i (by simp [Ln.mem])
    obtain ⟨ti, pi⟩ := h.at_ i hi
    have bl := (getD_len tacc (show i < bs.length by rw [h.l1]; exact hi)).1
    refine ⟨fun k hk => ?_, ?_⟩
    · have hk2 : k < lots.length := by rwa [tl] at hk
      show (((bs.getD i []).map (!·)).getD k false = true ↔ ¬ (fs.getD i fun _ => False) (lo + k))
      rw [← ti k (by rw [bl]; exact hk2), map_getD (getD_of (by rw [bl]; exact hk2))]
      simp
    · refine (pi.neg).mono ?_ ?_
      · have := mu i (by simp [Ln.mem]); unfold nestOf; split <;> omega
      · have := ms i (by simp [Ln.mem]); unfold nestOf; split <;> omega
  | bi o i j =>
    have hi := hl i (by simp [Ln.mem])
    have hj := hl j (by simp [Ln.mem])
    obtain ⟨ti, pi⟩ := h.at_ i hi
    obtain ⟨tj, pj⟩ := h.at_ j hj
    have bi := (getD_len tacc (show i < bs.length by rw [h.l1]; exact hi)).1
    have bj := (getD_len tacc (show j < bs.length by rw [h.l1]; exact hj)).1
    have ui := mu i (by simp [Ln.mem])
    have uj := mu j (by simp [Ln.mem])
    have si := ms i (by simp [Ln.mem])
    have sj := ms j (by simp [Ln.mem])
    obtain ⟨mU, eMU⟩ : ∃ m, m = maxI (0 :: (Ln.bi o i j).mem.map fun k => us.getD k 0) := ⟨_, rfl⟩
    obtain ⟨mS, eMS⟩ : ∃ m, m = maxI (0 :: (Ln.bi o i j).mem.map fun k => ss.getD k 0) := ⟨_, rfl⟩
    rw [← eMU] at ui uj
    rw [← eMS] at si sj
    have nU : nestOf "until" us (.bi o i j) = mU + if o = "until" then 1 else 0 := by rw [eMU]; rfl
    have nS : nestOf "since" ss (.bi o i j) = mS + if o = "since" then 1 else 0 := by rw [eMS]; rfl
    rw [nU] at hu ⊢
    rw [nS] at hs ⊢
    have pi := pi.mono ui si
    have pj := pj.mono uj sj
    have zips : ∀ (k : Nat), k < lots.length → ((bs.getD i []).zip (bs.getD j []))[k]? = some ((bs.getD i []).getD k false, (bs.getD j []).getD k false) := fun k hk =>
      zip_get (by rw [bi]; exact hk) (by rw [bj]; exact hk)
    have hW : o ∈ ops := hW
    simp only [ops, List.mem_cons, List.not_mem_nil, or_false] at hW
    rcases hW with rfl | rfl | rfl | rfl
    · rw [if_neg (by decide +kernel), if_neg (by decide +kernel), Int.add_zero, Int.add_zero]
      refine ⟨fun k hk => ?_, ?_⟩
      · have hk2 : k < lots.length := by rwa [tl] at hk
        simp only [tabOf, semOf, if_pos]
        rw [← ti k (by rw [bi]; exact hk2), ← tj k (by rw [bj]; exact hk2), map_getD (zips k hk2)]
        simp
      · have e : semOf r fs (.bi "and" i j) = fun n => (fs.getD i fun _ => False) n ∧ (fs.getD j fun _ => False) n := by funext n; simp [semOf]
        rw [e]; exact pi.and pj
    · rw [if_neg (by decide +kernel), if_neg (by decide +kernel), Int.add_zero, Int.add_zero]
      have e : semOf r fs (.bi "or" i j) = fun n => (fs.getD i fun _ => False) n ∨ (fs.getD j fun _ => False) n := by funext n; simp only [semOf]; rw [if_neg (by decide +kernel), if_pos trivial]
      refine ⟨fun k hk => ?_, by rw [e]; exact pi.or pj⟩
      have hk2 : k < lots.length := by rwa [tl] at hk
      rw [e]
      simp only [tabOf]
      rw [if_neg (by decide +kernel), if_pos trivial, ← ti k (by rw [bi]; exact hk2), ← tj k (by rw [bj]; exact hk2), map_getD (zips k hk2)]
      simp
    · rw [if_pos rfl] at hu ⊢
      rw [if_neg (by decide +kernel), Int.add_zero] at hs ⊢
      have e : semOf r fs (.bi "until" i j) = UntilF (fs.getD i fun _ => False) (fs.getD j fun _ => False) := by funext n; simp only [semOf]; rw [if_neg (by decide +kernel), if_neg (by decide +kernel), if_pos trivial]
      have et : tabOf lots r.left.length r.right.length bs (.bi "until" i j) = mGoing (bs.getD i []) (bs.getD j []) r.right.length := by simp only [tabOf]; rw [if_neg (by decide +kernel), if_neg (by decide +kernel), if_pos trivial]
      rw [e, et]
      have pS := Int.mul_le_mul_of_nonneg_left hs (show (0 : Int) ≤ r.right.length by omega)
      refine ⟨tells_until (bi.trans bj.symm) ti tj r1 (by rw [bi]; omega) (fun n hn => pi.rt n (by rw [bi] at hn; omega)) (fun n hn => pj.rt n (by rw [bi] at hn; omega)), Per.until l1 pi pj⟩
    · rw [if_neg (by decide +kernel), Int.add_zero] at hu ⊢
      rw [if_pos rfl] at hs ⊢
      have e : semOf r fs (.bi "since" i j) = SinceF (fs.getD i fun _ => False) (fs.getD j fun _ => False) := by funext n; simp only [semOf]; rw [if_neg (by decide +kernel), if_neg (by decide +kernel), if_neg (by decide +kernel)]
      have et : tabOf lots r.left.length r.right.length bs (.bi "since" i j) = (mGoing (bs.getD i []).reverse (bs.getD j []).reverse r.left.length).reverse := by simp only [tabOf]; rw [if_neg (by decide +kernel), if_neg (by decide +kernel), if_neg (by decide +kernel)]
      rw [e, et]
      have pU := Int.mul_le_mul_of_nonneg_left hu (show (0 : Int) ≤ r.left.length by omega)
      refine ⟨tells_since (bi.trans bj.symm) ti tj l1 (by rw [bi]; omega) (fun n hn => pi.lt n (by omega)) (fun n hn => pj.lt n (by omega)), Per.since r1 pi pj⟩
end Law

end

section
set_option maxHeartbeats 2000000
namespace Law
open PySem L2 PyProof.Rows RZ Pu
theorem nestGo_mem (w : Str) : ∀ (s : List Ln) (acc : List Int), ∀ x ∈ acc, x ∈ nestGo w s acc
  | [], _, _, h => h
  | l :: s, acc, x, h => nestGo_mem w s (acc ++ [nestOf w acc l]) x (List.mem_append_left _ h)
theorem semGo_len (r : Row) : ∀ (s : List Ln) (acc : List (Int → Prop)), (semGo r s acc).length = acc.length + s.length
  | [], acc => rfl
  | l :: s, acc => by
    show (semGo r s (acc ++ [semOf r acc l])).length = _
    rw [semGo_len r s, List.length_append, List.length_singleton, List.length_cons]; omega
/-- the law's tables tell the truths, line by line -/
theorem known_go {r : Row} {U S : Int} {lots : List (List Str)} {lo : Int} (l1 : 1 ≤ r.left.length) (r1 : 1 ≤ r.right.length)
    (hlo : lo = r.first - r.left.length * (U + 1)) (hlen : (lots.length : Int) = r.first + r.mid.length + r.right.length * (S + 1) - lo) (hlots : ∀ i : Nat, i < lots.length → lots.getD i [] = lotAt r (lo + i)) (hU : 0 ≤ U) (hS : 0 ≤ S) :
    ∀ (s : List Ln) (fs : List (Int → Prop)) (bs : List (List Bool)) (us ss : List Int), Known r lo lots.length U S fs bs us ss → (∀ (k : Nat) (l : Ln), s[k]? = some l → l.W ∧ ∀ i ∈ l.mem, i < fs.length + k) →
      (∀ x ∈ nestGo "until" s us, x ≤ U) → (∀ x ∈ nestGo "since" s ss, x ≤ S) → Known r lo lots.length U S (semGo r s fs) (tabGo lots r.left.length r.right.length s bs) (nestGo "until" s us) (nestGo "since" s ss)
  | [], _, _, _, _, h, _, _, _ => h
  | l :: s, fs, bs, us, ss, h, ok, hu, hs => by
    have h0 := ok 0 l rfl
    refine known_go l1 r1 hlo hlen hlots hU hS s _ _ _ _ (known_step l1 r1 hlo hlen hlots h (fun i hi => by simpa using h0.2 i hi) h0.1 (hu _ (nestGo_mem _ s _ _ (List.mem_append_right _ (List.mem_singleton_self _)))) (hs _ (nestGo_mem _ s _ _ (List.mem_append_right _ (List.mem_singleton_self _)))) hU hS) (fun k m hk => ?_) hu hs
    have := ok (k + 1) m hk
    refine ⟨this.1, fun i hi => ?_⟩
    have := this.2 i hi
    rw [List.length_append, List.length_singleton]
    omega
theorem range_get (r : Row) (lo hi : Int) {i : Nat} (h : i < ((rangeI lo hi).map (lotAt r)).length) : ((rangeI lo hi).map (lotAt r)).getD i [] = lotAt r (lo + i) := by
  unfold rangeI at h ⊢
  rw [List.length_map, List.length_map, List.length_range] at h
  rw [List.getD_eq_getElem?_getD, List.getElem?_map, List.getElem?_map, List.getElem?_range h]
  rfl
theorem left_rounds {f : Int → Prop} {B : Int} {L : Nat} (h : ∀ n, n < B → (f (n - L) ↔ f n)) : ∀ (k : Nat) (m : Int), m < B → (f (m - L * k) ↔ f m)
  | 0, m, _ => by rw [show m - (L : Int) * ((0 : Nat) : Int) = m by rw [Int.natCast_zero, Int.mul_zero, Int.sub_zero]]
  | k + 1, m, hm => by
    have a := left_rounds h k m hm
    have : 0 ≤ (L : Int) * (k : Int) := Int.mul_nonneg (by omega) (by omega)
    have b := h (m - L * k) (by omega)
    rw [show m - (L : Int) * ((k + 1 : Nat) : Int) = m - L * k - L by rw [Int.natCast_add, Int.mul_add, Int.natCast_one, Int.mul_one]; omega]
    exact b.trans a
theorem right_rounds {f : Int → Prop} {A : Int} {R : Nat} (h : ∀ n, A ≤ n → (f (n + R) ↔ f n)) : ∀ (k : Nat) (m : Int), A ≤ m → (f (m + R * k) ↔ f m)
  | 0, m, _ => by rw [show m + (R : Int) * ((0 : Nat) : Int) = m by rw [Int.natCast_zero, Int.mul_zero, Int.add_zero]]
  | k + 1, m, hm => by
    have a := right_rounds h k m hm
    have : 0 ≤ (R : Int) * (k : Int) := Int.mul_nonneg (by omega) (by omega)
    have b := h (m + R * k) (by omega)
    rw [show m + (R : Int) * ((k + 1 : Nat) : Int) = m + R * k + R by rw [Int.natCast_add, Int.mul_add, Int.natCast_one, Int.mul_one]; omega]
    exact b.trans a
/-- where the law looks, the truth is that of the moment -/
theorem where_sem {r : Row} {t : Tab} {f : Int → Prop} {A B : Int} (l1 : 1 ≤ r.left.length) (r1 : 1 ≤ r.right.length) (h1 : t.start + r.left.length ≤ t.stop) (hB : t.start + r.left.length ≤ B) (hA : A ≤ t.stop - r.right.length)
    (hl : ∀ n, n < B → (f (n - r.left.length) ↔ f n)) (hr : ∀ n, A ≤ n → (f (n + r.right.length) ↔ f n)) (n : Int) : f (t.start + whereT t r n) ↔ f n := by
  unfold whereT
  dsimp only
  obtain ⟨a1, a2⟩ := mod_lt' (n - t.start) l1
  obtain ⟨b1, b2⟩ := mod_lt' (n - t.stop) r1
  by_cases c1 : n < t.start
  · rw [if_pos c1, if_neg (by omega)]
    have e := Int.mul_ediv_add_emod (n - t.start) (r.left.length : Int)
    have q : (n - t.start) / (r.left.length : Int) ≤ 0 := by
      have : (n - t.start) / (r.left.length : Int) < 0 := Int.ediv_neg_of_neg_of_pos (by omega) (by omega)
      omega
    obtain ⟨k, hk⟩ : ∃ k : Nat, (n - t.start) / (r.left.length : Int) = -(k : Int) := ⟨((n - t.start) / (r.left.length : Int)).natAbs, by omega⟩
    rw [hk] at e
    have := left_rounds hl k (t.start + (n - t.start) % (r.left.length : Int)) (by omega)
    rw [Int.mul_neg] at e
    rw [show t.start + (n - t.start) % (r.left.length : Int) - (r.left.length : Int) * k = n by omega] at this
    rw [show t.start + (t.start + (n - t.start) % (r.left.length : Int) - t.start) = t.start + (n - t.start) % (r.left.length : Int) by omega]
    exact this.symm
  · rw [if_neg c1]
    by_cases c2 : n ≥ t.stop
    · rw [if_pos c2]
      have e := Int.mul_ediv_add_emod (n - t.stop) (r.right.length : Int)
      have q : 0 ≤ (n - t.stop) / (r.right.length : Int) := Int.ediv_nonneg (by omega) (by omega)
      obtain ⟨k, hk⟩ : ∃ k : Nat, (n - t.stop) / (r.right.length : Int) = (k : Int) := ⟨((n - t.stop) / (r.right.length : Int)).toNat, by omega⟩
      rw [hk] at e
      have := right_rounds hr (k + 1) (t.stop - r.right.length + (n - t.stop) % (r.right.length : Int)) (by omega)
      rw [Int.natCast_add, Int.mul_add, Int.natCast_one, Int.mul_one] at this
      rw [show t.stop - (r.right.length : Int) + (n - t.stop) % (r.right.length : Int) + ((r.right.length : Int) * k + r.right.length) = n by omega] at this
      rw [show t.start + (t.stop - (r.right.length : Int) + (n - t.stop) % (r.right.length : Int) - t.start) = t.stop - (r.right.length : Int) + (n - t.stop) % (r.right.length : Int) by omega]
      exact this.symm
    · rw [if_neg c2, show t.start + (n - t.start) = n by omega]
theorem known_nil (r : Row) (lo : Int) (len : Nat) (U S : Int) : Known r lo len U S [] [] [] [] := ⟨rfl, rfl, rfl, fun b hb => (List.not_mem_nil hb).elim, fun i hi => absurd hi (Nat.not_lt_zero i)⟩
/-- the law's truths are the truths -/
theorem truth_sem {s : List Ln} {r : Row} (ok : SOk s) (l1 : 1 ≤ r.left.length) (r1 : 1 ≤ r.right.length) (n : Int) {i : Nat} (hi : i < s.length) :
    (((mTab s r).found.getD i []).getD (whereT (mTab s r) r n).toNat false = true ↔ ((sems r s).getD i fun _ => False) n) := by
  obtain ⟨nu1, nu2⟩ := nests_b "until" s
  obtain ⟨ns1, ns2⟩ := nests_b "since" s
  obtain ⟨h1, h2, h3, h4⟩ := mTab_ok ok l1 r1
  have ll : ((rangeI (tStart s r) (tStop s r)).map (lotAt r)).length = (tStop s r - tStart s r).toNat := by unfold rangeI; rw [List.length_map, List.length_map, List.length_range]
  have K := known_go (r := r) (U := mNests "until" s) (S := mNests "since" s) (lots := (rangeI (tStart s r) (tStop s r)).map (lotAt r)) (lo := tStart s r) l1 r1 rfl (by rw [ll, Int.toNat_of_nonneg (by omega)]; rfl) (fun i h => range_get r _ _ h) nu1 ns1 s [] [] [] [] (known_nil _ _ _ _ _)
    (fun k l hk => ⟨(ok.ok k l hk).1, fun i hi => by simpa using (ok.ok k l hk).2.1 i hi⟩) (fun x hx => mem_le_max x hx) (fun x hx => mem_le_max x hx)
  have sl : (semGo r s []).length = s.length := by rw [semGo_len, List.length_nil, Nat.zero_add]
  obtain ⟨ht, hp⟩ := K.at_ i (by rw [sl]; exact hi)
  obtain ⟨_, w2, w3⟩ := where_mir (t := mTab s r) l1 r1 h1 h2 n (f := [])
  have w3 : whereT (mTab s r) r n < tStop s r - tStart s r := w3
  have ul : (nestGo "until" s []).getD i 0 ≤ mNests "until" s := mem_le_max _ (by
    rw [List.getD_eq_getElem?_getD, List.getElem?_eq_getElem (by rw [K.l2, sl]; exact hi)]; exact List.getElem_mem _)
  have su : (nestGo "since" s []).getD i 0 ≤ mNests "since" s := mem_le_max _ (by
    rw [List.getD_eq_getElem?_getD, List.getElem?_eq_getElem (by rw [K.l3, sl]; exact hi)]; exact List.getElem_mem _)
  have hp := hp.mono ul su
  have bl := (getD_len (show TAcc _ (mTab s r).found from h3) (show i < (mTab s r).found.length by rw [h4]; exact hi)).1
  have := ht (whereT (mTab s r) r n).toNat (by
    show _ < ((mTab s r).found.getD i []).length
    rw [bl]; omega)
  rw [Int.toNat_of_nonneg w2] at this
  refine this.trans ?_
  have bU : (r.left.length : Int) * (mNests "until" s + 1) = r.left.length * mNests "until" s + r.left.length := by rw [Int.mul_add, Int.mul_one]
  have bS : (r.right.length : Int) * (mNests "since" s + 1) = r.right.length * mNests "since" s + r.right.length := by rw [Int.mul_add, Int.mul_one]
  refine where_sem (t := mTab s r) (A := r.first + r.mid.length + r.right.length * mNests "since" s) (B := r.first - r.left.length * mNests "until" s) l1 r1 h1 ?_ ?_ hp.lt hp.rt n
  · show tStart s r + _ ≤ _
    unfold tStart
    omega
  · show _ ≤ tStop s r - _
    unfold tStop
    omega
end Law

end

section
set_option maxHeartbeats 2000000
namespace Law
open PySem L2 PyProof.Rows RZ Pu
/-! ### truths of lines, by their members: the equations, and when two lines say the same -/
abbrev semAt (r : Row) (s : List Ln) (i : Nat) : Int → Prop := (sems r s).getD i fun _ => False
theorem semOf_congr {r : Row} {a b : List (Int → Prop)} {l : Ln} (h : ∀ i ∈ l.mem, a.getD i (fun _ => False) = b.getD i fun _ => False) : semOf r a l = semOf r b l := by
  funext n
  cases l with
  | lt w => rfl
  | yes => rfl
  | un i => show (¬ _) = (¬ _); rw [h i (by simp [Ln.mem])]
  | bi o i j =>
    show (if o = "and" then _ else _) = (if o = "and" then _ else _)
    rw [h i (by simp [Ln.mem]), h j (by simp [Ln.mem])]
theorem semGo_pre (r : Row) : ∀ (s : List Ln) (acc : List (Int → Prop)) (i : Nat), i < acc.length → (semGo r s acc).getD i (fun _ => False) = acc.getD i fun _ => False
  | [], _, _, _ => rfl
  | l :: s, acc, i, hi => by
    show (semGo r s (acc ++ [semOf r acc l])).getD i _ = _
    rw [semGo_pre r s _ i (by rw [List.length_append]; omega), getD_snoc, if_pos hi]
theorem semGo_at (r : Row) : ∀ (s : List Ln) (acc : List (Int → Prop)) (k : Nat) (l : Ln), s[k]? = some l → (∀ i ∈ l.mem, i < acc.length + k) → (semGo r s acc).getD (acc.length + k) (fun _ => False) = semOf r (semGo r s acc) l
  | [], _, _, _, h, _ => by cases h
  | m :: s, acc, 0, l, h, hm => by
    cases h
    show (semGo r s (acc ++ [semOf r acc m])).getD acc.length _ = semOf r (semGo r s (acc ++ [semOf r acc m])) m
    rw [semGo_pre r s _ _ (by rw [List.length_append, List.length_singleton]; omega), getD_snoc, if_neg (by omega), if_pos rfl]
    refine semOf_congr fun i hi => ?_
    have := hm i hi
    rw [semGo_pre r s _ _ (by rw [List.length_append, List.length_singleton]; omega), getD_snoc, if_pos (by omega)]
  | m :: s, acc, k + 1, l, h, hm => by
    have e : acc.length + (k + 1) = (acc ++ [semOf r acc m]).length + k := by rw [List.length_append, List.length_singleton]; omega
    show (semGo r s (acc ++ [semOf r acc m])).getD _ _ = semOf r (semGo r s (acc ++ [semOf r acc m])) l
    rw [e]
    exact semGo_at r s _ k l h fun i hi => by rw [← e]; exact hm i hi
/-- what a line says is what it says by its members -/
theorem sems_eq {r : Row} {s : List Ln} {k : Nat} {l : Ln} (h : s[k]? = some l) (hm : ∀ i ∈ l.mem, i < k) : semAt r s k = semOf r (sems r s) l := by
  have := semGo_at r s [] k l h (fun i hi => by simpa using hm i hi)
  rwa [List.length_nil, Nat.zero_add] at this
theorem sems_lt {r : Row} {s : List Ln} {k : Nat} {w : Str} (h : s[k]? = some (.lt w)) (n : Int) : semAt r s k n ↔ w ∈ lotAt r n := by
  rw [sems_eq h (fun i hi => by simp [Ln.mem] at hi)]; rfl
theorem sems_yes {r : Row} {s : List Ln} {k : Nat} (h : s[k]? = some .yes) (n : Int) : semAt r s k n := by
  rw [sems_eq h (fun i hi => by simp [Ln.mem] at hi)]; trivial
theorem sems_un {r : Row} {s : List Ln} {k i : Nat} (h : s[k]? = some (.un i)) (hi : i < k) (n : Int) : semAt r s k n ↔ ¬ semAt r s i n := by
  rw [sems_eq h (fun j hj => by simp [Ln.mem] at hj; omega)]; rfl
theorem sems_and {r : Row} {s : List Ln} {k i j : Nat} (h : s[k]? = some (.bi "and" i j)) (hi : i < k) (hj : j < k) (n : Int) : semAt r s k n ↔ semAt r s i n ∧ semAt r s j n := by
  rw [sems_eq h (fun a ha => by simp [Ln.mem] at ha; omega)]; rfl
theorem sems_or {r : Row} {s : List Ln} {k i j : Nat} (h : s[k]? = some (.bi "or" i j)) (hi : i < k) (hj : j < k) (n : Int) : semAt r s k n ↔ semAt r s i n ∨ semAt r s j n := by
  rw [sems_eq h (fun a ha => by simp [Ln.mem] at ha; omega)]
  simp only [semOf]; rw [if_neg (by decide +kernel), if_pos trivial]
theorem sems_until {r : Row} {s : List Ln} {k i j : Nat} (h : s[k]? = some (.bi "until" i j)) (hi : i < k) (hj : j < k) (n : Int) : semAt r s k n ↔ UntilF (semAt r s i) (semAt r s j) n := by
  rw [sems_eq h (fun a ha => by simp [Ln.mem] at ha; omega)]
  simp only [semOf]; rw [if_neg (by decide +kernel), if_neg (by decide +kernel), if_pos trivial]
theorem sems_since {r : Row} {s : List Ln} {k i j : Nat} (h : s[k]? = some (.bi "since" i j)) (hi : i < k) (hj : j < k) (n : Int) : semAt r s k n ↔ SinceF (semAt r s i) (semAt r s j) n := by
  rw [sems_eq h (fun a ha => by simp [Ln.mem] at ha; omega)]
  simp only [semOf]; rw [if_neg (by decide +kernel), if_neg (by decide +kernel), if_neg (by decide +kernel)]
theorem until_congr {A B A' B' : Int → Prop} {d : Int} (hA : ∀ n, A n ↔ A' (n + d)) (hB : ∀ n, B n ↔ B' (n + d)) (n : Int) : UntilF A B n ↔ UntilF A' B' (n + d) := by
  constructor
  · rintro ⟨m, h1, h2, h3⟩
    refine ⟨m + d, by omega, (hA m).mp h2, fun k a b => ?_⟩
    have := (hB (k - d)).mp (h3 (k - d) (by omega) (by omega))
    rwa [Int.sub_add_cancel] at this
  · rintro ⟨m, h1, h2, h3⟩
    refine ⟨m - d, by omega, (hA (m - d)).mpr (by rwa [Int.sub_add_cancel]), fun k a b => (hB k).mpr (h3 (k + d) (by omega) (by omega))⟩
theorem since_congr {A B A' B' : Int → Prop} {d : Int} (hA : ∀ n, A n ↔ A' (n + d)) (hB : ∀ n, B n ↔ B' (n + d)) (n : Int) : SinceF A B n ↔ SinceF A' B' (n + d) := by
  constructor
  · rintro ⟨m, h1, h2, h3⟩
    refine ⟨m + d, by omega, (hA m).mp h2, fun k a b => ?_⟩
    have := (hB (k - d)).mp (h3 (k - d) (by omega) (by omega))
    rwa [Int.sub_add_cancel] at this
  · rintro ⟨m, h1, h2, h3⟩
    refine ⟨m - d, by omega, (hA (m - d)).mpr (by rwa [Int.sub_add_cancel]), fun k a b => (hB k).mpr (h3 (k + d) (by omega) (by omega))⟩
/-- two lines are alike, their members being so -/
def LnLike (R : Nat → Nat → Prop) : Ln → Ln → Prop
  | .lt v, .lt w => v = w
  | .yes, .yes => True
  | .un i, .un j => R i j
  | .bi o i j, .bi p a b => o = p ∧ R i a ∧ R j b
  | _, _ => False
/-- lines that are alike all the way down say the same: in rows that tell the same lots, d later -/
theorem sems_like {r r' : Row} {s t : List Ln} {R : Nat → Nat → Prop} {d : Int} (os : ∀ (k : Nat) (l : Ln), s[k]? = some l → l.W ∧ ∀ i ∈ l.mem, i < k) (ot : ∀ (k : Nat) (l : Ln), t[k]? = some l → l.W ∧ ∀ i ∈ l.mem, i < k)
    (hr : ∀ n w, w ∈ lotAt r n ↔ w ∈ lotAt r' (n + d)) (hR : ∀ i j, R i j → ∃ l m, s[i]? = some l ∧ t[j]? = some m ∧ LnLike R l m) : ∀ (i j : Nat), R i j → ∀ n, semAt r s i n ↔ semAt r' t j (n + d) := by
  intro i
  induction i using Nat.strongRecOn with
  | ind i ih =>
    intro j h n
    obtain ⟨l, m, hl, hm, e⟩ := hR i j h
    obtain ⟨w1, o1⟩ := os i l hl
    obtain ⟨w2, o2⟩ := ot j m hm
    match l, m, e with
    | .lt v, .lt w, e => rw [sems_lt hl, sems_lt hm, show v = w from e]; exact hr n w
    | .yes, .yes, _ => exact iff_of_true (sems_yes hl n) (sems_yes hm _)
    | .un a, .un b, e =>
      rw [sems_un hl (o1 a (by simp [Ln.mem])), sems_un hm (o2 b (by simp [Ln.mem]))]
      exact not_congr (ih a (o1 a (by simp [Ln.mem])) b e n)
    | .bi o a b, .bi p a' b', e =>
      obtain ⟨rfl, e1, e2⟩ := e
      have oa := o1 a (by simp [Ln.mem])
      have ob := o1 b (by simp [Ln.mem])
      have oa' := o2 a' (by simp [Ln.mem])
      have ob' := o2 b' (by simp [Ln.mem])
      have w1 : o ∈ ops := w1
      simp only [ops, List.mem_cons, List.not_mem_nil, or_false] at w1
      rcases w1 with rfl | rfl | rfl | rfl
      · rw [sems_and hl oa ob, sems_and hm oa' ob']; exact and_congr (ih a oa a' e1 n) (ih b ob b' e2 n)
      · rw [sems_or hl oa ob, sems_or hm oa' ob']; exact or_congr (ih a oa a' e1 n) (ih b ob b' e2 n)
      · rw [sems_until hl oa ob, sems_until hm oa' ob']; exact until_congr (ih a oa a' e1) (ih b ob b' e2) n
      · rw [sems_since hl oa ob, sems_since hm oa' ob']; exact since_congr (ih a oa a' e1) (ih b ob b' e2) n
end Law

end

section
set_option maxHeartbeats 2000000
namespace Law
open PySem L2 PyProof.Rows RZ Pu
/-! ### sheets put together, told otherwise, mirrored -/
abbrev Low (s : List Ln) : Prop := ∀ (k : Nat) (l : Ln), s[k]? = some l → l.W ∧ ∀ i ∈ l.mem, i < k
theorem SOk.low {s : List Ln} (ok : SOk s) : Low s := fun k l h => ⟨(ok.ok k l h).1, (ok.ok k l h).2.1⟩
theorem shift_W {l : Ln} (h : l.W) (n : Nat) : (l.shift n).W := by cases l <;> exact h
theorem shift_mem {l : Ln} {n i : Nat} (h : i ∈ (l.shift n).mem) : ∃ j ∈ l.mem, i = j + n := by
  cases l with
  | lt w => simp [Ln.shift, Ln.mem] at h
  | yes => simp [Ln.shift, Ln.mem] at h
  | un a => simp only [Ln.shift, Ln.mem, List.mem_singleton] at h; exact ⟨a, by simp [Ln.mem], h⟩
  | bi o a b =>
    simp only [Ln.shift, Ln.mem, List.mem_cons, List.not_mem_nil, or_false] at h
    rcases h with h | h
    · exact ⟨a, by simp [Ln.mem], h⟩
    · exact ⟨b, by simp [Ln.mem], h⟩
theorem low_shift {s t : List Ln} (os : Low s) (ot : Low t) : Low (s ++ t.map (·.shift s.length)) := fun k l h => by
  by_cases c : k < s.length
  · rw [List.getElem?_append_left c] at h; exact os k l h
  · rw [List.getElem?_append_right (by omega), List.getElem?_map, Option.map_eq_some_iff] at h
    obtain ⟨m, hm, rfl⟩ := h
    refine ⟨shift_W (ot _ m hm).1 _, fun i hi => ?_⟩
    obtain ⟨j, hj, rfl⟩ := shift_mem hi
    have := (ot _ m hm).2 j hj
    omega
theorem low_snoc {s : List Ln} {l : Ln} (os : Low s) (hl : l.W ∧ ∀ i ∈ l.mem, i < s.length) : Low (s ++ [l]) := fun k m h => by
  by_cases c : k < s.length
  · rw [List.getElem?_append_left c] at h; exact os k m h
  · rw [List.getElem?_append_right (by omega)] at h
    have : k - s.length = 0 := by
      have := (List.getElem?_eq_some_iff.mp h).1
      rw [List.length_singleton] at this; omega
    rw [this] at h
    cases h
    exact ⟨hl.1, fun i hi => by have := hl.2 i hi; omega⟩
theorem put_low {o : Str} {s t : List Ln} (ho : o ∈ ops) (os : Low s) (ot : Low t) (hs : s ≠ []) (ht : t ≠ []) : Low (mPut o s t) := by
  have a := List.length_pos_iff.mpr hs
  have b := List.length_pos_iff.mpr ht
  refine low_snoc (low_shift os ot) ⟨ho, fun i hi => ?_⟩
  simp only [Ln.mem, List.mem_cons, List.not_mem_nil, or_false] at hi
  rw [List.length_append, List.length_map]
  omega
theorem put_top {o : Str} {s t : List Ln} : (mPut o s t)[s.length + t.length]? = some (.bi o (s.length - 1) (s.length + t.length - 1)) := by
  unfold mPut
  rw [List.getElem?_append_right (by rw [List.length_append, List.length_map]; omega), List.length_append, List.length_map, Nat.sub_self]
  rfl
end Law

end

section
set_option maxHeartbeats 2000000
namespace Law
open PySem L2 PyProof.Rows RZ Pu
/-! ### the part of a sheet for a line -/
def Ln.ren (f : Nat → Nat) : Ln → Ln
  | .lt w => .lt w
  | .yes => .yes
  | .un i => .un (f i)
  | .bi o i j => .bi o (f i) (f j)
/-- the needed lines, gathered from a line down -/
def needGo (s : List Ln) : Nat → List Nat → List Nat
  | 0, need => need
  | k + 1, need => needGo s k (need ++ (s.getD k .yes).mem.filter fun n => decide (k ∈ need) && !decide (n ∈ need))
def mNeed (s : List Ln) (k : Nat) : List Nat := needGo s (k + 1) [k]
theorem needGo_sub (s : List Ln) : ∀ (k : Nat) (need : List Nat), ∀ x ∈ need, x ∈ needGo s k need
  | 0, _, _, h => h
  | k + 1, need, x, h => needGo_sub s k _ x (List.mem_append_left _ h)
theorem getD_at {s : List Ln} {k : Nat} {l : Ln} (h : s[k]? = some l) : s.getD k .yes = l := by rw [List.getD_eq_getElem?_getD, h]; rfl
/-- what comes in later is lower -/
theorem needGo_low {s : List Ln} (os : Low s) : ∀ (k : Nat) (need : List Nat), k ≤ s.length → ∀ x ∈ needGo s k need, x ∈ need ∨ x < k
  | 0, _, _, x, h => .inl h
  | k + 1, need, hk, x, h => by
    rcases needGo_low os k _ (by omega) x h with h | h
    · rcases List.mem_append.mp h with h | h
      · exact .inl h
      · obtain ⟨l, hl⟩ : ∃ l, s[k]? = some l := ⟨_, List.getElem?_eq_getElem (by omega)⟩
        rw [getD_at hl] at h
        have := (os k l hl).2 x (List.mem_filter.mp h).1
        exact .inr (by omega)
    · exact .inr (by omega)
/-- the members of a needed line are needed -/
theorem needGo_closed {s : List Ln} (os : Low s) : ∀ (k : Nat) (need : List Nat), k ≤ s.length → (∀ x ∈ need, k ≤ x → ∀ l, s[x]? = some l → ∀ n ∈ l.mem, n ∈ need) → ∀ x ∈ needGo s k need, ∀ l, s[x]? = some l → ∀ n ∈ l.mem, n ∈ needGo s k need
  | 0, need, _, h, x, hx, l, hl, n, hn => h x hx (Nat.zero_le _) l hl n hn
  | k + 1, need, hk, h, x, hx, l, hl, n, hn => by
    refine needGo_closed os k _ (by omega) (fun y hy hky m hm i hi => ?_) x hx l hl n hn
    obtain ⟨lk, hlk⟩ : ∃ l, s[k]? = some l := ⟨_, List.getElem?_eq_getElem (by omega)⟩
    rw [getD_at hlk] at hy ⊢
    have yn : y ∈ need := by
      rcases List.mem_append.mp hy with hy | hy
      · exact hy
      · have := (os k lk hlk).2 y (List.mem_filter.mp hy).1
        omega
    by_cases c : y = k
    · subst c
      rw [hlk] at hm
      cases hm
      by_cases d : i ∈ need
      · exact List.mem_append_left _ d
      · refine List.mem_append_right _ (List.mem_filter.mpr ⟨hi, ?_⟩)
        rw [decide_eq_true yn, decide_eq_false d]; rfl
    · exact List.mem_append_left _ (h y yn (by omega) m hm i hi)
theorem mNeed_self (s : List Ln) (k : Nat) : k ∈ mNeed s k := needGo_sub s _ _ k (List.mem_singleton_self k)
theorem mNeed_le {s : List Ln} (os : Low s) {k : Nat} (hk : k < s.length) : ∀ x ∈ mNeed s k, x ≤ k := fun x hx => by
  rcases needGo_low os (k + 1) [k] (by omega) x hx with h | h
  · rw [List.mem_singleton.mp h]; exact Nat.le_refl _
  · omega
theorem mNeed_closed {s : List Ln} (os : Low s) {k : Nat} (hk : k < s.length) : ∀ x ∈ mNeed s k, ∀ l, s[x]? = some l → ∀ n ∈ l.mem, n ∈ mNeed s k :=
  needGo_closed os (k + 1) [k] (by omega) fun x hx hle l hl n hn => by rw [List.mem_singleton.mp hx] at hle; omega
/-- some lines, ascending, with their members among them -/
structure Kept (s : List Ln) (ys : List Nat) : Prop where
  asc : ys.Pairwise (· < ·)
  lt : ∀ y ∈ ys, y < s.length
  cl : ∀ y ∈ ys, ∀ l, s[y]? = some l → ∀ n ∈ l.mem, n ∈ ys
def mPart (s : List Ln) (ys : List Nat) : List Ln := ys.map fun k => (s.getD k .yes).ren fun n => ys.idxOf n
theorem asc_ix {ys : List Nat} (h : ys.Pairwise (· < ·)) {i j : Nat} {a b : Nat} (ha : ys[i]? = some a) (hb : ys[j]? = some b) (hab : a < b) : i < j := by
  obtain ⟨li, ei⟩ := List.getElem?_eq_some_iff.mp ha
  obtain ⟨lj, ej⟩ := List.getElem?_eq_some_iff.mp hb
  rcases Nat.lt_trichotomy i j with c | c | c
  · exact c
  · subst c; rw [ei] at ej; omega
  · have := List.pairwise_iff_getElem.mp h j i lj li c
    omega
theorem ix_of {ys : List Nat} {n : Nat} (h : n ∈ ys) : ys[ys.idxOf n]? = some n := by
  rw [List.getElem?_eq_getElem (List.idxOf_lt_length_iff.mpr h), List.getElem_idxOf]
theorem ren_W {l : Ln} (h : l.W) (f : Nat → Nat) : (l.ren f).W := by cases l <;> exact h
theorem ren_mem {l : Ln} {f : Nat → Nat} {i : Nat} (h : i ∈ (l.ren f).mem) : ∃ j ∈ l.mem, i = f j := by
  cases l with
  | lt w => simp [Ln.ren, Ln.mem] at h
  | yes => simp [Ln.ren, Ln.mem] at h
  | un a => simp only [Ln.ren, Ln.mem, List.mem_singleton] at h; exact ⟨a, by simp [Ln.mem], h⟩
  | bi o a b =>
    simp only [Ln.ren, Ln.mem, List.mem_cons, List.not_mem_nil, or_false] at h
    rcases h with h | h
    · exact ⟨a, by simp [Ln.mem], h⟩
    · exact ⟨b, by simp [Ln.mem], h⟩
theorem part_at {s : List Ln} {ys : List Nat} {i j : Nat} {l : Ln} (h : ys[j]? = some i) (hl : s[i]? = some l) : (mPart s ys)[j]? = some (l.ren fun n => ys.idxOf n) := by
  unfold mPart
  rw [List.getElem?_map, h]
  show some (Ln.ren _ (s.getD i .yes)) = _
  rw [getD_at hl]
theorem part_low {s : List Ln} (os : Low s) {ys : List Nat} (k : Kept s ys) : Low (mPart s ys) := fun j m hm => by
  obtain ⟨i, hi⟩ : ∃ i, ys[j]? = some i := by
    have := (List.getElem?_eq_some_iff.mp hm).1
    unfold mPart at this
    rw [List.length_map] at this
    exact ⟨_, List.getElem?_eq_getElem this⟩
  have iy := List.mem_of_getElem? hi
  obtain ⟨l, hl⟩ : ∃ l, s[i]? = some l := ⟨_, List.getElem?_eq_getElem (k.lt i iy)⟩
  rw [part_at hi hl] at hm
  cases hm
  refine ⟨ren_W (os i l hl).1 _, fun a ha => ?_⟩
  obtain ⟨n, hn, rfl⟩ := ren_mem ha
  exact asc_ix k.asc (ix_of (k.cl i iy l hl n hn)) hi ((os i l hl).2 n hn)
/-- the needed lines of a line, in ascending order, are kept ones; the line is the last of them -/
theorem need_kept {s : List Ln} (os : Low s) {k : Nat} (hk : k < s.length) {ys : List Nat} (asc : ys.Pairwise (· < ·)) (hm : ∀ x, x ∈ ys ↔ x ∈ mNeed s k) : Kept s ys ∧ ys[ys.length - 1]? = some k := by
  refine ⟨⟨asc, fun y hy => by have := mNeed_le os hk y ((hm y).mp hy); omega, fun y hy l hl n hn => (hm n).mpr (mNeed_closed os hk y ((hm y).mp hy) l hl n hn)⟩, ?_⟩
  have ky := (hm k).mpr (mNeed_self s k)
  have ix := ix_of ky
  have lt := (List.getElem?_eq_some_iff.mp ix).1
  have : ys.idxOf k = ys.length - 1 := by
    obtain ⟨z, hz⟩ : ∃ z, ys[ys.length - 1]? = some z := ⟨_, List.getElem?_eq_getElem (by omega)⟩
    have zk := mNeed_le os hk z ((hm z).mp (List.mem_of_getElem? hz))
    by_cases c : z = k
    · subst c
      obtain ⟨l1, e1⟩ := List.getElem?_eq_some_iff.mp ix
      obtain ⟨l2, e2⟩ := List.getElem?_eq_some_iff.mp hz
      rcases Nat.lt_or_ge (ys.idxOf z) (ys.length - 1) with d | d
      · have := List.pairwise_iff_getElem.mp asc _ _ l1 l2 d
        omega
      · omega
    · have := asc_ix asc hz ix (by omega)
      omega
  rw [← this]; exact ix
end Law

end

section
set_option maxHeartbeats 2000000
namespace Law
open PySem L2 PyProof.Rows RZ Pu
/-! ### what the law's truths of parts and of sheets put together are -/
/-- the truth of a line at a moment, by the law's own tables -/
def truthT (s : List Ln) (r : Row) (n : Int) (i : Nat) : Bool := ((mTab s r).found.getD i []).getD (whereT (mTab s r) r n).toNat false
theorem truthT_iff {s : List Ln} {r : Row} (ok : SOk s) (l1 : 1 ≤ r.left.length) (r1 : 1 ≤ r.right.length) (n : Int) {i : Nat} (hi : i < s.length) : truthT s r n i = true ↔ semAt r s i n := truth_sem ok l1 r1 n hi
theorem truthT_eq {s t : List Ln} {r r' : Row} (os : SOk s) (ot : SOk t) (l1 : 1 ≤ r.left.length) (r1 : 1 ≤ r.right.length) (l1' : 1 ≤ r'.left.length) (r1' : 1 ≤ r'.right.length) {n n' : Int} {i j : Nat} (hi : i < s.length) (hj : j < t.length)
    (h : semAt r s i n ↔ semAt r' t j n') : truthT s r n i = truthT t r' n' j := by
  rw [Bool.eq_iff_iff, truthT_iff os l1 r1 n hi, truthT_iff ot l1' r1' n' hj]
  exact h
/-- what the law's truths are, as a list -/
theorem truths_list {s : List Ln} {r : Row} (ok : SOk s) (l1 : 1 ≤ r.left.length) (r1 : 1 ≤ r.right.length) (n : Int) :
    ((mTab s r).found.map fun b => PyData.bool (b.getD (whereT (mTab s r) r n).toNat false)) = (List.range s.length).map fun i => PyData.bool (truthT s r n i) := by
  obtain ⟨_, _, _, h4⟩ := mTab_ok ok l1 r1
  refine List.ext_getElem (by rw [List.length_map, List.length_map, List.length_range, h4]) fun i h1 h2 => ?_
  rw [List.getElem_map, List.getElem_map, List.getElem_range]
  unfold truthT
  rw [List.length_map] at h1
  rw [show (mTab s r).found.getD i [] = (mTab s r).found[i] by rw [List.getD_eq_getElem?_getD, List.getElem?_eq_getElem h1]; rfl]
theorem shift_letter {l : Ln} {n : Nat} {w : Str} (h : l.shift n = .lt w) : l = .lt w := by cases l <;> simp_all [Ln.shift]
end Law

end

section
set_option maxHeartbeats 1000000
/-! PuL: an item of an own list set -/
namespace Pu
open PySem L2 PyProof.Rows
theorem DqAll.set {K : PySem.W.Frag} {H : Hp} : ∀ {ds : List PyData} {vs : List V} {d : PyData} {v : V} (j : Nat), DqAll K H vs ds → Dq K H v d → DqAll K H (vs.set j v) (ds.set j d)
  | [], [], _, _, _, h, _ => h
  | _ :: _, _ :: _, _, _, 0, .cons h1 h2, h => .cons h h2
  | _ :: _, _ :: _, _, _, j + 1, .cons h1 h2, h => .cons h1 (DqAll.set j h2 h)
/-- own[i] = e -/
def dPutL (i : Nat) (fi fe : DTE) : DTS := fun E env => fe env fun s => ∃ d, s.fz = .d d ∧ ∃ xs, env[i]? = some (some (.own xs)) ∧ fi env fun t => ∃ n j, t.fz = .d (.int n) ∧ ixN xs.length n = some j ∧ E.nx (env.set i (some (.own (xs.set j d))))
section
variable {K : PySem.W.Frag} {F : Fr}
theorem sd_putL (i : Nat) {te ti : TE} {fe fi : DTE} (he : SdE K F te fe) (hi : SdE K F ti fi) : SdS K F (tAsg te (gSub (tVar i) ti rSetL)) (dPutL i fi fe) := by
  intro Hb H σ env D E r q l
  refine he.go (Q := fun s => ∃ d, s = .d d ∧ ∃ xs, env[i]? = some (some (.own xs)) ∧ fi env fun t => ∃ n j, t.fz = .d (.int n) ∧ ixN xs.length n = some j ∧ E.nx (env.set i (some (.own (xs.set j d))))) r q fun y Hb1 H1 s st1 rs1 _ q1 => ?_
  obtain ⟨d, es, xs, e, q1⟩ := q1
  subst es
  have r1 := r.on st1
  obtain ⟨v, e1, rs, fr⟩ := r1.sl i _ e
  obtain ⟨p, vs, e2, e3, e4, e5, e6⟩ := rs
  subst e2
  refine ⟨_, e1, ?_⟩
  refine hi.go (Q := fun t => ∃ n j, t = .d (.int n) ∧ ixN xs.length n = some j ∧ E.nx (env.set i (some (.own (xs.set j d))))) r1 q1 fun w Hb2 H2 t st2 rs2 _ q2 => ?_
  obtain ⟨n, j, et, hj, q2⟩ := q2
  subst et
  have hp : H2 p = some (.lst vs) := st2.keep p _ e3 e6
  have hbp : Hb2 p = none := by
    cases z : Hb2 p with
    | none => rfl
    | some o =>
      have := st2.new p o z e5
      rw [e3] at this; cases this
  refine ⟨p, vs, n, j, rfl, int_of rs2, hp, by rw [DqAll.length e4]; exact hj, ?_⟩
  exact l.nx Hb2 _ σ _ (st1.ex.trans st2.ex) ((r1.on st2).put1 e trivial e1 hp hbp e6 (s' := .own (xs.set j d)) trivial ⟨p, vs.set j y, rfl, upd_same, DqAll.set j (DqAll.mono st2.ex e4) (Dq.mono st2.ex rs1), hbp, e6⟩) q2
end
theorem ds_putL {X : Cx} {F : Fr} (i : Nat) {x : Str} {e b : Expr} {te ti : TE} {fe fi : DTE} {px ppos pos : Pos} (he : DE X F e te fe) (hb : DE X F b ti fi) (hN : X.N[i]? = some x := by rfl) (hv : Vis X.env.scope x := by first | exact Or.inl rfl | exact Or.inr (Or.inl rfl) | exact Or.inr (Or.inr rfl)) (hd : (x == ("__debug__" : Str)) = false := by decide)
    (hcd : (x == ("__classdict__" : Str)) = false := by decide) (hs : swapsWithSole [.Subscript (.Name x px) b ppos] e pos.line X.env = pure false := by rfl) (hw : swappedStores [.Subscript (.Name x px) b ppos] e X.env = pure none := by rfl)
    (h1 : (assignEach [.Subscript (.Name x px) b ppos] X.env).map (·.2) = [assign (.Subscript (.Name x px) b ppos) X.env] := by rfl)
    (h2 : ∀ (v : Value), assign (Expr.Subscript (.Name x px) b ppos) X.env v = (do
        let ov ← holding [v] (eval (.Name x px) X.env)
        let iv ← holding [v, ov] (eval b X.env)
        standAt ppos
        holding [v, ov, iv] (setItem ov iv v)
        release [v, ov, iv] []) := by intro _; rfl) :
    DS X F (.Assign [.Subscript (.Name x px) b ppos] e pos) (tAsg te (gSub (tVar i) ti rSetL)) (dPutL i fi fe) :=
  ⟨ps_asg he.pe (pg_sub (pe_var hN hv hd hcd) hb.pe set_list h2) hs hw h1, sd_putL i he.sd hb.sd⟩
end Pu

end

section
set_option maxHeartbeats 1000000
/-! PuE: own dicts with keys that are whole numbers or texts: d[k] = v, d[k] -/
namespace Pu
open PySem L2 PyProof.Rows
def isKey : PyData → Key → Bool
  | .int i, .inl j => decide (i = j)
  | .str x, .inr y => decide (x = y)
  | _, _ => false
theorem isKey_keyD (q k : Key) : isKey (keyD q) k = decide (q = k) := by cases q <;> cases k <;> simp [isKey, keyD]
def putP (ds : List (PyData × PyData)) (k : Key) (d : PyData) : List (PyData × PyData) := if ds.any (fun p => isKey p.1 k) = true then ds.map (fun p => if isKey p.1 k = true then (p.1, d) else p) else ds ++ [(keyD k, d)]
def getP (ds : List (PyData × PyData)) (k : Key) : Option PyData := (ds.find? fun p => isKey p.1 k).map (·.2)
section
variable {K : PySem.W.Frag} {H : Hp}
theorem DRel.two {kv : Key × V} {kvs : List (Key × V)} {ds : List (PyData × PyData)} (h : DRel K H (kv :: kvs) ds) : ∃ d r, ds = (keyD kv.1, d) :: r ∧ Dq K H kv.2 d ∧ DRel K H kvs r := by
  obtain ⟨h1, h2⟩ := h
  match ds, h1, h2 with
  | (k, d) :: r, h1, .cons a b =>
    rw [List.map_cons, List.map_cons] at h1
    injection h1 with e1 e2
    have e1 : k = keyD kv.1 := e1
    subst e1
    exact ⟨d, r, rfl, a, e2, b⟩
theorem DRel.none {ds : List (PyData × PyData)} (h : DRel K H [] ds) : ds = [] := by
  have := h.1
  rw [List.map_nil] at this
  exact List.map_eq_nil_iff.mp this
theorem DRel.cons' {k : Key} {v : V} {d : PyData} {kvs : List (Key × V)} {ds : List (PyData × PyData)} (a : Dq K H v d) (h : DRel K H kvs ds) : DRel K H ((k, v) :: kvs) ((keyD k, d) :: ds) := ⟨by rw [List.map_cons, List.map_cons, h.1], .cons a h.2⟩
theorem DRel.any {k : Key} : ∀ {kvs : List (Key × V)} {ds : List (PyData × PyData)}, DRel K H kvs ds → ds.any (fun p => isKey p.1 k) = kvs.any fun kv => decide (kv.1 = k)
  | [], ds, h => by rw [h.none]; rfl
  | kv :: kvs, ds, h => by
    obtain ⟨d, r, rfl, _, t⟩ := h.two
    rw [List.any_cons, List.any_cons, isKey_keyD, DRel.any t]
theorem DRel.map_ {k : Key} {v : V} {d : PyData} (a : Dq K H v d) : ∀ {kvs : List (Key × V)} {ds : List (PyData × PyData)}, DRel K H kvs ds → DRel K H (kvs.map fun kv => if kv.1 = k then (kv.1, v) else kv) (ds.map fun p => if isKey p.1 k = true then (p.1, d) else p)
  | [], ds, h => by rw [h.none]; exact ⟨rfl, .nil⟩
  | kv :: kvs, ds, h => by
    obtain ⟨z, r, rfl, b, t⟩ := h.two
    rw [List.map_cons, List.map_cons, isKey_keyD]
    by_cases c : kv.1 = k
    · rw [if_pos c, if_pos (decide_eq_true c)]
      exact DRel.cons' a (DRel.map_ a t)
    · rw [if_neg c, if_neg (by rw [decide_eq_false c]; exact Bool.false_ne_true)]
      exact DRel.cons' (k := kv.1) (v := kv.2) b (DRel.map_ a t)
theorem DRel.snoc {k : Key} {v : V} {d : PyData} (a : Dq K H v d) : ∀ {kvs : List (Key × V)} {ds : List (PyData × PyData)}, DRel K H kvs ds → DRel K H (kvs ++ [(k, v)]) (ds ++ [(keyD k, d)])
  | [], ds, h => by rw [h.none]; exact DRel.cons' a ⟨rfl, .nil⟩
  | kv :: kvs, ds, h => by
    obtain ⟨z, r, rfl, b, t⟩ := h.two
    exact DRel.cons' (k := kv.1) (v := kv.2) b (DRel.snoc a t)
theorem DRel.put {k : Key} {v : V} {d : PyData} (a : Dq K H v d) {kvs : List (Key × V)} {ds : List (PyData × PyData)} (h : DRel K H kvs ds) : DRel K H (putK kvs k v) (putP ds k d) := by
  unfold putK putP
  rw [h.any]
  split
  · exact h.map_ a
  · exact h.snoc a
theorem DRel.get {k : Key} {d : PyData} : ∀ {kvs : List (Key × V)} {ds : List (PyData × PyData)}, DRel K H kvs ds → getP ds k = some d → ∃ v, valV kvs k = some v ∧ Dq K H v d
  | [], ds, h, e => by rw [h.none] at e; cases e
  | kv :: kvs, ds, h, e => by
    obtain ⟨z, r, rfl, b, t⟩ := h.two
    unfold getP at e
    unfold valV
    rw [List.find?_cons, isKey_keyD] at e
    rw [List.find?_cons]
    by_cases c : kv.1 = k
    · rw [decide_eq_true c] at e ⊢
      cases e
      exact ⟨kv.2, rfl, b⟩
    · rw [decide_eq_false c] at e ⊢
      exact DRel.get t e
theorem DRel.length {kvs : List (Key × V)} {ds : List (PyData × PyData)} (h : DRel K H kvs ds) : kvs.length = ds.length := by
  have := congrArg List.length h.1
  rw [List.length_map, List.length_map] at this
  exact this.symm
theorem DRel.mono {H' : Hp} (e : Same H H') {kvs : List (Key × V)} {ds : List (PyData × PyData)} (h : DRel K H kvs ds) : DRel K H' kvs ds := ⟨h.1, DqAll.mono e h.2⟩
end
theorem key_of {K : PySem.W.Frag} {hid : Hid} {Hb H : Hp} {x : V} {k : Key} (h : RepSl K hid Hb H x (.d (keyD k))) : x = kV k := by
  cases k with
  | inl i => exact int_of h
  | inr z => exact str_of h
/-- own[k] = e -/
def dPutD (i : Nat) (fi fe : DTE) : DTS := fun E env => fe env fun s => ∃ d, s.fz = .d d ∧ ∃ ds, env[i]? = some (some (.ownD ds)) ∧ fi env fun t => ∃ k, t.fz = .d (keyD k) ∧ ds.length < sizeLine ∧ E.nx (env.set i (some (.ownD (putP ds k d))))
section
variable {K : PySem.W.Frag} {F : Fr}
theorem sd_putD (i : Nat) {te ti : TE} {fe fi : DTE} (he : SdE K F te fe) (hi : SdE K F ti fi) : SdS K F (sDPut (tVar i) ti te) (dPutD i fi fe) := by
  intro Hb H σ env D E r q l
  refine he.go (Q := fun s => ∃ d, s = .d d ∧ ∃ ds, env[i]? = some (some (.ownD ds)) ∧ fi env fun t => ∃ k, t.fz = .d (keyD k) ∧ ds.length < sizeLine ∧ E.nx (env.set i (some (.ownD (putP ds k d))))) r q fun y Hb1 H1 s st1 rs1 _ q1 => ?_
  obtain ⟨d, es, ds, e, q1⟩ := q1
  subst es
  have r1 := r.on st1
  obtain ⟨v, e1, rs, fr⟩ := r1.sl i _ e
  obtain ⟨p, vs, e2, e3, e4, e5, e6⟩ := rs
  subst e2
  refine ⟨_, e1, ?_⟩
  refine hi.go (Q := fun t => ∃ k, t = .d (keyD k) ∧ ds.length < sizeLine ∧ E.nx (env.set i (some (.ownD (putP ds k d))))) r1 q1 fun w Hb2 H2 t st2 rs2 _ q2 => ?_
  obtain ⟨k, et, hl, q2⟩ := q2
  subst et
  have hp : H2 p = some (.dK vs) := st2.keep p _ e3 e6
  have hbp : Hb2 p = none := by
    cases z : Hb2 p with
    | none => rfl
    | some o =>
      have := st2.new p o z e5
      rw [e3] at this; cases this
  have e4 := DRel.mono st2.ex e4
  refine ⟨p, _, rfl, .inl ⟨vs, k, hp, key_of rs2, by rw [e4.length]; exact hl, rfl⟩, ?_⟩
  exact l.nx Hb2 _ σ _ (st1.ex.trans st2.ex) ((r1.on st2).put1 e trivial e1 hp hbp e6 (s' := .ownD (putP ds k d)) trivial ⟨p, putK vs k y, rfl, upd_same, e4.put (Dq.mono st2.ex rs1), hbp, e6⟩) q2
end
section
variable {K : PySem.W.Frag} {F : Fr}
end
section
variable {X : Cx} {F : Fr} {e b : Expr} {te ti : TE} {fe fi : DTE} {x : Str} {px ppos pos : Pos}
theorem ds_putD (hu : X.A.units + 64 < cLine) (i : Nat) (he : DE X F e te fe) (hb : DE X F b ti fi) (hN : X.N[i]? = some x := by rfl) (hv : Vis X.env.scope x := by first | exact Or.inl rfl | exact Or.inr (Or.inl rfl) | exact Or.inr (Or.inr rfl)) (hd : (x == ("__debug__" : Str)) = false := by decide)
    (hcd : (x == ("__classdict__" : Str)) = false := by decide) (hs : swapsWith e (some (Expr.Subscript (.Name x px) b ppos)) pos.line X.env = pure false := by rfl) :
    DS X F (.Assign [.Subscript (.Name x px) b ppos] e pos) (sDPut (tVar i) ti te) (dPutD i fi fe) :=
  ⟨ps_dput (Nat.lt_of_le_of_lt (Nat.add_le_add_left (by decide) _) hu) (pe_var hN hv hd hcd) hb.pe he.pe hs, sd_putD i he.sd hb.sd⟩
end
end Pu

end

section
set_option maxHeartbeats 1000000
/-! PuE2: {} of one's own; d[k] of data, k in d, by keys that are whole numbers or texts -/
namespace Pu
open PySem L2 PyProof.Rows
/-- {} -/
def dNewD : DTE := fun _ Q => Q (.ownD [])
section
variable {K : PySem.W.Frag} {F : Fr}
theorem sd_newD : SdE K F tDNewK dNewD := by
  intro Hb H σ env Q k r q c p hp
  have bp : Hb p = none := none_back (fun o e => r.st.ex p o e) hp
  have np : ¬ F.hid.has p := fun z => by obtain ⟨o, e⟩ := r.st.ok.there z; rw [e] at hp; cases hp
  exact c (.ref p) Hb _ (.ownD []) (Step.raw (o := .dK []) r.st hp) ⟨p, [], rfl, upd_same, ⟨rfl, .nil⟩, bp, np⟩ (fun q e => by cases e; exact hp) q
/-- d[k] of data -/
def dDGetK (fa fb : DTE) : DTE := fun env Q => fa env fun s => ∃ ds, s.fz = .d (.dict ds) ∧ fb env fun t => ∃ k d, t.fz = .d (keyD k) ∧ getP ds k = some d ∧ Q (.d d)
theorem sd_dgetK {ta tb : TE} {fa fb : DTE} (ha : SdE K F ta fa) (hb : SdE K F tb fb) : SdE K F (tDGet ta tb) (dDGetK fa fb) := by
  intro Hb H σ env Q k r q c
  refine ha.go (Q := fun s => ∃ ds, s = .d (.dict ds) ∧ fb env fun t => ∃ k d, t.fz = .d (keyD k) ∧ getP ds k = some d ∧ Q (.d d)) r q fun x Hb1 H1 s st1 rs1 _ q1 => ?_
  obtain ⟨ds, es, q1⟩ := q1
  subst es
  refine hb.go (Q := fun t => ∃ k d, t = .d (keyD k) ∧ getP ds k = some d ∧ Q (.d d)) (r.on st1) q1 fun y Hb2 H2 t st2 rs2 _ q2 => ?_
  obtain ⟨n, d, et, ed, q2⟩ := q2
  subst et
  have rs1 : Dq K Hb1 x (.dict ds) := rs1
  cases rs1 with
  | dic h1 h2 h3 =>
    obtain ⟨u, g1, g2⟩ := DRel.get (DRel.mono st2.ex (⟨h2, h3⟩ : DRel K Hb1 _ ds)) ed
    exact ⟨_, u, rfl, .inl ⟨_, n, .inl (st2.st.ex _ _ (st2.ex _ _ h1)), key_of rs2, g1.symm⟩, c u Hb2 H2 (.d d) (st1.trans st2) g2 trivial q2⟩
end
section
variable {X : Cx} {F : Fr} {a b : Expr} {ta ti : TE} {fa fi : DTE} {x : Str} {px ppos pos : Pos}
theorem de_newD : DE X F (.Dict [] [] pos) tDNewK dNewD := ⟨pe_dnewK, sd_newD⟩
theorem de_dgetK (hu : X.A.units + 64 < cLine) (ha : DE X F a ta fa) (hb : DE X F b ti fi) (hs : NoSl b := by exact fun _ _ => rfl) : DE X F (.Subscript a b pos) (tDGet ta ti) (dDGetK fa fi) :=
  ⟨pe_dget (Nat.lt_of_le_of_lt (Nat.add_le_add_left (by decide) _) hu) ha.pe hb.pe hs, sd_dgetK ha.sd hb.sd⟩
end
end Pu

end

section
set_option maxHeartbeats 1000000
/-! PuWh: while; the last item taken from an own list -/
namespace Pu
open PySem L2 PyProof.Rows
/-- so many turns at most -/
def dWhileN (c : DTT) (body : DTS) (E : DEnds) : Nat → EV → Prop
  | 0, _ => False
  | m + 1, env => c env fun b => if b = true then body { nx := dWhileN c body E m, ct := dWhileN c body E m, bk := E.nx, rt := E.rt } env else E.nx env
def dWhile (c : DTT) (body : DTS) : DTS := fun E env => ∃ m, dWhileN c body E m env
section
variable {K : PySem.W.Frag} {F : Fr} {js : List Nat}
theorem sd_while {tc : TT} {tb : TS} {fc : DTT} {fb : DTS} (hc : SdT K F tc fc) (hb : SdS K F tb fb) : SdS K F (tWhile tc tb) (dWhile fc fb) := by
  intro Hb H σ env D E r q l
  obtain ⟨m, q⟩ := q
  refine ⟨fun m σ' H' => ∃ Hb' env', Same Hb Hb' ∧ Rep K F Hb' H' σ' env' ∧ dWhileN fc fb E m env', ⟨m, Hb, env, Same.refl _, r, q⟩, ?_⟩
  rintro m σ' H' ⟨Hb', env', s, r', q'⟩
  cases m with
  | zero => exact q'.elim
  | succ m =>
    refine hc Hb' H' σ' env' _ _ r' q' fun b Hb2 H2 st2 q2 => ?_
    cases b with
    | true =>
      rw [if_pos rfl] at q2 ⊢
      have ex2 : Same Hb Hb2 := s.trans st2.ex
      exact ⟨fun σ'' H'' => ∃ Hb' env', Same Hb Hb' ∧ Rep K F Hb' H'' σ'' env' ∧ dWhileN fc fb E m env', fun σ'' H'' h => ⟨m, Nat.lt_succ_self m, h⟩,
        hb Hb2 H2 σ' env' _ _ (r'.on st2) q2 ⟨fun Hb4 H4 σ4 env4 s4 r4 q4 => ⟨Hb4, env4, ex2.trans s4, r4, q4⟩, fun Hb4 H4 σ4 env4 s4 r4 q4 => l.nx Hb4 H4 σ4 env4 (ex2.trans s4) r4 q4, fun Hb4 H4 σ4 env4 s4 r4 q4 => ⟨Hb4, env4, ex2.trans s4, r4, q4⟩, fun v Hb4 H4 s' s4 => l.rt v Hb4 H4 s' (ex2.trans s4)⟩⟩
    | false =>
      rw [if_neg Bool.false_ne_true] at q2 ⊢
      exact l.nx Hb2 H2 σ' env' (s.trans st2.ex) (r'.on st2) q2
end
section
variable {X : Cx} {F : Fr} {js : List Nat} {c tg : Expr} {body : List Stmt} {tc : TT} {tb : TS} {fc : DTT} {fb : DTS} {g : TG} {fg : DTG} {x : Str} {px apos cpos pos : Pos}
theorem ds_while (hc : DT X F c tc fc) (hb : DSs X F body tb fb) (hp : PassesOwn (model X.prog X.w) X.A X.env X.xe := by exact PassesOwn.never) : DS X F (.While c body [] pos) (tWhile tc tb) (dWhile fc fb) := ⟨ps_while hp hc.pe hb.pe, sd_while hc.sd hb.sd⟩
theorem pe_popL (i : Nat) {x : Str} {px apos cpos : Pos} (hN : X.N[i]? = some x := by rfl) (hv : Vis X.env.scope x := by first | exact Or.inl rfl | exact Or.inr (Or.inl rfl) | exact Or.inr (Or.inr rfl)) (hd : (x == ("__debug__" : Str)) = false := by decide)
    (hcd : (x == ("__classdict__" : Str)) = false := by decide) (ha : attributeBase (.Name x px) "pop" X.env (eval (.Name x px) X.env) = eval (.Name x px) X.env := by rfl) (hl : (apos.endLine == cpos.line) = true := by rfl) :
    PE X (.Call (.Attribute (.Name x px) "pop" apos) [] [] cpos) (tBM0 X.K "list" rPop (tVar i)) := pe_bm0 PySem.F.plainAttrs_list PySem.F.slot_list_pop PySem.F.type_list_pop mt_pop (pe_var hN hv hd hcd) ha hl
end
end Pu

end

section
set_option maxHeartbeats 2000000
namespace Law
open PySem L2 PyProof.Rows RZ Pu
def m_members : FN := fun ss R => ∃ (l : Ln), ss = [.d (lnD l)] ∧ l.W ∧ R (.d (.tuple (l.mem.map fun (i : Nat) => .int i)))
def mNeedL (s : List Ln) (k : Nat) : List Nat := (List.range (k + 1)).filter fun i => decide (i ∈ mNeed s k)
def m_needed_by : FN := fun ss R => ∃ (s : List Ln) (k : Nat), ss = [.d (sheetD s), .d (.int k)] ∧ Low s ∧ k < s.length ∧ s.length < 1000000 ∧ R (.own ((mNeedL s k).map fun (i : Nat) => PyData.int i))
def m_part : FN := fun ss R => ∃ (s : List Ln) (k : Nat), ss = [.d (sheetD s), .d (.int k)] ∧ Low s ∧ k < s.length ∧ s.length < 1000000 ∧ R (.d (sheetD (mPart s (mNeedL s k))))
def m__told_anew : FN := fun ss R => ∃ (l : Ln) (ds : List (PyData × PyData)) (f : Nat → Nat), ss = [.d (lnD l), .d (.dict ds)] ∧ l.W ∧ (∀ i ∈ l.mem, getP ds (.inl (i : Nat)) = some (.int (f i : Nat))) ∧ R (.d (lnD (l.ren f)))
theorem getP_self (k : Key) (d : PyData) : ∀ ds : List (PyData × PyData), getP (putP ds k d) k = some d := fun ds => by
  unfold putP
  split
  · rename_i h
    unfold getP
    induction ds with
    | nil => cases h
    | cons p r ih =>
      rw [List.map_cons, List.find?_cons]
      by_cases c : isKey p.1 k = true
      · rw [if_pos c, c]; rfl
      · rw [if_neg c, Bool.eq_false_iff.mpr c]
        refine ih ?_
        rw [List.any_cons, Bool.eq_false_iff.mpr c, Bool.false_or] at h
        exact h
  · rename_i h
    unfold getP
    rw [List.find?_append]
    have : ds.find? (fun p => isKey p.1 k) = none := by
      rw [List.find?_eq_none]
      intro p hp c
      exact h (List.any_eq_true.mpr ⟨p, hp, c⟩)
    rw [this, Option.none_or]
    rw [List.find?_cons, isKey_keyD, decide_eq_true rfl]; rfl
theorem key_one {p : PyData} {k k' : Key} (h : isKey p k = true) (h' : isKey p k' = true) : k = k' := by
  cases p <;> cases k <;> cases k' <;> simp_all [isKey]
theorem getP_other {k k' : Key} (n : k ≠ k') (d : PyData) : ∀ ds : List (PyData × PyData), getP (putP ds k d) k' = getP ds k' := fun ds => by
  unfold putP
  split
  · rename_i h
    clear h
    unfold getP
    induction ds with
    | nil => rfl
    | cons p r ih =>
      rw [List.map_cons, List.find?_cons, List.find?_cons]
      by_cases c : isKey p.1 k = true
      · rw [if_pos c]
        have : isKey p.1 k' = false := Bool.eq_false_iff.mpr fun z => n (key_one c z)
        show Option.map _ (match isKey p.1 k' with | true => _ | false => _) = _
        rw [this]
        exact ih
      · rw [if_neg c]
        split
        · rfl
        · exact ih
  · unfold getP
    rw [List.find?_append]
    cases ds.find? (fun p => isKey p.1 k') with
    | some p => rfl
    | none =>
      rw [Option.none_or, List.find?_cons, isKey_keyD, decide_eq_false n]; rfl
theorem putP_length (k : Key) (d : PyData) (ds : List (PyData × PyData)) : (putP ds k d).length ≤ ds.length + 1 := by
  unfold putP; split <;> simp
theorem needL_mem {s : List Ln} (os : Low s) {k : Nat} (hk : k < s.length) (x : Nat) : x ∈ mNeedL s k ↔ x ∈ mNeed s k := by
  unfold mNeedL
  rw [List.mem_filter, List.mem_range, decide_eq_true_eq]
  exact ⟨fun h => h.2, fun h => ⟨by have := mNeed_le os hk x h; omega, h⟩⟩
theorem needL_asc (s : List Ln) (k : Nat) : (mNeedL s k).Pairwise (· < ·) := List.Pairwise.filter _ List.pairwise_lt_range
theorem needL_len (s : List Ln) (k : Nat) : (mNeedL s k).length ≤ k + 1 := by
  have := List.length_filter_le (fun i => decide (i ∈ mNeed s k)) (List.range (k + 1))
  rwa [List.length_range] at this
theorem ren_d {l : Ln} (n : l.word ≠ "letter") (f : Nat → Nat) : lnD (l.ren f) = .tuple (.str l.word :: l.mem.map fun i => .int (f i : Nat)) := by
  cases l with
  | lt w => exact (n rfl).elim
  | yes => rfl
  | un i => rfl
  | bi o i j => rfl
theorem asc_idx {ys : List Nat} (h : ys.Pairwise (· < ·)) {i j : Nat} (hj : ys[j]? = some i) : ys.idxOf i = j := by
  have ix := ix_of (List.mem_of_getElem? hj)
  obtain ⟨l1, e1⟩ := List.getElem?_eq_some_iff.mp ix
  obtain ⟨l2, e2⟩ := List.getElem?_eq_some_iff.mp hj
  rcases Nat.lt_trichotomy (ys.idxOf i) j with c | c | c
  · have := List.pairwise_iff_getElem.mp h _ _ l1 l2 c; omega
  · exact c
  · have := List.pairwise_iff_getElem.mp h _ _ l2 l1 c; omega
theorem ln_at {s : List Ln} {i : Nat} {l : Ln} (h : s[i]? = some l) : atI (s.map lnD) (i : Int) = some (lnD l) := ix_at (by rw [List.getElem?_map, h]; rfl)
def mkN (n : Nat) (A : List Nat) : List PyData := (List.range n).map fun i => PyData.bool (decide (i ∈ A))
theorem mkN_len (n : Nat) (A : List Nat) : (mkN n A).length = n := by unfold mkN; rw [List.length_map, List.length_range]
theorem mkN_get {n : Nat} {A : List Nat} {i : Nat} (h : i < n) : (mkN n A)[i]? = some (.bool (decide (i ∈ A))) := by unfold mkN; rw [List.getElem?_map, List.getElem?_range h]; rfl
theorem mkN_congr {n : Nat} {A B : List Nat} (h : ∀ i, i ∈ A ↔ i ∈ B) : mkN n A = mkN n B := by
  unfold mkN
  refine List.map_congr_left fun i _ => ?_
  rw [decide_eq_decide.mpr (h i)]
theorem mkN_set {n : Nat} {A : List Nat} {m : Nat} : (mkN n A).set m (.bool true) = mkN n (A ++ [m]) := by
  refine List.ext_getElem? fun i => ?_
  by_cases c : i < n
  · rw [mkN_get c]
    by_cases d : m = i
    · subst d
      rw [List.getElem?_set_self (by rw [mkN_len]; exact c), decide_eq_true (by simp)]
    · rw [List.getElem?_set_ne d, mkN_get c, decide_eq_decide.mpr (show i ∈ A ↔ i ∈ A ++ [m] by simp; omega)]
  · rw [List.getElem?_eq_none (by rw [List.length_set, mkN_len]; omega), List.getElem?_eq_none (by rw [mkN_len]; omega)]
theorem repl1 (x : PyData) : ∀ k : Nat, (List.replicate k [x]).flatten = List.replicate k x
  | 0 => rfl
  | k + 1 => by rw [List.replicate_succ, List.flatten_cons, repl1 x k]; rfl
theorem enum_range (g : Nat → PyData) : ∀ (n a : Nat), enumD a ((List.range' a n).map g) = (List.range' a n).map fun i => .tuple [.int (i : Nat), g i]
  | 0, _ => rfl
  | n + 1, a => by
    rw [List.range'_succ, List.map_cons, List.map_cons]
    show _ :: enumD (a + 1) _ = _
    rw [enum_range g n (a + 1)]
theorem enum_mkN (n : Nat) (A : List Nat) : enumD 0 (mkN n A) = (List.range n).map fun i => .tuple [.int (i : Nat), .bool (decide (i ∈ A))] := by
  unfold mkN; rw [List.range_eq_range', enum_range]
theorem fm_need (s : List Ln) (k : Nat) (A : List Nat) (h : A = mNeed s k) : (List.range (k + 1)).filterMap (fun i => if i ∈ A then some (PyData.int (i : Nat)) else none) = (mNeedL s k).map fun (i : Nat) => PyData.int i := by
  subst h
  unfold mNeedL
  generalize List.range (k + 1) = l
  induction l with
  | nil => rfl
  | cons x r ih =>
    by_cases c : x ∈ mNeed s k
    · rw [List.filterMap_cons_some (b := .int (x : Nat)) (by rw [if_pos c]), List.filter_cons, if_pos (decide_eq_true c), List.map_cons, ih]
    · rw [List.filterMap_cons_none (by rw [if_neg c]), List.filter_cons, if_neg (by simpa using c), ih]
theorem flat_ints (l : List Nat) : (l.map fun (i : Nat) => PyData.int i).all flatD = true := by
  rw [List.all_eq_true]
  intro x hx
  obtain ⟨i, _, rfl⟩ := List.mem_map.mp hx
  rfl
def m_needed : FN := fun ss R => ∃ (s : List Ln), ss = [.d (sheetD s)] ∧ Low s ∧ s ≠ [] ∧ s.length < 1000000 ∧ R (.own ((mNeedL s (s.length - 1)).map fun (i : Nat) => PyData.int i))
end Law

end

section
set_option maxHeartbeats 1000000
/-! PuI: sorted lists of whole numbers; the place of an item in a list -/
namespace Pu
open PySem L2 PyProof.Rows
section
variable {K : PySem.W.Frag} {hid : Hid} {F : Fr}
theorem ints_rep {Hb : Hp} : ∀ {ds : List PyData} {vs : List V} {xs : List Int}, DqAll K Hb vs ds → intsD ds = some xs → vs = xs.map V.int
  | [], _, _, .nil, e => by cases e; rfl
  | .int x :: ds, _, xs, .cons h t, e => by
    cases q : intsD ds with
    | none =>
      have e : (intsD ds).map (x :: ·) = some xs := e
      rw [q] at e; cases e
    | some ys =>
      have e : (intsD ds).map (x :: ·) = some xs := e
      rw [q] at e
      cases e
      cases h
      rw [ints_rep t q]
      rfl
  | .none :: _, _, _, _, e => by cases e
  | .bool _ :: _, _, _, _, e => by cases e
  | .str _ :: _, _, _, _, e => by cases e
  | .list _ :: _, _, _, _, e => by cases e
  | .tuple _ :: _, _, _, _, e => by cases e
  | .dict _ :: _, _, _, _, e => by cases e
theorem ints_all {Hb : Hp} : ∀ xs : List Int, DqAll K Hb (xs.map V.int) (xs.map PyData.int)
  | [] => .nil
  | x :: xs => .cons (.int x) (ints_all xs)
end
end Pu

end

section
/-! PuJ: sets of whole numbers: sorted(set(xs)). -/
namespace Pu
open PySem L2 PySem.Spec PyProof.Rows
section
variable {X : Cx} {P : Program} {w : World} {H : Hp} {h : Heap} {a : Addr} {S : Int → Bool} {n : Nat} {pins : List (Addr × Obj)} {σ : L2.St} {s : Shared}
theorem asc_of {l : List Int} (h : l.Pairwise (· ≤ ·)) (n : l.Nodup) : l.Pairwise (· < ·) := by
  have n : l.Pairwise (· ≠ ·) := n
  exact (h.and n).imp fun {a b} h => by have := h.1; have := h.2; omega
end
/-! ### over plain data -/
def sortedOfI (xs : List Int) (Q : DK) : Prop := ∀ ys : List Int, ys.Pairwise (· < ·) → (∀ k, k ∈ ys ↔ k ∈ xs) → Q (.own (ys.map PyData.int))
def fSortSetI : FN := fun ss Q => match ss with
  | [.d (.list ds)] => ∃ xs, intsD ds = some xs ∧ xs.length + 1 < scanBound ∧ sortedOfI xs Q
  | _ => False
section
variable {K : PySem.W.Frag} {F : Fr} {hid : Hid} {P : Program} {w : World}
end
section
variable {X : Cx} {F : Fr} {K : PySem.W.Frag} {e : Expr} {ta : TA} {fa : DTA} {p p2 pos pos2 : Pos}
end
/-! ### sorted(xs), whole numbers, any number of them -/
def fSortedIA : FN := fun ss Q => match ss with
  | [.d (.list ds)] => ∃ xs, intsD ds = some xs ∧ ∀ ys : List Int, ys.Perm xs → ys.Pairwise (· ≤ ·) → Q (.own (ys.map PyData.int))
  | _ => False
theorem lc_sortedIA {K : PySem.W.Frag} {hid : Hid} : LC K hid (rSortedI K) fSortedIA := by
  intro Hb H xs ss Q k st r q c
  unfold fSortedIA at q
  split at q
  · rename_i ds
    obtain ⟨zs, e, q⟩ := q
    obtain ⟨v, rfl, h⟩ := rep1 r
    cases (show Dq K Hb v (.list ds) from h) with
    | lst h1 h2 =>
      have ev := ints_rep h2 e
      subst ev
      refine ⟨_, zs, rfl, SqL.of (st.ex _ _ h1), fun ys p hp hs hn => ?_⟩
      obtain ⟨s2, r2, f2⟩ := own_new (K := K) st hn (ints_all (K := K) (Hb := Hb) ys)
      exact c _ Hb _ (.own _) s2 r2 f2 (q ys hp hs)
  · exact q.elim
theorem k_sortedIA {X : Cx} {K : PySem.W.Frag} (e : X.K = K) : CallR X (.builtin "sorted") (rSortedI K) := e ▸ cr_sortedI
end Pu

end

section
set_option maxHeartbeats 1000000
/-! PuK: dict comprehensions; list(d), sorted(d), d.update(e); l.extend(e); x = e[l.pop()]; lists as tests. -/
namespace L2
open PySem PySem.Spec PyProof.Rows
section
variable {X : Cx}
/-! d.update(e) -/
end
end L2
namespace Pu
open PySem L2 PyProof.Rows
/-! ### dict comprehensions -/
section
variable {K : PySem.W.Frag} {F : Fr}
/-! ### lists and dicts as tests -/
/-! ### list(d), sorted(d) -/
/-! ### own.update(e), own.extend(e) -/
theorem RepSl.heap {hid : Hid} {Hb H H' : Hp} {v : V} : ∀ {s : Sl}, s.fz = s → RepSl K hid Hb H v s → RepSl K hid Hb H' v s
  | .d _, _, h => h
  | .v _, _, h => h
  | .src, _, h => h
  | .own _, e, _ => by cases e
  | .ownD _, e, _ => by cases e
  | .ownX _, e, _ => by cases e
  | .any, _, _ => trivial
/-! ### x = e[own.pop()] -/
end
section
variable {X : Cx} {F : Fr} {js : List Nat} {tg iter kx vx e a : Expr} {te ta tk tv : TE} {fe fa fk fv : DTE} {wi : TI} {fi : DTI} {g : TG} {fg : DTG} {tt : TT} {ft : DTT} {x : Str} {px apos cpos pos : Pos}
end
end Pu

end

section
set_option maxHeartbeats 1000000
/-! PuQ: max(xs, default=d); written tuples of texts; list(range(..)). -/
namespace Pu
open PySem PySem.W L2 PySem.Spec PyProof.Rows
/-! ### max(xs, default=d), whole numbers -/
def rMaxDef (K : PySem.W.Frag) : List V → List V → Hp → VK → Prop := fun vs zs H Q => ∃ (a : Addr) (ns : List Int) (z : V), vs = [V.ref a] ∧ zs = [z] ∧ SqL K H a (ns.map V.int) ∧ (ns = [] → Q z H) ∧ (ns ≠ [] → ∀ m, m ∈ ns → (∀ y, y ∈ ns → y ≤ m) → Q (.int m) H)
theorem reads_ints {h : Heap} : ∀ {vs : List Value} {ns : List Int}, IntsAre vs ns → ReadsAll h vs (ns.map PyData.int) []
  | _, _, .nil => .nil
  | _, _, .cons n t r => .cons (as := []) (bs := []) (.int n t) (reads_ints r)
theorem depth_ints : ∀ ns : List Int, PyData.depthAll (ns.map PyData.int) = 0
  | [] => rfl
  | n :: ns => by
    show max (PyData.int n).depth (PyData.depthAll (ns.map PyData.int)) = 0
    rw [depth_ints ns]; rfl
theorem fold_max : ∀ (ns : List Int) (n : Int), ns.foldl max n ∈ n :: ns ∧ n ≤ ns.foldl max n ∧ ∀ y ∈ ns, y ≤ ns.foldl max n
  | [], n => ⟨List.mem_cons_self, Int.le_refl _, fun _ h => by cases h⟩
  | x :: ns, n => by
    obtain ⟨h1, h2, h3⟩ := fold_max ns (max n x)
    have e : (x :: ns).foldl max n = ns.foldl max (max n x) := rfl
    rw [e]
    refine ⟨?_, by omega, fun y hy => ?_⟩
    · rcases List.mem_cons.mp h1 with h | h
      · rw [h]
        by_cases c : n ≤ x
        · rw [Int.max_eq_right c]; exact List.mem_cons_of_mem _ List.mem_cons_self
        · rw [Int.max_eq_left (by omega)]; exact List.mem_cons_self
      · exact List.mem_cons_of_mem _ (List.mem_cons_of_mem _ h)
    · rcases List.mem_cons.mp hy with rfl | hy
      · omega
      · exact h3 y hy
theorem cr_maxDef {X : Cx} (hc : X.calm = true) (hu : X.A.units + 64 < cLine) : CallRK X (.builtin "max") [Str.ofString "default"] (rMaxDef X.K) := by
  intro pins s σ H vs zs us ws Q I r rz h
  obtain ⟨a, ns, z, rfl, rfl, hs, q0, q1⟩ := h
  obtain rfl := Vals.ref1 r
  obtain ⟨w1, rfl, e1⟩ := vals1 rz
  obtain ⟨its, rv, hl, hz⟩ := I.list hs
  have hi := rv.ints
  have rd := reads_ints (h := s.heap) hi
  have al : AlikeAll (ns.map PyData.int) := ⟨fun x hx y hy => by
    obtain ⟨i, _, rfl⟩ := List.mem_map.mp hx
    obtain ⟨j, _, rfl⟩ := List.mem_map.mp hy
    simp [alike], fun x hx => by
    obtain ⟨i, _, rfl⟩ := List.mem_map.mp hx
    exact fun e => by cases e⟩
  refine max_list_default (I.ok.hd hc) hl.isList (by rw [List.toList_toArray]; exact rd) al (by rw [depth_ints]; omega) (fun e h' tk hk => ?_) fun y ys i v h' tk bs e hv rdv hk => ?_
  · have e : ns = [] := List.map_eq_nil_iff.mp e
    exact ⟨z, H, I.kept hk, e1, q0 e⟩
  · cases ns with
    | nil => cases e
    | cons n ns =>
      rw [List.map_cons] at e
      injection e with e2 e3
      subst e2; subst e3
      rw [maxD_ints] at rdv
      obtain ⟨m1, m2, m3⟩ := fold_max ns n
      cases rdv with
      | int i t =>
        refine ⟨.int _, H, I.kept hk, ⟨_, rfl⟩, q1 (by simp) _ m1 fun y hy => ?_⟩
        rcases List.mem_cons.mp hy with rfl | hy
        · exact m2
        · exact m3 y hy
def dMaxDef (fa fz : DTE) : DTE := fun env Q => fa env fun s => ∃ ds ns, s.fz = .d (.list ds) ∧ intsD ds = some ns ∧ fz env fun u => ∃ z : Int, u.fz = .d (.int z) ∧ (ns = [] → Q (.d (.int z))) ∧ (ns ≠ [] → ∀ m, m ∈ ns → (∀ y, y ∈ ns → y ≤ m) → Q (.d (.int m)))
theorem sd_maxDef {K : PySem.W.Frag} {F : Fr} {ta tz : TE} {fa fz : DTE} (ha : SdE K F ta fa) (hz : SdE K F tz fz) : SdE K F (tCKw (rMaxDef K) (tCons ta tNil) (tCons tz tNil)) (dMaxDef fa fz) := by
  intro Hb H σ env Q k r q c
  refine ha.go (Q := fun s => ∃ ds ns, s = .d (.list ds) ∧ intsD ds = some ns ∧ fz env fun u => ∃ z : Int, u.fz = .d (.int z) ∧ (ns = [] → Q (.d (.int z))) ∧ (ns ≠ [] → ∀ m, m ∈ ns → (∀ y, y ∈ ns → y ≤ m) → Q (.d (.int m)))) r q fun v Hb1 H1 s st1 rs1 _ q1 => ?_
  obtain ⟨ds, ns, es, e, q1⟩ := q1
  subst es
  refine hz.go (Q := fun u => ∃ z : Int, u = .d (.int z) ∧ (ns = [] → Q (.d (.int z))) ∧ (ns ≠ [] → ∀ m, m ∈ ns → (∀ y, y ∈ ns → y ≤ m) → Q (.d (.int m)))) (r.on st1) q1 fun w Hb2 H2 t st2 rs2 _ q2 => ?_
  obtain ⟨z, et, q0, q3⟩ := q2
  subst et
  cases (show Dq K Hb1 v (.list ds) from rs1) with
  | lst h1 h2 =>
    have ev := ints_rep h2 e
    subst ev
    have ez := int_of rs2
    subst ez
    exact ⟨_, ns, _, rfl, rfl, SqL.of (st2.st.ex _ _ (st2.ex _ _ h1)), fun e => c _ Hb2 H2 (.d (.int z)) (st1.trans st2) (.int _) trivial (q0 e), fun e m h1 h2 => c _ Hb2 H2 (.d (.int m)) (st1.trans st2) (.int _) trivial (q3 e m h1 h2)⟩
section
variable {X : Cx} {F : Fr} {e z : Expr} {te tz : TE} {fe fz : DTE} {p pos kpos : Pos} {x : Str}
theorem de_maxDef (hu : X.A.units + 64 < cLine) (hm : X.mg "max" = none) (he : DE X F e te fe) (hz : DE X F z tz fz) (hc : X.calm = true := by rfl) (hg : Gl X "max" := by rfl)
    (hs : starEach [e] X.env = (false, eval e X.env) :: starEach [] X.env := by rfl)
    (h1 : backTo pos (starEach [e] X.env) = (false, eval e X.env) :: backTo pos (starEach [] X.env) := by rfl) (hpl : (backTo pos (starEach [e] X.env)).any (·.1) = false := by rfl)
    (hall : (backToKw pos (keywordEach [⟨some "default", z, kpos⟩] X.env)).all (·.1.isSome) = true := by rfl) (hnone : (backToKw pos (keywordEach [⟨some "default", z, kpos⟩] X.env)).any (·.1.isNone) = false := by rfl) (hks : (backToKw pos (keywordEach [⟨some "default", z, kpos⟩] X.env)).filterMap (·.1) = [Str.ofString "default"] := by rfl) :
    DE X F (.Call (.Name "max" p) [e] [⟨some "default", z, kpos⟩] pos) (tCKw (rMaxDef X.K) (tCons te tNil) (tCons tz tNil)) (dMaxDef fe fz) :=
  ⟨pe_callBK (cr_maxDef hc hu) hg hm (by decide +kernel) (pa_cons he.pe pa_nil hs) (pk_cons hz.pe pk_nil) (by decide) (by decide) h1 hpl hall hnone hks, sd_maxDef he.sd hz.sd⟩
end
theorem k_maxDef {X : Cx} {F : Fr} {K : PySem.W.Frag} {e z : Expr} {te tz : TE} {fe fz : DTE} {p pos kpos : Pos} (ek : X.K = K) (hu : X.A.units + 64 < cLine) (hm : X.mg "max" = none) (he : DE X F e te fe) (hz : DE X F z tz fz) (hc : X.calm = true := by rfl) (hg : Gl X "max" := by rfl) (hs : starEach [e] X.env = (false, eval e X.env) :: starEach [] X.env := by rfl)
    (h1 : backTo pos (starEach [e] X.env) = (false, eval e X.env) :: backTo pos (starEach [] X.env) := by rfl) (hpl : (backTo pos (starEach [e] X.env)).any (·.1) = false := by rfl)
    (hall : (backToKw pos (keywordEach [⟨some "default", z, kpos⟩] X.env)).all (·.1.isSome) = true := by rfl) (hnone : (backToKw pos (keywordEach [⟨some "default", z, kpos⟩] X.env)).any (·.1.isNone) = false := by rfl) (hks : (backToKw pos (keywordEach [⟨some "default", z, kpos⟩] X.env)).filterMap (·.1) = [Str.ofString "default"] := by rfl) :
    DE X F (.Call (.Name "max" p) [e] [⟨some "default", z, kpos⟩] pos) (tCKw (rMaxDef K) (tCons te tNil) (tCons tz tNil)) (dMaxDef fe fz) := by
  subst ek
  exact de_maxDef hu hm he hz hc hg hs h1 hpl hall hnone hks
/-! ### a written tuple of texts -/
/-! ### list(range(..)) -/
theorem rg_all {K : PySem.W.Frag} {Hb : Hp} (a b : Int) : DqAll K Hb (rgV a b) (rngD a (b - a).toNat) := by
  unfold rgV rngD
  generalize List.range (b - a).toNat = l
  induction l with
  | nil => exact .nil
  | cons x l ih => exact .cons (.int _) ih
def dListRg1 (fa : DTE) : DTE := fun env Q => fa env fun s => ∃ n : Int, s.fz = .d (.int n) ∧ (0 ≤ n ∧ n ≤ 16777216) ∧ Q (.own (rngD 0 n.toNat))
section
variable {K : PySem.W.Frag} {F : Fr} {ta tb : TE} {fa fb : DTE}
theorem sd_listRg1 (ha : SdE K F ta fa) : SdE K F (tLstRg (tRg1 ta)) (dListRg1 fa) := by
  intro Hb H σ env Q k r q c
  refine ha.go (Q := fun s => ∃ n : Int, s = .d (.int n) ∧ (0 ≤ n ∧ n ≤ 16777216) ∧ Q (.own (rngD 0 n.toNat))) r q fun v Hb1 H1 s st1 rs1 _ q1 => ?_
  obtain ⟨n, es, hn, q1⟩ := q1
  subst es
  have ev := int_of rs1
  subst ev
  refine ⟨n, rfl, RgOk.of_le (Int.le_refl _) hn.2 (by omega) hn.1, fun p hp => ?_⟩
  obtain ⟨s2, r2, f2⟩ := own_new (K := K) st1.st hp (rg_all (K := K) (Hb := Hb1) 0 n)
  exact c _ Hb1 _ (.own _) (st1.trans s2) r2 (FrSl.back st1 f2) (by rw [Int.sub_zero]; exact q1)
end
section
variable {X : Cx} {F : Fr} {a b : Expr} {ta tb : TE} {fa fb : DTE} {p p2 pos pos2 : Pos}
theorem de_listRg1 (hm : X.mg "list" = none) (hr : X.mg "range" = none) (ha : DE X F a ta fa) (hc : X.calm = true := by rfl) (hg : Gl X "list" := by rfl) (hg2 : Gl X "range" := by rfl) (na : starEach [a] X.env = (false, eval a X.env) :: starEach [] X.env := by rfl)
    (nb : starEach [.Call (.Name "range" p2) [a] [] pos2] X.env = (false, eval (.Call (.Name "range" p2) [a] [] pos2) X.env) :: starEach [] X.env := by rfl) :
    DE X F (.Call (.Name "list" p) [.Call (.Name "range" p2) [a] [] pos2] [] pos) (tLstRg (tRg1 ta)) (dListRg1 fa) := ⟨pe_listRg hc hg hm (prg_1 hg2 hr ha.pe na) nb, sd_listRg1 ha.sd⟩
end
end Pu

end

section
set_option maxHeartbeats 2000000
/-! ShC: drawn sheets; while loops; dicts whose values are all true; ascending lists. -/
namespace Pu
open PySem L2 PyProof.Rows RZ
theorem while_by {c : DTT} {body : DTS} {E : DEnds} {env : EV} (I : Nat → EV → Prop) (m : Nat) (h0 : I m env)
    (step : ∀ m env, I m env → ∀ nx : EV → Prop, (∀ m' env', m' < m → I m' env' → nx env') → c env fun b => if b = true then body { nx := nx, ct := nx, bk := E.nx, rt := E.rt } env else E.nx env) : dWhile c body E env := by
  have key : ∀ (k m : Nat) (env : EV), m ≤ k → I m env → dWhileN c body E (k + 1) env := by
    intro k
    induction k with
    | zero =>
      intro m env hm h
      exact step m env h (dWhileN c body E 0) fun m' env' hlt _ => by omega
    | succ k ih =>
      intro m env hm h
      exact step m env h (dWhileN c body E (k + 1)) fun m' env' hlt h' => ih m' env' (by omega) h'
  exact ⟨m + 1, key m m env (Nat.le_refl _) h0⟩
theorem seq_by {t : DTE} {i : Nat} {u : DTS} {E : DEnds} {env : EV} (P : Sl → Prop) (h : ∀ Q : DK, (∀ s, P s → Q s) → t env Q) (k : ∀ s, P s → u E (env.set i (some s))) : dSeq (dSet t i) u E env := h _ k
end Pu
namespace Law
open PySem L2 PyProof.Rows RZ Pu
/-! ### dicts that tell which numbers are in -/
def kd (F : List Nat) : List (PyData × PyData) := F.map fun (i : Nat) => (PyData.int i, PyData.bool true)
theorem nodup_below {F : List Nat} {n : Nat} (nd : F.Nodup) (h : ∀ x ∈ F, x < n) : F.length ≤ n := by
  have key : ∀ (l D : List Nat), l.Nodup → (∀ x ∈ l, x ∈ D) → l.length ≤ D.length := by
    intro l
    induction l with
    | nil => intro _ _ _; exact Nat.zero_le _
    | cons x l ih =>
      intro D n h
      obtain ⟨n1, n2⟩ := List.nodup_cons.mp n
      have hx := h x List.mem_cons_self
      have i := ih (D.erase x) n2 fun y hy => (List.mem_erase_of_ne fun (e : y = x) => n1 (e ▸ hy)).mpr (h y (List.mem_cons_of_mem _ hy))
      rw [List.length_erase_of_mem hx] at i
      have := List.length_pos_of_mem hx
      rw [List.length_cons]; omega
  have := key F (List.range n) nd fun x hx => List.mem_range.mpr (h x hx)
  rwa [List.length_range] at this
/-! ### ascending lists -/
abbrev Asc (l : List Nat) : Prop := l.Pairwise (· < ·)
theorem asc_ext : ∀ {a b : List Nat}, Asc a → Asc b → (∀ x, x ∈ a ↔ x ∈ b) → a = b
  | [], [], _, _, _ => rfl
  | [], y :: b, _, _, h => by have := (h y).2 List.mem_cons_self; cases this
  | x :: a, [], _, _, h => by have := (h x).1 List.mem_cons_self; cases this
  | x :: a, y :: b, h1, h2, h => by
    obtain ⟨p1, q1⟩ := List.pairwise_cons.mp h1
    obtain ⟨p2, q2⟩ := List.pairwise_cons.mp h2
    have e : x = y := by
      rcases List.mem_cons.mp ((h x).1 List.mem_cons_self) with e | m1
      · exact e
      rcases List.mem_cons.mp ((h y).2 List.mem_cons_self) with e | m2
      · exact e.symm
      have := p2 x m1
      have := p1 y m2
      omega
    subst e
    rw [asc_ext q1 q2 fun z => ?_]
    constructor
    · intro hz
      rcases List.mem_cons.mp ((h z).1 (List.mem_cons_of_mem _ hz)) with e | m
      · have := p1 z hz; omega
      · exact m
    · intro hz
      rcases List.mem_cons.mp ((h z).2 (List.mem_cons_of_mem _ hz)) with e | m
      · have := p2 z hz; omega
      · exact m
abbrev natsD (l : List Nat) : List PyData := l.map fun (i : Nat) => PyData.int i
theorem natsD_int (l : List Nat) : natsD l = (l.map fun (i : Nat) => (i : Int)).map PyData.int := by unfold natsD; rw [List.map_map]; rfl
theorem intsD_map : ∀ l : List Int, intsD (l.map PyData.int) = some l
  | [] => rfl
  | x :: l => by show (intsD (l.map PyData.int)).map (x :: ·) = _; rw [intsD_map l]; rfl
theorem intsD_nats (l : List Nat) : intsD (natsD l) = some (l.map fun (i : Nat) => (i : Int)) := by rw [natsD_int, intsD_map]
/-- whole numbers that are all from 0 on -/
theorem nats_of : ∀ {ys : List Int}, (∀ y ∈ ys, 0 ≤ y) → ∃ zs : List Nat, ys = zs.map fun (i : Nat) => (i : Int)
  | [], _ => ⟨[], rfl⟩
  | y :: ys, h => by
    obtain ⟨zs, e⟩ := nats_of (ys := ys) fun z hz => h z (List.mem_cons_of_mem _ hz)
    have := h y List.mem_cons_self
    exact ⟨y.toNat :: zs, by rw [List.map_cons, ← e, Int.toNat_of_nonneg this]⟩
theorem asc_nat {zs : List Nat} (h : (zs.map fun (i : Nat) => (i : Int)).Pairwise (· < ·)) : Asc zs := by
  rw [List.pairwise_map] at h
  exact h.imp fun {a b} h => by omega
theorem mem_nat {zs : List Nat} {x : Nat} : (x : Int) ∈ (zs.map fun (i : Nat) => (i : Int)) ↔ x ∈ zs := by
  rw [List.mem_map]
  exact ⟨fun ⟨y, hy, e⟩ => by have : y = x := by omega
                              exact this ▸ hy, fun h => ⟨x, h, rfl⟩⟩
/-- sorted, of numbers from 0 on -/
theorem sorted_nats {ys : List Int} {zs : List Nat} (p : ys.Perm (zs.map fun (i : Nat) => (i : Int))) (h : ys.Pairwise (· ≤ ·)) (nd : zs.Nodup) : ∃ ws : List Nat, ys = (ws.map fun (i : Nat) => (i : Int)) ∧ Asc ws ∧ ∀ x, x ∈ ws ↔ x ∈ zs := by
  obtain ⟨ws, rfl⟩ := nats_of (ys := ys) fun y hy => by
    obtain ⟨z, _, rfl⟩ := List.mem_map.mp (p.mem_iff.mp hy); omega
  have m : ∀ x, x ∈ ws ↔ x ∈ zs := fun x => by rw [← mem_nat, p.mem_iff, mem_nat]
  have nz : (zs.map fun (i : Nat) => (i : Int)).Nodup := by
    have nd : zs.Pairwise (· ≠ ·) := nd
    exact List.pairwise_map.mpr (nd.imp fun {a b} h => by omega)
  exact ⟨ws, rfl, asc_nat (asc_of h (p.nodup_iff.mpr nz)), m⟩
/-! ### drawn sheets -/
structure Dr (ws : List Str) (s : List Ln) : Prop where
  ne : s ≠ []
  low : Low s
  lt : ∀ w, Ln.lt w ∈ s → w ∈ ws
theorem Dr.W {ws : List Str} {s : List Ln} (d : Dr ws s) : ∀ l ∈ s, l.W := fun l hl => by
  obtain ⟨k, hk⟩ := List.getElem?_of_mem hl
  exact (d.low k l hk).1
theorem Dr.put {ws : List Str} {o : Str} {s t : List Ln} (ho : o ∈ ops) (d : Dr ws s) (e : Dr ws t) : Dr ws (mPut o s t) ∧ (mPut o s t).length = s.length + t.length + 1 := by
  refine ⟨⟨by simp [mPut], put_low ho d.low e.low d.ne e.ne, fun w hw => ?_⟩, by simp [mPut]; omega⟩
  unfold mPut at hw
  rcases List.mem_append.mp hw with h | h
  · rcases List.mem_append.mp h with h | h
    · exact d.lt w h
    · obtain ⟨l, hl, el⟩ := List.mem_map.mp h
      rw [shift_letter el] at hl
      exact e.lt w hl
  · simp at h
theorem swap_letter {l : Ln} {w : Str} (h : l.swap = .lt w) : l = .lt w := by cases l <;> simp_all [Ln.swap]
theorem Dr.swap {ws : List Str} {s : List Ln} (d : Dr ws s) : Dr ws (s.map Ln.swap) := by
  refine ⟨by simpa using d.ne, fun k l h => ?_, fun w hw => ?_⟩
  · rw [List.getElem?_map] at h
    obtain ⟨m, hm, rfl⟩ := Option.map_eq_some_iff.mp h
    have := d.low k m hm
    exact ⟨swap_W m this.1, by rw [swap_mem]; exact this.2⟩
  · obtain ⟨l, hl, e⟩ := List.mem_map.mp hw
    rw [swap_letter e] at hl
    exact d.lt w hl
theorem sub_one {s : List Ln} (h : s ≠ []) : ((s.map lnD).length : Int) - 1 = ((s.length - 1 : Nat) : Int) := by
  have := List.length_pos_iff.mpr h
  rw [List.length_map]; omega
end Law

end

section
set_option maxHeartbeats 2000000
/-! ShD: needed lines; values by the members' values; parts; tidy sheets. -/
namespace Law
open PySem L2 PyProof.Rows RZ Pu
/-! ### needed -/
inductive Nd (s : List Ln) (k : Nat) : Nat → Prop
  | refl : Nd s k k
  | step {x n : Nat} {l : Ln} : Nd s k x → s[x]? = some l → n ∈ l.mem → Nd s k n
theorem needGo_nd {s : List Ln} (os : Low s) {k : Nat} : ∀ (j : Nat) (need : List Nat), j ≤ s.length → (∀ x ∈ need, Nd s k x) → ∀ x ∈ needGo s j need, Nd s k x
  | 0, _, _, h, x, hx => h x hx
  | j + 1, need, hj, h, x, hx => by
    refine needGo_nd os j _ (by omega) (fun y hy => ?_) x hx
    rcases List.mem_append.mp hy with hy | hy
    · exact h y hy
    · obtain ⟨l, hl⟩ : ∃ l, s[j]? = some l := ⟨_, List.getElem?_eq_getElem (by omega)⟩
      rw [getD_at hl] at hy
      have hm := List.mem_filter.mp hy
      have jn : j ∈ need := by
        have := hm.2
        simp only [Bool.and_eq_true, decide_eq_true_eq] at this
        exact this.1
      exact .step (h j jn) hl hm.1
theorem need_nd {s : List Ln} (os : Low s) {k : Nat} (hk : k < s.length) (x : Nat) : x ∈ mNeed s k ↔ Nd s k x := by
  refine ⟨needGo_nd os (k + 1) [k] (by omega) (fun y hy => by rw [List.mem_singleton.mp hy]; exact .refl) x, fun h => ?_⟩
  induction h with
  | refl => exact mNeed_self s k
  | step _ h1 h2 ih => exact mNeed_closed os hk _ ih _ h1 _ h2
theorem nd_front {s : List Ln} {k x : Nat} (h : Nd s k x) : x = k ∨ ∃ l n, s[k]? = some l ∧ n ∈ l.mem ∧ Nd s n x := by
  induction h with
  | refl => exact .inl rfl
  | step _ h1 h2 ih =>
    rcases ih with e | ⟨l, n, a, b, c⟩
    · subst e; exact .inr ⟨_, _, h1, h2, .refl⟩
    · exact .inr ⟨l, n, a, b, .step c h1 h2⟩
theorem nd_le {s : List Ln} (os : Low s) {k x : Nat} (h : Nd s k x) : x ≤ k := by
  induction h with
  | refl => exact Nat.le_refl _
  | step _ h1 h2 ih => have := (os _ _ h1).2 _ h2; omega
theorem needL_nd {s : List Ln} (os : Low s) {k : Nat} (hk : k < s.length) (x : Nat) : x ∈ mNeedL s k ↔ Nd s k x := (needL_mem os hk x).trans (need_nd os hk x)
/-! ### what comes of the members' values -/
structure Fold (α : Type) where
  dft : α
  step : Ln → (Nat → α) → α
  congr : ∀ (l : Ln) (g h : Nat → α), (∀ i ∈ l.mem, g i = h i) → step l g = step l h
  ren : ∀ (l : Ln) (f : Nat → Nat) (g : Nat → α), step (l.ren f) g = step l fun i => g (f i)
def Fold.go {α : Type} (F : Fold α) (s : List Ln) : Nat → Nat → α
  | 0, _ => F.dft
  | n + 1, k => F.step (s.getD k .yes) (F.go s n)
def Fold.val {α : Type} (F : Fold α) (s : List Ln) (k : Nat) : α := F.go s (k + 1) k
theorem Fold.go_eq {α : Type} (F : Fold α) {s : List Ln} (os : Low s) : ∀ (n m k : Nat), k < n → k < m → k < s.length → F.go s n k = F.go s m k
  | 0, _, _, h, _, _ => by omega
  | _ + 1, 0, _, _, h, _ => by omega
  | n + 1, m + 1, k, h1, h2, hk => by
    obtain ⟨l, hl⟩ : ∃ l, s[k]? = some l := ⟨_, List.getElem?_eq_getElem hk⟩
    show F.step (s.getD k .yes) (F.go s n) = F.step (s.getD k .yes) (F.go s m)
    rw [getD_at hl]
    refine F.congr l _ _ fun i hi => ?_
    have := (os k l hl).2 i hi
    exact F.go_eq os n m i (by omega) (by omega) (by omega)
theorem Fold.eq {α : Type} (F : Fold α) {s : List Ln} (os : Low s) {k : Nat} {l : Ln} (hl : s[k]? = some l) : F.val s k = F.step l (F.val s) := by
  have hk := (List.getElem?_eq_some_iff.mp hl).1
  show F.step (s.getD k .yes) (F.go s k) = _
  rw [getD_at hl]
  refine F.congr l _ _ fun i hi => ?_
  have := (os k l hl).2 i hi
  exact F.go_eq os k (i + 1) i this (by omega) (by omega)
theorem Fold.like {α : Type} (F : Fold α) {s t : List Ln} (os : Low s) (ot : Low t) {P : Nat → Prop} {f : Nat → Nat} (h : ∀ i, P i → ∃ l, s[i]? = some l ∧ t[f i]? = some (l.ren f) ∧ ∀ m ∈ l.mem, P m) : ∀ (i : Nat), P i → F.val t (f i) = F.val s i := by
  intro i
  induction i using Nat.strongRecOn with
  | ind i ih =>
    intro hi
    obtain ⟨l, h1, h2, h3⟩ := h i hi
    rw [F.eq ot h2, F.eq os h1, F.ren]
    exact F.congr l _ _ fun m hm => ih m ((os i l h1).2 m hm) (h3 m hm)
theorem Fold.pre {α : Type} (F : Fold α) {s t : List Ln} (os : Low (s ++ t)) {i : Nat} (hi : i < s.length) : F.val (s ++ t) i = F.val s i := by
  have o1 : Low s := fun k l h => os k l (by rw [List.getElem?_append_left (List.getElem?_eq_some_iff.mp h).1]; exact h)
  refine F.like (f := id) o1 os (P := fun i => i < s.length) (fun i hi => ?_) i hi
  obtain ⟨l, hl⟩ : ∃ l, s[i]? = some l := ⟨_, List.getElem?_eq_getElem hi⟩
  refine ⟨l, hl, ?_, fun m hm => ?_⟩
  · rw [show l.ren id = l by cases l <;> rfl]
    show (s ++ t)[i]? = _
    rw [List.getElem?_append_left hi]; exact hl
  · have := (o1 i l hl).2 m hm; omega
/-- how high a line stands -/
def hgtF : Fold Nat where
  dft := 0
  step := fun l g => l.mem.foldl (fun a i => max a (g i)) 0 + 1
  congr := fun l g h e => by cases l <;> simp_all [Ln.mem]
  ren := fun l f g => by cases l <;> simp [Ln.mem, Ln.ren]
theorem hgt_mem {s : List Ln} (os : Low s) {k n : Nat} {l : Ln} (hl : s[k]? = some l) (hn : n ∈ l.mem) : hgtF.val s n < hgtF.val s k := by
  rw [hgtF.eq os hl]
  show _ < l.mem.foldl (fun a i => max a (hgtF.val s i)) 0 + 1
  cases l with
  | lt w => cases hn
  | yes => cases hn
  | un i => simp [Ln.mem] at hn; subst hn; simp [Ln.mem]
  | bi o i j =>
    simp [Ln.mem] at hn
    rcases hn with rfl | rfl
    · simp [Ln.mem]; omega
    · simp [Ln.mem]; omega
theorem hgt_nd {s : List Ln} (os : Low s) {k x : Nat} (h : Nd s k x) : x = k ∨ hgtF.val s x < hgtF.val s k := by
  induction h with
  | refl => exact .inl rfl
  | step _ h1 h2 ih =>
    have := hgt_mem os h1 h2
    rcases ih with e | h
    · subst e; exact .inr this
    · exact .inr (by omega)
/-! ### lines that are equal -/
instance : DecidableEq Ln := fun a b => by
  cases a <;> cases b <;> simp <;> infer_instance
theorem okD1_list {xs : List PyData} (h : ∀ x ∈ xs, okD1 x ∧ x.depth ≤ 10) : okD1 (.list xs) := by
  refine ⟨?_, ?_⟩
  · simp only [PyData.hasDict]
    induction xs with
    | nil => rfl
    | cons x xs ih => simp only [PyData.hasDictAll, (h x List.mem_cons_self).1.1, Bool.false_or]; exact ih fun y hy => h y (List.mem_cons_of_mem _ hy)
  · have := depthAll_le (xs := xs) (n := 10) fun x hx => (h x hx).2
    unfold SeqAt.shaped
    refine Bool.and_eq_true_iff.mpr ⟨canLayAll_iff.mpr fun x hx => ?_, decide_eq_true ?_⟩
    · have := (h x hx).1.2
      unfold SeqAt.shaped at this
      exact (Bool.and_eq_true_iff.mp this).1
    · simp only [PyData.depth]; omega
theorem asc_nodup' {l : List Nat} (h : l.Pairwise (· < ·)) : l.Nodup := (h.imp fun {a b} h => Nat.ne_of_lt h : l.Pairwise (· ≠ ·))
/-! ### tidy sheets -/
/-- t is s made tidy: f tells where the lines are that the last one needs -/
structure Tidy (s t : List Ln) (f : Nat → Nat) : Prop where
  ne : t ≠ []
  low : Low t
  len : t.length ≤ s.length
  lt : ∀ w, Ln.lt w ∈ t → Ln.lt w ∈ s
  at_ : ∀ i, Nd s (s.length - 1) i → ∃ l, s[i]? = some l ∧ t[f i]? = some (l.ren f)
  last : f (s.length - 1) = t.length - 1
theorem ren_congr {l : Ln} {f g : Nat → Nat} (h : ∀ m ∈ l.mem, f m = g m) : l.ren f = l.ren g := by cases l <;> simp_all [Ln.ren, Ln.mem]
theorem ren_ren (l : Ln) (f g : Nat → Nat) : (l.ren f).ren g = l.ren fun i => g (f i) := by cases l <;> rfl
theorem ren_lt {l : Ln} {f : Nat → Nat} {w : Str} (h : l.ren f = .lt w) : l = .lt w := by cases l <;> simp_all [Ln.ren]
theorem plD_snoc {pl : List Nat} {x i : Nat} (h : i < pl.length) : (pl ++ [x]).getD i 0 = pl.getD i 0 := by
  rw [List.getD_eq_getElem?_getD, List.getD_eq_getElem?_getD, List.getElem?_append_left h]
theorem plD_snoc' {pl : List Nat} {x : Nat} : (pl ++ [x]).getD pl.length 0 = x := by
  rw [List.getD_eq_getElem?_getD, List.getElem?_append_right (Nat.le_refl _), Nat.sub_self]; rfl
/-- so many lines of p are told anew in t, each at its place -/
structure TInv (p : List Ln) (j : Nat) (t : List Ln) (pl : List Nat) : Prop where
  lp : pl.length = j
  nd : t.Nodup
  at_ : ∀ i, i < j → ∃ l, p[i]? = some l ∧ t[pl.getD i 0]? = some (l.ren fun m => pl.getD m 0)
  low : Low t
  fr : ∀ q, q < t.length → ∃ i, i < j ∧ pl.getD i 0 = q
  new : ∀ i, i < j → (∃ i', i' < i ∧ pl.getD i' 0 = pl.getD i 0) ∨ ∀ i', i' < i → pl.getD i' 0 < pl.getD i 0
  len : t.length ≤ j
  lt : ∀ w, Ln.lt w ∈ t → Ln.lt w ∈ p
theorem TInv.zero (p : List Ln) : TInv p 0 [] [] := ⟨rfl, List.nodup_nil, fun i h => by omega, fun k l h => by simp at h, fun q h => by simp at h, fun i h => by omega, Nat.le_refl _, fun w h => by cases h⟩
theorem TInv.place {p : List Ln} {j : Nat} {t : List Ln} {pl : List Nat} (h : TInv p j t pl) {i : Nat} (hi : i < j) : pl.getD i 0 < t.length := by
  obtain ⟨l, _, e⟩ := h.at_ i hi
  exact (List.getElem?_eq_some_iff.mp e).1
theorem TInv.more {p : List Ln} (op : Low p) {j : Nat} {t : List Ln} {pl : List Nat} (h : TInv p j t pl) {l : Ln} (hl : p[j]? = some l) {t' : List Ln} (ht : t' = if (l.ren fun m => pl.getD m 0) ∈ t then t else t ++ [l.ren fun m => pl.getD m 0]) :
    TInv p (j + 1) t' (pl ++ [t'.idxOf (l.ren fun m => pl.getD m 0)]) := by
  have hm : ∀ m ∈ l.mem, m < j := (op j l hl).2
  obtain ⟨l', el'⟩ : ∃ l', l' = l.ren fun m => pl.getD m 0 := ⟨_, rfl⟩
  rw [← el'] at ht ⊢
  have hin : l' ∈ t' := by rw [ht]; split; assumption; simp
  have ix : t'[t'.idxOf l']? = some l' := by rw [List.getElem?_eq_getElem (List.idxOf_lt_length_iff.mpr hin), List.getElem_idxOf]
  have pre : ∀ q, q < t.length → t'[q]? = t[q]? := fun q hq => by
    rw [ht]; split
    · rfl
    · rw [List.getElem?_append_left hq]
  have cg : ∀ i, i ≤ j → ∀ m ∈ (p.getD i .yes).mem, (pl ++ [t'.idxOf l']).getD m 0 = pl.getD m 0 := fun i hi m hmm => by
    refine plD_snoc ?_
    rw [h.lp]
    cases e : p[i]? with
    | none => rw [List.getD_eq_getElem?_getD, e] at hmm; cases hmm
    | some li => rw [getD_at e] at hmm; have := (op i li e).2 m hmm; omega
  have lW : l'.W := by rw [el']; exact ren_W (op j l hl).1 _
  refine ⟨by rw [List.length_append, h.lp]; rfl, ?_, fun i hi => ?_, ?_, fun q hq => ?_, fun i hi => ?_, ?_, fun w hw => ?_⟩
  · rw [ht]; split
    · exact h.nd
    · rename_i c
      exact List.nodup_append.mpr ⟨h.nd, by simp, fun x hx y hy e => by rw [List.mem_singleton.mp hy] at e; subst e; exact c hx⟩
  · rcases Nat.lt_or_ge i j with c | c
    · obtain ⟨li, h1, h2⟩ := h.at_ i c
      refine ⟨li, h1, ?_⟩
      rw [plD_snoc (by rw [h.lp]; exact c), pre _ (h.place c), h2]
      have := cg i (by omega)
      rw [getD_at h1] at this
      rw [ren_congr this]
    · have e : i = j := by omega
      subst e
      refine ⟨l, hl, ?_⟩
      rw [show (pl ++ [t'.idxOf l']).getD i 0 = t'.idxOf l' by rw [← h.lp]; exact plD_snoc', ix, el']
      have := cg i (Nat.le_refl _)
      rw [getD_at hl, el'] at this
      rw [ren_congr this]
  · rw [ht]; split
    · exact h.low
    · refine low_snoc h.low ⟨lW, fun i hi => ?_⟩
      rw [el'] at hi
      obtain ⟨m, hmm, rfl⟩ := ren_mem hi
      exact h.place (hm m hmm)
  · rcases Nat.lt_or_ge q t.length with c | c
    · obtain ⟨i, h1, h2⟩ := h.fr q c
      exact ⟨i, by omega, by rw [plD_snoc (by rw [h.lp]; exact h1)]; exact h2⟩
    · refine ⟨j, by omega, ?_⟩
      rw [show (pl ++ [t'.idxOf l']).getD j 0 = t'.idxOf l' by rw [← h.lp]; exact plD_snoc']
      rw [ht] at hq ⊢
      split at hq
      · omega
      · rename_i d
        rw [if_neg d]
        rw [List.length_append, List.length_singleton] at hq
        have : q = t.length := by omega
        rw [this, List.idxOf_append, if_neg d]
        simp
  · rcases Nat.lt_or_ge i j with c | c
    · rw [plD_snoc (by rw [h.lp]; exact c)]
      rcases h.new i c with ⟨i', h1, h2⟩ | h1
      · exact .inl ⟨i', h1, by rw [plD_snoc (by rw [h.lp]; omega)]; exact h2⟩
      · exact .inr fun i' hi' => by rw [plD_snoc (by rw [h.lp]; omega)]; exact h1 i' hi'
    · have e : i = j := by omega
      subst e
      rw [show (pl ++ [t'.idxOf l']).getD i 0 = t'.idxOf l' by rw [← h.lp]; exact plD_snoc']
      by_cases d : l' ∈ t
      · rw [if_pos d] at ht
        subst ht
        obtain ⟨i', h1, h2⟩ := h.fr _ (List.idxOf_lt_length_iff.mpr d)
        exact .inl ⟨i', h1, by rw [plD_snoc (by rw [h.lp]; exact h1)]; exact h2⟩
      · rw [if_neg d] at ht
        refine .inr fun i' hi' => ?_
        rw [plD_snoc (by rw [h.lp]; exact hi'), ht, List.idxOf_append, if_neg d]
        have := h.place hi'
        omega
  · rw [ht]; split
    · have := h.len; omega
    · rw [List.length_append, List.length_singleton]; have := h.len; omega
  · rw [ht] at hw
    split at hw
    · exact h.lt w hw
    · rcases List.mem_append.mp hw with hw | hw
      · exact h.lt w hw
      · have e := List.mem_singleton.mp hw
        rw [el'] at e
        have := ren_lt e.symm
        rw [← this]
        exact List.mem_of_getElem? hl
theorem TInv.last {p : List Ln} (op : Low p) (ne : p ≠ []) {t : List Ln} {pl : List Nat} (h : TInv p p.length t pl) (all : ∀ i, i < p.length → Nd p (p.length - 1) i) : t ≠ [] ∧ pl.getD (p.length - 1) 0 = t.length - 1 := by
  have pos := List.length_pos_iff.mpr ne
  have tp := h.place (i := p.length - 1) (by omega)
  refine ⟨fun e => by rw [e] at tp; simp at tp, ?_⟩
  obtain ⟨i, h1, h2⟩ := h.fr (t.length - 1) (by omega)
  by_cases c : i = p.length - 1
  · rw [← c]; exact h2
  exfalso
  rcases h.new (p.length - 1) (by omega) with ⟨i', g1, g2⟩ | g
  · have hl := hgtF.like op h.low (P := fun i => i < p.length) (f := fun i => pl.getD i 0) (fun i hi => by
      obtain ⟨l, a, b⟩ := h.at_ i hi
      exact ⟨l, a, b, fun m hm => by have := (op i l a).2 m hm; omega⟩)
    have e1 := hl i' (by omega)
    have e2 := hl (p.length - 1) (by omega)
    have e3 : hgtF.val t (pl.getD i' 0) = hgtF.val t (pl.getD (p.length - 1) 0) := by rw [g2]
    have := (hgt_nd op (all i' (by omega))).resolve_left (by omega)
    omega
  · have := g i (by omega)
    omega
/-- the part of a sheet for its last line, then made tidy -/
theorem tidy_of {s : List Ln} (os : Low s) (ne : s ≠ []) {t : List Ln} {pl : List Nat} (h : TInv (mPart s (mNeedL s (s.length - 1))) (mPart s (mNeedL s (s.length - 1))).length t pl) : Tidy s t fun i => pl.getD ((mNeedL s (s.length - 1)).idxOf i) 0 := by
  have pos := List.length_pos_iff.mpr ne
  obtain ⟨kp, kl⟩ := need_kept os (show s.length - 1 < s.length by omega) (needL_asc s (s.length - 1)) (needL_mem os (by omega))
  obtain ⟨ys, ey⟩ : ∃ ys, ys = mNeedL s (s.length - 1) := ⟨_, rfl⟩
  rw [← ey] at h kp kl ⊢
  have op := part_low os kp
  have lp : (mPart s ys).length = ys.length := by unfold mPart; rw [List.length_map]
  have yp : 0 < ys.length := by
    exact Nat.lt_of_le_of_lt (Nat.zero_le _) (List.getElem?_eq_some_iff.mp kl).1
  have nd : ∀ i, i ∈ ys ↔ Nd s (s.length - 1) i := fun i => by rw [ey]; exact needL_nd os (by omega) i
  have at1 : ∀ i, i ∈ ys → ∃ l, s[i]? = some l ∧ (mPart s ys)[ys.idxOf i]? = some (l.ren fun n => ys.idxOf n) := fun i hi => by
    obtain ⟨l, hl⟩ : ∃ l, s[i]? = some l := ⟨_, List.getElem?_eq_getElem (kp.lt i hi)⟩
    exact ⟨l, hl, part_at (ix_of hi) hl⟩
  have li : ys.idxOf (s.length - 1) = ys.length - 1 := asc_idx kp.asc kl
  -- all lines of the part are needed
  have go : ∀ i, Nd s (s.length - 1) i → Nd (mPart s ys) (ys.length - 1) (ys.idxOf i) := fun i hi => by
    induction hi with
    | refl => rw [li]; exact .refl
    | step a h1 h2 ih =>
      rename_i x n l
      obtain ⟨l2, e1, e2⟩ := at1 x ((nd x).2 a)
      rw [h1] at e1; cases e1
      refine .step ih e2 ?_
      cases l with
      | lt w => cases h2
      | yes => cases h2
      | un i => simp [Ln.mem] at h2; subst h2; simp [Ln.ren, Ln.mem]
      | bi o i j => simp [Ln.mem] at h2; rcases h2 with rfl | rfl <;> simp [Ln.ren, Ln.mem]
  have all : ∀ i, i < (mPart s ys).length → Nd (mPart s ys) ((mPart s ys).length - 1) i := fun i hi => by
    rw [lp] at hi ⊢
    have hy : ys[i] ∈ ys := List.getElem_mem hi
    have e : ys.idxOf ys[i] = i := asc_idx kp.asc (List.getElem?_eq_getElem hi)
    have := go _ ((nd _).1 hy)
    rwa [e] at this
  have pne : mPart s ys ≠ [] := fun e => by rw [e] at lp; simp at lp; omega
  obtain ⟨tn, tl⟩ := h.last op pne all
  refine ⟨tn, h.low, ?_, fun w hw => ?_, fun i hi => ?_, ?_⟩
  · have := h.len
    have := nodup_below (asc_nodup' kp.asc) kp.lt
    omega
  · have := h.lt w hw
    unfold mPart at this
    obtain ⟨k, hk, e⟩ := List.mem_map.mp this
    have e := ren_lt e
    rw [← e]
    obtain ⟨l, hl⟩ : ∃ l, s[k]? = some l := ⟨_, List.getElem?_eq_getElem (kp.lt k hk)⟩
    rw [getD_at hl]
    exact List.mem_of_getElem? hl
  · obtain ⟨l, e1, e2⟩ := at1 i ((nd i).2 hi)
    refine ⟨l, e1, ?_⟩
    obtain ⟨l2, g1, g2⟩ := h.at_ (ys.idxOf i) (List.getElem?_eq_some_iff.mp e2).1
    rw [e2] at g1; cases g1
    rw [ren_ren] at g2
    exact g2
  · show pl.getD (ys.idxOf (s.length - 1)) 0 = _
    rw [li, ← lp]; exact tl
def m_needed_by_all : FN := fun ss R => ∃ (s : List Ln) (k : Nat), ss = [.d (sheetD s), .d (.list [.int k])] ∧ Low s ∧ k < s.length ∧ s.length < 1000000 ∧ R (.own (natsD (mNeedL s k)))
end Law

end

section
set_option maxHeartbeats 2000000
/-! Ms28: turns. -/
namespace Law
open PySem L2 PyProof.Rows RZ Pu
def ctW (o : Str) (c : Nat) : Nat := if (o = "until" ∧ c = 1) ∨ (o = "since" ∧ c = 0) then 1 else 0
def tnStep : Ln → (Nat → Nat → Nat) → Nat → Nat
  | .lt _, _ => fun _ => 0
  | .yes, _ => fun _ => 0
  | .un i, g => g i
  | .bi o i j, g => if o = "until" then fun c => max (g i 0) (g j 0) + ctW "until" c else if o = "since" then fun c => max (g i 1) (g j 1) + ctW "since" c else fun c => max (g i c) (g j c)
theorem tnS_bi (o : Str) (i j : Nat) (g : Nat → Nat → Nat) : tnStep (.bi o i j) g = if o = "until" then fun c => max (g i 0) (g j 0) + ctW "until" c else if o = "since" then fun c => max (g i 1) (g j 1) + ctW "since" c else fun c => max (g i c) (g j c) := rfl
def tnF : Fold (Nat → Nat) where
  dft := fun _ => 0
  step := tnStep
  congr := fun l g h e => by
    cases l with
    | lt w => rfl
    | yes => rfl
    | un i => exact e i (by simp [Ln.mem])
    | bi o i j => rw [tnS_bi, tnS_bi, e i (by simp [Ln.mem]), e j (by simp [Ln.mem])]
  ren := fun l f g => by cases l <;> rfl
abbrev tn (s : List Ln) (k c : Nat) : Nat := tnF.val s k c
def Ln.look (l : Ln) : Prop := l.word = "until" ∨ l.word = "since"
instance (l : Ln) : Decidable l.look := by unfold Ln.look; infer_instance
theorem us_ne : ("until" : Str) ≠ "since" ∧ ("since" : Str) ≠ "until" ∧ ("" : Str) ≠ "until" ∧ ("" : Str) ≠ "since" := by decide +kernel
theorem ct_u0 : ctW "until" 0 = 0 := by decide +kernel
theorem ct_u1 : ctW "until" 1 = 1 := by decide +kernel
theorem ct_s0 : ctW "since" 0 = 1 := by decide +kernel
theorem ct_s1 : ctW "since" 1 = 0 := by decide +kernel
theorem ct_e (c : Nat) : ctW "" c = 0 := by unfold ctW; rw [if_neg (by simp [us_ne.2.2.1, us_ne.2.2.2])]
theorem at_low {s : List Ln} {k : Nat} (hk : k < s.length) : ∃ l, s[k]? = some l := ⟨_, List.getElem?_eq_getElem hk⟩
theorem lt_of_at {s : List Ln} {k : Nat} {l : Ln} (hl : s[k]? = some l) : k < s.length := (List.getElem?_eq_some_iff.mp hl).1
/-! ### own dicts by numbers -/
def kvD (f : Nat → PyData) (F : List Nat) : List (PyData × PyData) := F.map fun (i : Nat) => (PyData.int i, f i)
theorem kv_get {f : Nat → PyData} {F : List Nat} {i : Nat} (h : i ∈ F) : getP (kvD f F) (.inl (i : Nat)) = some (f i) := by
  unfold getP kvD
  induction F with
  | nil => cases h
  | cons x F ih =>
    rw [List.map_cons, List.find?_cons]
    by_cases c : x = i
    · subst c
      have : isKey (PyData.int (x : Int)) (.inl (x : Int)) = true := by show decide _ = true; simp
      rw [this]; rfl
    · have : isKey (PyData.int (x : Int)) (.inl (i : Int)) = false := by show decide _ = false; simp; omega
      rw [this]
      rcases List.mem_cons.mp h with e | h
      · exact absurd e.symm c
      · exact ih h
theorem kv_any {f : Nat → PyData} {F : List Nat} {i : Nat} : (kvD f F).any (fun p => isKey p.1 (.inl (i : Nat))) = decide (i ∈ F) := by
  unfold kvD
  induction F with
  | nil => rfl
  | cons x F ih =>
    rw [List.map_cons, List.any_cons, ih]
    show (decide ((x : Int) = (i : Int)) || decide (i ∈ F)) = decide (i ∈ x :: F)
    by_cases c : x = i
    · subst c; simp
    · have : ¬ ((x : Int) = (i : Int)) := by omega
      have c' : ¬ i = x := fun e => c e.symm
      simp [this, c']
theorem kv_put {f : Nat → PyData} {F : List Nat} {i : Nat} (h : i ∉ F) : putP (kvD f F) (.inl (i : Nat)) (f i) = kvD f (F ++ [i]) := by
  unfold putP
  rw [kv_any, decide_eq_false h, if_neg Bool.false_ne_true]
  unfold kvD
  rw [List.map_append]; rfl
theorem asc_take {l : List Nat} (h : Asc l) {j x y : Nat} (hj : l[j]? = some y) (hx : x ∈ l) (lt : x < y) : x ∈ l.take j := by
  obtain ⟨i, hi⟩ := List.getElem?_of_mem hx
  rcases Nat.lt_or_ge i j with c | c
  · exact List.mem_of_getElem? (i := i) (by rw [List.getElem?_take, if_pos c]; exact hi)
  · exfalso
    obtain ⟨a1, a2⟩ := List.getElem?_eq_some_iff.mp hi
    obtain ⟨b1, b2⟩ := List.getElem?_eq_some_iff.mp hj
    rcases Nat.lt_or_ge j i with d | d
    · have := List.pairwise_iff_getElem.mp h j i b1 a1 d
      omega
    · have : i = j := by omega
      subst this; omega
theorem asc_take' {l : List Nat} (h : Asc l) {j y : Nat} (hj : l[j]? = some y) : y ∉ l.take j := fun hm => by
  obtain ⟨i, hi⟩ := List.getElem?_of_mem hm
  rw [List.getElem?_take] at hi
  split at hi
  · rename_i c
    obtain ⟨a1, a2⟩ := List.getElem?_eq_some_iff.mp hi
    obtain ⟨b1, b2⟩ := List.getElem?_eq_some_iff.mp hj
    have := List.pairwise_iff_getElem.mp h i j a1 b1 c
    omega
  · cases hi
/-- a ladder so far -/
structure Lad (s : List Ln) (w : Str) (n : Nat) : Prop where
  low : Low s
  fst : s[0]? = some (.lt "a")
  lt : ∀ w, Ln.lt w ∈ s → w = "a"
  w_ : w = "" ∨ w = "until" ∨ w = "since"
  z : w = "" → n = 0
  tn_ : ∀ c, tn s (s.length - 1) c = n + ctW w c
theorem Lad.ne {s : List Ln} {w : Str} {n : Nat} (h : Lad s w n) : s ≠ [] := fun e => by have := h.fst; rw [e] at this; cases this
theorem Lad.t0 {s : List Ln} {w : Str} {n : Nat} (h : Lad s w n) {l : Ln} (os : Low (s ++ [l])) (c : Nat) : tn (s ++ [l]) 0 c = 0 ∧ tn (s ++ [l]) (s.length - 1) c = n + ctW w c := by
  have := List.length_pos_iff.mpr h.ne
  refine ⟨?_, ?_⟩
  · have := tnF.eq os (k := 0) (l := .lt "a") (by rw [List.getElem?_append_left this]; exact h.fst)
    exact congrFun this c
  · show tnF.val _ _ c = _
    rw [tnF.pre os (by omega)]
    exact h.tn_ c
/-- one more look -/
theorem Lad.look {s : List Ln} {w : Str} {n : Nat} (h : Lad s w n) {o : Str} (ho : o = "until" ∨ o = "since") {i j : Nat} (hij : (i = s.length - 1 ∧ j = 0) ∨ (i = 0 ∧ j = s.length - 1)) : Lad (s ++ [.bi o i j]) o (n + if w ≠ "" ∧ w ≠ o then 1 else 0) := by
  have pos := List.length_pos_iff.mpr h.ne
  have ow : o ∈ ops := by rcases ho with rfl | rfl <;> decide +kernel
  obtain ⟨u1, u2, u3, u4⟩ := us_ne
  have low : Low (s ++ [.bi o i j]) := low_snoc h.low ⟨ow, fun x hx => by simp [Ln.mem] at hx; omega⟩
  refine ⟨low, by rw [List.getElem?_append_left pos]; exact h.fst, fun v hv => ?_, .inr ho, fun e => ?_, fun c => ?_⟩
  · rcases List.mem_append.mp hv with hv | hv
    · exact h.lt v hv
    · simp at hv
  · rcases ho with rfl | rfl
    · exact absurd e.symm u3
    · exact absurd e.symm u4
  · rw [List.length_append, List.length_singleton, Nat.add_sub_cancel]
    have e : tnF.val (s ++ [.bi o i j]) s.length c = tnStep (.bi o i j) (tnF.val (s ++ [.bi o i j])) c := congrFun (tnF.eq low (k := s.length) (l := .bi o i j) (by rw [List.getElem?_append_right (Nat.le_refl _), Nat.sub_self]; rfl)) c
    have t := fun c => h.t0 low c
    show tnF.val _ _ c = _
    rw [e]
    rw [tnS_bi]
    have mx : ∀ c, max (tnF.val (s ++ [.bi o i j]) i c) (tnF.val (s ++ [.bi o i j]) j c) = n + ctW w c := fun c => by
      have t1 : tnF.val (s ++ [.bi o i j]) 0 c = 0 := (t c).1
      have t2 : tnF.val (s ++ [.bi o i j]) (s.length - 1) c = n + ctW w c := (t c).2
      rcases hij with ⟨rfl, rfl⟩ | ⟨rfl, rfl⟩
      · rw [t1, t2]; omega
      · rw [t1, t2]; omega
    rcases ho with rfl | rfl
    · rw [if_pos rfl]
      show max _ _ + ctW "until" c = _
      rw [mx 0]
      congr 2
      rcases h.w_ with rfl | rfl | rfl
      · rw [ct_e, if_neg (by simp)]
      · rw [ct_u0, if_neg (by simp)]
      · rw [ct_s0, if_pos ⟨u4.symm, u2⟩]
    · rw [if_neg u2, if_pos rfl]
      show max _ _ + ctW "since" c = _
      rw [mx 1]
      congr 2
      rcases h.w_ with rfl | rfl | rfl
      · rw [ct_e, if_neg (by simp)]
      · rw [ct_u1, if_pos ⟨u3.symm, u1⟩]
      · rw [ct_s1, if_neg (by simp)]
/-- one more line between -/
theorem Lad.more {s : List Ln} {w : Str} {n : Nat} (h : Lad s w n) {l : Ln} (hl : l = .un (s.length - 1) ∨ l = .bi "or" (s.length - 1) 0 ∨ l = .bi "and" 0 (s.length - 1)) : Lad (s ++ [l]) w n := by
  have pos := List.length_pos_iff.mpr h.ne
  have low : Low (s ++ [l]) := low_snoc h.low (by
    rcases hl with rfl | rfl | rfl
    · exact ⟨trivial, fun x hx => by simp [Ln.mem] at hx; omega⟩
    · exact ⟨by show ("or" : Str) ∈ ops; decide +kernel, fun x hx => by simp [Ln.mem] at hx; omega⟩
    · exact ⟨by show ("and" : Str) ∈ ops; decide +kernel, fun x hx => by simp [Ln.mem] at hx; omega⟩)
  refine ⟨low, by rw [List.getElem?_append_left pos]; exact h.fst, fun v hv => ?_, h.w_, h.z, fun c => ?_⟩
  · rcases List.mem_append.mp hv with hv | hv
    · exact h.lt v hv
    · rcases hl with rfl | rfl | rfl <;> simp at hv
  · rw [List.length_append, List.length_singleton, Nat.add_sub_cancel]
    have e : tnF.val (s ++ [l]) s.length c = tnStep l (tnF.val (s ++ [l])) c := congrFun (tnF.eq low (k := s.length) (l := l) (by rw [List.getElem?_append_right (Nat.le_refl _), Nat.sub_self]; rfl)) c
    obtain ⟨t1, t2⟩ := h.t0 low c
    have t1 : tnF.val (s ++ [l]) 0 c = 0 := t1
    have t2 : tnF.val (s ++ [l]) (s.length - 1) c = n + ctW w c := t2
    have k : ("or" : Str) ≠ "until" ∧ ("or" : Str) ≠ "since" ∧ ("and" : Str) ≠ "until" ∧ ("and" : Str) ≠ "since" := by decide +kernel
    show tnF.val _ _ c = _
    rw [e]
    rcases hl with rfl | rfl | rfl
    · exact t2
    · rw [tnS_bi, if_neg k.1, if_neg k.2.1]
      show max (tnF.val _ _ c) (tnF.val _ _ c) = _
      rw [t1, t2]; omega
    · rw [tnS_bi, if_neg k.2.2.1, if_neg k.2.2.2]
      show max (tnF.val _ _ c) (tnF.val _ _ c) = _
      rw [t1, t2]; omega
/-! ### numbers in lists -/
theorem any_nats {l : List Nat} {i : Nat} : ((natsD l).any fun y => PyData.eqv y (.int (i : Nat))) = decide (i ∈ l) := by
  induction l with
  | nil => rfl
  | cons x l ih =>
    show (PyData.eqv (.int (x : Int)) (.int (i : Int)) || (natsD l).any fun y => PyData.eqv y (.int (i : Nat))) = _
    rw [ih]
    by_cases c : x = i
    · subst c; simp [PyData.eqv]
    · have c' : ¬ i = x := fun e => c e.symm
      have : ¬ ((x : Int) = (i : Int)) := by omega
      simp [PyData.eqv, c, c', this]
theorem flat_nats {l : List Nat} : (natsD l).all flatD = true := by
  induction l with
  | nil => rfl
  | cons x l ih => exact ih
theorem inN_not {i : Nat} {l : List Nat} {Q : DK} (h : Q (.d (.bool (!decide (i ∈ l))))) : fInQ true (.d (.int (i : Nat))) (.d (.list (natsD l))) Q :=
  ⟨rfl, flat_nats, by show Q (.d (.bool (!((natsD l).any fun y => PyData.eqv y (.int (i : Nat)))))); rw [any_nats]; exact h⟩
theorem inN_f {i : Nat} {l : List Nat} {P : Bool → Prop} (h : P (!decide (i ∈ l))) : fInQ true (.d (.int (i : Nat))) (.d (.list (natsD l))) (fun s => ∃ b, s.fz = .d (.bool b) ∧ P b) := inN_not ⟨_, rfl, h⟩
theorem pl_at {pl : List Nat} {n : Nat} (h : n < pl.length) : (natsD pl)[n]? = some (.int (pl.getD n 0 : Nat)) := by
  rw [show natsD pl = pl.map fun (i : Nat) => PyData.int i from rfl, List.getElem?_map, List.getD_eq_getElem?_getD, List.getElem?_eq_getElem h]; rfl
theorem low_W {s : List Ln} (os : Low s) : ∀ l ∈ s, l.W := fun l hl => by
  obtain ⟨k, hk⟩ := List.getElem?_of_mem hl
  exact (os k l hk).1
/-! ### the law's own going -/
end Law

end

section
set_option maxHeartbeats 1000000
/-! PuC: a, b = xs, of a list. -/
namespace L2
open PySem PySem.Spec PyProof.Rows
section
variable {prog : Program} {w : World} {A : Around} {E : Value → Shared → Prop}
theorem drawsL {I L : Addr} {xs : Array Value} (ne : L ≠ I) : ∀ (m k : Nat) (σ : Shared) (R : List Value → Shared → Prop), σ.heap.IsListIter I L k → σ.heap.IsList L xs → k + m ≤ xs.size →
    (∀ g, g.IsListIter I L (k + m) → Heap.SameBut I σ.heap g → R ((xs.toList.drop k).take m) { σ with heap := g }) → wpAny (model prog w) A (draw (.ref I) m) R E σ := by
  intro m
  induction m with
  | zero =>
    intro k σ R a _ _ r
    have r0 := r σ.heap a (Heap.SameBut.refl ..)
    rw [List.take_zero] at r0
    exact wpAny_pure r0
  | succ m ih =>
    intro k σ R a b c r
    have lt : k < xs.size := by omega
    show wpAny _ _ (pyNext (.ref I) >>= _) _ _ _
    apply wpAny_bind
    apply wpAny_pyNext_list_item a b (x := xs[k]) (Array.getElem?_eq_getElem lt)
    intro g1 a1 s1
    apply wpAny_bind
    apply wpAny_holding
    apply ih (k + 1) _ _ a1 (b.extBut s1.extBut ne) (by omega)
    intro g2 a2 s2
    apply wpAny_pure
    have e : xs.toList.drop k = xs[k] :: xs.toList.drop (k + 1) := by
      rw [List.drop_eq_getElem_cons (by simpa using lt)]; simp
    have r2 := r g2 (by rw [show k + (m + 1) = k + 1 + m by omega]; exact a2) (s1.trans s2)
    rw [e] at r2
    exact r2
theorem unpacksL {σ : Shared} {L : Addr} {xs : Array Value} {R : List Value → Shared → Prop} (hh : A.handled = none) (b : σ.heap.IsList L xs)
    (r : ∀ g, Heap.ExtBut σ.heap.objs.size σ.heap g → R xs.toList { σ with heap := g }) : wpAny (model prog w) A (unpackItems (.ref L) xs.size none) R E σ := by
  have ne : L ≠ σ.heap.objs.size := by
    obtain ⟨_, e, _⟩ := b
    exact Nat.ne_of_lt (Heap.lt_size e)
  unfold unpackItems
  apply wpAny_bind
  unfold notIterableAtAll
  apply wpAny_bind
  apply wpAny_specialOf b.typeIs slot_list_iter.lookup
  apply wpAny_pure
  simp only [Bool.false_eq_true, if_false]
  apply wpAny_bind
  apply wpAny_holding
  apply wpAny_pyIter_list b
  apply wpAny_bind
  apply wpAny_holding
  apply drawsL ne xs.size 0 _ _ ⟨_, Heap.get?_push_size _ rfl, rfl, rfl⟩ (b.push _) (by omega)
  intro g1 a1 s1
  have all : List.take xs.size (List.drop 0 xs.toList) = xs.toList := by
    rw [List.drop_zero]
    exact List.take_of_length_le (Nat.le_of_eq Array.length_toList)
  rw [all]
  rw [if_neg (show ¬ _ from by simp)]
  have b1 : g1.IsList L xs := (b.push _).extBut s1.extBut ne
  apply wpAny_bind
  apply wpAny_holding
  apply wpAny_pyNext_list_end hh a1 b1 (by simp)
  intro g2 x2
  simp only [Option.isSome_none, Bool.false_eq_true, if_false]
  apply wpAny_pure
  exact r g2 fun p o hp e => x2 p o hp (s1.extBut p o hp (Heap.get?_push_of_some _ e))
theorem assignsL {σ : Shared} {env : Env} {ts : List Expr} {z} {pos : Pos} {L : Addr} {xs : Array Value} {R : Unit → Shared → Prop} (hh : A.handled = none) (b : σ.heap.IsList L xs)
    (hn : (assignEach ts env).length = xs.size) (st : (assignEach ts env).findIdx? (·.1) = none)
    (r : ∀ g, Heap.ExtBut σ.heap.objs.size σ.heap g → wpAny (model prog w) A (assignInOrder ((assignEach ts env).map (·.2)) xs.toList) R E { σ with heap := g }) :
    wpAny (model prog w) A (assign (.Tuple ts z pos) env (.ref L)) R E σ := by
  rw [PyProof.Rows.assign_Tuple]
  apply wpAny_bind
  apply wpAny_standAt
  unfold unpack
  rw [hn, st]
  apply wpAny_bind
  apply wpAny_holding
  exact unpacksL hh b r
end
section
variable {X : Cx} {pos : Pos}
def gLst (K : PySem.W.Frag) (n : Nat) (t : TGs) : TG := fun v σ H Q => ∃ p ys, v = .ref p ∧ SqL K H p ys ∧ ys.length = n ∧ t ys σ H Q
theorem pg_lst {es : List Expr} {k : Nat} {t : TGs} {n : Nat} (hc : X.calm = true) (h : PGs X es t) (hn : (assignEach es X.env).length = n := by rfl) (hst : (assignEach es X.env).findIdx? (·.1) = none := by rfl) :
    PG X (.Tuple es k pos) (gLst X.K n t) := by
  constructor
  intro pins s σ H v u Q I r hw
  obtain ⟨p, ys, e1, sq, hl, hw⟩ := hw
  subst e1
  cases r
  obtain ⟨its, rv, ⟨o, c, ho, hc1, _, hd⟩, hz⟩ := I.list sq
  apply assignsL (I.ok.hd hc) ⟨o, ho, hc1, c, hd⟩ (by simp [hn, ← hl, rv.length]) hst
  intro g hx
  have I2 : Inv X pins σ H { s with heap := g } := I.kept (t' := s.toks) fun b o e => hx b o (Nat.ne_of_lt (Heap.lt_size e)) e
  exact h.run pins _ σ H ys _ Q I2 (by simpa using rv) hw
end
end L2
namespace Pu
open PySem L2 PyProof.Rows
def dgLst (n : Nat) (t : DTGs) : DTG := fun s env Q => ∃ ds, s = .d (.list ds) ∧ ds.length = n ∧ t ds env Q
section
variable {K : PySem.W.Frag} {F : Fr} {js : List Nat} {X : Cx} {es : List Expr} {gs : TGs} {fgs : DTGs} {pos : Pos}
theorem sg_lst {n : Nat} {u : DTGs} (h : SdGs K F js gs u) : SdG K F js (gLst K n gs) (dgLst n u) := by
  intro Hb H σ env v s Q k r rs e q c
  obtain ⟨ds, e1, hl, q⟩ := q
  subst e1
  cases (show Dq K Hb v (.list ds) from rs) with
  | lst h1 h2 => exact ⟨_, _, rfl, SqL.of (r.st.ex _ _ h1), by rw [DqAll.length h2]; exact hl, h Hb H σ env _ ds Q k r h2 q c⟩
theorem kg_lst (q : X.K = K) {k n : Nat} (hc : X.calm = true) (h : DGs X F js es gs fgs) (hn : (assignEach es X.env).length = n := by rfl) (hst : (assignEach es X.env).findIdx? (·.1) = none := by rfl) : DG X F js (.Tuple es k pos) (gLst K n gs) (dgLst n fgs) :=
  q ▸ ⟨pg_lst hc h.pe hn hst, sg_lst h.sd⟩
end
end Pu

end

section
set_option maxHeartbeats 1000000
/-! PuF: x = [f, g]; if x != z: return False; x[0].append(None); x[1].append(None), f and g lists of one's own. -/
namespace Pu
open PySem L2 PyProof.Rows
section
variable {K : PySem.W.Frag} {F : Fr} {Hb H : Hp} {σ : L2.St} {env : EV}
end
section
variable {K : PySem.W.Frag} {F : Fr} {tf tg tz : TE} {ff fg fz : DTE}
def dPar2 (i j : Nat) (ff fg : DTE) : DTS := fun E env => ff env fun s => fg env fun u => E.nx ((env.set i (some s)).set j (some u))
theorem sd_par2L {i j : Nat} (hf : SdE K F tf ff) (hg : SdE K F tg fg) : SdS K F (tPar i j (tCons tf (tCons tg tNil))) (dPar2 i j ff fg) := by
  intro Hb H σ env D E r q l
  refine hf Hb H σ env _ _ r q fun v Hb1 H1 s st1 rs1 f1 q1 => ?_
  refine hg Hb1 H1 σ env _ _ (r.on st1) q1 fun w Hb2 H2 u st2 rs2 f2 q2 => ?_
  exact ⟨v, w, rfl, l.nx Hb2 _ _ _ (st1.ex.trans st2.ex) ((r.set st1 rs1 f1 i).set st2 rs2 f2 j) q2⟩
end
/-! for g in m(e[own.pop()]) -/
def dForPop (f : F2) (i : Nat) (m : FN) (fa : DTE) (fg : DTG) (fb : DTS) : DTS := fun E env => fa env fun s => ∃ xs d, env[i]? = some (some (.own xs)) ∧ xs[xs.length - 1]? = some d ∧ f s.fz (.d d) fun u => m [u.fz] fun z => ∃ ys, z.fz = .d (.list ys) ∧ dLoop fg fb E ys (env.set i (some (.own xs.dropLast)))
section
variable {K : PySem.W.Frag} {F : Fr} {js : List Nat}
theorem sd_forPop {rr : R2} {f : F2} (lo : LO K F.hid rr f) (i : Nat) (m : FN) {ta : TE} {fa : DTE} {g : TG} {fg : DTG} {tb : TS} {fb : DTS} (ha : SdE K F ta fa) (hg : SdG K F js g fg) (hb : SdS K F tb fb) :
    SdS K F (tFor (iList K (tFn (spX K 1 m) (tCons (tOp rr ta (tBM0 K "list" rPop (tVar i))) tNil))) g tb) (dForPop f i m fa fg fb) := by
  intro Hb H σ env D E r q l
  refine ha.go (Q := fun s => ∃ xs d, env[i]? = some (some (.own xs)) ∧ xs[xs.length - 1]? = some d ∧ f s (.d d) fun u => m [u.fz] fun z => ∃ ys, z.fz = .d (.list ys) ∧ dLoop fg fb E ys (env.set i (some (.own xs.dropLast)))) r q fun x Hb1 H1 s st1 rs1 es q1 => ?_
  obtain ⟨xs, d, e, ed, q1⟩ := q1
  have r1 := r.on st1
  obtain ⟨v, e1, rs, fr⟩ := r1.sl i _ e
  obtain ⟨p, vs, e2, e3, e4, e5, e6⟩ := rs
  subst e2
  obtain ⟨y, hy, dy⟩ := DqAll.get' e4 ed
  have hl := DqAll.length e4
  refine ⟨_, e1, .inl ⟨rfl, _, SqL.of e3⟩, p, vs, y, rfl, rfl, e3, by rw [hl]; exact hy, ?_⟩
  have r2 := r1.put1 e trivial e1 e3 e5 e6 (s' := .own xs.dropLast) trivial ⟨p, vs.dropLast, rfl, upd_same, by rw [List.dropLast_eq_take, List.dropLast_eq_take, hl]; exact DqAll.take _ e4, e5, e6⟩
  refine lo Hb1 _ x y s (.d d) _ _ r2.st (rs1.heap es) dy q1 fun w Hb2 H2 u st3 r3 f3 q3 => ?_
  obtain ⟨Hb3, st4, ex4, new4, rep4⟩ := RepSl.fz st3.st r3 f3 fun b n => st3.back n
  have stA : Step F.hid Hb1 (upd H1 p (.lst vs.dropLast)) Hb3 H2 := ⟨st4, st3.ex.trans ex4, fun b o e n => by
    cases z : Hb2 b with
    | some u => exact st3.new b u z n
    | none => exact new4 b o e z, st3.keep⟩
  have rA := r2.on stA
  refine ⟨F.hid, Hb3, [u.fz], _, st4, .cons rep4 (fz_fz u) .nil, rfl, q3, fun v2 Hb4 H4 z st5 r5 f5 q5 => ?_⟩
  obtain ⟨ys, ez, q5⟩ := q5
  obtain ⟨Hb5, st6, ex6, new6, rep6⟩ := RepSl.fz st5.st r5 f5 fun b n => st5.back n
  have stB : Step F.hid Hb3 H2 Hb5 H4 := ⟨st6, st5.ex.trans ex6, fun b o e n => by
    cases z : Hb4 b with
    | some u => exact st5.new b u z n
    | none => exact new6 b o e z, st5.keep⟩
  have rB := rA.on stB
  rw [ez] at rep6
  have exT : Same Hb Hb5 := st1.ex.trans (stA.ex.trans stB.ex)
  cases (show Dq K Hb5 v2 (.list ys) from rep6) with
  | @lst a ws _ h1 h2 =>
    refine ⟨_, rfl, ⟨_, SqL.of (st6.ex _ _ h1)⟩, ?_⟩
    have gv : Gives K F.hid Hb5 (Itl K a) ys := gives_at (J := Itl K a) (G := fun H => SqL K H a ws) walk_list (fun H' s => SqL.of (s _ _ h1)) h2
    obtain ⟨G, Y, w, hG, hY⟩ := gv.ex
    refine for_it w (fun i σ' H' => ∃ Hb' env', Same Hb5 Hb' ∧ Rep K F Hb' H' σ' env' ∧ dLoop fg fb E (ys.drop i) env') ⟨Hb5, _, Same.refl _, rB, q5⟩ ?_ ?_ ?_
    · rintro i σ' H' _ ⟨Hb', env', s, r', _⟩
      exact hG H' (s.trans r'.st.ex)
    · rintro i x σ' H' H2 hlt ⟨Hb', env', s, r', q'⟩ y
      obtain ⟨Hb2, d, hd, st2, hx⟩ := hY i Hb' H' x H2 hlt r'.st s y
      have e : ys.drop i = d :: ys.drop (i + 1) := by
        obtain ⟨h1, h2⟩ := List.getElem?_eq_some_iff.mp hd
        rw [List.drop_eq_getElem_cons h1, h2]
      rw [e] at q'
      refine hg Hb2 H2 σ' env' x (.d d) _ _ (r'.on st2) hx rfl q' fun σ3 env3 _ r3 q3 => ?_
      have ex2 : Same Hb5 Hb2 := s.trans st2.ex
      exact hb Hb2 H2 σ3 env3 _ _ r3 q3 ⟨fun Hb4 H4 σ4 env4 s4 r4 q4 => ⟨Hb4, env4, ex2.trans s4, r4, q4⟩, fun Hb4 H4 σ4 env4 s4 r4 q4 => l.nx Hb4 H4 σ4 env4 (exT.trans (ex2.trans s4)) r4 q4, fun Hb4 H4 σ4 env4 s4 r4 q4 => ⟨Hb4, env4, ex2.trans s4, r4, q4⟩, fun v Hb4 H4 s' s4 => l.rt v Hb4 H4 s' (exT.trans (ex2.trans s4))⟩
    · rintro σ' H' ⟨Hb', env', s, r', q'⟩
      rw [List.drop_length] at q'
      exact l.nx Hb' H' σ' env' (exT.trans s) r' q'
end
/-! the terms -/
section
variable {X : Cx} {F : Fr} {K : PySem.W.Frag} {js : List Nat} {a b e tg o : Expr} {ta tb te to : TE} {fa fb fe fo : DTE} {px py pt pt2 p pos : Pos} {kt k2 : Nat} {es : List Expr} {g : TG} {fg : DTG} {ts : TS} {fs : DTS}
theorem ds_par2 (i j : Nat) {x y : Str} (hN : X.N.Nodup) (ha : DE X F a ta fa) (hb : DE X F b tb fb) (hp : PA X [a, b] (tCons ta (tCons tb tNil))) (hi : X.N[i]? = some x := by rfl) (hj : X.N[j]? = some y := by rfl) (hij : i ≠ j := by decide) (hx : X.env.scope.names.lookup x = some .local := by rfl) (hy : X.env.scope.names.lookup y = some .local := by rfl) (hc : X.calm = true := by rfl)
    (hw : swappedStores [.Tuple [.Name x px, .Name y py] kt pt] (.Tuple [a, b] k2 pt2) X.env = pure (some [x, y]) := by rfl) (hs : swapsWithSole [.Tuple [.Name x px, .Name y py] kt pt] (.Tuple [a, b] k2 pt2) pos.line X.env = pure false := by rfl) :
    DS X F (.Assign [.Tuple [.Name x px, .Name y py] kt pt] (.Tuple [a, b] k2 pt2) pos) (tPar i j (tCons ta (tCons tb tNil))) (dPar2 i j fa fb) := ⟨ps_par hc hN hi hj hij hx hy hp hw hs, sd_par2L ha.sd hb.sd⟩
theorem k_forPop (ek : X.K = K) {k : Nat} {ps : List Str} {m : FN} {x y : Str} {body : List Stmt} {r : R2} {f : F2} {apos cpos bpos : Pos} (i : Nat) (G : Fn X.prog X.w K X.mg X.base x k ps (spX K 1 m)) (hr : RoomG k X.A) (hi : IxR X r) (lo : ∀ hid, LO K hid r f) (ho : DE X F o to fo)
    (h : PE X (.Call (.Attribute (.Name y px) "pop" apos) [] [] cpos) (tBM0 K "list" rPop (tVar i))) (hg : DG X F js tg g fg) (hb : DSs X F body ts fs)
    (hp : PlainIx (.Call (.Attribute (.Name y px) "pop" apos) [] [] cpos) := by exact fun _ _ => rfl) (hG : Gl X x := by rfl) (hdb : (x == ("__debug__" : Str)) = false := by decide)
    (he : starEach [.Subscript o (.Call (.Attribute (.Name y px) "pop" apos) [] [] cpos) bpos] X.env = (false, eval (.Subscript o (.Call (.Attribute (.Name y px) "pop" apos) [] [] cpos) bpos) X.env) :: starEach [] X.env := by rfl) (hpl : (backTo pos (starEach [] X.env)).any (·.1) = false := by rfl)
    (ho2 : PassesOwn (model X.prog X.w) X.A X.env X.xe := by exact PassesOwn.never) (hc : X.calm = true := by rfl) (hs : ∀ x', foldedSetIterable (.Call (.Name x p) [.Subscript o (.Call (.Attribute (.Name y px) "pop" apos) [] [] cpos) bpos] [] pos) X.env x' = pure x' := by intro _; rfl) {pos2 : Pos} :
    DS X F (.For tg (.Call (.Name x p) [.Subscript o (.Call (.Attribute (.Name y px) "pop" apos) [] [] cpos) bpos] [] pos) body [] pos2) (tFor (iList K (tFn (spX K 1 m) (tCons (tOp r to (tBM0 K "list" rPop (tVar i))) tNil))) g ts) (dForPop f i m fo fg fs) := by
  subst ek
  obtain ⟨f, fd, hm, hk, hbn, J⟩ := G.ex
  exact ⟨ps_for ho2 hc (pi_list (pe_callG J hr hG hm hk hbn pass0 (pa_cons (pe_ix hi ho.pe h hp) pa_nil he) hdb he hpl)) hg.pe hb.pe hs, sd_forPop (lo F.hid) i m ho.sd hg.sd hb.sd⟩
end
end Pu

end

section
set_option maxHeartbeats 2000000
/-! Mt08: the law of parts and needed lines. -/
namespace Law
open PySem L2 PyProof.Rows RZ Pu
theorem okD1_nats (l : List Nat) : okD1 (.list (natsD l)) := okD1_list fun x hx => by
  obtain ⟨i, _, rfl⟩ := List.mem_map.mp hx
  exact ⟨⟨rfl, by unfold SeqAt.shaped; simp [PyData.depth, PyData.canLay0]⟩, Nat.zero_le _⟩
theorem eqv_nil (l : List Nat) : PyData.eqv (.list (natsD l)) (.list []) = decide (l = []) := by
  cases l with
  | nil => rfl
  | cons x l => rfl
/-! ### needed lines by going from line to line -/
structure NInv (s : List Ln) (k : Nat) (M W pend : List Nat) : Prop where
  nd : M.Nodup
  sub : ∀ x ∈ M, Nd s k x
  wm : ∀ x ∈ W, x ∈ M
  km : k ∈ M
  cl : ∀ x ∈ M, x ∈ W ∨ ∀ l, s[x]? = some l → ∀ n ∈ l.mem, n ∈ M ∨ n ∈ pend
def mwS (p : List Nat × List Nat) (n : Nat) : List Nat × List Nat := if n ∈ p.1 then p else (p.1 ++ [n], p.2 ++ [n])
def msr (s : List Ln) (M W : List Nat) : Nat := 3 * (s.length - M.length) + W.length
theorem NInv.len {s : List Ln} (os : Low s) {k : Nat} (hk : k < s.length) {M W pend : List Nat} (I : NInv s k M W pend) : M.length ≤ s.length :=
  nodup_below I.nd fun x hx => by have := nd_le os (I.sub x hx); omega
theorem NInv.start (s : List Ln) (k : Nat) : NInv s k [k] [k] [] := ⟨by simp, fun x hx => by rw [List.mem_singleton.mp hx]; exact .refl, fun x hx => hx, by simp, fun x hx => .inl hx⟩
theorem NInv.pop {s : List Ln} {k : Nat} {M W : List Nat} {y : Nat} {l : Ln} (I : NInv s k M (W ++ [y]) []) (hl : s[y]? = some l) : NInv s k M W l.mem :=
  ⟨I.nd, I.sub, fun x hx => I.wm x (List.mem_append_left _ hx), I.km, fun x hx => by
    rcases I.cl x hx with h | h
    · rcases List.mem_append.mp h with h | h
      · exact .inl h
      · rw [List.mem_singleton.mp h]
        exact .inr fun l' hl' n hn => by rw [hl] at hl'; cases hl'; exact .inr hn
    · exact .inr fun l' hl' n hn => (h l' hl' n hn).imp_right fun z => by cases z⟩
theorem NInv.step {s : List Ln} (os : Low s) {k : Nat} (hk : k < s.length) {M W pend : List Nat} {n : Nat} (I : NInv s k M W (n :: pend)) (hn : Nd s k n) : NInv s k (mwS (M, W) n).1 (mwS (M, W) n).2 pend ∧ msr s (mwS (M, W) n).1 (mwS (M, W) n).2 ≤ msr s M W := by
  unfold mwS
  by_cases c : n ∈ M
  · rw [if_pos c]
    refine ⟨⟨I.nd, I.sub, I.wm, I.km, fun x hx => (I.cl x hx).imp_right fun h l hl m hm => ?_⟩, Nat.le_refl _⟩
    rcases h l hl m hm with h | h
    · exact .inl h
    · rcases List.mem_cons.mp h with rfl | h
      · exact .inl c
      · exact .inr h
  · rw [if_neg c]
    have I2 : NInv s k (M ++ [n]) (W ++ [n]) pend := by
      refine ⟨List.nodup_append.mpr ⟨I.nd, by simp, fun x hx y hy e => by rw [List.mem_singleton.mp hy] at e; subst e; exact c hx⟩, fun x hx => ?_, fun x hx => ?_, List.mem_append_left _ I.km, fun x hx => ?_⟩
      · rcases List.mem_append.mp hx with h | h
        · exact I.sub x h
        · rw [List.mem_singleton.mp h]; exact hn
      · rcases List.mem_append.mp hx with h | h
        · exact List.mem_append_left _ (I.wm x h)
        · exact List.mem_append_right _ h
      · rcases List.mem_append.mp hx with h | h
        · rcases I.cl x h with h | h
          · exact .inl (List.mem_append_left _ h)
          · refine .inr fun l hl m hm => ?_
            rcases h l hl m hm with h | h
            · exact .inl (List.mem_append_left _ h)
            · rcases List.mem_cons.mp h with rfl | h
              · exact .inl (by simp)
              · exact .inr h
        · exact .inl (List.mem_append_right _ h)
    have := I2.len os hk
    refine ⟨I2, ?_⟩
    unfold msr
    simp only [List.length_append, List.length_singleton] at *
    omega
theorem NInv.all {s : List Ln} {k : Nat} {M : List Nat} (I : NInv s k M [] []) (x : Nat) : x ∈ M ↔ Nd s k x := by
  refine ⟨I.sub x, fun h => ?_⟩
  induction h with
  | refl => exact I.km
  | step _ h1 h2 ih =>
    rcases I.cl _ ih with h | h
    · cases h
    · rcases h _ h1 _ h2 with h | h
      · exact h
      · cases h
/-! ### parts -/
def m__law_needs : FN := fun ss R => ∃ (s : List Ln) (k : Nat), ss = [.d (sheetD s), .d (.int k)] ∧ Low s ∧ k < s.length ∧ s.length ≤ 1000 ∧ R (.own (natsD (mNeedL s k)))
end Law

end

section
set_option maxHeartbeats 2000000
/-! Md09: lines told once: the going itself, what it gives. -/
namespace Law
open PySem L2 PyProof.Rows RZ Pu
/-! ### one line more -/
def onceS (a : List Ln × List Nat) (l : Ln) : List Ln × List Nat :=
  (if (l.ren fun m => a.2.getD m 0) ∈ a.1 then a.1 else a.1 ++ [l.ren fun m => a.2.getD m 0],
   a.2 ++ [(if (l.ren fun m => a.2.getD m 0) ∈ a.1 then a.1 else a.1 ++ [l.ren fun m => a.2.getD m 0]).idxOf (l.ren fun m => a.2.getD m 0)])
def onceG (K p : List Ln) : List Ln × List Nat := p.foldl onceS (K, [])
abbrev onceL (p : List Ln) : List Ln × List Nat := onceG [] p
theorem onceG_snoc (K p : List Ln) (l : Ln) : onceG K (p ++ [l]) = onceS (onceG K p) l := by unfold onceG; rw [List.foldl_append]; rfl
theorem onceG_take (K : List Ln) {p : List Ln} {j : Nat} {l : Ln} (h : p[j]? = some l) : onceG K (p.take (j + 1)) = onceS (onceG K (p.take j)) l := by rw [take_more' h, onceG_snoc]
theorem onceL_take {p : List Ln} {j : Nat} {l : Ln} (h : p[j]? = some l) : onceL (p.take (j + 1)) = onceS (onceL (p.take j)) l := onceG_take [] h
theorem once_inv {p : List Ln} (op : Low p) : ∀ j, j ≤ p.length → TInv p j (onceL (p.take j)).1 (onceL (p.take j)).2
  | 0, _ => .zero p
  | j + 1, h => by
    obtain ⟨l, hl⟩ := at_low (s := p) (k := j) (by omega)
    rw [onceL_take hl]
    exact (once_inv op j (by omega)).more op hl rfl
theorem once_all {p : List Ln} (op : Low p) : TInv p p.length (onceL p).1 (onceL p).2 := by
  have := once_inv op p.length (Nat.le_refl _)
  rwa [List.take_length] at this
/-- the tidy sheet -/
def tidyL (s : List Ln) : List Ln := (onceL (mPart s (mNeedL s (s.length - 1)))).1
def tidyP (s : List Ln) : List Nat := (onceL (mPart s (mNeedL s (s.length - 1)))).2
theorem kept_last {s : List Ln} (os : Low s) (ne : s ≠ []) : Kept s (mNeedL s (s.length - 1)) := by
  have pos := List.length_pos_iff.mpr ne
  exact (need_kept os (show s.length - 1 < s.length by omega) (needL_asc s _) (needL_mem os (by omega))).1
theorem part_len (s : List Ln) (ys : List Nat) : (mPart s ys).length = ys.length := by unfold mPart; rw [List.length_map]
theorem tidyL_inv {s : List Ln} (os : Low s) (ne : s ≠ []) : TInv (mPart s (mNeedL s (s.length - 1))) (mPart s (mNeedL s (s.length - 1))).length (tidyL s) (tidyP s) := once_all (part_low os (kept_last os ne))
theorem tidyL_tidy {s : List Ln} (os : Low s) (ne : s ≠ []) : Tidy s (tidyL s) fun i => (tidyP s).getD ((mNeedL s (s.length - 1)).idxOf i) 0 := tidy_of os ne (tidyL_inv os ne)
/-- a sheet of unlike lines is told as it is -/
theorem once_id {t : List Ln} (low : Low t) (nd : t.Nodup) : ∀ j, j ≤ t.length → onceL (t.take j) = (t.take j, List.range j)
  | 0, _ => rfl
  | j + 1, h => by
    obtain ⟨l, hl⟩ := at_low (s := t) (k := j) (by omega)
    have ih := once_id low nd j (by omega)
    rw [onceL_take hl, ih]
    have e : (l.ren fun m => (List.range j).getD m 0) = l := by
      have : (l.ren fun m => (List.range j).getD m 0) = l.ren id := ren_congr fun m hm => by
        have := (low j l hl).2 m hm
        rw [List.getD_eq_getElem?_getD, List.getElem?_range this]; rfl
      rw [this]; cases l <;> rfl
    have ni : l ∉ t.take j := fun hm => by
      obtain ⟨i, hi, e2⟩ := List.getElem_of_mem hm
      rw [List.length_take] at hi
      rw [List.getElem_take] at e2
      obtain ⟨h1, h2⟩ := List.getElem?_eq_some_iff.mp hl
      have e3 := nd.idxOf_getElem i (by omega)
      have e4 := nd.idxOf_getElem j h1
      rw [e2] at e3
      rw [h2] at e4
      omega
    unfold onceS
    dsimp only
    rw [e, if_neg ni, take_more' hl, List.idxOf_append, if_neg ni, List.range_succ]
    simp [List.length_take, Nat.min_eq_left (show j ≤ t.length by omega)]
theorem part_range {s : List Ln} (os : Low s) : mPart s (List.range s.length) = s := by
  refine List.ext_getElem? fun i => ?_
  rcases Nat.lt_or_ge i s.length with c | c
  · obtain ⟨l, hl⟩ := at_low c
    have e := part_at (s := s) (ys := List.range s.length) (i := i) (j := i) (List.getElem?_range c) hl
    rw [e, hl]
    have : (l.ren fun n => (List.range s.length).idxOf n) = l.ren id := ren_congr fun m hm => by
      have hm2 := (os i l hl).2 m hm
      exact asc_idx List.pairwise_lt_range (i := m) (j := m) (List.getElem?_range (by omega))
    rw [this]; cases l <;> rfl
  · rw [List.getElem?_eq_none (by rw [part_len, List.length_range]; exact c), List.getElem?_eq_none c]
/-- all lines are needed -/
def AllNd (t : List Ln) : Prop := ∀ q, q < t.length → Nd t (t.length - 1) q
theorem need_all {t : List Ln} (low : Low t) (ne : t ≠ []) (h : AllNd t) : mNeedL t (t.length - 1) = List.range t.length := by
  have pos := List.length_pos_iff.mpr ne
  refine asc_ext (needL_asc t _) List.pairwise_lt_range fun x => ?_
  rw [needL_nd low (by omega), List.mem_range]
  exact ⟨fun q => by have := nd_le low q; omega, fun q => h x q⟩
theorem nd_ren {s t : List Ln} {f : Nat → Nat} {k x : Nat} (h : Nd s k x) (hf : ∀ i, Nd s k i → ∃ l, s[i]? = some l ∧ t[f i]? = some (l.ren f)) : Nd t (f k) (f x) := by
  induction h with
  | refl => exact .refl
  | step a h1 h2 ih =>
    rename_i y n l
    obtain ⟨l2, e1, e2⟩ := hf y a
    rw [h1] at e1; cases e1
    refine .step ih e2 ?_
    cases l with
    | lt w => cases h2
    | yes => cases h2
    | un i => simp [Ln.mem] at h2; subst h2; simp [Ln.ren, Ln.mem]
    | bi o i j => simp [Ln.mem] at h2; rcases h2 with rfl | rfl <;> simp [Ln.ren, Ln.mem]
theorem part_allNd {s : List Ln} (os : Low s) (ne : s ≠ []) : AllNd (mPart s (mNeedL s (s.length - 1))) := by
  have pos := List.length_pos_iff.mpr ne
  obtain ⟨kp, kl⟩ := need_kept os (show s.length - 1 < s.length by omega) (needL_asc s (s.length - 1)) (needL_mem os (by omega))
  intro q hq
  rw [part_len] at hq ⊢
  have hy := List.getElem_mem hq
  have nd := (needL_nd os (k := s.length - 1) (by omega) _).1 hy
  have := nd_ren (t := mPart s (mNeedL s (s.length - 1))) (f := fun n => (mNeedL s (s.length - 1)).idxOf n) nd fun i hi => by
    have im := (needL_nd os (by omega) i).2 hi
    obtain ⟨l, hl⟩ := at_low (kp.lt i im)
    exact ⟨l, hl, part_at (ix_of im) hl⟩
  rwa [asc_idx kp.asc kl, asc_idx kp.asc (List.getElem?_eq_getElem hq)] at this
theorem tidy_allNd {s : List Ln} (os : Low s) (ne : s ≠ []) : AllNd (tidyL s) := by
  have pos := List.length_pos_iff.mpr ne
  have T := tidyL_tidy os ne
  have I := tidyL_inv os ne
  obtain ⟨kp, kl⟩ := need_kept os (show s.length - 1 < s.length by omega) (needL_asc s (s.length - 1)) (needL_mem os (by omega))
  intro q hq
  obtain ⟨j, h1, h2⟩ := I.fr q hq
  rw [part_len] at h1
  have nd := (needL_nd os (k := s.length - 1) (by omega) _).1 (List.getElem_mem h1)
  have := nd_ren (t := tidyL s) (f := fun i => (tidyP s).getD ((mNeedL s (s.length - 1)).idxOf i) 0) nd T.at_
  rw [T.last, asc_idx kp.asc (List.getElem?_eq_getElem h1), h2] at this
  exact this
theorem tidy_tidy {s : List Ln} (os : Low s) (ne : s ≠ []) : tidyL (tidyL s) = tidyL s := by
  have T := tidyL_tidy os ne
  show (onceL (mPart (tidyL s) (mNeedL (tidyL s) ((tidyL s).length - 1)))).1 = _
  rw [need_all T.low T.ne (tidy_allNd os ne), part_range T.low]
  have := once_id T.low (tidyL_inv os ne).nd _ (Nat.le_refl _)
  rw [List.take_length] at this
  rw [this]
theorem tidy_part {s : List Ln} (os : Low s) (ne : s ≠ []) : tidyL (mPart s (mNeedL s (s.length - 1))) = tidyL s := by
  have pos := List.length_pos_iff.mpr ne
  have kp := kept_last os ne
  have low := part_low os kp
  have pne : mPart s (mNeedL s (s.length - 1)) ≠ [] := fun e => by
    have := congrArg List.length e
    rw [part_len] at this
    have hm := (needL_nd os (k := s.length - 1) (by omega) (s.length - 1)).2 .refl
    rw [List.length_eq_zero_iff.mp this] at hm
    cases hm
  show (onceL (mPart (mPart s _) _)).1 = (onceL (mPart s _)).1
  rw [need_all low pne (part_allNd os ne), part_range low]
/-! ### how lines are built: numbers of builds -/
/-- the number of a line's build in a list of builds -/
def bldF (K : List Ln) : Fold Nat where
  dft := 0
  step l v := K.idxOf (l.ren v)
  congr l g h e := by rw [ren_congr e]
  ren l f g := by rw [ren_ren]
theorem idx_nd {K : List Ln} (nd : K.Nodup) {i : Nat} {l : Ln} (h : K[i]? = some l) : K.idxOf l = i := by
  obtain ⟨h1, h2⟩ := List.getElem?_eq_some_iff.mp h
  subst h2
  exact nd.idxOf_getElem i h1
theorem bld_one {s : List Ln} (os : Low s) : ∀ i, i < s.length → (onceL s).2.getD i 0 = (bldF (onceL s).1).val s i := by
  have I := once_all os
  intro i
  induction i using Nat.strongRecOn with
  | ind i ih =>
    intro hi
    obtain ⟨l, h1, h2⟩ := I.at_ i hi
    have e1 := idx_nd I.nd h2
    rw [(bldF (onceL s).1).eq os h1]
    show _ = (onceL s).1.idxOf (l.ren _)
    rw [← e1]
    congr 1
    exact ren_congr fun m hm => by
      have := (os i l h1).2 m hm
      exact ih m this (by omega)
/-- t tells the lines in A of s, each at its place -/
structure Tells2 (s t : List Ln) (f : Nat → Nat) (A : Nat → Prop) : Prop where
  at_ : ∀ i, A i → ∃ l, s[i]? = some l ∧ t[f i]? = some (l.ren f) ∧ ∀ m ∈ l.mem, A m
  all : ∀ q, q < t.length → ∃ i, A i ∧ f i = q
theorem bld_key {s t : List Ln} {f : Nat → Nat} {A : Nat → Prop} (os : Low s) (ot : Low t) (T : Tells2 s t f A) {q : Nat} {l : Ln} (hl : t[q]? = some l) :
    ∃ i, i < s.length ∧ (onceL s).1[(onceL s).2.getD i 0]? = some (l.ren ((bldF (onceL s).1).val t)) := by
  have I := once_all os
  have like := (bldF (onceL s).1).like os ot T.at_
  obtain ⟨i, hi, rfl⟩ := T.all q (lt_of_at hl)
  obtain ⟨li, h1, h2, h3⟩ := T.at_ i hi
  rw [h2] at hl; cases hl
  have his := lt_of_at h1
  obtain ⟨l2, g1, g2⟩ := I.at_ i his
  rw [h1] at g1; cases g1
  refine ⟨i, his, ?_⟩
  rw [g2, ren_ren]
  congr 1
  exact ren_congr fun m hm => by
    have := (os i li h1).2 m hm
    rw [bld_one os m (by omega)]
    exact (like m (h3 m hm)).symm
theorem bld_two {s t : List Ln} {f : Nat → Nat} {A : Nat → Prop} (os : Low s) (ot : Low t) (T : Tells2 s t f A) : ∀ j, j ≤ t.length → onceG (onceL s).1 (t.take j) = ((onceL s).1, (List.range j).map ((bldF (onceL s).1).val t))
  | 0, _ => rfl
  | j + 1, h => by
    obtain ⟨l, hl⟩ := at_low (s := t) (k := j) (by omega)
    have I := once_all os
    rw [onceG_take _ hl, bld_two os ot T j (by omega)]
    have e : (l.ren fun m => ((List.range j).map ((bldF (onceL s).1).val t)).getD m 0) = l.ren ((bldF (onceL s).1).val t) := ren_congr fun m hm => by
      have := (ot j l hl).2 m hm
      rw [List.getD_eq_getElem?_getD, List.getElem?_map, List.getElem?_range this]; rfl
    obtain ⟨i, hi, k⟩ := bld_key os ot T hl
    have hin := List.mem_of_getElem? k
    unfold onceS
    dsimp only
    rw [e, if_pos hin, List.range_succ, List.map_append]
    congr 2
    show [_] = [(bldF (onceL s).1).val t j]
    rw [(bldF (onceL s).1).eq ot hl]
    rfl
theorem ren_inj {l l' : Ln} {v : Nat → Nat} (e : l.ren v = l'.ren v) (h : ∀ m ∈ l.mem, ∀ m' ∈ l'.mem, v m = v m' → m = m') : l = l' := by
  cases l <;> cases l' <;> simp_all [Ln.ren, Ln.mem]
theorem bld_inj {s t : List Ln} {f : Nat → Nat} {A : Nat → Prop} (os : Low s) (ot : Low t) (nd : t.Nodup) (T : Tells2 s t f A) : ∀ q, q < t.length → ∀ q', q' < t.length → (bldF (onceL s).1).val t q = (bldF (onceL s).1).val t q' → q = q' := by
  have I := once_all os
  intro q
  induction q using Nat.strongRecOn with
  | ind q ih =>
    intro hq q' hq' e
    obtain ⟨l, hl⟩ := at_low hq
    obtain ⟨l', hl'⟩ := at_low hq'
    obtain ⟨i, _, k⟩ := bld_key os ot T hl
    obtain ⟨i', _, k'⟩ := bld_key os ot T hl'
    have e1 := idx_nd I.nd k
    have e2 := idx_nd I.nd k'
    rw [(bldF (onceL s).1).eq ot hl, (bldF (onceL s).1).eq ot hl'] at e
    have e3 : (onceL s).1.idxOf (l.ren ((bldF (onceL s).1).val t)) = (onceL s).1.idxOf (l'.ren ((bldF (onceL s).1).val t)) := e
    rw [e1, e2] at e3
    rw [e3, k'] at k
    have e4 : l'.ren ((bldF (onceL s).1).val t) = l.ren ((bldF (onceL s).1).val t) := Option.some.inj k
    have e5 : l = l' := ren_inj e4.symm fun m hm m' hm' em => by
      have := (ot q l hl).2 m hm
      have := (ot q' l' hl').2 m' hm'
      exact ih m (by omega) (by omega) m' (by omega) em
    subst e5
    have := idx_nd nd hl
    have := idx_nd nd hl'
    omega
/-! ### each once -/
def firstS (acc : List Nat) (x : Nat) : List Nat := if x ∈ acc then acc else acc ++ [x]
def firstsL (l : List Nat) : List Nat := l.foldl firstS []
theorem firsts_snoc (l : List Nat) (x : Nat) : firstsL (l ++ [x]) = firstS (firstsL l) x := by unfold firstsL; rw [List.foldl_append]; rfl
theorem firsts_once {p : List Ln} (op : Low p) : ∀ j, j ≤ p.length → firstsL (onceL (p.take j)).2 = List.range (onceL (p.take j)).1.length
  | 0, _ => rfl
  | j + 1, h => by
    obtain ⟨l, hl⟩ := at_low (s := p) (k := j) (by omega)
    have ih := firsts_once op j (by omega)
    rw [onceL_take hl]
    obtain ⟨st, est⟩ : ∃ st, st = onceL (p.take j) := ⟨_, rfl⟩
    rw [← est] at ih ⊢
    unfold onceS
    dsimp only
    rw [firsts_snoc, ih]
    obtain ⟨l', el⟩ : ∃ l', l' = l.ren fun m => st.2.getD m 0 := ⟨_, rfl⟩
    rw [← el]
    by_cases c : l' ∈ st.1
    · rw [if_pos c]
      unfold firstS
      rw [if_pos (List.mem_range.mpr (List.idxOf_lt_length_iff.mpr c))]
    · rw [if_neg c, List.idxOf_append, if_neg c]
      unfold firstS
      rw [if_neg (by simp), List.length_append, List.length_singleton, List.range_succ]
      simp
theorem firsts_map {v : Nat → Nat} {n : Nat} (hv : ∀ q, q < n → ∀ q', q' < n → v q = v q' → q = q') : ∀ (l : List Nat), (∀ x ∈ l, x < n) → firstsL (l.map v) = (firstsL l).map v ∧ ∀ x ∈ firstsL l, x < n := by
  suffices h : ∀ (k : Nat) (l : List Nat), l.length = k → (∀ x ∈ l, x < n) → firstsL (l.map v) = (firstsL l).map v ∧ ∀ x ∈ firstsL l, x < n from fun l => h _ l rfl
  intro k
  induction k with
  | zero =>
    intro l e _
    rw [List.length_eq_zero_iff.mp e]
    exact ⟨rfl, fun x hx => by cases hx⟩
  | succ k ih' =>
    intro l0 e0 hl
    obtain ⟨l, x, rfl⟩ : ∃ l x, l0 = l ++ [x] := ⟨l0.dropLast, l0.getLast (fun e => by rw [e] at e0; cases e0), (List.dropLast_concat_getLast _).symm⟩
    rw [List.length_append, List.length_singleton] at e0
    have ih := ih' l (by omega)
    obtain ⟨i1, i2⟩ := ih fun y hy => hl y (List.mem_append_left _ hy)
    have hx := hl x (by simp)
    rw [List.map_append, List.map_singleton, firsts_snoc, firsts_snoc, i1]
    unfold firstS
    by_cases c : x ∈ firstsL l
    · rw [if_pos c, if_pos (List.mem_map.mpr ⟨x, c, rfl⟩)]
      exact ⟨rfl, i2⟩
    · rw [if_neg c, if_neg (fun hm => by
        obtain ⟨y, hy, e⟩ := List.mem_map.mp hm
        rw [hv y (i2 y hy) x hx e] at hy
        exact c hy)]
      refine ⟨by rw [List.map_append]; rfl, fun y hy => ?_⟩
      rcases List.mem_append.mp hy with hy | hy
      · exact i2 y hy
      · rw [List.mem_singleton.mp hy]; exact hx
theorem tidy_tells {s : List Ln} (os : Low s) (ne : s ≠ []) : Tells2 s (tidyL s) (fun i => (tidyP s).getD ((mNeedL s (s.length - 1)).idxOf i) 0) (fun i => i ∈ mNeedL s (s.length - 1)) := by
  have pos := List.length_pos_iff.mpr ne
  have T := tidyL_tidy os ne
  have I := tidyL_inv os ne
  have kp := kept_last os ne
  refine ⟨fun i hi => ?_, fun q hq => ?_⟩
  · obtain ⟨l, h1, h2⟩ := T.at_ i ((needL_nd os (by omega) i).1 hi)
    exact ⟨l, h1, h2, fun m hm => kp.cl i hi l h1 m hm⟩
  · obtain ⟨j, h1, h2⟩ := I.fr q hq
    rw [part_len] at h1
    exact ⟨_, List.getElem_mem h1, by rw [asc_idx kp.asc (List.getElem?_eq_getElem h1)]; exact h2⟩
theorem builds_right {s : List Ln} (os : Low s) (ne : s ≠ []) : (onceG (onceL s).1 (tidyL s)).2 = firstsL ((mNeedL s (s.length - 1)).map fun k => (onceL s).2.getD k 0) := by
  have pos := List.length_pos_iff.mpr ne
  have T := tidyL_tidy os ne
  have I := tidyL_inv os ne
  have kp := kept_last os ne
  have TT := tidy_tells os ne
  have b2 := bld_two os T.low TT _ (Nat.le_refl _)
  rw [List.take_length] at b2
  rw [b2]
  have like := (bldF (onceL s).1).like os T.low TT.at_
  have e1 : ((mNeedL s (s.length - 1)).map fun k => (onceL s).2.getD k 0) = (tidyP s).map ((bldF (onceL s).1).val (tidyL s)) := by
    refine List.ext_getElem? fun j => ?_
    have lp : (tidyP s).length = (mNeedL s (s.length - 1)).length := by rw [I.lp, part_len]
    rcases Nat.lt_or_ge j (mNeedL s (s.length - 1)).length with c | c
    · have hy := List.getElem_mem c
      have a1 := List.getElem?_eq_getElem c
      rw [List.getElem?_map, List.getElem?_map, a1]
      have k1 := kp.lt _ hy
      have k2 := like _ hy
      rw [asc_idx kp.asc a1] at k2
      have k3 : (tidyP s)[j]? = some ((tidyP s).getD j 0) := by
        rw [List.getD_eq_getElem?_getD, List.getElem?_eq_getElem (by omega)]; rfl
      rw [k3]
      show some ((onceL s).2.getD (mNeedL s (s.length - 1))[j] 0) = some _
      rw [bld_one os _ k1, k2]
    · rw [List.getElem?_eq_none (by rw [List.length_map]; exact c), List.getElem?_eq_none (by rw [List.length_map, lp]; exact c)]
  have f1 := firsts_once (part_low os kp) _ (Nat.le_refl _)
  rw [List.take_length] at f1
  have pl : ∀ x ∈ tidyP s, x < (tidyL s).length := fun x hx => by
    obtain ⟨j, hj⟩ := List.getElem?_of_mem hx
    have hj2 := (List.getElem?_eq_some_iff.mp hj).1
    have := I.place (i := j) (by rw [← I.lp]; exact hj2)
    rw [List.getD_eq_getElem?_getD, hj] at this
    exact this
  rw [e1, (firsts_map (bld_inj os T.low I.nd TT) _ pl).1]
  have f2 : firstsL (tidyP s) = List.range (tidyL s).length := f1
  rw [f2]
/-! ### a sheet put together with itself -/
theorem mem_shift {l : Ln} {n i : Nat} (h : i ∈ l.mem) : i + n ∈ (l.shift n).mem := by
  cases l with
  | lt w => cases h
  | yes => cases h
  | un i => simp [Ln.mem] at h; subst h; simp [Ln.shift, Ln.mem]; try omega
  | bi o i j => simp [Ln.mem] at h; rcases h with rfl | rfl <;> simp [Ln.shift, Ln.mem] <;> omega
theorem put_need {o : Str} {s : List Ln} (ho : o ∈ ops) (os : Low s) (ne : s ≠ []) (x : Nat) :
    Nd (mPut o s s) (s.length + s.length) x ↔ x = s.length + s.length ∨ Nd s (s.length - 1) x ∨ ∃ y, Nd s (s.length - 1) y ∧ x = y + s.length := by
  have pos := List.length_pos_iff.mpr ne
  have low := put_low ho os os ne ne
  have top := put_top (o := o) (s := s) (t := s)
  have atL : ∀ {i : Nat} {l : Ln}, s[i]? = some l → (mPut o s s)[i]? = some l := fun {i l} h => by
    unfold mPut
    have := lt_of_at h
    rw [List.append_assoc, List.getElem?_append_left this]; exact h
  have atR : ∀ {i : Nat} {l : Ln}, s[i]? = some l → (mPut o s s)[i + s.length]? = some (l.shift s.length) := fun {i l} h => by
    unfold mPut
    have := lt_of_at h
    rw [List.append_assoc, List.getElem?_append_right (by omega), show i + s.length - s.length = i by omega, List.getElem?_append_left (by rw [List.length_map]; exact this), List.getElem?_map, h]; rfl
  constructor
  · intro h
    induction h with
    | refl => exact .inl rfl
    | step a h1 h2 ih =>
      rename_i y n l
      rcases ih with rfl | ih | ⟨z, hz, rfl⟩
      · rw [top] at h1; cases h1
        simp [Ln.mem] at h2
        rcases h2 with rfl | rfl
        · exact .inr (.inl .refl)
        · exact .inr (.inr ⟨_, .refl, by omega⟩)
      · have := nd_le os ih
        obtain ⟨l2, e⟩ := at_low (s := s) (k := y) (by omega)
        rw [atL e] at h1; cases h1
        exact .inr (.inl (.step ih e h2))
      · have := nd_le os hz
        obtain ⟨l2, e⟩ := at_low (s := s) (k := z) (by omega)
        rw [atR e] at h1; cases h1
        obtain ⟨m, hm, rfl⟩ := shift_mem h2
        exact .inr (.inr ⟨m, .step hz e hm, rfl⟩)
  · rintro (rfl | h | ⟨y, h, rfl⟩)
    · exact .refl
    · have h0 : Nd (mPut o s s) (s.length + s.length) (s.length - 1) := .step .refl top (by simp [Ln.mem])
      induction h with
      | refl => exact h0
      | step a h1 h2 ih => exact .step ih (atL h1) h2
    · have h0 : Nd (mPut o s s) (s.length + s.length) (s.length - 1 + s.length) := .step .refl top (by simp [Ln.mem]; omega)
      induction h with
      | refl => exact h0
      | step a h1 h2 ih =>
        refine .step ih (atR h1) ?_
        exact mem_shift h2
theorem put_needL {o : Str} {s : List Ln} (ho : o ∈ ops) (os : Low s) (ne : s ≠ []) :
    mNeedL (mPut o s s) (s.length + s.length) = mNeedL s (s.length - 1) ++ (mNeedL s (s.length - 1)).map (· + s.length) ++ [s.length + s.length] := by
  have pos := List.length_pos_iff.mpr ne
  have low := put_low ho os os ne ne
  have ll : (mPut o s s).length = s.length + s.length + 1 := by unfold mPut; simp [List.length_append]; omega
  have b := fun x (hx : x ∈ mNeedL s (s.length - 1)) => nd_le os ((needL_nd os (k := s.length - 1) (by omega) x).1 hx)
  refine asc_ext (needL_asc _ _) ?_ fun x => ?_
  · refine List.pairwise_append.mpr ⟨List.pairwise_append.mpr ⟨needL_asc _ _, List.pairwise_map.mpr ((needL_asc s _).imp fun h => by omega), fun x hx y hy => ?_⟩, by simp, fun x hx y hy => ?_⟩
    · obtain ⟨z, hz, rfl⟩ := List.mem_map.mp hy
      have := b x hx; omega
    · rw [List.mem_singleton.mp hy]
      rcases List.mem_append.mp hx with hx | hx
      · have := b x hx; omega
      · obtain ⟨z, hz, rfl⟩ := List.mem_map.mp hx
        have := b z hz; omega
  · rw [needL_nd low (by omega), put_need ho os ne, List.mem_append, List.mem_append, List.mem_singleton, List.mem_map, needL_nd os (by omega)]
    constructor
    · rintro (h | h | ⟨y, h, rfl⟩)
      · exact .inr h
      · exact .inl (.inl h)
      · exact .inl (.inr ⟨y, (needL_nd os (by omega) y).2 h, rfl⟩)
    · rintro ((h | ⟨y, h, rfl⟩) | h)
      · exact .inr (.inl h)
      · exact .inr (.inr ⟨y, (needL_nd os (by omega) y).1 h, rfl⟩)
      · exact .inl h
theorem shift_ren (l : Ln) (n : Nat) (g : Nat → Nat) : (l.shift n).ren g = l.ren fun m => g (m + n) := by cases l <;> rfl
theorem ren_shift (l : Ln) (n : Nat) (g : Nat → Nat) : (l.ren g).shift n = l.ren fun m => g m + n := by cases l <;> rfl
theorem idx_shift {ys : List Nat} {n m : Nat} : (ys.map (· + n)).idxOf (m + n) = ys.idxOf m := by
  induction ys with
  | nil => rfl
  | cons y ys ih =>
    rw [List.map_cons, List.idxOf_cons, List.idxOf_cons, ih]
    by_cases c : y = m
    · subst c; simp
    · rw [show (y + n == m + n) = false by simp; exact c, show (y == m) = false by simp; exact c]
theorem put_part {o : Str} {s : List Ln} (ho : o ∈ ops) (os : Low s) (ne : s ≠ []) : mPart (mPut o s s) (mNeedL (mPut o s s) (s.length + s.length)) = mPut o (mPart s (mNeedL s (s.length - 1))) (mPart s (mNeedL s (s.length - 1))) := by
  have pos := List.length_pos_iff.mpr ne
  rw [put_needL ho os ne]
  obtain ⟨kp, kl⟩ := need_kept os (show s.length - 1 < s.length by omega) (needL_asc s (s.length - 1)) (needL_mem os (by omega))
  have li := asc_idx kp.asc kl
  have lm := List.mem_of_getElem? kl
  obtain ⟨ys, ey⟩ : ∃ ys, ys = mNeedL s (s.length - 1) := ⟨_, rfl⟩
  rw [← ey] at kp kl li lm ⊢
  have yp : 0 < ys.length := Nat.lt_of_le_of_lt (Nat.zero_le _) (List.getElem?_eq_some_iff.mp kl).1
  obtain ⟨Y, eY⟩ : ∃ Y, Y = ys ++ ys.map (· + s.length) ++ [s.length + s.length] := ⟨_, rfl⟩
  have i1 : ∀ m ∈ ys, Y.idxOf m = ys.idxOf m := fun m hm => by
    rw [eY, List.append_assoc, List.idxOf_append, if_pos hm]
  have i2 : ∀ m ∈ ys, Y.idxOf (m + s.length) = ys.idxOf m + ys.length := fun m hm => by
    have n1 : m + s.length ∉ ys := fun h => by have := kp.lt _ h; omega
    rw [eY, List.append_assoc, List.idxOf_append, if_neg n1, List.idxOf_append, if_pos (List.mem_map.mpr ⟨m, hm, rfl⟩), idx_shift]
  have atL : ∀ {i : Nat} {l : Ln}, s[i]? = some l → (mPut o s s)[i]? = some l := fun {i l} h => by
    unfold mPut
    have := lt_of_at h
    rw [List.append_assoc, List.getElem?_append_left this]; exact h
  have atR : ∀ {i : Nat} {l : Ln}, s[i]? = some l → (mPut o s s)[i + s.length]? = some (l.shift s.length) := fun {i l} h => by
    unfold mPut
    have := lt_of_at h
    rw [List.append_assoc, List.getElem?_append_right (by omega), show i + s.length - s.length = i by omega, List.getElem?_append_left (by rw [List.length_map]; exact this), List.getElem?_map, h]; rfl
  rw [← eY]
  have key : mPart (mPut o s s) Y = (ys ++ ys.map (· + s.length) ++ [s.length + s.length]).map (fun k => ((mPut o s s).getD k .yes).ren fun n => Y.idxOf n) := by unfold mPart; rw [← eY]
  rw [key, List.map_append, List.map_append, List.map_map, List.map_singleton, getD_at put_top]
  unfold mPut
  congr 1
  congr 1
  · refine List.map_congr_left fun k hk => ?_
    obtain ⟨l, hl⟩ := at_low (kp.lt k hk)
    show ((mPut o s s).getD k .yes).ren _ = _
    rw [getD_at (atL hl), getD_at hl]
    exact ren_congr fun m hm => i1 m (kp.cl k hk l hl m hm)
  · show _ = (mPart s ys).map _
    rw [part_len]
    unfold mPart
    rw [List.map_map]
    refine List.map_congr_left fun k hk => ?_
    obtain ⟨l, hl⟩ := at_low (kp.lt k hk)
    show ((mPut o s s).getD (k + s.length) .yes).ren _ = Ln.shift ys.length ((s.getD k .yes).ren _)
    rw [getD_at (atR hl), getD_at hl, shift_ren, ren_shift]
    exact ren_congr fun m hm => i2 m (kp.cl k hk l hl m hm)
  · rw [part_len]
    show [Ln.bi o (Y.idxOf (s.length - 1)) (Y.idxOf (s.length + s.length - 1))] = _
    have j1 := i1 _ lm
    have j2 := i2 _ lm
    rw [show s.length - 1 + s.length = s.length + s.length - 1 by omega] at j2
    rw [j1, j2, li]
    congr 2
    omega
theorem once_twice {p : List Ln} (op : Low p) : ∀ j, j ≤ p.length → ((p.take j).map (·.shift p.length)).foldl onceS (onceL p) = ((onceL p).1, (onceL p).2 ++ (onceL p).2.take j)
  | 0, _ => by rw [List.take_zero, List.take_zero, List.append_nil]; rfl
  | j + 1, h => by
    obtain ⟨l, hl⟩ := at_low (s := p) (k := j) (by omega)
    have I := once_all op
    obtain ⟨l2, h1, h2⟩ := I.at_ j (by omega)
    rw [hl] at h1; cases h1
    rw [take_more' hl, List.map_append, List.foldl_append, once_twice op j (by omega)]
    have e : ((l.shift p.length).ren fun m => ((onceL p).2 ++ (onceL p).2.take j).getD m 0) = l.ren fun m => (onceL p).2.getD m 0 := by
      rw [shift_ren]
      refine ren_congr fun m hm => ?_
      have := (op j l hl).2 m hm
      rw [List.getD_eq_getElem?_getD, List.getD_eq_getElem?_getD, List.getElem?_append_right (by rw [I.lp]; omega), I.lp, show m + p.length - p.length = m by omega, List.getElem?_take_of_lt this]
    show onceS ((onceL p).1, (onceL p).2 ++ (onceL p).2.take j) (l.shift p.length) = _
    unfold onceS
    dsimp only
    rw [e, if_pos (List.mem_of_getElem? h2), idx_nd I.nd h2]
    have e3 : (onceL p).2[j]? = some ((onceL p).2.getD j 0) := by
      rw [List.getD_eq_getElem?_getD, List.getElem?_eq_getElem (by rw [I.lp]; omega)]; rfl
    rw [take_more' e3, List.append_assoc]
theorem put_once {o : Str} {p : List Ln} (ho : o ∈ ops) (op : Low p) (ne : p ≠ []) (all : AllNd p) : (onceL (mPut o p p)).1 = (onceL p).1 ++ [.bi o ((onceL p).1.length - 1) ((onceL p).1.length - 1)] := by
  have pos := List.length_pos_iff.mpr ne
  have I := once_all op
  obtain ⟨tne, tl⟩ := I.last op ne all
  have tpos := List.length_pos_iff.mpr tne
  have h2 := once_twice op p.length (Nat.le_refl _)
  rw [List.take_length, show (onceL p).2.take p.length = (onceL p).2 by rw [List.take_of_length_le (Nat.le_of_eq I.lp)]] at h2
  have e : onceL (mPut o p p) = onceS ((onceL p).1, (onceL p).2 ++ (onceL p).2) (.bi o (p.length - 1) (p.length + p.length - 1)) := by
    show (p ++ p.map (·.shift p.length) ++ [Ln.bi o (p.length - 1) (p.length + p.length - 1)]).foldl onceS ([], []) = _
    rw [List.foldl_append, List.foldl_append]
    show onceS ((p.map (·.shift p.length)).foldl onceS (onceL p)) _ = _
    rw [h2]
  rw [e]
  have g1 : ((onceL p).2 ++ (onceL p).2).getD (p.length - 1) 0 = (onceL p).1.length - 1 := by
    rw [List.getD_eq_getElem?_getD, List.getElem?_append_left (by rw [I.lp]; omega), ← List.getD_eq_getElem?_getD]; exact tl
  have g2 : ((onceL p).2 ++ (onceL p).2).getD (p.length + p.length - 1) 0 = (onceL p).1.length - 1 := by
    rw [List.getD_eq_getElem?_getD, List.getElem?_append_right (by rw [I.lp]; omega), I.lp, show p.length + p.length - 1 - p.length = p.length - 1 by omega, ← List.getD_eq_getElem?_getD]; exact tl
  have er : (Ln.bi o (p.length - 1) (p.length + p.length - 1)).ren (fun m => ((onceL p).2 ++ (onceL p).2).getD m 0) = .bi o ((onceL p).1.length - 1) ((onceL p).1.length - 1) := by
    show Ln.bi o _ _ = _
    dsimp only
    rw [g1, g2]
  have ni : Ln.bi o ((onceL p).1.length - 1) ((onceL p).1.length - 1) ∉ (onceL p).1 := fun hm => by
    obtain ⟨k, hk⟩ := List.getElem?_of_mem hm
    have := (I.low k _ hk).2 ((onceL p).1.length - 1) (by simp [Ln.mem])
    have := lt_of_at hk
    omega
  unfold onceS
  dsimp only
  rw [er, if_neg ni]
theorem part_ne {s : List Ln} (os : Low s) (ne : s ≠ []) : mPart s (mNeedL s (s.length - 1)) ≠ [] := fun e => by
  have pos := List.length_pos_iff.mpr ne
  have := congrArg List.length e
  rw [part_len] at this
  have hm := (needL_nd os (k := s.length - 1) (by omega) (s.length - 1)).2 .refl
  rw [List.length_eq_zero_iff.mp this] at hm
  cases hm
theorem tidy_put {o : Str} {s : List Ln} (ho : o ∈ ops) (os : Low s) (ne : s ≠ []) : tidyL (mPut o s s) = tidyL s ++ [.bi o ((tidyL s).length - 1) ((tidyL s).length - 1)] := by
  have pos := List.length_pos_iff.mpr ne
  show (onceL (mPart (mPut o s s) (mNeedL (mPut o s s) ((mPut o s s).length - 1)))).1 = _
  rw [show (mPut o s s).length - 1 = s.length + s.length by unfold mPut; simp [List.length_append], put_part ho os ne, put_once ho (part_low os (kept_last os ne)) (part_ne os ne) (part_allNd os ne)]
  rfl
/-! ### lines each made of the one ahead twice -/
def lad (ws : List Str) : List Ln := [.lt "a", .lt "a"] ++ ws.zipIdx.flatMap fun p => [.bi p.1 (2 * p.2) (2 * p.2 + 1), .bi p.1 (2 * p.2 + 1) (2 * p.2)]
def ladT (ws : List Str) : List Ln := .lt "a" :: ws.zipIdx.map fun p => .bi p.1 p.2 p.2
theorem lad_snoc (ws : List Str) (w : Str) : lad (ws ++ [w]) = lad ws ++ [.bi w (2 * ws.length) (2 * ws.length + 1), .bi w (2 * ws.length + 1) (2 * ws.length)] := by
  unfold lad
  rw [List.zipIdx_append, List.flatMap_append, List.append_assoc]
  simp
theorem ladT_snoc (ws : List Str) (w : Str) : ladT (ws ++ [w]) = ladT ws ++ [.bi w ws.length ws.length] := by
  unfold ladT
  rw [List.zipIdx_append, List.map_append]
  simp
theorem lad_len (ws : List Str) : (lad ws).length = 2 * ws.length + 2 := by
  suffices h : ∀ (k : Nat) (ws : List Str), ws.length = k → (lad ws).length = 2 * ws.length + 2 from h _ ws rfl
  intro k
  induction k with
  | zero => intro ws e; rw [List.length_eq_zero_iff.mp e]; rfl
  | succ k ih =>
    intro w0 e
    obtain ⟨ws, w, rfl⟩ : ∃ l x, w0 = l ++ [x] := ⟨w0.dropLast, w0.getLast (fun z => by rw [z] at e; cases e), (List.dropLast_concat_getLast _).symm⟩
    rw [List.length_append, List.length_singleton] at e
    rw [lad_snoc, List.length_append, ih ws (by omega)]
    simp; omega
theorem ladT_len (ws : List Str) : (ladT ws).length = ws.length + 1 := by unfold ladT; simp
theorem lad_ind {P : List Str → Prop} (h0 : P []) (h1 : ∀ ws w, P ws → P (ws ++ [w])) (ws : List Str) : P ws := by
  suffices h : ∀ (k : Nat) (ws : List Str), ws.length = k → P ws from h _ ws rfl
  intro k
  induction k with
  | zero => intro ws e; rw [List.length_eq_zero_iff.mp e]; exact h0
  | succ k ih =>
    intro w0 e
    obtain ⟨ws, w, rfl⟩ : ∃ l x, w0 = l ++ [x] := ⟨w0.dropLast, w0.getLast (fun z => by rw [z] at e; cases e), (List.dropLast_concat_getLast _).symm⟩
    rw [List.length_append, List.length_singleton] at e
    exact h1 ws w (ih ws (by omega))
theorem lad_low {ws : List Str} (h : ∀ w ∈ ws, w ∈ ops) : Low (lad ws) := by
  revert h
  refine lad_ind (P := fun ws => (∀ w ∈ ws, w ∈ ops) → Low (lad ws)) (fun _ k l e => ?_) (fun ws w ih h => ?_) ws
  · match k, e with
    | 0, e => cases e; exact ⟨trivial, fun i hi => by cases hi⟩
    | 1, e => cases e; exact ⟨trivial, fun i hi => by cases hi⟩
  · have hw := h w (by simp)
    have ll := lad_len ws
    rw [lad_snoc, show ∀ (a b : Ln), lad ws ++ [a, b] = lad ws ++ [a] ++ [b] from fun a b => by simp]
    refine low_snoc (low_snoc (ih fun v hv => h v (by simp [hv])) ⟨hw, fun i hi => ?_⟩) ⟨hw, fun i hi => ?_⟩
    · simp [Ln.mem] at hi; omega
    · rw [List.length_append, List.length_singleton]; simp [Ln.mem] at hi; omega
def ladP (n : Nat) : List Nat := (List.range (2 * n + 2)).map (· / 2)
theorem ladP_at {n m : Nat} (h : m < 2 * n + 2) : (ladP n).getD m 0 = m / 2 := by
  unfold ladP
  rw [List.getD_eq_getElem?_getD, List.getElem?_map, List.getElem?_range h]; rfl
theorem ladT_low {ws : List Str} (h : ∀ w ∈ ws, w ∈ ops) : Low (ladT ws) := by
  revert h
  refine lad_ind (P := fun ws => (∀ w ∈ ws, w ∈ ops) → Low (ladT ws)) (fun _ k l e => ?_) (fun ws w ih h => ?_) ws
  · match k, e with
    | 0, e => cases e; exact ⟨trivial, fun i hi => by cases hi⟩
  · have hw := h w (by simp)
    have ll := ladT_len ws
    rw [ladT_snoc]
    exact low_snoc (ih fun v hv => h v (by simp [hv])) ⟨hw, fun i hi => by simp [Ln.mem] at hi; omega⟩
theorem ladT_not {ws : List Str} (h : ∀ w ∈ ws, w ∈ ops) (w : Str) : Ln.bi w ws.length ws.length ∉ ladT ws := fun hm => by
  obtain ⟨k, hk⟩ := List.getElem?_of_mem hm
  have := (ladT_low h k _ hk).2 ws.length (by simp [Ln.mem])
  have := lt_of_at hk
  rw [ladT_len] at this
  omega
theorem lad_step {ws : List Str} (h : ∀ w ∈ ws, w ∈ ops) (w : Str) : onceS (ladT ws, ladP ws.length) (.bi w (2 * ws.length) (2 * ws.length + 1)) = (ladT (ws ++ [w]), ladP ws.length ++ [ws.length + 1]) := by
  have e : (Ln.bi w (2 * ws.length) (2 * ws.length + 1)).ren (fun m => (ladP ws.length).getD m 0) = .bi w ws.length ws.length := by
    show Ln.bi w _ _ = _
    dsimp only
    rw [ladP_at (by omega), ladP_at (by omega)]
    congr 1 <;> omega
  unfold onceS
  dsimp only
  rw [e, if_neg (ladT_not h w), ladT_snoc, List.idxOf_append, if_neg (ladT_not h w), ladT_len]
  simp
theorem lad_step2 {ws : List Str} (h : ∀ w ∈ ws, w ∈ ops) (w : Str) : onceS (ladT (ws ++ [w]), ladP ws.length ++ [ws.length + 1]) (.bi w (2 * ws.length + 1) (2 * ws.length)) = (ladT (ws ++ [w]), ladP (ws.length + 1)) := by
  have ll : (ladP ws.length).length = 2 * ws.length + 2 := by unfold ladP; simp
  have g : ∀ m, m < 2 * ws.length + 2 → (ladP ws.length ++ [ws.length + 1]).getD m 0 = m / 2 := fun m hm => by
    rw [List.getD_eq_getElem?_getD, List.getElem?_append_left (by omega), ← List.getD_eq_getElem?_getD, ladP_at hm]
  have e : (Ln.bi w (2 * ws.length + 1) (2 * ws.length)).ren (fun m => (ladP ws.length ++ [ws.length + 1]).getD m 0) = .bi w ws.length ws.length := by
    show Ln.bi w _ _ = _
    dsimp only
    rw [g _ (by omega), g _ (by omega)]
    congr 1 <;> omega
  have hin : Ln.bi w ws.length ws.length ∈ ladT (ws ++ [w]) := by rw [ladT_snoc]; simp
  unfold onceS
  dsimp only
  rw [e, if_pos hin, ladT_snoc, List.idxOf_append, if_neg (ladT_not h w), ladT_len]
  have : ladP (ws.length + 1) = ladP ws.length ++ [ws.length + 1, ws.length + 1] := by
    unfold ladP
    rw [show 2 * (ws.length + 1) + 2 = 2 * ws.length + 2 + 1 + 1 by omega, List.range_succ, List.range_succ, List.map_append, List.map_append]
    simp; omega
  rw [this]
  simp
theorem lad_zero : onceL (lad []) = (ladT [], ladP 0) := by
  have e0 : onceS ([], []) (.lt "a") = ([.lt "a"], [0]) := by unfold onceS; simp [Ln.ren]
  have e1 : onceS ([.lt "a"], [0]) (.lt "a") = ([.lt "a"], [0, 0]) := by unfold onceS; simp [Ln.ren]
  show onceS (onceS ([], []) (.lt "a")) (.lt "a") = _
  rw [e0, e1]
  rfl
theorem lad_once {ws : List Str} (h : ∀ w ∈ ws, w ∈ ops) : onceL (lad ws) = (ladT ws, ladP ws.length) := by
  revert h
  refine lad_ind (P := fun ws => (∀ w ∈ ws, w ∈ ops) → onceL (lad ws) = (ladT ws, ladP ws.length)) (fun _ => lad_zero) (fun ws w ih h => ?_) ws
  have h' : ∀ w ∈ ws, w ∈ ops := fun v hv => h v (by simp [hv])
  rw [lad_snoc, show ∀ (a b : Ln), lad ws ++ [a, b] = lad ws ++ [a] ++ [b] from fun a b => by simp]
  show onceG [] (lad ws ++ [_] ++ [_]) = _
  rw [onceG_snoc, onceG_snoc]
  have := ih h'
  rw [show onceG [] (lad ws) = onceL (lad ws) from rfl, this, lad_step h' w, lad_step2 h' w, List.length_append, List.length_singleton]
/-- what the last line of a ladder needs: all but the line ahead of it -/
theorem lad_nd {ws : List Str} {w : Str} (h : ∀ v ∈ ws ++ [w], v ∈ ops) : mNeedL (lad (ws ++ [w])) ((lad (ws ++ [w])).length - 1) = List.range (2 * ws.length + 2) ++ [2 * ws.length + 3] := by
  have low := lad_low h
  have ll := lad_len (ws ++ [w])
  rw [List.length_append, List.length_singleton] at ll
  have at1 : (lad (ws ++ [w]))[2 * ws.length + 3]? = some (.bi w (2 * ws.length + 1) (2 * ws.length)) := by
    rw [lad_snoc, List.getElem?_append_right (by rw [lad_len]; omega), lad_len]
    rw [show 2 * ws.length + 3 - (2 * ws.length + 2) = 1 by omega]; rfl
  -- each pair is needed
  have pair : ∀ k, k ≤ ws.length → Nd (lad (ws ++ [w])) (2 * ws.length + 3) (2 * (ws.length - k)) ∧ Nd (lad (ws ++ [w])) (2 * ws.length + 3) (2 * (ws.length - k) + 1) := fun k => by
    induction k with
    | zero => exact fun _ => ⟨.step .refl at1 (by simp [Ln.mem]), .step .refl at1 (by simp [Ln.mem])⟩
    | succ k ih =>
      intro hk
      obtain ⟨a, b⟩ := ih (by omega)
      have e : ∃ l, (lad (ws ++ [w]))[2 * (ws.length - k)]? = some l ∧ l.mem = [2 * (ws.length - (k + 1)), 2 * (ws.length - (k + 1)) + 1] := by
        have : ∀ (vs : List Str) (j : Nat), j < vs.length → ∃ l, (lad vs)[2 * (j + 1)]? = some l ∧ l.mem = [2 * j, 2 * j + 1] := fun vs => by
          refine lad_ind (P := fun vs => ∀ (j : Nat), j < vs.length → ∃ l, (lad vs)[2 * (j + 1)]? = some l ∧ l.mem = [2 * j, 2 * j + 1]) (fun j hj => by cases hj) (fun vs v ih j hj => ?_) vs
          rw [List.length_append, List.length_singleton] at hj
          rcases Nat.lt_or_ge j vs.length with c | c
          · obtain ⟨l, h1, h2⟩ := ih j c
            exact ⟨l, by rw [lad_snoc, List.getElem?_append_left (lt_of_at h1)]; exact h1, h2⟩
          · have e : j = vs.length := by omega
            subst e
            exact ⟨.bi v (2 * vs.length) (2 * vs.length + 1), by rw [lad_snoc, List.getElem?_append_right (by rw [lad_len]; omega), lad_len, show 2 * (vs.length + 1) - (2 * vs.length + 2) = 0 by omega]; rfl, rfl⟩
        have := this (ws ++ [w]) (ws.length - (k + 1)) (by rw [List.length_append]; omega)
        rwa [show ws.length - (k + 1) + 1 = ws.length - k by omega] at this
      obtain ⟨l, h1, h2⟩ := e
      exact ⟨.step a h1 (by rw [h2]; simp), .step a h1 (by rw [h2]; simp)⟩
  refine asc_ext (needL_asc _ _) ?_ fun x => ?_
  · refine List.pairwise_append.mpr ⟨List.pairwise_lt_range, by simp, fun x hx y hy => ?_⟩
    have := List.mem_range.mp hx
    rw [List.mem_singleton.mp hy]; omega
  · rw [ll, show 2 * (ws.length + 1) + 2 - 1 = 2 * ws.length + 3 by omega, needL_nd low (by omega), List.mem_append, List.mem_range, List.mem_singleton]
    constructor
    · intro n
      rcases nd_front n with rfl | ⟨l, m, h1, h2, h3⟩
      · exact .inr rfl
      · rw [at1] at h1; cases h1
        have := nd_le low h3
        simp [Ln.mem] at h2
        exact .inl (by omega)
    · rintro (hx | rfl)
      · obtain ⟨a, b⟩ := pair (ws.length - x / 2) (by omega)
        rw [show ws.length - (ws.length - x / 2) = x / 2 by omega] at a b
        rcases Nat.mod_two_eq_zero_or_one x with c | c
        · rwa [show 2 * (x / 2) = x by omega] at a
        · rwa [show 2 * (x / 2) + 1 = x by omega] at b
      · exact .refl
theorem lad_tidy {ws : List Str} {w : Str} (h : ∀ v ∈ ws ++ [w], v ∈ ops) : tidyL (lad (ws ++ [w])) = ladT (ws ++ [w]) := by
  have h' : ∀ w ∈ ws, w ∈ ops := fun v hv => h v (by simp [hv])
  have low := lad_low h'
  have at1 : (lad (ws ++ [w]))[2 * ws.length + 3]? = some (.bi w (2 * ws.length + 1) (2 * ws.length)) := by
    rw [lad_snoc, List.getElem?_append_right (by rw [lad_len]; omega), lad_len]
    rw [show 2 * ws.length + 3 - (2 * ws.length + 2) = 1 by omega]; rfl
  have ix : ∀ m, m < 2 * ws.length + 2 → (List.range (2 * ws.length + 2) ++ [2 * ws.length + 3]).idxOf m = m := fun m hm => by
    rw [List.idxOf_append, if_pos (List.mem_range.mpr hm)]
    exact asc_idx List.pairwise_lt_range (List.getElem?_range hm)
  have e : mPart (lad (ws ++ [w])) (List.range (2 * ws.length + 2) ++ [2 * ws.length + 3]) = lad ws ++ [.bi w (2 * ws.length + 1) (2 * ws.length)] := by
    unfold mPart
    rw [List.map_append, List.map_singleton, getD_at at1]
    congr 1
    · conv => rhs; rw [← part_range low]
      unfold mPart
      rw [lad_len]
      refine List.map_congr_left fun k hk => ?_
      have hk := List.mem_range.mp hk
      obtain ⟨l, hl⟩ := at_low (s := lad ws) (k := k) (by rw [lad_len]; exact hk)
      rw [getD_at (show (lad (ws ++ [w]))[k]? = some l by rw [lad_snoc, List.getElem?_append_left (lt_of_at hl)]; exact hl), getD_at hl]
      refine ren_congr fun m hm => ?_
      have := (low k l hl).2 m hm
      rw [ix m (by omega)]
      exact (asc_idx List.pairwise_lt_range (i := m) (j := m) (List.getElem?_range (by omega))).symm
    · show [Ln.bi w _ _] = _
      dsimp only
      rw [ix _ (by omega), ix _ (by omega)]
  show (onceL (mPart (lad (ws ++ [w])) (mNeedL (lad (ws ++ [w])) ((lad (ws ++ [w])).length - 1)))).1 = _
  rw [lad_nd h, e]
  show (onceG [] (lad ws ++ [_])).1 = _
  rw [onceG_snoc, show onceG [] (lad ws) = onceL (lad ws) from rfl, lad_once h']
  have er : (Ln.bi w (2 * ws.length + 1) (2 * ws.length)).ren (fun m => (ladP ws.length).getD m 0) = .bi w ws.length ws.length := by
    show Ln.bi w _ _ = _
    dsimp only
    rw [ladP_at (by omega), ladP_at (by omega)]
    congr 1 <;> omega
  unfold onceS
  dsimp only
  rw [er, if_neg (ladT_not h' w), ladT_snoc]
end Law

end

section
set_option maxHeartbeats 1000000
/-! PuEz: for i, (x, y) in enumerate(zip(a, b)), a and b tuples: the zip's own pair stays out. -/
namespace RZ
open PySem
open PySem.Sem (wp)
abbrev ZF (h : Heap) (z TI TO : Addr) (f0 : Value) (f1 : Bool) : Prop :=
  h.get? z = some { cls := .type "zip", dict := none, data := .fields #[f0, .bool f1, .bool false, .ref TI, .ref TO], slots := #[] }
def Own0 (f0 : Value) : Prop := f0 = .none ∨ ∃ T : Addr, f0 = rawInt T
structure ZSt (h : Heap) (z TI TO i1 i2 l1 l2 : Addr) (k : Nat) : Prop where
  zf : ∃ f0 f1, ZF h z TI TO f0 f1 ∧ Own0 f0
  ti : IsPair h TI (.ref i1) (.ref i2)
  to : ∃ a b, IsPair h TO a b
  a1 : h.IsTupleIter i1 l1 k
  a2 : h.IsTupleIter i2 l2 k
theorem ZSt.keep {h h' : Heap} {z TI TO i1 i2 l1 l2 : Addr} {k : Nat} (x : ZSt h z TI TO i1 i2 l1 l2 k) (c : ∀ b ∈ [z, TI, TO, i1, i2], ∀ o, h.get? b = some o → h'.get? b = some o) : ZSt h' z TI TO i1 i2 l1 l2 k := by
  obtain ⟨⟨f0, f1, h1, h2⟩, h3, ⟨a, b, h4⟩, h5, h6⟩ := x
  exact ⟨⟨f0, f1, c z (by simp) _ h1, h2⟩, c TI (by simp) _ h3, ⟨a, b, c TO (by simp) _ h4⟩, h5.at fun o q => c i1 (by simp) o q, h6.at fun o q => c i2 (by simp) o q⟩
section
variable {prog : Program} {w : World} {A : Around} {E : Value → Shared → Prop} {s : Shared}
end
section
variable {prog : Program} {w : World} {A : Around} {E : Value → Shared → Prop} {s : Shared}
end
end RZ
namespace RZ
open PySem PySem.Spec PyProof.Rows L2
end RZ
namespace Pu
open PySem L2 PyProof.Rows RZ
section
variable {K : PySem.W.Frag} {F : Fr} {hid : Hid} {tr : TA} {fr : DTA}
end
section
variable {X : Cx} {F : Fr} {K : PySem.W.Frag} {e e2 : Expr} {tr : TA} {fr : DTA} {p p0 pos pos2 tpos : Pos} {elts : List Expr} {kk : Nat}
end
end Pu

end

section
set_option maxHeartbeats 2000000
/-! PuEx: exceptions of the program's own classes, with one field that holds a tuple: raised, and caught. -/
namespace Pu
open PySem L2 PySem.Spec PyProof.Rows RZ
/-- what stands for raising: a def's promise is asked of it as of an answer; no value stands for it -/
def excS (ds : List PyData) : Sl := .d (.dict [(.none, .tuple ds)])
/-- what the written part says of the class x at C, its __init__ at fI, its field f -/
structure ExC (K : PySem.W.Frag) (mg : Str → Option Value) (x : Str) (C fI : Addr) (f : Str) : Prop where
  oex : OexC K C
  xf : XfC K C
  no : PySem.W.findIn K (.ref C) f = some none
  iC : PySem.W.findIn K (.ref C) "__init__" = some (some (.ref fI))
  tI : PySem.W.typeIn K (.ref fI) = some (.type "function")
  te : PySem.W.exmOne K (.ref C) (.ref C) = some true
  gm : mg x = some (.ref C)
/-- a def that may raise it -/
def spXE (K : PySem.W.Frag) (n : Nat) (m : FN) (C : Addr) (f : Str) : Sp := fun vs H Q E => ∃ hid Hb ss R, St0 hid Hb H ∧ RepAll K hid Hb H vs ss ∧ ss.length = n ∧ m ss R ∧
  (∀ v Hb' H' s, Step hid Hb H Hb' H' → RepSl K hid Hb' H' v s → FrSl H v s → R s → Q v H') ∧
  (∀ (v : V) Hb' H' (d : Addr) ds, Step hid Hb H Hb' H' → H' d = some (.xd [(f, v)]) → Dq K Hb' v (.tuple ds) → R (excS ds) → E (.ref C) (some d) H')
/-! ### raise x(e) -/
section
variable {K : PySem.W.Frag} {F : Fr} {te : TE} {fe : DTE} {C : Addr} {f : Str} {E : XK} {R : DK}
end
section
variable {X : Cx} {F : Fr} {e : Expr} {te : TE} {fe : DTE} {x f : Str} {C fI : Addr} {CXi : CXT} {k : Nat} {fd : FuncData} {E : XK} {R : DK} {p pos pos2 : Pos}
end
/-! ### a def that may raise -/
section
variable {P : Program} {w : World} {K : PySem.W.Frag} {mg : Str → Option Value} {base : Heap}
end
end Pu

end

section
set_option maxHeartbeats 2000000
/-! PuTr: try: y = [] if g(e) is None else [z]; except x as n: y = [n.f]. -/
namespace Pu
open PySem L2 PySem.Spec PyProof.Rows RZ
section
variable {X : Cx} {k : Nat} {g : Addr} {fd : FuncData} {ps : List Str} {sp : Sp} {cs : Str} {p pos : Pos} {e : Expr} {es : List Expr} {t : TA} {W : WX}
end
section
variable {X : Cx} {k i j : Nat} {g C fI : Addr} {fd : FuncData} {ps : List Str} {sp : Sp} {cs y n x f z : Str} {e : Expr} {t : TA} {jc jz : Nat} {p1 p2 p3 p4 p5 p6 p7 p8 p9 q1 q2 q3 q4 q5 q6 q7 pos pos' : Pos}
end
section
variable {K : PySem.W.Frag} {F : Fr} {C : Addr} {f z : Str} {n i j : Nat} {m : FN} {ta : TA} {fa : DTA}
end
section
variable {X : Cx} {F : Fr} {k i j n : Nat} {m : FN} {g C fI : Addr} {fd : FuncData} {ps : List Str} {cs y nm x f z : Str} {e : Expr} {t : TA} {fa : DTA} {jc jz : Nat} {p1 p2 p3 p4 p5 p6 p7 p8 p9 q1 q2 q3 q4 q5 q6 q7 pos pos' : Pos}
end
/-! ### __init__ -/
section
variable {P : Program} {w : World} {K : PySem.W.Frag} {mg : Str → Option Value} {base : Heap}
end
/-! ### defs that raise, by name -/
structure FnXE (P : Program) (w : World) (K : PySem.W.Frag) (mg : Str → Option Value) (base : Heap) (cs : Str) (k : Nat) (ps : List Str) (n : Nat) (m : FN) (x f : Str) : Prop where
  ex : ∃ C fI, ExC K mg x C fI f ∧ ∃ g fd, mg cs = some (.ref g) ∧ PySem.W.keepIn K (.ref g) = true ∧ Binds K fd ps [] ∧ FnG P w K mg base (L2.CX P w) k g fd ps (spXE K n m C f)
section
variable {P : Program} {w : World} {K : PySem.W.Frag} {mg : Str → Option Value} {base : Heap}
end
end Pu

end

section
set_option maxHeartbeats 1000000
/-! PuX7: repr of all data; a if c else b as a test. -/
namespace Pu
open PySem L2 PyProof.Rows RZ
/-! ### a if c else b, as a test -/
def tIfT (t ta tb : TT) : TT := fun σ H Q => t σ H fun c H1 => if c = true then ta σ H1 Q else tb σ H1 Q
def dIfT (t fa fb : DTT) : DTT := fun env Q => t env fun c => if c = true then fa env Q else fb env Q
section
variable {X : Cx} {F : Fr} {K : PySem.W.Frag} {c a b : Expr} {pos : Pos} {t ta tb : TT} {ft fa fb : DTT}
theorem pt_ifExp (hc : PT X c t) (ha : PT X a ta) (hb : PT X b tb) : PT X (.IfExp c a b pos) (tIfT t ta tb) := by
  refine ⟨fun pins s σ H Q I h => ?_⟩
  refine isTrue_IfExp (thn (hc.run pins s σ H _ I h) fun d s1 ⟨H1, I1, q1⟩ => ?_)
  cases d with
  | true => exact ha.run pins s1 σ H1 Q I1 q1
  | false => exact hb.run pins s1 σ H1 Q I1 q1
theorem sd_ifT (h : SdT K F t ft) (h1 : SdT K F ta fa) (h2 : SdT K F tb fb) : SdT K F (tIfT t ta tb) (dIfT ft fa fb) := by
  intro Hb H σ env Q k rp q c
  refine h Hb H σ env _ _ rp q fun b Hb1 H1 st1 q1 => ?_
  cases b with
  | true => exact h1 Hb1 H1 σ env Q k (rp.on st1) q1 fun v Hb2 H2 st2 q2 => c v Hb2 H2 (st1.trans st2) q2
  | false => exact h2 Hb1 H1 σ env Q k (rp.on st1) q1 fun v Hb2 H2 st2 q2 => c v Hb2 H2 (st1.trans st2) q2
theorem dt_ifExp (hc : DT X F c t ft) (ha : DT X F a ta fa) (hb : DT X F b tb fb) : DT X F (.IfExp c a b pos) (tIfT t ta tb) (dIfT ft fa fb) :=
  ⟨pt_ifExp hc.pe ha.pe hb.pe, sd_ifT hc.sd ha.sd hb.sd⟩
end
/-! ### repr -/
mutual
/-- no list anywhere -/
def noL : PyData → Bool
  | .list _ => false
  | .tuple xs => noLAll xs
  | .dict kvs => noLKv kvs
  | _ => true
def noLAll : List PyData → Bool
  | [] => true
  | x :: xs => noL x && noLAll xs
def noLKv : List (PyData × PyData) → Bool
  | [] => true
  | (_, v) :: r => noL v && noLKv r
end
section
variable {X : Cx} {pins : List (Addr × Obj)} {σ : L2.St} {H : Hp} {s : Shared}
end
section
variable {X : Cx} {K : PySem.W.Frag} {hid : Hid}
end
end Pu
namespace Pu
end Pu

end

section
set_option maxHeartbeats 1000000
/-! PuTx: texts compared by <=, texts within texts. -/
namespace Pu
open PySem L2 PyProof.Rows RZ
def leS (i j : Str) : Bool := !decide (j.cps.toList < i.cps.toList)
def occS (i j : Str) : Bool := !(Builtin.Str.occurrences j i 0 j.length 1).isEmpty
def fLeS : F2 := fun s u Q => match s, u with
  | .d (.str i), .d (.str j) => Q (.d (.bool (leS i j)))
  | _, _ => False
def fInS (neg : Bool) : F2 := fun s u Q => match s, u with
  | .d (.str i), .d (.str j) => Q (.d (.bool (neg != occS i j)))
  | _, _ => False
section
variable {K : PySem.W.Frag} {hid : Hid}
theorem lo_inS : LO K hid (fun x y H Q => ∃ i j, x = .str i ∧ y = .str j ∧ Q (.bl (!(Builtin.Str.occurrences j i 0 j.length 1).isEmpty)) H) (fInS false) := by
  intro Hb H x y s u Q k st rx ry q c
  unfold fInS at q
  split at q
  · rename_i i j
    exact ⟨i, j, str_of rx, str_of ry, c _ Hb H (.d (.bool (false != occS i j))) (Step.refl st) (by rw [Bool.false_bne]; exact Dq.bl _) trivial q⟩
  · exact q.elim
theorem lo_ninS : LO K hid (fun x y H Q => ∃ i j, x = .str i ∧ y = .str j ∧ Q (.bl (!(!(Builtin.Str.occurrences j i 0 j.length 1).isEmpty))) H) (fInS true) := by
  intro Hb H x y s u Q k st rx ry q c
  unfold fInS at q
  split at q
  · rename_i i j
    exact ⟨i, j, str_of rx, str_of ry, c _ Hb H (.d (.bool (true != occS i j))) (Step.refl st) (by rw [Bool.true_bne]; exact Dq.bl _) trivial q⟩
  · exact q.elim
end
end Pu

end

section
set_option maxHeartbeats 1000000
/-! Mf07: sheets judged: what the defs answer. -/
namespace Law
open PySem L2 PyProof.Rows RZ Pu
/-! ### words -/
def wsM : List Str := ["letter", "yes", "not", "and", "or", "until", "since", "a", "b", "c", "p", "q", "left", "x1", "ab", "abcdefghijkl", "", "A", "a b", "root", "0", "abcdefghijklm", "nor", "x", "7a", "a_b"]
def szW (w : Str) : Nat := if w = "letter" then 2 else if w = "yes" then 1 else if w = "not" then 2 else if w = "and" then 3 else if w = "or" then 3 else if w = "until" then 3 else if w = "since" then 3 else 0
def chS (w : Str) : List Str := w.cps.toList.map fun c => (⟨#[c]⟩ : Str)
def smallP (z : Str) : Bool := leS "a" z && leS z "z"
def digitP (z : Str) : Bool := leS "0" z && leS z "9"
def wdP (w : Str) : Bool := decide (1 ≤ w.length) && decide (w.length ≤ 12) && smallP ((chS w).headD "") && (chS w).all fun z => smallP z || digitP z
def wdL (w : Str) : Bool := !(decide (w = "")) && decide (w.length ≤ 12) && !(occS ((chS w).headD "") "0123456789") && (chS w).all fun z => occS z "abcdefghijklmnopqrstuvwxyz0123456789"
end Law
namespace Law
open PySem L2 PyProof.Rows RZ Pu
theorem wd_eq : ∀ w ∈ wsM, wdL w = wdP w := by decide +kernel
/-! ### data -/
def isStrD : PyData → Bool | .str _ => true | _ => false
/-- a word -/
def isW : PyData → Bool | .str w => wdP w | _ => false
/-- a number -/
def isN : PyData → Bool | .int i => decide (0 ≤ i) | _ => false
def isI : PyData → Bool | .int _ => true | _ => false
def badE (w : Str) (k : Nat) (x : PyData) : Bool := if w = "letter" then !isW x else match x with | .int i => !(decide (0 ≤ i) && decide (i < (k : Int))) | _ => true
def firstBad (p : PyData → Bool) : Nat → List PyData → Option Nat
  | _, [] => none
  | j, x :: xs => if p x then some j else firstBad p (j + 1) xs
/-- what stands behind the line's number in the path -/
def wrongAt (k : Nat) : PyData → Option (List PyData)
  | .tuple (.str w :: rest) => if szW w = rest.length + 1 then (firstBad (badE w k) 1 rest).map fun j => [.int (j : Nat)] else some []
  | _ => some []
def goP : Nat → List PyData → List PyData
  | _, [] => []
  | k, x :: xs => match wrongAt k x with
    | some p => [.tuple (.int (k : Nat) :: p)]
    | none => goP (k + 1) xs
def pathL : PyData → List PyData
  | .tuple (x :: xs) => goP 0 (x :: xs)
  | _ => [.tuple []]
mutual
/-- all texts are known ones -/
def allS : PyData → Bool
  | .str w => decide (w ∈ wsM)
  | .tuple xs => allSs xs
  | .list xs => allSs xs
  | _ => true
def allSs : List PyData → Bool
  | [] => true
  | x :: xs => allS x && allSs xs
end
theorem allSs_iff {xs : List PyData} : allSs xs = true ↔ ∀ x ∈ xs, allS x = true := by
  induction xs with
  | nil => simp [allSs]
  | cons x xs ih => simp [allSs, ih]
/-! ### what the defs answer -/
def m__law_is_word : FN := fun ss R => ∃ d, ss = [.d d] ∧ allS d = true ∧ R (.d (.bool (isW d)))
def m__law_path : FN := fun ss R => ∃ v, ss = [.d v] ∧ allS v = true ∧ (∀ xs, v = .tuple xs → xs.length ≤ 10000) ∧ R (.own (pathL v))
theorem ifb {b : Bool} {A B : Prop} (h1 : b = true → A) (h2 : b = false → B) : if b = true then A else B := by
  cases b with
  | true => rw [if_pos rfl]; exact h1 rfl
  | false => rw [if_neg (by decide)]; exact h2 rfl
theorem chS_ne {w : Str} (h : 1 ≤ w.length) : ∃ c cs, w.cps.toList = c :: cs := by
  cases e : w.cps.toList with
  | nil =>
    have : w.cps.toList.length = 0 := by rw [e]; rfl
    have h2 : 1 ≤ w.cps.size := h
    simp at this
    rw [this] at h2; simp at h2
  | cons c cs => exact ⟨c, cs, rfl⟩
theorem at_0 {α : Type} {c : α} {cs : List α} : atI (c :: cs) 0 = some c := by
  unfold atI ixN
  rw [if_pos (by omega), if_pos (by simp)]
  rfl
theorem chars_len {w : Str} (h : w.length ≤ 100) {f : Nat → PyData} : (w.cps.toList.map f).length ≤ sizeLine := by
  rw [List.length_map, sizeLine_eq]
  have e : w.cps.toList.length = w.length := by simp [Str.length]
  omega
theorem eqvD_nil (xs : List PyData) : PyData.eqv (.list xs) (.list []) = xs.isEmpty := by
  cases xs with
  | nil => rfl
  | cons x l => rfl
theorem tame_chars : ∀ w ∈ wsM, ∀ c ∈ w.cps.toList, tame (.str ⟨#[c]⟩) = true ∧ PyData.canLay0 (.str ⟨#[c]⟩) = true := by decide +kernel
theorem depthAll_le {n : Nat} : ∀ {xs : List PyData}, (∀ x ∈ xs, x.depth ≤ n) → PyData.depthAll xs ≤ n
  | [], _ => Nat.zero_le _
  | x :: xs, h => by
    have := depthAll_le (xs := xs) fun y hy => h y (List.mem_cons_of_mem _ hy)
    have := h x (List.mem_cons_self ..)
    simp only [PyData.depthAll]
    omega
theorem canAll : ∀ {xs : List PyData}, (∀ x ∈ xs, x.canLay0 = true) → PyData.canLayAll0 xs = true := fun h => canLayAll_iff.mpr h
theorem okD1_lst {xs : List PyData} (h : ∀ x ∈ xs, tame x = true ∧ x.canLay0 = true ∧ x.depth ≤ 10) : okD1 (.list xs) := by
  refine okD1_of (by simp only [tame]; exact tameAll_iff.mpr fun x hx => (h x hx).1) ?_ ?_
  · have := depthAll_le fun x hx => (h x hx).2.2
    simp only [PyData.depth]; omega
  · show PyData.canLayAll0 xs = true
    exact canAll fun x hx => (h x hx).2.1
theorem okD1_chars {w : Str} (hw : w ∈ wsM) {zs : List Nat} (h : ∀ c ∈ zs, c ∈ w.cps.toList) : okD1 (.list (zs.map fun c => PyData.str ⟨#[c]⟩)) := okD1_lst fun x hx => by
  obtain ⟨c, hc, rfl⟩ := List.mem_map.mp hx
  exact ⟨(tame_chars w hw c (h c hc)).1, (tame_chars w hw c (h c hc)).2, Nat.zero_le _⟩
theorem fm_filter {p : Nat → Bool} {f : Nat → PyData} : ∀ l : List Nat, (l.filterMap fun c => if p c = true then none else some (f c)) = (l.filter fun c => !p c).map f
  | [] => rfl
  | c :: l => by
    have ih := fm_filter (p := p) (f := f) l
    cases e : p c <;> simp [List.filterMap_cons, List.filter_cons, e, ih]
theorem filter_empty {p : Nat → Bool} {f : Nat → PyData} (l : List Nat) : ((l.filter fun c => !p c).map f).isEmpty = l.all p := by
  induction l with
  | nil => rfl
  | cons c l ih => cases e : p c <;> simp_all [List.filter_cons]
theorem szW_letter : szW "letter" = 2 := by decide +kernel
theorem badE_int {w : Str} {k : Nat} {i : Int} (h : w ≠ "letter") : badE w k (.int i) = !(decide (0 ≤ i) && decide (i < (k : Int))) := by unfold badE; rw [if_neg h]
theorem badE_no {w : Str} {k : Nat} {x : PyData} (h : w ≠ "letter") (c : isI x = false) : badE w k x = true := by
  unfold badE
  rw [if_neg h]
  cases x <;> first | rfl | cases c
abbrev szKv : List (PyData × PyData) := ((["letter", "yes", "not", "and", "or", "until", "since"] : List Str).map PyData.str).zip [.int 2, .int 1, .int 2, .int 3, .int 3, .int 3, .int 3]
theorem get_sz (w : Str) : orSl (getS szKv w) (.d (.int 0)) = .d (.int (szW w : Nat)) := by
  unfold szW
  by_cases h1 : w = "letter"
  · subst h1; rfl
  by_cases h2 : w = "yes"
  · subst h2; rfl
  by_cases h3 : w = "not"
  · subst h3; rfl
  by_cases h4 : w = "and"
  · subst h4; rfl
  by_cases h5 : w = "or"
  · subst h5; rfl
  by_cases h6 : w = "until"
  · subst h6; rfl
  by_cases h7 : w = "since"
  · subst h7; rfl
  rw [if_neg h1, if_neg h2, if_neg h3, if_neg h4, if_neg h5, if_neg h6, if_neg h7]
  have g : ∀ k : Str, w ≠ k → isStr (.str k) w = false := fun k h => by
    unfold isStr
    simpa using fun e : k = w => h e.symm
  have e : getS szKv w = none := by
    show (if isStr (.str "letter") w = true then _ else if isStr (.str "yes") w = true then _ else if isStr (.str "not") w = true then _ else if isStr (.str "and") w = true then _ else if isStr (.str "or") w = true then _ else if isStr (.str "until") w = true then _ else if isStr (.str "since") w = true then _ else _) = _
    rw [g _ h1, g _ h2, g _ h3, g _ h4, g _ h5, g _ h6, g _ h7]
    rfl
  rw [e]
  rfl
theorem wrongAt_bad {k : Nat} {line : PyData} (h : ∀ w rest, line = .tuple (.str w :: rest) → szW w ≠ rest.length + 1) : wrongAt k line = some [] := by
  unfold wrongAt
  split
  · rw [if_neg (h _ _ rfl)]
  · rfl
theorem wrongAt_good {k : Nat} {w : Str} {rest : List PyData} (h : szW w = rest.length + 1) : wrongAt k (.tuple (.str w :: rest)) = (firstBad (badE w k) 1 rest).map fun j => [.int (j : Nat)] := by
  show (if szW w = rest.length + 1 then _ else _) = _
  rw [if_pos h]
theorem badE_let {k : Nat} {x : PyData} : badE "letter" k x = !isW x := rfl
theorem sq_byL {t u : DTS} {E : DEnds} {env : EV} (P : EV → Prop) (h : ∀ nx : EV → Prop, (∀ e, P e → nx e) → t { E with nx := nx } env) (k : ∀ e, P e → u E e) : dSeq t u E env := h _ k
end Law

end

section
set_option maxHeartbeats 1000000
/-! Mg07: sheets that are bent. -/
namespace Law
open PySem L2 PyProof.Rows RZ Pu
/-- known texts, short when shown, not deep; lists and dicts never one within the other -/
def d7 (n m : Nat) (d : PyData) : Bool := allS d && d.showable && decide (d.shown.length ≤ n) && decide (d.depth ≤ m) && (!d.hasDict || noL d)
theorem piledAll {n : Nat} {xs : List PyData} (h : ∀ x ∈ xs, x.shown.length ≤ n) : piled (PyData.shownAll xs) ≤ xs.length * (n + 2) := by
  induction xs with
  | nil => simp [PyData.shownAll, Pu.piled_nil]
  | cons x xs ih =>
    have := ih fun y hy => h y (List.mem_cons_of_mem _ hy)
    have := h x (List.mem_cons_self ..)
    simp only [PyData.shownAll, piled_cons, List.length_cons]
    rw [Nat.add_mul]
    omega
/-- a whole number or a known text -/
def flatE : PyData → Bool
  | .int i => decide (i.natAbs < 10 ^ 100)
  | .str w => decide (w ∈ wsM)
  | _ => false
/-- a line that is good, by its form -/
def VL (y : PyData) : Prop := ∃ w rest, y = .tuple (.str w :: rest) ∧ rest.length ≤ 2 ∧ ∀ x ∈ PyData.str w :: rest, flatE x = true
/-- what comes of n lines -/
def BV (n : Nat) (v : PyData) : Prop := d7 1000000 6 v = true ∧ ∀ zs, v = .tuple zs → zs.length ≤ n + 1 + n
theorem p100 : 100000 ≤ 10 ^ 100 := by decide +kernel
theorem firstBad_none {p : PyData → Bool} : ∀ (j : Nat) {xs : List PyData}, firstBad p j xs = none → ∀ x ∈ xs, p x = false
  | _, [], _, x, h => absurd h (by simp)
  | j, y :: xs, e, x, h => by
    unfold firstBad at e
    cases g : p y with
    | true => rw [g, if_pos rfl] at e; cases e
    | false =>
      rw [g, if_neg (by decide)] at e
      rcases List.mem_cons.mp h with rfl | h
      · exact g
      · exact firstBad_none (j + 1) e x h
theorem szW_le (w : Str) : szW w ≤ 3 := by
  unfold szW
  repeat' split
  all_goals omega
theorem wrong_form {k : Nat} {z : PyData} (h : ∀ p, wrongAt k z = some p → p ≠ []) : ∃ w rest, z = .tuple (.str w :: rest) ∧ szW w = rest.length + 1 := by
  by_cases c : ∃ w rest, z = .tuple (.str w :: rest) ∧ szW w = rest.length + 1
  · exact c
  · exact absurd rfl (h [] (wrongAt_bad fun w rest e q => c ⟨w, rest, e, q⟩))
theorem bad_flat {w : Str} {k : Nat} {x : PyData} (hk : k ≤ 1000) (nb : badE w k x = false) (hs : allS x = true) : flatE x = true := by
  by_cases c : w = "letter"
  · subst c
    rw [badE_let] at nb
    cases x with
    | str u => exact hs
    | _ => cases nb
  · cases x with
    | int i =>
      rw [badE_int c] at nb
      have p := p100
      have b : 0 ≤ i ∧ i < (k : Int) := by simpa using nb
      exact decide_eq_true (by omega)
    | _ => rw [badE_no c rfl] at nb; cases nb
theorem VL_of {k : Nat} {z : PyData} (hk : k ≤ 1000) (h : wrongAt k z = none) (ha : allS z = true) : VL z := by
  obtain ⟨w, rest, rfl, hz⟩ := wrong_form (k := k) (z := z) fun p e => by rw [h] at e; cases e
  have le := szW_le w
  rw [wrongAt_good hz] at h
  have hb : firstBad (badE w k) 1 rest = none := by
    cases g : firstBad (badE w k) 1 rest with
    | none => rfl
    | some j => rw [g] at h; cases h
  have hall : ∀ x ∈ PyData.str w :: rest, allS x = true := allSs_iff.mp ha
  refine ⟨w, rest, rfl, by omega, fun x hx => ?_⟩
  have hs := hall x hx
  rcases List.mem_cons.mp hx with rfl | hx
  · exact hs
  have nb := firstBad_none 1 hb x hx
  exact bad_flat hk nb hs
theorem base_wd : ∀ w ∈ baseW, wdP w = true ∧ w ∈ wsM := by decide +kernel
theorem ops_sz : ∀ o ∈ ops, szW o = 3 ∧ o ≠ "letter" ∧ o ∈ wsM := by decide +kernel
theorem lets : ("letter" : Str) ∈ wsM ∧ ("yes" : Str) ∈ wsM ∧ ("not" : Str) ∈ wsM ∧ szW "yes" = 1 ∧ szW "not" = 2 ∧ ("not" : Str) ≠ "letter" := by decide +kernel
theorem badE_small {w : Str} {k i : Nat} (h : w ≠ "letter") (hi : i < k) : badE w k (.int (i : Nat)) = false := by
  rw [badE_int h, decide_eq_true (by omega : (0 : Int) ≤ (i : Int)), decide_eq_true (by omega : (i : Int) < (k : Int))]
  rfl
theorem fb1 {p : PyData → Bool} {j : Nat} {x : PyData} (h : p x = false) : firstBad p j [x] = none := by
  show (if p x = true then _ else _) = _
  rw [h]; rfl
theorem fb2 {p : PyData → Bool} {j : Nat} {x y : PyData} (h : p x = false) (h2 : p y = false) : firstBad p j [x, y] = none := by
  show (if p x = true then _ else _) = _
  rw [h]
  exact fb1 h2
theorem ln_good {k : Nat} {l : Ln} (ok : l.Ok k) : wrongAt k (lnD l) = none ∧ allS (lnD l) = true := by
  obtain ⟨hW, hm, hw⟩ := ok
  obtain ⟨t1, t2, t3, t4, t5, t6⟩ := lets
  cases l with
  | lt w =>
    have b := base_wd w (hw w rfl)
    refine ⟨?_, ?_⟩
    · show wrongAt k (.tuple (.str "letter" :: [.str w])) = none
      rw [wrongAt_good (rest := [.str w]) (by rw [szW_letter]; rfl), fb1 (by rw [badE_let]; show (!wdP w) = false; rw [b.1]; rfl)]
      rfl
    · exact allSs_iff.mpr fun x hx => by
        rcases (by simpa using hx : x = .str "letter" ∨ x = .str w) with rfl | rfl
        · exact decide_eq_true t1
        · exact decide_eq_true b.2
  | yes =>
    refine ⟨?_, ?_⟩
    · show wrongAt k (.tuple (.str "yes" :: [])) = none
      rw [wrongAt_good (rest := []) (by rw [t4]; rfl)]
      rfl
    · exact allSs_iff.mpr fun x hx => by
        rw [(by simpa using hx : x = .str "yes")]
        exact decide_eq_true t2
  | un i =>
    refine ⟨?_, ?_⟩
    · show wrongAt k (.tuple (.str "not" :: [.int (i : Nat)])) = none
      rw [wrongAt_good (rest := [.int (i : Nat)]) (by rw [t5]; rfl), fb1 (badE_small t6 (hm i (by simp [Ln.mem])))]
      rfl
    · exact allSs_iff.mpr fun x hx => by
        rcases (by simpa using hx : x = .str "not" ∨ x = .int (i : Nat)) with rfl | rfl
        · exact decide_eq_true t3
        · rfl
  | bi o i j =>
    have b := ops_sz o hW
    refine ⟨?_, ?_⟩
    · show wrongAt k (.tuple (.str o :: [.int (i : Nat), .int (j : Nat)])) = none
      rw [wrongAt_good (rest := [.int (i : Nat), .int (j : Nat)]) (by rw [b.1]; rfl), fb2 (badE_small b.2.1 (hm i (by simp [Ln.mem]))) (badE_small b.2.1 (hm j (by simp [Ln.mem])))]
      rfl
    · exact allSs_iff.mpr fun x hx => by
        rcases (by simpa using hx : x = .str o ∨ x = .int (i : Nat) ∨ x = .int (j : Nat)) with rfl | rfl | rfl
        · exact decide_eq_true b.2.2
        · rfl
        · rfl
theorem goP_good : ∀ (k : Nat) {xs : List PyData}, (∀ j (h : j < xs.length), wrongAt (k + j) xs[j] = none) → goP k xs = []
  | _, [], _ => rfl
  | k, x :: xs, h => by
    have h0 : wrongAt k x = none := h 0 (by simp)
    show (match wrongAt k x with | some p => [.tuple (.int (k : Nat) :: p)] | none => goP (k + 1) xs) = []
    rw [h0]
    exact goP_good (k + 1) fun j hj => by
      have := h (j + 1) (by simpa using hj)
      have c : k + 1 + j = k + (j + 1) := by omega
      rw [c]
      exact this
theorem sheet_good {s : List Ln} (ok : SOk s) (hl : s.length ≤ 100) : pathL (sheetD s) = [] ∧ allS (sheetD s) = true ∧ s.map lnD ≠ [] ∧ (s.map lnD).length ≤ 100 ∧ ∀ y ∈ s.map lnD, VL y := by
  have key : ∀ j (h : j < (s.map lnD).length), wrongAt (0 + j) (s.map lnD)[j] = none ∧ allS (s.map lnD)[j] = true := fun j h => by
    rw [List.getElem_map, Nat.zero_add]
    rw [List.length_map] at h
    exact ln_good (ok.ok j s[j] (List.getElem?_eq_getElem h))
  have ha : allS (sheetD s) = true := allSs_iff.mpr fun y hy => by
    obtain ⟨j, hj, e⟩ := List.mem_iff_getElem.mp hy
    rw [← e]; exact (key j hj).2
  have hp : pathL (sheetD s) = [] := by
    have g := goP_good 0 fun j h => (key j h).1
    have ne := ok.ne
    cases s with
    | nil => exact absurd rfl ne
    | cons l s => exact g
  refine ⟨hp, ha, by simpa using ok.ne, by rw [List.length_map]; exact hl, fun y hy => ?_⟩
  obtain ⟨j, hj, e⟩ := List.mem_iff_getElem.mp hy
  rw [← e]
  rw [List.length_map] at hj
  exact VL_of (k := 0 + j) (by omega) (key j (by rw [List.length_map]; exact hj)).1 (key j (by rw [List.length_map]; exact hj)).2
/-- what the law asks of -/
def Wv (v : PyData) : Prop := d7 1000000 6 v = true ∧ ∀ zs, v = .tuple zs → zs.length ≤ 100
theorem BV.W {n : Nat} {v : PyData} (h : BV n v) (hn : n ≤ 49) : Wv v := ⟨h.1, fun zs e => by have := h.2 zs e; omega⟩
def tl : PyData → Nat
  | .tuple zs => zs.length
  | _ => 0
def two (y : PyData) : PyData := .tuple [.tuple [.str "yes"], y]
def p1 : PyData := .list [.tuple [.int 1]]
end Law

end

section
set_option maxHeartbeats 1000000
/-! PuX9: a def that may raise, called where it does not. -/
namespace Pu
open PySem L2 PyProof.Rows RZ
theorem FnXE.fn {P : Program} {w : World} {K : PySem.W.Frag} {mg : Str → Option Value} {base : Heap} {cs x f : Str} {k n : Nat} {ps : List Str} {m m' : FN} (F : FnXE P w K mg base cs k ps n m x f) (h : ∀ ss R, m' ss R → m ss fun s => R s ∧ ∀ ds, s ≠ excS ds) :
    Fn P w K mg base cs k ps (spX K n m') := by
  obtain ⟨C, fI, T, g, fd, hm, kp, bi, G⟩ := F.ex
  have tr : ∀ vs H Q E, spX K n m' vs H Q E → spXE K n m C f vs H Q (fun _ _ _ => False) := by
    rintro vs H Q E ⟨hid, Hb, ss, R, st, rep, hl, hm, c⟩
    exact ⟨hid, Hb, ss, _, st, rep, hl, h _ _ hm, fun v Hb' H' s st2 r2 f2 hR => c v Hb' H' s st2 r2 f2 hR.1, fun v Hb' H' d ds _ _ _ hR => hR.2 ds rfl⟩
  refine ⟨g, fd, hm, kp, bi, ⟨fun vs H Q E q => G.many _ _ _ _ (tr vs H Q E q), fun B above s H as us vs Q E hr he hb hv hs => ?_⟩⟩
  refine codeAny_mono (G.goes B above s H as us vs Q _ hr he hb hv (tr vs H Q E hs)) fun r s2 done => ?_
  match r, done with
  | .error ex, done =>
    obtain ⟨_, _, _, _, _, _, _, _, _, _, _, _, z⟩ := done
    exact z.elim
  | .ok (.ret u), done => exact done
  | .ok .next, done => exact done
  | .ok .brk, done => exact done
  | .ok .cont, done => exact done
end Pu

end

section
set_option maxHeartbeats 1000000
/-! PuRc: defs that call themselves: the promise for depth 0 is never asked. -/
namespace Pu
open PySem L2 PyProof.Rows RZ
theorem Fn.none {P : Program} {w : World} {K : PySem.W.Frag} {mg : Str → Option Value} {base : Heap} {x : Str} {st : Stmt} {k n : Nat} {ps : List Str} {m : FN} (A : At K mg x st ps) (h : ∀ ss R, ¬ m ss R) : Fn P w K mg base x k ps (spX K n m) :=
  Fn.mk' A fun f fd F => by
    have no : ∀ vs H Q E, ¬ spX K n m vs H Q E := fun vs H Q E z => by
      obtain ⟨hid, Hb, ss, R, _, _, _, hm, _⟩ := z
      exact h _ _ hm
    exact ⟨fun vs H Q E z => absurd z (no _ _ _ _), fun B above s H as us vs Q E _ _ _ _ z => absurd z (no _ _ _ _)⟩
end Pu

end

section
set_option maxHeartbeats 4000000
/-! PuN0: dicts whose keys are tuples, also of tuples, wherever these stand: the runs. -/
namespace PySem
open Sem (wp)
open PySem.Spec PySem.Calls PyProof.Rows PyProof.V
section
variable {prog : Program} {w : World} {A : Around} {E : Value → Shared → Prop} {s : Shared} {r d : Addr} {n : Nat} {P : Nat → Value → Prop} {OK : Heap → Prop}
theorem nk_collect {Q : List Value → Shared → Prop} (K : PySem.W.KdlSrc prog w "dict" r d n P OK) (hh : A.handled = none) (hok : OK s.heap) (hn : n ≤ sizeLine)
    (hQ : ∀ (h' : Heap) (tk : Nat) (acc : Array Value), (∀ b o, s.heap.get? b = some o → h'.get? b = some o) → ItemsOf P acc n → Q acc.toList { s with heap := h', toks := tk }) :
    wpAny (model prog w) A (collect (.ref r)) Q E s := by
  unfold collect
  refine wpAny_bind (wpAny_runValue (codeAny_builtin F.entry_proto_collect ?_))
  rw [Around.under_plainId F.plain_proto_collect _]
  show wpAny _ A.in1 (newList [] >>= fun l => again (.builtin "list.__iadd__" ⟨[l, .ref r], []⟩)) _ _ s
  refine wpAny_bind (wpAny_newObj_type ?_)
  refine wpAny_pure ⟨plainId_quiet F.plain_list_iadd _, codeAny_builtin F.entry_list_iadd ?_⟩
  rw [Around.under_plainId F.plain_list_iadd _]
  show wpAny _ A.in1 (Builtin.List.listExtendWith (.ref s.heap.objs.size) (.ref r) (.ref s.heap.objs.size)) _ _ _
  have hS : (s.heap.push { cls := .type "list", data := .seq ([] : List Value).toArray }).get? s.heap.objs.size = some { cls := .type "list", data := .seq #[] 0 } := Heap.get?_push_size _ rfl
  have hok1 : OK (s.heap.push { cls := .type "list", data := .seq ([] : List Value).toArray }) := K.keep _ _ hok fun b _ o e => Heap.get?_push_of_some _ e
  have th := K.there _ hok
  refine wpAny_mono (PySem.W.kdl_extend (A := A) (R := fun rr s' => rr = .ok (.ret (.ref s.heap.objs.size)) ∧ ∃ (h' : Heap) (tk : Nat) (acc : Array Value) (c' : Nat), s' = { s with heap := h', toks := tk } ∧
      (∀ b o, s.heap.get? b = some o → h'.get? b = some o) ∧ h'.get? s.heap.objs.size = some { cls := .type "list", dict := none, data := .seq acc c', slots := #[] } ∧ ItemsOf P acc n)
    (s := { s with heap := s.heap.push { cls := .type "list", data := .seq ([] : List Value).toArray } }) K hh hok1 _ (Nat.ne_of_gt th.1) (Nat.ne_of_gt th.2) _ 0 hS
    (fun h' tk acc c' hk e hi => ⟨rfl, h', tk, acc, c', rfl, fun b o q => hk b o (Nat.ne_of_lt (Heap.lt_size q)) (Heap.get?_push_of_some _ q), e, hi⟩) hn) (fun fin s' h => ?_) (fun e s' h => ?_)
  · cases fin with
    | done f =>
      obtain ⟨e, h', tk, acc, c', rfl, hk, hS', hi⟩ := h
      cases e
      show wpAny _ A (load s.heap.objs.size >>= _) _ _ _
      exact wpAny_bind (wpAny_load hS' (wpAny_pure (hQ h' tk acc hk hi)))
    | again c' =>
      refine ⟨h.1, codeAny_mono h.2 fun rr s'' hr' => ?_⟩
      obtain ⟨rfl, h', tk, acc, c', rfl, hk, hS', hi⟩ := hr'
      show wpAny _ A (load s.heap.objs.size >>= _) _ _ _
      exact wpAny_bind (wpAny_load hS' (wpAny_pure (hQ h' tk acc hk hi)))
  · exact absurd h.1 (by simp)
theorem nk_code_tuple {Q₁ : Value → Shared → Prop} (K : PySem.W.KdlSrc prog w "dict" r d n P OK) (hh : A.handled = none) (hok : OK s.heap) (hn : n ≤ sizeLine)
    (h : ∀ (h' : Heap) (tk : Nat) (acc : Array Value), (∀ b o, s.heap.get? b = some o → h'.get? b = some o) → ItemsOf P acc n →
      Q₁ (.ref h'.objs.size) { s with heap := h'.push { cls := .type "tuple", data := .seq acc }, toks := tk }) :
    codeAny (model prog w) A (.call (.builtin "tuple.__new__") ⟨[.type "tuple", .ref r], []⟩) (wants Q₁ E) s := by
  refine codeAny_of_tree ?_
  show wpAny _ A.in1 (do checkBuiltinCall "tuple.__new__" ⟨[.type "tuple", .ref r], []⟩; again (.builtin "tuple.__new__" ⟨[.type "tuple", .ref r], []⟩)) _ _ s
  refine wpAny_bind (wpAny_of_eq (F.newCall_tuple_1 _) (wpAny_pure ⟨plainId_quiet F.plain_tuple_new _, codeAny_builtin F.entry_tuple_new ?_⟩))
  rw [Around.under_plainId F.plain_tuple_new _]
  have hsub := sub_tuple_self
  have hinit := init_tuple_lookup
  have hmh := madeHere_tuple
  have hTI : s.TypeIs (.ref r) "dict" := K.type _ hok
  have hh1 : A.in1.handled = none := hh
  wp_walk using wpAny_typeOf hTI, nk_collect (A := A.in1) K hh1 hok hn
  intro h' tk acc hk hacc
  show wpAny _ _ (Builtin.Tuple.tupleExact acc.toList.toArray >>= fun v => ret v) _ _ _
  unfold Builtin.Tuple.tupleExact
  refine wpAny_bind (wpAny_newObj_type ?_ (by show acc.toList.toArray.size ≤ sizeLine; simp only [Array.toArray_toList]; rw [hacc.1]; exact hn))
  refine wpAny_pure ?_
  have e : acc.toList.toArray = acc := by simp
  rw [e]
  exact h h' tk acc hk hacc
theorem nk_call_tuple {Q : Value → Shared → Prop} (K : PySem.W.KdlSrc prog w "dict" r d n P OK) (hh : A.handled = none) (hok : OK s.heap) (hn : n ≤ sizeLine)
    (hQ : ∀ (h' : Heap) (tk : Nat) (acc : Array Value), (∀ b o, s.heap.get? b = some o → h'.get? b = some o) → ItemsOf P acc n →
      Q (.ref h'.objs.size) { s with heap := h'.push { cls := .type "tuple", data := .seq acc }, toks := tk }) :
    wpAny (model prog w) A (call (.type "tuple") [.ref r]) Q E s := by
  refine callType_codes (Q₁ := fun obj s₁ => s₁.TypeIs obj "tuple" ∧ Q obj s₁) F.called_tuple (F.typeCall_tuple_1 _) F.entry_object_init
    (nk_code_tuple (A := A.in1) K hh hok hn fun h' tk acc hk hacc => ⟨⟨_, Heap.get?_push_size _ rfl, rfl⟩, hQ h' tk acc hk hacc⟩) fun obj s₁ h₁ => ?_
  exact ⟨h₁.1, F.args_object_init_2 obj _, object_init_meets F.called_tuple.init.lookup F.called_tuple.made (by decide) prog w A.in1 _ s₁ ⟨h₁.1, rfl, h₁.2⟩⟩
end
end PySem
namespace Pu
open PySem L2 PyProof.Rows
/-! ### keys -/
abbrev NX := List (NestedKey × Addr × V)
/-- the value v is the key k -/
def KAt (K : PySem.W.Frag) (H : Hp) (k : NestedKey) (v : V) : Prop := Dq K H v k.data ∧ k.depth ≤ 8
def KsOk (K : PySem.W.Frag) (H : Hp) (ys : NX) : Prop := ∀ y ∈ ys, KAt K H y.1 (.ref y.2.1)
def atN (ys : NX) (k : NestedKey) : Option V := (ys.find? fun x => decide (x.1 = k)).map (·.2.2)
def VR (x : NestedKey × Addr × V) (v : NestedKey × Addr × Value) : Prop := x.1 = v.1 ∧ x.2.1 = v.2.1 ∧ RelV x.2.2 v.2.2
def NOk (P : Program) (w : World) (h : Heap) (a : Addr) (ys : NX) : Prop := ys.length ≤ sizeLine ∧ (a == sysModules) = false ∧ ∃ vs : List (NestedKey × Addr × Value), Paired VR ys vs ∧
  ∃ o es ep, h.get? a = some o ∧ o.ExactDict ∧ o.data = .dict es ep ∧ es.toList = vs.map (entryOfKey (nestedKind P w)) ∧ (vs.map (·.1)).Nodup
def dN (P : Program) (w : World) (a : Addr) (ys : NX) : HO := .ext fun h => NOk P w h a ys
section
variable {X : Cx} {pins : List (Addr × Obj)} {σ : L2.St} {H : Hp} {s : Shared} {a : Addr} {ys : NX}
mutual
theorem nested_is (I : Inv X pins σ H s) : ∀ (k : NestedKey) {v : V} {u : Value}, Dq X.K H v k.data → RelV v u → NestedIs s.heap k u
  | .none, v, u, h, r => by
    cases h
    obtain rfl : u = .none := r
    exact .none
  | .num i, v, u, h, r => by
    cases h
    obtain ⟨t, rfl⟩ := (show ∃ t, u = .int i t from r)
    exact .int i t
  | .text x, v, u, h, r => by
    cases h
    obtain ⟨t, rfl⟩ := (show ∃ t, u = .str x t from r)
    exact .text x t
  | .tup ks, v, u, h, r => by
    cases h with
    | tup h1 h2 =>
      obtain rfl := (show u = .ref _ from r)
      obtain ⟨its, rv, ⟨o, e, hc, n, hd⟩, _⟩ := I.tuple h1
      exact .tup e hc hd (nested_all I ks h2 (by simpa using rv))
theorem nested_all (I : Inv X pins σ H s) : ∀ (ks : List NestedKey) {vs : List V} {us : List Value}, DqAll X.K H vs (NestedKey.datas ks) → Vals vs us → NestedAll s.heap ks us
  | [], vs, us, h, r => by
    cases h
    cases r
    exact .nil
  | k :: ks, vs, us, h, r => by
    cases h with
    | cons a b =>
      cases r with
      | cons c d => exact .cons (nested_is I k a c) (nested_all I ks b d)
end
theorem KAt.is (I : Inv X pins σ H s) {k : NestedKey} {b : Addr} (h : KAt X.K H k (.ref b)) : (nestedKind X.prog X.w).is s.heap k b := ⟨nested_is I k h.1 rfl, h.2⟩
theorem VR.is (I : Inv X pins σ H s) : ∀ {ys : NX} {vs : List (NestedKey × Addr × Value)}, Paired VR ys vs → KsOk X.K H ys → ∀ x ∈ vs, (nestedKind X.prog X.w).is s.heap x.1 x.2.1
  | _, _, .nil, _, x, hx => nomatch hx
  | p :: ps, q :: qs, .cons hq t, ko, x, hx => by
    rcases List.mem_cons.mp hx with e | hx
    · subst e
      have := KAt.is I (ko p (.head _))
      rw [hq.1, hq.2.1] at this
      exact this
    · exact VR.is I t (fun y hy => ko y (.tail _ hy)) x hx
theorem nk_of (I : Inv X pins σ H s) (e : H a = some (dN X.prog X.w a ys)) (ko : KsOk X.K H ys) : ys.length ≤ sizeLine ∧ (a == sysModules) = false ∧ ∃ vs, Paired VR ys vs ∧ s.heap.DictOfH (nestedKind X.prog X.w) a vs := by
  obtain ⟨⟨z, y, vs, r, o, es, ep, h1, h2, h3, h4, h5⟩, _⟩ := (show ObjOk X.prog X.w H s.heap a (dN X.prog X.w a ys) from I.hok a _ e)
  refine ⟨z, y, vs, r, o, es, ep, h1, h2, h3, h4, ?_, h5⟩
  exact VR.is I r ko
theorem VR.at {ys : NX} {vs : List (NestedKey × Addr × Value)} (r : Paired VR ys vs) (k : NestedKey) : RelO (atN ys k) ((atKey vs k).map (·.2)) := by
  unfold atN atKey
  induction r with
  | nil => exact True.intro
  | @cons p q ps qs hq t ih =>
    rw [List.find?_cons, List.find?_cons, ← hq.1]
    by_cases c : p.1 = k
    · rw [decide_eq_true c]
      exact hq.2.2
    · rw [decide_eq_false c]
      exact ih
theorem relO_some {o : Option V} {q : Option Value} (h : RelO o q) : o.isSome = q.isSome := by
  cases o <;> cases q <;> first | rfl | exact h.elim
theorem nk_new {P : Program} {w : World} {H' : Hp} {h' : Heap} (h : NOk P w h' a ys) : ObjOk P w H' h' a (dN P w a ys) := by
  refine ⟨h, ?_, fun h1 h2 q k => ?_⟩
  · obtain ⟨_, _, _, _, o, _, _, e, _⟩ := h
    exact ⟨o, e⟩
  · obtain ⟨z, y, vs, r, o, es, ep, e, c⟩ := q
    exact ⟨z, y, vs, r, o, es, ep, k o e, c⟩
theorem Paired.snoc' {α β : Type} {R : α → β → Prop} {x : α} {y : β} (h : R x y) : ∀ {xs : List α} {zs : List β}, Paired R xs zs → Paired R (xs ++ [x]) (zs ++ [y])
  | _, _, .nil => .cons h .nil
  | _, _, .cons a b => .cons a (Paired.snoc' h b)
/-- {}, to be a dict with such keys -/
def tDNewN (P : Program) (w : World) : TE := fun _ H Q => ∀ p, H p = none → Q (.ref p) (upd H p (dN P w p []))
theorem pe_dnewN {pos : Pos} : PE X (.Dict [] [] pos) (tDNewN X.prog X.w) := ⟨fun pins s σ H Q I h =>
  wpAny_Dict_empty ⟨.ref s.heap.objs.size, _, I.laid (a := s.heap.objs.size) (o := dN X.prog X.w s.heap.objs.size []) (t' := s.toks) (fun _ _ q => Heap.get?_push_of_some _ q) (Nat.le_refl _)
    (nk_new ⟨Nat.zero_le _, beq_eq_false_iff_ne.mpr (Ne.symm (Nat.ne_of_lt I.big)), [], .nil, _, #[], 0, Heap.get?_push_size _ rfl, ⟨rfl, rfl, rfl⟩, rfl, rfl, List.nodup_nil⟩), rfl, h _ (I.hok.fresh (Nat.le_refl _))⟩⟩
/-- len(d) -/
def rLenN (P : Program) (w : World) (K : PySem.W.Frag) : List V → Hp → VK → Prop := fun xs H Q => ∃ (p : Addr) (ys : NX), xs = [.ref p] ∧ H p = some (dN P w p ys) ∧ KsOk K H ys ∧ Q (.int ((ys.length : Nat) : Int)) H
theorem call_len_dN : CallR X (.builtin "len") (rLenN X.prog X.w X.K) := by
  intro pins s σ H xs us Q I r h
  obtain ⟨p, ys, rfl, hp, ko, q⟩ := h
  obtain ⟨u, rfl, rx⟩ := vals1 r
  obtain rfl : u = .ref p := rx
  obtain ⟨z, hd, vs, rel, dd⟩ := nk_of I hp ko
  have hl : ys.length = vs.length := Paired.length rel
  refine call_len_dictH hd dd (by rw [← hl]; rw [sizeLine_eq] at z; omega) ?_
  refine ⟨.int ((ys.length : Nat) : Int), H, I.tok _, ⟨_, by rw [hl]⟩, q⟩
/-- tuple(d) -/
def rTupN (P : Program) (w : World) (K : PySem.W.Frag) : List V → Hp → VK → Prop := fun xs H Q => ∃ (p : Addr) (ys : NX), xs = [.ref p] ∧ H p = some (dN P w p ys) ∧ KsOk K H ys ∧ ∀ q, H q = none → Q (.ref q) (upd H q (.tup (ys.map fun y => .ref y.2.1)))
theorem VR.refs {ys : NX} {vs : List (NestedKey × Addr × Value)} (r : Paired VR ys vs) : Vals (ys.map fun y => V.ref y.2.1) (vs.map fun y => Value.ref y.2.1) := by
  induction r with
  | nil => exact .nil
  | cons h t ih => exact .cons (by show Value.ref _ = Value.ref _; rw [h.2.1]) ih
theorem call_tuple_dN (hc : X.calm = true) : CallR X (.type "tuple") (rTupN X.prog X.w X.K) := by
  intro pins s σ H xs us Q I r h
  obtain ⟨d, ys, rfl, hd, ko, q⟩ := h
  obtain ⟨u, rfl, rx⟩ := r.one
  cases rx
  obtain ⟨⟨z, hs, vs, pr, o, es, ep, ho, hx, hdt, he, hn⟩, _⟩ := (show ObjOk X.prog X.w H s.heap d (dN X.prog X.w d ys) from I.hok d _ hd)
  have l1 : es.size = vs.length := size_of_entries he
  have l2 : ys.length = vs.length := Paired.length pr
  refine nk_call_tuple (kdl_raw hs hx hdt) (I.ok.hd hc) ho (by omega) fun h' tk acc' kp it => ?_
  have ea : acc'.toList = vs.map fun x => Value.ref x.2.1 := by
    have hl : acc'.toList.length = vs.length := by rw [Array.length_toList, it.1]; exact l1
    apply List.ext_getElem?
    intro j
    rw [List.getElem?_map]
    cases hj : acc'.toList[j]? with
    | none =>
      have h1 := List.getElem?_eq_none_iff.mp hj
      rw [List.getElem?_eq_none (by omega)]
      all_goals rfl
    | some v =>
      obtain ⟨en, hen, hv⟩ := it.2 j v (by rw [← Array.getElem?_toList]; exact hj)
      have qe := entry_at he j
      rw [hen] at qe
      cases hb : vs[j]? with
      | none =>
        rw [hb] at qe
        cases qe
      | some y =>
        rw [hb] at qe
        cases qe
        subst hv
        rfl
  have rv : Vals (ys.map fun y => V.ref y.2.1) acc'.toList := by rw [ea]; exact VR.refs pr
  have I1 : Inv X pins σ H { s with heap := h' } := I.kept (t' := s.toks) kp
  have I2 : Inv X pins σ (upd H h'.objs.size (.tup (ys.map fun y => V.ref y.2.1))) { s with heap := h'.push { cls := .type "tuple", data := .seq acc' }, toks := tk } :=
    I1.laid (t' := tk) (fun b o e => Heap.get?_push_of_some _ e) (Nat.le_refl _) (show ObjOk X.prog X.w _ _ _ (.tup _) from ⟨by rw [List.length_map]; exact z, acc'.toList, rv, by rw [Array.toArray_toList]; exact IsTup.new _ _⟩)
  exact ⟨.ref h'.objs.size, _, I2, rfl, q _ (I1.hok.fresh (Nat.le_refl _))⟩
/-- k in d, k not in d -/
def tNIn (P : Program) (w : World) (K : PySem.W.Frag) (neg : Bool) (ty td : TE) : TE := fun σ H Q => ty σ H fun y H1 => td σ H1 fun x H2 => ∃ a b ys k, x = .ref a ∧ y = .ref b ∧ H2 a = some (dN P w a ys) ∧ KsOk K H2 ys ∧ KAt K H2 k y ∧ Q (.bl (neg != (atN ys k).isSome)) H2
/-- d[k] -/
def tNGet (P : Program) (w : World) (K : PySem.W.Frag) (td ty : TE) : TE := fun σ H Q => td σ H fun x H1 => ty σ H1 fun y H2 => ∃ a b ys k v, x = .ref a ∧ y = .ref b ∧ H2 a = some (dN P w a ys) ∧ KsOk K H2 ys ∧ KAt K H2 k y ∧ atN ys k = some v ∧ Q v H2
/-- d[k] = v, k new -/
def sNPut (P : Program) (w : World) (K : PySem.W.Frag) (td ty tv : TE) : TS := fun D σ H => tv σ H fun v H1 => td σ H1 fun x H2 => ty σ H2 fun y H3 => ∃ a b ys k, x = .ref a ∧ y = .ref b ∧ H3 a = some (dN P w a ys) ∧ KsOk K H3 ys ∧ KAt K H3 k y ∧ atN ys k = none ∧ ys.length < sizeLine ∧
  D.nx σ (upd H3 a (dN P w a (ys ++ [(k, b, v)])))
/-- d.setdefault(k, z) -/
def tNSetd (P : Program) (w : World) (K : PySem.W.Frag) (td ty tx : TE) : TE := fun σ H Q => td σ H fun x H1 => ∃ a, x = .ref a ∧ (∃ zs, H1 a = some (dN P w a zs)) ∧ ty σ H1 fun y H2 => tx σ H2 fun z H3 => ∃ b ys k, y = .ref b ∧ H3 a = some (dN P w a ys) ∧ KsOk K H3 ys ∧ KAt K H3 k y ∧ ys.length < sizeLine ∧
  (∀ v, atN ys k = some v → Q v H3) ∧ (atN ys k = none → Q z (upd H3 a (dN P w a (ys ++ [(k, b, z)]))))
theorem atKey_none {vs : List (NestedKey × Addr × Value)} {k : NestedKey} (r : Paired VR ys vs) (e : atN ys k = none) : atKey vs k = none := by
  have q := VR.at r k
  rw [e] at q
  cases z : atKey vs k with
  | none => rfl
  | some p => rw [z] at q; exact (show False from q).elim
/-- the object behind a store of a new key -/
theorem nk_write {vs : List (NestedKey × Addr × Value)} {k : NestedKey} {b : Addr} {v : V} {u : Value} {h' : Heap} {t' : Nat} (I : Inv X pins σ H s) (e : H a = some (dN X.prog X.w a ys)) (hd : (a == sysModules) = false) (rel : Paired VR ys vs) (en : atN ys k = none) (hl : ys.length < sizeLine) (rv : RelV v u)
    (dd : h'.DictOfH (nestedKind X.prog X.w) a (storedH vs k b u)) (hs : Heap.SameBut a s.heap h') : Inv X pins σ (upd H a (dN X.prog X.w a (ys ++ [(k, b, v)]))) { s with heap := h', toks := t' } := by
  rw [storedH_new (atKey_none rel en)] at dd
  obtain ⟨q, es, ep, hq, h2, h3, h4, _, h5⟩ := dd
  have mu : Mut (H a) := by rw [e]; exact True.intro
  exact d_write I mu hs ⟨q, hq⟩ (nk_new ⟨by rw [List.length_append]; exact hl, hd, _, Paired.snoc' (R := VR) ⟨rfl, rfl, rv⟩ rel, q, es, ep, hq, h2, h3, h4, h5⟩)
section
variable {o i e value : Expr} {pos pos' tpos : Pos} {td ty tv : TE}
theorem nk_room (hu : X.A.units + 64 < cLine) : (nestedKind X.prog X.w).room X.A.in1 := by show X.A.units + 1 + 8 < cLine; omega
theorem pc_nnotin (hu : X.A.units + 64 < cLine) (hi : PE X i ty) (ho : PE X o td) : PC X .NotIn i o (tNIn X.prog X.w X.K true ty td) := by
  refine ⟨fun pins s σ H Q I h => ?_⟩
  refine thn (hi.run pins s σ H _ I h) fun iv s1 ⟨y, H1, I1, ry, q1⟩ => thn (ho.run pins s1 σ H1 _ I1 q1) fun u s2 ⟨x, H2, I2, rx, a, b, ys, k, ex, ey, hp, ko, ka, q2⟩ => ?_
  subst ex ey
  obtain rfl : u = Value.ref a := rx
  obtain rfl : iv = Value.ref b := ry
  obtain ⟨z, hd, vs, rel, dd⟩ := nk_of I2 hp ko
  have q := relO_some (VR.at rel k)
  rw [Option.isSome_map] at q
  refine notIn_keyed (kvs := pairsH vs) (nk_room hu) (KAt.is I2 ka) hd ⟨vs, dd, rfl⟩ ⟨.bl _, H2, I2.tok _, ?_, q2⟩
  show Value.bool _ = Value.bool _
  rw [valueAt_pairsH, Option.isSome_map, q, Bool.true_bne]
theorem pe_nget (hu : X.A.units + 64 < cLine) (ho : PE X o td) (hi : PE X i ty) (hs : NoSl i) : PE X (.Subscript o i pos) (tNGet X.prog X.w X.K td ty) := by
  refine ⟨fun pins s σ H Q I h => ?_⟩
  refine subD_of PySem.F.slot_dict_getitem.lookup hs (thn (ho.run pins s σ H _ I h) fun u s1 ⟨x, H1, I1, rx, q1⟩ => thn (hi.run pins s1 σ H1 _ I1 q1) fun iv s2 ⟨y, H2, I2, ry, a, b, ys, k, v, ex, ey, hp, ko, ka, ev, q2⟩ => ?_)
  subst ex ey
  obtain rfl : u = Value.ref a := rx
  obtain rfl : iv = Value.ref b := ry
  obtain ⟨z, hd, vs, rel, dd⟩ := nk_of I2 hp ko
  obtain ⟨w', hw, rw'⟩ := RelO.some_of (v := v) (o := (atKey vs k).map (·.2)) (by rw [← ev]; exact VR.at rel k)
  obtain ⟨p, hp, hp2⟩ := Option.map_eq_some_iff.mp hw
  refine ⟨dd.typeIs, wpAny_getItem_heap (nk_room hu) (KAt.is I2 ka) dd hp ?_⟩
  rw [hp2]
  exact ⟨v, H2, I2.tok _, rw', q2⟩
theorem ps_nput (hu : X.A.units + 64 < cLine) (ho : PE X o td) (hi : PE X i ty) (hv : PE X value tv) (hs : swapsWith value (some (.Subscript o i pos')) pos.line X.env = pure false) :
    PS X (.Assign [.Subscript o i pos'] value pos) (sNPut X.prog X.w X.K td ty tv) := by
  refine ⟨fun pins s σ H D I h => ?_⟩
  refine wpAny_Assign_Subscript (thn (hv.run pins s σ H _ I h) fun r s1 ⟨v, H1, I1, rv, q1⟩ => thn (ho.run pins s1 σ H1 _ I1 q1) fun u s2 ⟨x, H2, I2, rx, q2⟩ => thn (hi.run pins s2 σ H2 _ I2 q2) fun iv s3 ⟨y, H3, I3, ry, a, b, ys, k, ex, ey, hp, ko, ka, en, hl, q3⟩ => ?_) hs
  subst ex ey
  obtain rfl : u = Value.ref a := rx
  obtain rfl : iv = Value.ref b := ry
  obtain ⟨z, hd, vs, rel, dd⟩ := nk_of I3 hp ko
  have hz : vs.length ≤ sizeLine := by rw [← Paired.length rel]; exact z
  exact wpAny_setItem_heap (hsz := hz) (nk_room hu) (KAt.is I3 ka) dd fun h' dd' hs => ⟨σ, _, nk_write I3 hp hd rel en hl rv dd' hs, q3⟩
theorem pe_nsetd {apos cpos : Pos} {f : Expr} {tx : TE} (hu : X.A.units + 64 < cLine) (ho : PE X o td) (he : PE X e ty) (hf : PE X f tx) (m : M2 X o "setdefault" apos e f cpos) : PE X (.Call (.Attribute o "setdefault" apos) [e, f] [] cpos) (tNSetd X.prog X.w X.K td ty tx) := by
  refine ⟨fun pins s σ H Q I h => ?_⟩
  refine wpAny_Call_method m.base m.few m.line PySem.F.plainAttrs_dict PySem.F.slot_dict_setdefault PySem.F.type_dict_setdefault (thn (ho.run pins s σ H _ I h) fun u s1 ⟨x, H1, I1, rx, a, ex, d, q1⟩ => ?_)
  subst ex
  obtain rfl : u = Value.ref a := rx
  have isd : s1.TypeIs (.ref a) "dict" := by
    obtain ⟨zs, d⟩ := d
    obtain ⟨⟨_, _, _, _, ob, _, _, h1, h2, _⟩, _⟩ := (show ObjOk X.prog X.w H1 s1.heap a (dN X.prog X.w a zs) from I1.hok a _ d)
    exact ⟨ob, h1, h2.1⟩
  refine ⟨isd, fun b q => ?_, ?_⟩
  · cases q
    obtain ⟨zs, d⟩ := d
    obtain ⟨⟨_, _, _, _, ob, _, _, h1, h2, _⟩, _⟩ := (show ObjOk X.prog X.w H1 s1.heap a (dN X.prog X.w a zs) from I1.hok a _ d)
    exact ⟨ob, h1, h2.2.1⟩
  rw [m.trees]
  refine Calls.callWith_builtin rfl (Calls.evalArgs_plain (Calls.spliced_cons (thn (he.run pins s1 σ H1 _ I1 q1) fun iv s2 ⟨y, H2, I2, ry, q2⟩ =>
    Calls.spliced_cons (thn (hf.run pins s2 σ H2 _ I2 q2) fun fv s3 ⟨z, H3, I3, rz, b, ys, k, ey, hp, ko, ka, hl, q3, q4⟩ => Calls.spliced_nil ?_))))
  subst ey
  obtain rfl : iv = Value.ref b := ry
  obtain ⟨hz, hd, vs, rel, dd⟩ := nk_of I3 hp ko
  refine call_setdefault_heap (hsz := by rw [← Paired.length rel]; exact hz) (nk_room hu) (KAt.is I3 ka) hd dd (fun p hp' => ?_) fun hn h' dd' hs => ?_
  · have q := VR.at rel k
    rw [hp'] at q
    cases q0 : atN ys k with
    | none => rw [q0] at q; exact (show False from q).elim
    | some v0 =>
      rw [q0] at q
      exact ⟨v0, H3, I3.tok _, q, q3 v0 q0⟩
  · have en : atN ys k = none := by
      have q := VR.at rel k
      rw [hn] at q
      cases q0 : atN ys k with
      | none => rfl
      | some v0 => rw [q0] at q; exact (show False from q).elim
    exact ⟨z, _, nk_write I3 hp hd rel en hl rz dd' hs, rz, q4 en⟩
end
end
end Pu

end

section
set_option maxHeartbeats 2000000
/-! PuN: own dicts whose keys are tuples, also of tuples: {}, len, in, d[k], d[k] = v (k new), e[n] = d.setdefault(k, v), tuple(d). -/
namespace Pu
open PySem L2 PyProof.Rows
abbrev NS := List (NestedKey × PyData)
def NT (P : Program) (w : World) (K : PySem.W.Frag) (ns : NS) : Addr → HO → Hp → Prop := fun p o Hc => ∃ ys : NX, o = dN P w p ys ∧ ys.map (·.1) = ns.map (·.1) ∧ KsOk K Hc ys ∧ DqAll K Hc (ys.map (·.2.2)) (ns.map (·.2))
def getN (ns : NS) (k : NestedKey) : Option PyData := (ns.find? fun p => decide (p.1 = k)).map (·.2)
def keyT (ks : List NestedKey) : Sl := .d (.tuple (NestedKey.datas ks))
def okK (ks : List NestedKey) : Prop := (NestedKey.tup ks).depth ≤ 8
section
variable (P : Program) (w : World) (K : PySem.W.Frag)
def dNewN : DTE := fun _ Q => Q (.ownX (NT P w K []))
def dLenN (i : Nat) : DTE := fun env Q => ∃ ns, env[i]? = some (some (.ownX (NT P w K ns))) ∧ Q (.d (.int ((ns.length : Nat) : Int)))
def dTupN (i : Nat) : DTE := fun env Q => ∃ ns, env[i]? = some (some (.ownX (NT P w K ns))) ∧ Q (.d (.tuple (ns.map fun p => p.1.data)))
def dInN (neg : Bool) (i : Nat) (f : DTE) : DTT := fun env Q => f env fun s => ∃ ks, s.fz = keyT ks ∧ okK ks ∧ ∃ ns, env[i]? = some (some (.ownX (NT P w K ns))) ∧ Q (neg != (getN ns (.tup ks)).isSome)
def dGetN (i : Nat) (f : DTE) : DTE := fun env Q => ∃ ns, env[i]? = some (some (.ownX (NT P w K ns))) ∧ f env fun s => ∃ ks d, s.fz = keyT ks ∧ okK ks ∧ getN ns (.tup ks) = some d ∧ Q (.d d)
def dPutN (i : Nat) (fi fe : DTE) : DTS := fun E env => fe env fun s => ∃ d, s.fz = .d d ∧ ∃ ns, env[i]? = some (some (.ownX (NT P w K ns))) ∧ fi env fun t => ∃ ks, t.fz = keyT ks ∧ okK ks ∧ getN ns (.tup ks) = none ∧ ns.length < sizeLine ∧
  E.nx (env.set i (some (.ownX (NT P w K (ns ++ [(NestedKey.tup ks, d)])))))
def dSetdN (j i : Nat) (fn fk fx : DTE) : DTS := fun E env => ∃ ns, env[i]? = some (some (.ownX (NT P w K ns))) ∧ fk env fun t => ∃ ks, t.fz = keyT ks ∧ okK ks ∧ fx env fun u => ∃ z, u.fz = .d z ∧ ns.length < sizeLine ∧
  (∀ d, getN ns (.tup ks) = some d → ∃ ds, env[j]? = some (some (.ownD ds)) ∧ fn env fun r => ∃ m, r.fz = .d (keyD m) ∧ ds.length < sizeLine ∧ E.nx (env.set j (some (.ownD (putP ds m d))))) ∧
  (getN ns (.tup ks) = none → ∃ ds, (env.set i (some (.ownX (NT P w K (ns ++ [(NestedKey.tup ks, z)])))))[j]? = some (some (.ownD ds)) ∧
    fn (env.set i (some (.ownX (NT P w K (ns ++ [(NestedKey.tup ks, z)]))))) fun r => ∃ m, r.fz = .d (keyD m) ∧ ds.length < sizeLine ∧ E.nx ((env.set i (some (.ownX (NT P w K (ns ++ [(NestedKey.tup ks, z)]))))).set j (some (.ownD (putP ds m z)))))
end
section
variable {P : Program} {w : World} {K : PySem.W.Frag} {F : Fr}
theorem NT.at {ns : NS} {ys : NX} (h : ys.map (·.1) = ns.map (·.1)) : ∀ {H : Hp}, DqAll K H (ys.map (·.2.2)) (ns.map (·.2)) → ∀ k, (atN ys k = none ↔ getN ns k = none) ∧ ∀ d, getN ns k = some d → ∃ v, atN ys k = some v ∧ Dq K H v d := by
  intro H q k
  induction ns generalizing ys with
  | nil =>
    cases ys with
    | nil => exact ⟨⟨fun _ => rfl, fun _ => rfl⟩, fun d e => nomatch e⟩
    | cons y ys => cases h
  | cons n ns ih =>
    cases ys with
    | nil => cases h
    | cons y ys =>
      rw [List.map_cons, List.map_cons] at h
      injection h with h1 h2
      rw [List.map_cons, List.map_cons] at q
      cases q with
      | cons q1 q2 =>
        unfold atN getN
        rw [List.find?_cons, List.find?_cons, h1]
        by_cases c : n.1 = k
        · rw [decide_eq_true c]
          exact ⟨⟨fun e => (nomatch e), fun e => (nomatch e)⟩, fun d e => by cases e; exact ⟨_, rfl, q1⟩⟩
        · rw [decide_eq_false c]
          exact ih h2 q2
theorem NT.len {ns : NS} {ys : NX} (h : ys.map (·.1) = ns.map (·.1)) : ys.length = ns.length := by
  have := congrArg List.length h
  rwa [List.length_map, List.length_map] at this
theorem KsOk.mono {H H' : Hp} {ys : NX} (e : Same H H') (h : KsOk K H ys) : KsOk K H' ys := fun y hy => ⟨Dq.mono e (h y hy).1, (h y hy).2⟩
/-- the dict of a slot -/
theorem rep_N {Hb H : Hp} {σ : L2.St} {env : EV} {i : Nat} {ns : NS} (r : Rep K F Hb H σ env) (e : env[i]? = some (some (.ownX (NT P w K ns)))) :
    ∃ p ys, σ[i]? = some (some (.ref p)) ∧ H p = some (dN P w p ys) ∧ ys.map (·.1) = ns.map (·.1) ∧ KsOk K Hb ys ∧ DqAll K Hb (ys.map (·.2.2)) (ns.map (·.2)) ∧ Hb p = none ∧ ¬ F.hid.has p := by
  obtain ⟨v, e1, rs, fr⟩ := r.sl i _ e
  obtain ⟨p, o, rfl, hp, t, hb, nh⟩ := rs
  obtain ⟨ys, rfl, h1, h2, h3⟩ := t Hb (Same.refl _)
  exact ⟨p, ys, e1, hp, h1, h2, h3, hb, nh⟩
/-- the slot's dict with one key more -/
theorem rep_N_put {Hb H : Hp} {σ : L2.St} {env : EV} {i : Nat} {ns : NS} {p b : Addr} {ys : NX} {ks : List NestedKey} {v : V} {d : PyData} (r : Rep K F Hb H σ env) (e : env[i]? = some (some (.ownX (NT P w K ns)))) (es : σ[i]? = some (some (.ref p)))
    (hp : H p = some (dN P w p ys)) (h1 : ys.map (·.1) = ns.map (·.1)) (h2 : KsOk K Hb ys) (h3 : DqAll K Hb (ys.map (·.2.2)) (ns.map (·.2))) (hb : Hb p = none) (nh : ¬ F.hid.has p) (hk : Dq K Hb (.ref b) (.tuple (NestedKey.datas ks))) (ok : okK ks) (hv : Dq K Hb v d) :
    Rep K F Hb (upd H p (dN P w p (ys ++ [(.tup ks, b, v)]))) σ (env.set i (some (.ownX (NT P w K (ns ++ [(NestedKey.tup ks, d)]))))) := by
  refine r.put1 e trivial es hp hb nh (s' := .ownX (NT P w K (ns ++ [(NestedKey.tup ks, d)]))) trivial ⟨p, _, rfl, upd_same, fun Hc ex => ⟨_, rfl, ?_, ?_, ?_⟩, hb, nh⟩
  · rw [List.map_append, List.map_append, h1]; rfl
  · intro y hy
    rcases List.mem_append.mp hy with hy | hy
    · exact KsOk.mono ex h2 y hy
    · rw [List.mem_singleton.mp hy]
      exact ⟨Dq.mono ex hk, ok⟩
  · rw [List.map_append, List.map_append]
    exact DqAll.append (DqAll.mono ex h3) (.cons (Dq.mono ex hv) .nil)
theorem key_tup {Hb : Hp} {y : V} {ks : List NestedKey} (h : Dq K Hb y (.tuple (NestedKey.datas ks))) : ∃ b, y = .ref b := by
  cases h with
  | tup h1 h2 => exact ⟨_, rfl⟩
theorem sd_newN : SdE K F (tDNewN P w) (dNewN P w K) := by
  intro Hb H σ env Q k r q c p hp
  have bp : Hb p = none := none_back (fun o e => r.st.ex p o e) hp
  have np : ¬ F.hid.has p := fun z => by obtain ⟨o, e⟩ := r.st.ok.there z; rw [e] at hp; cases hp
  exact c (.ref p) Hb _ (.ownX (NT P w K [])) (Step.raw (o := dN P w p []) r.st hp) ⟨p, _, rfl, upd_same, fun Hc ex => ⟨[], rfl, rfl, fun y hy => (nomatch hy), .nil⟩, bp, np⟩ (fun q e => by cases e; exact hp) q
theorem sd_lenN {i : Nat} : SdE K F (tCB (rLenN P w K) (tCons (tVar i) tNil)) (dLenN P w K i) := by
  intro Hb H σ env Q k r q c
  obtain ⟨ns, e, q⟩ := q
  obtain ⟨p, ys, e1, hp, h1, h2, h3, hb, nh⟩ := rep_N r e
  refine ⟨_, e1, p, ys, rfl, hp, h2.mono r.st.ex, ?_⟩
  rw [NT.len h1]
  exact c _ Hb H (.d (.int _)) (Step.refl r.st) (Dq.int _) trivial q
theorem NT.keys {ns : NS} : ∀ {ys : NX}, ys.map (·.1) = ns.map (·.1) → ∀ {H : Hp}, KsOk K H ys → DqAll K H (ys.map fun y => V.ref y.2.1) (ns.map fun p => p.1.data) := by
  induction ns with
  | nil =>
    intro ys h H ko
    cases ys with
    | nil => exact .nil
    | cons y ys => cases h
  | cons n ns ih =>
    intro ys h H ko
    cases ys with
    | nil => cases h
    | cons y ys =>
      rw [List.map_cons, List.map_cons] at h
      injection h with h1 h2
      have a := (ko y (.head _)).1
      rw [h1] at a
      exact .cons a (ih h2 fun z hz => ko z (.tail _ hz))
theorem sd_tupN {i : Nat} : SdE K F (tCB (rTupN P w K) (tCons (tVar i) tNil)) (dTupN P w K i) := by
  intro Hb H σ env Q k r q c
  obtain ⟨ns, e, q⟩ := q
  obtain ⟨p, ys, e1, hp, h1, h2, h3, hb, nh⟩ := rep_N r e
  refine ⟨_, e1, p, ys, rfl, hp, h2.mono r.st.ex, fun q' hq' => ?_⟩
  obtain ⟨s2, r2⟩ := tup_new (K := K) r.st hq' (NT.keys h1 h2)
  exact c _ _ _ (.d (.tuple _)) s2 r2 trivial q
theorem sd_inN {i : Nat} {neg : Bool} {tk : TE} {fk : DTE} (h : SdE K F tk fk) : SdT K F (tB (tNIn P w K neg tk (tVar i))) (dInN P w K neg i fk) := by
  intro Hb H σ env Q k r q c
  refine h.go (Q := fun s => ∃ ks, s = keyT ks ∧ okK ks ∧ ∃ ns, env[i]? = some (some (.ownX (NT P w K ns))) ∧ Q (neg != (getN ns (.tup ks)).isSome)) r q fun y Hb1 H1 s st1 rs1 _ q1 => ?_
  obtain ⟨ks, es, ok, ns, e, q1⟩ := q1
  subst es
  obtain ⟨p, ys, e1, hp, h1, h2, h3, hb, nh⟩ := rep_N (r.on st1) e
  obtain ⟨b, rfl⟩ := key_tup rs1
  refine ⟨_, e1, p, b, ys, .tup ks, rfl, rfl, hp, h2.mono st1.st.ex, ⟨Dq.mono st1.st.ex rs1, ok⟩, _, rfl, ?_⟩
  have : (atN ys (.tup ks)).isSome = (getN ns (.tup ks)).isSome := by
    obtain ⟨a1, a2⟩ := NT.at h1 h3 (.tup ks)
    cases z : getN ns (.tup ks) with
    | none => rw [a1.mpr z]; rfl
    | some d => obtain ⟨v, z1, _⟩ := a2 d z; rw [z1]; rfl
  rw [this]
  exact c _ Hb1 H1 st1 q1
theorem sd_getN {i : Nat} {tk : TE} {fk : DTE} (h : SdE K F tk fk) : SdE K F (tNGet P w K (tVar i) tk) (dGetN P w K i fk) := by
  intro Hb H σ env Q k r q c
  obtain ⟨ns, e, q⟩ := q
  obtain ⟨v0, e1, _⟩ := r.sl i _ e
  obtain ⟨p, _, e2, _⟩ := rep_N r e
  rw [e1] at e2; cases e2
  refine ⟨_, e1, ?_⟩
  refine h.go (Q := fun s => ∃ ks d, s = keyT ks ∧ okK ks ∧ getN ns (.tup ks) = some d ∧ Q (.d d)) r q fun y Hb1 H1 s st1 rs1 _ q1 => ?_
  obtain ⟨ks, d, es, ok, ed, q1⟩ := q1
  subst es
  obtain ⟨p', ys, e3, hp, h1, h2, h3, hb, nh⟩ := rep_N (r.on st1) e
  rw [e1] at e3; cases e3
  obtain ⟨b, rfl⟩ := key_tup rs1
  obtain ⟨v, z1, z2⟩ := (NT.at h1 h3 (.tup ks)).2 d ed
  exact ⟨p, b, ys, .tup ks, v, rfl, rfl, hp, h2.mono st1.st.ex, ⟨Dq.mono st1.st.ex rs1, ok⟩, z1, c v Hb1 H1 (.d d) st1 z2 trivial q1⟩
theorem sd_putN (i : Nat) {te ti : TE} {fe fi : DTE} (he : SdE K F te fe) (hi : SdE K F ti fi) : SdS K F (sNPut P w K (tVar i) ti te) (dPutN P w K i fi fe) := by
  intro Hb H σ env D E r q l
  refine he.go (Q := fun s => ∃ d, s = .d d ∧ ∃ ns, env[i]? = some (some (.ownX (NT P w K ns))) ∧ fi env fun t => ∃ ks, t.fz = keyT ks ∧ okK ks ∧ getN ns (.tup ks) = none ∧ ns.length < sizeLine ∧
    E.nx (env.set i (some (.ownX (NT P w K (ns ++ [(NestedKey.tup ks, d)])))))) r q fun y Hb1 H1 s st1 rs1 _ q1 => ?_
  obtain ⟨d, es, ns, e, q1⟩ := q1
  subst es
  have r1 := r.on st1
  obtain ⟨p, _, e1, _⟩ := rep_N r1 e
  refine ⟨_, e1, ?_⟩
  refine hi.go (Q := fun t => ∃ ks, t = keyT ks ∧ okK ks ∧ getN ns (.tup ks) = none ∧ ns.length < sizeLine ∧ E.nx (env.set i (some (.ownX (NT P w K (ns ++ [(NestedKey.tup ks, d)])))))) r1 q1 fun y2 Hb2 H2 t st2 rs2 _ q2 => ?_
  obtain ⟨ks, et, ok, en, hl, q2⟩ := q2
  subst et
  have r2 := r1.on st2
  obtain ⟨p', ys, e3, hp, h1, h2, h3, hb, nh⟩ := rep_N r2 e
  rw [e1] at e3; cases e3
  obtain ⟨b, rfl⟩ := key_tup rs2
  refine ⟨p, b, ys, .tup ks, rfl, rfl, hp, h2.mono st2.st.ex, ⟨Dq.mono st2.st.ex rs2, ok⟩, (NT.at h1 h3 _).1.mpr en, by rw [NT.len h1]; exact hl, ?_⟩
  exact l.nx Hb2 _ σ _ (st1.ex.trans st2.ex) (rep_N_put r2 e e1 hp h1 h2 h3 hb nh rs2 ok (Dq.mono st2.ex rs1)) q2
/-- e[n] = d.setdefault(k, z) -/
theorem sd_setdN {j i : Nat} {tn tk tx : TE} {fn fk fx : DTE} (hn : SdE K F tn fn) (hk : SdE K F tk fk) (hx : SdE K F tx fx) : SdS K F (sDPut (tVar j) tn (tNSetd P w K (tVar i) tk tx)) (dSetdN P w K j i fn fk fx) := by
  intro Hb H σ env D E r q l
  obtain ⟨ns, e, q⟩ := q
  obtain ⟨p, ys0, e1, hp0, _⟩ := rep_N r e
  refine ⟨_, e1, p, rfl, ⟨_, hp0⟩, ?_⟩
  refine hk.go (Q := fun t => ∃ ks, t = keyT ks ∧ okK ks ∧ fx env fun u => ∃ z, u.fz = .d z ∧ ns.length < sizeLine ∧
  (∀ d, getN ns (.tup ks) = some d → ∃ ds, env[j]? = some (some (.ownD ds)) ∧ fn env fun r => ∃ m, r.fz = .d (keyD m) ∧ ds.length < sizeLine ∧ E.nx (env.set j (some (.ownD (putP ds m d))))) ∧
  (getN ns (.tup ks) = none → ∃ ds, (env.set i (some (.ownX (NT P w K (ns ++ [(NestedKey.tup ks, z)])))))[j]? = some (some (.ownD ds)) ∧
    fn (env.set i (some (.ownX (NT P w K (ns ++ [(NestedKey.tup ks, z)]))))) fun r => ∃ m, r.fz = .d (keyD m) ∧ ds.length < sizeLine ∧ E.nx ((env.set i (some (.ownX (NT P w K (ns ++ [(NestedKey.tup ks, z)]))))).set j (some (.ownD (putP ds m z)))))) r q fun y Hb1 H1 t st1 rs1 _ q1 => ?_
  obtain ⟨ks, et, ok, q1⟩ := q1
  subst et
  have r1 := r.on st1
  refine hx.go (Q := fun u => ∃ z, u = .d z ∧ ns.length < sizeLine ∧
  (∀ d, getN ns (.tup ks) = some d → ∃ ds, env[j]? = some (some (.ownD ds)) ∧ fn env fun r => ∃ m, r.fz = .d (keyD m) ∧ ds.length < sizeLine ∧ E.nx (env.set j (some (.ownD (putP ds m d))))) ∧
  (getN ns (.tup ks) = none → ∃ ds, (env.set i (some (.ownX (NT P w K (ns ++ [(NestedKey.tup ks, z)])))))[j]? = some (some (.ownD ds)) ∧
    fn (env.set i (some (.ownX (NT P w K (ns ++ [(NestedKey.tup ks, z)]))))) fun r => ∃ m, r.fz = .d (keyD m) ∧ ds.length < sizeLine ∧ E.nx ((env.set i (some (.ownX (NT P w K (ns ++ [(NestedKey.tup ks, z)]))))).set j (some (.ownD (putP ds m z)))))) r1 q1 fun y2 Hb2 H2 t st2 rs2 _ q2 => ?_
  obtain ⟨z, et, hl, qa, qb⟩ := q2
  subst et
  have r2 := r1.on st2
  obtain ⟨p', ys, e3, hp, h1, h2, h3, hb, nh⟩ := rep_N r2 e
  rw [e1] at e3; cases e3
  obtain ⟨b, rfl⟩ := key_tup rs1
  have rk : Dq K Hb2 (.ref b) (.tuple (NestedKey.datas ks)) := Dq.mono st2.ex rs1
  -- the store in e
  have fin : ∀ {Hc : Hp} {env1 : EV} {v : V} {d : PyData}, Rep K F Hb2 Hc σ env1 → Dq K Hb2 v d → (∃ ds, env1[j]? = some (some (.ownD ds)) ∧ fn env1 fun r => ∃ m, r.fz = .d (keyD m) ∧ ds.length < sizeLine ∧ E.nx (env1.set j (some (.ownD (putP ds m d))))) →
      tVar j σ Hc fun x H2 => tn σ H2 fun y H3 => ∃ a H4, x = .ref a ∧ DPut H3 a y v H4 ∧ D.nx σ H4 := by
    intro Hc env1 v d rc hv q
    obtain ⟨ds, ej, q⟩ := q
    obtain ⟨vj, j1, rj, _⟩ := rc.sl j _ ej
    obtain ⟨pj, kvs, rfl, j2, j3, j4, j5⟩ := rj
    refine ⟨_, j1, ?_⟩
    refine hn.go (Q := fun r => ∃ m, r = .d (keyD m) ∧ ds.length < sizeLine ∧ E.nx (env1.set j (some (.ownD (putP ds m d))))) rc q fun y3 Hb3 H3 t st3 rs3 _ q3 => ?_
    obtain ⟨m, et, hl, q3⟩ := q3
    subst et
    have rc3 := rc.on st3
    have j6 : Hb3 pj = none := by
      cases z : Hb3 pj with
      | none => rfl
      | some o => have := st3.new pj o z j4; rw [j2] at this; cases this
    have j7 := DRel.mono st3.ex j3
    refine ⟨pj, _, rfl, .inl ⟨kvs, m, st3.keep pj _ j2 j5, key_of rs3, by rw [j7.length]; exact hl, rfl⟩, ?_⟩
    exact l.nx Hb3 _ σ _ ((st1.ex.trans st2.ex).trans st3.ex) (rc3.put1 ej trivial j1 (st3.keep pj _ j2 j5) j6 j5 (s' := .ownD (putP ds m d)) trivial ⟨pj, putK kvs m v, rfl, upd_same, j7.put (Dq.mono st3.ex hv), j6, j5⟩) q3
  refine ⟨b, ys, .tup ks, rfl, hp, h2.mono st2.st.ex, ⟨Dq.mono st2.st.ex rk, ok⟩, by rw [NT.len h1]; exact hl, fun v hv => ?_, fun hv => ?_⟩
  · cases en : getN ns (.tup ks) with
    | none => rw [(NT.at h1 h3 _).1.mpr en] at hv; cases hv
    | some d =>
      obtain ⟨v', z1, z2⟩ := (NT.at h1 h3 _).2 d en
      rw [hv] at z1; cases z1
      exact fin r2 z2 (qa d en)
  · have en := (NT.at h1 h3 _).1.mp hv
    exact fin (rep_N_put r2 e e1 hp h1 h2 h3 hb nh rk ok rs2) rs2 (qb en)
end
end Pu

end

section
set_option maxHeartbeats 400000
/-! PuN2: the rules of PuN over the text. -/
namespace Pu
open PySem L2 PyProof.Rows
section
variable {X : Cx} {F : Fr} {P : Program} {w : World} {K : PySem.W.Frag} {e b c : Expr} {te ti tx : TE} {fe fi fx : DTE} {x x' : Str} {p px px' ppos pos apos cpos : Pos}
theorem k_newN (e1 : X.prog = P) (e2 : X.w = w) (e3 : X.K = K) : DE X F (.Dict [] [] pos) (tDNewN P w) (dNewN P w K) := by subst e1 e2 e3; exact ⟨pe_dnewN, sd_newN⟩
theorem k_lenN (e1 : X.prog = P) (e2 : X.w = w) (e3 : X.K = K) (i : Nat) (hm : X.mg "len" = none) (hN : X.N[i]? = some x := by rfl) (hv : Vis X.env.scope x := by first | exact Or.inl rfl | exact Or.inr (Or.inl rfl) | exact Or.inr (Or.inr rfl)) (hd : (x == ("__debug__" : Str)) = false := by decide) (hcd : (x == ("__classdict__" : Str)) = false := by decide) (hg : Gl X "len" := by rfl) (he : starEach [.Name x px] X.env = (false, eval (.Name x px) X.env) :: starEach [] X.env := by rfl) (hpl : (backTo pos (starEach [] X.env)).any (·.1) = false := by rfl) :
    DE X F (.Call (.Name "len" p) [.Name x px] [] pos) (tCB (rLenN P w K) (tCons (tVar i) tNil)) (dLenN P w K i) := by
  subst e1 e2 e3
  exact ⟨pe_callB call_len_dN hg hm (by decide +kernel) (pa_cons (pe_var hN hv hd hcd) pa_nil he) (by decide) (by decide) he hpl, sd_lenN⟩
theorem k_tupN (e1 : X.prog = P) (e2 : X.w = w) (e3 : X.K = K) (hc : X.calm = true) (i : Nat) (hm : X.mg "tuple" = none) (hN : X.N[i]? = some x := by rfl) (hv : Vis X.env.scope x := by first | exact Or.inl rfl | exact Or.inr (Or.inl rfl) | exact Or.inr (Or.inr rfl)) (hd : (x == ("__debug__" : Str)) = false := by decide) (hcd : (x == ("__classdict__" : Str)) = false := by decide) (hg : Gl X "tuple" := by rfl) (he : starEach [.Name x px] X.env = (false, eval (.Name x px) X.env) :: starEach [] X.env := by rfl) (hpl : (backTo pos (starEach [] X.env)).any (·.1) = false := by rfl) :
    DE X F (.Call (.Name "tuple" p) [.Name x px] [] pos) (tCB (rTupN P w K) (tCons (tVar i) tNil)) (dTupN P w K i) := by
  subst e1 e2 e3
  exact ⟨pe_callTy (call_tuple_dN hc) hg hm (by decide +kernel) (pa_cons (pe_var hN hv hd hcd) pa_nil he) (by decide) (by decide) he hpl, sd_tupN⟩
theorem k_notInN (e1 : X.prog = P) (e2 : X.w = w) (e3 : X.K = K) (hu : X.A.units + 64 < cLine) (i : Nat) (hb : DE X F b ti fi) (hN : X.N[i]? = some x := by rfl) (hv : Vis X.env.scope x := by first | exact Or.inl rfl | exact Or.inr (Or.inl rfl) | exact Or.inr (Or.inr rfl)) (hd : (x == ("__debug__" : Str)) = false := by decide) (hcd : (x == ("__classdict__" : Str)) = false := by decide) (hm : behindInMarks .NotIn (.Name x px) = false := by rfl) : DT X F (.Compare b [.NotIn] [.Name x px] pos) (tB (tNIn P w K true ti (tVar i))) (dInN P w K true i fi) := by
  subst e1 e2 e3
  exact ⟨pt_cmp (pc_nnotin hu hb.pe (pe_var hN hv hd hcd)) hm, sd_inN hb.sd⟩
theorem k_getN (e1 : X.prog = P) (e2 : X.w = w) (e3 : X.K = K) (hu : X.A.units + 64 < cLine) (i : Nat) (hb : DE X F b ti fi) (hN : X.N[i]? = some x := by rfl) (hv : Vis X.env.scope x := by first | exact Or.inl rfl | exact Or.inr (Or.inl rfl) | exact Or.inr (Or.inr rfl)) (hd : (x == ("__debug__" : Str)) = false := by decide) (hcd : (x == ("__classdict__" : Str)) = false := by decide) (hs : NoSl b := by exact fun _ _ => rfl) : DE X F (.Subscript (.Name x px) b pos) (tNGet P w K (tVar i) ti) (dGetN P w K i fi) := by
  subst e1 e2 e3
  exact ⟨pe_nget hu (pe_var hN hv hd hcd) hb.pe hs, sd_getN hb.sd⟩
theorem k_putN (e1 : X.prog = P) (e2 : X.w = w) (e3 : X.K = K) (hu : X.A.units + 64 < cLine) (i : Nat) (he : DE X F e te fe) (hb : DE X F b ti fi) (hN : X.N[i]? = some x := by rfl) (hv : Vis X.env.scope x := by first | exact Or.inl rfl | exact Or.inr (Or.inl rfl) | exact Or.inr (Or.inr rfl)) (hd : (x == ("__debug__" : Str)) = false := by decide) (hcd : (x == ("__classdict__" : Str)) = false := by decide) (hs : swapsWith e (some (Expr.Subscript (.Name x px) b ppos)) pos.line X.env = pure false := by rfl) :
    DS X F (.Assign [.Subscript (.Name x px) b ppos] e pos) (sNPut P w K (tVar i) ti te) (dPutN P w K i fi fe) := by
  subst e1 e2 e3
  exact ⟨ps_nput hu (pe_var hN hv hd hcd) hb.pe he.pe hs, sd_putN i he.sd hb.sd⟩
theorem k_setdN (e1 : X.prog = P) (e2 : X.w = w) (e3 : X.K = K) (hu : X.A.units + 64 < cLine) (j i : Nat) (hn : DE X F b ti fi) (hk : DE X F e te fe) (hx : DE X F c tx fx) (hN : X.N[i]? = some x := by rfl) (hv : Vis X.env.scope x := by first | exact Or.inl rfl | exact Or.inr (Or.inl rfl) | exact Or.inr (Or.inr rfl)) (hd : (x == ("__debug__" : Str)) = false := by decide) (hcd : (x == ("__classdict__" : Str)) = false := by decide) (hNj : X.N[j]? = some x' := by rfl) (hvj : Vis X.env.scope x' := by first | exact Or.inl rfl | exact Or.inr (Or.inl rfl) | exact Or.inr (Or.inr rfl)) (hdj : (x' == ("__debug__" : Str)) = false := by decide) (hcdj : (x' == ("__classdict__" : Str)) = false := by decide)
    (m : M2 X (.Name x px) "setdefault" apos e c cpos := by exact ⟨rfl, rfl, rfl, rfl⟩) (hs : swapsWith (.Call (.Attribute (.Name x px) "setdefault" apos) [e, c] [] cpos) (some (Expr.Subscript (.Name x' px') b ppos)) pos.line X.env = pure false := by rfl) :
    DS X F (.Assign [.Subscript (.Name x' px') b ppos] (.Call (.Attribute (.Name x px) "setdefault" apos) [e, c] [] cpos) pos) (sDPut (tVar j) ti (tNSetd P w K (tVar i) te tx)) (dSetdN P w K j i fi fe fx) := by
  subst e1 e2 e3
  exact ⟨ps_dput (Nat.lt_of_le_of_lt (Nat.add_le_add_left (by decide) _) hu) (pe_var hNj hvj hdj hcdj) hn.pe (pe_nsetd hu (pe_var hN hv hd hcd) hk.pe hx.pe m) hs, sd_setdN hn.sd hk.sd hx.sd⟩
end
end Pu

end

section
set_option maxHeartbeats 1000000
/-! PuSt: xs[a::c] of a list, a and c written whole numbers. -/
namespace Pu
open PySem L2 PyProof.Rows
def pickX {α : Type} (xs : List α) (lo hi st : Option Int) : List α := (sliceRange (sliceBounds lo hi st xs.length).1 (sliceBounds lo hi st xs.length).2.1 (sliceBounds lo hi st xs.length).2.2).filterMap (xs[·]?)
theorem pickX_rel {α β : Type} {R : α → β → Prop} {xs : List α} {ys : List β} (h : ∀ i : Nat, (xs[i]? = none ↔ ys[i]? = none) ∧ ∀ x, xs[i]? = some x → ∃ y, ys[i]? = some y ∧ R x y) (hl : xs.length = ys.length) (C : List α → List β → Prop) (c0 : C [] []) (cs : ∀ x y a b, R x y → C a b → C (x :: a) (y :: b)) (lo hi st : Option Int) : C (pickX xs lo hi st) (pickX ys lo hi st) := by
  unfold pickX
  rw [hl]
  generalize sliceRange (sliceBounds lo hi st ys.length).1 (sliceBounds lo hi st ys.length).2.1 (sliceBounds lo hi st ys.length).2.2 = l
  induction l with
  | nil => exact c0
  | cons i l ih =>
    rw [List.filterMap_cons, List.filterMap_cons]
    cases e : xs[i]? with
    | none =>
      rw [(h i).1.mp e]
      exact ih
    | some x =>
      obtain ⟨y, e2, r⟩ := (h i).2 x e
      rw [e2]
      exact cs x y _ _ r ih
theorem vals_at {xs : List V} {us : List Value} (r : Vals xs us) : ∀ i : Nat, (xs[i]? = none ↔ us[i]? = none) ∧ ∀ x, xs[i]? = some x → ∃ y, us[i]? = some y ∧ RelV x y := fun i => by
  refine ⟨?_, fun x e => ?_⟩
  · rw [List.getElem?_eq_none_iff, List.getElem?_eq_none_iff, r.length]
  · induction r generalizing i with
    | nil => simp at e
    | cons h t ih =>
      cases i with
      | zero => simp at e; subst e; exact ⟨_, rfl, h⟩
      | succ i => simpa using ih i (by simpa using e)
theorem vals_pick {xs : List V} {us : List Value} (r : Vals xs us) (lo hi st : Option Int) : Vals (pickX xs lo hi st) (pickX us lo hi st) := pickX_rel (vals_at r) r.length _ .nil (fun _ _ _ _ a b => .cons a b) lo hi st
def tPickL (K : PySem.W.Frag) (a c : Int) (te : TE) : TE := fun σ H Q => te σ H fun x H1 => ∃ p xs, x = .ref p ∧ SqL K H1 p xs ∧ ∀ q, H1 q = none → Q (.ref q) (upd H1 q (.lst (pickX xs (some a) none (some c))))
def dPickL (a c : Int) (f : DTE) : DTE := fun env Q => f env fun s => ∃ xs, s.fz = .d (.list xs) ∧ Q (.own (pickX xs (some a) none (some c)))
section
variable {X : Cx} {F : Fr} {e : Expr} {te : TE} {fe : DTE} {j k : Nat} {p1 p2 p3 pos : Pos} {ai ci : Int}
theorem pe_pickL (h0 : ci ≠ 0) (he : PE X e te) : PE X (.Subscript e (.Slice (some (.Constant (.int ai) j p1)) none (some (.Constant (.int ci) k p2)) p3) pos) (tPickL X.K ai ci te) := by
  refine ⟨fun pins s σ H Q I h => ?_⟩
  refine Subscript_ (thn (he.run pins s σ H _ I h) fun v s1 ⟨x, H1, I1, r1, q1⟩ => ?_)
  obtain ⟨a, xs, ex, hx, q⟩ := q1
  subst ex
  cases r1
  have hlo : PO X (some (.Constant (.int ai) j p1)) (tPart (tC (.int ai))) := po_some pe_int
  have hst : PO X (some (.Constant (.int ci) k p2)) (tPart (tC (.int ci))) := po_some pe_int
  refine wpAny_Slice (thn (hlo.run pins s1 σ H1 (fun o H2 => o = some ai ∧ H2 = H1) I1 ⟨ai, rfl, rfl, rfl⟩) fun vl s2 ⟨l, H2, I2, pl, el, e2⟩ => ?_)
  subst el e2
  refine thn (po_none.run pins s2 σ H2 (fun o H3 => o = none ∧ H3 = H2) I2 ⟨rfl, rfl⟩) fun vu s3 ⟨u, H3, I3, pu, eu, e3⟩ => ?_
  subst eu e3
  refine thn (hst.run pins s3 σ H3 (fun o H4 => o = some ci ∧ H4 = H3) I3 ⟨ci, rfl, rfl, rfl⟩) fun vs s4 ⟨o, H4, I4, ps, eo, e4⟩ => ?_
  subst eo e4
  have I5 : Inv X pins σ H4 { s4 with heap := s4.heap.push { cls := .type "slice", data := .fields #[vl, vu, vs] } } := I4.kept (t' := s4.toks) fun b ob q => Heap.get?_push_of_some _ q
  obtain ⟨its, r, ht, hz⟩ := I5.list hx
  have hlen := r.length
  show wpAny (model X.prog X.w) X.A (subscriptTail e (.Slice (some (.Constant (.int ai) j p1)) none (some (.Constant (.int ci) k p2)) p3) (.ref a) (.ref s4.heap.objs.size)) (EP X pins σ Q) X.xe { s4 with heap := s4.heap.push { cls := .type "slice", data := .fields #[vl, vu, vs] } }
  refine tail_any (ops := [.ref a, .ref s4.heap.objs.size]) ht.isList.typeIs (PySem.slot_list_getitem.lookup) ?_ (by with_unfolding_all rfl)
  refine wpAny_getItem_list_slice ht.isList (Heap.IsSliceOf.new _ vl vu vs) pl pu ps (by simpa using h0) ?_ (by rw [List.size_toArray]; omega)
  have ep : (slicePick its.toArray (some ai) none (some ci)) = (pickX its (some ai) none (some ci)).toArray := by
    unfold slicePick pickX
    simp
  have hz2 : (pickX xs (some ai) none (some ci)).length ≤ sizeLine := by
    have e1 := (vals_pick r (some ai) none (some ci)).length
    have e2 := slicePick_size_le its.toArray (some ai) none (some ci)
    rw [ep] at e2
    simp at e2
    omega
  rw [ep]
  refine ⟨.ref _, _, I5.laid (t' := s4.toks) (o := .lst (pickX xs (some ai) none (some ci))) (fun b ob q => Heap.get?_push_of_some _ q) (Nat.le_refl _) ?_, rfl, q _ (I5.hok.fresh (Nat.le_refl _))⟩
  exact ⟨hz2, _, 0, vals_pick r _ _ _, Heap.get?_push_size _ rfl⟩
end
section
variable {K : PySem.W.Frag} {F : Fr} {te : TE} {fe : DTE} {a c : Int}
theorem dqall_at {H : Hp} {xs : List V} {ds : List PyData} (r : DqAll K H xs ds) : ∀ i : Nat, (xs[i]? = none ↔ ds[i]? = none) ∧ ∀ x, xs[i]? = some x → ∃ y, ds[i]? = some y ∧ Dq K H x y := fun i => by
  refine ⟨?_, fun x e => DqAll.get r e⟩
  rw [List.getElem?_eq_none_iff, List.getElem?_eq_none_iff, DqAll.length r]
theorem sd_pickL (h : SdE K F te fe) : SdE K F (tPickL K a c te) (dPickL a c fe) := by
  intro Hb H σ env Q k rp q cc
  refine h.go (Q := fun s => ∃ xs, s = .d (.list xs) ∧ Q (.own (pickX xs (some a) none (some c)))) rp q fun x Hb1 H1 s st1 rs1 _ q1 => ?_
  obtain ⟨xs, e, q1⟩ := q1
  subst e
  cases (show Dq K Hb1 x (.list xs) from rs1) with
  | lst a1 a2 =>
    refine ⟨_, _, rfl, SqL.of (st1.st.ex _ _ a1), fun p hp => ?_⟩
    obtain ⟨s2, r2, f2⟩ := own_new (K := K) st1.st hp (pickX_rel (dqall_at a2) (DqAll.length a2) (fun a b => DqAll K Hb1 a b) .nil (fun _ _ _ _ u v => .cons u v) (some a) none (some c))
    exact cc _ _ _ (.own (pickX xs (some a) none (some c))) (st1.trans s2) r2 (FrSl.back st1 f2) q1
end
section
variable {X : Cx} {F : Fr} {e : Expr} {te : TE} {fe : DTE} {j k : Nat} {p1 p2 p3 pos : Pos} {ai ci : Int}
theorem k_pickL {K : PySem.W.Frag} (ek : X.K = K) (h : DE X F e te fe) (h0 : ci ≠ 0 := by decide) : DE X F (.Subscript e (.Slice (some (.Constant (.int ai) j p1)) none (some (.Constant (.int ci) k p2)) p3) pos) (tPickL K ai ci te) (dPickL ai ci fe) := by
  subst ek
  exact ⟨pe_pickL h0 h.pe, sd_pickL h.sd⟩
end
end Pu

end

section
set_option maxHeartbeats 2000000
/-! Mt09: tidy sheets: keys, what the defs answer. -/
namespace Law
open PySem L2 PyProof.Rows RZ Pu
/-! ### lines as keys -/
def lnK : Ln → List NestedKey
  | .lt w => [.text "letter", .text w]
  | .yes => [.text "yes"]
  | .un i => [.text "not", .num (i : Nat)]
  | .bi o i j => [.text o, .num (i : Nat), .num (j : Nat)]
theorem lnK_d (l : Ln) : lnD l = .tuple (NestedKey.datas (lnK l)) := by cases l <;> rfl
theorem lnK_inj {l l' : Ln} (h : lnK l = lnK l') : l = l' := by
  cases l <;> cases l' <;> simp_all [lnK] <;> omega
theorem lnK_ok (l : Ln) : okK (lnK l) := by cases l <;> simp [okK, lnK, NestedKey.depth, NestedKey.depthAll]
/-- a build's key: the members' numbers in a tuple of their own -/
def bldK : Ln → List NestedKey
  | .lt w => [.text "letter", .text w]
  | l => [.text l.word, .tup (l.mem.map fun (i : Nat) => .num (i : Nat))]
theorem bldK_inj {l l' : Ln} (h : bldK l = bldK l') : l = l' := by
  cases l <;> cases l' <;> simp_all [bldK, Ln.mem, Ln.word] <;> omega
theorem bldK_ok (l : Ln) : okK (bldK l) := by
  cases l <;> simp [okK, bldK, NestedKey.depth, NestedKey.depthAll, Ln.mem]
def nsK (kf : Ln → List NestedKey) (T : List Ln) : NS := T.zipIdx.map fun p => (.tup (kf p.1), .int (p.2 : Nat))
theorem nsK_len (kf : Ln → List NestedKey) (T : List Ln) : (nsK kf T).length = T.length := by unfold nsK; rw [List.length_map, List.length_zipIdx]
theorem nsK_snoc (kf : Ln → List NestedKey) (T : List Ln) (l : Ln) : nsK kf (T ++ [l]) = nsK kf T ++ [(.tup (kf l), .int (T.length : Nat))] := by
  unfold nsK
  rw [List.zipIdx_append, List.map_append]
  simp
theorem getN_go {kf : Ln → List NestedKey} (inj : ∀ {a b}, kf a = kf b → a = b) (l : Ln) : ∀ (T : List Ln) (n : Nat), getN (((T.zipIdx n).map fun p => (NestedKey.tup (kf p.1), PyData.int (p.2 : Nat)))) (.tup (kf l)) = if l ∈ T then some (.int ((n + T.idxOf l : Nat) : Int)) else none
  | [], n => rfl
  | a :: T, n => by
    rw [List.zipIdx_cons, List.map_cons]
    unfold getN
    rw [List.find?_cons]
    by_cases c : a = l
    · subst c
      rw [decide_eq_true rfl, if_pos List.mem_cons_self, List.idxOf_cons_self]
      rfl
    · rw [decide_eq_false (fun e => by injection e with e; exact c (inj e))]
      have ih := getN_go inj l T (n + 1)
      unfold getN at ih
      show Option.map _ (List.find? _ _) = _
      rw [ih]
      by_cases d : l ∈ T
      · rw [if_pos d, if_pos (List.mem_cons_of_mem _ d), List.idxOf_cons, show (a == l) = false by simp; exact c]
        simp only [cond_false]
        congr 2
        omega
      · rw [if_neg d, if_neg (fun h => by rcases List.mem_cons.mp h with h | h; exact c h.symm; exact d h)]
theorem getN_ns {kf : Ln → List NestedKey} (inj : ∀ {a b}, kf a = kf b → a = b) (l : Ln) (T : List Ln) : getN (nsK kf T) (.tup (kf l)) = if l ∈ T then some (.int (T.idxOf l : Nat)) else none := by
  unfold nsK
  rw [getN_go inj l T 0, Nat.zero_add]
theorem ns_data (T : List Ln) : ((nsK lnK T).map fun p => p.1.data) = T.map lnD := by
  have h : ∀ (T : List Ln) (n : Nat), (((T.zipIdx n).map fun p => (NestedKey.tup (lnK p.1), PyData.int (p.2 : Nat))).map fun p => p.1.data) = T.map lnD := fun T => by
    induction T with
    | nil => intro n; rfl
    | cons l T ih =>
      intro n
      rw [List.zipIdx_cons, List.map_cons, List.map_cons, ih, List.map_cons, lnK_d]
      rfl
  exact h T 0
/-! ### what the defs answer -/
def plcD (ys pl : List Nat) : List (PyData × PyData) := kvD (fun n => .int (pl.getD (ys.idxOf n) 0 : Nat)) ys
def m_told_once : FN := fun ss R => ∃ (s : List Ln) (ys : List Nat), ss = [.d (sheetD s), .d (.list (natsD ys))] ∧ Low s ∧ Kept s ys ∧ s.length < 1000000 ∧
  R (.d (.tuple [sheetD (onceL (mPart s ys)).1, .dict (plcD ys (onceL (mPart s ys)).2)]))
def m_tidy : FN := fun ss R => ∃ (s : List Ln), ss = [.d (sheetD s)] ∧ Low s ∧ s ≠ [] ∧ s.length < 1000000 ∧ R (.d (sheetD (tidyL s)))
def m__law_builds : FN := fun ss R => ∃ (s t : List Ln), ss = [.d (.list [sheetD s, sheetD t])] ∧ Low s ∧ Low t ∧ s.length ≤ 1000 ∧ t.length ≤ 1000 ∧ R (.own [.list (natsD (onceL s).2), .list (natsD (onceG (onceL s).1 t).2)])
def m__law_firsts : FN := fun ss R => ∃ (l : List Nat), ss = [.d (.list (natsD l))] ∧ l.length ≤ 1000 ∧ R (.d (.list (natsD (firstsL l))))
def m__law_tidy_right : FN := fun ss R => ∃ (s : List Ln), ss = [.src, .d (sheetD s)] ∧ SOk s ∧ s.length ≤ 100 ∧ R (.d (.bool true))
def m9_true_right : FN := fun ss R => ∃ (s : List Ln), ss = [.src, .d (sheetD s)] ∧ SOk s ∧ s.length ≤ 100 ∧ R (.d (.bool true))
theorem idx_take {ys : List Nat} (asc : ys.Pairwise (· < ·)) {j m : Nat} (h : m ∈ ys.take j) : (ys.take j).idxOf m = ys.idxOf m := by
  conv => rhs; rw [← List.take_append_drop j ys, List.idxOf_append, if_pos h]
theorem plc_get {ys : List Nat} (asc : ys.Pairwise (· < ·)) {j m : Nat} {pl : List Nat} (h : m ∈ ys.take j) : getP (plcD (ys.take j) pl) (.inl (m : Nat)) = some (.int (pl.getD (ys.idxOf m) 0 : Nat)) := by
  unfold plcD
  rw [kv_get h, idx_take asc h]
theorem plc_put {ys : List Nat} (asc : ys.Pairwise (· < ·)) {j i : Nat} (hj : ys[j]? = some i) {pl : List Nat} (lp : pl.length = j) (v : Nat) : putP (plcD (ys.take j) pl) (.inl (i : Nat)) (.int (v : Nat)) = plcD (ys.take (j + 1)) (pl ++ [v]) := by
  have ni : i ∉ ys.take j := asc_take' asc hj
  have ij := asc_idx asc hj
  have h := kv_put (f := fun n => PyData.int ((pl ++ [v]).getD ((ys.take (j + 1)).idxOf n) 0 : Nat)) ni
  have hm : i ∈ ys.take (j + 1) := by rw [take_more' hj]; simp
  have e1 : ((pl ++ [v]).getD ((ys.take (j + 1)).idxOf i) 0) = v := by
    rw [idx_take asc hm, ij, ← lp]
    exact plD_snoc'
  have e2 : kvD (fun n => PyData.int ((pl ++ [v]).getD ((ys.take (j + 1)).idxOf n) 0 : Nat)) (ys.take j) = plcD (ys.take j) pl := by
    unfold plcD kvD
    refine List.map_congr_left fun n hn => ?_
    have hn2 : n ∈ ys.take (j + 1) := by rw [take_more' hj]; exact List.mem_append_left _ hn
    have lt : (ys.take j).idxOf n < j := by
      have := List.idxOf_lt_length_iff.mpr hn
      rw [List.length_take] at this; omega
    dsimp only
    rw [idx_take asc hn2, ← idx_take asc hn, plD_snoc (by omega)]
  rw [e1, e2] at h
  rw [h, ← take_more' hj]
  rfl
theorem firsts_len (l : List Nat) : (firstsL l).length ≤ l.length := by
  have h : ∀ (l acc : List Nat), (l.foldl firstS acc).length ≤ acc.length + l.length := fun l => by
    induction l with
    | nil => intro acc; exact Nat.le_refl _
    | cons x l ih =>
      intro acc
      have := ih (firstS acc x)
      have h2 : (firstS acc x).length ≤ acc.length + 1 := by
        unfold firstS
        split
        · omega
        · rw [List.length_append]; simp
      rw [List.foldl_cons, List.length_cons]; omega
  have := h l []
  rw [List.length_nil, Nat.zero_add] at this
  exact this
theorem onceG_len2 (K : List Ln) {p : List Ln} : ∀ {j : Nat}, j ≤ p.length → (onceG K (p.take j)).2.length = j
  | 0, _ => rfl
  | j + 1, h => by
    obtain ⟨l, hl⟩ := at_low (s := p) (k := j) (by omega)
    rw [onceG_take K hl]
    unfold onceS
    dsimp only
    rw [List.length_append, onceG_len2 K (by omega)]; rfl
theorem onceG_len1 (K : List Ln) (p : List Ln) : (onceG K p).1.length ≤ K.length + p.length := by
  have h : ∀ (p : List Ln) (a : List Ln × List Nat), (p.foldl onceS a).1.length ≤ a.1.length + p.length := fun p => by
    induction p with
    | nil => intro a; exact Nat.le_refl _
    | cons l p ih =>
      intro a
      have := ih (onceS a l)
      have h2 : (onceS a l).1.length ≤ a.1.length + 1 := by
        unfold onceS
        dsimp only
        split
        · omega
        · rw [List.length_append]; simp
      rw [List.foldl_cons, List.length_cons]; omega
  exact h p (K, [])
theorem nats_snoc9 (A : List Nat) (x : Nat) : natsD (A ++ [x]) = natsD A ++ [PyData.int (x : Nat)] := by unfold natsD; rw [List.map_append]; rfl
theorem tidy_ok {s : List Ln} (ok : SOk s) : SOk (tidyL s) := by
  have T := tidyL_tidy ok.low ok.ne
  refine ⟨T.ne, fun k l h => ⟨(T.low k l h).1, (T.low k l h).2, fun w e => ?_⟩⟩
  subst e
  obtain ⟨j, hj⟩ := List.getElem?_of_mem (T.lt w (List.mem_of_getElem? h))
  exact (ok.ok j _ hj).2.2 w rfl
theorem tidy_len {s : List Ln} (ok : SOk s) : (tidyL s).length ≤ s.length := (tidyL_tidy ok.low ok.ne).len
theorem okD1_nil9 : okD1 (.list []) := ⟨rfl, by decide +kernel⟩
theorem ne_pass9 {d : PyData} (h : okD1 d) {P : Bool → Prop} (q : P false) : fNe (.d d) (.d d) (fun s => ∃ b, s.fz = .d (.bool b) ∧ P b) := ne_same h ⟨false, rfl, q⟩
theorem eq_pass9 {d : PyData} (h : okD1 d) {P : Bool → Prop} (q : P true) : fEq (.d d) (.d d) (fun s => ∃ b, s.fz = .d (.bool b) ∧ P b) := eq_same h ⟨true, rfl, q⟩
theorem last_nat {s : List Ln} (ne : s ≠ []) : PyData.int (((s.map lnD).length : Int) - 1) = .int ((s.length - 1 : Nat) : Int) := by rw [sub_one ne]
theorem rngD_nats (n : Nat) : rngD 0 n = natsD (List.range n) := rng0 n
/-- the lines that are told in t say there what they say in s -/
theorem tells_sems {r : Row} {s t : List Ln} {f : Nat → Nat} {A : Nat → Prop} (os : Low s) (ot : Low t) (at_ : ∀ i, A i → ∃ l, s[i]? = some l ∧ t[f i]? = some (l.ren f) ∧ ∀ m ∈ l.mem, A m) {i : Nat} (hi : A i) (n : Int) : semAt r s i n ↔ semAt r t (f i) n := by
  have h := sems_like (r := r) (r' := r) (d := 0) (R := fun i j => A i ∧ f i = j) os ot (fun n w => by rw [Int.add_zero]) (fun i j hij => ?_) i (f i) ⟨hi, rfl⟩ n
  · rwa [Int.add_zero] at h
  · obtain ⟨ha, rfl⟩ := hij
    obtain ⟨l, h1, h2, h3⟩ := at_ i ha
    refine ⟨l, _, h1, h2, ?_⟩
    cases l with
    | lt w => exact rfl
    | yes => trivial
    | un a => exact ⟨h3 a (by simp [Ln.mem]), rfl⟩
    | bi o a b => exact ⟨rfl, ⟨h3 a (by simp [Ln.mem]), rfl⟩, h3 b (by simp [Ln.mem]), rfl⟩
theorem tidy_sems {r : Row} {s : List Ln} (os : Low s) (ne : s ≠ []) (n : Int) : semAt r s (s.length - 1) n ↔ semAt r (tidyL s) ((tidyL s).length - 1) n := by
  have pos := List.length_pos_iff.mpr ne
  have T := tidyL_tidy os ne
  have := tells_sems (r := r) os T.low (tidy_tells os ne).at_ ((needL_nd os (k := s.length - 1) (by omega) _).2 .refl) n
  rw [T.last] at this
  exact this
theorem tidy_truth {s : List Ln} {r : Row} (ok : SOk s) (l1 : 1 ≤ r.left.length) (r1 : 1 ≤ r.right.length) (n : Int) : truthT (tidyL s) r n ((tidyL s).length - 1) = truthT s r n (s.length - 1) := by
  have pos := List.length_pos_iff.mpr ok.ne
  have tpos := List.length_pos_iff.mpr (tidy_ok ok).ne
  exact truthT_eq (tidy_ok ok) ok l1 r1 l1 r1 (by omega) (by omega) (tidy_sems ok.low ok.ne n).symm
theorem truths_last {s : List Ln} {r : Row} (ok : SOk s) (l1 : 1 ≤ r.left.length) (r1 : 1 ≤ r.right.length) (n : Int) :
    atI ((mTab s r).found.map fun b => PyData.bool (b.getD (whereT (mTab s r) r n).toNat false)) (-1) = some (.bool (truthT s r n (s.length - 1))) := by
  have pos := List.length_pos_iff.mpr ok.ne
  rw [truths_list ok l1 r1 n]
  obtain ⟨m, em⟩ : ∃ m, s.length = m + 1 := ⟨s.length - 1, by omega⟩
  rw [em, List.range_succ, List.map_append, Nat.add_sub_cancel]
  exact atI_last _ _
theorem lad_even (vs : List Str) : ∀ (j : Nat), j < vs.length → (lad vs)[2 * (j + 1)]? = some (.bi (vs.getD j "") (2 * j) (2 * j + 1)) := by
  refine lad_ind (P := fun vs => ∀ (j : Nat), j < vs.length → (lad vs)[2 * (j + 1)]? = some (.bi (vs.getD j "") (2 * j) (2 * j + 1))) (fun j hj => by cases hj) (fun vs v ih j hj => ?_) vs
  rw [List.length_append, List.length_singleton] at hj
  rcases Nat.lt_or_ge j vs.length with c | c
  · have h1 := ih j c
    rw [lad_snoc, List.getElem?_append_left (lt_of_at h1), h1, List.getD_eq_getElem?_getD, List.getD_eq_getElem?_getD, List.getElem?_append_left c]
  · have e : j = vs.length := by omega
    subst e
    rw [lad_snoc, List.getElem?_append_right (by rw [lad_len]; omega), lad_len, show 2 * (vs.length + 1) - (2 * vs.length + 2) = 0 by omega, List.getD_eq_getElem?_getD, List.getElem?_append_right (Nat.le_refl _), Nat.sub_self]
    rfl
theorem lad_pick {ws : List Str} (h : ws.length = 29) : pickX ((lad ws).map lnD) (some 2) none (some 2) = (List.range 29).map fun j => lnD (.bi (ws.getD j "") (2 * j) (2 * j + 1)) := by
  unfold pickX
  have hl : ((lad ws).map lnD).length = 60 := by rw [List.length_map, lad_len]; omega
  rw [hl, show sliceRange (sliceBounds (some 2) none (some 2) 60).1 (sliceBounds (some 2) none (some 2) 60).2.1 (sliceBounds (some 2) none (some 2) 60).2.2 = (List.range 29).map fun j => 2 * (j + 1) by decide +kernel, List.filterMap_map]
  rw [show ((List.range 29).map fun j => lnD (.bi (ws.getD j "") (2 * j) (2 * j + 1))) = (List.range 29).filterMap fun j => some (lnD (.bi (ws.getD j "") (2 * j) (2 * j + 1))) from (congrFun List.filterMap_eq_map _).symm]
  refine fm_congr fun j hj => ?_
  show ((lad ws).map lnD)[2 * (j + 1)]? = some _
  rw [List.getElem?_map, lad_even ws j (by rw [h]; exact List.mem_range.mp hj)]
  rfl
theorem lad_words {ws : List Str} (h : ws.length = 29) : ((ws.zipIdx.map fun p => Ln.bi p.1 p.2 p.2).map fun l => PyData.str l.word) = (List.range 29).map fun j => .str (ws.getD j "") := by
  rw [List.map_map]
  refine List.ext_getElem (by simp [h]) fun i h1 h2 => ?_
  rw [List.getElem_map, List.getElem_map, List.getElem_zipIdx, List.getElem_range]
  have : i < ws.length := by simpa using h1
  show PyData.str _ = _
  rw [List.getD_eq_getElem?_getD, List.getElem?_eq_getElem this]
  rfl
/-! ### reckoned in the kernel -/
def lnB : Ln → Ln → Bool
  | .lt a, .lt b => decide (a = b)
  | .yes, .yes => true
  | .un i, .un j => decide (i = j)
  | .bi o i j, .bi p a b => decide (o = p) && decide (i = a) && decide (j = b)
  | _, _ => false
theorem lnB_iff {a b : Ln} : lnB a b = true ↔ a = b := by
  cases a <;> cases b <;> simp [lnB, and_assoc]
def eqLB : List Ln → List Ln → Bool
  | [], [] => true
  | a :: as, b :: bs => lnB a b && eqLB as bs
  | _, _ => false
theorem eqLB_eq : ∀ {a b : List Ln}, eqLB a b = true → a = b
  | [], [], _ => rfl
  | a :: as, b :: bs, h => by
    unfold eqLB at h
    rw [Bool.and_eq_true] at h
    rw [lnB_iff.mp h.1, eqLB_eq h.2]
  | [], _ :: _, h => by cases h
  | _ :: _, [], h => by cases h
def onceSB (a : List Ln × List Nat) (l : Ln) : List Ln × List Nat :=
  let l' := l.ren fun m => a.2.getD m 0
  let t' := if a.1.any (fun x => lnB x l') then a.1 else a.1 ++ [l']
  (t', a.2 ++ [t'.findIdx fun x => lnB x l'])
theorem onceSB_eq (a : List Ln × List Nat) (l : Ln) : onceSB a l = onceS a l := by
  have e : ∀ l' : Ln, (fun x => lnB x l') = fun x => x == l' := fun l' => funext fun x => by
    rw [Bool.eq_iff_iff, lnB_iff, beq_iff_eq]
  unfold onceSB onceS
  dsimp only
  rw [e]
  obtain ⟨l', el⟩ : ∃ l', l' = l.ren fun m => a.2.getD m 0 := ⟨_, rfl⟩
  rw [← el]
  have ea : (a.1.any fun x => x == l') = decide (l' ∈ a.1) := by
    rw [Bool.eq_iff_iff, List.any_eq_true, decide_eq_true_iff]
    exact ⟨fun ⟨x, h1, h2⟩ => by rw [← beq_iff_eq.mp h2]; exact h1, fun h => ⟨l', h, beq_self_eq_true _⟩⟩
  rw [ea]
  by_cases c : l' ∈ a.1
  · rw [decide_eq_true c, if_pos rfl, if_pos c]; rfl
  · rw [decide_eq_false c, if_neg Bool.false_ne_true, if_neg c]; rfl
def tidyB (s : List Ln) : List Ln := ((mPart s (mNeedL s (s.length - 1))).foldl onceSB ([], [])).1
theorem tidyB_eq (s : List Ln) : tidyB s = tidyL s := by
  unfold tidyB tidyL onceL onceG
  rw [show onceSB = onceS from funext fun a => funext fun l => onceSB_eq a l]
def some9 : List Ln := [.lt "b", .lt "a", .lt "b", .un 2, .bi "and" 0 1, .bi "and" 1 0, .bi "or" 4 3, .bi "until" 5 6]
theorem some9_tidy : tidyL some9 = [.lt "b", .lt "a", .un 0, .bi "and" 0 1, .bi "and" 1 0, .bi "or" 3 2, .bi "until" 4 5] := by rw [← tidyB_eq]; exact eqLB_eq (by decide +kernel)
theorem yes9_tidy : tidyL [.yes, .yes, .un 1, .yes] = [.yes] := by rw [← tidyB_eq]; exact eqLB_eq (by decide +kernel)
theorem and9_tidy : tidyL [.yes, .yes, .bi "and" 0 1] = [.yes, .bi "and" 0 0] := by rw [← tidyB_eq]; exact eqLB_eq (by decide +kernel)
def lowB (s : List Ln) : Bool := (List.range s.length).all fun k => (match s.getD k .yes with | .bi o _ _ => decide (o ∈ ops) | _ => true) && (s.getD k .yes).mem.all fun i => decide (i < k)
theorem lowB_low {s : List Ln} (h : lowB s = true) : Low s := fun k l hl => by
  have hk := lt_of_at hl
  have := List.all_eq_true.mp h k (List.mem_range.mpr hk)
  rw [getD_at hl, Bool.and_eq_true] at this
  refine ⟨?_, fun i hi => of_decide_eq_true (List.all_eq_true.mp this.2 i hi)⟩
  cases l with
  | bi o i j => exact (show o ∈ ops from of_decide_eq_true (show decide (o ∈ ops) = true from this.1))
  | _ => trivial
end Law

end

section
set_option maxHeartbeats 4000000
namespace Law
open PySem L2 PyProof.Rows RZ Pu
def top (i : Nat) : Stmt := PySem.Challenge.pw_splitsays_k09_whole_tidy_sheets.main.body.getD i (.Pass ⟨0, 0, 0, 0⟩)
abbrev sSource : Stmt := top 12
abbrev sPick : Stmt := top 13
abbrev s_members : Stmt := top 1
abbrev s_needed : Stmt := top 2
abbrev s_needed_by : Stmt := top 3
abbrev s_needed_by_all : Stmt := top 4
abbrev s_part : Stmt := top 5
abbrev s__told_anew : Stmt := top 6
abbrev s_tidy : Stmt := top 7
abbrev s_told_once : Stmt := top 8
abbrev s_put : Stmt := top 9
abbrev s__shifted_by : Stmt := top 10
abbrev s__law_source : Stmt := top 12
abbrev s__law_pick : Stmt := top 13
abbrev s__law_of : Stmt := top 14
abbrev s__law_mixed : Stmt := top 15
abbrev s__law_words : Stmt := top 16
abbrev s__law_lot : Stmt := top 17
abbrev s__law_row : Stmt := top 18
abbrev s__law_lot_at : Stmt := top 19
abbrev s__law_members : Stmt := top 20
abbrev s__law_nests : Stmt := top 21
abbrev s__law_going : Stmt := top 22
abbrev s__law_tables : Stmt := top 23
abbrev s__law_truths : Stmt := top 24
abbrev s__law_is_word : Stmt := top 25
abbrev s__law_drawn_sheet : Stmt := top 26
abbrev s__law_path : Stmt := top 27
abbrev s__law_needs : Stmt := top 28
abbrev s__law_builds : Stmt := top 29
abbrev s__law_firsts : Stmt := top 30
abbrev s__law_tidy_right : Stmt := top 31
abbrev s__law_true_right : Stmt := top 32
abbrev s_law : Stmt := top 33
/-- what the top has written -/
structure Blt (w : World) (K : PySem.W.Frag) (mg : Str → Option Value) : Prop where
  m_abs : mg "abs" = none
  m_bool : mg "bool" = none
  m_enumerate : mg "enumerate" = none
  m_int : mg "int" = none
  m_isinstance : mg "isinstance" = none
  m_len : mg "len" = none
  m_list : mg "list" = none
  m_max : mg "max" = none
  m_min : mg "min" = none
  m_range : mg "range" = none
  m_set : mg "set" = none
  m_sorted : mg "sorted" = none
  m_str : mg "str" = none
  m_tuple : mg "tuple" = none
  m_zip : mg "zip" = none
section
variable {P : Program} {w : World} {K : PySem.W.Frag} {mg : Str → Option Value} {base : Heap}
theorem scSource : FnScope ["script", "mixed", "cell"] ["script"] (defScope sSource) := ⟨rfl, rfl, rfl, by decide +kernel, rfl, by decide +kernel, by decide +kernel⟩
/-- the source: a new dict with its cells in a new list -/
def spSource (K : PySem.W.Frag) : Sp := fun vs H Q _ => ∃ (a : Addr) (ns : List Int), vs = [.ref a] ∧ SqL K H a (ns.map V.int) ∧ ns.length ≤ 100 ∧ ∀ H' p c, Same H H' → H p = none → H c = none → SrcAt H' p c → Q (.ref p) H'
theorem ok_source {f : Addr} {fd : FuncData} (F : Fun K "_law_source" "_law_source" sSource f fd) (T : Blt w K mg) : FnOk P w K mg base CX0 1 f fd ["script"] (spSource K) := by
  refine F.ok scSource (fun vs H Q E h => ?_) (fun cdv A outer s H vs Q E hr h => ?_)
  · obtain ⟨a, ns, rfl, _⟩ := h
    rfl
  · obtain ⟨a, ns, rfl, hS, hlen, k⟩ := h
    refine ⟨_, pss_cons (ps_set (i := 1) scSource.nd rfl (Or.inl rfl) pe_int)
      (pss_cons (ps_for PassesOwn.never rfl (pi_list (pv 0)) (pg_name (i := 2) scSource.nd rfl (Or.inl rfl))
        (pss_one (ps_set (i := 1) scSource.nd rfl (Or.inl rfl) (pe_op op_mod (pe_callTy call_int1 (by rfl) T.m_int (by decide +kernel) (pa_cons (pe_op op_add (pe_op op_add (pe_op op_mul (pv 1) pe_int) (pe_op op_mul (pv 2) pe_int)) pe_int) pa_nil)) pe_int))))
      (pss_one (ps_ret (pe_disp (pps_cons pe_str (pe_revL (pe_lc (own := [("cell", 2)]) (g := gName 2) (tt := tYes) rfl scSource.nd (pi_list (pv 0)) (blkOk_by (N := ["script", "mixed", "cell"]) (sc := defScope sSource) (by decide +kernel)) (fun _ _ _ _ _ => pg_name (i := 2) scSource.nd rfl (Or.inl rfl)) (fun _ _ _ _ _ => pts_nil)
          (fun _ _ _ _ _ => pe_callB call_abs (by rfl) T.m_abs (by decide +kernel) (pa_cons (pv 2) pa_nil))))
        (pps_cons pe_str pe_int (pps_cons pe_str (pv 1) (pps_cons pe_str pe_int pps_nil)))) (by rfl) (by rfl) (fun z => by cases z) (by decide))))), ?_⟩
    refine ⟨_, rfl, a, rfl, ⟨_, hS⟩, for_list (K := K) (a := a) (xs := ns.map V.int) (fun i σ H' => ∃ (m : Int) (v : Option V), σ = [some (.ref a), some (.int m), v] ∧ H' = H) ⟨11, none, rfl, rfl⟩ (fun i σ H' _ ⟨_, _, _, e⟩ => e ▸ hS) ?_ ?_⟩
    · rintro i y σ H' hi ⟨m, v, rfl, rfl⟩
      obtain ⟨u, rfl⟩ : ∃ u, y = V.int u := by
        rw [List.getElem?_map] at hi
        cases e : ns[i]? with
        | none => rw [e] at hi; cases hi
        | some u => rw [e] at hi; exact ⟨u, (Option.some.inj hi).symm⟩
      refine ⟨_, rfl, _, _, rfl, rfl, .inr ⟨by decide, by decide⟩, _, rfl, _, _, rfl, rfl, .inr ⟨by decide, by decide⟩, _, _, rfl, rfl, _, _, rfl, rfl, .inl ⟨_, rfl, _, _, rfl, rfl, ?_, ?_⟩⟩
      · show (0 : Int) < 2147483629
        decide
      · exact ⟨_, _, rfl, rfl⟩
    · rintro σ H' ⟨m, v, rfl, rfl⟩
      intro p hp
      have s1 : Same H' (upd H' p (.dK [])) := fun b o e => by rw [upd_ne (ne_of_none e hp)]; exact e
      refine ⟨_, rfl, a, rfl, ⟨_, s1.seq hS⟩, fun D hD => ?_⟩
      have npD : p ≠ D := fun e => by rw [← e, upd_same] at hD; cases hD
      have hD0 : H' D = none := none_back (fun o e => s1 D o e) hD
      refine lc_list (K := K) (a := a) (xs := ns.map V.int) (fun i H2 => ∃ acc : List Int, acc.length = i ∧ H2 = upd (upd H' p (.dK [])) D (.lst (acc.map V.int))) ⟨[], rfl, rfl⟩ ?_ ?_ ?_
      · rintro i H2 _ ⟨acc, _, rfl⟩
        exact Same.seq (fun b o e => by rw [upd_ne (ne_of_none e hD)]; exact e) (s1.seq hS)
      · rintro i y H2 hi ⟨acc, hl, rfl⟩
        have hi63 : i < ns.length := by
          have q := (List.getElem?_eq_some_iff.mp hi).1
          rw [List.length_map] at q
          exact q
        obtain ⟨u, rfl⟩ : ∃ u, y = V.int u := by
          rw [List.getElem?_map] at hi
          cases e : ns[i]? with
          | none => rw [e] at hi; cases hi
          | some u => rw [e] at hi; exact ⟨u, (Option.some.inj hi).symm⟩
        refine ⟨rfl, ?_⟩
        simp only [tYes, ↓reduceIte]
        refine ⟨_, rfl, u, rfl, acc.map V.int, upd_same, ?_, acc ++ [if u < 0 then -u else u], by simp [hl], ?_⟩
        · rw [List.length_map, hl]
          exact small1000 (by omega)
        · rw [upd_upd]
          simp
      · rintro H2 ⟨acc, hl, rfl⟩
        refine ⟨D, _, rfl, SqL.of upd_same, fun c hc => ?_⟩
        have npc : p ≠ c := fun e => by rw [← e, upd_ne npD, upd_same] at hc; cases hc
        have nDc : D ≠ c := fun e => by rw [← e, upd_same] at hc; cases hc
        have hc0 : H' c = none := by
          rw [upd_ne (Ne.symm nDc), upd_ne (Ne.symm npc)] at hc
          exact hc
        refine ⟨_, rfl, ?_⟩
        refine ⟨by rw [upd_ne npc, upd_ne npD, upd_same], [(Sum.inr "cells", .ref c), (Sum.inr "left", .int 1), (Sum.inr "mixed", .int m), (Sum.inr "turn", .int 0)], rfl, by show 4 ≤ 15; decide, ?_⟩
        refine k _ p c (fun b o e => ?_) hp hc0 ⟨acc.reverse, 1, m, 0, ?_, ?_⟩
        · rw [upd_ne (ne_of_none e hp), upd_ne (ne_of_none e hc0), upd_ne (ne_of_none e hD0), upd_ne (ne_of_none e hp)]
          exact e
        · rw [upd_same]
          rfl
        · rw [upd_ne (Ne.symm npc), upd_same]
          simp
theorem scPick : FnScope ["source", "many", "left", "mixed"] ["source", "many"] (defScope sPick) := ⟨rfl, rfl, rfl, by decide +kernel, rfl, by decide +kernel, by decide +kernel⟩
/-- a number below many (0 where many is less than 1) -/
def SrcIs (H : Hp) (a c : Addr) (ns : List Int) (l m t : Int) : Prop := H a = some (.dK (srcD c l m t)) ∧ H c = some (.lst (ns.map V.int))
theorem SrcIs.ne {H : Hp} {a c : Addr} {ns : List Int} {l m t : Int} (h : SrcIs H a c ns l m t) : a ≠ c := ne_of h.1 h.2 (by intro z; cases z)
theorem srcput_left {c : Addr} {l m t x : Int} : putK (srcD c l m t) (Sum.inr "left") (.int x) = srcD c x m t := rfl
theorem put_mixed {c : Addr} {l m t x : Int} : putK (srcD c l m t) (Sum.inr "mixed") (.int x) = srcD c l x t := rfl
theorem put_turn {c : Addr} {l m t x : Int} : putK (srcD c l m t) (Sum.inr "turn") (.int x) = srcD c l m x := rfl
theorem SrcIs.put {H : Hp} {a c : Addr} {ns : List Int} {l m t l' m' t' : Int} (h : SrcIs H a c ns l m t) : SrcIs (upd H a (.dK (srcD c l' m' t'))) a c ns l' m' t' := ⟨upd_same, by rw [upd_ne (Ne.symm h.ne)]; exact h.2⟩
/-- all else as it was -/
def But (a c : Addr) (H H' : Hp) : Prop := ∀ b o, b ≠ a → b ≠ c → H b = some o → H' b = some o
theorem But.put {a c : Addr} {H H' : Hp} {o : HO} (h : But a c H H') : But a c H (upd H' a o) := fun b u h1 h2 e => by rw [upd_ne h1]; exact h b u h1 h2 e
theorem small15 {n : Nat} (h : n ≤ 15) : n < sizeLine := small1000 (by omega)
theorem ok_pick {f : Addr} {fd : FuncData} (F : Fun K "_law_pick" "_law_pick" sPick f fd) (T : Blt w K mg) : FnOk P w K mg base CX0 1 f fd ["source", "many"] (spX K 2 mPick) := by
  refine F.ok scPick (fun vs H Q E h => ?_) (fun cdv A outer s H vs Q E hr h => ?_)
  · obtain ⟨hid, Hb, ss, R, st, r, hl, _⟩ := h
    rw [r.length]; exact hl
  · have hu := hu_of hr
    obtain ⟨hid, Hb, ss, R, st, r, hl, ⟨n, rfl, hn, hR⟩, k⟩ := h
    obtain ⟨v1, v2, rfl, e1, e2⟩ := rep2 r
    obtain ⟨a, c, rfl, rfl⟩ := (show ∃ a c, hid = some (a, c) ∧ v1 = .ref a from e1)
    cases int_of e2
    obtain ⟨ns, l, m, t, h1, h2⟩ := st.ok
    have nhb : ∀ b, Hid.has (some (a, c)) b → Hb b = none := st.out
    -- the end: what is asked of the value and the heap
    have fin : ∀ (x : Int) (H' : Hp) (ns' : List Int) (l' m' t' : Int), SrcIs H' a c ns' l' m' t' → But a c H H' → 0 ≤ x → x < (if n > 1 then n else 1) → Q (.int x) H' := fun x H' ns' l' m' t' hs hb h0 h1 => by
      have k1 : ∀ b o, H b = some o → ¬ Hid.has (some (a, c)) b → H' b = some o := fun b o e hb' => hb b o (fun z => hb' (.inl z)) (fun z => hb' (.inr z)) e
      refine k (.int x) Hb H' (.d (.int x)) ⟨⟨fun b o e => k1 b o (st.ex b o e) (fun z => by rw [nhb b z] at e; cases e), ⟨ns', l', m', t', hs.1, hs.2⟩, st.out⟩, Same.refl _, fun b o e q => (by rw [q] at e; cases e), k1⟩ (Dq.int x) trivial (hR x h0 h1)
    refine ⟨_, Evl.pss_cut (ps_while PassesOwn.never (PW.pt (pw_and (pt_cmpR op_gt (pv 1) pe_int (nomark _)) (pw_and (pt_cmpR op_lt (pe_dget hu (pv 0) pe_str (fun _ _ => rfl)) pe_int (nomark _))
          (pw_and1 (pt_cmpR op_gt (pe_callB call_len_seq (by rfl) T.m_len PySem.boot_len (pa_cons (pe_dget hu (pv 0) pe_str (fun _ _ => rfl)) pa_nil)) pe_int (nomark _))))))
        (pss_one (ps_dput hu (pv 0) pe_str (pe_bm0 PySem.F.plainAttrs_list PySem.F.slot_list_pop PySem.F.type_list_pop mt_pop (pe_dget hu (pv 0) pe_str (fun _ _ => rfl))) rfl)))
      (pss_cons (ps_set (i := 2) scPick.nd rfl (Or.inl rfl) (pe_dget hu (pv 0) pe_str (fun _ _ => rfl)))
      (pss_cons (ps_if (PW.pt (pw_or (pt_cmpR op_lt (pv 1) pe_int (nomark _)) (pw_or1 (pt_cmpR op_gt (pv 2) pe_int (nomark _)))))
        (pss_cons (ps_dput hu (pv 0) pe_str (pe_op op_fdiv (pv 2) (pe_callB (call_max2 rfl) (by rfl) T.m_max (by decide +kernel) (pa_cons pe_int (pa_cons (pv 1) pa_nil)))) rfl)
        (pss_one (ps_ret (pe_op op_mod (pe_callTy call_int1 (by rfl) T.m_int (by decide +kernel) (pa_cons (pv 2) pa_nil)) (pe_callB (call_max2 rfl) (by rfl) T.m_max (by decide +kernel) (pa_cons pe_int (pa_cons (pv 1) pa_nil)))))))
        pss_nil)
      (pss_cons (ps_dput hu (pv 0) pe_str (pe_op op_add (pe_dget hu (pv 0) pe_str (fun _ _ => rfl)) pe_int) rfl)
      (pss_cons (ps_set (i := 3) scPick.nd rfl (Or.inl rfl) (pe_op op_mod (pe_callTy call_int1 (by rfl) T.m_int (by decide +kernel) (pa_cons (pe_op op_add (pe_dget hu (pv 0) pe_str (fun _ _ => rfl)) (pe_op op_mul (pe_dget hu (pv 0) pe_str (fun _ _ => rfl)) pe_int)) pa_nil)) pe_int))
      (pss_cons (ps_set (i := 3) scPick.nd rfl (Or.inl rfl) (pe_op op_mod (pe_callTy call_int1 (by rfl) T.m_int (by decide +kernel) (pa_cons (pe_op op_add (pe_op op_mul (pv 3) (pv 3)) (pe_op op_mul (pe_dget hu (pv 0) pe_str (fun _ _ => rfl)) pe_int)) pa_nil)) pe_int))
      (pss_cons (ps_dput hu (pv 0) pe_str (pv 3) rfl)
      (pss_one (ps_ret (pe_op op_mod (pe_callTy call_int1 (by rfl) T.m_int (by decide +kernel) (pa_cons (pe_op op_fdiv (pv 3) pe_int) pa_nil)) (pv 1)))))))))), ?_⟩
    refine ⟨fun σ H' => ∃ (ns' : List Int) (l' m' t' : Int), σ = [some (.ref a), some (.int n), none, none] ∧ SrcIs H' a c ns' l' m' t' ∧ But a c H H', ?_, ?_⟩
    · -- the while: the cells fall
      refine ⟨fun z σ H' => ∃ (ns' : List Int) (l' m' t' : Int), z = ns'.length ∧ σ = [some (.ref a), some (.int n), none, none] ∧ SrcIs H' a c ns' l' m' t' ∧ But a c H H', ⟨_, ns, l, m, t, rfl, rfl, ⟨h1, h2⟩, fun _ _ _ _ e => e⟩, ?_⟩
      rintro z σ H' ⟨ns', l', m', t', rfl, rfl, hs, hb⟩
      refine ⟨_, rfl, _, _, rfl, rfl, _, rfl, ?_⟩
      refine ite2 (fun _ => ?_) (fun _ => ⟨ns', l', m', t', rfl, hs, hb⟩)
      refine ⟨_, rfl, a, _, rfl, DGet.k (k := Sum.inr "left") hs.1, _, _, rfl, rfl, _, rfl, ?_⟩
      refine ite2 (fun _ => ?_) (fun _ => ⟨ns', l', m', t', rfl, hs, hb⟩)
      refine ⟨_, rfl, a, _, rfl, DGet.k (k := Sum.inr "cells") hs.1, c, _, rfl, .inl (SqL.of hs.2), _, _, rfl, rfl, _, rfl, ?_⟩
      rw [List.length_map]
      refine ite2 (fun hlen => ?_) (fun _ => ⟨ns', l', m', t', rfl, hs, hb⟩)
      have hpos : 0 < ns'.length := by
        have := of_decide_eq_true hlen
        omega
      refine ⟨fun σ2 H2 => ∃ (ns2 : List Int) (l2 m2 t2 : Int), ns2.length < ns'.length ∧ σ2 = [some (.ref a), some (.int n), none, none] ∧ SrcIs H2 a c ns2 l2 m2 t2 ∧ But a c H H2, fun σ2 H2 ⟨ns2, l2, m2, t2, q1, q2, q3, q4⟩ => ⟨_, q1, ns2, l2, m2, t2, rfl, q2, q3, q4⟩, ?_⟩
      have hlast : (ns'.map V.int)[(ns'.map V.int).length - 1]? = some (.int (ns'.getLast (List.ne_nil_of_length_pos hpos))) := by
        rw [List.length_map, List.getElem?_map, ← List.getLast?_eq_getElem?, List.getLast?_eq_some_getLast (List.ne_nil_of_length_pos hpos)]
        rfl
      refine ⟨_, rfl, a, _, rfl, DGet.k (k := Sum.inr "cells") hs.1, .inl ⟨rfl, _, SqL.of hs.2⟩, c, _, _, rfl, rfl, hs.2, hlast, ?_⟩
      have nac := hs.ne
      refine ⟨_, rfl, a, _, rfl, DPut.k (k := Sum.inr "left") (kvs := srcD c l' m' t') (by rw [upd_ne nac]; exact hs.1) (small15 (by show 4 ≤ 15; decide)), ?_⟩
      refine ⟨ns'.dropLast, _, m', t', by rw [List.length_dropLast]; omega, rfl, ⟨by rw [srcput_left]; exact upd_same, by rw [upd_ne (Ne.symm nac), upd_same, List.map_dropLast]⟩, fun b o g1 g2 e => ?_⟩
      rw [upd_ne g1, upd_ne g2]
      exact hb b o g1 g2 e
    · rintro σ H' ⟨ns', l', m', t', rfl, hs, hb⟩
      -- left = source['left']
      refine ⟨_, rfl, a, _, rfl, DGet.k (k := Sum.inr "left") hs.1, ?_⟩
      have way : 0 < (if n > 1 then n else 1 : Int) ∧ (if n > 1 then n else 1 : Int) < 1073741824 := by split <;> omega
      have out : ∀ (H1 : Hp), H1 = H' → tSeq (sDPut (tVar 0) (tC (.str "left")) (tOp (rI CDiv fun i j => .int (i / j)) (tVar 2) (tCB (fun xs H Q => ∃ i j, xs = [.int i, .int j] ∧ Q (.int (if j > i then j else i)) H) (tCons (tC (.int 1)) (tCons (tVar 1) tNil)))))
          (tRet (tOp (rI (fun _ j => 0 < j) fun i j => .int (i % j)) (tCB (fun xs H Q => (∃ i, xs = [.int i] ∧ Q (.int i) H) ∨ ∃ k, xs = [.bl k] ∧ Q (.int (if k then 1 else 0)) H) (tCons (tVar 2) tNil)) (tCB (fun xs H Q => ∃ i j, xs = [.int i, .int j] ∧ Q (.int (if j > i then j else i)) H) (tCons (tC (.int 1)) (tCons (tVar 1) tNil)))))
          { nx := fun _ _ => False, rt := Q } [some (.ref a), some (.int n), some (.int l'), none] H1 := by
        rintro H1 rfl
        refine ⟨_, rfl, _, rfl, _, _, rfl, _, _, rfl, rfl, way, _, rfl, a, _, rfl, DPut.k (k := Sum.inr "left") hs.1 (small15 (by show 4 ≤ 15; decide)), ?_⟩
        refine ⟨_, rfl, .inl ⟨_, rfl, _, rfl, _, _, rfl, _, _, rfl, rfl, way.1, ?_⟩⟩
        rw [srcput_left]
        exact fin _ _ ns' _ m' t' hs.put hb.put (Int.emod_nonneg _ (by omega)) (Int.emod_lt_of_pos _ way.1)
      -- if many < 2 or left > 1
      refine ⟨_, rfl, _, _, rfl, rfl, _, rfl, ?_⟩
      refine ite2 (fun _ => ?_) (fun hn2 => ?_)
      · exact out H' rfl
      · refine ⟨_, rfl, _, _, rfl, rfl, _, rfl, ?_⟩
        refine ite2 (fun _ => ?_) (fun _ => ?_)
        · exact out H' rfl
        · have hn2' : 2 ≤ n := by
            have : ¬ n < 2 := fun z => hn2 (decide_eq_true z)
            omega
          -- source['turn'] = source['turn'] + 1
          refine ⟨_, rfl, a, _, rfl, DGet.k (k := Sum.inr "turn") hs.1, _, _, rfl, rfl, _, rfl, a, _, rfl, DPut.k (k := Sum.inr "turn") hs.1 (small15 (by show 4 ≤ 15; decide)), ?_⟩
          rw [put_turn]
          have hs1 : SrcIs (upd H' a (.dK (srcD c l' m' (t' + 1)))) a c ns' l' m' (t' + 1) := hs.put
          have hb1 : But a c H (upd H' a (.dK (srcD c l' m' (t' + 1)))) := hb.put
          refine ⟨_, rfl, a, _, rfl, DGet.k (k := Sum.inr "mixed") hs1.1, _, rfl, a, _, rfl, DGet.k (k := Sum.inr "turn") hs1.1, _, _, rfl, rfl, .inr ⟨by decide, by decide⟩, _, _, rfl, rfl, .inl ⟨_, rfl, _, _, rfl, rfl, ?_, ?_⟩⟩
          · show (0 : Int) < 998244353
            decide
          have p1 := Int.emod_nonneg (m' + (t' + 1) * 104729) (show (998244353 : Int) ≠ 0 by decide)
          have p2 := Int.emod_lt_of_pos (m' + (t' + 1) * 104729) (show (0 : Int) < 998244353 by decide)
          refine ⟨_, rfl, _, rfl, _, _, rfl, rfl, .inl ⟨by omega, by omega⟩, _, rfl, a, _, rfl, DGet.k (k := Sum.inr "turn") hs1.1, _, _, rfl, rfl, .inr ⟨by decide, by decide⟩, _, _, rfl, rfl, .inl ⟨_, rfl, _, _, rfl, rfl, ?_, ?_⟩⟩
          · show (0 : Int) < 2147483647
            decide
          refine ⟨_, rfl, _, rfl, a, _, rfl, DPut.k (k := Sum.inr "mixed") hs1.1 (small15 (by show 4 ≤ 15; decide)), ?_⟩
          rw [put_mixed]
          refine ⟨_, rfl, _, _, rfl, rfl, ⟨by decide, by decide⟩, .inl ⟨_, rfl, _, rfl, _, _, rfl, rfl, by omega, ?_⟩⟩
          exact fin _ _ ns' l' _ _ hs1.put hb1.put (Int.emod_nonneg _ (by omega)) (by rw [if_pos (by omega)]; exact Int.emod_lt_of_pos _ (by omega))

theorem sc_mixed : FnScope ["source", "things", "rest", "lap"] ["source", "things"] (defScope s__law_mixed) := ⟨rfl, rfl, rfl, by decide +kernel, rfl, by decide +kernel, by decide +kernel⟩
theorem DqAll.eraseIdx {H : Hp} : ∀ {ds : List PyData} {vs : List V} (n : Nat), DqAll K H vs ds → DqAll K H (vs.eraseIdx n) (ds.eraseIdx n)
  | _, _, _, .nil => .nil
  | _, _, 0, .cons _ t => t
  | _, _, n + 1, .cons h t => .cons h (DqAll.eraseIdx n t)
theorem small1000000 {n : Nat} (h : n ≤ 1000000) : n < sizeLine := by rw [sizeLine_eq]; omega
theorem perm_pop {α : Type} {as rs : List α} {k : Nat} {y : α} (h : rs[k]? = some y) : ((as ++ [y]) ++ rs.eraseIdx k).Perm (as ++ rs) := by
  rw [List.append_assoc]
  exact List.Perm.append_left as (erase_perm rs k y h)
theorem fn_mixed (A : At K mg "_law_mixed" s__law_mixed ["source", "things"]) (T : Blt w K mg) (G_pick : Fn P w K mg base "_law_pick" 1 ["source", "many"] (spX K 2 mPick)) : Fn P w K mg base "_law_mixed" 2 ["source", "things"] (spX K 2 mMixed) := by
  obtain ⟨gf, gfd, gm, gk, gb, GP⟩ := G_pick.ex
  refine .mk' A fun f fd Fu => goes_of0 Fu sc_mixed (fun vs H Q E h => ?_) (fun cdv B above s H vs Q E hr hsp => ?_)
  · obtain ⟨hid, Hb, ss, R, st, r, hl, _⟩ := h
    rw [r.length]; exact hl
  · obtain ⟨hid, Hb, ss, R, st, r, hl, ⟨xs, rfl, hx, hm⟩, c⟩ := hsp
    refine ⟨_, pss_cons (ps_set (i := 2) sc_mixed.nd rfl (by first | exact Or.inl rfl | exact Or.inr rfl) (pe_callTy (k_list (K := K) rfl) (by rfl) T.m_list (by decide +kernel) (pa_cons (pe_var (i := 1) rfl (by first | exact Or.inl rfl | exact Or.inr (Or.inl rfl)) (by decide) (by decide)) pa_nil)))
      (pss_one (ps_ret (pe_lc (own := [("lap", 3)]) (g := gName 3) (tt := tYes) (te := tBM K "list" rPopAt (tVar 2) (tCons (tFn (spX K 2 mPick) (tCons (tVar 0) (tCons (tCB (fun xs H Q => ∃ x n, xs = [x] ∧ LenV K x H n ∧ Q (.int n) H) (tCons (tVar 2) tNil)) tNil))) tNil)) rfl sc_mixed.nd
        (pi_range1 (by rfl) T.m_range (pa_cons (pe_callB (k_len (K := K) rfl) (by rfl) T.m_len (by decide +kernel) (pa_cons (pe_var (i := 2) rfl (by first | exact Or.inl rfl | exact Or.inr (Or.inl rfl)) (by decide) (by decide)) pa_nil)) pa_nil))
        (blkOk_by (N := ["source", "things", "rest", "lap"]) (sc := defScope s__law_mixed) (by decide +kernel)) (fun _ _ _ _ _ => pg_name (i := 3) sc_mixed.nd rfl (by first | exact Or.inl rfl | exact Or.inr rfl)) (fun _ _ _ _ _ => pts_nil)
        (fun _ _ _ _ _ => pe_bm PySem.F.plainAttrs_list PySem.F.slot_list_pop PySem.F.type_list_pop mt_popAt (pe_var (i := 2) rfl (by first | exact Or.inl rfl | exact Or.inr (Or.inl rfl) | exact Or.inr (Or.inr rfl)) (by decide) (by decide))
          (pa_cons (pe_callG GP (hr.mono (by decide)) (by rfl) gm gk gb pass0 (pa_cons (pe_var (i := 0) rfl (by first | exact Or.inl rfl | exact Or.inr (Or.inl rfl) | exact Or.inr (Or.inr rfl)) (by decide) (by decide)) (pa_cons (pe_callB (k_len (K := K) rfl) (by rfl) T.m_len (by decide +kernel) (pa_cons (pe_var (i := 2) rfl (by first | exact Or.inl rfl | exact Or.inr (Or.inl rfl) | exact Or.inr (Or.inr rfl)) (by decide) (by decide)) pa_nil)) pa_nil))) pa_nil))))), ?_⟩
    cases r with
    | @cons v0 vs0 s0 ss0 r0 e0 r1 =>
    obtain ⟨v1, rfl, rT⟩ := rep1 r1
    obtain ⟨sa, sc', ehid, rfl⟩ := (show RepSl K hid Hb H v0 .src from r0)
    cases (show Dq K Hb v1 (.list xs) from rT) with
    | @lst th vs _ h1 h2 =>
    have hlen := DqAll.length h2
    refine ⟨.ref th, rfl, th, vs, rfl, .inl (SqL.of (st.ex _ _ h1)), fun l hl0 => ?_⟩
    have nl : ¬ hid.has l := fun z => by obtain ⟨o, e⟩ := st.ok.there z; rw [hl0] at e; cases e
    have bl : Hb l = none := none_back (fun o e => st.ex l o e) hl0
    have s1 : Step hid Hb H Hb (upd H l (.lst vs)) := Step.raw st hl0
    refine ⟨.ref l, rfl, .ref l, vs.length, rfl, .inl ⟨_, SqL.of upd_same, rfl⟩, (vs.length : Int), rfl, by omega, by omega, fun D hD => ?_⟩
    have ne : l ≠ D := fun z => by rw [← z, upd_same] at hD; cases hD
    have hD0 : H D = none := by rw [upd_ne (Ne.symm ne)] at hD; exact hD
    have nD : ¬ hid.has D := fun z => by obtain ⟨o, e⟩ := st.ok.there z; rw [hD0] at e; cases e
    have bD : Hb D = none := none_back (fun o e => st.ex D o e) hD0
    have wr : ∀ {Hb' H' : Hp} (a : Addr) (o : HO), Step hid Hb H Hb' H' → H a = none → Hb' a = none → ¬ hid.has a → Step hid Hb H Hb' (upd H' a o) := fun {Hb' H'} a o z h0 hb hn =>
      ⟨⟨fun b u e => by rw [upd_ne (fun q : b = a => by rw [q, hb] at e; cases e)]; exact z.st.ex b u e, z.st.ok.keeps fun b u hb' e => by rw [upd_ne (fun q : b = a => hn (q ▸ hb'))]; exact e, z.st.out⟩, z.ex, z.new,
        fun b u e hb' => by rw [upd_ne (ne_of_none e h0)]; exact z.keep b u e hb'⟩
    refine lc_range (fun i H' => ∃ Hb' rest acc rs as, Step hid Hb H Hb' H' ∧ H' l = some (.lst rest) ∧ H' D = some (.lst acc) ∧ Hb' l = none ∧ Hb' D = none ∧ DqAll K Hb' rest rs ∧ DqAll K Hb' acc as ∧ (as ++ rs).Perm xs ∧ as.length = i)
      ⟨Hb, vs, [], xs, [], wr D _ s1 hD0 bD nD, by rw [upd_ne ne]; exact upd_same, upd_same, bl, bD, h2, .nil, List.Perm.refl _, rfl⟩ ?_ ?_
    · rintro i H' hi ⟨Hb', rest, acc, rs, as, z, gl, gD, bl', bD', q1, q2, pm, hal⟩
      refine ⟨rfl, ?_⟩
      show tBM K "list" rPopAt (tVar 2) _ _ H' _
      have lr := DqAll.length q1
      have la := DqAll.length q2
      have lp := pm.length_eq
      rw [List.length_append] at lp
      refine ⟨.ref l, rfl, .inl ⟨rfl, _, SqL.of gl⟩, .ref sa, rfl, .ref l, rfl, _, rest.length, rfl, .inl ⟨_, SqL.of gl, rfl⟩, hid, Hb', [.src, .d (.int rest.length)], (fun u => ∃ k : Int, u = .d (.int k) ∧ 0 ≤ k ∧ k < rest.length), z.st, .cons ⟨sa, sc', ehid, rfl⟩ rfl (.cons (Dq.int _) rfl .nil), rfl, ⟨rest.length, rfl, by omega, fun k k0 k1 => ⟨k, rfl, k0, ?_⟩⟩, ?_⟩
      · have hpos : 0 < rest.length := by omega
        split at k1 <;> omega
      · rintro v Hb2 H2 u z2 ru fu ⟨k, rfl, k0, k1⟩
        obtain rfl := int_of ru
        have gl2 : H2 l = some (.lst rest) := z2.keep l _ gl nl
        have gD2 : H2 D = some (.lst acc) := z2.keep D _ gD nD
        have keepN : ∀ a o, H' a = some o → Hb' a = none → Hb2 a = none := fun a o e1 e2 => by
          cases q : Hb2 a with
          | none => rfl
          | some u => have := z2.new a u q e2; rw [e1] at this; cases this
        have hk : k.toNat < rest.length := by omega
        obtain ⟨y, hy⟩ : ∃ y, rest[k.toNat]? = some y := ⟨_, List.getElem?_eq_getElem hk⟩
        obtain ⟨d, hd, qd⟩ := DqAll.get (DqAll.mono z2.ex q1) hy
        refine ⟨l, rest, k, k.toNat, y, rfl, rfl, gl2, by omega, by omega, ?_, hy, ?_⟩
        · unfold seqIndex?
          first | (simp; omega) | (split <;> simp <;> omega)
        · have gD3 : (upd H2 l (.lst (rest.eraseIdx k.toNat))) D = some (.lst acc) := by rw [upd_ne (Ne.symm ne)]; exact gD2
          refine ⟨acc, gD3, by rw [la]; exact small1000000 (by omega), Hb2, rest.eraseIdx k.toNat, acc ++ [y], rs.eraseIdx k.toNat, as ++ [d], ?_, ?_, upd_same, keepN l _ gl bl', keepN D _ gD bD', ?_, DqAll.append (DqAll.mono z2.ex q2) (.cons qd .nil), (perm_pop hd).trans pm, by simp [hal]⟩
          · exact wr D _ (wr l _ (z.trans z2) hl0 (keepN l _ gl bl') nl) hD0 (keepN D _ gD bD') nD
          · rw [upd_ne ne]; exact upd_same
          · exact DqAll.eraseIdx _ (DqAll.mono z2.ex q1)
    · rintro H' ⟨Hb', rest, acc, rs, as, z, gl, gD, bl', bD', q1, q2, pm, hal⟩
      have lp := pm.length_eq
      rw [List.length_append] at lp
      have e0 : rs = [] := List.eq_nil_of_length_eq_zero (by omega)
      subst e0
      rw [List.append_nil] at pm
      exact c (.ref D) Hb' H' (.own as) z ⟨D, acc, rfl, gD, q2, bD', nD⟩ (fun p e => by cases e; exact hD0) (hm as pm)
theorem sc_members : FnScope ["line"] ["line"] (defScope s_members) := ⟨rfl, rfl, rfl, by decide +kernel, rfl, by decide +kernel, by decide +kernel⟩
theorem fn_members (A : At K mg "members" s_members ["line"]) (T : Blt w K mg) : Fn P w K mg base "members" 1 ["line"] (spX K 1 m_members) := by
  refine fnD (k := 0) (m := m_members) A sc_members (fun G f cdv A outer s H E hr ss R hl hm => ?_)
  refine ⟨_, _, (dss_one (ds_ret (de_ifE (dt_cmp op_eq (fun _ => lo_eqS) (de_ix (k_ix (K := K) rfl) (fun _ => lo_ix) (de_v 0) de_int) de_str) (de_tup da_nil) (de_slice (k_slT (K := K) rfl) (fun _ => ls_tup) (de_v 0) (do_some de_int) do_none)))), ?_⟩
  obtain ⟨l, rfl, hW, hR⟩ := hm
  rcases ln_split l hW with ⟨w, rfl⟩ | N
  · refine ⟨.str "letter", ix_0, eqS_yes ?_⟩
    exact ⟨[], rfl, s16 (by decide), hR⟩
  rw [N.d]
  refine ⟨_, ix_0, eqS_no N.ne ?_⟩
  refine ⟨1, rfl, ?_⟩
  show fSlT (.d (.tuple (.str l.word :: l.mem.map fun (i : Nat) => PyData.int i))) (some 1) none _
  refine slT_pass ?_
  rw [cut_tail]
  exact hR

theorem sc__told_anew : FnScope ["line", "places", "member"] ["line", "places"] (defScope s__told_anew) := ⟨rfl, rfl, rfl, by decide +kernel, rfl, by decide +kernel, by decide +kernel⟩
theorem fn__told_anew (A : At K mg "_told_anew" s__told_anew ["line", "places"]) (T : Blt w K mg) : Fn P w K mg base "_told_anew" 1 ["line", "places"] (spX K 2 m__told_anew) := by
  refine fnD (k := 0) (m := m__told_anew) A sc__told_anew (fun G f cdv A outer s H E hr ss R hl hm => ?_)
  refine ⟨_, _, (dss_cons (ds_if (dt_cmp op_eq (fun _ => lo_eqS) (de_ix (k_ix (K := K) rfl) (fun _ => lo_ix) (de_v 0) de_int) de_str) (dss_one (ds_ret (de_v 0))) dss_nil)
      (dss_one (ds_ret (de_op (k_catT (K := K) rfl) (fun _ => lo_catT) (de_tup (da_cons (de_ix (k_ix (K := K) rfl) (fun _ => lo_ix) (de_v 0) de_int) da_nil)) (de_callTy (k_tuple (K := K) rfl) (fun _ => lc_tuple) T.m_tuple (da_cons (de_lc (own := [("member", 2)]) sc__told_anew.nd (ki_tup (K := K) rfl (de_slice (k_slT (K := K) rfl) (fun _ => ls_tup) (de_v 0) (do_some de_int) do_none)) (blkOk_by (N := ["line", "places", "member"]) (sc := defScope s__told_anew) (by decide +kernel)) (fun _ _ _ _ _ => by exact (dg_name 2 (by decide) sc__told_anew.nd)) (fun _ _ _ _ _ => by exact dp_nil) (fun _ _ _ _ _ => by exact (de_dgetK hr.units (de_v 1) (de_v 2)))) da_nil)))))), ?_⟩
  obtain ⟨l, ds, f, rfl, hW, hf, hR⟩ := hm
  rcases ln_split l hW with ⟨w, rfl⟩ | N
  · exact ⟨.str "letter", ix_0, eqS_yes hR⟩
  rw [ren_d N.ne] at hR
  rw [N.d]
  have ml := mem_len l
  refine ⟨_, ix_0, eqS_no N.ne ?_⟩
  refine ⟨_, ix_0, _, rfl, s16 (by show 1 ≤ 16777216; omega), 1, rfl, _, rfl, ?_⟩
  rw [cut_tail]
  refine ⟨by rw [List.length_map]; exact s16 (by omega), ?_⟩
  refine lc_mapT (fun (i : Nat) => PyData.int i) (fun i => .int (f i : Nat)) (l := l.mem) (fun i hi k hk => ?_) ?_
  · exact ⟨ds, rfl, .inl i, _, rfl, hf i hi, hk _ rfl⟩
  refine ⟨s16 (by show 1 + (List.map _ _).length ≤ _; rw [List.length_map]; omega), ?_⟩
  exact hR

theorem sc__shifted_by : FnScope ["line", "many", "member"] ["line", "many"] (defScope s__shifted_by) := ⟨rfl, rfl, rfl, by decide +kernel, rfl, by decide +kernel, by decide +kernel⟩
theorem fn__shifted_by (A : At K mg "_shifted_by" s__shifted_by ["line", "many"]) (T : Blt w K mg) : Fn P w K mg base "_shifted_by" 1 ["line", "many"] (spX K 2 m__shifted_by) := by
  refine fnD (k := 0) (m := m__shifted_by) A sc__shifted_by (fun G f cdv A outer s H E hr ss R hl hm => ?_)
  refine ⟨_, _, (dss_cons (ds_if (dt_cmp op_eq (fun _ => lo_eqS) (de_ix (k_ix (K := K) rfl) (fun _ => lo_ix) (de_v 0) de_int) de_str) (dss_one (ds_ret (de_v 0))) dss_nil)
      (dss_one (ds_ret (de_op (k_catT (K := K) rfl) (fun _ => lo_catT) (de_tup (da_cons (de_ix (k_ix (K := K) rfl) (fun _ => lo_ix) (de_v 0) de_int) da_nil)) (de_callTy (k_tuple (K := K) rfl) (fun _ => lc_tuple) T.m_tuple (da_cons (de_lc (own := [("member", 2)]) sc__shifted_by.nd (ki_tup (K := K) rfl (de_slice (k_slT (K := K) rfl) (fun _ => ls_tup) (de_v 0) (do_some de_int) do_none)) (blkOk_by (N := ["line", "many", "member"]) (sc := defScope s__shifted_by) (by decide +kernel)) (fun _ _ _ _ _ => by exact (dg_name 2 (by decide) sc__shifted_by.nd)) (fun _ _ _ _ _ => by exact dp_nil) (fun _ _ _ _ _ => by exact (de_op op_add (fun _ => lo_add) (de_v 2) (de_v 1)))) da_nil)))))), ?_⟩
  obtain ⟨l, n, rfl, hW, hR⟩ := hm
  rcases ln_split l hW with ⟨w, rfl⟩ | N
  · exact ⟨.str "letter", ix_0, eqS_yes hR⟩
  rw [N.sh n] at hR
  rw [N.d]
  have ml := mem_len l
  refine ⟨_, ix_0, eqS_no N.ne ?_⟩
  refine ⟨_, ix_0, _, rfl, s16 (by show 1 ≤ 16777216; omega), 1, rfl, _, rfl, ?_⟩
  rw [cut_tail]
  refine ⟨by rw [List.length_map]; exact s16 (by omega), ?_⟩
  refine lc_map (fun y => .int (unInt y + n)) (fun y hy k hk => ?_) ?_
  · obtain ⟨i, _, rfl⟩ := List.mem_map.mp hy
    exact hk _ rfl
  rw [List.map_map]
  refine ⟨s16 (by show 1 + (List.map _ _).length ≤ _; rw [List.length_map]; omega), ?_⟩
  exact hR

theorem sc__law_lot_at : FnScope ["row", "moment", "k", "first", "left", "middle", "right"] ["row", "moment"] (defScope s__law_lot_at) := ⟨rfl, rfl, rfl, by decide +kernel, rfl, by decide +kernel, by decide +kernel⟩
theorem fn__law_lot_at (A : At K mg "_law_lot_at" s__law_lot_at ["row", "moment"]) (T : Blt w K mg) : Fn P w K mg base "_law_lot_at" 1 ["row", "moment"] (spX K 2 m__law_lot_at) := by
  refine fnD (k := 0) (m := m__law_lot_at) A sc__law_lot_at (fun G f cdv A outer s H E hr ss R hl hm => ?_)
  refine ⟨_, _, (dss_cons (ds_asg (js := [3, 4, 5, 6]) (de_v 0) (by exact (kg_tup (K := K) (n := 4) rfl rfl (dgs_cons (dg_name 3 (by decide) sc__law_lot_at.nd) (dgs_cons (dg_name 4 (by decide) sc__law_lot_at.nd) (dgs_cons (dg_name 5 (by decide) sc__law_lot_at.nd) (dgs_cons (dg_name 6 (by decide) sc__law_lot_at.nd) dgs_nil)))))))
      (dss_cons (ds_set 2 sc__law_lot_at.nd (de_op op_sub (fun _ => lo_sub) (de_v 1) (de_v 3)))
      (dss_cons (ds_if (dt_cmp op_lt (fun _ => lo_lt) (de_v 2) de_int) (dss_one (ds_ret (de_ix (k_ix (K := K) rfl) (fun _ => lo_ix) (de_v 4) (de_op op_mod (fun _ => lo_mod) (de_callTy call_int1 (fun _ => lc_intA) T.m_int (da_cons (de_v 2) da_nil)) (de_callB (k_len (K := K) rfl) (fun _ => lc_len) T.m_len (da_cons (de_v 4) da_nil)))))) dss_nil)
      (dss_one (ds_ret (de_ifE (dt_cmp op_lt (fun _ => lo_lt) (de_v 2) (de_callB (k_len (K := K) rfl) (fun _ => lc_len) T.m_len (da_cons (de_v 5) da_nil))) (de_ix (k_ix (K := K) rfl) (fun _ => lo_ix) (de_v 5) (de_v 2)) (de_ix (k_ix (K := K) rfl) (fun _ => lo_ix) (de_v 6) (de_op op_mod (fun _ => lo_mod) (de_callTy call_int1 (fun _ => lc_intA) T.m_int (da_cons (de_op op_sub (fun _ => lo_sub) (de_v 2) (de_callB (k_len (K := K) rfl) (fun _ => lc_len) T.m_len (da_cons (de_v 5) da_nil))) da_nil)) (de_callB (k_len (K := K) rfl) (fun _ => lc_len) T.m_len (da_cons (de_v 6) da_nil)))))))))), ?_⟩
  obtain ⟨r, k, rfl, ⟨h1, h2⟩, hR⟩ := hm
  unfold lotAt at hR
  have l1 : 0 < (r.left.length : Int) := by have := List.length_pos_iff.mpr h1; omega
  have l2 : 0 < (r.right.length : Int) := by have := List.length_pos_iff.mpr h2; omega
  refine ⟨_, rfl, rfl, _, _, rfl, _, _, rfl, _, _, rfl, _, _, rfl, rfl, _, rfl, ?_⟩
  refine ite2 (fun c => ?_) (fun c => ?_)
  · rw [if_pos (of_decide_eq_true c)] at hR
    refine ⟨by show 0 < ((r.left.map lotD).length : Int); rw [List.length_map]; exact l1, _, ?_, hR⟩
    show atI (r.left.map lotD) ((k - r.first) % ((r.left.map lotD).length : Int)) = _
    rw [List.length_map]
    exact at_lots (Int.emod_nonneg _ (by omega)) (Int.emod_lt_of_pos _ l1)
  · have c : ¬ k - r.first < 0 := fun z => c (decide_eq_true z)
    rw [if_neg c] at hR
    refine ⟨_, rfl, ?_⟩
    refine ite2 (fun c2 => ?_) (fun c2 => ?_)
    · have c2 : k - r.first < ((r.mid.map lotD).length : Int) := of_decide_eq_true c2
      rw [List.length_map] at c2
      rw [if_pos c2] at hR
      exact ⟨_, at_lots (by omega) c2, hR⟩
    · have c2 : ¬ k - r.first < ((r.mid.map lotD).length : Int) := fun z => c2 (decide_eq_true z)
      rw [List.length_map] at c2
      rw [if_neg c2] at hR
      refine ⟨by show 0 < ((r.right.map lotD).length : Int); rw [List.length_map]; exact l2, _, ?_, hR⟩
      show atI (r.right.map lotD) ((k - r.first - ((r.mid.map lotD).length : Int)) % ((r.right.map lotD).length : Int)) = _
      rw [List.length_map, List.length_map]
      exact at_lots (Int.emod_nonneg _ (by omega)) (Int.emod_lt_of_pos _ l2)

theorem sc__law_members : FnScope ["line"] ["line"] (defScope s__law_members) := ⟨rfl, rfl, rfl, by decide +kernel, rfl, by decide +kernel, by decide +kernel⟩
theorem fn__law_members (A : At K mg "_law_members" s__law_members ["line"]) (T : Blt w K mg) : Fn P w K mg base "_law_members" 1 ["line"] (spX K 1 m__law_members) := by
  refine fnD (k := 0) (m := m__law_members) A sc__law_members (fun G f cdv A outer s H E hr ss R hl hm => ?_)
  refine ⟨_, _, (dss_one (ds_ret (de_ifE (dt_cmp (k_in (K := K) rfl) (fun _ => lo_in false) (de_ix (k_ix (K := K) rfl) (fun _ => lo_ix) (de_v 0) de_int) (de_tup (da_cons de_str (da_cons de_str da_nil)))) (de_lst da_nil) (de_callTy (k_list (K := K) rfl) (fun _ => lc_list) T.m_list (da_cons (de_slice (k_slT (K := K) rfl) (fun _ => ls_tup) (de_v 0) (do_some de_int) do_none) da_nil))))), ?_⟩
  obtain ⟨l, rfl, hW, hR⟩ := hm
  rcases ln_split l hW with ⟨w, rfl⟩ | N
  · refine ⟨.str "letter", ix_0, _, rfl, s16 (by decide), inT_yes (zs := ["letter", "yes"]) (by decide +kernel) ?_⟩
    exact ⟨[], rfl, s16 (by decide), hR⟩
  by_cases c : l.word = "yes"
  · have e : l = .yes := by
      cases l with
      | yes => rfl
      | lt w => exact absurd c (by show ("letter" : Str) ≠ "yes"; decide +kernel)
      | un i => exact absurd c (by show ("not" : Str) ≠ "yes"; decide +kernel)
      | bi o i j => exact absurd c (opW hW).2.1
    subst e
    refine ⟨.str "yes", ix_0, _, rfl, s16 (by decide), inT_yes (zs := ["letter", "yes"]) (by decide +kernel) ?_⟩
    exact ⟨[], rfl, s16 (by decide), hR⟩
  rw [N.d]
  refine ⟨_, ix_0, _, rfl, s16 (by decide), inT_no (zs := ["letter", "yes"]) (by simp [N.ne, c]) ?_⟩
  refine ⟨1, rfl, ?_⟩
  show fListOf [.d (.tuple (Pu.cutD (.str l.word :: l.mem.map fun (i : Nat) => PyData.int i) (some 1) none))] _
  rw [cut_tail]
  exact hR

theorem sc__law_going : FnScope ["heads", "ways", "size", "going", "k", "found"] ["heads", "ways", "size"] (defScope s__law_going) := ⟨rfl, rfl, rfl, by decide +kernel, rfl, by decide +kernel, by decide +kernel⟩
theorem fn__law_going (A : At K mg "_law_going" s__law_going ["heads", "ways", "size"]) (T : Blt w K mg) : Fn P w K mg base "_law_going" 1 ["heads", "ways", "size"] (spX K 3 m__law_going) := by
  refine fnD (k := 0) (m := m__law_going) A sc__law_going (fun G f cdv A outer s H E hr ss R hl hm => ?_)
  refine ⟨_, _, (dss_cons (ds_set 3 sc__law_going.nd de_bl)
      (dss_cons (ds_for (js := [4]) (di_down T.m_range (da_cons (de_op op_sub (fun _ => lo_sub) (de_callB (k_len (K := K) rfl) (fun _ => lc_len) T.m_len (da_cons (de_v 0) da_nil)) de_int) (da_cons (de_op op_sub (fun _ => lo_sub) (de_op op_sub (fun _ => lo_sub) (de_callB (k_len (K := K) rfl) (fun _ => lc_len) T.m_len (da_cons (de_v 0) da_nil)) de_int) (de_v 2)) (da_cons (de_un un_neg (fun _ => lu_neg) de_int) da_nil)))) (by exact (dg_name 4 (by decide) sc__law_going.nd)) (dss_one (ds_set 3 sc__law_going.nd (de_or (de_ix (k_ix (K := K) rfl) (fun _ => lo_ix) (de_v 0) (de_v 4)) (de_one (de_and (de_ix (k_ix (K := K) rfl) (fun _ => lo_ix) (de_v 1) (de_v 4)) (de_one (de_v 3))))))))
      (dss_cons (ds_set 5 sc__law_going.nd (de_lst da_nil))
      (dss_cons (ds_for (js := [4]) (di_down T.m_range (da_cons (de_op op_sub (fun _ => lo_sub) (de_callB (k_len (K := K) rfl) (fun _ => lc_len) T.m_len (da_cons (de_v 0) da_nil)) de_int) (da_cons (de_un un_neg (fun _ => lu_neg) de_int) (da_cons (de_un un_neg (fun _ => lu_neg) de_int) da_nil)))) (by exact (dg_name 4 (by decide) sc__law_going.nd)) (dss_cons (ds_app 5 (de_v 3) (h := pe_bm PySem.F.plainAttrs_list PySem.F.slot_list_append PySem.F.type_list_append mt_append (pv 5) (pa_cons (DE.pe (F := G) ((de_v 3))) pa_nil)))
      (dss_one (ds_set 3 sc__law_going.nd (de_or (de_ix (k_ix (K := K) rfl) (fun _ => lo_ix) (de_v 0) (de_v 4)) (de_one (de_and (de_ix (k_ix (K := K) rfl) (fun _ => lo_ix) (de_v 1) (de_v 4)) (de_one (de_v 3)))))))))
      (dss_one (ds_ret (de_peek [5] (k_revL (K := K) rfl (de_v 5))))))))), ?_⟩
  obtain ⟨hs, ws, n, rfl, hl, hn, hb, hR⟩ := hm
  have e1 : (((hs.map PyData.bool).length : Int)) = hs.length := by rw [List.length_map]
  refine ⟨_, _, rfl, by rw [e1]; omega, ?_⟩
  show dLoop _ _ _ ((List.range (((hs.map PyData.bool).length : Int) - 1 - (((hs.map PyData.bool).length : Int) - 1 - n)).toNat).map fun (i : Nat) => PyData.int (((hs.map PyData.bool).length : Int) - 1 - i)) _
  rw [show ((((hs.map PyData.bool).length : Int) - 1 - (((hs.map PyData.bool).length : Int) - 1 - n)).toNat) = n by omega, e1]
  refine loop_byT (fun (i : Nat) => PyData.int ((hs.length : Int) - 1 - i)) (fun j env => ∃ v4 v5, env = [some (.d (boolsD hs)), some (.d (boolsD ws)), some (.d (.int n)), some (.d (.bool (goOn ((hs.zip ws).reverse.take j) false))), v4, v5]) ⟨none, none, rfl⟩ ?_ ?_
  · rintro j i env hj ⟨v4, v5, rfl⟩ nx hx
    have hj2 : j < n := by have := (List.getElem?_eq_some_iff.mp hj).1; rwa [List.length_range] at this
    have ei : i = j := by rw [List.getElem?_range hj2] at hj; exact (Option.some.inj hj).symm
    subst ei
    obtain ⟨h, w, z1, z2, z3⟩ := zip_back hl (show i < hs.length by omega)
    refine or_and (h := h) (w := w) (b := goOn ((hs.zip ws).reverse.take i) false) (fun Q q => ⟨_, bools_ix z2 (by omega), q⟩) (fun Q q => ⟨_, bools_ix z3 (by omega), q⟩) (fun Q q => q) ?_
    have e : goOn ((hs.zip ws).reverse.take (i + 1)) false = (h || (w && goOn ((hs.zip ws).reverse.take i) false)) := by
      rw [List.take_add_one, z1]
      exact goOn_snoc _ (h, w) _
    exact hx _ ⟨some (.d (.int ((hs.length : Int) - 1 - i))), v5, by rw [e]; rfl⟩
  rintro env ⟨v4, v5, rfl⟩
  rw [List.length_range]
  obtain ⟨g0, eg⟩ : ∃ g0, g0 = goOn ((hs.zip ws).reverse.take n) false := ⟨_, rfl⟩
  rw [← eg]
  have lz : (hs.zip ws).reverse.length = hs.length := by rw [List.length_reverse, List.length_zip, ← hl, Nat.min_self]
  refine ⟨[], rfl, s16 (by decide), _, _, rfl, by rw [e1]; omega, ?_⟩
  show dLoop _ _ _ ((List.range (((hs.map PyData.bool).length : Int) - 1 - -1).toNat).map fun (i : Nat) => PyData.int (((hs.map PyData.bool).length : Int) - 1 - i)) _
  rw [show ((((hs.map PyData.bool).length : Int) - 1 - -1).toNat) = hs.length by rw [List.length_map]; omega, e1]
  refine loop_byT (fun (i : Nat) => PyData.int ((hs.length : Int) - 1 - i)) (fun j env => ∃ v4, env = [some (.d (boolsD hs)), some (.d (boolsD ws)), some (.d (.int n)), some (.d (.bool (goOn ((hs.zip ws).reverse.take j) g0))), v4, some (.own ((scanG ((hs.zip ws).reverse.take j) g0).map PyData.bool))]) ⟨v4, rfl⟩ ?_ ?_
  · rintro j i env hj ⟨v4, rfl⟩ nx hx
    have hj2 : j < hs.length := by have := (List.getElem?_eq_some_iff.mp hj).1; rwa [List.length_range] at this
    have ei : i = j := by rw [List.getElem?_range hj2] at hj; exact (Option.some.inj hj).symm
    subst ei
    obtain ⟨h, w, z1, z2, z3⟩ := zip_back hl hj2
    have ls : ∀ (xs : List (Bool × Bool)) (g : Bool), (scanG xs g).length = xs.length := fun xs => by
      induction xs with
      | nil => intro g; rfl
      | cons x xs ih => intro g; show (scanG xs _).length + 1 = _; rw [ih]; rfl
    refine ⟨_, rfl, by rw [List.length_map, ls, List.length_take]; exact sl16 (by omega), ?_⟩
    dsimp only
    refine set_or_and (h := h) (w := w) (b := goOn ((hs.zip ws).reverse.take i) g0) (fun Q q => ⟨_, bools_ix z2 (by omega), q⟩) (fun Q q => ⟨_, bools_ix z3 (by omega), q⟩) (fun Q q => q) ?_
    have e : goOn ((hs.zip ws).reverse.take (i + 1)) g0 = (h || (w && goOn ((hs.zip ws).reverse.take i) g0)) := by
      rw [List.take_add_one, z1]
      exact goOn_snoc _ (h, w) _
    have e2 : (scanG ((hs.zip ws).reverse.take (i + 1)) g0).map PyData.bool = (scanG ((hs.zip ws).reverse.take i) g0).map PyData.bool ++ [PyData.bool (goOn ((hs.zip ws).reverse.take i) g0)] := by
      rw [List.take_add_one, z1]
      show (scanG (_ ++ [(h, w)]) g0).map PyData.bool = _
      rw [scan_snoc, List.map_append]; rfl
    exact hx _ ⟨some (.d (.int ((hs.length : Int) - 1 - i))), by rw [e, e2]; rfl⟩
  rintro env ⟨v4, rfl⟩
  rw [List.length_range, ← lz, List.take_length]
  refine ⟨_, rfl, ?_, ?_⟩
  · show (((scanG (hs.zip ws).reverse g0).map PyData.bool).reverse).all flatD = true
    rw [← List.map_reverse]
    exact flat_bools _
  · show R (.own ((scanG (hs.zip ws).reverse g0).map PyData.bool).reverse)
    rw [← List.map_reverse]
    rw [eg]
    exact hR

theorem sc__law_truths : FnScope ["tables", "moment", "start", "end", "row", "told"] ["tables", "moment"] (defScope s__law_truths) := ⟨rfl, rfl, rfl, by decide +kernel, rfl, by decide +kernel, by decide +kernel⟩
theorem fn__law_truths (A : At K mg "_law_truths" s__law_truths ["tables", "moment"]) (T : Blt w K mg) : Fn P w K mg base "_law_truths" 1 ["tables", "moment"] (spX K 2 m__law_truths) := by
  refine fnD (k := 0) (m := m__law_truths) A sc__law_truths (fun G f cdv A outer s H E hr ss R hl hm => ?_)
  refine ⟨_, _, (dss_cons (ds_asg (js := [2, 3, 4]) (de_tup (da_cons (de_dix hr.units (de_v 0) de_str) (da_cons (de_dix hr.units (de_v 0) de_str) (da_cons (de_dix hr.units (de_v 0) de_str) da_nil)))) (by exact (kg_tup (K := K) (n := 3) rfl rfl (dgs_cons (dg_name 2 (by decide) sc__law_truths.nd) (dgs_cons (dg_name 3 (by decide) sc__law_truths.nd) (dgs_cons (dg_name 4 (by decide) sc__law_truths.nd) dgs_nil))))))
      (dss_cons (ds_if (dt_cmp op_lt (fun _ => lo_lt) (de_v 1) (de_v 2)) (dss_one (ds_set 1 sc__law_truths.nd (de_op op_add (fun _ => lo_add) (de_v 2) (de_op op_mod (fun _ => lo_mod) (de_callTy call_int1 (fun _ => lc_intA) T.m_int (da_cons (de_op op_sub (fun _ => lo_sub) (de_v 1) (de_v 2)) da_nil)) (de_callB (k_len (K := K) rfl) (fun _ => lc_len) T.m_len (da_cons (de_ix (k_ix (K := K) rfl) (fun _ => lo_ix) (de_v 4) de_int) da_nil)))))) dss_nil)
      (dss_cons (ds_if (dt_cmp op_ge (fun _ => lo_ge) (de_v 1) (de_v 3)) (dss_one (ds_set 1 sc__law_truths.nd (de_op op_add (fun _ => lo_add) (de_op op_sub (fun _ => lo_sub) (de_v 3) (de_callB (k_len (K := K) rfl) (fun _ => lc_len) T.m_len (da_cons (de_ix (k_ix (K := K) rfl) (fun _ => lo_ix) (de_v 4) de_int) da_nil))) (de_op op_mod (fun _ => lo_mod) (de_callTy call_int1 (fun _ => lc_intA) T.m_int (da_cons (de_op op_sub (fun _ => lo_sub) (de_v 1) (de_v 3)) da_nil)) (de_callB (k_len (K := K) rfl) (fun _ => lc_len) T.m_len (da_cons (de_ix (k_ix (K := K) rfl) (fun _ => lo_ix) (de_v 4) de_int) da_nil)))))) dss_nil)
      (dss_one (ds_ret (de_lc (own := [("told", 5)]) sc__law_truths.nd (ki_list (K := K) rfl (de_dix hr.units (de_v 0) de_str)) (blkOk_by (N := ["tables", "moment", "start", "end", "row", "told"]) (sc := defScope s__law_truths) (by decide +kernel)) (fun _ _ _ _ _ => by exact (dg_name 5 (by decide) sc__law_truths.nd)) (fun _ _ _ _ _ => by exact dp_nil) (fun _ _ _ _ _ => by exact (de_ix (k_ix (K := K) rfl) (fun _ => lo_ix) (de_v 5) (de_op op_sub (fun _ => lo_sub) (de_v 1) (de_v 2)))))))))), ?_⟩
  obtain ⟨t, r, n, rfl, hr, h1, h2, hb, hf, hR⟩ := hm
  obtain ⟨g1, g2, g3, g4⟩ := tab_get t r
  have r1 := hr.r1
  have l1 := hr.l1
  refine ⟨_, g1, _, g2, _, g4, _, rfl, s16 (by show 3 ≤ 16777216; omega), ?_⟩
  refine ⟨_, rfl, rfl, _, _, rfl, _, _, rfl, _, _, rfl, rfl, ?_⟩
  have eL : ((r.left.map lotD).length : Int) = r.left.length := by rw [List.length_map]
  have eR : ((r.right.map lotD).length : Int) = r.right.length := by rw [List.length_map]
  have m1 := Int.emod_nonneg (n - t.start) (show (r.left.length : Int) ≠ 0 by omega)
  have m2 := Int.emod_lt_of_pos (n - t.start) (show 0 < (r.left.length : Int) by omega)
  have m3 : ∀ a : Int, 0 ≤ (a - t.stop) % (r.right.length : Int) := fun a => Int.emod_nonneg _ (by omega)
  have m4 : ∀ a : Int, (a - t.stop) % (r.right.length : Int) < r.right.length := fun a => Int.emod_lt_of_pos _ (by omega)
  unfold whereT at hR
  dsimp only at hR
  refine ⟨_, rfl, ?_⟩
  refine ite2 (fun c => ?_) (fun c => ?_)
  · have c : n < t.start := of_decide_eq_true c
    rw [if_pos c, if_neg (by omega)] at hR
    refine ⟨lotsD r.left, ix_1, by show 0 < ((r.left.map lotD).length : Int); omega, ?_⟩
    refine ⟨_, rfl, ?_⟩
    refine ite2 (fun c2 => ?_) (fun c2 => ?_)
    · have c2 : t.start + (n - t.start) % ((r.left.map lotD).length : Int) ≥ t.stop := of_decide_eq_true c2
      rw [eL] at c2
      omega
    · have := truths_end (t := t) (r := r) (b := t.start + (n - t.start) % (r.left.length : Int)) (v3 := some (.d (.int t.stop))) (v4 := some (.d (rowD r))) (v5 := none) (by omega) (by omega) hb hf hR
      rw [← eL] at this
      exact this
  · have c : ¬ n < t.start := fun z => c (decide_eq_true z)
    rw [if_neg c] at hR
    refine ⟨_, rfl, ?_⟩
    refine ite2 (fun c2 => ?_) (fun c2 => ?_)
    · have c2 : n ≥ t.stop := of_decide_eq_true c2
      rw [if_pos c2] at hR
      have m5 := m3 n
      have m6 := m4 n
      refine ⟨lotsD r.right, ix_at (k := 3) rfl, lotsD r.right, ix_at (k := 3) rfl, by show 0 < ((r.right.map lotD).length : Int); omega, ?_⟩
      have := truths_end (t := t) (r := r) (b := t.stop - r.right.length + (n - t.stop) % (r.right.length : Int)) (v3 := some (.d (.int t.stop))) (v4 := some (.d (rowD r))) (v5 := none) (by omega) (by omega) hb hf hR
      rw [← eR] at this
      exact this
    · have c2 : ¬ n ≥ t.stop := fun z => c2 (decide_eq_true z)
      rw [if_neg c2] at hR
      exact truths_end (t := t) (r := r) (b := n) (v3 := some (.d (.int t.stop))) (v4 := some (.d (rowD r))) (v5 := none) (by omega) (by omega) hb hf hR

theorem sc__law_is_word : FnScope ["value", "sign"] ["value"] (defScope s__law_is_word) := ⟨rfl, rfl, rfl, by decide +kernel, rfl, by decide +kernel, by decide +kernel⟩
theorem fn__law_is_word (A : At K mg "_law_is_word" s__law_is_word ["value"]) (T : Blt w K mg) : Fn P w K mg base "_law_is_word" 1 ["value"] (spX K 1 m__law_is_word) := by
  refine fnD (k := 0) (m := m__law_is_word) A sc__law_is_word (fun G f cdv A outer s H E hr ss R hl hm => ?_)
  refine ⟨_, _, (dss_cons (ds_if (DW.dt (dw_or (dt_not (dt_val (de_callB (k_isi (K := K) rfl) (fun _ => lc_isi) T.m_isinstance (da_cons (de_v 0) (da_cons (de_bltn (x := "str") (n := "str") T.m_str) da_nil))))) (dw_or (dt_cmp op_eq (fun _ => lo_eqS) (de_v 0) de_str) (dw_or (dt_cmp op_gt (fun _ => lo_gt) (de_callB (k_len (K := K) rfl) (fun _ => lc_len) T.m_len (da_cons (de_v 0) da_nil)) de_int) (dw_or1 (dt_cmp op_in_str (fun _ => lo_inS) (de_ix (k_ix (K := K) rfl) (fun _ => lo_ix) (de_v 0) de_int) de_str)))))) (dss_one (ds_ret de_bl)) dss_nil)
      (dss_one (ds_ret (de_cmp (k_eq (K := K) rfl hr.units) (fun _ => lo_eq) (de_lc (own := [("sign", 1)]) sc__law_is_word.nd (di_str (de_v 0)) (blkOk_by (N := ["value", "sign"]) (sc := defScope s__law_is_word) (by decide +kernel)) (fun _ _ _ _ _ => by exact (dg_name 1 (by decide) sc__law_is_word.nd)) (fun _ _ _ _ _ => by exact (dp_one (by exact (dt_cmp op_notIn_str (fun _ => lo_ninS) (de_v 1) de_str)))) (fun _ _ _ _ _ => by exact (de_v 1))) (de_lst da_nil))))), ?_⟩
  obtain ⟨d, rfl, ha, hR⟩ := hm
  cases d
  case str w =>
    have hw : w ∈ wsM := by simpa [allS] using ha
    have hl : w.length ≤ 100 := (by decide +kernel : ∀ w ∈ wsM, w.length ≤ 100) w hw
    have hz : w.length ≤ sizeLine := by rw [sizeLine_eq]; omega
    have hRw : R (.d (.bool (wdP w))) := hR
    rw [← wd_eq w hw] at hRw
    refine if_iffS (w = "" ∨ 12 < w.length ∨ occS ((chS w).headD "") "0123456789" = true) (w ≠ "" ∧ w.length ≤ 12 ∧ occS ((chS w).headD "") "0123456789" = false) (fun Q hp hq => ?_) (fun h => ?_) (fun h => ?_)
    · refine ⟨_, rfl, _, rfl, ?_⟩
      refine ifb (fun h => absurd h (by decide)) (fun _ => ?_)
      refine ⟨_, rfl, ?_⟩
      refine ifb (fun h => hp (.inl (of_decide_eq_true h))) (fun h0 => ?_)
      have h0' : w ≠ "" := of_decide_eq_false h0
      refine ⟨hz, _, rfl, ?_⟩
      refine ifb (fun h => hp (.inr (.inl (by have := of_decide_eq_true h; omega)))) (fun h1 => ?_)
      have h1' : w.length ≤ 12 := by have := of_decide_eq_false h1; omega
      have pos : 1 ≤ w.length := (by decide +kernel : ∀ w ∈ wsM, w ≠ "" → 1 ≤ w.length) w hw h0'
      obtain ⟨c, cs, ec⟩ := chS_ne pos
      have eh : (chS w).headD "" = ⟨#[c]⟩ := by unfold chS; rw [ec]; rfl
      refine ⟨c, hz, by rw [ec]; exact at_0, _, rfl, ?_⟩
      rw [eh] at hp hq
      rw [Bool.false_bne]
      cases g : occS ⟨#[c]⟩ "0123456789" with
      | true => exact hp (.inr (.inr g))
      | false => exact hq ⟨h0', h1', g⟩
    · have e : wdL w = false := by
        unfold wdL
        rcases h with h | h | h
        · rw [decide_eq_true h]; rfl
        · rw [decide_eq_false (by omega : ¬ w.length ≤ 12), Bool.and_false]; rfl
        · rw [h, Bool.not_true, Bool.and_false]; rfl
      rw [e] at hRw
      exact hRw
    · have e : wdL w = (chS w).all fun z => occS z "abcdefghijklmnopqrstuvwxyz0123456789" := by
        unfold wdL
        rw [decide_eq_false h.1, decide_eq_true h.2.1, h.2.2]
        rfl
      rw [e] at hRw
      dsimp only [dNext]
      refine ⟨w, rfl, ?_⟩
      refine ⟨chars_len hl, ?_⟩
      refine lc_fmGo (fun c => PyData.str ⟨#[c]⟩) (fun c => if occS ⟨#[c]⟩ "abcdefghijklmnopqrstuvwxyz0123456789" = true then none else some (PyData.str ⟨#[c]⟩)) w.cps.toList [] (fun x hx k hk => ?_) ?_
      · unfold dTurn
        refine ⟨_, rfl, ?_⟩
        rw [Bool.true_bne]
        cases g : occS ⟨#[x]⟩ "abcdefghijklmnopqrstuvwxyz0123456789" with
        | true =>
          rw [g, if_pos rfl] at hk
          exact hk
        | false =>
          rw [g, if_neg (by decide)] at hk
          exact ⟨_, rfl, hk⟩
      · rw [List.nil_append, fm_filter]
        refine ⟨_, rfl, s16 (by show 0 ≤ 16777216; omega), okD1_chars hw fun c hc => (List.mem_filter.mp hc).1, okD1_lst (xs := []) (fun x hx => absurd hx (by simp)), ?_⟩
        rw [eqvD_nil, filter_empty]
        have e2 : (w.cps.toList.all fun c => occS ⟨#[c]⟩ "abcdefghijklmnopqrstuvwxyz0123456789") = (chS w).all fun z => occS z "abcdefghijklmnopqrstuvwxyz0123456789" := by
          unfold chS
          rw [List.all_map]
          rfl
        rw [e2]
        exact hRw
  all_goals exact ⟨_, rfl, _, rfl, hR⟩

theorem sc__law_firsts : FnScope ["things", "found", "thing"] ["things"] (defScope s__law_firsts) := ⟨rfl, rfl, rfl, by decide +kernel, rfl, by decide +kernel, by decide +kernel⟩
theorem fn__law_firsts (A : At K mg "_law_firsts" s__law_firsts ["things"]) (T : Blt w K mg) : Fn P w K mg base "_law_firsts" 1 ["things"] (spX K 1 m__law_firsts) := by
  refine fnD (k := 0) (m := m__law_firsts) A sc__law_firsts (fun G f cdv A outer s H E hr ss R hl hm => ?_)
  refine ⟨_, _, (dss_cons (ds_set 1 sc__law_firsts.nd (DE.fz (de_lst da_nil)))
      (dss_cons (ds_for (js := [2]) (ki_list (K := K) rfl (de_v 0)) (by exact (dg_name 2 (by decide) sc__law_firsts.nd)) (dss_one (ds_set 1 sc__law_firsts.nd (DE.fz (de_op op_cat (fun _ => lo_cat) (de_v 1) (de_op op_rep (fun _ => lo_rep) (de_lst (da_cons (de_v 2) da_nil)) (de_callTy call_int1 (fun _ => lc_intA) T.m_int (da_cons (de_cmp (k_notIn (K := K) rfl) (fun _ => lo_in true) (de_v 2) (de_v 1)) da_nil))))))))
      (dss_one (ds_ret (de_v 1))))), ?_⟩
  obtain ⟨l, rfl, ll, hR⟩ := hm
  refine ⟨_, rfl, s16 (by show 0 ≤ 16777216; omega), ?_⟩
  refine ⟨_, rfl, ?_⟩
  refine loop_byT (fun (i : Nat) => PyData.int (i : Nat)) (fun j env => ∃ v2, env = [some (.d (.list (natsD l))), some (.d (.list (natsD (firstsL (l.take j))))), v2]) ⟨none, rfl⟩ ?_ ?_
  · rintro j x env hj ⟨v2, rfl⟩ nx hx
    have fl := firsts_len (l.take j)
    rw [List.length_take] at fl
    have e1 : firstsL (l.take (j + 1)) = firstS (firstsL (l.take j)) x := by rw [take_more' hj, firsts_snoc]
    refine ⟨_, rfl, s16 (by show 1 ≤ 16777216; omega), ?_⟩
    dsimp only [dCall, dCons, dOp]
    refine dVar_pass rfl ?_
    refine dVar_pass rfl ?_
    refine inN_not ?_
    by_cases c : x ∈ firstsL (l.take j)
    · rw [decide_eq_true c]
      refine ⟨by decide, by decide, s16 (by show 1 * 0 ≤ 16777216; omega), ?_⟩
      refine ⟨by rw [List.length_map]; exact s16 (by show _ + 0 ≤ 16777216; omega), ?_⟩
      refine hx _ ⟨some (.d (.int (x : Nat))), ?_⟩
      rw [e1]
      unfold firstS
      rw [if_pos c]
      show [_, some (Sl.d (.list (natsD _ ++ []))), _] = _
      rw [List.append_nil]
    · rw [decide_eq_false c]
      refine ⟨by decide, by decide, s16 (by show 1 * 1 ≤ 16777216; omega), ?_⟩
      refine ⟨by rw [List.length_map]; exact s16 (by show _ + 1 ≤ 16777216; omega), ?_⟩
      refine hx _ ⟨some (.d (.int (x : Nat))), ?_⟩
      rw [e1]
      unfold firstS
      rw [if_neg c]
      show [_, some (Sl.d (.list (natsD _ ++ [PyData.int (x : Nat)]))), _] = _
      rw [show natsD (firstsL (l.take j) ++ [x]) = natsD (firstsL (l.take j)) ++ [PyData.int (x : Nat)] by unfold natsD; rw [List.map_append]; rfl]
  rintro env ⟨v2, rfl⟩
  rw [List.take_length]
  exact hR

theorem sc_needed_by_all : FnScope ["sheet", "numbers", "last", "wanted", "number", "at", "member", "is_wanted"] ["sheet", "numbers"] (defScope s_needed_by_all) := ⟨rfl, rfl, rfl, by decide +kernel, rfl, by decide +kernel, by decide +kernel⟩
theorem fn_needed_by_all (A : At K mg "needed_by_all" s_needed_by_all ["sheet", "numbers"]) (T : Blt w K mg) (G_members : Fn P w K mg base "members" 1 ["line"] (spX K 1 m_members)) : Fn P w K mg base "needed_by_all" 2 ["sheet", "numbers"] (spX K 2 m_needed_by_all) := by
  refine fnD (k := 1) (m := m_needed_by_all) A sc_needed_by_all (fun G f cdv A outer s H E hr ss R hl hm => ?_)
  refine ⟨_, _, (dss_cons (ds_set 2 sc_needed_by_all.nd (k_maxDef (K := K) rfl hr.units T.m_max (de_v 1) (de_un un_neg (fun _ => lu_neg) de_int)))
      (dss_cons (ds_set 3 sc_needed_by_all.nd (de_op op_rep (fun _ => lo_rep) (de_lst (da_cons de_bl da_nil)) (de_op op_add (fun _ => lo_add) (de_v 2) de_int)))
      (dss_cons (ds_for (js := [4]) (ki_list (K := K) rfl (de_v 1)) (by exact (dg_name 4 (by decide) sc_needed_by_all.nd)) (dss_one (ds_putL 3 de_bl (de_v 4))))
      (dss_cons (ds_for (js := [5]) (di_down T.m_range (da_cons (de_v 2) (da_cons (de_un un_neg (fun _ => lu_neg) de_int) (da_cons (de_un un_neg (fun _ => lu_neg) de_int) da_nil)))) (by exact (dg_name 5 (by decide) sc_needed_by_all.nd)) (dss_one (ds_if (dt_val (k_ixOwn (K := K) rfl (i := 3) (de_v 5))) (dss_one (ds_for (js := [6]) (ki_tup (K := K) rfl (k_fn (K := K) rfl G_members (hr.mono (by decide)) (da_cons (de_ix (k_ix (K := K) rfl) (fun _ => lo_ix) (de_v 0) (de_v 5)) da_nil))) (by exact (dg_name 6 (by decide) sc_needed_by_all.nd)) (dss_one (ds_putL 3 de_bl (de_v 6))))) dss_nil)))
      (dss_one (ds_ret (de_peek [3] (de_lc (own := [("at", 5), ("is_wanted", 7)]) sc_needed_by_all.nd (ki_enum (K := K) rfl T.m_enumerate (da_cons (de_v 3) da_nil)) (blkOk_by (N := ["sheet", "numbers", "last", "wanted", "number", "at", "member", "is_wanted"]) (sc := defScope s_needed_by_all) (by decide +kernel)) (fun _ _ _ _ _ => by exact (kg_tup (K := K) (n := 2) rfl rfl (dgs_cons (dg_name 5 (by decide) sc_needed_by_all.nd) (dgs_cons (dg_name 7 (by decide) sc_needed_by_all.nd) dgs_nil)))) (fun _ _ _ _ _ => by exact (dp_one (by exact (dt_val (de_v 7))))) (fun _ _ _ _ _ => by exact (de_v 5)))))))))), ?_⟩
  obtain ⟨s, k, rfl, low, hk, hs, hR⟩ := hm
  refine ⟨[.int k], [(k : Int)], rfl, rfl, -1, rfl, fun e => (by cases e), fun _ m hm _ => ?_⟩
  rw [List.mem_singleton.mp hm]
  refine ⟨[.bool false], rfl, s16 (by decide), by omega, by omega, by show 1 * ((k : Int) + 1).toNat ≤ _; exact s16 (by omega), ?_⟩
  have ek : ((k : Int) + 1).toNat = k + 1 := by omega
  rw [ek, show (List.replicate (k + 1) [PyData.bool false]).flatten = mkN (k + 1) [] by rw [repl1]; unfold mkN; simp [List.map_const']]
  refine ⟨[.int k], rfl, ?_⟩
  refine loop_byT (fun (i : Nat) => PyData.int i) (l := [k]) (fun j env => ∃ v4, env = [some (.d (sheetD s)), some (.d (.list [.int k])), some (.d (.int k)), some (.own (mkN (k + 1) ([k].take j))), v4, none, none, none]) ⟨none, rfl⟩ ?_ ?_
  · rintro j x env hj ⟨v4, rfl⟩ nx hx
    obtain ⟨rfl, rfl⟩ : j = 0 ∧ k = x := by
      match j, hj with
      | 0, hj => exact ⟨rfl, Option.some.inj hj⟩
    refine ⟨.bool true, rfl, _, rfl, k, k, rfl, by rw [mkN_len]; unfold ixN; rw [if_pos (by omega), if_pos (by omega)]; rfl, ?_⟩
    refine hx _ ⟨some (.d (.int k)), ?_⟩
    show [_, _, _, some (Sl.own ((mkN (k + 1) []).set k (.bool true))), _, _, _, _] = _
    rw [mkN_set]
    rfl
  rintro env ⟨v4, rfl⟩
  refine ⟨(k : Int), -1, rfl, ⟨by omega, by omega, by omega, by omega⟩, ?_⟩
  rw [show ((k : Int) - -1).toNat = k + 1 by omega]
  refine loop_byT (fun (i : Nat) => PyData.int ((k : Int) - (i : Nat))) (fun j env => ∃ need v4 v5 v6, env = [some (.d (sheetD s)), some (.d (.list [.int k])), some (.d (.int k)), some (.own (mkN (k + 1) need)), v4, v5, v6, none] ∧ needGo s (k + 1 - j) need = mNeed s k) ⟨[k], v4, none, none, rfl, rfl⟩ ?_ ?_
  · rintro j x env hj ⟨need, v4, v5, v6, rfl, hn⟩ nx hx
    have hj2 : j < k + 1 := by have := (List.getElem?_eq_some_iff.mp hj).1; rwa [List.length_range] at this
    have ei : x = j := by rw [List.getElem?_range hj2] at hj; exact (Option.some.inj hj).symm
    subst ei
    have ej : (k : Int) - (x : Int) = ((k - x : Nat) : Int) := by omega
    have en : k + 1 - x = (k - x) + 1 := by omega
    rw [ej]
    obtain ⟨l, hl2⟩ : ∃ l, s[k - x]? = some l := ⟨_, List.getElem?_eq_getElem (by omega)⟩
    have hlow := low (k - x) l hl2
    rw [en] at hn
    have hn : needGo s (k - x) (need ++ l.mem.filter fun n => decide (k - x ∈ need) && !decide (n ∈ need)) = mNeed s k := by rw [← getD_at hl2]; exact hn
    have e2 : k + 1 - (x + 1) = k - x := by omega
    refine ⟨_, rfl, _, _, rfl, ix_at (mkN_get (by omega)), ?_⟩
    refine ⟨decide (k - x ∈ need), rfl, ?_⟩
    by_cases c : k - x ∈ need
    · rw [decide_eq_true c]
      show (if true = true then _ else _)
      rw [if_pos rfl]
      refine ⟨lnD l, ln_at hl2, rfl, l, rfl, hlow.1, ?_⟩
      refine ⟨_, rfl, ?_⟩
      refine loop_byT (fun (i : Nat) => PyData.int i) (fun t env => ∃ v6, env = [some (.d (sheetD s)), some (.d (.list [.int k])), some (.d (.int k)), some (.own (mkN (k + 1) (need ++ l.mem.take t))), v4, some (.d (.int ((k - x : Nat) : Int))), v6, none]) ⟨v6, by rw [List.take_zero, List.append_nil]; rfl⟩ ?_ ?_
      · rintro t m env ht ⟨v6, rfl⟩ nx2 hx2
        have hm := hlow.2 m (List.mem_of_getElem? ht)
        refine ⟨.bool true, rfl, _, rfl, m, m, rfl, by rw [mkN_len]; unfold ixN; rw [if_pos (by omega), if_pos (by omega)]; rfl, ?_⟩
        refine hx2 _ ⟨some (.d (.int m)), ?_⟩
        show [_, _, _, some (Sl.own ((mkN (k + 1) _).set m (.bool true))), _, _, _, _] = _
        rw [mkN_set, List.append_assoc, List.take_add_one, ht]
        rfl
      · rintro env ⟨v6, rfl⟩
        refine hx _ ⟨_, v4, some (.d (.int ((k - x : Nat) : Int))), v6, ?_, by rw [e2]; exact hn⟩
        rw [List.take_length, mkN_congr (B := need ++ l.mem.filter fun n => decide (k - x ∈ need) && !decide (n ∈ need)) (fun i => ?_)]
        rw [List.mem_append, List.mem_append, List.mem_filter, decide_eq_true c]
        by_cases d : i ∈ need
        · simp [d]
        · simp [d]
    · rw [decide_eq_false c]
      show (if false = true then _ else _)
      rw [if_neg Bool.false_ne_true]
      refine hx _ ⟨need, _, _, _, rfl, ?_⟩
      rw [e2]
      have : (l.mem.filter fun n => decide (k - x ∈ need) && !decide (n ∈ need)) = [] := by
        rw [decide_eq_false c]; simp
      rw [this, List.append_nil] at hn
      exact hn
  rintro env ⟨need, v4, v5, v6, rfl, hn⟩
  rw [List.length_range, Nat.sub_self] at hn
  have hn : need = mNeed s k := hn
  refine ⟨_, rfl, ?_⟩
  rw [enum_mkN]
  refine ⟨by rw [List.length_map, List.length_range]; exact s16 (by omega), ?_⟩
  refine lc_fmGo (fun (i : Nat) => PyData.tuple [.int (i : Nat), .bool (decide (i ∈ need))]) (fun i => if i ∈ need then some (PyData.int (i : Nat)) else none) (List.range (k + 1)) [] (fun i hi q hq => ?_) ?_
  · refine ⟨[.int i, .bool (decide (i ∈ need))], rfl, rfl, _, _, rfl, _, _, rfl, rfl, ?_⟩
    refine ⟨decide (i ∈ need), rfl, ?_⟩
    by_cases c : i ∈ need
    · rw [if_pos c] at hq
      rw [decide_eq_true c, if_pos rfl]
      exact ⟨_, rfl, hq⟩
    · rw [if_neg c] at hq
      rw [decide_eq_false c, if_neg Bool.false_ne_true]
      exact hq
  rw [List.nil_append, fm_need s k need hn]
  exact ⟨flat_ints _, hR⟩

theorem sc_told_once : FnScope ["sheet", "numbers", "known", "places", "number", "line"] ["sheet", "numbers"] (defScope s_told_once) := ⟨rfl, rfl, rfl, by decide +kernel, rfl, by decide +kernel, by decide +kernel⟩
theorem fn_told_once (A : At K mg "told_once" s_told_once ["sheet", "numbers"]) (T : Blt w K mg) (G__told_anew : Fn P w K mg base "_told_anew" 1 ["line", "places"] (spX K 2 m__told_anew)) : Fn P w K mg base "told_once" 2 ["sheet", "numbers"] (spX K 2 m_told_once) := by
  refine fnD (k := 1) (m := m_told_once) A sc_told_once (fun G f cdv A outer s H E hr ss R hl hm => ?_)
  refine ⟨_, _, (dss_cons (ds_set 2 sc_told_once.nd (k_newN (P := P) (w := w) (K := K) rfl rfl rfl))
      (dss_cons (ds_set 3 sc_told_once.nd de_newD)
      (dss_cons (ds_for (js := [4]) (ki_list (K := K) rfl (de_v 1)) (by exact (dg_name 4 (by decide) sc_told_once.nd)) (dss_cons (ds_set 5 sc_told_once.nd (de_peekF [3] (k_fn (K := K) rfl G__told_anew (hr.mono (by decide)) (da_cons (de_ix (k_ix (K := K) rfl) (fun _ => lo_ix) (de_v 0) (de_v 4)) (da_cons (de_v 3) da_nil)))))
      (dss_one (k_setdN (P := P) (w := w) (K := K) rfl rfl rfl hr.units 3 2 (de_v 4) (de_v 5) (k_lenN (P := P) (w := w) (K := K) rfl rfl rfl 2 T.m_len)))))
      (dss_frz [3] (dss_one (ds_ret (de_tup (da_cons (k_tupN (P := P) (w := w) (K := K) rfl rfl rfl rfl 2 T.m_tuple) (da_cons (de_v 3) da_nil))))))))), ?_⟩
  obtain ⟨s, ys, rfl, low, kp, hs, hR⟩ := hm
  have ly : ys.length ≤ s.length := nodup_below (asc_nodup' kp.asc) kp.lt
  have op := part_low low kp
  have lp := part_len s ys
  obtain ⟨p, ep⟩ : ∃ p, p = mPart s ys := ⟨_, rfl⟩
  rw [← ep] at op lp hR
  refine ⟨_, rfl, ?_⟩
  refine loop_byT (fun (i : Nat) => PyData.int (i : Nat)) (fun j env => ∃ v4 v5, env = [some (.d (sheetD s)), some (.d (.list (natsD ys))), some (.ownX (NT P w K (nsK lnK (onceL (p.take j)).1))), some (.ownD (plcD (ys.take j) (onceL (p.take j)).2)), v4, v5]) ⟨none, none, rfl⟩ ?_ ?_
  · rintro j i env hj ⟨v4, v5, rfl⟩ nx hx
    have hi := kp.lt i (List.mem_of_getElem? hj)
    obtain ⟨l, hl2⟩ := at_low hi
    have hlow := low i l hl2
    have hp : p[j]? = some (l.ren fun n => ys.idxOf n) := by rw [ep]; exact part_at hj hl2
    have jp := lt_of_at hp
    have I := once_inv op j (by omega)
    have st := onceL_take hp
    obtain ⟨st0, e0⟩ : ∃ st0, st0 = onceL (p.take j) := ⟨_, rfl⟩
    rw [← e0] at I st ⊢
    have lt1 := I.len
    have lpl := I.lp
    unfold onceS at st
    rw [ren_ren] at st
    have fin : ∀ v4, nx [some (.d (sheetD s)), some (.d (.list (natsD ys))), some (.ownX (NT P w K (nsK lnK (if (l.ren fun m => st0.2.getD (ys.idxOf m) 0) ∈ st0.1 then st0.1 else st0.1 ++ [l.ren fun m => st0.2.getD (ys.idxOf m) 0])))), some (.ownD (plcD (ys.take (j + 1)) (st0.2 ++ [(if (l.ren fun m => st0.2.getD (ys.idxOf m) 0) ∈ st0.1 then st0.1 else st0.1 ++ [l.ren fun m => st0.2.getD (ys.idxOf m) 0]).idxOf (l.ren fun m => st0.2.getD (ys.idxOf m) 0)]))), v4, some (.d (lnD (l.ren fun m => st0.2.getD (ys.idxOf m) 0)))] := fun v4 => hx _ ⟨_, _, by rw [st]⟩
    obtain ⟨l', el⟩ : ∃ l', l' = l.ren fun m => st0.2.getD (ys.idxOf m) 0 := ⟨_, rfl⟩
    rw [← el] at fin
    refine ⟨lnD l, ln_at hl2, rfl, l, _, fun m => st0.2.getD (ys.idxOf m) 0, rfl, hlow.1, fun m hm => plc_get kp.asc (asc_take kp.asc hj (kp.cl i (List.mem_of_getElem? hj) l hl2 m hm) (hlow.2 m hm)), ?_⟩
    rw [← el]
    have sz1 : (plcD (ys.take j) st0.2).length < sizeLine := by unfold plcD kvD; rw [List.length_map, List.length_take]; exact sl16 (by omega)
    refine ⟨lf_ln _, _, rfl, lnK l', by rw [lnK_d]; rfl, lnK_ok _, _, rfl, _, rfl, by rw [nsK_len]; exact sl16 (by omega), fun d hd => ?_, fun hd => ?_⟩
    · rw [getN_ns lnK_inj] at hd
      by_cases c : l' ∈ st0.1
      · rw [if_pos c] at hd fin
        cases hd
        refine ⟨_, rfl, .inl (i : Nat), rfl, sz1, ?_⟩
        rw [plc_put kp.asc hj lpl]
        exact fin _
      · rw [if_neg c] at hd; cases hd
    · rw [getN_ns lnK_inj] at hd
      by_cases c : l' ∈ st0.1
      · rw [if_pos c] at hd; cases hd
      · rw [if_neg c] at fin
        refine ⟨_, rfl, .inl (i : Nat), rfl, sz1, ?_⟩
        rw [nsK_len, plc_put kp.asc hj lpl]
        rw [nsK_snoc, List.idxOf_append, if_neg c] at fin
        simpa using fin _
  rintro env ⟨v4, v5, rfl⟩
  rw [← lp, List.take_length, lp, List.take_length]
  refine ⟨_, rfl, _, rfl, s16 (by show 2 ≤ 16777216; omega), ?_⟩
  rw [ns_data]
  exact hR

theorem sc_put : FnScope ["word", "one", "other", "many", "lines", "line"] ["word", "one", "other"] (defScope s_put) := ⟨rfl, rfl, rfl, by decide +kernel, rfl, by decide +kernel, by decide +kernel⟩
theorem fn_put (A : At K mg "put" s_put ["word", "one", "other"]) (T : Blt w K mg) (G__shifted_by : Fn P w K mg base "_shifted_by" 1 ["line", "many"] (spX K 2 m__shifted_by)) : Fn P w K mg base "put" 2 ["word", "one", "other"] (spX K 3 m_put) := by
  refine fnD (k := 1) (m := m_put) A sc_put (fun G f cdv A outer s H E hr ss R hl hm => ?_)
  refine ⟨_, _, (dss_cons (ds_set 3 sc_put.nd (de_callB (k_len (K := K) rfl) (fun _ => lc_len) T.m_len (da_cons (de_v 1) da_nil)))
      (dss_cons (ds_setLcF 4 (own := [("line", 5)]) sc_put.nd (ki_tup (K := K) rfl (de_v 2)) (blkOk_by (N := ["word", "one", "other", "many", "lines", "line"]) (sc := defScope s_put) (by decide +kernel)) (fun _ _ _ _ _ => by exact (dg_name 5 (by decide) sc_put.nd)) (fun _ _ _ _ _ => by exact dp_nil) (fun _ _ _ _ _ => by exact (k_fn (K := K) rfl G__shifted_by (hr.mono (by decide)) (da_cons (de_v 5) (da_cons (de_v 3) da_nil)))) (sw_true rfl rfl rfl (by decide +kernel)))
      (dss_one (ds_ret (de_op (k_catT (K := K) rfl) (fun _ => lo_catT) (de_op (k_catT (K := K) rfl) (fun _ => lo_catT) (de_v 1) (de_callTy (k_tuple (K := K) rfl) (fun _ => lc_tuple) T.m_tuple (da_cons (de_v 4) da_nil))) (de_tup (da_cons (de_tup (da_cons (de_v 0) (da_cons (de_op op_sub (fun _ => lo_sub) (de_v 3) de_int) (da_cons (de_op op_sub (fun _ => lo_sub) (de_op op_add (fun _ => lo_add) (de_v 3) (de_callB (k_len (K := K) rfl) (fun _ => lc_len) T.m_len (da_cons (de_v 2) da_nil))) de_int) da_nil)))) da_nil))))))), ?_⟩
  obtain ⟨o, s, t, rfl, hW, hs, ht, ls, lt, hR⟩ := hm
  have hp : 0 < s.length := List.length_pos_iff.mpr hs
  have hq : 0 < t.length := List.length_pos_iff.mpr ht
  have eL : ((s.map lnD).length : Int) = s.length := by rw [List.length_map]
  refine ⟨_, rfl, by rw [List.length_map]; exact s16 (by omega), ?_⟩
  refine lc_mapT lnD (fun l => lnD (l.shift s.length)) (fun l hl2 k hk => ?_) ?_
  · exact ⟨rfl, l, s.length, by rw [← eL]; rfl, hW l hl2, hk _ rfl⟩
  have e1 : (t.map fun l => lnD (l.shift s.length)) = (t.map (·.shift s.length)).map lnD := by rw [List.map_map]; rfl
  rw [e1]
  refine ⟨by rw [List.length_map, List.length_map, List.length_map]; exact s16 (by omega), _, rfl, s16 (by show 3 ≤ 16777216; omega), _, rfl, s16 (by show 1 ≤ 16777216; omega), by rw [List.length_append, List.length_map, List.length_map, List.length_map]; exact s16 (by show s.length + t.length + 1 ≤ 16777216; omega), ?_⟩
  have e2 : (s.map lnD ++ (t.map (·.shift s.length)).map lnD ++ [PyData.tuple [.str o, .int ((s.map lnD).length - 1), .int ((s.map lnD).length + (t.map lnD).length - 1)]]) = (mPut o s t).map lnD := by
    unfold mPut
    rw [List.map_append, List.map_append, List.length_map, List.length_map]
    show _ = _ ++ _ ++ [PyData.tuple [.str o, .int ((s.length - 1 : Nat) : Int), .int ((s.length + t.length - 1 : Nat) : Int)]]
    rw [show ((s.length - 1 : Nat) : Int) = (s.length : Int) - 1 by omega, show ((s.length + t.length - 1 : Nat) : Int) = (s.length : Int) + t.length - 1 by omega]
  show R (.d (.tuple (s.map lnD ++ (t.map (·.shift s.length)).map lnD ++ [PyData.tuple [.str o, .int ((s.map lnD).length - 1), .int ((s.map lnD).length + (t.map lnD).length - 1)]])))
  rw [e2]
  exact hR

theorem sc__law_of : FnScope ["source", "some"] ["source", "some"] (defScope s__law_of) := ⟨rfl, rfl, rfl, by decide +kernel, rfl, by decide +kernel, by decide +kernel⟩
theorem fn__law_of (A : At K mg "_law_of" s__law_of ["source", "some"]) (T : Blt w K mg) (G__law_pick : Fn P w K mg base "_law_pick" 1 ["source", "many"] (spX K 2 m__law_pick)) : Fn P w K mg base "_law_of" 2 ["source", "some"] (spX K 2 m__law_of) := by
  refine fnD (k := 1) (m := m__law_of) A sc__law_of (fun G f cdv A outer s H E hr ss R hl hm => ?_)
  refine ⟨_, _, (dss_one (ds_ret (de_ix (k_ix (K := K) rfl) (fun _ => lo_ix) (de_v 1) (k_fn (K := K) rfl G__law_pick (hr.mono (by decide)) (da_cons (de_v 0) (da_cons (de_callB (k_len (K := K) rfl) (fun _ => lc_len) T.m_len (da_cons (de_v 1) da_nil)) da_nil)))))), ?_⟩
  obtain ⟨xs, rfl, hne, hl, hR⟩ := hm
  have hpos : 0 < xs.length := List.length_pos_iff.mpr hne
  refine ⟨rfl, xs.length, rfl, by omega, fun k h0 h1 => ?_⟩
  have hk : k.toNat < xs.length := by split at h1 <;> omega
  refine ⟨xs[k.toNat], ?_, hR _ (List.getElem_mem hk)⟩
  unfold atI ixN
  rw [if_pos h0, if_pos (by omega : k < (xs.length : Int))]
  exact List.getElem?_eq_getElem hk

theorem sc__law_lot : FnScope ["source", "words", "word"] ["source", "words"] (defScope s__law_lot) := ⟨rfl, rfl, rfl, by decide +kernel, rfl, by decide +kernel, by decide +kernel⟩
theorem fn__law_lot (A : At K mg "_law_lot" s__law_lot ["source", "words"]) (T : Blt w K mg) (G__law_pick : Fn P w K mg base "_law_pick" 1 ["source", "many"] (spX K 2 m__law_pick)) : Fn P w K mg base "_law_lot" 2 ["source", "words"] (spX K 2 m__law_lot) := by
  refine fnD (k := 1) (m := m__law_lot) A sc__law_lot (fun G f cdv A outer s H E hr ss R hl hm => ?_)
  refine ⟨_, _, (dss_one (ds_ret (de_callTy (k_tuple (K := K) rfl) (fun _ => lc_tuple) T.m_tuple (da_cons (de_lc (own := [("word", 2)]) sc__law_lot.nd (ki_list (K := K) rfl (de_v 1)) (blkOk_by (N := ["source", "words", "word"]) (sc := defScope s__law_lot) (by decide +kernel)) (fun _ _ _ _ _ => by exact (dg_name 2 (by decide) sc__law_lot.nd)) (fun _ _ _ _ _ => by exact (dp_one (by exact (dt_cmp op_eq (fun _ => lo_eqS) (k_fn (K := K) rfl G__law_pick (hr.mono (by decide)) (da_cons (de_v 0) (da_cons de_int da_nil))) de_int)))) (fun _ _ _ _ _ => by exact (de_v 2))) da_nil)))), ?_⟩
  obtain ⟨ws, rfl, hl, hR⟩ := hm
  refine ⟨ws.map PyData.str, rfl, by rw [List.length_map, sizeLine_eq]; omega, ?_⟩
  refine lc_some (fun y hy k k1 k2 => ?_) (fun zs hz => ?_)
  · refine ⟨rfl, 2, rfl, by decide, fun i h0 h1 => ⟨_, rfl, ?_⟩⟩
    refine ite2 (fun c => ?_) (fun c => ?_)
    · exact ⟨y, rfl, k1⟩
    · exact k2
  · obtain ⟨lot, h, rfl⟩ := sub_map hz
    exact hR lot h

theorem sc__law_nests : FnScope ["sheet", "word", "found", "line", "k"] ["sheet", "word"] (defScope s__law_nests) := ⟨rfl, rfl, rfl, by decide +kernel, rfl, by decide +kernel, by decide +kernel⟩
theorem fn__law_nests (A : At K mg "_law_nests" s__law_nests ["sheet", "word"]) (T : Blt w K mg) (G__law_members : Fn P w K mg base "_law_members" 1 ["line"] (spX K 1 m__law_members)) : Fn P w K mg base "_law_nests" 2 ["sheet", "word"] (spX K 2 m__law_nests) := by
  refine fnD (k := 1) (m := m__law_nests) A sc__law_nests (fun G f cdv A outer s H E hr ss R hl hm => ?_)
  refine ⟨_, _, (dss_cons (ds_set 2 sc__law_nests.nd (de_lst da_nil))
      (dss_cons (ds_for (js := [3]) (ki_tup (K := K) rfl (de_v 0)) (by exact (dg_name 3 (by decide) sc__law_nests.nd)) (dss_one (ds_app 2 (de_op op_add (fun _ => lo_add) (de_callB (k_max1 (K := K) rfl) (fun _ => lc_max1) T.m_max (da_cons (de_op op_cat (fun _ => lo_cat) (de_lst (da_cons de_int da_nil)) (de_lc (own := [("k", 4)]) sc__law_nests.nd (ki_list (K := K) rfl (k_fn (K := K) rfl G__law_members (hr.mono (by decide)) (da_cons (de_v 3) da_nil))) (blkOk_by (N := ["sheet", "word", "found", "line", "k"]) (sc := defScope s__law_nests) (by decide +kernel)) (fun _ _ _ _ _ => by exact (dg_name 4 (by decide) sc__law_nests.nd)) (fun _ _ _ _ _ => by exact dp_nil) (fun _ _ _ _ _ => by exact (k_ixOwn (K := K) rfl (i := 2) (de_v 4))))) da_nil)) (de_callTy call_int1 (fun _ => lc_intA) T.m_int (da_cons (de_cmp op_eq (fun _ => lo_eqS) (de_ix (k_ix (K := K) rfl) (fun _ => lo_ix) (de_v 3) de_int) (de_v 1)) da_nil))) (h := pe_bm PySem.F.plainAttrs_list PySem.F.slot_list_append PySem.F.type_list_append mt_append (pv 2) (pa_cons (DE.pe (F := G) ((de_op op_add (fun _ => lo_add) (de_callB (k_max1 (K := K) rfl) (fun _ => lc_max1) T.m_max (da_cons (de_op op_cat (fun _ => lo_cat) (de_lst (da_cons de_int da_nil)) (de_lc (own := [("k", 4)]) sc__law_nests.nd (ki_list (K := K) rfl (k_fn (K := K) rfl G__law_members (hr.mono (by decide)) (da_cons (de_v 3) da_nil))) (blkOk_by (N := ["sheet", "word", "found", "line", "k"]) (sc := defScope s__law_nests) (by decide +kernel)) (fun _ _ _ _ _ => by exact (dg_name 4 (by decide) sc__law_nests.nd)) (fun _ _ _ _ _ => by exact dp_nil) (fun _ _ _ _ _ => by exact (k_ixOwn (K := K) rfl (i := 2) (de_v 4))))) da_nil)) (de_callTy call_int1 (fun _ => lc_intA) T.m_int (da_cons (de_cmp op_eq (fun _ => lo_eqS) (de_ix (k_ix (K := K) rfl) (fun _ => lo_ix) (de_v 3) de_int) (de_v 1)) da_nil))))) pa_nil)))))
      (dss_one (ds_ret (de_peek [2] (de_callB (k_max1 (K := K) rfl) (fun _ => lc_max1) T.m_max (da_cons (de_v 2) da_nil))))))), ?_⟩
  obtain ⟨w, s, rfl, ok, hl, hR⟩ := hm
  refine ⟨[], rfl, s16 (by decide), s.map lnD, rfl, ?_⟩
  refine loop_byT lnD (fun j env => ∃ v3 v4, env = [some (.d (sheetD s)), some (.d (.str w)), some (.own ((nestGo w (s.take j) []).map PyData.int)), v3, v4]) ⟨none, none, rfl⟩ ?_ ?_
  · rintro j l env hj ⟨v3, v4, rfl⟩ nx hx
    obtain ⟨n1, n2⟩ := nestGo_ok w (s.take j) [] (fun x hx => by cases hx)
    have hj2 : j < s.length := (List.getElem?_eq_some_iff.mp hj).1
    rw [List.length_nil, Nat.zero_add, List.length_take, Nat.min_eq_left (by omega)] at n2
    obtain ⟨acc, ea⟩ : ∃ acc, acc = nestGo w (s.take j) [] := ⟨_, rfl⟩
    rw [← ea] at n1 n2 ⊢
    have lok := ok.ok j l hj
    have ml := mem_len l
    refine ⟨[.int 0], rfl, s16 (by decide), rfl, l, rfl, lok.1, _, rfl, by rw [List.length_map]; exact s16 (by omega), ?_⟩
    refine lc_mapT (fun (i : Nat) => PyData.int i) (fun i => .int (acc.getD i 0)) (fun i hi k hk => ?_) ?_
    · have hi2 := lok.2.1 i hi
      refine ⟨acc.map PyData.int, rfl, i, .int (acc.getD i 0), rfl, ix_at ?_, hk _ rfl⟩
      rw [List.getElem?_map, List.getD_eq_getElem?_getD, List.getElem?_eq_getElem (by omega : i < acc.length)]
      rfl
    refine ⟨by rw [List.length_map]; exact s16 (by show 1 + l.mem.length ≤ 16777216; omega), ?_⟩
    have e1 : ([PyData.int 0] ++ l.mem.map fun i => PyData.int (acc.getD i 0)) = (0 :: l.mem.map fun i => acc.getD i 0).map PyData.int := by rw [List.map_cons, List.map_map]; rfl
    show fMax1 [.d (.list ([PyData.int 0] ++ l.mem.map fun i => PyData.int (acc.getD i 0)))] _
    rw [e1]
    refine ⟨_, intsD_map _, by rw [List.length_cons]; omega, fun m hm hmx => ?_⟩
    have em := maxI_spec (fun x hx => by
      rcases List.mem_cons.mp hx with rfl | hx
      · omega
      · obtain ⟨k, _, rfl⟩ := List.mem_map.mp hx
        exact (getD_acc n1 k).1) hm hmx
    subst em
    have last : ∀ c : Bool, c = decide (l.word = w) → nx [some (.d (sheetD s)), some (.d (.str w)), some (.own (acc.map PyData.int ++ [.int (maxI (0 :: l.mem.map fun i => acc.getD i 0) + (if c = true then 1 else 0))])), some (.d (lnD l)), v4] := fun c e => by
      refine hx _ ⟨some (.d (lnD l)), v4, ?_⟩
      rw [List.take_add_one, hj, Option.toList_some, nestGo_snoc, ← ea, List.map_append]
      subst e
      show _ = [_, _, some (Sl.own (_ ++ [PyData.int (nestOf w acc l)])), _, _]
      unfold nestOf
      by_cases c : l.word = w
      · rw [if_pos c, decide_eq_true c, if_pos rfl]
      · rw [if_neg c, decide_eq_false c, if_neg Bool.false_ne_true]
    rw [ln_d]
    refine ⟨_, ix_0, ?_⟩
    rw [ln_d] at last
    exact ⟨_, rfl, by rw [List.length_map, n2]; exact sl16 (by omega), last _ rfl⟩
  rintro env ⟨v3, v4, rfl⟩
  rw [List.take_length]
  obtain ⟨n1, n2⟩ := nestGo_ok w s [] (fun x hx => by cases hx)
  have hp : 0 < s.length := List.length_pos_iff.mpr ok.ne
  rw [List.length_nil, Nat.zero_add] at n2
  refine ⟨_, intsD_map _, by rw [n2]; exact hp, fun m hm hmx => ⟨rfl, ?_⟩⟩
  rw [maxI_spec (fun x hx => (n1 x hx).1) hm hmx]
  exact hR

theorem sc__law_path : FnScope ["value", "sizes", "k", "line", "j", "is_number"] ["value"] (defScope s__law_path) := ⟨rfl, rfl, rfl, by decide +kernel, rfl, by decide +kernel, by decide +kernel⟩
theorem fn__law_path (A : At K mg "_law_path" s__law_path ["value"]) (T : Blt w K mg) (G__law_is_word : Fn P w K mg base "_law_is_word" 1 ["value"] (spX K 1 m__law_is_word)) : Fn P w K mg base "_law_path" 2 ["value"] (spX K 1 m__law_path) := by
  refine fnD (k := 1) (m := m__law_path) A sc__law_path (fun G f cdv A outer s H E hr ss R hl hm => ?_)
  refine ⟨_, _, (dss_cons (ds_if (DW.dt (dw_or (dt_not (dt_val (de_callB (k_isi (K := K) rfl) (fun _ => lc_isi) T.m_isinstance (da_cons (de_v 0) (da_cons (de_bltn (x := "tuple") (n := "tuple") T.m_tuple) da_nil))))) (dw_or1 (dt_cmp op_eq (fun _ => lo_eqS) (de_callB (k_len (K := K) rfl) (fun _ => lc_len) T.m_len (da_cons (de_v 0) da_nil)) de_int)))) (dss_one (ds_ret (de_lst (da_cons (de_tup da_nil) da_nil)))) dss_nil)
      (dss_cons (ds_set 1 sc__law_path.nd (de_disp (dps_cons de_int (dps_cons de_int (dps_cons de_int (dps_cons de_int (dps_cons de_int (dps_cons de_int (dps_cons de_int dps_nil)))))))))
      (dss_cons (ds_for (js := [2]) (di_rng1 T.m_range (da_cons (de_callB (k_len (K := K) rfl) (fun _ => lc_len) T.m_len (da_cons (de_v 0) da_nil)) da_nil)) (by exact (dg_name 2 (by decide) sc__law_path.nd)) (dss_cons (ds_set 3 sc__law_path.nd (de_ix (k_ix (K := K) rfl) (fun _ => lo_ix) (de_v 0) (de_v 2)))
      (dss_cons (ds_if (DW.dt (dw_or (dt_not (dt_val (de_callB (k_isi (K := K) rfl) (fun _ => lc_isi) T.m_isinstance (da_cons (de_v 3) (da_cons (de_bltn (x := "tuple") (n := "tuple") T.m_tuple) da_nil))))) (dw_or (dt_cmp op_eq (fun _ => lo_eqS) (de_callB (k_len (K := K) rfl) (fun _ => lc_len) T.m_len (da_cons (de_v 3) da_nil)) de_int) (dw_or (dt_not (dt_val (de_callB (k_isi (K := K) rfl) (fun _ => lc_isi) T.m_isinstance (da_cons (de_ix (k_ix (K := K) rfl) (fun _ => lo_ix) (de_v 3) de_int) (da_cons (de_bltn (x := "str") (n := "str") T.m_str) da_nil))))) (dw_or1 (dt_cmp op_ne (fun _ => lo_neS) (de_get2 hr.units (de_v 1) (de_ix (k_ix (K := K) rfl) (fun _ => lo_ix) (de_v 3) de_int) de_int) (de_callB (k_len (K := K) rfl) (fun _ => lc_len) T.m_len (da_cons (de_v 3) da_nil)))))))) (dss_one (ds_ret (de_lst (da_cons (de_tup (da_cons (de_v 2) da_nil)) da_nil)))) dss_nil)
      (dss_one (ds_for (js := [4]) (di_rngA T.m_range (da_cons de_int (da_cons (de_callB (k_len (K := K) rfl) (fun _ => lc_len) T.m_len (da_cons (de_v 3) da_nil)) da_nil))) (by exact (dg_name 4 (by decide) sc__law_path.nd)) (dss_cons (ds_set 5 sc__law_path.nd (de_and (de_callB (k_isi (K := K) rfl) (fun _ => lc_isi) T.m_isinstance (da_cons (de_ix (k_ix (K := K) rfl) (fun _ => lo_ix) (de_v 3) (de_v 4)) (da_cons (de_bltn (x := "int") (n := "int") T.m_int) da_nil))) (de_one (de_not (de_callB (k_isi (K := K) rfl) (fun _ => lc_isi) T.m_isinstance (da_cons (de_ix (k_ix (K := K) rfl) (fun _ => lo_ix) (de_v 3) (de_v 4)) (da_cons (de_bltn (x := "bool") (n := "bool") T.m_bool) da_nil)))))))
      (dss_one (ds_if (dt_not (dt_ifExp (dt_cmp op_eq (fun _ => lo_eqS) (de_ix (k_ix (K := K) rfl) (fun _ => lo_ix) (de_v 3) de_int) de_str) (dt_val (k_fn (K := K) rfl G__law_is_word (hr.mono (by decide)) (da_cons (de_ix (k_ix (K := K) rfl) (fun _ => lo_ix) (de_v 3) (de_v 4)) da_nil))) (DW.dt (dw_and (dt_val (de_v 5)) (dw_and1 (dt_chain op_le (fun _ => lo_le) op_lt (fun _ => lo_lt) de_int (de_ix (k_ix (K := K) rfl) (fun _ => lo_ix) (de_v 3) (de_v 4)) (de_v 2))))))) (dss_one (ds_ret (de_lst (da_cons (de_tup (da_cons (de_v 2) (da_cons (de_v 4) da_nil))) da_nil)))) dss_nil))))))))
      (dss_one (ds_ret (de_lst da_nil)))))), ?_⟩
  obtain ⟨v, rfl, ha, hlen, hR⟩ := hm
  refine if_iffS (∀ x xs, v ≠ .tuple (x :: xs)) (∃ x xs, v = .tuple (x :: xs)) (fun Q hp hq => ?_) (fun h => ?_) (fun h => ?_)
  · cases v
    case tuple ys =>
      refine ⟨_, rfl, _, rfl, ?_⟩
      refine ifb (fun h => absurd h (by decide)) (fun _ => ?_)
      refine ⟨_, rfl, ?_⟩
      cases ys with
      | nil => exact hp fun x xs e => by cases e
      | cons x xs => exact hq ⟨x, xs, rfl⟩
    all_goals exact ⟨_, rfl, _, rfl, hp fun x xs e => by cases e⟩
  · have e : pathL v = [.tuple []] := by
      unfold pathL
      split
      · exact absurd rfl (h _ _)
      · rfl
    rw [e] at hR
    exact ⟨_, rfl, s16 (by show 0 ≤ 16777216; omega), _, rfl, s16 (by show 1 ≤ 16777216; omega), hR⟩
  · obtain ⟨x, xs, rfl⟩ := h
    dsimp only [dNext]
    have hx : ∀ y ∈ x :: xs, allS y = true := allSs_iff.mp ha
    have hp0 : pathL (.tuple (x :: xs)) = goP 0 (x :: xs) := rfl
    rw [hp0] at hR
    have hlen := hlen _ rfl
    generalize x :: xs = ys at *
    refine ⟨_, rfl, ?_⟩
    dsimp only
    refine ⟨(ys.length : Int), rfl, ⟨by omega, by omega⟩, ?_⟩
    rw [Int.toNat_natCast]
    unfold rngD
    refine loop_byT (fun (i : Nat) => PyData.int (0 + (i : Nat))) (fun j env => ∃ v2 v3 v4 v5, env = [some (.d (.tuple ys)), some (.d (.dict szKv)), v2, v3, v4, v5] ∧ goP 0 ys = goP j (ys.drop j)) ⟨none, none, none, none, rfl, by rw [List.drop_zero]⟩ ?_ ?_
    · rintro j k env hj ⟨v2, v3, v4, v5, rfl, hf⟩ nx hn
      have hjl : j < ys.length := by have := (List.getElem?_eq_some_iff.mp hj).1; rwa [List.length_range] at this
      obtain rfl : k = j := by
        obtain ⟨_, q⟩ := List.getElem?_eq_some_iff.mp hj
        rw [List.getElem_range] at q; exact q.symm
      have hd : ys.drop k = ys[k] :: ys.drop (k + 1) := List.drop_eq_getElem_cons hjl
      rw [hd] at hf
      have hf2 : goP 0 ys = match wrongAt k ys[k] with | some p => [.tuple (.int (k : Nat) :: p)] | none => goP (k + 1) (ys.drop (k + 1)) := hf
      have hy2 : allS ys[k] = true := hx _ (List.getElem_mem hjl)
      have hat : atI ys (0 + (k : Int)) = some ys[k] := by
        rw [Int.zero_add]
        exact ix_at (List.getElem?_eq_getElem hjl)
      refine ⟨_, hat, ?_⟩
      generalize ys[k] = line at *
      dsimp only
      refine if_iffS (∀ w rest, line = .tuple (.str w :: rest) → szW w ≠ rest.length + 1) (∃ w rest, line = .tuple (.str w :: rest) ∧ szW w = rest.length + 1) (fun Q hp hq => ?_) (fun h => ?_) (fun h => ?_)
      · cases line
        case tuple zs =>
          refine ⟨_, rfl, _, rfl, ?_⟩
          refine ifb (fun h => absurd h (by decide)) (fun _ => ?_)
          refine ⟨_, rfl, ?_⟩
          cases zs with
          | nil => exact hp fun w rest e => by cases e
          | cons z zs =>
            refine ifb (fun h => ?_) (fun _ => ?_)
            · have q : ((z :: zs).length : Int) = 0 := of_decide_eq_true h
              rw [List.length_cons] at q
              omega
            refine ⟨z, at_0, ?_⟩
            cases z
            case str w hh =>
              refine ⟨_, rfl, _, rfl, ?_⟩
              refine ifb (fun h => absurd h (by decide)) (fun _ => ?_)
              refine ⟨szKv, rfl, _, at_0, w, rfl, ?_⟩
              have gz := get_sz w
              have key : fEqS true (orSl (getS szKv w) (Sl.d (.int 0))).fz (Sl.d (.int ((PyData.str w :: zs).length : Int))) (fun s => ∃ b, s.fz = Sl.d (.bool b) ∧ Q b) := by
                rw [gz]
                refine ⟨_, rfl, ?_⟩
                show Q (!decide (((szW w : Nat) : Int) = ((PyData.str w :: zs).length : Int)))
                by_cases c : szW w = zs.length + 1
                · rw [decide_eq_true (show ((szW w : Nat) : Int) = ((PyData.str w :: zs).length : Int) by rw [List.length_cons, c])]
                  exact hq ⟨w, zs, rfl, c⟩
                · rw [decide_eq_false (fun z : ((szW w : Nat) : Int) = ((PyData.str w :: zs).length : Int) => c (by rw [List.length_cons] at z; omega))]
                  exact hp fun w' rest e => by cases e; exact c
              exact key
            all_goals exact ⟨_, rfl, _, rfl, hp fun w rest e => by cases e⟩
        all_goals exact ⟨_, rfl, _, rfl, hp fun w rest e => by cases e⟩
      · rw [wrongAt_bad h] at hf2
        rw [hf2] at hR
        have hR2 : R (.own [.tuple [.int (0 + (k : Int))]]) := by rw [Int.zero_add]; exact hR
        exact ⟨_, rfl, s16 (by show 1 ≤ 16777216; omega), _, rfl, s16 (by show 1 ≤ 16777216; omega), hR2⟩
      · obtain ⟨w, rest, rfl, hz⟩ := h
        rw [wrongAt_good hz] at hf2
        dsimp only [dNext]
        have en : (((PyData.str w :: rest).length : Int) - 1).toNat = rest.length := by rw [List.length_cons]; omega
        refine ⟨1, ((PyData.str w :: rest).length : Int), rfl, ?_⟩
        rw [en]
        unfold rngD
        refine loop_byT (fun (i : Nat) => PyData.int (1 + (i : Nat))) (fun j env => ∃ v4 v5, env = [some (.d (.tuple ys)), some (.d (.dict szKv)), some (.d (.int (0 + (k : Int)))), some (.d (.tuple (.str w :: rest))), v4, v5] ∧ firstBad (badE w k) 1 rest = firstBad (badE w k) (1 + j) (rest.drop j)) ⟨v4, v5, rfl, by rw [List.drop_zero]⟩ ?_ ?_
        · rintro j x env hj ⟨v4, v5, rfl, hg⟩ nx hn
          have hjl : j < rest.length := by have := (List.getElem?_eq_some_iff.mp hj).1; rwa [List.length_range] at this
          obtain rfl : x = j := by
            obtain ⟨_, q⟩ := List.getElem?_eq_some_iff.mp hj
            rw [List.getElem_range] at q; exact q.symm
          have hd : rest.drop x = rest[x] :: rest.drop (x + 1) := List.drop_eq_getElem_cons hjl
          rw [hd] at hg
          have hg2 : firstBad (badE w k) 1 rest = if badE w k rest[x] = true then some (1 + x) else firstBad (badE w k) (1 + x + 1) (rest.drop (x + 1)) := hg
          have hat : atI (PyData.str w :: rest) (1 + (x : Int)) = some rest[x] := by
            have q := ix_at (xs := PyData.str w :: rest) (k := x + 1) (d := rest[x]) (by simp [hjl])
            have c : ((x + 1 : Nat) : Int) = 1 + (x : Int) := by omega
            rw [c] at q
            exact q
          have hr2 : allS rest[x] = true := by
            have q : allSs (.str w :: rest) = true := hy2
            exact allSs_iff.mp q _ (List.mem_cons_of_mem _ (List.getElem_mem hjl))
          generalize ey : rest[x] = y at *
          refine sq_byL (fun env' => env' = [some (.d (.tuple ys)), some (.d (.dict szKv)), some (.d (.int (0 + (k : Int)))), some (.d (.tuple (.str w :: rest))), some (.d (.int (1 + (x : Int)))), some (.d (.bool (isI y)))]) (fun nx' h' => ?_) ?_
          · cases y
            case int i => exact ⟨_, hat, _, rfl, _, rfl, _, hat, _, rfl, _, rfl, h' _ rfl⟩
            case bool b => exact ⟨_, hat, _, rfl, _, rfl, _, hat, _, rfl, _, rfl, h' _ rfl⟩
            all_goals exact ⟨_, hat, _, rfl, _, rfl, h' _ rfl⟩
          · rintro env' rfl
            refine if_iff (badE w k y = true) (badE w k y = false) (fun Q hp hq => ?_) (fun h => ?_) (fun h => ?_)
            · by_cases cw : w = "letter"
              · subst cw
                rw [badE_let] at hp hq
                refine ⟨_, at_0, _, rfl, ?_⟩
                refine ifb (fun _ => ?_) (fun h => absurd (show decide (("letter" : Str) = "letter") = false from h) (by decide +kernel))
                refine ⟨y, hat, rfl, y, rfl, hr2, _, rfl, ?_⟩
                show Q (!isW y)
                cases g : isW y with
                | true => exact hq (by rw [g]; rfl)
                | false => exact hp (by rw [g]; rfl)
              · refine ⟨_, at_0, _, rfl, ?_⟩
                refine ifb (fun h => absurd (of_decide_eq_true h) cw) (fun _ => ?_)
                refine ⟨_, rfl, ?_⟩
                refine ifb (fun c => ?_) (fun c => ?_)
                · obtain ⟨i, ei⟩ : ∃ i, y = .int i := by
                    cases y <;> first | exact ⟨_, rfl⟩ | cases c
                  subst ei
                  rw [badE_int cw] at hp hq
                  refine ⟨_, hat, _, rfl, ?_⟩
                  refine ifb (fun c0 => ?_) (fun c0 => ?_)
                  · have c0' : (0 : Int) ≤ i := of_decide_eq_true c0
                    rw [decide_eq_true c0'] at hp hq
                    refine ⟨_, rfl, ?_⟩
                    show Q (!decide (i < 0 + (k : Int)))
                    rw [Int.zero_add]
                    by_cases c1 : i < (k : Int)
                    · rw [decide_eq_true c1] at hq ⊢
                      exact hq rfl
                    · rw [decide_eq_false c1] at hp ⊢
                      exact hp rfl
                  · have c0' : ¬ (0 : Int) ≤ i := of_decide_eq_false c0
                    rw [decide_eq_false c0'] at hp hq
                    exact ⟨false, rfl, hp rfl⟩
                · exact hp (badE_no cw c)
            · rw [hg2, if_pos h] at hf2
              have c : ((1 + x : Nat) : Int) = 1 + (x : Int) := by omega
              have hf3 : goP 0 ys = [.tuple [.int (k : Nat), .int ((1 + x : Nat) : Int)]] := hf2
              rw [hf3, c] at hR
              have hR2 : R (.own [.tuple [.int (0 + (k : Int)), .int (1 + (x : Int))]]) := by rw [Int.zero_add]; exact hR
              exact ⟨_, rfl, s16 (by show 2 ≤ 16777216; omega), _, rfl, s16 (by show 1 ≤ 16777216; omega), hR2⟩
            · rw [if_neg (by rw [h]; decide)] at hg2
              refine hn _ ⟨_, _, rfl, ?_⟩
              rw [hg2]
              congr 1
        · rintro env ⟨v4, v5, rfl, hg⟩
          rw [List.length_range, List.drop_length] at hg
          have hg2 : firstBad (badE w k) 1 rest = none := hg
          rw [hg2] at hf2
          exact hn _ ⟨_, _, _, _, rfl, hf2⟩
    · rintro env ⟨v2, v3, v4, v5, rfl, hf⟩
      rw [List.length_range, List.drop_length] at hf
      have hf2 : goP 0 ys = [] := hf
      rw [hf2] at hR
      exact ⟨_, rfl, s16 (by show 0 ≤ 16777216; omega), hR⟩

theorem sc__law_needs : FnScope ["sheet", "number", "met", "waiting", "other"] ["sheet", "number"] (defScope s__law_needs) := ⟨rfl, rfl, rfl, by decide +kernel, rfl, by decide +kernel, by decide +kernel⟩
theorem fn__law_needs (A : At K mg "_law_needs" s__law_needs ["sheet", "number"]) (T : Blt w K mg) (G__law_members : Fn P w K mg base "_law_members" 1 ["line"] (spX K 1 m__law_members)) : Fn P w K mg base "_law_needs" 2 ["sheet", "number"] (spX K 2 m__law_needs) := by
  refine fnD (k := 1) (m := m__law_needs) A sc__law_needs (fun G f cdv A outer s H E hr ss R hl hm => ?_)
  refine ⟨_, _, (dss_cons (ds_par2 2 3 sc__law_needs.nd (de_lst (da_cons (de_v 1) da_nil)) (de_lst (da_cons (de_v 1) da_nil)) (pa_cons (DE.pe (F := G) (de_lst (da_cons (de_v 1) da_nil))) (pa_cons (DE.pe (F := G) (de_lst (da_cons (de_v 1) da_nil))) pa_nil)))
      (dss_cons (ds_while (dt_peek [3] (dt_cmp (k_ne (K := K) rfl hr.units) (fun _ => lo_ne) (de_v 3) (de_lst da_nil))) (dss_one (k_forPop (K := K) (js := [4]) rfl 3 G__law_members (hr.mono (by decide)) (k_ix (K := K) rfl) (fun _ => lo_ix) (de_v 0) (pe_popL 3) (by exact (dg_name 4 (by decide) sc__law_needs.nd)) (dss_one (ds_if (dt_peek [2] (dt_cmp (k_notIn (K := K) rfl) (fun _ => lo_in true) (de_v 4) (de_v 2))) (dss_cons (ds_app 2 (de_v 4) (h := pe_bm PySem.F.plainAttrs_list PySem.F.slot_list_append PySem.F.type_list_append mt_append (pv 2) (pa_cons (DE.pe (F := G) ((de_v 4))) pa_nil)))
      (dss_one (ds_app 3 (de_v 4) (h := pe_bm PySem.F.plainAttrs_list PySem.F.slot_list_append PySem.F.type_list_append mt_append (pv 3) (pa_cons (DE.pe (F := G) ((de_v 4))) pa_nil))))) dss_nil)))))
      (dss_one (ds_ret (de_peek [2] (de_callB (k_sortedIA (K := K) rfl) (fun _ => lc_sortedIA) T.m_sorted (da_cons (de_v 2) da_nil))))))), ?_⟩
  obtain ⟨s, k, rfl, low, hk, hs, hR⟩ := hm
  refine ⟨_, rfl, s16 (by show 1 ≤ 16777216; omega), _, rfl, s16 (by show 1 ≤ 16777216; omega), ?_⟩
  dsimp only
  refine while_by (fun m env => ∃ M W v4, env = [some (.d (sheetD s)), some (.d (.int k)), some (.own (natsD M)), some (.own (natsD W)), v4] ∧ NInv s k M W [] ∧ msr s M W ≤ m ∧ m ≤ 3000) (msr s [k] [k]) ⟨[k], [k], none, rfl, .start s k, Nat.le_refl _, by unfold msr; simp only [List.length_singleton]; omega⟩ ?_
  rintro m env ⟨M, W, v4, rfl, I, hm2, hm4⟩ nx hx
  have hM := I.len low hk
  have e := eqv_nil W
  refine ⟨_, rfl, s16 (by show 0 ≤ 16777216; omega), okD1_nats W, okD1_nats [], !decide (W = []), by show Sl.d (.bool (!PyData.eqv (.list (natsD W)) (.list []))) = _; rw [e], ?_⟩
  by_cases c : W = []
  · subst c
    rw [decide_eq_true rfl]
    show (if false = true then _ else _)
    rw [if_neg Bool.false_ne_true]
    refine ⟨_, intsD_nats M, fun ys p h => ?_⟩
    obtain ⟨zs, rfl, asc, mem⟩ := sorted_nats p h I.nd
    have ez : zs = mNeedL s k := asc_ext asc (needL_asc s k) fun x => by rw [mem, I.all x, needL_nd low hk]
    subst ez
    refine ⟨?_, ?_⟩
    · show ((mNeedL s k).map fun (i : Nat) => (i : Int)).map PyData.int |>.all flatD
      rw [List.map_map]; exact flat_nats
    · show R (.own (((mNeedL s k).map fun (i : Nat) => (i : Int)).map PyData.int))
      rw [List.map_map]; exact hR
  rw [decide_eq_false c]
  show (if true = true then _ else _)
  rw [if_pos rfl]
  obtain ⟨W0, y, rfl⟩ : ∃ W0 y, W = W0 ++ [y] := ⟨W.dropLast, W.getLast c, (List.dropLast_concat_getLast c).symm⟩
  have hy := nd_le low (I.sub y (I.wm y (by simp)))
  obtain ⟨l, hl2⟩ := at_low (s := s) (k := y) (by omega)
  have hlow := low y l hl2
  have I0 := I.pop hl2
  have m0 : msr s M W0 < msr s M (W0 ++ [y]) := by unfold msr; rw [List.length_append, List.length_singleton]; omega
  have eW : natsD (W0 ++ [y]) = natsD W0 ++ [PyData.int (y : Nat)] := by unfold natsD; rw [List.map_append]; rfl
  refine ⟨_, .int (y : Nat), rfl, by rw [eW, List.length_append, List.length_singleton, Nat.add_sub_cancel, List.getElem?_append_right (Nat.le_refl _), Nat.sub_self]; rfl, lnD l, ln_at hl2, l, rfl, hlow.1, _, rfl, ?_⟩
  rw [eW, List.dropLast_concat]
  refine loop_byT (fun (i : Nat) => PyData.int (i : Nat)) (fun t env => ∃ M' W' v4, env = [some (.d (sheetD s)), some (.d (.int k)), some (.own (natsD M')), some (.own (natsD W')), v4] ∧ NInv s k M' W' (l.mem.drop t) ∧ msr s M' W' ≤ msr s M W0) ⟨M, W0, v4, rfl, I0, Nat.le_refl _⟩ ?_ ?_
  · rintro t n env ht ⟨M', W', u4, rfl, I', hm'⟩ nx2 hx2
    have hmem := List.mem_of_getElem? ht
    have hn : Nd s k n := .step (I.sub y (I.wm y (by simp))) hl2 hmem
    have ed : l.mem.drop t = n :: l.mem.drop (t + 1) := by
      obtain ⟨h1, h2⟩ := List.getElem?_eq_some_iff.mp ht
      rw [List.drop_eq_getElem_cons h1, h2]
    rw [ed] at I'
    obtain ⟨I2, hm3⟩ := I'.step low hk hn
    have lM := I'.len low hk
    have lW : W'.length ≤ 3000 := by
      have : W'.length ≤ msr s M' W' := by unfold msr; omega
      omega
    refine inN_f ?_
    by_cases c : n ∈ M'
    · rw [decide_eq_true c]
      show (if false = true then _ else _)
      rw [if_neg Bool.false_ne_true]
      unfold mwS at I2 hm3
      rw [if_pos c] at I2 hm3
      exact hx2 _ ⟨M', W', _, rfl, I2, by omega⟩
    · rw [decide_eq_false c]
      show (if true = true then _ else _)
      rw [if_pos rfl]
      unfold mwS at I2 hm3
      rw [if_neg c] at I2 hm3
      refine ⟨_, rfl, by rw [List.length_map]; exact sl16 (by omega), ?_⟩
      refine ⟨_, rfl, by rw [List.length_map]; exact sl16 (by omega), ?_⟩
      exact hx2 _ ⟨M' ++ [n], W' ++ [n], some (.d (.int (n : Nat))), by unfold natsD; rw [List.map_append, List.map_append]; rfl, I2, Nat.le_trans hm3 hm'⟩
  rintro env ⟨M', W', u4, rfl, I', hm'⟩
  rw [List.drop_length] at I'
  exact hx (msr s M' W') _ (by omega) ⟨M', W', u4, rfl, I', Nat.le_refl _, by omega⟩

theorem sc__law_builds : FnScope ["sheets", "sheet", "known", "found", "numbers", "line", "key", "k"] ["sheets"] (defScope s__law_builds) := ⟨rfl, rfl, rfl, by decide +kernel, rfl, by decide +kernel, by decide +kernel⟩
theorem fn__law_builds (A : At K mg "_law_builds" s__law_builds ["sheets"]) (T : Blt w K mg) (G__law_members : Fn P w K mg base "_law_members" 1 ["line"] (spX K 1 m__law_members)) : Fn P w K mg base "_law_builds" 2 ["sheets"] (spX K 1 m__law_builds) := by
  refine fnD (k := 1) (m := m__law_builds) A sc__law_builds (fun G f cdv A outer s H E hr ss R hl hm => ?_)
  refine ⟨_, _, (dss_cons (ds_par2 2 3 sc__law_builds.nd (k_newN (P := P) (w := w) (K := K) rfl rfl rfl) (de_lst da_nil) (pa_cons (DE.pe (F := G) (k_newN (P := P) (w := w) (K := K) rfl rfl rfl)) (pa_cons (DE.pe (F := G) (de_lst da_nil)) pa_nil)))
      (dss_cons (ds_for (js := [1]) (ki_list (K := K) rfl (de_v 0)) (by exact (dg_name 1 (by decide) sc__law_builds.nd)) (dss_cons (ds_set 4 sc__law_builds.nd (de_lst da_nil))
      (dss_cons (ds_for (js := [5]) (ki_tup (K := K) rfl (de_v 1)) (by exact (dg_name 5 (by decide) sc__law_builds.nd)) (dss_cons (ds_set 6 sc__law_builds.nd (de_ifE (dt_cmp op_eq (fun _ => lo_eqS) (de_ix (k_ix (K := K) rfl) (fun _ => lo_ix) (de_v 5) de_int) de_str) (de_v 5) (de_tup (da_cons (de_ix (k_ix (K := K) rfl) (fun _ => lo_ix) (de_v 5) de_int) (da_cons (de_callTy (k_tuple (K := K) rfl) (fun _ => lc_tuple) T.m_tuple (da_cons (de_lc (own := [("k", 7)]) sc__law_builds.nd (ki_list (K := K) rfl (k_fn (K := K) rfl G__law_members (hr.mono (by decide)) (da_cons (de_v 5) da_nil))) (blkOk_by (N := ["sheets", "sheet", "known", "found", "numbers", "line", "key", "k"]) (sc := defScope s__law_builds) (by decide +kernel)) (fun _ _ _ _ _ => by exact (dg_name 7 (by decide) sc__law_builds.nd)) (fun _ _ _ _ _ => by exact dp_nil) (fun _ _ _ _ _ => by exact (k_ixOwn (K := K) rfl (i := 4) (de_v 7)))) da_nil)) da_nil)))))
      (dss_cons (ds_if (k_notInN (P := P) (w := w) (K := K) rfl rfl rfl hr.units 2 (de_v 6)) (dss_one (k_putN (P := P) (w := w) (K := K) rfl rfl rfl hr.units 2 (k_lenN (P := P) (w := w) (K := K) rfl rfl rfl 2 T.m_len) (de_v 6))) dss_nil)
      (dss_one (ds_app 4 (k_getN (P := P) (w := w) (K := K) rfl rfl rfl hr.units 2 (de_v 6)) (h := pe_bm PySem.F.plainAttrs_list PySem.F.slot_list_append PySem.F.type_list_append mt_append (pv 4) (pa_cons (DE.pe (F := G) ((k_getN (P := P) (w := w) (K := K) rfl rfl rfl hr.units 2 (de_v 6)))) pa_nil)))))))
      (dss_frz [4] (dss_one (ds_app 3 (de_v 4) (h := pe_bm PySem.F.plainAttrs_list PySem.F.slot_list_append PySem.F.type_list_append mt_append (pv 3) (pa_cons (DE.pe (F := G) ((de_v 4))) pa_nil))))))))
      (dss_one (ds_retOwn 3)))), ?_⟩
  obtain ⟨s, t, rfl, ls, lt, sl, tl, hR⟩ := hm
  refine ⟨_, rfl, s16 (by show 0 ≤ 16777216; omega), ?_⟩
  refine ⟨_, rfl, ?_⟩
  obtain ⟨Kj, eK⟩ : ∃ Kj : Nat → List Ln, Kj = fun j => if j = 0 then [] else if j = 1 then (onceL s).1 else (onceG (onceL s).1 t).1 := ⟨_, rfl⟩
  obtain ⟨Fj, eF⟩ : ∃ Fj : Nat → List PyData, Fj = fun j => if j = 0 then [] else if j = 1 then [.list (natsD (onceL s).2)] else [.list (natsD (onceL s).2), .list (natsD (onceG (onceL s).1 t).2)] := ⟨_, rfl⟩
  refine loop_byT sheetD (l := [s, t]) (fun j env => ∃ v1 v4 v5 v6, env = [some (.d (.list [sheetD s, sheetD t])), v1, some (.ownX (NT P w K (nsK bldK (Kj j)))), some (.own (Fj j)), v4, v5, v6, none]) ⟨none, none, none, none, by rw [eK, eF]; rfl⟩ ?_ ?_
  · rintro j u env hj ⟨v1, v4, v5, v6, rfl⟩ nx hx
    have hj2 : j < 2 := (List.getElem?_eq_some_iff.mp hj).1
    have fin : ∀ v1 v4 v5 v6, nx [some (.d (.list [sheetD s, sheetD t])), v1, some (.ownX (NT P w K (nsK bldK (onceG (Kj j) u).1))), some (.own (Fj j ++ [.list (natsD (onceG (Kj j) u).2)])), v4, v5, v6, none] := fun v1 v4 v5 v6 => hx _ ⟨v1, v4, v5, v6, by
      rw [eK, eF]
      match j, hj2, hj with
      | 0, _, hj => cases hj; rfl
      | 1, _, hj => cases hj; rfl⟩
    obtain ⟨lu, ul⟩ : Low u ∧ u.length ≤ 1000 := by
      match j, hj2, hj with
      | 0, _, hj => cases hj; exact ⟨ls, sl⟩
      | 1, _, hj => cases hj; exact ⟨lt, tl⟩
    have lK : (Kj j).length ≤ 1000 := by
      rw [eK]
      match j, hj2, hj with
      | 0, _, hj => exact Nat.zero_le _
      | 1, _, hj => have := (once_all ls).len; show (onceL s).1.length ≤ 1000; omega
    have lF : (Fj j).length ≤ 2 := by
      rw [eF]
      match j, hj2, hj with
      | 0, _, hj => exact Nat.zero_le _
      | 1, _, hj => show 1 ≤ 2; omega
    generalize Kj j = K0 at *
    generalize Fj j = F0 at *
    refine ⟨_, rfl, s16 (by show 0 ≤ 16777216; omega), ?_⟩
    refine ⟨_, rfl, ?_⟩
    refine loop_byT lnD (fun i env => ∃ v5 v6, env = [some (.d (.list [sheetD s, sheetD t])), some (.d (sheetD u)), some (.ownX (NT P w K (nsK bldK (onceG K0 (u.take i)).1))), some (.own F0), some (.own (natsD (onceG K0 (u.take i)).2)), v5, v6, none]) ⟨v5, v6, rfl⟩ ?_ ?_
    · rintro i l env hi ⟨v5, v6, rfl⟩ nx2 hx2
      have hlow := lu i l hi
      have iu := lt_of_at hi
      have st := onceG_take K0 hi
      obtain ⟨st0, e0⟩ : ∃ st0, st0 = onceG K0 (u.take i) := ⟨_, rfl⟩
      have lp0 : st0.2.length = i := by rw [e0]; exact onceG_len2 K0 (by omega)
      have lk0 : st0.1.length ≤ 2000 := by have := onceG_len1 K0 (u.take i); rw [List.length_take] at this; rw [e0]; omega
      rw [← e0] at st ⊢
      unfold onceS at st
      have fin : ∀ v6, nx2 [some (.d (.list [sheetD s, sheetD t])), some (.d (sheetD u)), some (.ownX (NT P w K (nsK bldK (if (l.ren fun m => st0.2.getD m 0) ∈ st0.1 then st0.1 else st0.1 ++ [l.ren fun m => st0.2.getD m 0])))), some (.own F0), some (.own (natsD (st0.2 ++ [(if (l.ren fun m => st0.2.getD m 0) ∈ st0.1 then st0.1 else st0.1 ++ [l.ren fun m => st0.2.getD m 0]).idxOf (l.ren fun m => st0.2.getD m 0)]))), some (.d (lnD l)), v6, none] := fun v6 => hx2 _ ⟨_, _, by rw [st]⟩
      obtain ⟨l', el⟩ : ∃ l', l' = l.ren fun m => st0.2.getD m 0 := ⟨_, rfl⟩
      have ml := mem_len l
      rw [← el] at fin
      have szn : (natsD st0.2).length < sizeLine := by rw [List.length_map]; exact sl16 (by omega)
      refine seq_by (fun v => v = keyT (bldK l')) (fun Q q => ?_) ?_
      · rcases ln_split l hlow.1 with ⟨w, rfl⟩ | N
        · refine ⟨.str "letter", ix_0, eqS_yes ?_⟩
          exact q _ (by rw [el]; rfl)
        · have e5 : lnD l = .tuple (.str l.word :: lnR l) := ln_d l
          have q2 : Q (.d (.tuple [.str l.word, .tuple (l.mem.map fun m => .int (st0.2.getD m 0 : Nat))])) := q _ (by
            rw [el]
            cases l with
            | lt w => exact absurd rfl N.ne
            | yes => rfl
            | un a => rfl
            | bi o a b => rfl)
          rw [e5]
          refine ⟨_, ix_0, eqS_no N.ne ?_⟩
          refine ⟨_, ix_0, rfl, l, by rw [← e5]; rfl, hlow.1, _, rfl, by rw [List.length_map]; exact s16 (by omega), ?_⟩
          refine lc_mapT (fun (i : Nat) => PyData.int (i : Nat)) (fun m => PyData.int (st0.2.getD m 0 : Nat)) (fun n hn q hq => ⟨_, rfl, _, _, rfl, ix_at (pl_at (by rw [lp0]; exact hlow.2 n hn)), hq _ rfl⟩) ?_
          exact ⟨_, rfl, s16 (by show 2 ≤ 16777216; omega), q2⟩
      rintro _ rfl
      refine ⟨bldK l', rfl, bldK_ok _, _, rfl, ?_⟩
      show (if (true != (getN (nsK bldK st0.1) (.tup (bldK l'))).isSome) = true then _ else _)
      rw [getN_ns bldK_inj]
      by_cases c : l' ∈ st0.1
      · rw [if_pos c] at fin ⊢
        show (if false = true then _ else _)
        rw [if_neg Bool.false_ne_true]
        refine ⟨_, rfl, bldK l', _, rfl, bldK_ok _, by rw [getN_ns bldK_inj, if_pos c], _, rfl, szn, ?_⟩
        have := fin (some (keyT (bldK l')))
        rw [nats_snoc9] at this
        exact this
      · rw [if_neg c] at fin ⊢
        show (if true = true then _ else _)
        rw [if_pos rfl]
        refine ⟨_, rfl, _, rfl, _, rfl, bldK l', rfl, bldK_ok _, by rw [getN_ns bldK_inj, if_neg c], by rw [nsK_len]; exact sl16 (by omega), ?_⟩
        rw [nsK_len, ← nsK_snoc]
        have hin : l' ∈ st0.1 ++ [l'] := by simp
        refine ⟨_, rfl, bldK l', _, rfl, bldK_ok _, by rw [getN_ns bldK_inj, if_pos hin], _, rfl, szn, ?_⟩
        have := fin (some (keyT (bldK l')))
        rw [nats_snoc9] at this
        exact this
    rintro env ⟨v5, v6, rfl⟩
    rw [List.take_length]
    exact ⟨_, rfl, sl16 (by omega), fin _ _ _ _⟩
  rintro env ⟨v1, v4, v5, v6, rfl⟩
  rw [eF]
  exact hR

theorem sc_needed_by : FnScope ["sheet", "number"] ["sheet", "number"] (defScope s_needed_by) := ⟨rfl, rfl, rfl, by decide +kernel, rfl, by decide +kernel, by decide +kernel⟩
theorem fn_needed_by (A : At K mg "needed_by" s_needed_by ["sheet", "number"]) (T : Blt w K mg) (G_needed_by_all : Fn P w K mg base "needed_by_all" 2 ["sheet", "numbers"] (spX K 2 m_needed_by_all)) : Fn P w K mg base "needed_by" 3 ["sheet", "number"] (spX K 2 m_needed_by) := by
  refine fnD (k := 2) (m := m_needed_by) A sc_needed_by (fun G f cdv A outer s H E hr ss R hl hm => ?_)
  refine ⟨_, _, (dss_one (ds_ret (k_fn (K := K) rfl G_needed_by_all (hr.mono (by decide)) (da_cons (de_v 0) (da_cons (de_lst (da_cons (de_v 1) da_nil)) da_nil))))), ?_⟩
  obtain ⟨s, k, rfl, low, hk, hs, hR⟩ := hm
  exact ⟨_, rfl, s16 (by show 1 ≤ 16777216; omega), rfl, s, k, rfl, low, hk, hs, hR⟩

theorem sc__law_words : FnScope ["source", "many", "some"] ["source", "many"] (defScope s__law_words) := ⟨rfl, rfl, rfl, by decide +kernel, rfl, by decide +kernel, by decide +kernel⟩
theorem fn__law_words (A : At K mg "_law_words" s__law_words ["source", "many"]) (T : Blt w K mg) (G__law_mixed : Fn P w K mg base "_law_mixed" 2 ["source", "things"] (spX K 2 m__law_mixed)) : Fn P w K mg base "_law_words" 3 ["source", "many"] (spX K 2 m__law_words) := by
  refine fnD (k := 2) (m := m__law_words) A sc__law_words (fun G f cdv A outer s H E hr ss R hl hm => ?_)
  refine ⟨_, _, (dss_cons (ds_set 2 sc__law_words.nd (DE.fz (de_lst (da_cons de_str (da_cons de_str (da_cons de_str (da_cons de_str (da_cons de_str (da_cons de_str (da_cons de_str (da_cons de_str (da_cons de_str (da_cons de_str (da_cons de_str (da_cons de_str (da_cons de_str da_nil))))))))))))))))
      (dss_one (ds_ret (de_callB (k_sortedS (K := K) rfl) (fun _ => lc_sortedS) T.m_sorted (da_cons (de_slice (k_slL (K := K) rfl) (fun _ => ls_list) (k_fn (K := K) rfl G__law_mixed (hr.mono (by decide)) (da_cons (de_v 0) (da_cons (de_v 2) da_nil))) do_none (do_some (de_v 1))) da_nil))))), ?_⟩
  obtain ⟨n, rfl, h1, h13, hR⟩ := hm
  refine ⟨baseW.map PyData.str, rfl, by show 13 ≤ sizeLine; rw [sizeLine_eq]; decide, ?_⟩
  refine ⟨rfl, baseW.map PyData.str, rfl, by decide, fun ys p => ?_⟩
  refine ⟨(n : Int), rfl, ?_⟩
  obtain ⟨zs, pz, rfl⟩ := perm_map (g := unStr) (fun _ => rfl) p
  show fSortedS [.d (.list (Pu.cutD (zs.map PyData.str) none (some (n : Int))))] _
  rw [cut_take, ← List.map_take]
  have hz : zs.length = 13 := pz.length_eq
  have nd : zs.Nodup := pz.nodup_iff.mpr (by decide)
  refine ⟨zs.take n, strsD_map _, by rw [List.length_take]; omega, fun ys pm hs => hR ys ⟨hs, pm.nodup_iff.mpr (nd.sublist (List.take_sublist _ _)), ?_, fun x hx => pz.mem_iff.mp (List.take_subset _ _ (pm.mem_iff.mp hx))⟩⟩
  rw [pm.length_eq, List.length_take]; omega

theorem sc__law_row : FnScope ["source", "words", "most", "sizes", "parts", "far", "size", "lap"] ["source", "words", "most"] (defScope s__law_row) := ⟨rfl, rfl, rfl, by decide +kernel, rfl, by decide +kernel, by decide +kernel⟩
theorem fn__law_row (A : At K mg "_law_row" s__law_row ["source", "words", "most"]) (T : Blt w K mg) (G__law_lot : Fn P w K mg base "_law_lot" 2 ["source", "words"] (spX K 2 m__law_lot)) (G__law_of : Fn P w K mg base "_law_of" 2 ["source", "some"] (spX K 2 m__law_of)) (G__law_pick : Fn P w K mg base "_law_pick" 1 ["source", "many"] (spX K 2 m__law_pick)) : Fn P w K mg base "_law_row" 3 ["source", "words", "most"] (spX K 3 m__law_row) := by
  refine fnD (k := 2) (m := m__law_row) A sc__law_row (fun G f cdv A outer s H E hr ss R hl hm => ?_)
  refine ⟨_, _, (dss_cons (ds_set 3 sc__law_row.nd (DE.fz (de_lst (da_cons (de_op op_add (fun _ => lo_add) de_int (k_fn (K := K) rfl G__law_pick (hr.mono (by decide)) (da_cons (de_v 0) (da_cons (de_v 2) da_nil)))) (da_cons (k_fn (K := K) rfl G__law_pick (hr.mono (by decide)) (da_cons (de_v 0) (da_cons (de_op op_add (fun _ => lo_add) (de_v 2) de_int) da_nil))) (da_cons (de_op op_add (fun _ => lo_add) de_int (k_fn (K := K) rfl G__law_pick (hr.mono (by decide)) (da_cons (de_v 0) (da_cons (de_v 2) da_nil)))) da_nil))))))
      (dss_cons (ds_setLcF 4 (own := [("size", 6)]) sc__law_row.nd (ki_list (K := K) rfl (de_v 3)) (blkOk_by (N := ["source", "words", "most", "sizes", "parts", "far", "size", "lap"]) (sc := defScope s__law_row) (by decide +kernel)) (fun _ _ _ _ _ => by exact (dg_name 6 (by decide) sc__law_row.nd)) (fun _ _ _ _ _ => by exact dp_nil) (fun _ _ _ _ _ => by exact (de_callTy (k_tuple (K := K) rfl) (fun _ => lc_tuple) T.m_tuple (da_cons (de_lc (own := [("lap", 7)]) sc__law_row.nd (di_rng1 T.m_range (da_cons (de_v 6) da_nil)) (blkOk_by (N := ["source", "words", "most", "sizes", "parts", "far", "size", "lap"]) (sc := relS _ (defScope s__law_row)) (by decide +kernel)) (fun _ _ _ _ _ => by exact (dg_name 7 (by decide) sc__law_row.nd)) (fun _ _ _ _ _ => by exact dp_nil) (fun _ _ _ _ _ => by exact (k_fn (K := K) rfl G__law_lot (hr.mono (by decide)) (da_cons (de_v 0) (da_cons (de_v 1) da_nil))))) da_nil))) (sw_true rfl rfl rfl (by decide +kernel)))
      (dss_cons (ds_set 5 sc__law_row.nd (k_fn (K := K) rfl G__law_of (hr.mono (by decide)) (da_cons (de_v 0) (da_cons (de_lst (da_cons de_int (da_cons de_int (da_cons de_int (da_cons de_int (da_cons (de_op op_sub (fun _ => lo_sub) (de_op op_pow (fun _ => lo_pow) de_int de_int) de_int) (da_cons (de_op op_sub (fun _ => lo_sub) de_int (de_op op_pow (fun _ => lo_pow) de_int de_int)) da_nil))))))) da_nil))))
      (dss_one (ds_ret (de_tup (da_cons (de_op op_sub (fun _ => lo_sub) (de_op op_add (fun _ => lo_add) (de_v 5) (k_fn (K := K) rfl G__law_pick (hr.mono (by decide)) (da_cons (de_v 0) (da_cons de_int da_nil)))) de_int) (da_cons (de_ix (k_ix (K := K) rfl) (fun _ => lo_ix) (de_v 4) de_int) (da_cons (de_ix (k_ix (K := K) rfl) (fun _ => lo_ix) (de_v 4) de_int) (da_cons (de_ix (k_ix (K := K) rfl) (fun _ => lo_ix) (de_v 4) de_int) da_nil)))))))))), ?_⟩
  obtain ⟨ws, n, rfl, hw, h1, h2, hR⟩ := hm
  refine ⟨rfl, n, rfl, by omega, fun a a0 a1 => ⟨rfl, n + 2, rfl, by omega, fun b b0 b1 => ⟨rfl, n, rfl, by omega, fun c c0 c1 => ?_⟩⟩⟩
  have a2 : a ≤ 10 := by split at a1 <;> omega
  have b2 : b ≤ 12 := by split at b1 <;> omega
  have c2 : c ≤ 10 := by split at c1 <;> omega
  refine ⟨[.int (1 + a), .int b, .int (1 + c)], rfl, by rw [sizeLine_eq]; show 3 ≤ 16777216; decide, ?_⟩
  have hsz : ∀ y ∈ ([.int (1 + a), .int b, .int (1 + c)] : List PyData), ∃ n : Int, y = .int n ∧ 0 ≤ n ∧ n ≤ 60 := fun y hy => by
    simp only [List.mem_cons, List.not_mem_nil, or_false] at hy
    rcases hy with rfl | rfl | rfl <;> exact ⟨_, rfl, by omega, by omega⟩
  refine ⟨_, rfl, by rw [sizeLine_eq]; show 3 ≤ 16777216; decide, ?_⟩
  refine lc_by (fun i acc => ∃ parts : List (List (List Str)), acc = parts.map lotsD ∧ parts.length = i ∧ ∀ (j : Nat) (part : List (List Str)), parts[j]? = some part → ∃ n : Int, ([.int (1 + a), .int b, .int (1 + c)] : List PyData)[j]? = some (PyData.int n) ∧ PartOk ws n.toNat part) ⟨[], rfl, rfl, fun j part h => by simp at h⟩ (fun j y acc hy hI k hk => ?_) (fun acc ha => ?_)
  · obtain ⟨parts, rfl, hl, hp⟩ := hI
    obtain ⟨n, rfl, n0, n1⟩ := hsz y (List.mem_of_getElem? hy)
    refine ⟨n, rfl, ⟨by omega, by omega⟩, by rw [rngD_length, sizeLine_eq]; omega, ?_⟩
    refine lc_all (fun x => ∃ l : List Str, l.Sublist ws ∧ x = lotD l) (fun y hy k2 hk2 => ⟨rfl, ws, rfl, by omega, fun lot hlot => hk2 _ _ rfl ⟨lot, hlot, rfl⟩⟩) (fun zs hz hP => ?_)
    obtain ⟨part, rfl, hsub⟩ := lots_of hP
    rw [List.length_map, rngD_length] at hz
    refine ⟨_, rfl, hk _ ⟨parts ++ [part], by rw [List.map_append]; rfl, by simp [hl], fun i q hq => ?_⟩⟩
    rw [List.getElem?_append] at hq
    split at hq
    · exact hp i q hq
    · rename_i hi
      have e : i = j := by
        have : i - parts.length < 1 := by
          have := (List.getElem?_eq_some_iff.mp hq).1
          simpa using this
        omega
      subst e
      rw [hl, Nat.sub_self] at hq
      cases hq
      exact ⟨n, hy, hz, hsub⟩
  obtain ⟨parts, rfl, hl, hp⟩ := ha
  obtain ⟨p0, p1, p2, rfl⟩ : ∃ p0 p1 p2, parts = [p0, p1, p2] := by
    match parts, hl with
    | [a, b, c], _ => exact ⟨a, b, c, rfl⟩
  obtain ⟨m0, e0, q0⟩ := hp 0 p0 rfl
  obtain ⟨m1, e1, q1⟩ := hp 1 p1 rfl
  obtain ⟨m2, e2, q2⟩ := hp 2 p2 rfl
  cases e0
  cases e1
  cases e2
  
  refine ⟨⟨by decide, by decide, by decide⟩, ⟨by decide, by decide, by decide⟩, ([.int 0, .int 0, .int 0, .int 0, .int (10 ^ 30 - 300), .int (300 - 10 ^ 30)] : List PyData), rfl, by rw [sizeLine_eq]; decide, rfl, _, rfl, by decide, by decide, fun x hx => ?_⟩
  obtain ⟨v, rfl, hv⟩ : ∃ v : Int, x = .int v ∧ v.natAbs ≤ 10 ^ 30 := by
    simp only [List.mem_cons, List.not_mem_nil, or_false] at hx
    rcases hx with rfl | rfl | rfl | rfl | rfl | rfl <;> exact ⟨_, rfl, by decide⟩
  refine ⟨rfl, 9, rfl, by decide, fun k k0 k1 => ?_⟩
  have k1 : k < 9 := k1
  refine ⟨_, rfl, _, rfl, _, rfl, _, rfl, by rw [sizeLine_eq]; show 4 ≤ 16777216; decide, ?_⟩
  have hfar : (v + k - 4).natAbs ≤ 10 ^ 40 := by
    have : (10 : Nat) ^ 40 ≥ 10 ^ 30 + 100 := by decide
    omega
  exact hR ⟨v + k - 4, p0, p1, p2⟩ (rowOk q0 q1 q2 (by omega) (by omega) (by omega) (by omega) (by omega) hfar)

theorem sc__law_tables : FnScope ["sheet", "row", "start", "end", "line", "first", "left", "middle", "right", "lots", "found", "some", "n", "k", "lot", "one", "other"] ["sheet", "row"] (defScope s__law_tables) := ⟨rfl, rfl, rfl, by decide +kernel, rfl, by decide +kernel, by decide +kernel⟩
theorem fn__law_tables (A : At K mg "_law_tables" s__law_tables ["sheet", "row"]) (T : Blt w K mg) (G__law_going : Fn P w K mg base "_law_going" 1 ["heads", "ways", "size"] (spX K 3 m__law_going)) (G__law_lot_at : Fn P w K mg base "_law_lot_at" 1 ["row", "moment"] (spX K 2 m__law_lot_at)) (G__law_members : Fn P w K mg base "_law_members" 1 ["line"] (spX K 1 m__law_members)) (G__law_nests : Fn P w K mg base "_law_nests" 2 ["sheet", "word"] (spX K 2 m__law_nests)) : Fn P w K mg base "_law_tables" 3 ["sheet", "row"] (spX K 2 m__law_tables) := by
  refine fnD (k := 2) (m := m__law_tables) A sc__law_tables (fun G f cdv A outer s H E hr ss R hl hm => ?_)
  refine ⟨_, _, (dss_cons (ds_asg (js := [5, 6, 7, 8]) (de_v 1) (by exact (kg_tup (K := K) (n := 4) rfl rfl (dgs_cons (dg_name 5 (by decide) sc__law_tables.nd) (dgs_cons (dg_name 6 (by decide) sc__law_tables.nd) (dgs_cons (dg_name 7 (by decide) sc__law_tables.nd) (dgs_cons (dg_name 8 (by decide) sc__law_tables.nd) dgs_nil)))))))
      (dss_cons (ds_set 2 sc__law_tables.nd (de_op op_sub (fun _ => lo_sub) (de_v 5) (de_op op_mul (fun _ => lo_mul) (de_callB (k_len (K := K) rfl) (fun _ => lc_len) T.m_len (da_cons (de_v 6) da_nil)) (de_op op_add (fun _ => lo_add) (k_fn (K := K) rfl G__law_nests (hr.mono (by decide)) (da_cons (de_v 0) (da_cons de_str da_nil))) de_int))))
      (dss_cons (ds_set 3 sc__law_tables.nd (de_op op_add (fun _ => lo_add) (de_op op_add (fun _ => lo_add) (de_v 5) (de_callB (k_len (K := K) rfl) (fun _ => lc_len) T.m_len (da_cons (de_v 7) da_nil))) (de_op op_mul (fun _ => lo_mul) (de_callB (k_len (K := K) rfl) (fun _ => lc_len) T.m_len (da_cons (de_v 8) da_nil)) (de_op op_add (fun _ => lo_add) (k_fn (K := K) rfl G__law_nests (hr.mono (by decide)) (da_cons (de_v 0) (da_cons de_str da_nil))) de_int))))
      (dss_cons (k_parLC (K := K) rfl 9 10 sc__law_tables.nd (de_lc (own := [("n", 12)]) sc__law_tables.nd (di_rngA T.m_range (da_cons (de_v 2) (da_cons (de_v 3) da_nil))) (blkOk_by (N := ["sheet", "row", "start", "end", "line", "first", "left", "middle", "right", "lots", "found", "some", "n", "k", "lot", "one", "other"]) (sc := defScope s__law_tables) (by decide +kernel)) (fun _ _ _ _ _ => by exact (dg_name 12 (by decide) sc__law_tables.nd)) (fun _ _ _ _ _ => by exact dp_nil) (fun _ _ _ _ _ => by exact (k_fn (K := K) rfl G__law_lot_at (hr.mono (by decide)) (da_cons (de_v 1) (da_cons (de_v 12) da_nil))))) (de_lst da_nil) (pa_cons (DE.pe (F := G) (de_lc (own := [("n", 12)]) sc__law_tables.nd (di_rngA T.m_range (da_cons (de_v 2) (da_cons (de_v 3) da_nil))) (blkOk_by (N := ["sheet", "row", "start", "end", "line", "first", "left", "middle", "right", "lots", "found", "some", "n", "k", "lot", "one", "other"]) (sc := defScope s__law_tables) (by decide +kernel)) (fun _ _ _ _ _ => by exact (dg_name 12 (by decide) sc__law_tables.nd)) (fun _ _ _ _ _ => by exact dp_nil) (fun _ _ _ _ _ => by exact (k_fn (K := K) rfl G__law_lot_at (hr.mono (by decide)) (da_cons (de_v 1) (da_cons (de_v 12) da_nil)))))) (pa_cons (DE.pe (F := G) (de_lst da_nil)) pa_nil)) (DG.pe (F := G) (js := [9, 10]) (kg_tup (K := K) (n := 2) rfl rfl (dgs_cons (dg_name 9 (by decide) sc__law_tables.nd) (dgs_cons (dg_name 10 (by decide) sc__law_tables.nd) dgs_nil)))))
      (dss_cons (ds_for (js := [4]) (ki_tup (K := K) rfl (de_v 0)) (by exact (dg_name 4 (by decide) sc__law_tables.nd)) (dss_cons (ds_setLcF 11 (own := [("k", 13)]) sc__law_tables.nd (ki_list (K := K) rfl (k_fn (K := K) rfl G__law_members (hr.mono (by decide)) (da_cons (de_v 4) da_nil))) (blkOk_by (N := ["sheet", "row", "start", "end", "line", "first", "left", "middle", "right", "lots", "found", "some", "n", "k", "lot", "one", "other"]) (sc := defScope s__law_tables) (by decide +kernel)) (fun _ _ _ _ _ => by exact (dg_name 13 (by decide) sc__law_tables.nd)) (fun _ _ _ _ _ => by exact dp_nil) (fun _ _ _ _ _ => by exact (k_ixOwn (K := K) rfl (i := 10) (de_v 13))) (sw_true rfl rfl rfl (by decide +kernel)))
      (dss_one (ds_if (dt_cmp op_eq (fun _ => lo_eqS) (de_ix (k_ix (K := K) rfl) (fun _ => lo_ix) (de_v 4) de_int) de_str) (dss_one (ds_app 10 (de_lc (own := [("lot", 14)]) sc__law_tables.nd (ki_list (K := K) rfl (de_v 9)) (blkOk_by (N := ["sheet", "row", "start", "end", "line", "first", "left", "middle", "right", "lots", "found", "some", "n", "k", "lot", "one", "other"]) (sc := defScope s__law_tables) (by decide +kernel)) (fun _ _ _ _ _ => by exact (dg_name 14 (by decide) sc__law_tables.nd)) (fun _ _ _ _ _ => by exact dp_nil) (fun _ _ _ _ _ => by exact (de_cmp (k_in (K := K) rfl) (fun _ => lo_in false) (de_ix (k_ix (K := K) rfl) (fun _ => lo_ix) (de_v 4) de_int) (de_v 14)))) (h := pe_bm PySem.F.plainAttrs_list PySem.F.slot_list_append PySem.F.type_list_append mt_append (pv 10) (pa_cons (DE.pe (F := G) ((de_lc (own := [("lot", 14)]) sc__law_tables.nd (ki_list (K := K) rfl (de_v 9)) (blkOk_by (N := ["sheet", "row", "start", "end", "line", "first", "left", "middle", "right", "lots", "found", "some", "n", "k", "lot", "one", "other"]) (sc := defScope s__law_tables) (by decide +kernel)) (fun _ _ _ _ _ => by exact (dg_name 14 (by decide) sc__law_tables.nd)) (fun _ _ _ _ _ => by exact dp_nil) (fun _ _ _ _ _ => by exact (de_cmp (k_in (K := K) rfl) (fun _ => lo_in false) (de_ix (k_ix (K := K) rfl) (fun _ => lo_ix) (de_v 4) de_int) (de_v 14)))))) pa_nil)))) (dss_one (ds_if (dt_cmp op_eq (fun _ => lo_eqS) (de_ix (k_ix (K := K) rfl) (fun _ => lo_ix) (de_v 4) de_int) de_str) (dss_one (ds_app 10 (de_lc (own := [("lot", 14)]) sc__law_tables.nd (ki_list (K := K) rfl (de_v 9)) (blkOk_by (N := ["sheet", "row", "start", "end", "line", "first", "left", "middle", "right", "lots", "found", "some", "n", "k", "lot", "one", "other"]) (sc := defScope s__law_tables) (by decide +kernel)) (fun _ _ _ _ _ => by exact (dg_name 14 (by decide) sc__law_tables.nd)) (fun _ _ _ _ _ => by exact dp_nil) (fun _ _ _ _ _ => by exact de_bl)) (h := pe_bm PySem.F.plainAttrs_list PySem.F.slot_list_append PySem.F.type_list_append mt_append (pv 10) (pa_cons (DE.pe (F := G) ((de_lc (own := [("lot", 14)]) sc__law_tables.nd (ki_list (K := K) rfl (de_v 9)) (blkOk_by (N := ["sheet", "row", "start", "end", "line", "first", "left", "middle", "right", "lots", "found", "some", "n", "k", "lot", "one", "other"]) (sc := defScope s__law_tables) (by decide +kernel)) (fun _ _ _ _ _ => by exact (dg_name 14 (by decide) sc__law_tables.nd)) (fun _ _ _ _ _ => by exact dp_nil) (fun _ _ _ _ _ => by exact de_bl)))) pa_nil)))) (dss_one (ds_if (dt_cmp op_eq (fun _ => lo_eqS) (de_ix (k_ix (K := K) rfl) (fun _ => lo_ix) (de_v 4) de_int) de_str) (dss_one (ds_app 10 (de_lc (own := [("one", 15)]) sc__law_tables.nd (ki_list (K := K) rfl (de_ix (k_ix (K := K) rfl) (fun _ => lo_ix) (de_v 11) de_int)) (blkOk_by (N := ["sheet", "row", "start", "end", "line", "first", "left", "middle", "right", "lots", "found", "some", "n", "k", "lot", "one", "other"]) (sc := defScope s__law_tables) (by decide +kernel)) (fun _ _ _ _ _ => by exact (dg_name 15 (by decide) sc__law_tables.nd)) (fun _ _ _ _ _ => by exact dp_nil) (fun _ _ _ _ _ => by exact (de_not (de_v 15)))) (h := pe_bm PySem.F.plainAttrs_list PySem.F.slot_list_append PySem.F.type_list_append mt_append (pv 10) (pa_cons (DE.pe (F := G) ((de_lc (own := [("one", 15)]) sc__law_tables.nd (ki_list (K := K) rfl (de_ix (k_ix (K := K) rfl) (fun _ => lo_ix) (de_v 11) de_int)) (blkOk_by (N := ["sheet", "row", "start", "end", "line", "first", "left", "middle", "right", "lots", "found", "some", "n", "k", "lot", "one", "other"]) (sc := defScope s__law_tables) (by decide +kernel)) (fun _ _ _ _ _ => by exact (dg_name 15 (by decide) sc__law_tables.nd)) (fun _ _ _ _ _ => by exact dp_nil) (fun _ _ _ _ _ => by exact (de_not (de_v 15)))))) pa_nil)))) (dss_one (ds_if (dt_cmp op_eq (fun _ => lo_eqS) (de_ix (k_ix (K := K) rfl) (fun _ => lo_ix) (de_v 4) de_int) de_str) (dss_one (ds_app 10 (de_lc (own := [("one", 15), ("other", 16)]) sc__law_tables.nd (ki_zip (K := K) rfl T.m_zip (da_cons (de_ix (k_ix (K := K) rfl) (fun _ => lo_ix) (de_v 11) de_int) (da_cons (de_ix (k_ix (K := K) rfl) (fun _ => lo_ix) (de_v 11) de_int) da_nil))) (blkOk_by (N := ["sheet", "row", "start", "end", "line", "first", "left", "middle", "right", "lots", "found", "some", "n", "k", "lot", "one", "other"]) (sc := defScope s__law_tables) (by decide +kernel)) (fun _ _ _ _ _ => by exact (kg_tup (K := K) (n := 2) rfl rfl (dgs_cons (dg_name 15 (by decide) sc__law_tables.nd) (dgs_cons (dg_name 16 (by decide) sc__law_tables.nd) dgs_nil)))) (fun _ _ _ _ _ => by exact dp_nil) (fun _ _ _ _ _ => by exact (de_and (de_v 15) (de_one (de_v 16))))) (h := pe_bm PySem.F.plainAttrs_list PySem.F.slot_list_append PySem.F.type_list_append mt_append (pv 10) (pa_cons (DE.pe (F := G) ((de_lc (own := [("one", 15), ("other", 16)]) sc__law_tables.nd (ki_zip (K := K) rfl T.m_zip (da_cons (de_ix (k_ix (K := K) rfl) (fun _ => lo_ix) (de_v 11) de_int) (da_cons (de_ix (k_ix (K := K) rfl) (fun _ => lo_ix) (de_v 11) de_int) da_nil))) (blkOk_by (N := ["sheet", "row", "start", "end", "line", "first", "left", "middle", "right", "lots", "found", "some", "n", "k", "lot", "one", "other"]) (sc := defScope s__law_tables) (by decide +kernel)) (fun _ _ _ _ _ => by exact (kg_tup (K := K) (n := 2) rfl rfl (dgs_cons (dg_name 15 (by decide) sc__law_tables.nd) (dgs_cons (dg_name 16 (by decide) sc__law_tables.nd) dgs_nil)))) (fun _ _ _ _ _ => by exact dp_nil) (fun _ _ _ _ _ => by exact (de_and (de_v 15) (de_one (de_v 16))))))) pa_nil)))) (dss_one (ds_if (dt_cmp op_eq (fun _ => lo_eqS) (de_ix (k_ix (K := K) rfl) (fun _ => lo_ix) (de_v 4) de_int) de_str) (dss_one (ds_app 10 (de_lc (own := [("one", 15), ("other", 16)]) sc__law_tables.nd (ki_zip (K := K) rfl T.m_zip (da_cons (de_ix (k_ix (K := K) rfl) (fun _ => lo_ix) (de_v 11) de_int) (da_cons (de_ix (k_ix (K := K) rfl) (fun _ => lo_ix) (de_v 11) de_int) da_nil))) (blkOk_by (N := ["sheet", "row", "start", "end", "line", "first", "left", "middle", "right", "lots", "found", "some", "n", "k", "lot", "one", "other"]) (sc := defScope s__law_tables) (by decide +kernel)) (fun _ _ _ _ _ => by exact (kg_tup (K := K) (n := 2) rfl rfl (dgs_cons (dg_name 15 (by decide) sc__law_tables.nd) (dgs_cons (dg_name 16 (by decide) sc__law_tables.nd) dgs_nil)))) (fun _ _ _ _ _ => by exact dp_nil) (fun _ _ _ _ _ => by exact (de_or (de_v 15) (de_one (de_v 16))))) (h := pe_bm PySem.F.plainAttrs_list PySem.F.slot_list_append PySem.F.type_list_append mt_append (pv 10) (pa_cons (DE.pe (F := G) ((de_lc (own := [("one", 15), ("other", 16)]) sc__law_tables.nd (ki_zip (K := K) rfl T.m_zip (da_cons (de_ix (k_ix (K := K) rfl) (fun _ => lo_ix) (de_v 11) de_int) (da_cons (de_ix (k_ix (K := K) rfl) (fun _ => lo_ix) (de_v 11) de_int) da_nil))) (blkOk_by (N := ["sheet", "row", "start", "end", "line", "first", "left", "middle", "right", "lots", "found", "some", "n", "k", "lot", "one", "other"]) (sc := defScope s__law_tables) (by decide +kernel)) (fun _ _ _ _ _ => by exact (kg_tup (K := K) (n := 2) rfl rfl (dgs_cons (dg_name 15 (by decide) sc__law_tables.nd) (dgs_cons (dg_name 16 (by decide) sc__law_tables.nd) dgs_nil)))) (fun _ _ _ _ _ => by exact dp_nil) (fun _ _ _ _ _ => by exact (de_or (de_v 15) (de_one (de_v 16))))))) pa_nil)))) (dss_one (ds_if (dt_cmp op_eq (fun _ => lo_eqS) (de_ix (k_ix (K := K) rfl) (fun _ => lo_ix) (de_v 4) de_int) de_str) (dss_one (ds_app 10 (k_fn (K := K) rfl G__law_going (hr.mono (by decide)) (da_cons (de_ix (k_ix (K := K) rfl) (fun _ => lo_ix) (de_v 11) de_int) (da_cons (de_ix (k_ix (K := K) rfl) (fun _ => lo_ix) (de_v 11) de_int) (da_cons (de_callB (k_len (K := K) rfl) (fun _ => lc_len) T.m_len (da_cons (de_v 8) da_nil)) da_nil)))) (h := pe_bm PySem.F.plainAttrs_list PySem.F.slot_list_append PySem.F.type_list_append mt_append (pv 10) (pa_cons (DE.pe (F := G) ((k_fn (K := K) rfl G__law_going (hr.mono (by decide)) (da_cons (de_ix (k_ix (K := K) rfl) (fun _ => lo_ix) (de_v 11) de_int) (da_cons (de_ix (k_ix (K := K) rfl) (fun _ => lo_ix) (de_v 11) de_int) (da_cons (de_callB (k_len (K := K) rfl) (fun _ => lc_len) T.m_len (da_cons (de_v 8) da_nil)) da_nil)))))) pa_nil)))) (dss_one (ds_app 10 (k_revL (K := K) rfl (k_fn (K := K) rfl G__law_going (hr.mono (by decide)) (da_cons (k_revL (K := K) rfl (de_ix (k_ix (K := K) rfl) (fun _ => lo_ix) (de_v 11) de_int)) (da_cons (k_revL (K := K) rfl (de_ix (k_ix (K := K) rfl) (fun _ => lo_ix) (de_v 11) de_int)) (da_cons (de_callB (k_len (K := K) rfl) (fun _ => lc_len) T.m_len (da_cons (de_v 6) da_nil)) da_nil))))) (h := pe_bm PySem.F.plainAttrs_list PySem.F.slot_list_append PySem.F.type_list_append mt_append (pv 10) (pa_cons (DE.pe (F := G) ((k_revL (K := K) rfl (k_fn (K := K) rfl G__law_going (hr.mono (by decide)) (da_cons (k_revL (K := K) rfl (de_ix (k_ix (K := K) rfl) (fun _ => lo_ix) (de_v 11) de_int)) (da_cons (k_revL (K := K) rfl (de_ix (k_ix (K := K) rfl) (fun _ => lo_ix) (de_v 11) de_int)) (da_cons (de_callB (k_len (K := K) rfl) (fun _ => lc_len) T.m_len (da_cons (de_v 6) da_nil)) da_nil))))))) pa_nil))))))))))))))))))
      (dss_frz [10] (dss_one (ds_ret (de_disp (dps_cons (de_v 2) (dps_cons (de_v 3) (dps_cons (de_v 10) (dps_cons (de_v 1) dps_nil))))))))))))), ?_⟩
  obtain ⟨s, r, rfl, ok, hl, hr, hR⟩ := hm
  obtain ⟨nu1, nu2⟩ := nests_b "until" s
  obtain ⟨ns1, ns2⟩ := nests_b "since" s
  have l1 := hr.l1
  have l2 := hr.l2
  have m1 := hr.m
  have r1 := hr.r1
  have r2 := hr.r2
  have eL : ((r.left.map lotD).length : Int) = r.left.length := by rw [List.length_map]
  have eM : ((r.mid.map lotD).length : Int) = r.mid.length := by rw [List.length_map]
  have eR : ((r.right.map lotD).length : Int) = r.right.length := by rw [List.length_map]
  have bU : (r.left.length : Int) ≤ (r.left.length : Int) * (mNests "until" s + 1) ∧ (r.left.length : Int) * (mNests "until" s + 1) ≤ 100 * 1001 := ⟨by
    have := Int.mul_le_mul_of_nonneg_left (show (1 : Int) ≤ mNests "until" s + 1 by omega) (show (0 : Int) ≤ r.left.length by omega)
    rwa [Int.mul_one] at this, Int.mul_le_mul (by omega) (by omega) (by omega) (by omega)⟩
  have bS : (r.right.length : Int) ≤ (r.right.length : Int) * (mNests "since" s + 1) ∧ (r.right.length : Int) * (mNests "since" s + 1) ≤ 100 * 1001 := ⟨by
    have := Int.mul_le_mul_of_nonneg_left (show (1 : Int) ≤ mNests "since" s + 1 by omega) (show (0 : Int) ≤ r.right.length by omega)
    rwa [Int.mul_one] at this, Int.mul_le_mul (by omega) (by omega) (by omega) (by omega)⟩
  obtain ⟨st, est⟩ : ∃ st, st = tStart s r := ⟨_, rfl⟩
  obtain ⟨sp, esp⟩ : ∃ sp, sp = tStop s r := ⟨_, rfl⟩
  have est2 : st = r.first - r.left.length * (mNests "until" s + 1) := est
  have esp2 : sp = r.first + r.mid.length + r.right.length * (mNests "since" s + 1) := esp
  have eR2 : ∀ n : Nat, n = (sp - st).toNat → n ≤ 300000 := fun n e => by omega
  refine ⟨_, rfl, rfl, _, _, rfl, _, _, rfl, _, _, rfl, _, _, rfl, rfl, ?_⟩
  refine ⟨rfl, _, s, rfl, ok, by omega, .inl ⟨by rw [eL]; omega, by rw [eL]; omega⟩, ?_⟩
  refine ⟨rfl, _, s, rfl, ok, by omega, .inl ⟨by rw [eR]; omega, by rw [eR]; omega⟩, ?_⟩
  refine ⟨r.first - ((r.left.map lotD).length : Int) * (mNests "until" s + 1), r.first + ((r.mid.map lotD).length : Int) + ((r.right.map lotD).length : Int) * (mNests "since" s + 1), rfl, by rw [rngD_length, eL, eM, eR]; exact s16 (by omega), ?_⟩
  rw [eL, eM, eR, ← est2, ← esp2]
  have eN : (rngD st (sp - st).toNat) = (rangeI st sp).map PyData.int := by unfold rngD rangeI; rw [List.map_map]; rfl
  rw [eN]
  refine lc_mapT PyData.int (fun n => lotD (lotAt r n)) (fun n hn k hk => ?_) ?_
  · exact ⟨rfl, r, n, rfl, ⟨fun e => by rw [e] at l1; simp at l1, fun e => by rw [e] at r1; simp at r1⟩, hk _ rfl⟩
  obtain ⟨lots, elots⟩ : ∃ lots, lots = (rangeI st sp).map (lotAt r) := ⟨_, rfl⟩
  have e5 : ((rangeI st sp).map fun n => lotD (lotAt r n)) = lots.map lotD := by rw [elots, List.map_map]; rfl
  have len5 : lots.length = (sp - st).toNat := by rw [elots]; unfold rangeI; rw [List.length_map, List.length_map, List.length_range]
  have big5 := eR2 _ len5
  rw [e5]
  refine ⟨[], rfl, s16 (by decide), s.map lnD, rfl, ?_⟩
  refine loop_byT lnD (fun j env => ∃ v4 v11 v12 v13 v14 v15 v16, env = [some (.d (sheetD s)), some (.d (rowD r)), some (.d (.int st)), some (.d (.int sp)), v4, some (.d (.int r.first)), some (.d (lotsD r.left)), some (.d (lotsD r.mid)), some (.d (lotsD r.right)), some (.d (.list (lots.map lotD))), some (.own ((tabGo lots r.left.length r.right.length (s.take j) []).map boolsD)), v11, v12, v13, v14, v15, v16]) ⟨none, none, none, none, none, none, none, ?_⟩ ?_ ?_
  · rw [est2, esp2, ← eL, ← eM, ← eR]
    rfl
  · rintro j l env hj ⟨v4, v11, v12, v13, v14, v15, v16, rfl⟩ nx hx
    have hj2 : j < s.length := (List.getElem?_eq_some_iff.mp hj).1
    have lok := ok.ok j l hj
    have ml := mem_len l
    obtain ⟨acc, ea⟩ : ∃ acc, acc = tabGo lots r.left.length r.right.length (s.take j) [] := ⟨_, rfl⟩
    obtain ⟨t1, t2⟩ := tabGo_ok lots r.left.length r.right.length (s.take j) [] (fun b hb => by cases hb) (ok.nums j)
    rw [← ea] at t1 t2 ⊢
    rw [List.length_nil, Nat.zero_add, List.length_take, Nat.min_eq_left (by omega)] at t2
    have hsz : (acc.map boolsD).length < sizeLine := by rw [List.length_map, t2]; exact sl16 (by omega)
    have hget : ∀ i ∈ l.mem, (acc.getD i []).length = lots.length ∧ acc[i]? = some (acc.getD i []) := fun i hi => getD_len t1 (by rw [t2]; exact lok.2.1 i hi)
    have fin : ∀ v4 v11 v12 v13 v14 v15 v16, nx [some (.d (sheetD s)), some (.d (rowD r)), some (.d (.int st)), some (.d (.int sp)), v4, some (.d (.int r.first)), some (.d (lotsD r.left)), some (.d (lotsD r.mid)), some (.d (lotsD r.right)), some (.d (.list (lots.map lotD))), some (.own (acc.map boolsD ++ [boolsD (tabOf lots r.left.length r.right.length acc l)])), v11, v12, v13, v14, v15, v16] := fun v4 v11 v12 v13 v14 v15 v16 => by
      refine hx _ ⟨v4, v11, v12, v13, v14, v15, v16, ?_⟩
      rw [List.take_add_one, hj, Option.toList_some, tabGo_snoc, ← ea, List.map_append]
      rfl
    refine ⟨rfl, l, rfl, lok.1, _, rfl, by rw [List.length_map]; exact s16 (by omega), ?_⟩
    refine lc_mapT (fun (i : Nat) => PyData.int i) (fun i => boolsD (acc.getD i [])) (fun i hi k hk => ?_) ?_
    · exact ⟨acc.map boolsD, rfl, i, boolsD (acc.getD i []), rfl, ix_at (by rw [List.getElem?_map, (hget i hi).2]; rfl), hk _ rfl⟩
    cases l with
    | lt w =>
      refine ⟨_, ix_0, eqS_yes ?_⟩
      refine ⟨lots.map lotD, rfl, by rw [List.length_map]; exact s16 (by omega), ?_⟩
      refine lc_mapT lotD (fun lot => .bool (decide (w ∈ lot))) (fun lot hlot k hk => ?_) ?_
      · exact ⟨_, ix_1, rfl, all_flat_strs, hk _ (congrArg (fun b => Sl.d (.bool b)) any_strs)⟩
      refine ⟨_, rfl, hsz, ?_⟩
      have e : (lots.map fun lot => PyData.bool (decide (w ∈ lot))) = (tabOf lots r.left.length r.right.length acc (.lt w)).map PyData.bool := by rw [tabOf, List.map_map]; rfl
      rw [e]
      exact fin _ _ _ _ _ _ _
    | yes =>
      refine ⟨_, ix_0, eqS_no (by decide +kernel) ⟨_, ix_0, eqS_yes ?_⟩⟩
      refine ⟨lots.map lotD, rfl, by rw [List.length_map]; exact s16 (by omega), ?_⟩
      refine lc_mapT lotD (fun lot => .bool true) (fun lot hlot k hk => hk _ rfl) ?_
      refine ⟨_, rfl, hsz, ?_⟩
      have e : (lots.map fun lot => PyData.bool true) = (tabOf lots r.left.length r.right.length acc .yes).map PyData.bool := by rw [tabOf, List.map_map]; rfl
      rw [e]
      exact fin _ _ _ _ _ _ _
    | un i =>
      have gi := hget i (by simp [Ln.mem])
      refine ⟨_, ix_0, eqS_no (by decide +kernel) ⟨_, ix_0, eqS_no (by decide +kernel) ⟨_, ix_0, eqS_yes ?_⟩⟩⟩
      refine ⟨_, ix_0, _, rfl, by rw [List.length_map, gi.1]; exact s16 (by omega), ?_⟩
      refine lc_mapT PyData.bool (fun b => .bool (!b)) (fun b hb k hk => ⟨b, rfl, hk _ rfl⟩) ?_
      refine ⟨_, rfl, hsz, ?_⟩
      have e : ((acc.getD i []).map fun b => PyData.bool (!b)) = (tabOf lots r.left.length r.right.length acc (.un i)).map PyData.bool := by rw [tabOf, List.map_map]; rfl
      rw [e]
      exact fin _ _ _ _ _ _ _
    | bi o i j2 =>
      have gi := hget i (by simp [Ln.mem])
      have gj := hget j2 (by simp [Ln.mem])
      obtain ⟨w1, w2, w3⟩ := opW lok.1
      have zl : ((acc.getD i []).zip (acc.getD j2 [])).length = lots.length := by rw [List.length_zip, gi.1, gj.1, Nat.min_self]
      refine ⟨_, ix_0, eqS_no w1 ⟨_, ix_0, eqS_no w2 ⟨_, ix_0, eqS_no w3 ?_⟩⟩⟩
      by_cases c1 : o = "and"
      · subst c1
        refine ⟨_, ix_0, eqS_yes ?_⟩
        refine ⟨_, ix_0, _, ix_1, .inl ⟨_, _, rfl, ?_⟩⟩
        rw [zipD_bools]
        refine ⟨by rw [List.length_map, zl]; exact s16 (by omega), ?_⟩
        refine lc_mapT (fun (p : Bool × Bool) => PyData.tuple [.bool p.1, .bool p.2]) (fun p => .bool (p.1 && p.2)) (fun p hp k hk => ?_) ?_
        · obtain ⟨a, b⟩ := p
          refine ⟨_, rfl, rfl, _, _, rfl, _, _, rfl, rfl, a, rfl, ?_⟩
          cases a with
          | true => exact hk _ rfl
          | false => exact hk _ rfl
        refine ⟨_, rfl, hsz, ?_⟩
        have e : (((acc.getD i []).zip (acc.getD j2 [])).map fun p => PyData.bool (p.1 && p.2)) = (tabOf lots r.left.length r.right.length acc (.bi "and" i j2)).map PyData.bool := by rw [tabOf, if_pos rfl, List.map_map]; rfl
        rw [e]
        exact fin _ _ _ _ _ _ _
      refine ⟨_, ix_0, eqS_no c1 ?_⟩
      by_cases c2 : o = "or"
      · subst c2
        refine ⟨_, ix_0, eqS_yes ?_⟩
        refine ⟨_, ix_0, _, ix_1, .inl ⟨_, _, rfl, ?_⟩⟩
        rw [zipD_bools]
        refine ⟨by rw [List.length_map, zl]; exact s16 (by omega), ?_⟩
        refine lc_mapT (fun (p : Bool × Bool) => PyData.tuple [.bool p.1, .bool p.2]) (fun p => .bool (p.1 || p.2)) (fun p hp k hk => ?_) ?_
        · obtain ⟨a, b⟩ := p
          refine ⟨_, rfl, rfl, _, _, rfl, _, _, rfl, rfl, a, rfl, ?_⟩
          cases a with
          | true => exact hk _ rfl
          | false => exact hk _ rfl
        refine ⟨_, rfl, hsz, ?_⟩
        have e : (((acc.getD i []).zip (acc.getD j2 [])).map fun p => PyData.bool (p.1 || p.2)) = (tabOf lots r.left.length r.right.length acc (.bi "or" i j2)).map PyData.bool := by rw [tabOf, if_neg (by decide +kernel), if_pos rfl, List.map_map]; rfl
        rw [e]
        exact fin _ _ _ _ _ _ _
      refine ⟨_, ix_0, eqS_no c2 ?_⟩
      by_cases c3 : o = "until"
      · subst c3
        refine ⟨_, ix_0, eqS_yes ?_⟩
        refine ⟨_, ix_0, _, ix_1, rfl, acc.getD i [], acc.getD j2 [], r.right.length, by rw [← eR]; rfl, gi.1.trans gj.1.symm, by rw [gi.1, len5]; omega, by rw [gi.1]; omega, ?_⟩
        refine ⟨_, rfl, hsz, ?_⟩
        have e : mGoing (acc.getD i []) (acc.getD j2 []) r.right.length = tabOf lots r.left.length r.right.length acc (.bi "until" i j2) := by rw [tabOf, if_neg (by decide +kernel), if_neg (by decide +kernel), if_pos rfl]
        rw [e]
        exact fin _ _ _ _ _ _ _
      · refine ⟨_, ix_0, eqS_no c3 ?_⟩
        refine ⟨_, ix_0, _, rfl, _, ix_1, _, rfl, rfl, (acc.getD i []).reverse, (acc.getD j2 []).reverse, r.left.length, by
          rw [← eL]
          show [Sl.d (.list ((acc.getD i []).map PyData.bool).reverse), Sl.d (.list ((acc.getD j2 []).map PyData.bool).reverse), _] = _
          rw [← List.map_reverse, ← List.map_reverse]
          rfl, by rw [List.length_reverse, List.length_reverse, gi.1, gj.1], by rw [List.length_reverse, gi.1, len5]; omega, by rw [List.length_reverse, gi.1]; omega, ?_⟩
        refine ⟨_, rfl, _, rfl, hsz, ?_⟩
        have e : ((mGoing (acc.getD i []).reverse (acc.getD j2 []).reverse r.left.length).map PyData.bool).reverse = (tabOf lots r.left.length r.right.length acc (.bi o i j2)).map PyData.bool := by rw [tabOf, if_neg c1, if_neg c2, if_neg c3, ← List.map_reverse]
        rw [e]
        exact fin _ _ _ _ _ _ _
  rintro env ⟨v4, v11, v12, v13, v14, v15, v16, rfl⟩
  rw [List.take_length]
  refine ⟨_, rfl, ?_⟩
  have eT : tabD (mTab s r) r = .dict (([("start" : Str), "end", "found", "row"].map PyData.str).zip [.int st, .int sp, .list ((tabGo lots r.left.length r.right.length s []).map boolsD), rowD r]) := by
    unfold mTab
    rw [← est, ← esp, ← elots]
    rfl
  rw [eT] at hR
  exact hR

theorem sc_needed : FnScope ["sheet"] ["sheet"] (defScope s_needed) := ⟨rfl, rfl, rfl, by decide +kernel, rfl, by decide +kernel, by decide +kernel⟩
theorem fn_needed (A : At K mg "needed" s_needed ["sheet"]) (T : Blt w K mg) (G_needed_by : Fn P w K mg base "needed_by" 3 ["sheet", "number"] (spX K 2 m_needed_by)) : Fn P w K mg base "needed" 4 ["sheet"] (spX K 1 m_needed) := by
  refine fnD (k := 3) (m := m_needed) A sc_needed (fun G f cdv A outer s H E hr ss R hl hm => ?_)
  refine ⟨_, _, (dss_one (ds_ret (k_fn (K := K) rfl G_needed_by (hr.mono (by decide)) (da_cons (de_v 0) (da_cons (de_op op_sub (fun _ => lo_sub) (de_callB (k_len (K := K) rfl) (fun _ => lc_len) T.m_len (da_cons (de_v 0) da_nil)) de_int) da_nil))))), ?_⟩
  obtain ⟨s, rfl, low, ne, hs, hR⟩ := hm
  have pos := List.length_pos_iff.mpr ne
  refine ⟨rfl, s, s.length - 1, ?_, low, by omega, hs, hR⟩
  show [Sl.d (sheetD s), Sl.d (PyData.int (((s.map lnD).length : Nat) - 1))] = _
  rw [List.length_map, show ((s.length : Nat) : Int) - 1 = ((s.length - 1 : Nat) : Int) by omega]

theorem sc_part : FnScope ["sheet", "number", "places", "lines", "at"] ["sheet", "number"] (defScope s_part) := ⟨rfl, rfl, rfl, by decide +kernel, rfl, by decide +kernel, by decide +kernel⟩
theorem fn_part (A : At K mg "part" s_part ["sheet", "number"]) (T : Blt w K mg) (G__told_anew : Fn P w K mg base "_told_anew" 1 ["line", "places"] (spX K 2 m__told_anew)) (G_needed_by : Fn P w K mg base "needed_by" 3 ["sheet", "number"] (spX K 2 m_needed_by)) : Fn P w K mg base "part" 4 ["sheet", "number"] (spX K 2 m_part) := by
  refine fnD (k := 3) (m := m_part) A sc_part (fun G f cdv A outer s H E hr ss R hl hm => ?_)
  refine ⟨_, _, (dss_cons (ds_set 2 sc_part.nd de_newD)
      (dss_cons (ds_set 3 sc_part.nd (de_lst da_nil))
      (dss_cons (ds_for (js := [4]) (ki_list (K := K) rfl (k_fn (K := K) rfl G_needed_by (hr.mono (by decide)) (da_cons (de_v 0) (da_cons (de_v 1) da_nil)))) (by exact (dg_name 4 (by decide) sc_part.nd)) (dss_cons (ds_putD hr.units 2 (de_peek [3] (de_callB (k_len (K := K) rfl) (fun _ => lc_len) T.m_len (da_cons (de_v 3) da_nil))) (de_v 4))
      (dss_one (ds_app 3 (de_peekF [2] (k_fn (K := K) rfl G__told_anew (hr.mono (by decide)) (da_cons (de_ix (k_ix (K := K) rfl) (fun _ => lo_ix) (de_v 0) (de_v 4)) (da_cons (de_v 2) da_nil)))) (h := pe_bm PySem.F.plainAttrs_list PySem.F.slot_list_append PySem.F.type_list_append mt_append (pv 3) (pa_cons (DE.pe (F := G) ((de_peekF [2] (k_fn (K := K) rfl G__told_anew (hr.mono (by decide)) (da_cons (de_ix (k_ix (K := K) rfl) (fun _ => lo_ix) (de_v 0) (de_v 4)) (da_cons (de_v 2) da_nil)))))) pa_nil))))))
      (dss_one (ds_ret (de_peekF [3] (de_callTy (k_tuple (K := K) rfl) (fun _ => lc_tuple) T.m_tuple (da_cons (de_v 3) da_nil)))))))), ?_⟩
  obtain ⟨s, k, rfl, low, hk, hs, hR⟩ := hm
  have K0 := (need_kept low hk (needL_asc s k) (needL_mem low hk)).1
  have nl := needL_len s k
  refine ⟨[], rfl, s16 (by decide), ?_⟩
  refine ⟨rfl, s, k, rfl, low, hk, hs, ?_⟩
  refine ⟨_, rfl, ?_⟩
  obtain ⟨fn, efn⟩ : ∃ fn : Nat → PyData, fn = fun i => lnD ((s.getD i .yes).ren fun n => (mNeedL s k).idxOf n) := ⟨_, rfl⟩
  refine loop_byT (fun (i : Nat) => PyData.int i) (fun j env => ∃ ds v4, env = [some (.d (sheetD s)), some (.d (.int k)), some (.ownD ds), some (.own (((mNeedL s k).take j).map fn)), v4] ∧ ds.length ≤ j ∧ ∀ i ∈ (mNeedL s k).take j, getP ds (.inl (i : Nat)) = some (.int ((mNeedL s k).idxOf i : Nat))) ⟨[], none, rfl, Nat.le_refl _, fun i hi => (by cases hi)⟩ ?_ ?_
  · rintro j i env hj ⟨ds, v4, rfl, dl, hd⟩ nx hx
    have hj2 := (List.getElem?_eq_some_iff.mp hj).1
    have iy := List.mem_of_getElem? hj
    obtain ⟨l, hl2⟩ : ∃ l, s[i]? = some l := ⟨_, List.getElem?_eq_getElem (K0.lt i iy)⟩
    have lx : (((mNeedL s k).take j).map fn).length = j := by rw [List.length_map, List.length_take]; omega
    have ij : (mNeedL s k).idxOf i = j := asc_idx K0.asc hj
    have efi : fn i = lnD (l.ren fun n => (mNeedL s k).idxOf n) := by rw [efn]; show lnD ((s.getD i .yes).ren _) = _; rw [getD_at hl2]
    refine ⟨rfl, _, rfl, ds, rfl, .inl (i : Nat), rfl, sl16 (by omega), ?_⟩
    refine ⟨lnD l, ln_at hl2, rfl, l, _, fun n => (mNeedL s k).idxOf n, rfl, (low i l hl2).1, fun n hn => ?_, ?_⟩
    · have nn := (low i l hl2).2 n hn
      have ny := K0.cl i iy l hl2 n hn
      have nj := asc_ix K0.asc (ix_of ny) hj nn
      rw [getP_other (fun e => by injection e with e; omega)]
      exact hd n (List.mem_of_getElem? (i := (mNeedL s k).idxOf n) (by rw [List.getElem?_take_of_lt nj]; exact ix_of ny))
    refine ⟨lf_ln _, _, rfl, by rw [lx]; exact sl16 (by omega), ?_⟩
    rw [← efi]
    refine hx _ ⟨putP ds (.inl (i : Nat)) (.int (((mNeedL s k).take j).map fn).length), some (.d (.int i)), by rw [← take_snoc hj fn]; rfl, Nat.le_trans (putP_length _ _ _) (by omega), fun n hn => ?_⟩
    rw [List.take_add_one, hj] at hn
    by_cases c : n = i
    · subst c
      rw [getP_self, lx, ij]
    · rw [getP_other (fun e => by injection e with e; omega)]
      refine hd n ?_
      rcases List.mem_append.mp hn with h | h
      · exact h
      · simp at h; exact absurd h c
  rintro env ⟨ds, v4, rfl, dl, hd⟩
  have e : (((mNeedL s k).take (mNeedL s k).length).map fn) = (mPart s (mNeedL s k)).map lnD := by rw [List.take_length, efn]; unfold mPart; rw [List.map_map]; rfl
  show lfAll (((mNeedL s k).take (mNeedL s k).length).map fn) = true ∧ R (.d (.tuple (((mNeedL s k).take (mNeedL s k).length).map fn)))
  rw [e]
  exact ⟨lf_sheet _, hR⟩

theorem sc__law_drawn_sheet : FnScope ["source", "most", "k", "words", "found", "word", "near"] ["source", "most"] (defScope s__law_drawn_sheet) := ⟨rfl, rfl, rfl, by decide +kernel, rfl, by decide +kernel, by decide +kernel⟩
theorem fn__law_drawn_sheet (A : At K mg "_law_drawn_sheet" s__law_drawn_sheet ["source", "most"]) (T : Blt w K mg) (G__law_mixed : Fn P w K mg base "_law_mixed" 2 ["source", "things"] (spX K 2 m__law_mixed)) (G__law_of : Fn P w K mg base "_law_of" 2 ["source", "some"] (spX K 2 m__law_of)) (G__law_pick : Fn P w K mg base "_law_pick" 1 ["source", "many"] (spX K 2 m__law_pick)) (G__law_words : Fn P w K mg base "_law_words" 3 ["source", "many"] (spX K 2 m__law_words)) : Fn P w K mg base "_law_drawn_sheet" 4 ["source", "most"] (spX K 2 m__law_drawn_sheet) := by
  refine fnD (k := 3) (m := m__law_drawn_sheet) A sc__law_drawn_sheet (fun G f cdv A outer s H E hr ss R hl hm => ?_)
  refine ⟨_, _, (dss_cons (ds_parL 3 4 sc__law_drawn_sheet.nd (k_fn (K := K) rfl G__law_words (hr.mono (by decide)) (da_cons (de_v 0) (da_cons (de_op op_add (fun _ => lo_add) de_int (k_fn (K := K) rfl G__law_pick (hr.mono (by decide)) (da_cons (de_v 0) (da_cons de_int da_nil)))) da_nil))) (de_lst da_nil) (pa_cons (DE.pe (F := G) (k_fn (K := K) rfl G__law_words (hr.mono (by decide)) (da_cons (de_v 0) (da_cons (de_op op_add (fun _ => lo_add) de_int (k_fn (K := K) rfl G__law_pick (hr.mono (by decide)) (da_cons (de_v 0) (da_cons de_int da_nil)))) da_nil)))) (pa_cons (DE.pe (F := G) (de_lst da_nil)) pa_nil)))
      (dss_cons (ds_for (js := [2]) (di_rng1 T.m_range (da_cons (de_op op_add (fun _ => lo_add) de_int (k_fn (K := K) rfl G__law_pick (hr.mono (by decide)) (da_cons (de_v 0) (da_cons (de_v 1) da_nil)))) da_nil)) (by exact (dg_name 2 (by decide) sc__law_drawn_sheet.nd)) (dss_cons (ds_set 5 sc__law_drawn_sheet.nd (k_fn (K := K) rfl G__law_of (hr.mono (by decide)) (da_cons (de_v 0) (da_cons (de_lst (da_cons de_str (da_cons de_str (da_cons de_str (da_cons de_str (da_cons de_str (da_cons de_str (da_cons de_str (da_cons de_str da_nil))))))))) da_nil))))
      (dss_one (ds_if (DW.dt (dw_and (dt_cmp op_gt (fun _ => lo_gt) (de_v 2) de_int) (dw_and1 (dt_cmp op_eq (fun _ => lo_eqS) (k_fn (K := K) rfl G__law_pick (hr.mono (by decide)) (da_cons (de_v 0) (da_cons de_int da_nil))) de_int)))) (dss_one (ds_app 4 (de_peekF [4] (k_fn (K := K) rfl G__law_of (hr.mono (by decide)) (da_cons (de_v 0) (da_cons (de_v 4) da_nil)))) (h := pe_bm PySem.F.plainAttrs_list PySem.F.slot_list_append PySem.F.type_list_append mt_append (pv 4) (pa_cons (DE.pe (F := G) ((de_peekF [4] (k_fn (K := K) rfl G__law_of (hr.mono (by decide)) (da_cons (de_v 0) (da_cons (de_v 4) da_nil)))))) pa_nil)))) (dss_one (ds_if (DW.dt (dw_or (dt_cmp op_eq (fun _ => lo_eqS) (de_v 5) de_str) (dw_or (dt_cmp op_eq (fun _ => lo_eqS) (de_v 5) de_str) (dw_or1 (dt_cmp op_eq (fun _ => lo_eqS) (de_v 2) de_int))))) (dss_one (ds_app 4 (de_ifE (dt_cmp op_eq (fun _ => lo_eqS) (de_v 5) de_str) (de_tup (da_cons de_str da_nil)) (de_tup (da_cons de_str (da_cons (k_fn (K := K) rfl G__law_of (hr.mono (by decide)) (da_cons (de_v 0) (da_cons (de_v 3) da_nil))) da_nil)))) (h := pe_bm PySem.F.plainAttrs_list PySem.F.slot_list_append PySem.F.type_list_append mt_append (pv 4) (pa_cons (DE.pe (F := G) ((de_ifE (dt_cmp op_eq (fun _ => lo_eqS) (de_v 5) de_str) (de_tup (da_cons de_str da_nil)) (de_tup (da_cons de_str (da_cons (k_fn (K := K) rfl G__law_of (hr.mono (by decide)) (da_cons (de_v 0) (da_cons (de_v 3) da_nil))) da_nil)))))) pa_nil)))) (dss_cons (ds_set 6 sc__law_drawn_sheet.nd (DE.fz (de_lst (da_cons (de_op op_sub (fun _ => lo_sub) (de_op op_sub (fun _ => lo_sub) (de_v 2) de_int) (k_fn (K := K) rfl G__law_pick (hr.mono (by decide)) (da_cons (de_v 0) (da_cons (de_callB (call_min2 rfl) (fun _ => lc_min2) T.m_min (da_cons (de_v 2) (da_cons de_int da_nil))) da_nil)))) (da_cons (k_fn (K := K) rfl G__law_pick (hr.mono (by decide)) (da_cons (de_v 0) (da_cons (de_v 2) da_nil))) da_nil)))))
      (dss_one (ds_app 4 (de_op (k_catT (K := K) rfl) (fun _ => lo_catT) (de_tup (da_cons (de_v 5) da_nil)) (de_callTy (k_tuple (K := K) rfl) (fun _ => lc_tuple) T.m_tuple (da_cons (de_slice (k_slL (K := K) rfl) (fun _ => ls_list) (k_fn (K := K) rfl G__law_mixed (hr.mono (by decide)) (da_cons (de_v 0) (da_cons (de_v 6) da_nil))) do_none (do_some (de_op op_add (fun _ => lo_add) de_int (de_callTy call_int1 (fun _ => lc_intA) T.m_int (da_cons (de_cmp op_ne (fun _ => lo_neS) (de_v 5) de_str) da_nil))))) da_nil))) (h := pe_bm PySem.F.plainAttrs_list PySem.F.slot_list_append PySem.F.type_list_append mt_append (pv 4) (pa_cons (DE.pe (F := G) ((de_op (k_catT (K := K) rfl) (fun _ => lo_catT) (de_tup (da_cons (de_v 5) da_nil)) (de_callTy (k_tuple (K := K) rfl) (fun _ => lc_tuple) T.m_tuple (da_cons (de_slice (k_slL (K := K) rfl) (fun _ => ls_list) (k_fn (K := K) rfl G__law_mixed (hr.mono (by decide)) (da_cons (de_v 0) (da_cons (de_v 6) da_nil))) do_none (do_some (de_op op_add (fun _ => lo_add) de_int (de_callTy call_int1 (fun _ => lc_intA) T.m_int (da_cons (de_cmp op_ne (fun _ => lo_neS) (de_v 5) de_str) da_nil))))) da_nil))))) pa_nil)))))))))))
      (dss_one (ds_ret (de_peekF [4] (de_callTy (k_tuple (K := K) rfl) (fun _ => lc_tuple) T.m_tuple (da_cons (de_v 4) da_nil))))))), ?_⟩
  obtain ⟨n, rfl, n1, n2, hR⟩ := hm
  refine ⟨rfl, 4, rfl, by decide, fun k k0 k1 => ?_⟩
  have k1 : k < 4 := k1
  refine ⟨rfl, (1 + k).toNat, by rw [Int.toNat_of_nonneg (by omega)]; rfl, by omega, by omega, fun ws hws => ?_⟩
  have wl : 0 < ws.length := by rw [hws.len]; omega
  have wl2 : ws.length ≤ 13 := by rw [hws.len]; omega
  refine ⟨[], rfl, s16 (by decide), ?_⟩
  refine ⟨rfl, n, rfl, by omega, fun m m0 m1 => ?_⟩
  have m2 : 1 + m ≤ n := by split at m1 <;> omega
  refine ⟨1 + m, rfl, ⟨by omega, by omega⟩, ?_⟩
  rw [rng0]
  refine loop_byT (fun (i : Nat) => PyData.int i) (fun j env => ∃ s v3 v5 v6, env = [some .src, some (.d (.int n)), v3, some (.d (.list (ws.map PyData.str))), some (.own (s.map lnD)), v5, v6] ∧ s.length = j ∧ ∀ (k : Nat) (l : Ln), s[k]? = some l → l.Ok k) ⟨[], none, none, none, rfl, rfl, fun k l h => by simp at h⟩ ?_ ?_
  · rintro j i env hj ⟨s, v3, v5, v6, rfl, sl, sok⟩ nx hx
    have hj2 : j < (1 + m).toNat := by have := (List.getElem?_eq_some_iff.mp hj).1; rwa [List.length_range] at this
    have ei : i = j := by rw [List.getElem?_range hj2] at hj; exact (Option.some.inj hj).symm
    subst ei
    have hsz : (s.map lnD).length < sizeLine := by rw [List.length_map, sl]; exact sl16 (by omega)
    have fin : ∀ (l : Ln) v3 v5 v6, l.Ok i → nx [some .src, some (.d (.int n)), v3, some (.d (.list (ws.map PyData.str))), some (.own (s.map lnD ++ [lnD l])), v5, v6] := fun l v3 v5 v6 hl => by
      obtain ⟨a1, a2⟩ := ok_snoc sl sok hl
      exact hx _ ⟨s ++ [l], v3, v5, v6, by rw [List.map_append]; rfl, a1, a2⟩
    have pickW : ∀ x : PyData, (∃ w : Str, w ∈ ws ∧ x = .str w) → Ln.Ok i (.lt (unStr x)) ∧ lnD (.lt (unStr x)) = .tuple [.str "letter", x] := fun x h => by
      obtain ⟨w, hw, rfl⟩ := h
      exact ⟨⟨trivial, fun i hi => (by cases hi), fun z e => by cases e; exact hws.sub w hw⟩, rfl⟩
    have words : ∀ x ∈ ws.map PyData.str, ∃ w : Str, w ∈ ws ∧ x = .str w := fun x hx => by
      obtain ⟨w, hw, rfl⟩ := List.mem_map.mp hx
      exact ⟨w, hw, rfl⟩
    refine ⟨_, rfl, s16 (by decide), rfl, _, rfl, by decide, by decide, fun x hx => ?_⟩
    obtain ⟨wd, rfl, hwd⟩ : ∃ wd : Str, x = .str wd ∧ (wd = "letter" ∨ wd = "yes" ∨ wd = "not" ∨ wd ∈ ops) := by
      simp only [List.mem_cons, List.not_mem_nil, or_false] at hx
      rcases hx with rfl | rfl | rfl | rfl | rfl | rfl | rfl | rfl
      · exact ⟨_, rfl, .inl rfl⟩
      · exact ⟨_, rfl, .inl rfl⟩
      · exact ⟨_, rfl, .inr (.inl rfl)⟩
      · exact ⟨_, rfl, .inr (.inr (.inl rfl))⟩
      all_goals exact ⟨_, rfl, .inr (.inr (.inr (by decide +kernel)))⟩
    dsimp only
    refine if_iff (0 < i) True (fun Q q1 q2 => ?_) (fun hpos => ?_) (fun _ => ?_)
    · refine ⟨decide ((i : Int) > 0), rfl, ?_⟩
      by_cases c : (i : Int) > 0
      · rw [decide_eq_true c]
        refine ⟨rfl, 6, rfl, by decide, fun k k0 k1 => ⟨decide (k = 0), rfl, ?_⟩⟩
        by_cases c2 : k = 0
        · rw [decide_eq_true c2]; exact q1 (by omega)
        · rw [decide_eq_false c2]; exact q2 trivial
      · rw [decide_eq_false c]; exact q2 trivial
    · refine ⟨rfl, _, rfl, ?_, by rw [List.length_map, sl]; omega, fun x hx2 => ?_⟩
      · intro e
        have h0 := congrArg List.length e
        rw [List.length_map, sl, List.length_nil] at h0
        omega
      obtain ⟨l, hl, rfl⟩ := List.mem_map.mp hx2
      refine ⟨lf_ln l, _, rfl, hsz, ?_⟩
      obtain ⟨k, hk⟩ := List.getElem?_of_mem hl
      exact fin l _ _ _ ((sok k l hk).mono (by have := (List.getElem?_eq_some_iff.mp hk).1; omega))
    · refine if_iff (wd = "letter" ∨ wd = "yes" ∨ i = 0) (wd ≠ "letter" ∧ wd ≠ "yes" ∧ 0 < i) (fun Q q1 q2 => ?_) (fun hp => ?_) (fun hp => ?_)
      · by_cases c1 : wd = "letter"
        · subst c1; exact eqS_yes (q1 (.inl rfl))
        refine eqS_no c1 ?_
        by_cases c2 : wd = "yes"
        · subst c2; exact eqS_yes (q1 (.inr (.inl rfl)))
        refine eqS_no c2 ?_
        refine ⟨decide ((i : Int) = 0), rfl, ?_⟩
        by_cases c3 : (i : Int) = 0
        · rw [decide_eq_true c3]; exact q1 (.inr (.inr (by omega)))
        · rw [decide_eq_false c3]; exact q2 ⟨c1, c2, by omega⟩
      · by_cases c2 : wd = "yes"
        · subst c2
          refine eqS_yes ?_
          exact ⟨_, rfl, s16 (by decide), _, rfl, hsz, fin .yes _ _ _ ⟨trivial, fun i hi => (by cases hi), fun z e => by cases e⟩⟩
        · refine eqS_no c2 ?_
          refine ⟨rfl, _, rfl, ?_, by rw [List.length_map]; omega, fun x hx2 => ?_⟩
          · intro e
            have h0 := congrArg List.length e
            rw [List.length_map, List.length_nil] at h0
            omega
          obtain ⟨p1, p2⟩ := pickW x (words x hx2)
          refine ⟨_, rfl, s16 (by show 2 ≤ 16777216; omega), _, rfl, hsz, ?_⟩
          have := fin _ (some (.d (.int i))) (some (.d (.str wd))) v6 p1
          rw [p2] at this
          exact this
      · obtain ⟨c1, c2, hpos⟩ := hp
        refine ⟨rfl, _, rfl, by show (if (3 : Int) < (i : Int) then (3 : Int) else (i : Int)) < 536870912; split <;> omega, fun a a0 a1 => ?_⟩
        have a2 : a < i := by split at a1 <;> split at a1 <;> omega
        refine ⟨rfl, i, rfl, by omega, fun b b0 b1 => ?_⟩
        have b2 : b < i := by split at b1 <;> omega
        obtain ⟨p, ep⟩ : ∃ p : Nat, (i : Int) - 1 - a = p := ⟨((i : Int) - 1 - a).toNat, by omega⟩
        obtain ⟨q, eq⟩ : ∃ q : Nat, b = q := ⟨b.toNat, by omega⟩
        refine ⟨_, rfl, s16 (by show 2 ≤ 16777216; omega), ?_⟩
        refine ⟨_, rfl, s16 (by show 1 ≤ 16777216; omega), ?_⟩
        refine ⟨rfl, [.int ((i : Int) - 1 - a), .int b], rfl, by show 2 < 1000000; omega, fun zs pz => ?_⟩
        rw [ep, eq] at pz
        obtain ⟨c, d, rfl, hc, hd⟩ := perm_two pz
        have hc2 : c < i := by rcases hc with rfl | rfl <;> omega
        have hd2 : d < i := by rcases hd with rfl | rfl <;> omega
        by_cases c3 : wd = "not"
        · subst c3
          dsimp only [dNoPart, dPart, dOp, dC, dCall, dCons]
          refine dVar_pass rfl ?_
          refine neQ_yes ?_
          refine ⟨_, rfl, ?_⟩
          refine slL_pass (xs := [.int c, .int d]) ?_
          rw [cut_one]
          exact ⟨s16 (by show 2 ≤ 16777216; omega), _, rfl, hsz, fin (.un c) _ _ _ ⟨trivial, fun k hk => by simp [Ln.mem] at hk; omega, fun z e => by cases e⟩⟩
        · dsimp only [dNoPart, dPart, dOp, dC, dCall, dCons]
          refine dVar_pass rfl ?_
          refine neQ_no c3 ?_
          refine ⟨_, rfl, ?_⟩
          refine slL_pass (xs := [.int c, .int d]) ?_
          rw [cut_two]
          have hop : wd ∈ ops := by
            rcases hwd with h | h | h | h
            · exact absurd h c1
            · exact absurd h c2
            · exact absurd h c3
            · exact h
          exact ⟨s16 (by show 3 ≤ 16777216; omega), _, rfl, hsz, fin (.bi wd c d) _ _ _ ⟨hop, fun k hk => by simp [Ln.mem] at hk; omega, fun z e => by cases e⟩⟩
  rintro env ⟨s, v3, v5, v6, rfl, sl, sok⟩
  rw [List.length_range] at sl
  refine ⟨lf_sheetD s, hR s ⟨fun e => ?_, sok⟩ (by omega)⟩
  rw [e, List.length_nil] at sl
  omega

theorem sc_tidy : FnScope ["sheet", "lines", "_"] ["sheet"] (defScope s_tidy) := ⟨rfl, rfl, rfl, by decide +kernel, rfl, by decide +kernel, by decide +kernel⟩
theorem fn_tidy (A : At K mg "tidy" s_tidy ["sheet"]) (T : Blt w K mg) (G_needed : Fn P w K mg base "needed" 4 ["sheet"] (spX K 1 m_needed)) (G_told_once : Fn P w K mg base "told_once" 2 ["sheet", "numbers"] (spX K 2 m_told_once)) : Fn P w K mg base "tidy" 5 ["sheet"] (spX K 1 m_tidy) := by
  refine fnD (k := 4) (m := m_tidy) A sc_tidy (fun G f cdv A outer s H E hr ss R hl hm => ?_)
  refine ⟨_, _, (dss_cons (ds_asg (js := [1, 2]) (k_fn (K := K) rfl G_told_once (hr.mono (by decide)) (da_cons (de_v 0) (da_cons (k_fn (K := K) rfl G_needed (hr.mono (by decide)) (da_cons (de_v 0) da_nil)) da_nil))) (by exact (kg_tup (K := K) (n := 2) rfl rfl (dgs_cons (dg_name 1 (by decide) sc_tidy.nd) (dgs_cons (dg_name 2 (by decide) sc_tidy.nd) dgs_nil)))))
      (dss_one (ds_ret (de_v 1)))), ?_⟩
  obtain ⟨s, rfl, low, ne, hs, hR⟩ := hm
  have pos := List.length_pos_iff.mpr ne
  refine ⟨rfl, s, rfl, low, ne, hs, rfl, s, mNeedL s (s.length - 1), rfl, low, kept_last low ne, hs, ?_⟩
  exact ⟨_, rfl, rfl, _, _, rfl, _, _, rfl, rfl, hR⟩

theorem sc__law_tidy_right : FnScope ["source", "sheet", "told", "ours", "theirs", "k"] ["source", "sheet"] (defScope s__law_tidy_right) := ⟨rfl, rfl, rfl, by decide +kernel, rfl, by decide +kernel, by decide +kernel⟩
theorem fn__law_tidy_right (A : At K mg "_law_tidy_right" s__law_tidy_right ["source", "sheet"]) (T : Blt w K mg) (G__law_builds : Fn P w K mg base "_law_builds" 2 ["sheets"] (spX K 1 m__law_builds)) (G__law_firsts : Fn P w K mg base "_law_firsts" 1 ["things"] (spX K 1 m__law_firsts)) (G__law_needs : Fn P w K mg base "_law_needs" 2 ["sheet", "number"] (spX K 2 m__law_needs)) (G__law_path : Fn P w K mg base "_law_path" 2 ["value"] (spX K 1 m__law_path)) (G_needed : Fn P w K mg base "needed" 4 ["sheet"] (spX K 1 m_needed)) (G_part : Fn P w K mg base "part" 4 ["sheet", "number"] (spX K 2 m_part)) (G_tidy : Fn P w K mg base "tidy" 5 ["sheet"] (spX K 1 m_tidy)) : Fn P w K mg base "_law_tidy_right" 6 ["source", "sheet"] (spX K 2 m__law_tidy_right) := by
  refine fnD (k := 5) (m := m__law_tidy_right) A sc__law_tidy_right (fun G f cdv A outer s H E hr ss R hl hm => ?_)
  refine ⟨_, _, (dss_cons (ds_set 2 sc__law_tidy_right.nd (k_fn (K := K) rfl G_tidy (hr.mono (by decide)) (da_cons (de_v 1) da_nil)))
      (dss_cons (ds_if (DW.dt (dw_or (dt_cmp (k_ne (K := K) rfl hr.units) (fun _ => lo_ne) (k_fn (K := K) rfl G__law_path (hr.mono (by decide)) (da_cons (de_v 2) da_nil)) (de_lst da_nil)) (dw_or (dt_cmp (k_ne (K := K) rfl hr.units) (fun _ => lo_ne) (k_fn (K := K) rfl G_tidy (hr.mono (by decide)) (da_cons (de_v 2) da_nil)) (de_v 2)) (dw_or1 (dt_cmp (k_ne (K := K) rfl hr.units) (fun _ => lo_ne) (k_fn (K := K) rfl G_tidy (hr.mono (by decide)) (da_cons (k_fn (K := K) rfl G_part (hr.mono (by decide)) (da_cons (de_v 1) (da_cons (de_op op_sub (fun _ => lo_sub) (de_callB (k_len (K := K) rfl) (fun _ => lc_len) T.m_len (da_cons (de_v 1) da_nil)) de_int) da_nil))) da_nil)) (de_v 2)))))) (dss_one (ds_ret de_bl)) dss_nil)
      (dss_cons (ds_asg (js := [3, 4]) (k_fn (K := K) rfl G__law_builds (hr.mono (by decide)) (da_cons (de_lst (da_cons (de_v 1) (da_cons (de_v 2) da_nil))) da_nil)) (by exact (kg_lst (K := K) (n := 2) rfl rfl (dgs_cons (dg_name 3 (by decide) sc__law_tidy_right.nd) (dgs_cons (dg_name 4 (by decide) sc__law_tidy_right.nd) dgs_nil)))))
      (dss_cons (ds_if (dt_cmp (k_ne (K := K) rfl hr.units) (fun _ => lo_ne) (de_v 4) (k_fn (K := K) rfl G__law_firsts (hr.mono (by decide)) (da_cons (de_lc (own := [("k", 5)]) sc__law_tidy_right.nd (ki_list (K := K) rfl (k_fn (K := K) rfl G__law_needs (hr.mono (by decide)) (da_cons (de_v 1) (da_cons (de_op op_sub (fun _ => lo_sub) (de_callB (k_len (K := K) rfl) (fun _ => lc_len) T.m_len (da_cons (de_v 1) da_nil)) de_int) da_nil)))) (blkOk_by (N := ["source", "sheet", "told", "ours", "theirs", "k"]) (sc := defScope s__law_tidy_right) (by decide +kernel)) (fun _ _ _ _ _ => by exact (dg_name 5 (by decide) sc__law_tidy_right.nd)) (fun _ _ _ _ _ => by exact dp_nil) (fun _ _ _ _ _ => by exact (de_ix (k_ix (K := K) rfl) (fun _ => lo_ix) (de_v 3) (de_v 5)))) da_nil))) (dss_one (ds_ret de_bl)) dss_nil)
      (dss_one (ds_ret (de_chain (k_eq (K := K) rfl hr.units) (fun _ => lo_eq) (k_eq (K := K) rfl hr.units) (fun _ => lo_eq) (k_fn (K := K) rfl G_needed (hr.mono (by decide)) (da_cons (de_v 2) da_nil)) (de_listRg1 T.m_list T.m_range (de_callB (k_len (K := K) rfl) (fun _ => lc_len) T.m_len (da_cons (de_v 2) da_nil))) (k_fn (K := K) rfl G__law_needs (hr.mono (by decide)) (da_cons (de_v 2) (da_cons (de_op op_sub (fun _ => lo_sub) (de_callB (k_len (K := K) rfl) (fun _ => lc_len) T.m_len (da_cons (de_v 2) da_nil)) de_int) da_nil)))))))))), ?_⟩
  obtain ⟨s, rfl, ok, hs, hR⟩ := hm
  have low := ok.low
  have pos := List.length_pos_iff.mpr ok.ne
  refine ⟨rfl, s, rfl, low, ok.ne, by omega, ?_⟩
  have ot := tidy_ok ok
  have tl := tidy_len ok
  have tt := tidy_tidy low ok.ne
  have tp := tidy_part low ok.ne
  have br := builds_right low ok.ne
  have an := tidy_allNd low ok.ne
  have na := need_all ot.low ot.ne an
  obtain ⟨t, et⟩ : ∃ t, t = tidyL s := ⟨_, rfl⟩
  rw [← et] at ot tl tt tp br an na ⊢
  have tpos := List.length_pos_iff.mpr ot.ne
  obtain ⟨g1, g2, g3, g4, g5⟩ := sheet_good ot (by omega)
  have okt : okD1 (sheetD t) := okD1_sheet ot (by omega)
  refine ⟨rfl, sheetD t, rfl, g2, fun xs e => by cases e; omega, ?_⟩
  rw [g1]
  refine ⟨_, rfl, s16 (by show 0 ≤ 16777216; omega), ?_⟩
  refine ne_pass9 okD1_nil9 ?_
  refine ⟨rfl, t, rfl, ot.low, ot.ne, by omega, ?_⟩
  rw [tt]
  refine ne_pass9 okt ?_
  refine ⟨rfl, s, s.length - 1, by rw [← last_nat ok.ne]; rfl, low, by omega, by omega, ?_⟩
  refine ⟨rfl, mPart s (mNeedL s (s.length - 1)), rfl, part_low low (kept_last low ok.ne), part_ne low ok.ne, ?_, ?_⟩
  · rw [part_len]; have := needL_len s (s.length - 1); omega
  rw [tp]
  refine ne_pass9 okt ?_
  refine ⟨_, rfl, s16 (by show 2 ≤ 16777216; omega), ?_⟩
  refine ⟨rfl, s, t, rfl, low, ot.low, by omega, by omega, ?_⟩
  rw [br]
  refine ⟨_, rfl, rfl, _, _, rfl, _, _, rfl, rfl, ?_⟩
  refine ⟨rfl, s, s.length - 1, by rw [← last_nat ok.ne]; rfl, low, by omega, by omega, ?_⟩
  have nl := needL_len s (s.length - 1)
  refine ⟨natsD (mNeedL s (s.length - 1)), rfl, by rw [List.length_map]; exact s16 (by omega), ?_⟩
  refine lc_mapT (fun (i : Nat) => PyData.int (i : Nat)) (fun k => PyData.int ((onceL s).2.getD k 0 : Nat)) (fun k hk q hq => ?_) ?_
  · have hk2 := nd_le low ((needL_nd low (k := s.length - 1) (by omega) k).1 hk)
    exact ⟨_, ix_at (pl_at (by rw [(once_all low).lp]; omega)), hq _ rfl⟩
  refine ⟨rfl, (mNeedL s (s.length - 1)).map fun k => (onceL s).2.getD k 0, by unfold natsD; rw [List.map_map]; rfl, by rw [List.length_map]; omega, ?_⟩
  refine ne_pass9 (okD1_nats _) ?_
  refine ⟨rfl, t, rfl, ot.low, ot.ne, by omega, ?_⟩
  rw [na]
  refine ⟨(t.length : Nat), by show Sl.d (.int ((t.map lnD).length : Nat)) = _; rw [List.length_map], ⟨by omega, by omega⟩, ?_⟩
  rw [Int.toNat_natCast, rngD_nats]
  refine eq_pass9 (okD1_nats _) ?_
  refine ⟨rfl, t, t.length - 1, by rw [← last_nat ot.ne]; rfl, ot.low, by omega, by omega, ?_⟩
  rw [na]
  exact eq_same (okD1_nats _) hR

theorem sc__law_true_right : FnScope ["source", "sheet", "row", "moments", "tables", "late", "moment", "line"] ["source", "sheet"] (defScope s__law_true_right) := ⟨rfl, rfl, rfl, by decide +kernel, rfl, by decide +kernel, by decide +kernel⟩
theorem fn__law_true_right (A : At K mg "_law_true_right" s__law_true_right ["source", "sheet"]) (T : Blt w K mg) (G__law_row : Fn P w K mg base "_law_row" 3 ["source", "words", "most"] (spX K 3 m__law_row)) (G__law_tables : Fn P w K mg base "_law_tables" 3 ["sheet", "row"] (spX K 2 m__law_tables)) (G__law_truths : Fn P w K mg base "_law_truths" 1 ["tables", "moment"] (spX K 2 m__law_truths)) (G_tidy : Fn P w K mg base "tidy" 5 ["sheet"] (spX K 1 m_tidy)) : Fn P w K mg base "_law_true_right" 6 ["source", "sheet"] (spX K 2 m9_true_right) := by
  refine fnD (k := 5) (m := m9_true_right) A sc__law_true_right (fun G f cdv A outer s H E hr ss R hl hm => ?_)
  refine ⟨_, _, (dss_cons (ds_set 2 sc__law_true_right.nd (k_fn (K := K) rfl G__law_row (hr.mono (by decide)) (da_cons (de_v 0) (da_cons (k_sortSet (K := K) rfl T.m_sorted T.m_set (da_cons (de_lc (own := [("line", 7)]) sc__law_true_right.nd (ki_tup (K := K) rfl (de_v 1)) (blkOk_by (N := ["source", "sheet", "row", "moments", "tables", "late", "moment", "line"]) (sc := defScope s__law_true_right) (by decide +kernel)) (fun _ _ _ _ _ => by exact (dg_name 7 (by decide) sc__law_true_right.nd)) (fun _ _ _ _ _ => by exact (dp_one (by exact (dt_cmp op_eq (fun _ => lo_eqS) (de_ix (k_ix (K := K) rfl) (fun _ => lo_ix) (de_v 7) de_int) de_str)))) (fun _ _ _ _ _ => by exact (de_ix (k_ix (K := K) rfl) (fun _ => lo_ix) (de_v 7) de_int))) da_nil)) (da_cons de_int da_nil)))))
      (dss_cons (ds_asg (js := [4, 5]) (de_tup (da_cons (k_fn (K := K) rfl G__law_tables (hr.mono (by decide)) (da_cons (de_v 1) (da_cons (de_v 2) da_nil))) (da_cons (k_fn (K := K) rfl G__law_tables (hr.mono (by decide)) (da_cons (k_fn (K := K) rfl G_tidy (hr.mono (by decide)) (da_cons (de_v 1) da_nil)) (da_cons (de_v 2) da_nil))) da_nil))) (by exact (kg_tup (K := K) (n := 2) rfl rfl (dgs_cons (dg_name 4 (by decide) sc__law_true_right.nd) (dgs_cons (dg_name 5 (by decide) sc__law_true_right.nd) dgs_nil)))))
      (dss_cons (ds_set 3 sc__law_true_right.nd (DE.fz (de_lst (da_cons (de_op op_sub (fun _ => lo_sub) (de_ix (k_ix (K := K) rfl) (fun _ => lo_ix) (de_v 2) de_int) de_int) (da_cons (de_op op_sub (fun _ => lo_sub) (de_ix (k_ix (K := K) rfl) (fun _ => lo_ix) (de_v 2) de_int) de_int) (da_cons (de_ix (k_ix (K := K) rfl) (fun _ => lo_ix) (de_v 2) de_int) (da_cons (de_op op_add (fun _ => lo_add) (de_ix (k_ix (K := K) rfl) (fun _ => lo_ix) (de_v 2) de_int) de_int) (da_cons (de_op op_add (fun _ => lo_add) (de_ix (k_ix (K := K) rfl) (fun _ => lo_ix) (de_v 2) de_int) de_int) (da_cons (de_op op_add (fun _ => lo_add) (de_op op_add (fun _ => lo_add) (de_ix (k_ix (K := K) rfl) (fun _ => lo_ix) (de_v 2) de_int) (de_callB (k_len (K := K) rfl) (fun _ => lc_len) T.m_len (da_cons (de_ix (k_ix (K := K) rfl) (fun _ => lo_ix) (de_v 2) de_int) da_nil))) de_int) (da_cons (de_un un_neg (fun _ => lu_neg) (de_op op_pow (fun _ => lo_pow) de_int de_int)) (da_cons (de_op op_pow (fun _ => lo_pow) de_int de_int) da_nil)))))))))))
      (dss_one (ds_ret (de_cmp (k_eq (K := K) rfl hr.units) (fun _ => lo_eq) (de_lc (own := [("moment", 6)]) sc__law_true_right.nd (ki_list (K := K) rfl (de_v 3)) (blkOk_by (N := ["source", "sheet", "row", "moments", "tables", "late", "moment", "line"]) (sc := defScope s__law_true_right) (by decide +kernel)) (fun _ _ _ _ _ => by exact (dg_name 6 (by decide) sc__law_true_right.nd)) (fun _ _ _ _ _ => by exact dp_nil) (fun _ _ _ _ _ => by exact (de_ix (k_ix (K := K) rfl) (fun _ => lo_ix) (k_fn (K := K) rfl G__law_truths (hr.mono (by decide)) (da_cons (de_v 4) (da_cons (de_v 6) da_nil))) (de_un un_neg (fun _ => lu_neg) de_int)))) (de_lc (own := [("moment", 6)]) sc__law_true_right.nd (ki_list (K := K) rfl (de_v 3)) (blkOk_by (N := ["source", "sheet", "row", "moments", "tables", "late", "moment", "line"]) (sc := defScope s__law_true_right) (by decide +kernel)) (fun _ _ _ _ _ => by exact (dg_name 6 (by decide) sc__law_true_right.nd)) (fun _ _ _ _ _ => by exact dp_nil) (fun _ _ _ _ _ => by exact (de_ix (k_ix (K := K) rfl) (fun _ => lo_ix) (k_fn (K := K) rfl G__law_truths (hr.mono (by decide)) (da_cons (de_v 5) (da_cons (de_v 6) da_nil))) (de_un un_neg (fun _ => lu_neg) de_int)))))))))), ?_⟩
  obtain ⟨s, rfl, ok, hs, hR⟩ := hm
  have low := ok.low
  have pos := List.length_pos_iff.mpr ok.ne
  refine ⟨s.map lnD, rfl, by rw [List.length_map]; exact s16 (by omega), ?_⟩
  refine lc_fmGo lnD (fun l => (ltOf l).map PyData.str) s [] (fun l hl2 k hk => ?_) ?_
  · rcases ln_split l (ok.W l hl2) with ⟨w, rfl⟩ | N
    · exact ⟨_, ix_0, eqS_yes ⟨_, ix_1, _, rfl, hk⟩⟩
    · rw [ln_d]
      have e : ltOf l = none := by
        cases l with
        | lt w => exact absurd rfl N.ne
        | _ => rfl
      rw [e] at hk
      exact ⟨_, ix_0, eqS_no N.ne hk⟩
  rw [List.nil_append]
  have e1 : (s.filterMap fun l => (ltOf l).map PyData.str) = (s.filterMap ltOf).map PyData.str := by rw [List.map_filterMap]
  rw [e1]
  have hll : (s.filterMap ltOf).length ≤ s.length := List.length_filterMap_le _ _
  refine ⟨s.filterMap ltOf, strsD_map _, by show _ < 4096; omega, fun ys y1 y2 y3 => ?_⟩
  have yl : ys.length ≤ 100 := Nat.le_trans (nodup_len ys _ y2 fun x hx => (y3 x).1 hx) (by omega)
  refine ⟨rfl, ys, 3, rfl, yl, by decide, by decide, fun r okr => ?_⟩
  obtain ⟨rs, _⟩ := rowOk_small okr
  have l1 := okr.l1
  have r1 := okr.r1
  have ot := tidy_ok ok
  have tl := tidy_len ok
  have ts := fun n => tidy_truth ok l1 r1 n
  obtain ⟨h1, h2, h3, h4⟩ := mTab_ok ok l1 r1
  obtain ⟨h1', h2', h3', h4'⟩ := mTab_ok ot l1 r1
  have tpos := List.length_pos_iff.mpr ot.ne
  refine ⟨rfl, s, r, rfl, ok, by omega, rs, ?_⟩
  refine ⟨rfl, s, rfl, low, ok.ne, by omega, ?_⟩
  refine ⟨rfl, tidyL s, r, rfl, ot, by omega, rs, ?_⟩
  obtain ⟨ns, ens⟩ : ∃ ns : List Int, ns = [r.first - 4, r.first - 1, r.first, r.first + 1, r.first + 2, r.first + ((r.mid.map lotD).length : Int) + 4, -10 ^ 30, 10 ^ 30] := ⟨_, rfl⟩
  have nl : ns.length = 8 := by rw [ens]; rfl
  refine ⟨_, rfl, s16 (by show 2 ≤ 16777216; omega), ?_⟩
  refine ⟨_, rfl, rfl, _, _, rfl, _, _, rfl, rfl, ?_⟩
  refine ⟨.int r.first, rfl, .int r.first, rfl, .int r.first, rfl, .int r.first, rfl, .int r.first, rfl, .int r.first, rfl, lotsD r.mid, ix_at (k := 2) rfl, ⟨by decide, by decide, by decide⟩, ⟨by decide, by decide, by decide⟩, ns.map PyData.int, by rw [ens]; rfl, by rw [List.length_map, nl]; exact s16 (by decide), ?_⟩
  refine ⟨ns.map PyData.int, rfl, by rw [List.length_map, nl]; exact s16 (by decide), ?_⟩
  refine lc_mapT PyData.int (fun n => .bool (truthT s r n (s.length - 1))) (fun n hn k hk => ?_) ?_
  · exact ⟨rfl, mTab s r, r, n, rfl, rs, h1, h2, h3, by rw [h4]; omega, _, truths_last ok l1 r1 n, hk _ rfl⟩
  refine ⟨ns.map PyData.int, rfl, by rw [List.length_map, nl]; exact s16 (by decide), ?_⟩
  refine lc_mapT PyData.int (fun n => .bool (truthT s r n (s.length - 1))) (fun n hn k hk => ?_) ?_
  · refine ⟨rfl, mTab (tidyL s) r, r, n, rfl, rs, h1', h2', h3', by rw [h4']; omega, _, truths_last ot l1 r1 n, hk _ ?_⟩
    rw [ts n]
    rfl
  refine eq_same (okD1_list fun x hx => ?_) hR
  obtain ⟨n, _, rfl⟩ := List.mem_map.mp hx
  exact ⟨⟨rfl, by unfold SeqAt.shaped; simp [PyData.depth, PyData.canLay0]⟩, Nat.zero_le _⟩

theorem sc_law : FnScope ["script", "source", "most", "ladder", "k", "told", "some", "sheet", "word", "line"] ["script"] (defScope s_law) := ⟨rfl, rfl, rfl, by decide +kernel, rfl, by decide +kernel, by decide +kernel⟩
theorem fn_law {f : Addr} {fd : FuncData} (F : Fun K "law" "law" s_law f fd) (T : Blt w K mg) (G_src : Fn P w K mg base "_law_source" 1 ["script"] (spSource K)) (G__law_drawn_sheet : Fn P w K mg base "_law_drawn_sheet" 4 ["source", "most"] (spX K 2 m__law_drawn_sheet)) (G__law_of : Fn P w K mg base "_law_of" 2 ["source", "some"] (spX K 2 m__law_of)) (G__law_tidy_right : Fn P w K mg base "_law_tidy_right" 6 ["source", "sheet"] (spX K 2 m__law_tidy_right)) (G__law_true_right : Fn P w K mg base "_law_true_right" 6 ["source", "sheet"] (spX K 2 m9_true_right)) (G_put : Fn P w K mg base "put" 2 ["word", "one", "other"] (spX K 3 m_put)) (G_tidy : Fn P w K mg base "tidy" 5 ["sheet"] (spX K 1 m_tidy)) : FnG P w K mg base CX0 7 f fd ["script"] (spLaw K) := by
  refine okLaw (N := ["most", "ladder", "k", "told", "some", "sheet", "word", "line"]) (k := 5) F sc_law rfl G_src (fun cdv A outer s H E hr => ?_) (fun cdv A outer s H E hr => ps_first (K := K) rfl G_src (hr.mono (by decide)) sc_law.nd)
  refine ⟨_, _, fun G => (dss_cons (ds_for (js := [2]) (ki_list (K := K) rfl (de_lst (da_cons de_int (da_cons de_int (da_cons de_int (da_cons de_int da_nil)))))) (by exact (dg_name 2 (by decide) sc_law.nd)) (dss_cons (ds_set 7 sc_law.nd (k_fn (K := K) rfl G__law_drawn_sheet (hr.mono (by decide)) (da_cons (de_v 1) (da_cons (de_v 2) da_nil))))
      (dss_cons (ds_set 8 sc_law.nd (k_fn (K := K) rfl G__law_of (hr.mono (by decide)) (da_cons (de_v 1) (da_cons (de_lst (da_cons de_str (da_cons de_str (da_cons de_str (da_cons de_str da_nil))))) da_nil))))
      (dss_cons (ds_if (DW.dt (dw_or (dt_not (dt_val (k_fn (K := K) rfl G__law_tidy_right (hr.mono (by decide)) (da_cons (de_v 1) (da_cons (de_v 7) da_nil))))) (dw_or1 (dt_not (dt_val (k_fn (K := K) rfl G__law_true_right (hr.mono (by decide)) (da_cons (de_v 1) (da_cons (de_v 7) da_nil)))))))) (dss_one (ds_ret de_bl)) dss_nil)
      (dss_cons (ds_if (dt_cmp (k_ne (K := K) rfl hr.units) (fun _ => lo_ne) (k_fn (K := K) rfl G_tidy (hr.mono (by decide)) (da_cons (k_fn (K := K) rfl G_put (hr.mono (by decide)) (da_cons (de_v 8) (da_cons (de_v 7) (da_cons (de_v 7) da_nil)))) da_nil)) (de_op (k_catT (K := K) rfl) (fun _ => lo_catT) (k_fn (K := K) rfl G_tidy (hr.mono (by decide)) (da_cons (de_v 7) da_nil)) (de_tup (da_cons (de_op (k_catT (K := K) rfl) (fun _ => lo_catT) (de_tup (da_cons (de_v 8) da_nil)) (de_op (k_repT (K := K) rfl) (fun _ => lo_repT) (de_tup (da_cons (de_op op_sub (fun _ => lo_sub) (de_callB (k_len (K := K) rfl) (fun _ => lc_len) T.m_len (da_cons (k_fn (K := K) rfl G_tidy (hr.mono (by decide)) (da_cons (de_v 7) da_nil)) da_nil)) de_int) da_nil)) de_int)) da_nil)))) (dss_one (ds_ret de_bl)) dss_nil)
      (dss_one (ds_if (dt_not (dt_val (k_fn (K := K) rfl G__law_tidy_right (hr.mono (by decide)) (da_cons (de_v 1) (da_cons (k_fn (K := K) rfl G_put (hr.mono (by decide)) (da_cons (de_v 8) (da_cons (k_fn (K := K) rfl G__law_drawn_sheet (hr.mono (by decide)) (da_cons (de_v 1) (da_cons de_int da_nil))) (da_cons (de_v 7) da_nil)))) da_nil))))) (dss_one (ds_ret de_bl)) dss_nil)))))))
      (dss_cons (ds_set 3 sc_law.nd (DE.fz (de_lst (da_cons (de_tup (da_cons de_str (da_cons de_str da_nil))) (da_cons (de_tup (da_cons de_str (da_cons de_str da_nil))) da_nil)))))
      (dss_cons (ds_for (js := [4]) (di_rng1 T.m_range (da_cons de_int da_nil)) (by exact (dg_name 4 (by decide) sc_law.nd)) (dss_cons (ds_set 8 sc_law.nd (k_fn (K := K) rfl G__law_of (hr.mono (by decide)) (da_cons (de_v 1) (da_cons (de_lst (da_cons de_str (da_cons de_str (da_cons de_str (da_cons de_str da_nil))))) da_nil))))
      (dss_one (ds_set 3 sc_law.nd (DE.fz (de_op op_cat (fun _ => lo_cat) (de_v 3) (de_lst (da_cons (de_tup (da_cons (de_v 8) (da_cons (de_op op_mul (fun _ => lo_mul) de_int (de_v 4)) (da_cons (de_op op_add (fun _ => lo_add) (de_op op_mul (fun _ => lo_mul) de_int (de_v 4)) de_int) da_nil)))) (da_cons (de_tup (da_cons (de_v 8) (da_cons (de_op op_add (fun _ => lo_add) (de_op op_mul (fun _ => lo_mul) de_int (de_v 4)) de_int) (da_cons (de_op op_mul (fun _ => lo_mul) de_int (de_v 4)) da_nil)))) da_nil)))))))))
      (dss_cons (ds_set 5 sc_law.nd (k_fn (K := K) rfl G_tidy (hr.mono (by decide)) (da_cons (de_callTy (k_tuple (K := K) rfl) (fun _ => lc_tuple) T.m_tuple (da_cons (de_v 3) da_nil)) da_nil)))
      (dss_cons (ds_if (DW.dt (dw_or (dt_cmp op_ne (fun _ => lo_neS) (de_callB (k_len (K := K) rfl) (fun _ => lc_len) T.m_len (da_cons (de_v 5) da_nil)) de_int) (dw_or (dt_cmp (k_ne (K := K) rfl hr.units) (fun _ => lo_ne) (de_lc (own := [("line", 9)]) sc_law.nd (ki_tup (K := K) rfl (de_slice (k_slT (K := K) rfl) (fun _ => ls_tup) (de_v 5) (do_some de_int) do_none)) (blkOk_by (N := ["script", "source", "most", "ladder", "k", "told", "some", "sheet", "word", "line"]) (sc := defScope s_law) (by decide +kernel)) (fun _ _ _ _ _ => by exact (dg_name 9 (by decide) sc_law.nd)) (fun _ _ _ _ _ => by exact dp_nil) (fun _ _ _ _ _ => by exact (de_slice (k_slT (K := K) rfl) (fun _ => ls_tup) (de_v 9) (do_some de_int) do_none))) (de_lc (own := [("k", 4)]) sc_law.nd (di_rng1 T.m_range (da_cons de_int da_nil)) (blkOk_by (N := ["script", "source", "most", "ladder", "k", "told", "some", "sheet", "word", "line"]) (sc := defScope s_law) (by decide +kernel)) (fun _ _ _ _ _ => by exact (dg_name 4 (by decide) sc_law.nd)) (fun _ _ _ _ _ => by exact dp_nil) (fun _ _ _ _ _ => by exact (de_tup (da_cons (de_v 4) (da_cons (de_v 4) da_nil)))))) (dw_or1 (dt_cmp (k_ne (K := K) rfl hr.units) (fun _ => lo_ne) (de_lc (own := [("line", 9)]) sc_law.nd (ki_tup (K := K) rfl (de_slice (k_slT (K := K) rfl) (fun _ => ls_tup) (de_v 5) (do_some de_int) do_none)) (blkOk_by (N := ["script", "source", "most", "ladder", "k", "told", "some", "sheet", "word", "line"]) (sc := defScope s_law) (by decide +kernel)) (fun _ _ _ _ _ => by exact (dg_name 9 (by decide) sc_law.nd)) (fun _ _ _ _ _ => by exact dp_nil) (fun _ _ _ _ _ => by exact (de_ix (k_ix (K := K) rfl) (fun _ => lo_ix) (de_v 9) de_int))) (de_lc (own := [("line", 9)]) sc_law.nd (ki_list (K := K) rfl (k_pickL (K := K) rfl (de_v 3))) (blkOk_by (N := ["script", "source", "most", "ladder", "k", "told", "some", "sheet", "word", "line"]) (sc := defScope s_law) (by decide +kernel)) (fun _ _ _ _ _ => by exact (dg_name 9 (by decide) sc_law.nd)) (fun _ _ _ _ _ => by exact dp_nil) (fun _ _ _ _ _ => by exact (de_ix (k_ix (K := K) rfl) (fun _ => lo_ix) (de_v 9) de_int)))))))) (dss_one (ds_ret de_bl)) dss_nil)
      (dss_cons (ds_set 6 sc_law.nd (de_tup (da_cons (de_tup (da_cons de_str (da_cons de_str da_nil))) (da_cons (de_tup (da_cons de_str (da_cons de_str da_nil))) (da_cons (de_tup (da_cons de_str (da_cons de_str da_nil))) (da_cons (de_tup (da_cons de_str (da_cons de_int da_nil))) (da_cons (de_tup (da_cons de_str (da_cons de_int (da_cons de_int da_nil)))) (da_cons (de_tup (da_cons de_str (da_cons de_int (da_cons de_int da_nil)))) (da_cons (de_tup (da_cons de_str (da_cons de_int (da_cons de_int da_nil)))) (da_cons (de_tup (da_cons de_str (da_cons de_int (da_cons de_int da_nil)))) da_nil))))))))))
      (dss_cons (ds_if (dt_cmp (k_ne (K := K) rfl hr.units) (fun _ => lo_ne) (k_fn (K := K) rfl G_tidy (hr.mono (by decide)) (da_cons (de_v 6) da_nil)) (de_tup (da_cons (de_tup (da_cons de_str (da_cons de_str da_nil))) (da_cons (de_tup (da_cons de_str (da_cons de_str da_nil))) (da_cons (de_tup (da_cons de_str (da_cons de_int da_nil))) (da_cons (de_tup (da_cons de_str (da_cons de_int (da_cons de_int da_nil)))) (da_cons (de_tup (da_cons de_str (da_cons de_int (da_cons de_int da_nil)))) (da_cons (de_tup (da_cons de_str (da_cons de_int (da_cons de_int da_nil)))) (da_cons (de_tup (da_cons de_str (da_cons de_int (da_cons de_int da_nil)))) da_nil))))))))) (dss_one (ds_ret de_bl)) dss_nil)
      (dss_one (ds_ret (de_and (de_cmp (k_eq (K := K) rfl hr.units) (fun _ => lo_eq) (k_fn (K := K) rfl G_tidy (hr.mono (by decide)) (da_cons (de_tup (da_cons (de_tup (da_cons de_str da_nil)) (da_cons (de_tup (da_cons de_str da_nil)) (da_cons (de_tup (da_cons de_str (da_cons de_int da_nil))) (da_cons (de_tup (da_cons de_str da_nil)) da_nil))))) da_nil)) (de_tup (da_cons (de_tup (da_cons de_str da_nil)) da_nil))) (de_one (de_cmp (k_eq (K := K) rfl hr.units) (fun _ => lo_eq) (k_fn (K := K) rfl G_tidy (hr.mono (by decide)) (da_cons (de_tup (da_cons (de_tup (da_cons de_str da_nil)) (da_cons (de_tup (da_cons de_str da_nil)) (da_cons (de_tup (da_cons de_str (da_cons de_int (da_cons de_int da_nil)))) da_nil)))) da_nil)) (de_tup (da_cons (de_tup (da_cons de_str da_nil)) (da_cons (de_tup (da_cons de_str (da_cons de_int (da_cons de_int da_nil)))) da_nil))))))))))))))), ?_⟩
  refine ⟨_, rfl, s16 (by show 4 ≤ 16777216; omega), _, rfl, ?_⟩
  refine loop_byT PyData.int (l := [6, 12, 24, 60]) (fun _ env => ∃ v2 v3 v4 v5 v6 v7 v8, env = [none, some .src, v2, v3, v4, v5, v6, v7, v8, none]) ⟨_, _, _, _, _, _, _, rfl⟩ ?_ ?_
  · rintro j most env hj ⟨v2, v3, v4, v5, v6, v7, v8, rfl⟩ nx hn
    have hmost : 1 ≤ most ∧ most ≤ 60 := by
      have := List.mem_of_getElem? hj
      simp only [List.mem_cons, List.not_mem_nil, or_false] at this
      rcases this with rfl | rfl | rfl | rfl <;> decide
    refine ⟨rfl, most, rfl, hmost.1, by omega, fun s ok ls => ?_⟩
    have low := ok.low
    have hs : s.length ≤ 60 := by omega
    have pos := List.length_pos_iff.mpr ok.ne
    refine ⟨_, rfl, s16 (by show 4 ≤ 16777216; omega), rfl, _, rfl, by simp, by show 4 < 1000000; omega, fun x hx => ?_⟩
    obtain ⟨o, rfl, ho⟩ : ∃ o : Str, x = .str o ∧ o ∈ ops := by
      simp only [List.mem_cons, List.not_mem_nil, or_false] at hx
      rcases hx with rfl | rfl | rfl | rfl <;> exact ⟨_, rfl, by decide +kernel⟩
    refine ⟨rfl, s, rfl, ok, by omega, true, rfl, ?_⟩
    refine ⟨rfl, s, rfl, ok, by omega, true, rfl, ?_⟩
    have low2 := put_low ho low low ok.ne ok.ne
    have ll2 : (mPut o s s).length = s.length + s.length + 1 := by unfold mPut; simp [List.length_append]; omega
    have ne2 : mPut o s s ≠ [] := fun e => by rw [e] at ll2; cases ll2
    have ot := tidy_ok ok
    have tl := tidy_len ok
    have tpos := List.length_pos_iff.mpr ot.ne
    refine ⟨rfl, o, s, s, rfl, low_W low, ok.ne, ok.ne, by omega, by omega, ?_⟩
    refine ⟨rfl, mPut o s s, rfl, low2, ne2, by omega, ?_⟩
    rw [tidy_put ho low ok.ne]
    refine ⟨rfl, s, rfl, low, ok.ne, by omega, ?_⟩
    refine ⟨_, rfl, s16 (by show 1 ≤ 16777216; omega), ?_⟩
    refine ⟨rfl, s, rfl, low, ok.ne, by omega, ?_⟩
    refine ⟨_, rfl, s16 (by show 1 ≤ 16777216; omega), ?_⟩
    refine ⟨by show 1 ≤ 1000; omega, by decide, .inr (by decide), s16 (by show 1 + 2 ≤ 16777216; omega), _, rfl, s16 (by show 1 ≤ 16777216; omega), ?_⟩
    refine ⟨by rw [List.length_map]; exact s16 (by show _ + 1 ≤ 16777216; omega), ?_⟩
    have e1 : (PyData.tuple ((tidyL s).map lnD ++ [PyData.tuple ([.str o] ++ [.int (((tidyL s).map lnD).length - 1), .int (((tidyL s).map lnD).length - 1)])])) = sheetD (tidyL s ++ [.bi o ((tidyL s).length - 1) ((tidyL s).length - 1)]) := by
      rw [sub_one ot.ne]
      show _ = PyData.tuple ((tidyL s ++ [_]).map lnD)
      rw [List.map_append]
      rfl
    have low3 := low_snoc ot.low (l := .bi o ((tidyL s).length - 1) ((tidyL s).length - 1)) ⟨ho, fun i hi => by simp [Ln.mem] at hi; omega⟩
    have ok3 : SOk (tidyL s ++ [.bi o ((tidyL s).length - 1) ((tidyL s).length - 1)]) := ⟨by simp, fun k l h => ⟨(low3 k l h).1, (low3 k l h).2, fun w e => by
      subst e
      rcases Nat.lt_or_ge k (tidyL s).length with c | c
      · rw [List.getElem?_append_left c] at h
        exact (ot.ok k _ h).2.2 w rfl
      · rw [List.getElem?_append_right c] at h
        have := List.mem_of_getElem? h
        simp at this⟩⟩
    show fNe (.d (sheetD _)) (.d (.tuple ((tidyL s).map lnD ++ [PyData.tuple ([.str o] ++ [.int (((tidyL s).map lnD).length - 1), .int (((tidyL s).map lnD).length - 1)])]))) _
    rw [e1]
    refine ne_pass9 (okD1_sheet ok3 (by rw [List.length_append, List.length_singleton]; omega)) ?_
    refine ⟨rfl, 8, rfl, by decide, by decide, fun z okz lz => ?_⟩
    have okp := (SOk.put ho okz ok).1
    have lp := (SOk.put ho okz ok).2
    refine ⟨rfl, o, z, s, rfl, low_W low, okz.ne, ok.ne, by omega, by omega, ?_⟩
    refine ⟨rfl, mPut o z s, rfl, okp, by omega, true, rfl, ?_⟩
    exact hn _ ⟨_, _, _, _, _, _, _, rfl⟩
  rintro env ⟨v2, v3, v4, v5, v6, v7, v8, rfl⟩
  refine ⟨_, rfl, s16 (by show 2 ≤ 16777216; omega), _, rfl, s16 (by show 2 ≤ 16777216; omega), _, rfl, s16 (by show 2 ≤ 16777216; omega), ?_⟩
  refine ⟨29, rfl, ⟨by decide, by decide⟩, ?_⟩
  rw [rng0]
  refine loop_byT (fun (i : Nat) => PyData.int i) (fun j env => ∃ ws v2 v4 v5 v6 v7 v8, env = [none, some .src, v2, some (.d (.list ((lad ws).map lnD))), v4, v5, v6, v7, v8, none] ∧ ws.length = j ∧ ∀ w ∈ ws, w ∈ ops) ⟨[], v2, v4, v5, v6, v7, v8, rfl, rfl, fun w h => by cases h⟩ ?_ ?_
  · rintro j i env hj ⟨ws, v2, v4, v5, v6, v7, v8, rfl, wl, hw⟩ nx hn
    have hi : i = j := by
      have hj2 := (List.getElem?_eq_some_iff.mp hj).1
      rw [List.length_range] at hj2
      rw [List.getElem?_range hj2] at hj
      exact (Option.some.inj hj).symm
    subst hi
    have hj2 : i < 29 := by have := (List.getElem?_eq_some_iff.mp hj).1; rwa [List.length_range] at this
    refine ⟨_, rfl, s16 (by show 4 ≤ 16777216; omega), rfl, _, rfl, by simp, by show 4 < 1000000; omega, fun x hx => ?_⟩
    obtain ⟨o, rfl, ho⟩ : ∃ o : Str, x = .str o ∧ o ∈ ops := by
      simp only [List.mem_cons, List.not_mem_nil, or_false] at hx
      rcases hx with rfl | rfl | rfl | rfl <;> exact ⟨_, rfl, by decide +kernel⟩
    have cm : CMul 2 ((i : Nat) : Int) := by unfold CMul; omega
    have ll := lad_len ws
    refine ⟨cm, cm, _, rfl, s16 (by show 3 ≤ 16777216; omega), cm, cm, _, rfl, s16 (by show 3 ≤ 16777216; omega), _, rfl, s16 (by show 2 ≤ 16777216; omega), ?_⟩
    refine ⟨by rw [List.length_map]; exact s16 (by show _ + 2 ≤ 16777216; omega), ?_⟩
    refine hn _ ⟨ws ++ [o], v2, some (.d (.int (i : Nat))), v5, v6, v7, some (.d (.str o)), ?_, by rw [List.length_append, wl]; rfl, fun w h => by
      rcases List.mem_append.mp h with h | h
      · exact hw w h
      · rw [List.mem_singleton.mp h]; exact ho⟩
    rw [lad_snoc, List.map_append, wl]
    have c1 : (((2 * i : Nat) : Int)) = 2 * (i : Int) := by omega
    have c2 : (((2 * i + 1 : Nat) : Int)) = 2 * (i : Int) + 1 := by omega
    show _ = [none, some Sl.src, v2, some (Sl.d (PyData.list (List.map lnD (lad ws) ++ [.tuple [.str o, .int ((2 * i : Nat) : Int), .int ((2 * i + 1 : Nat) : Int)], .tuple [.str o, .int ((2 * i + 1 : Nat) : Int), .int ((2 * i : Nat) : Int)]]))), some (Sl.d (.int (i : Nat))), v5, v6, v7, some (Sl.d (.str o)), none]
    rw [c1, c2]
    rfl
  rintro env ⟨ws, v2, v4, v5, v6, v7, v8, rfl, wl, hw⟩
  have wl : ws.length = 29 := wl
  obtain ⟨w0, wz, ew⟩ : ∃ w0 wz, ws = w0 ++ [wz] := ⟨ws.dropLast, ws.getLast (fun z => by rw [z] at wl; cases wl), (List.dropLast_concat_getLast _).symm⟩
  have ld := lad_low hw
  have ll := lad_len ws
  have lne : lad ws ≠ [] := fun e => by rw [e] at ll; cases ll
  have lt : tidyL (lad ws) = ladT ws := by rw [ew] at hw ⊢; exact lad_tidy hw
  have tll := ladT_len ws
  refine ⟨rfl, lad ws, rfl, ld, lne, by omega, ?_⟩
  rw [lt]
  have e30 : ((ladT ws).map lnD).length = 30 := by rw [List.length_map]; omega
  refine ⟨false, by show Sl.d (.bool (!decide (((((ladT ws).map lnD).length : Nat) : Int) = 30))) = _; rw [e30]; rfl, ?_⟩
  have et : (ladT ws).map lnD = .tuple [.str "letter", .str "a"] :: (ws.zipIdx.map fun p => Ln.bi p.1 p.2 p.2).map lnD := rfl
  have zl : (ws.zipIdx.map fun p => Ln.bi p.1 p.2 p.2).length = 29 := by rw [List.length_map, List.length_zipIdx]; exact wl
  refine ⟨1, rfl, _, rfl, ?_⟩
  rw [et, cut_tail]
  refine ⟨by rw [List.length_map]; exact s16 (by omega), ?_⟩
  refine lc_mapT lnD (fun l => .tuple (lnR l)) (fun l hl2 q hq => ?_) ?_
  · rw [ln_d]
    refine ⟨1, rfl, ?_⟩
    refine slT_pass ?_
    rw [cut_tail]
    exact hq _ rfl
  refine ⟨29, rfl, ⟨by decide, by decide⟩, ?_⟩
  rw [rng0]
  refine ⟨by rw [List.length_map, List.length_range]; exact s16 (by decide), ?_⟩
  refine lc_mapT (fun (i : Nat) => PyData.int i) (fun i => .tuple [.int (i : Nat), .int (i : Nat)]) (fun l hl2 q hq => ?_) ?_
  · exact ⟨_, rfl, s16 (by show 2 ≤ 16777216; omega), hq _ rfl⟩
  have e2 : ((ws.zipIdx.map fun p => Ln.bi p.1 p.2 p.2).map fun l => PyData.tuple (lnR l)) = (List.range 29).map fun i => .tuple [.int (i : Nat), .int (i : Nat)] := by
    rw [List.map_map]
    refine List.ext_getElem (by simp [wl]) fun i h1 h2 => ?_
    rw [List.getElem_map, List.getElem_map, List.getElem_zipIdx, List.getElem_range]
    show PyData.tuple (lnR (.bi _ (0 + i) (0 + i))) = _
    rw [Nat.zero_add]
    rfl
  rw [e2]
  refine ne_pass9 (okD1_list fun x hx => ?_) ?_
  · obtain ⟨i, _, rfl⟩ := List.mem_map.mp hx
    exact ⟨⟨rfl, by unfold SeqAt.shaped; simp [PyData.depth, PyData.depthAll, PyData.canLay0, PyData.canLayAll0]⟩, by simp [PyData.depth, PyData.depthAll]⟩
  refine ⟨1, rfl, _, rfl, ?_⟩
  rw [et, cut_tail]
  refine ⟨by rw [List.length_map]; exact s16 (by omega), ?_⟩
  refine lc_mapT lnD (fun l => .str l.word) (fun l hl2 q hq => ?_) ?_
  · rw [ln_d]
    exact ⟨_, ix_0, hq _ rfl⟩
  refine ⟨_, rfl, ?_⟩
  rw [lad_pick wl]
  refine ⟨_, rfl, ?_⟩
  refine ⟨by rw [List.length_map, List.length_range]; exact s16 (by decide), ?_⟩
  refine lc_mapT (fun j => lnD (.bi (ws.getD j "") (2 * j) (2 * j + 1))) (fun j => .str (ws.getD j "")) (fun l hl2 q hq => ?_) ?_
  · exact ⟨_, ix_0, hq _ rfl⟩
  rw [lad_words wl]
  refine ne_pass9 (okD1_list fun x hx => ?_) ?_
  · obtain ⟨j, hj, rfl⟩ := List.mem_map.mp hx
    have hj := List.mem_range.mp hj
    have hm : ws.getD j "" ∈ ws := by rw [List.getD_eq_getElem?_getD, List.getElem?_eq_getElem (by omega)]; exact List.getElem_mem _
    have := (ops_small _ (hw _ hm)).2.2
    exact ⟨⟨rfl, by unfold SeqAt.shaped; simp [PyData.depth]; exact this⟩, Nat.zero_le _⟩
  rw [if_neg Bool.false_ne_true]
  dsimp only [dNext]
  refine ⟨_, rfl, s16 (by show 2 ≤ 16777216; omega), _, rfl, s16 (by show 2 ≤ 16777216; omega), _, rfl, s16 (by show 2 ≤ 16777216; omega), _, rfl, s16 (by show 2 ≤ 16777216; omega), _, rfl, s16 (by show 3 ≤ 16777216; omega), _, rfl, s16 (by show 3 ≤ 16777216; omega), _, rfl, s16 (by show 3 ≤ 16777216; omega), _, rfl, s16 (by show 3 ≤ 16777216; omega), _, rfl, s16 (by show 8 ≤ 16777216; omega), ?_⟩
  refine ⟨rfl, some9, rfl, lowB_low (by decide +kernel), by unfold some9; simp, by decide, ?_⟩
  rw [some9_tidy]
  refine ⟨_, rfl, s16 (by show 2 ≤ 16777216; omega), _, rfl, s16 (by show 2 ≤ 16777216; omega), _, rfl, s16 (by show 2 ≤ 16777216; omega), _, rfl, s16 (by show 3 ≤ 16777216; omega), _, rfl, s16 (by show 3 ≤ 16777216; omega), _, rfl, s16 (by show 3 ≤ 16777216; omega), _, rfl, s16 (by show 3 ≤ 16777216; omega), _, rfl, s16 (by show 7 ≤ 16777216; omega), ?_⟩
  refine ⟨⟨by decide +kernel, by decide +kernel⟩, ⟨by decide +kernel, by decide +kernel⟩, false, congrArg (fun b => Sl.d (.bool b)) (by decide +kernel), ?_⟩
  refine ⟨_, rfl, s16 (by show 1 ≤ 16777216; omega), _, rfl, s16 (by show 1 ≤ 16777216; omega), _, rfl, s16 (by show 2 ≤ 16777216; omega), _, rfl, s16 (by show 1 ≤ 16777216; omega), _, rfl, s16 (by show 4 ≤ 16777216; omega), ?_⟩
  refine ⟨rfl, [.yes, .yes, .un 1, .yes], rfl, lowB_low (by decide +kernel), by simp, by decide, ?_⟩
  rw [yes9_tidy]
  refine ⟨_, rfl, s16 (by show 1 ≤ 16777216; omega), _, rfl, s16 (by show 1 ≤ 16777216; omega), ?_⟩
  refine ⟨⟨by decide +kernel, by decide +kernel⟩, ⟨by decide +kernel, by decide +kernel⟩, true, congrArg (fun b => Sl.d (.bool b)) (by decide +kernel), ?_⟩
  refine ⟨_, rfl, s16 (by show 1 ≤ 16777216; omega), _, rfl, s16 (by show 1 ≤ 16777216; omega), _, rfl, s16 (by show 3 ≤ 16777216; omega), _, rfl, s16 (by show 3 ≤ 16777216; omega), ?_⟩
  refine ⟨rfl, [.yes, .yes, .bi "and" 0 1], rfl, lowB_low (by decide +kernel), by simp, by decide, ?_⟩
  rw [and9_tidy]
  refine ⟨_, rfl, s16 (by show 1 ≤ 16777216; omega), _, rfl, s16 (by show 3 ≤ 16777216; omega), _, rfl, s16 (by show 2 ≤ 16777216; omega), ?_⟩
  exact ⟨⟨by decide +kernel, by decide +kernel⟩, ⟨by decide +kernel, by decide +kernel⟩, congrArg (fun b => Sl.d (.bool b)) (by decide +kernel)⟩

end
end Law

end

namespace Law
open PySem L2 PyProof.Rows RZ Pu
set_option maxHeartbeats 4000000
theorem at_mk {K : PySem.W.Frag} {h : Heap} {mg : Str → Option Value} {x : Str} {st : Stmt} {ps : List Str} {f : Addr} {oc kV dc pm cd ct : Value} {od an : Option Addr} {sl : Array (Option Value)} (X : K.In h) (G : h.Ns mainGlobals mg)
    (a : PySem.W.nsIn K mainGlobals x = some (some (.ref f))) (l : K.lookup f = some ⟨oc, od, .func (PySem.W.fnOf x x (defArgs st) (defBody st) (defScope st) .none kV dc pm an cd ct), sl⟩) (c : PySem.W.codeIn K cd x = true) (k : PySem.W.keepIn K (.ref f) = true)
    (b : ∀ fd, Fun K x x st f fd → Binds K fd ps []) : At K mg x st ps := ⟨_, _, fun_mk (st := st) l c k, PySem.W.mg_of X G a, b _ (fun_mk (st := st) l c k)⟩

/-- what the top has written -/
structure Txt (w : World) (K : PySem.W.Frag) (mg : Str → Option Value) : Prop where
  at_members : At K mg "members" s_members ["line"]
  at_needed : At K mg "needed" s_needed ["sheet"]
  at_needed_by : At K mg "needed_by" s_needed_by ["sheet", "number"]
  at_needed_by_all : At K mg "needed_by_all" s_needed_by_all ["sheet", "numbers"]
  at_part : At K mg "part" s_part ["sheet", "number"]
  at__told_anew : At K mg "_told_anew" s__told_anew ["line", "places"]
  at_tidy : At K mg "tidy" s_tidy ["sheet"]
  at_told_once : At K mg "told_once" s_told_once ["sheet", "numbers"]
  at_put : At K mg "put" s_put ["word", "one", "other"]
  at__shifted_by : At K mg "_shifted_by" s__shifted_by ["line", "many"]
  at__law_source : At K mg "_law_source" s__law_source ["script"]
  at__law_pick : At K mg "_law_pick" s__law_pick ["source", "many"]
  at__law_of : At K mg "_law_of" s__law_of ["source", "some"]
  at__law_mixed : At K mg "_law_mixed" s__law_mixed ["source", "things"]
  at__law_words : At K mg "_law_words" s__law_words ["source", "many"]
  at__law_lot : At K mg "_law_lot" s__law_lot ["source", "words"]
  at__law_row : At K mg "_law_row" s__law_row ["source", "words", "most"]
  at__law_lot_at : At K mg "_law_lot_at" s__law_lot_at ["row", "moment"]
  at__law_members : At K mg "_law_members" s__law_members ["line"]
  at__law_nests : At K mg "_law_nests" s__law_nests ["sheet", "word"]
  at__law_going : At K mg "_law_going" s__law_going ["heads", "ways", "size"]
  at__law_tables : At K mg "_law_tables" s__law_tables ["sheet", "row"]
  at__law_truths : At K mg "_law_truths" s__law_truths ["tables", "moment"]
  at__law_is_word : At K mg "_law_is_word" s__law_is_word ["value"]
  at__law_drawn_sheet : At K mg "_law_drawn_sheet" s__law_drawn_sheet ["source", "most"]
  at__law_path : At K mg "_law_path" s__law_path ["value"]
  at__law_needs : At K mg "_law_needs" s__law_needs ["sheet", "number"]
  at__law_builds : At K mg "_law_builds" s__law_builds ["sheets"]
  at__law_firsts : At K mg "_law_firsts" s__law_firsts ["things"]
  at__law_tidy_right : At K mg "_law_tidy_right" s__law_tidy_right ["source", "sheet"]
  at__law_true_right : At K mg "_law_true_right" s__law_true_right ["source", "sheet"]
  bl : Blt w K mg

theorem fn_all {P : Program} {w : World} {K : PySem.W.Frag} {mg : Str → Option Value} {base : Heap} {f : Addr} {fd : FuncData} (F : Fun K "law" "law" s_law f fd) (T : Txt w K mg) : FnG P w K mg base CX0 7 f fd ["script"] (spLaw K) := by
  have B := T.bl
  have G_src : Fn P w K mg base "_law_source" 1 ["script"] (spSource K) := Fn.mk' T.at__law_source fun f fd F => FnG.of (ok_source F B)
  have G__law_pick : Fn P w K mg base "_law_pick" 1 ["source", "many"] (spX K 2 mPick) := Fn.mk' T.at__law_pick fun f fd F => FnG.of (ok_pick F B)
  have G__law_mixed := fn_mixed T.at__law_mixed B G__law_pick
  have G_members := fn_members (P := P) (w := w) (base := base) T.at_members B
  have G__told_anew := fn__told_anew (P := P) (w := w) (base := base) T.at__told_anew B
  have G__shifted_by := fn__shifted_by (P := P) (w := w) (base := base) T.at__shifted_by B
  have G__law_lot_at := fn__law_lot_at (P := P) (w := w) (base := base) T.at__law_lot_at B
  have G__law_members := fn__law_members (P := P) (w := w) (base := base) T.at__law_members B
  have G__law_going := fn__law_going (P := P) (w := w) (base := base) T.at__law_going B
  have G__law_truths := fn__law_truths (P := P) (w := w) (base := base) T.at__law_truths B
  have G__law_is_word := fn__law_is_word (P := P) (w := w) (base := base) T.at__law_is_word B
  have G__law_firsts := fn__law_firsts (P := P) (w := w) (base := base) T.at__law_firsts B
  have G_needed_by_all := fn_needed_by_all (P := P) (w := w) (base := base) T.at_needed_by_all B G_members
  have G_told_once := fn_told_once (P := P) (w := w) (base := base) T.at_told_once B G__told_anew
  have G_put := fn_put (P := P) (w := w) (base := base) T.at_put B G__shifted_by
  have G__law_of := fn__law_of (P := P) (w := w) (base := base) T.at__law_of B G__law_pick
  have G__law_lot := fn__law_lot (P := P) (w := w) (base := base) T.at__law_lot B G__law_pick
  have G__law_nests := fn__law_nests (P := P) (w := w) (base := base) T.at__law_nests B G__law_members
  have G__law_path := fn__law_path (P := P) (w := w) (base := base) T.at__law_path B G__law_is_word
  have G__law_needs := fn__law_needs (P := P) (w := w) (base := base) T.at__law_needs B G__law_members
  have G__law_builds := fn__law_builds (P := P) (w := w) (base := base) T.at__law_builds B G__law_members
  have G_needed_by := fn_needed_by (P := P) (w := w) (base := base) T.at_needed_by B G_needed_by_all
  have G__law_words := fn__law_words (P := P) (w := w) (base := base) T.at__law_words B G__law_mixed
  have G__law_row := fn__law_row (P := P) (w := w) (base := base) T.at__law_row B G__law_lot G__law_of G__law_pick
  have G__law_tables := fn__law_tables (P := P) (w := w) (base := base) T.at__law_tables B G__law_going G__law_lot_at G__law_members G__law_nests
  have G_needed := fn_needed (P := P) (w := w) (base := base) T.at_needed B G_needed_by
  have G_part := fn_part (P := P) (w := w) (base := base) T.at_part B G__told_anew G_needed_by
  have G__law_drawn_sheet := fn__law_drawn_sheet (P := P) (w := w) (base := base) T.at__law_drawn_sheet B G__law_mixed G__law_of G__law_pick G__law_words
  have G_tidy := fn_tidy (P := P) (w := w) (base := base) T.at_tidy B G_needed G_told_once
  have G__law_tidy_right := fn__law_tidy_right (P := P) (w := w) (base := base) T.at__law_tidy_right B G__law_builds G__law_firsts G__law_needs G__law_path G_needed G_part G_tidy
  have G__law_true_right := fn__law_true_right (P := P) (w := w) (base := base) T.at__law_true_right B G__law_row G__law_tables G__law_truths G_tidy
  exact fn_law F B G_src G__law_drawn_sheet G__law_of G__law_tidy_right G__law_true_right G_put G_tidy

theorem all_at {l : PySem.W.OpenLaw} {w : World} {K : PySem.W.Frag} {h : Heap} {mg : Str → Option Value} {fa : Addr} (X : K.In h) (G : h.Ns mainGlobals mg) (hfa : mg "law" = some (.ref fa))
    {f0 : Addr} {oc0 kV0 dc0 pm0 cd0 ct0 : Value} {od0 an0 : Option Addr} {sl0 : Array (Option Value)}
    {f1 : Addr} {oc1 kV1 dc1 pm1 cd1 ct1 : Value} {od1 an1 : Option Addr} {sl1 : Array (Option Value)}
    {f2 : Addr} {oc2 kV2 dc2 pm2 cd2 ct2 : Value} {od2 an2 : Option Addr} {sl2 : Array (Option Value)}
    {f3 : Addr} {oc3 kV3 dc3 pm3 cd3 ct3 : Value} {od3 an3 : Option Addr} {sl3 : Array (Option Value)}
    {f4 : Addr} {oc4 kV4 dc4 pm4 cd4 ct4 : Value} {od4 an4 : Option Addr} {sl4 : Array (Option Value)}
    {f5 : Addr} {oc5 kV5 dc5 pm5 cd5 ct5 : Value} {od5 an5 : Option Addr} {sl5 : Array (Option Value)}
    {f6 : Addr} {oc6 kV6 dc6 pm6 cd6 ct6 : Value} {od6 an6 : Option Addr} {sl6 : Array (Option Value)}
    {f7 : Addr} {oc7 kV7 dc7 pm7 cd7 ct7 : Value} {od7 an7 : Option Addr} {sl7 : Array (Option Value)}
    {f8 : Addr} {oc8 kV8 dc8 pm8 cd8 ct8 : Value} {od8 an8 : Option Addr} {sl8 : Array (Option Value)}
    {f9 : Addr} {oc9 kV9 dc9 pm9 cd9 ct9 : Value} {od9 an9 : Option Addr} {sl9 : Array (Option Value)}
    {f10 : Addr} {oc10 kV10 dc10 pm10 cd10 ct10 : Value} {od10 an10 : Option Addr} {sl10 : Array (Option Value)}
    {f11 : Addr} {oc11 kV11 dc11 pm11 cd11 ct11 : Value} {od11 an11 : Option Addr} {sl11 : Array (Option Value)}
    {f12 : Addr} {oc12 kV12 dc12 pm12 cd12 ct12 : Value} {od12 an12 : Option Addr} {sl12 : Array (Option Value)}
    {f13 : Addr} {oc13 kV13 dc13 pm13 cd13 ct13 : Value} {od13 an13 : Option Addr} {sl13 : Array (Option Value)}
    {f14 : Addr} {oc14 kV14 dc14 pm14 cd14 ct14 : Value} {od14 an14 : Option Addr} {sl14 : Array (Option Value)}
    {f15 : Addr} {oc15 kV15 dc15 pm15 cd15 ct15 : Value} {od15 an15 : Option Addr} {sl15 : Array (Option Value)}
    {f16 : Addr} {oc16 kV16 dc16 pm16 cd16 ct16 : Value} {od16 an16 : Option Addr} {sl16 : Array (Option Value)}
    {f17 : Addr} {oc17 kV17 dc17 pm17 cd17 ct17 : Value} {od17 an17 : Option Addr} {sl17 : Array (Option Value)}
    {f18 : Addr} {oc18 kV18 dc18 pm18 cd18 ct18 : Value} {od18 an18 : Option Addr} {sl18 : Array (Option Value)}
    {f19 : Addr} {oc19 kV19 dc19 pm19 cd19 ct19 : Value} {od19 an19 : Option Addr} {sl19 : Array (Option Value)}
    {f20 : Addr} {oc20 kV20 dc20 pm20 cd20 ct20 : Value} {od20 an20 : Option Addr} {sl20 : Array (Option Value)}
    {f21 : Addr} {oc21 kV21 dc21 pm21 cd21 ct21 : Value} {od21 an21 : Option Addr} {sl21 : Array (Option Value)}
    {f22 : Addr} {oc22 kV22 dc22 pm22 cd22 ct22 : Value} {od22 an22 : Option Addr} {sl22 : Array (Option Value)}
    {f23 : Addr} {oc23 kV23 dc23 pm23 cd23 ct23 : Value} {od23 an23 : Option Addr} {sl23 : Array (Option Value)}
    {f24 : Addr} {oc24 kV24 dc24 pm24 cd24 ct24 : Value} {od24 an24 : Option Addr} {sl24 : Array (Option Value)}
    {f25 : Addr} {oc25 kV25 dc25 pm25 cd25 ct25 : Value} {od25 an25 : Option Addr} {sl25 : Array (Option Value)}
    {f26 : Addr} {oc26 kV26 dc26 pm26 cd26 ct26 : Value} {od26 an26 : Option Addr} {sl26 : Array (Option Value)}
    {f27 : Addr} {oc27 kV27 dc27 pm27 cd27 ct27 : Value} {od27 an27 : Option Addr} {sl27 : Array (Option Value)}
    {f28 : Addr} {oc28 kV28 dc28 pm28 cd28 ct28 : Value} {od28 an28 : Option Addr} {sl28 : Array (Option Value)}
    {f29 : Addr} {oc29 kV29 dc29 pm29 cd29 ct29 : Value} {od29 an29 : Option Addr} {sl29 : Array (Option Value)}
    {f30 : Addr} {oc30 kV30 dc30 pm30 cd30 ct30 : Value} {od30 an30 : Option Addr} {sl30 : Array (Option Value)}
    {f31 : Addr} {oc31 kV31 dc31 pm31 cd31 ct31 : Value} {od31 an31 : Option Addr} {sl31 : Array (Option Value)}
    (a0 : PySem.W.nsIn K mainGlobals "members" = some (some (.ref f0))) (l0 : K.lookup f0 = some ⟨oc0, od0, .func (PySem.W.fnOf "members" "members" (defArgs s_members) (defBody s_members) (defScope s_members) .none kV0 dc0 pm0 an0 cd0 ct0), sl0⟩) (c0 : PySem.W.codeIn K cd0 "members" = true) (k0 : PySem.W.keepIn K (.ref f0) = true)
    (a1 : PySem.W.nsIn K mainGlobals "needed" = some (some (.ref f1))) (l1 : K.lookup f1 = some ⟨oc1, od1, .func (PySem.W.fnOf "needed" "needed" (defArgs s_needed) (defBody s_needed) (defScope s_needed) .none kV1 dc1 pm1 an1 cd1 ct1), sl1⟩) (c1 : PySem.W.codeIn K cd1 "needed" = true) (k1 : PySem.W.keepIn K (.ref f1) = true)
    (a2 : PySem.W.nsIn K mainGlobals "needed_by" = some (some (.ref f2))) (l2 : K.lookup f2 = some ⟨oc2, od2, .func (PySem.W.fnOf "needed_by" "needed_by" (defArgs s_needed_by) (defBody s_needed_by) (defScope s_needed_by) .none kV2 dc2 pm2 an2 cd2 ct2), sl2⟩) (c2 : PySem.W.codeIn K cd2 "needed_by" = true) (k2 : PySem.W.keepIn K (.ref f2) = true)
    (a3 : PySem.W.nsIn K mainGlobals "needed_by_all" = some (some (.ref f3))) (l3 : K.lookup f3 = some ⟨oc3, od3, .func (PySem.W.fnOf "needed_by_all" "needed_by_all" (defArgs s_needed_by_all) (defBody s_needed_by_all) (defScope s_needed_by_all) .none kV3 dc3 pm3 an3 cd3 ct3), sl3⟩) (c3 : PySem.W.codeIn K cd3 "needed_by_all" = true) (k3 : PySem.W.keepIn K (.ref f3) = true)
    (a4 : PySem.W.nsIn K mainGlobals "part" = some (some (.ref f4))) (l4 : K.lookup f4 = some ⟨oc4, od4, .func (PySem.W.fnOf "part" "part" (defArgs s_part) (defBody s_part) (defScope s_part) .none kV4 dc4 pm4 an4 cd4 ct4), sl4⟩) (c4 : PySem.W.codeIn K cd4 "part" = true) (k4 : PySem.W.keepIn K (.ref f4) = true)
    (a5 : PySem.W.nsIn K mainGlobals "_told_anew" = some (some (.ref f5))) (l5 : K.lookup f5 = some ⟨oc5, od5, .func (PySem.W.fnOf "_told_anew" "_told_anew" (defArgs s__told_anew) (defBody s__told_anew) (defScope s__told_anew) .none kV5 dc5 pm5 an5 cd5 ct5), sl5⟩) (c5 : PySem.W.codeIn K cd5 "_told_anew" = true) (k5 : PySem.W.keepIn K (.ref f5) = true)
    (a6 : PySem.W.nsIn K mainGlobals "tidy" = some (some (.ref f6))) (l6 : K.lookup f6 = some ⟨oc6, od6, .func (PySem.W.fnOf "tidy" "tidy" (defArgs s_tidy) (defBody s_tidy) (defScope s_tidy) .none kV6 dc6 pm6 an6 cd6 ct6), sl6⟩) (c6 : PySem.W.codeIn K cd6 "tidy" = true) (k6 : PySem.W.keepIn K (.ref f6) = true)
    (a7 : PySem.W.nsIn K mainGlobals "told_once" = some (some (.ref f7))) (l7 : K.lookup f7 = some ⟨oc7, od7, .func (PySem.W.fnOf "told_once" "told_once" (defArgs s_told_once) (defBody s_told_once) (defScope s_told_once) .none kV7 dc7 pm7 an7 cd7 ct7), sl7⟩) (c7 : PySem.W.codeIn K cd7 "told_once" = true) (k7 : PySem.W.keepIn K (.ref f7) = true)
    (a8 : PySem.W.nsIn K mainGlobals "put" = some (some (.ref f8))) (l8 : K.lookup f8 = some ⟨oc8, od8, .func (PySem.W.fnOf "put" "put" (defArgs s_put) (defBody s_put) (defScope s_put) .none kV8 dc8 pm8 an8 cd8 ct8), sl8⟩) (c8 : PySem.W.codeIn K cd8 "put" = true) (k8 : PySem.W.keepIn K (.ref f8) = true)
    (a9 : PySem.W.nsIn K mainGlobals "_shifted_by" = some (some (.ref f9))) (l9 : K.lookup f9 = some ⟨oc9, od9, .func (PySem.W.fnOf "_shifted_by" "_shifted_by" (defArgs s__shifted_by) (defBody s__shifted_by) (defScope s__shifted_by) .none kV9 dc9 pm9 an9 cd9 ct9), sl9⟩) (c9 : PySem.W.codeIn K cd9 "_shifted_by" = true) (k9 : PySem.W.keepIn K (.ref f9) = true)
    (a10 : PySem.W.nsIn K mainGlobals "_law_source" = some (some (.ref f10))) (l10 : K.lookup f10 = some ⟨oc10, od10, .func (PySem.W.fnOf "_law_source" "_law_source" (defArgs s__law_source) (defBody s__law_source) (defScope s__law_source) .none kV10 dc10 pm10 an10 cd10 ct10), sl10⟩) (c10 : PySem.W.codeIn K cd10 "_law_source" = true) (k10 : PySem.W.keepIn K (.ref f10) = true)
    (a11 : PySem.W.nsIn K mainGlobals "_law_pick" = some (some (.ref f11))) (l11 : K.lookup f11 = some ⟨oc11, od11, .func (PySem.W.fnOf "_law_pick" "_law_pick" (defArgs s__law_pick) (defBody s__law_pick) (defScope s__law_pick) .none kV11 dc11 pm11 an11 cd11 ct11), sl11⟩) (c11 : PySem.W.codeIn K cd11 "_law_pick" = true) (k11 : PySem.W.keepIn K (.ref f11) = true)
    (a12 : PySem.W.nsIn K mainGlobals "_law_of" = some (some (.ref f12))) (l12 : K.lookup f12 = some ⟨oc12, od12, .func (PySem.W.fnOf "_law_of" "_law_of" (defArgs s__law_of) (defBody s__law_of) (defScope s__law_of) .none kV12 dc12 pm12 an12 cd12 ct12), sl12⟩) (c12 : PySem.W.codeIn K cd12 "_law_of" = true) (k12 : PySem.W.keepIn K (.ref f12) = true)
    (a13 : PySem.W.nsIn K mainGlobals "_law_mixed" = some (some (.ref f13))) (l13 : K.lookup f13 = some ⟨oc13, od13, .func (PySem.W.fnOf "_law_mixed" "_law_mixed" (defArgs s__law_mixed) (defBody s__law_mixed) (defScope s__law_mixed) .none kV13 dc13 pm13 an13 cd13 ct13), sl13⟩) (c13 : PySem.W.codeIn K cd13 "_law_mixed" = true) (k13 : PySem.W.keepIn K (.ref f13) = true)
    (a14 : PySem.W.nsIn K mainGlobals "_law_words" = some (some (.ref f14))) (l14 : K.lookup f14 = some ⟨oc14, od14, .func (PySem.W.fnOf "_law_words" "_law_words" (defArgs s__law_words) (defBody s__law_words) (defScope s__law_words) .none kV14 dc14 pm14 an14 cd14 ct14), sl14⟩) (c14 : PySem.W.codeIn K cd14 "_law_words" = true) (k14 : PySem.W.keepIn K (.ref f14) = true)
    (a15 : PySem.W.nsIn K mainGlobals "_law_lot" = some (some (.ref f15))) (l15 : K.lookup f15 = some ⟨oc15, od15, .func (PySem.W.fnOf "_law_lot" "_law_lot" (defArgs s__law_lot) (defBody s__law_lot) (defScope s__law_lot) .none kV15 dc15 pm15 an15 cd15 ct15), sl15⟩) (c15 : PySem.W.codeIn K cd15 "_law_lot" = true) (k15 : PySem.W.keepIn K (.ref f15) = true)
    (a16 : PySem.W.nsIn K mainGlobals "_law_row" = some (some (.ref f16))) (l16 : K.lookup f16 = some ⟨oc16, od16, .func (PySem.W.fnOf "_law_row" "_law_row" (defArgs s__law_row) (defBody s__law_row) (defScope s__law_row) .none kV16 dc16 pm16 an16 cd16 ct16), sl16⟩) (c16 : PySem.W.codeIn K cd16 "_law_row" = true) (k16 : PySem.W.keepIn K (.ref f16) = true)
    (a17 : PySem.W.nsIn K mainGlobals "_law_lot_at" = some (some (.ref f17))) (l17 : K.lookup f17 = some ⟨oc17, od17, .func (PySem.W.fnOf "_law_lot_at" "_law_lot_at" (defArgs s__law_lot_at) (defBody s__law_lot_at) (defScope s__law_lot_at) .none kV17 dc17 pm17 an17 cd17 ct17), sl17⟩) (c17 : PySem.W.codeIn K cd17 "_law_lot_at" = true) (k17 : PySem.W.keepIn K (.ref f17) = true)
    (a18 : PySem.W.nsIn K mainGlobals "_law_members" = some (some (.ref f18))) (l18 : K.lookup f18 = some ⟨oc18, od18, .func (PySem.W.fnOf "_law_members" "_law_members" (defArgs s__law_members) (defBody s__law_members) (defScope s__law_members) .none kV18 dc18 pm18 an18 cd18 ct18), sl18⟩) (c18 : PySem.W.codeIn K cd18 "_law_members" = true) (k18 : PySem.W.keepIn K (.ref f18) = true)
    (a19 : PySem.W.nsIn K mainGlobals "_law_nests" = some (some (.ref f19))) (l19 : K.lookup f19 = some ⟨oc19, od19, .func (PySem.W.fnOf "_law_nests" "_law_nests" (defArgs s__law_nests) (defBody s__law_nests) (defScope s__law_nests) .none kV19 dc19 pm19 an19 cd19 ct19), sl19⟩) (c19 : PySem.W.codeIn K cd19 "_law_nests" = true) (k19 : PySem.W.keepIn K (.ref f19) = true)
    (a20 : PySem.W.nsIn K mainGlobals "_law_going" = some (some (.ref f20))) (l20 : K.lookup f20 = some ⟨oc20, od20, .func (PySem.W.fnOf "_law_going" "_law_going" (defArgs s__law_going) (defBody s__law_going) (defScope s__law_going) .none kV20 dc20 pm20 an20 cd20 ct20), sl20⟩) (c20 : PySem.W.codeIn K cd20 "_law_going" = true) (k20 : PySem.W.keepIn K (.ref f20) = true)
    (a21 : PySem.W.nsIn K mainGlobals "_law_tables" = some (some (.ref f21))) (l21 : K.lookup f21 = some ⟨oc21, od21, .func (PySem.W.fnOf "_law_tables" "_law_tables" (defArgs s__law_tables) (defBody s__law_tables) (defScope s__law_tables) .none kV21 dc21 pm21 an21 cd21 ct21), sl21⟩) (c21 : PySem.W.codeIn K cd21 "_law_tables" = true) (k21 : PySem.W.keepIn K (.ref f21) = true)
    (a22 : PySem.W.nsIn K mainGlobals "_law_truths" = some (some (.ref f22))) (l22 : K.lookup f22 = some ⟨oc22, od22, .func (PySem.W.fnOf "_law_truths" "_law_truths" (defArgs s__law_truths) (defBody s__law_truths) (defScope s__law_truths) .none kV22 dc22 pm22 an22 cd22 ct22), sl22⟩) (c22 : PySem.W.codeIn K cd22 "_law_truths" = true) (k22 : PySem.W.keepIn K (.ref f22) = true)
    (a23 : PySem.W.nsIn K mainGlobals "_law_is_word" = some (some (.ref f23))) (l23 : K.lookup f23 = some ⟨oc23, od23, .func (PySem.W.fnOf "_law_is_word" "_law_is_word" (defArgs s__law_is_word) (defBody s__law_is_word) (defScope s__law_is_word) .none kV23 dc23 pm23 an23 cd23 ct23), sl23⟩) (c23 : PySem.W.codeIn K cd23 "_law_is_word" = true) (k23 : PySem.W.keepIn K (.ref f23) = true)
    (a24 : PySem.W.nsIn K mainGlobals "_law_drawn_sheet" = some (some (.ref f24))) (l24 : K.lookup f24 = some ⟨oc24, od24, .func (PySem.W.fnOf "_law_drawn_sheet" "_law_drawn_sheet" (defArgs s__law_drawn_sheet) (defBody s__law_drawn_sheet) (defScope s__law_drawn_sheet) .none kV24 dc24 pm24 an24 cd24 ct24), sl24⟩) (c24 : PySem.W.codeIn K cd24 "_law_drawn_sheet" = true) (k24 : PySem.W.keepIn K (.ref f24) = true)
    (a25 : PySem.W.nsIn K mainGlobals "_law_path" = some (some (.ref f25))) (l25 : K.lookup f25 = some ⟨oc25, od25, .func (PySem.W.fnOf "_law_path" "_law_path" (defArgs s__law_path) (defBody s__law_path) (defScope s__law_path) .none kV25 dc25 pm25 an25 cd25 ct25), sl25⟩) (c25 : PySem.W.codeIn K cd25 "_law_path" = true) (k25 : PySem.W.keepIn K (.ref f25) = true)
    (a26 : PySem.W.nsIn K mainGlobals "_law_needs" = some (some (.ref f26))) (l26 : K.lookup f26 = some ⟨oc26, od26, .func (PySem.W.fnOf "_law_needs" "_law_needs" (defArgs s__law_needs) (defBody s__law_needs) (defScope s__law_needs) .none kV26 dc26 pm26 an26 cd26 ct26), sl26⟩) (c26 : PySem.W.codeIn K cd26 "_law_needs" = true) (k26 : PySem.W.keepIn K (.ref f26) = true)
    (a27 : PySem.W.nsIn K mainGlobals "_law_builds" = some (some (.ref f27))) (l27 : K.lookup f27 = some ⟨oc27, od27, .func (PySem.W.fnOf "_law_builds" "_law_builds" (defArgs s__law_builds) (defBody s__law_builds) (defScope s__law_builds) .none kV27 dc27 pm27 an27 cd27 ct27), sl27⟩) (c27 : PySem.W.codeIn K cd27 "_law_builds" = true) (k27 : PySem.W.keepIn K (.ref f27) = true)
    (a28 : PySem.W.nsIn K mainGlobals "_law_firsts" = some (some (.ref f28))) (l28 : K.lookup f28 = some ⟨oc28, od28, .func (PySem.W.fnOf "_law_firsts" "_law_firsts" (defArgs s__law_firsts) (defBody s__law_firsts) (defScope s__law_firsts) .none kV28 dc28 pm28 an28 cd28 ct28), sl28⟩) (c28 : PySem.W.codeIn K cd28 "_law_firsts" = true) (k28 : PySem.W.keepIn K (.ref f28) = true)
    (a29 : PySem.W.nsIn K mainGlobals "_law_tidy_right" = some (some (.ref f29))) (l29 : K.lookup f29 = some ⟨oc29, od29, .func (PySem.W.fnOf "_law_tidy_right" "_law_tidy_right" (defArgs s__law_tidy_right) (defBody s__law_tidy_right) (defScope s__law_tidy_right) .none kV29 dc29 pm29 an29 cd29 ct29), sl29⟩) (c29 : PySem.W.codeIn K cd29 "_law_tidy_right" = true) (k29 : PySem.W.keepIn K (.ref f29) = true)
    (a30 : PySem.W.nsIn K mainGlobals "_law_true_right" = some (some (.ref f30))) (l30 : K.lookup f30 = some ⟨oc30, od30, .func (PySem.W.fnOf "_law_true_right" "_law_true_right" (defArgs s__law_true_right) (defBody s__law_true_right) (defScope s__law_true_right) .none kV30 dc30 pm30 an30 cd30 ct30), sl30⟩) (c30 : PySem.W.codeIn K cd30 "_law_true_right" = true) (k30 : PySem.W.keepIn K (.ref f30) = true)
    (a31 : PySem.W.nsIn K mainGlobals "law" = some (some (.ref f31))) (l31 : K.lookup f31 = some ⟨oc31, od31, .func (PySem.W.fnOf "law" "law" (defArgs s_law) (defBody s_law) (defScope s_law) .none kV31 dc31 pm31 an31 cd31 ct31), sl31⟩) (c31 : PySem.W.codeIn K cd31 "law" = true) (k31 : PySem.W.keepIn K (.ref f31) = true)
    (z_abs : PySem.W.nsIn K mainGlobals "abs" = some none)
    (z_bool : PySem.W.nsIn K mainGlobals "bool" = some none)
    (z_enumerate : PySem.W.nsIn K mainGlobals "enumerate" = some none)
    (z_int : PySem.W.nsIn K mainGlobals "int" = some none)
    (z_isinstance : PySem.W.nsIn K mainGlobals "isinstance" = some none)
    (z_len : PySem.W.nsIn K mainGlobals "len" = some none)
    (z_list : PySem.W.nsIn K mainGlobals "list" = some none)
    (z_max : PySem.W.nsIn K mainGlobals "max" = some none)
    (z_min : PySem.W.nsIn K mainGlobals "min" = some none)
    (z_range : PySem.W.nsIn K mainGlobals "range" = some none)
    (z_set : PySem.W.nsIn K mainGlobals "set" = some none)
    (z_sorted : PySem.W.nsIn K mainGlobals "sorted" = some none)
    (z_str : PySem.W.nsIn K mainGlobals "str" = some none)
    (z_tuple : PySem.W.nsIn K mainGlobals "tuple" = some none)
    (z_zip : PySem.W.nsIn K mainGlobals "zip" = some none) :
    ∃ fd : FuncData, (∀ (s : Shared) (v : Value), BindsTo s fd ⟨[v], []⟩ [("script", v)]) ∧ ∀ base : Heap, K.In base → base.Ns mainGlobals mg → FnG l.prog w K mg base CX0 7 fa fd ["script"] (spLaw K) := by
  have e := hfa.symm.trans (PySem.W.mg_of X G a31)
  cases e
  have F := fun_mk (st := s_law) l31 c31 k31
  have T : Txt w K mg := ⟨at_mk X G a0 l0 c0 k0 (fun fd F => F.binds fun _ _ _ _ _ _ us hl => match us, hl with | [_], _ => rfl), at_mk X G a1 l1 c1 k1 (fun fd F => F.binds fun _ _ _ _ _ _ us hl => match us, hl with | [_], _ => rfl), at_mk X G a2 l2 c2 k2 (fun fd F => F.binds fun _ _ _ _ _ _ us hl => match us, hl with | [_, _], _ => rfl), at_mk X G a3 l3 c3 k3 (fun fd F => F.binds fun _ _ _ _ _ _ us hl => match us, hl with | [_, _], _ => rfl), at_mk X G a4 l4 c4 k4 (fun fd F => F.binds fun _ _ _ _ _ _ us hl => match us, hl with | [_, _], _ => rfl), at_mk X G a5 l5 c5 k5 (fun fd F => F.binds fun _ _ _ _ _ _ us hl => match us, hl with | [_, _], _ => rfl), at_mk X G a6 l6 c6 k6 (fun fd F => F.binds fun _ _ _ _ _ _ us hl => match us, hl with | [_], _ => rfl), at_mk X G a7 l7 c7 k7 (fun fd F => F.binds fun _ _ _ _ _ _ us hl => match us, hl with | [_, _], _ => rfl), at_mk X G a8 l8 c8 k8 (fun fd F => F.binds fun _ _ _ _ _ _ us hl => match us, hl with | [_, _, _], _ => rfl), at_mk X G a9 l9 c9 k9 (fun fd F => F.binds fun _ _ _ _ _ _ us hl => match us, hl with | [_, _], _ => rfl), at_mk X G a10 l10 c10 k10 (fun fd F => F.binds fun _ _ _ _ _ _ us hl => match us, hl with | [_], _ => rfl), at_mk X G a11 l11 c11 k11 (fun fd F => F.binds fun _ _ _ _ _ _ us hl => match us, hl with | [_, _], _ => rfl), at_mk X G a12 l12 c12 k12 (fun fd F => F.binds fun _ _ _ _ _ _ us hl => match us, hl with | [_, _], _ => rfl), at_mk X G a13 l13 c13 k13 (fun fd F => F.binds fun _ _ _ _ _ _ us hl => match us, hl with | [_, _], _ => rfl), at_mk X G a14 l14 c14 k14 (fun fd F => F.binds fun _ _ _ _ _ _ us hl => match us, hl with | [_, _], _ => rfl), at_mk X G a15 l15 c15 k15 (fun fd F => F.binds fun _ _ _ _ _ _ us hl => match us, hl with | [_, _], _ => rfl), at_mk X G a16 l16 c16 k16 (fun fd F => F.binds fun _ _ _ _ _ _ us hl => match us, hl with | [_, _, _], _ => rfl), at_mk X G a17 l17 c17 k17 (fun fd F => F.binds fun _ _ _ _ _ _ us hl => match us, hl with | [_, _], _ => rfl), at_mk X G a18 l18 c18 k18 (fun fd F => F.binds fun _ _ _ _ _ _ us hl => match us, hl with | [_], _ => rfl), at_mk X G a19 l19 c19 k19 (fun fd F => F.binds fun _ _ _ _ _ _ us hl => match us, hl with | [_, _], _ => rfl), at_mk X G a20 l20 c20 k20 (fun fd F => F.binds fun _ _ _ _ _ _ us hl => match us, hl with | [_, _, _], _ => rfl), at_mk X G a21 l21 c21 k21 (fun fd F => F.binds fun _ _ _ _ _ _ us hl => match us, hl with | [_, _], _ => rfl), at_mk X G a22 l22 c22 k22 (fun fd F => F.binds fun _ _ _ _ _ _ us hl => match us, hl with | [_, _], _ => rfl), at_mk X G a23 l23 c23 k23 (fun fd F => F.binds fun _ _ _ _ _ _ us hl => match us, hl with | [_], _ => rfl), at_mk X G a24 l24 c24 k24 (fun fd F => F.binds fun _ _ _ _ _ _ us hl => match us, hl with | [_, _], _ => rfl), at_mk X G a25 l25 c25 k25 (fun fd F => F.binds fun _ _ _ _ _ _ us hl => match us, hl with | [_], _ => rfl), at_mk X G a26 l26 c26 k26 (fun fd F => F.binds fun _ _ _ _ _ _ us hl => match us, hl with | [_, _], _ => rfl), at_mk X G a27 l27 c27 k27 (fun fd F => F.binds fun _ _ _ _ _ _ us hl => match us, hl with | [_], _ => rfl), at_mk X G a28 l28 c28 k28 (fun fd F => F.binds fun _ _ _ _ _ _ us hl => match us, hl with | [_], _ => rfl), at_mk X G a29 l29 c29 k29 (fun fd F => F.binds fun _ _ _ _ _ _ us hl => match us, hl with | [_, _], _ => rfl), at_mk X G a30 l30 c30 k30 (fun fd F => F.binds fun _ _ _ _ _ _ us hl => match us, hl with | [_, _], _ => rfl), ⟨PySem.W.mg_none_of X G z_abs, PySem.W.mg_none_of X G z_bool, PySem.W.mg_none_of X G z_enumerate, PySem.W.mg_none_of X G z_int, PySem.W.mg_none_of X G z_isinstance, PySem.W.mg_none_of X G z_len, PySem.W.mg_none_of X G z_list, PySem.W.mg_none_of X G z_max, PySem.W.mg_none_of X G z_min, PySem.W.mg_none_of X G z_range, PySem.W.mg_none_of X G z_set, PySem.W.mg_none_of X G z_sorted, PySem.W.mg_none_of X G z_str, PySem.W.mg_none_of X G z_tuple, PySem.W.mg_none_of X G z_zip⟩⟩
  exact ⟨_, fun s v => .of_eq rfl, fun base _ _ => fn_all F T⟩

end Law
open PySem PySem.W PyProof.Rows
set_option maxRecDepth 100000 in
set_option maxHeartbeats 0 in
theorem PySem.Challenge.cw_splitsays_k09_whole_tidy_sheets_holds : PySem.Challenge.rw_splitsays_k09_whole_tidy_sheets.Holds := by
  w_on; o_law; k_head; (case hw => w_witness2)
  k_fill
  refine Pu.walkG (l := PySem.Challenge.rw_splitsays_k09_whole_tidy_sheets) (k := 7) (sp := Pu.spLaw) (x := "script") rfl rfl ⟨⟨rfl, by decide, by decide⟩, rfl⟩ (fun w h Y => PySem.W.kIn_of Y) ?F (fun K H a ns hl hS => ⟨a, ns, rfl, hS, hl, fun _ => rfl⟩)
  case F =>
    intro w mg fa h KX G hmg
    refine' Law.all_at KX G hmg ?a0 ?l0 ?c0 ?k0 ?a1 ?l1 ?c1 ?k1 ?a2 ?l2 ?c2 ?k2 ?a3 ?l3 ?c3 ?k3 ?a4 ?l4 ?c4 ?k4 ?a5 ?l5 ?c5 ?k5 ?a6 ?l6 ?c6 ?k6 ?a7 ?l7 ?c7 ?k7 ?a8 ?l8 ?c8 ?k8 ?a9 ?l9 ?c9 ?k9 ?a10 ?l10 ?c10 ?k10 ?a11 ?l11 ?c11 ?k11 ?a12 ?l12 ?c12 ?k12 ?a13 ?l13 ?c13 ?k13 ?a14 ?l14 ?c14 ?k14 ?a15 ?l15 ?c15 ?k15 ?a16 ?l16 ?c16 ?k16 ?a17 ?l17 ?c17 ?k17 ?a18 ?l18 ?c18 ?k18 ?a19 ?l19 ?c19 ?k19 ?a20 ?l20 ?c20 ?k20 ?a21 ?l21 ?c21 ?k21 ?a22 ?l22 ?c22 ?k22 ?a23 ?l23 ?c23 ?k23 ?a24 ?l24 ?c24 ?k24 ?a25 ?l25 ?c25 ?k25 ?a26 ?l26 ?c26 ?k26 ?a27 ?l27 ?c27 ?k27 ?a28 ?l28 ?c28 ?k28 ?a29 ?l29 ?c29 ?k29 ?a30 ?l30 ?c30 ?k30 ?a31 ?l31 ?c31 ?k31 ?z_abs ?z_bool ?z_enumerate ?z_int ?z_isinstance ?z_len ?z_list ?z_max ?z_min ?z_range ?z_set ?z_sorted ?z_str ?z_tuple ?z_zip
    (case a0 => k_is)
    (case l0 => k_is)
    (case c0 => k_is)
    (case k0 => k_is)
    (case a1 => k_is)
    (case l1 => k_is)
    (case c1 => k_is)
    (case k1 => k_is)
    (case a2 => k_is)
    (case l2 => k_is)
    (case c2 => k_is)
    (case k2 => k_is)
    (case a3 => k_is)
    (case l3 => k_is)
    (case c3 => k_is)
    (case k3 => k_is)
    (case a4 => k_is)
    (case l4 => k_is)
    (case c4 => k_is)
    (case k4 => k_is)
    (case a5 => k_is)
    (case l5 => k_is)
    (case c5 => k_is)
    (case k5 => k_is)
    (case a6 => k_is)
    (case l6 => k_is)
    (case c6 => k_is)
    (case k6 => k_is)
    (case a7 => k_is)
    (case l7 => k_is)
    (case c7 => k_is)
    (case k7 => k_is)
    (case a8 => k_is)
    (case l8 => k_is)
    (case c8 => k_is)
    (case k8 => k_is)
    (case a9 => k_is)
    (case l9 => k_is)
    (case c9 => k_is)
    (case k9 => k_is)
    (case a10 => k_is)
    (case l10 => k_is)
    (case c10 => k_is)
    (case k10 => k_is)
    (case a11 => k_is)
    (case l11 => k_is)
    (case c11 => k_is)
    (case k11 => k_is)
    (case a12 => k_is)
    (case l12 => k_is)
    (case c12 => k_is)
    (case k12 => k_is)
    (case a13 => k_is)
    (case l13 => k_is)
    (case c13 => k_is)
    (case k13 => k_is)
    (case a14 => k_is)
    (case l14 => k_is)
    (case c14 => k_is)
    (case k14 => k_is)
    (case a15 => k_is)
    (case l15 => k_is)
    (case c15 => k_is)
    (case k15 => k_is)
    (case a16 => k_is)
    (case l16 => k_is)
    (case c16 => k_is)
    (case k16 => k_is)
    (case a17 => k_is)
    (case l17 => k_is)
    (case c17 => k_is)
    (case k17 => k_is)
    (case a18 => k_is)
    (case l18 => k_is)
    (case c18 => k_is)
    (case k18 => k_is)
    (case a19 => k_is)
    (case l19 => k_is)
    (case c19 => k_is)
    (case k19 => k_is)
    (case a20 => k_is)
    (case l20 => k_is)
    (case c20 => k_is)
    (case k20 => k_is)
    (case a21 => k_is)
    (case l21 => k_is)
    (case c21 => k_is)
    (case k21 => k_is)
    (case a22 => k_is)
    (case l22 => k_is)
    (case c22 => k_is)
    (case k22 => k_is)
    (case a23 => k_is)
    (case l23 => k_is)
    (case c23 => k_is)
    (case k23 => k_is)
    (case a24 => k_is)
    (case l24 => k_is)
    (case c24 => k_is)
    (case k24 => k_is)
    (case a25 => k_is)
    (case l25 => k_is)
    (case c25 => k_is)
    (case k25 => k_is)
    (case a26 => k_is)
    (case l26 => k_is)
    (case c26 => k_is)
    (case k26 => k_is)
    (case a27 => k_is)
    (case l27 => k_is)
    (case c27 => k_is)
    (case k27 => k_is)
    (case a28 => k_is)
    (case l28 => k_is)
    (case c28 => k_is)
    (case k28 => k_is)
    (case a29 => k_is)
    (case l29 => k_is)
    (case c29 => k_is)
    (case k29 => k_is)
    (case a30 => k_is)
    (case l30 => k_is)
    (case c30 => k_is)
    (case k30 => k_is)
    (case a31 => k_is)
    (case l31 => k_is)
    (case c31 => k_is)
    (case k31 => k_is)
    (case z_abs => k_is)
    (case z_bool => k_is)
    (case z_enumerate => k_is)
    (case z_int => k_is)
    (case z_isinstance => k_is)
    (case z_len => k_is)
    (case z_list => k_is)
    (case z_max => k_is)
    (case z_min => k_is)
    (case z_range => k_is)
    (case z_set => k_is)
    (case z_sorted => k_is)
    (case z_str => k_is)
    (case z_tuple => k_is)
    (case z_zip => k_is)
