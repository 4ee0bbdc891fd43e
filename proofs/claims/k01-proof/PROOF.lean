import PyProof.Rows.All
import Wide.All
import OpenK.AllK
import Wide.FinOn
import HandS.ForMost
import HandS.Walk
import PyProof.ReprRoads
import PyProof.Rows.NestShow
import HandS.TupAny
import HandS.RaiseMore
import HandS.Zip
import HandS.IsInst
import HandS.Style
import HandS.Evl
import HandS.Strs
import HandS.SetFor
import HandS.SetBool
import PyProof.Rows.SortShellAny
import HandS.Comp
import HandS.TupMul
import HandS.Set
import PyProof.StrLawsRepr
import PyProof.FitsInt
import PyProof.Rows.StrMeet
import HandS.Iter
import HandS.More
import HandS.Dict
import HandS.SortInts
import HandS.DictComp
import HandS.Conv
import HandS.SortKw
import KE.DataMinMax
import KE.KDictList
import HandS.ListItems
import HandS.Deep
import HandS.Flow
import HandS.Zip0
import KE.KItemsList
import HandS.Exc
import HandS.ExcOwn
import HandS.ExcInit
import HandS.ExcField
import KE.KDictZip
import PyProof.ListStr
import PySem.Challenge.RW_splitsays_k01_whole_rows_judged
set_option Elab.async false
set_option linter.all false
set_option maxRecDepth 100000
section
/-! Pu: readings over plain data. A name's slot holds data (d), a raw value (v) or a list that nobody else holds (own). -/
namespace Pu
open PySem L2

/-! ### hidden objects: the law's source, a dict at a with its cells' list at c -/
abbrev Hid := Option (Addr × Addr)
def Hid.has (h : Hid) (b : Addr) : Prop := match h with
  | none => False
  | some p => b = p.1 ∨ b = p.2
def srcD (c : Addr) (l m t : Int) : List (Key × V) := [(Sum.inr "cells", .ref c), (Sum.inr "left", .int l), (Sum.inr "mixed", .int m), (Sum.inr "turn", .int t)]
def SrcAt (H : Hp) (a c : Addr) : Prop := ∃ (ns : List Int) (l m t : Int), H a = some (.dK (srcD c l m t)) ∧ H c = some (.lst (ns.map V.int))
def Hid.Ok (h : Hid) (H : Hp) : Prop := match h with
  | none => True
  | some p => SrcAt H p.1 p.2
theorem Hid.Ok.there {h : Hid} {H : Hp} {b : Addr} (k : h.Ok H) (hb : h.has b) : ∃ o, H b = some o := by
  cases h with
  | none => exact hb.elim
  | some p =>
    obtain ⟨ns, l, m, t, e1, e2⟩ := k
    rcases hb with rfl | rfl
    · exact ⟨_, e1⟩
    · exact ⟨_, e2⟩
theorem Hid.Ok.keeps {h : Hid} {H H' : Hp} (k : h.Ok H) (e : ∀ b o, h.has b → H b = some o → H' b = some o) : h.Ok H' := by
  cases h with
  | none => trivial
  | some p =>
    obtain ⟨ns, l, m, t, e1, e2⟩ := k
    exact ⟨ns, l, m, t, e _ _ (.inl rfl) e1, e _ _ (.inr rfl) e2⟩

/-! ### heaps: Hb what is known and stays, H what stands -/
structure St0 (hid : Hid) (Hb H : Hp) : Prop where
  ex : Same Hb H
  ok : hid.Ok H
  out : ∀ b, hid.has b → Hb b = none
structure Step (hid : Hid) (Hb H Hb' H' : Hp) : Prop where
  st : St0 hid Hb' H'
  ex : Same Hb Hb'
  new : ∀ b o, Hb' b = some o → Hb b = none → H b = none
  keep : ∀ b o, H b = some o → ¬ hid.has b → H' b = some o
section
variable {hid : Hid} {Hb H Hb1 H1 Hb2 H2 : Hp}
theorem Step.refl (s : St0 hid Hb H) : Step hid Hb H Hb H := ⟨s, Same.refl _, fun b o e n => (by rw [n] at e; cases e), fun _ _ e _ => e⟩
theorem none_back {H H' : Hp} {b : Addr} (k : ∀ o, H b = some o → H' b = some o) (n : H' b = none) : H b = none := by
  cases e : H b with
  | none => rfl
  | some o => rw [k o e] at n; cases n
theorem Step.back (a : Step hid Hb H Hb1 H1) {b : Addr} (n : H1 b = none) : H b = none := by
  by_cases hb : hid.has b
  · obtain ⟨o, e⟩ := a.st.ok.there hb
    rw [e] at n; cases n
  · exact none_back (fun o e => a.keep b o e hb) n
theorem Step.trans (a : Step hid Hb H Hb1 H1) (c : Step hid Hb1 H1 Hb2 H2) : Step hid Hb H Hb2 H2 where
  st := c.st
  ex := a.ex.trans c.ex
  new := fun b o e n => by
    cases q : Hb1 b with
    | some u => exact a.new b u q n
    | none => exact a.back (c.new b o e q)
  keep := fun b o e hb => c.keep b o (a.keep b o e hb) hb
/-- a new object: known from now on -/
theorem Step.laid {p : Addr} {o : HO} (s : St0 hid Hb H) (hp : H p = none) : Step hid Hb H (upd Hb p o) (upd H p o) := by
  have nb : Hb p = none := none_back (fun o e => s.ex p o e) hp
  have np : ¬ hid.has p := fun z => by obtain ⟨o, e⟩ := s.ok.there z; rw [e] at hp; cases hp
  refine ⟨⟨fun b u e => ?_, s.ok.keeps fun b u hb e => ?_, fun b hb => ?_⟩, fun b u e => ?_, fun b u e n => ?_, fun b u e _ => ?_⟩
  · by_cases q : b = p
    · subst q; rw [upd_same] at e ⊢; exact e
    · rw [upd_ne q] at e ⊢; exact s.ex b u e
  · rw [upd_ne (fun q : b = p => np (q ▸ hb))]; exact e
  · rw [upd_ne (fun q : b = p => np (q ▸ hb))]; exact s.out b hb
  · rw [upd_ne (ne_of_none e nb)]; exact e
  · by_cases q : b = p
    · rw [q]; exact hp
    · rw [upd_ne q, n] at e; cases e
  · rw [upd_ne (ne_of_none e hp)]; exact e
/-- a new object, not known: a list of one's own -/
theorem Step.raw {p : Addr} {o : HO} (s : St0 hid Hb H) (hp : H p = none) : Step hid Hb H Hb (upd H p o) := by
  have np : ¬ hid.has p := fun z => by obtain ⟨o, e⟩ := s.ok.there z; rw [e] at hp; cases hp
  refine ⟨⟨fun b u e => ?_, s.ok.keeps fun b u hb e => ?_, s.out⟩, Same.refl _, fun b u e n => (by rw [n] at e; cases e), fun b u e _ => ?_⟩
  · rw [upd_ne (ne_of_none (s.ex b u e) hp)]; exact s.ex b u e
  · rw [upd_ne (fun q : b = p => np (q ▸ hb))]; exact e
  · rw [upd_ne (ne_of_none e hp)]; exact e
end

/-! ### data -/
section
variable {K : PySem.W.Frag} {H H' : Hp}
theorem Same.seqT {a : Addr} {xs : List V} (e : Same H H') (h : SqT K H a xs) : SqT K H' a xs := by
  rcases h with (h | ⟨o, h⟩) | h
  · exact .inl (.inl (e _ _ h))
  · exact .inl (.inr ⟨o, e _ _ h⟩)
  · exact .inr h
def keyD : Key → PyData
  | .inl i => .int i
  | .inr x => .str x
mutual
/-- v stands for the data d: all of it is known in H -/
inductive Dq (K : PySem.W.Frag) (H : Hp) : V → PyData → Prop
  | non : Dq K H .non .none
  | bl (b : Bool) : Dq K H (.bl b) (.bool b)
  | int (i : Int) : Dq K H (.int i) (.int i)
  | str (x : Str) : Dq K H (.str x) (.str x)
  | lst {a : Addr} {xs : List V} {ds : List PyData} : H a = some (.lst xs) → DqAll K H xs ds → Dq K H (.ref a) (.list ds)
  | tup {a : Addr} {xs : List V} {ds : List PyData} : SqT K H a xs → DqAll K H xs ds → Dq K H (.ref a) (.tuple ds)
  | dic {a : Addr} {kvs : List (Key × V)} {ds : List (PyData × PyData)} : H a = some (.dK kvs) → ds.map Prod.fst = kvs.map (fun p => keyD p.1) → DqAll K H (kvs.map Prod.snd) (ds.map Prod.snd) → Dq K H (.ref a) (.dict ds)
inductive DqAll (K : PySem.W.Frag) (H : Hp) : List V → List PyData → Prop
  | nil : DqAll K H [] []
  | cons {v : V} {vs : List V} {d : PyData} {ds : List PyData} : Dq K H v d → DqAll K H vs ds → DqAll K H (v :: vs) (d :: ds)
end
theorem Dq.mono (e : Same H H') {d : PyData} {v : V} (h : Dq K H v d) : Dq K H' v d :=
  Dq.rec (motive_1 := fun v d _ => Dq K H' v d) (motive_2 := fun vs ds _ => DqAll K H' vs ds) .non .bl .int .str (fun h1 _ i => .lst (e _ _ h1) i) (fun h1 _ i => .tup (Same.seqT e h1) i)
    (fun h1 h2 _ i => .dic (e _ _ h1) h2 i) .nil (fun _ _ i1 i2 => .cons i1 i2) h
theorem DqAll.mono (e : Same H H') {ds : List PyData} {vs : List V} (h : DqAll K H vs ds) : DqAll K H' vs ds :=
  DqAll.rec (motive_1 := fun v d _ => Dq K H' v d) (motive_2 := fun vs ds _ => DqAll K H' vs ds) .non .bl .int .str (fun h1 _ i => .lst (e _ _ h1) i) (fun h1 _ i => .tup (Same.seqT e h1) i)
    (fun h1 h2 _ i => .dic (e _ _ h1) h2 i) .nil (fun _ _ i1 i2 => .cons i1 i2) h
theorem DqAll.length : ∀ {ds : List PyData} {vs : List V}, DqAll K H vs ds → vs.length = ds.length
  | [], _, .nil => rfl
  | _ :: _, _, .cons _ h2 => congrArg (· + 1) (DqAll.length h2)
theorem DqAll.get : ∀ {ds : List PyData} {vs : List V} {i : Nat} {v : V}, DqAll K H vs ds → vs[i]? = some v → ∃ d, ds[i]? = some d ∧ Dq K H v d
  | _, _, _, _, .nil, e => by simp at e
  | _, _, 0, _, .cons h _, e => by simp at e; subst e; exact ⟨_, rfl, h⟩
  | _, _, i + 1, _, .cons _ h, e => by
    obtain ⟨d, h1, h2⟩ := DqAll.get (i := i) h (by simpa using e)
    exact ⟨d, by simpa using h1, h2⟩
theorem DqAll.get' : ∀ {ds : List PyData} {vs : List V} {i : Nat} {d : PyData}, DqAll K H vs ds → ds[i]? = some d → ∃ v, vs[i]? = some v ∧ Dq K H v d
  | _, _, _, _, .nil, e => by simp at e
  | _, _, 0, _, .cons h _, e => by simp at e; subst e; exact ⟨_, rfl, h⟩
  | _, _, i + 1, _, .cons _ h, e => by
    obtain ⟨d, h1, h2⟩ := DqAll.get' (i := i) h (by simpa using e)
    exact ⟨d, by simpa using h1, h2⟩
theorem DqAll.append : ∀ {ds es : List PyData} {vs us : List V}, DqAll K H vs ds → DqAll K H us es → DqAll K H (vs ++ us) (ds ++ es)
  | [], _, _, _, .nil, h => h
  | _ :: _, _, _, _, .cons h1 h2, h => .cons h1 (DqAll.append h2 h)
theorem DqAll.take : ∀ {ds : List PyData} {vs : List V} (n : Nat), DqAll K H vs ds → DqAll K H (vs.take n) (ds.take n)
  | _, _, 0, _ => .nil
  | _, _, _ + 1, .nil => .nil
  | _, _, n + 1, .cons h t => .cons h (DqAll.take n t)
theorem DqAll.drop : ∀ {ds : List PyData} {vs : List V} (n : Nat), DqAll K H vs ds → DqAll K H (vs.drop n) (ds.drop n)
  | _, _, 0, h => h
  | _, _, _ + 1, .nil => .nil
  | _, _, n + 1, .cons _ t => DqAll.drop n t
end

/-! ### slots -/
inductive Sl where
  | d (x : PyData) | v (x : V) | own (xs : List PyData) | src | ownD (kvs : List (PyData × PyData))
/-- an object of one's own -/
def Sl.isOwn : Sl → Prop
  | .own _ => True
  | .ownD _ => True
  | _ => False
/-- a value that everybody may hold -/
def Sl.fz : Sl → Sl
  | .own xs => .d (.list xs)
  | .ownD kvs => .d (.dict kvs)
  | s => s
abbrev EV := List (Option Sl)
/-- a dict's keys and values -/
def DRel (K : PySem.W.Frag) (H : Hp) (kvs : List (Key × V)) (ds : List (PyData × PyData)) : Prop := ds.map Prod.fst = kvs.map (fun p => keyD p.1) ∧ DqAll K H (kvs.map Prod.snd) (ds.map Prod.snd)
def RepSl (K : PySem.W.Frag) (hid : Hid) (Hb H : Hp) (v : V) : Sl → Prop
  | .d x => Dq K Hb v x
  | .v y => v = y
  | .src => ∃ a c, hid = some (a, c) ∧ v = .ref a
  | .own xs => ∃ p vs, v = .ref p ∧ H p = some (.lst vs) ∧ DqAll K Hb vs xs ∧ Hb p = none ∧ ¬ hid.has p
  | .ownD ds => ∃ p kvs, v = .ref p ∧ H p = some (.dK kvs) ∧ DRel K Hb kvs ds ∧ Hb p = none ∧ ¬ hid.has p
/-- ahead of H a list of one's own was not there -/
def FrSl (H : Hp) (v : V) : Sl → Prop
  | .own _ => ∀ p, v = .ref p → H p = none
  | .ownD _ => ∀ p, v = .ref p → H p = none
  | _ => True
theorem FrSl.back {hid : Hid} {Hb H Hb1 H1 : Hp} {v : V} (a : Step hid Hb H Hb1 H1) : ∀ {s : Sl}, FrSl H1 v s → FrSl H v s
  | .d _, _ => trivial
  | .v _, _ => trivial
  | .src, _ => trivial
  | .own _, h => fun p e => a.back (h p e)
  | .ownD _, h => fun p e => a.back (h p e)
section
variable {K : PySem.W.Frag} {hid : Hid} {Hb H Hb1 H1 H0 : Hp} {v : V}
theorem RepSl.step (a : Step hid Hb H Hb1 H1) : ∀ {s : Sl}, RepSl K hid Hb H v s → RepSl K hid Hb1 H1 v s
  | .d _, h => Dq.mono a.ex h
  | .v _, h => h
  | .src, h => h
  | .own xs, ⟨p, vs, e1, e2, e3, e4, e5⟩ => ⟨p, vs, e1, a.keep p _ e2 e5, DqAll.mono a.ex e3, (by
      cases q : Hb1 p with
      | none => rfl
      | some o =>
        have z := a.new p o q e4
        rw [e2] at z; cases z), e5⟩
  | .ownD ds, ⟨p, vs, e1, e2, e3, e4, e5⟩ => ⟨p, vs, e1, a.keep p _ e2 e5, ⟨e3.1, DqAll.mono a.ex e3.2⟩, (by
      cases q : Hb1 p with
      | none => rfl
      | some o =>
        have z := a.new p o q e4
        rw [e2] at z; cases z), e5⟩
/-- a list of one's own becomes everybody's -/
theorem RepSl.fz (st : St0 hid Hb H) : ∀ {s : Sl}, RepSl K hid Hb H v s → FrSl H0 v s → (∀ b, H b = none → H0 b = none) → ∃ Hb1, St0 hid Hb1 H ∧ Same Hb Hb1 ∧ (∀ b o, Hb1 b = some o → Hb b = none → H0 b = none) ∧ RepSl K hid Hb1 H v s.fz
  | .d _, h, _, _ => ⟨Hb, st, Same.refl _, fun b o e n => (by rw [n] at e; cases e), h⟩
  | .v _, h, _, _ => ⟨Hb, st, Same.refl _, fun b o e n => (by rw [n] at e; cases e), h⟩
  | .src, h, _, _ => ⟨Hb, st, Same.refl _, fun b o e n => (by rw [n] at e; cases e), h⟩
  | .own xs, ⟨p, vs, e1, e2, e3, e4, e5⟩, f, _ => by
      have ex : Same Hb (upd Hb p (.lst vs)) := fun b u e => by rw [upd_ne (ne_of_none e e4)]; exact e
      refine ⟨upd Hb p (.lst vs), ⟨fun b u e => ?_, st.ok, fun b hb => ?_⟩, ex, fun b o e n => ?_, ?_⟩
      · by_cases q : b = p
        · subst q; rw [upd_same] at e; cases e; exact e2
        · rw [upd_ne q] at e; exact st.ex b u e
      · rw [upd_ne (fun q : b = p => e5 (q ▸ hb))]; exact st.out b hb
      · by_cases q : b = p
        · rw [q]; exact f p e1
        · rw [upd_ne q, n] at e; cases e
      · subst e1
        exact .lst upd_same (DqAll.mono ex e3)
  | .ownD ds, ⟨p, vs, e1, e2, e3, e4, e5⟩, f, _ => by
      have ex : Same Hb (upd Hb p (.dK vs)) := fun b u e => by rw [upd_ne (ne_of_none e e4)]; exact e
      refine ⟨upd Hb p (.dK vs), ⟨fun b u e => ?_, st.ok, fun b hb => ?_⟩, ex, fun b o e n => ?_, ?_⟩
      · by_cases q : b = p
        · subst q; rw [upd_same] at e; cases e; exact e2
        · rw [upd_ne q] at e; exact st.ex b u e
      · rw [upd_ne (fun q : b = p => e5 (q ▸ hb))]; exact st.out b hb
      · by_cases q : b = p
        · rw [q]; exact f p e1
        · rw [upd_ne q, n] at e; cases e
      · subst e1
        exact .dic upd_same e3.1 (DqAll.mono ex e3.2)
end

/-! ### a def's state: from the entry (B0, H0) to here; its slots -/
structure Fr where
  hid : Hid
  B0 : Hp
  H0 : Hp
  M0 : Hp
structure Rep (K : PySem.W.Frag) (F : Fr) (Hb H : Hp) (σ : L2.St) (env : EV) : Prop where
  step : Step F.hid F.B0 F.H0 Hb H
  mid : Same F.M0 Hb
  len : env.length = σ.length
  sl : ∀ (i : Nat) (s : Sl), env[i]? = some (some s) → ∃ v, σ[i]? = some (some v) ∧ RepSl K F.hid Hb H v s ∧ FrSl F.H0 v s
  dis : ∀ (i j : Nat) (s u : Sl) (p : Addr), i ≠ j → env[i]? = some (some s) → env[j]? = some (some u) → s.isOwn → u.isOwn → σ[i]? = some (some (.ref p)) → σ[j]? ≠ some (some (.ref p))
section
variable {K : PySem.W.Frag} {F : Fr} {Hb H Hb1 H1 : Hp} {σ : L2.St} {env : EV}
theorem Rep.st (r : Rep K F Hb H σ env) : St0 F.hid Hb H := r.step.st
theorem Rep.on (r : Rep K F Hb H σ env) (a : Step F.hid Hb H Hb1 H1) : Rep K F Hb1 H1 σ env :=
  ⟨r.step.trans a, r.mid.trans a.ex, r.len, fun i s e => let ⟨v, e1, e2, e3⟩ := r.sl i s e; ⟨v, e1, e2.step a, e3⟩, r.dis⟩
/-- a name is stored -/
theorem Rep.set (r : Rep K F Hb H σ env) (a : Step F.hid Hb H Hb1 H1) {v : V} {s : Sl} (h : RepSl K F.hid Hb1 H1 v s) (f : FrSl H v s) (i : Nat) : Rep K F Hb1 H1 (σ.set i (some v)) (env.set i (some s)) := by
  have r1 := r.on a
  refine ⟨r1.step, r1.mid, by simpa using r.len, fun j u e => ?_, fun j k t1 t2 p hjk ej ek o1 o2 sj sk => ?_⟩
  · by_cases hij : i = j
    · subst hij
      have hi : i < env.length := by
        cases Nat.lt_or_ge i env.length with
        | inl h => exact h
        | inr h => rw [List.getElem?_eq_none (by simpa using h)] at e; cases e
      rw [List.getElem?_set_self hi] at e
      cases e
      exact ⟨v, List.getElem?_set_self (by rw [← r.len]; exact hi), h, FrSl.back r.step f⟩
    · rw [List.getElem?_set_ne hij] at e
      obtain ⟨w, e1, e2, e3⟩ := r1.sl j u e
      exact ⟨w, by rw [List.getElem?_set_ne hij]; exact e1, e2, e3⟩
  · -- an own list in slot i is new
    have old : ∀ (m : Nat) (z : Sl) (q : Addr), i ≠ m → env[m]? = some (some z) → z.isOwn → σ[m]? = some (some (.ref q)) → ∃ o, H q = some o := fun m z q hm em oz sm => by
      obtain ⟨w, e1, e2, _⟩ := r.sl m _ em
      rw [sm] at e1; cases e1
      cases z with
      | own zs =>
        obtain ⟨p', vs, e2, e3, _⟩ := e2
        cases e2
        exact ⟨_, e3⟩
      | ownD zs =>
        obtain ⟨p', vs, e2, e3, _⟩ := e2
        cases e2
        exact ⟨_, e3⟩
      | d x => exact oz.elim
      | v x => exact oz.elim
      | src => exact oz.elim
    have new : ∀ (m : Nat) (z : Sl) (q : Addr), i = m → (env.set i (some s))[m]? = some (some z) → z.isOwn → (σ.set i (some v))[m]? = some (some (.ref q)) → H q = none := fun m z q hm em oz sm => by
      subst hm
      have hi : i < env.length := by
        cases Nat.lt_or_ge i env.length with
        | inl h => exact h
        | inr h => rw [List.getElem?_eq_none (by simpa using h)] at em; cases em
      rw [List.getElem?_set_self hi] at em
      rw [List.getElem?_set_self (by rw [← r.len]; exact hi)] at sm
      cases em; cases sm
      cases s with
      | own zs => exact f q rfl
      | ownD zs => exact f q rfl
      | d x => exact oz.elim
      | v x => exact oz.elim
      | src => exact oz.elim
    by_cases hij : i = j
    · have hik : i ≠ k := fun z => hjk (hij.symm.trans z)
      have z1 := new j t1 p hij ej o1 sj
      rw [List.getElem?_set_ne hik] at ek sk
      obtain ⟨o, z2⟩ := old k t2 p hik ek o2 sk
      rw [z1] at z2; cases z2
    · by_cases hik : i = k
      · have z1 := new k t2 p hik ek o2 sk
        rw [List.getElem?_set_ne hij] at ej sj
        obtain ⟨o, z2⟩ := old j t1 p hij ej o1 sj
        rw [z1] at z2; cases z2
      · rw [List.getElem?_set_ne hij] at ej sj
        rw [List.getElem?_set_ne hik] at ek sk
        exact r.dis j k t1 t2 p hjk ej ek o1 o2 sj sk
/-- a name forgotten -/
theorem Rep.forget (r : Rep K F Hb H σ env) (i : Nat) (o : Option V) : Rep K F Hb H (σ.set i o) (env.set i none) := by
  have look : ∀ (j : Nat) (s : Sl), (env.set i none)[j]? = some (some s) → i ≠ j ∧ env[j]? = some (some s) := fun j s e => by
    by_cases hij : i = j
    · subst hij
      rw [List.getElem?_set] at e
      split at e
      · split at e <;> cases e
      · rename_i h; exact (h rfl).elim
    · rw [List.getElem?_set_ne hij] at e
      exact ⟨hij, e⟩
  refine ⟨r.step, r.mid, by simpa using r.len, fun j u e => ?_, fun j k t1 t2 p hjk ej ek o1 o2 sj sk => ?_⟩
  · obtain ⟨h1, h2⟩ := look j u e
    obtain ⟨w, e1, e2⟩ := r.sl j u h2
    exact ⟨w, by rw [List.getElem?_set_ne h1]; exact e1, e2⟩
  · obtain ⟨h1, h2⟩ := look j _ ej
    obtain ⟨h3, h4⟩ := look k _ ek
    rw [List.getElem?_set_ne h1] at sj
    rw [List.getElem?_set_ne h3] at sk
    exact r.dis j k t1 t2 p hjk h2 h4 o1 o2 sj sk
end
end Pu

end

section
/-! Pu1: the judgements. A reading te of the hand layer is followed by a plain one t. -/
namespace Pu
open PySem L2

abbrev DK := Sl → Prop
abbrev DTE := EV → DK → Prop
abbrev DTT := EV → (Bool → Prop) → Prop
abbrev DTA := EV → (List Sl → Prop) → Prop
/-- values that everybody may hold -/
inductive RepAll (K : PySem.W.Frag) (hid : Hid) (Hb H : Hp) : List V → List Sl → Prop
  | nil : RepAll K hid Hb H [] []
  | cons {v : V} {vs : List V} {s : Sl} {ss : List Sl} : RepSl K hid Hb H v s → s.fz = s → RepAll K hid Hb H vs ss → RepAll K hid Hb H (v :: vs) (s :: ss)
section
variable (K : PySem.W.Frag) (F : Fr)
def SdE (te : TE) (t : DTE) : Prop := ∀ (Hb H : Hp) (σ : L2.St) (env : EV) (Q : DK) (k : VK), Rep K F Hb H σ env → t env Q →
  (∀ v Hb' H' s, Step F.hid Hb H Hb' H' → RepSl K F.hid Hb' H' v s → FrSl H v s → Q s → k v H') → te σ H k
def SdT (tt : TT) (t : DTT) : Prop := ∀ (Hb H : Hp) (σ : L2.St) (env : EV) (Q : Bool → Prop) (k : Bool → Hp → Prop), Rep K F Hb H σ env → t env Q →
  (∀ b Hb' H', Step F.hid Hb H Hb' H' → Q b → k b H') → tt σ H k
def SdA (ta : TA) (t : DTA) : Prop := ∀ (Hb H : Hp) (σ : L2.St) (env : EV) (Q : List Sl → Prop) (k : List V → Hp → Prop), Rep K F Hb H σ env → t env Q →
  (∀ vs Hb' H' ss, Step F.hid Hb H Hb' H' → RepAll K F.hid Hb' H' vs ss → Q ss → k vs H') → ta σ H k
end
structure DE (X : Cx) (F : Fr) (e : Expr) (te : TE) (t : DTE) : Prop where
  pe : PE X e te
  sd : SdE X.K F te t
structure DT (X : Cx) (F : Fr) (e : Expr) (te : TT) (t : DTT) : Prop where
  pe : PT X e te
  sd : SdT X.K F te t
structure DW (X : Cx) (F : Fr) (e : Expr) (te : TT) (t : DTT) : Prop where
  pe : PW X e te
  sd : SdT X.K F te t
structure DA (X : Cx) (F : Fr) (es : List Expr) (te : TA) (t : DTA) : Prop where
  pe : PA X es te
  sd : SdA X.K F te t
theorem fz_fz (s : Sl) : s.fz.fz = s.fz := by cases s <;> rfl
theorem fr_fz {H : Hp} {v : V} (s : Sl) : FrSl H v s.fz := by cases s <;> trivial
theorem fr_of {H : Hp} {v : V} {s : Sl} (e : s.fz = s) : FrSl H v s := e ▸ fr_fz s
section
variable {K : PySem.W.Frag} {F : Fr} {hid : Hid} {te ta tb : TE} {t fa fb : DTE}
theorem RepAll.step {Hb H Hb1 H1 : Hp} (a : Step hid Hb H Hb1 H1) : ∀ {vs : List V} {ss : List Sl}, RepAll K hid Hb H vs ss → RepAll K hid Hb1 H1 vs ss
  | _, _, .nil => .nil
  | _, _, .cons h e t => .cons (h.step a) e (RepAll.step a t)
theorem SdE.go (h : SdE K F te t) {Hb H : Hp} {σ : L2.St} {env : EV} {Q : DK} {k : VK} (r : Rep K F Hb H σ env) (q : t env fun s => Q s.fz)
    (c : ∀ v Hb' H' s, Step F.hid Hb H Hb' H' → RepSl K F.hid Hb' H' v s → s.fz = s → Q s → k v H') : te σ H k := by
  refine h Hb H σ env _ k r q fun v Hb' H' s st rs f q => ?_
  obtain ⟨Hb1, st1, ex, new, rep⟩ := RepSl.fz st.st rs f fun b n => st.back n
  refine c v Hb1 H' s.fz ⟨st1, st.ex.trans ex, fun b o e n => ?_, st.keep⟩ rep (fz_fz s) q
  cases z : Hb' b with
  | some u => exact st.new b u z n
  | none => exact new b o e z
theorem SdE.fz (h : SdE K F te t) : SdE K F te (fun env Q => t env fun s => Q s.fz) := fun Hb H σ env Q k r q c =>
  h.go r q fun v Hb' H' s st rs e q => c v Hb' H' s st rs (fr_of e) q
theorem DE.fz {X : Cx} {e : Expr} (h : DE X F e te t) : DE X F e te (fun env Q => t env fun s => Q s.fz) := ⟨h.pe, (h.sd).fz⟩

/-! ### names, constants -/
def dVar (i : Nat) : DTE := fun env Q => match env[i]? with
  | some (some (.d x)) => Q (.d x)
  | some (some (.v y)) => Q (.v y)
  | some (some .src) => Q .src
  | _ => False
theorem sd_var (i : Nat) : SdE K F (tVar i) (dVar i) := by
  intro Hb H σ env Q k r q c
  unfold dVar at q
  split at q
  · rename_i x e
    obtain ⟨v, e1, e2, e3⟩ := r.sl i _ e
    exact ⟨v, e1, c v Hb H _ (Step.refl r.st) e2 trivial q⟩
  · rename_i y e
    obtain ⟨v, e1, e2, e3⟩ := r.sl i _ e
    exact ⟨v, e1, c v Hb H _ (Step.refl r.st) e2 trivial q⟩
  · rename_i e
    obtain ⟨v, e1, e2, e3⟩ := r.sl i _ e
    exact ⟨v, e1, c v Hb H .src (Step.refl r.st) e2 trivial q⟩
  · exact q.elim
def dC (x : PyData) : DTE := fun _ Q => Q (.d x)
def dV (y : V) : DTE := fun _ Q => Q (.v y)
theorem sd_c {v : V} {x : PyData} (h : ∀ Hb : Hp, Dq K Hb v x) : SdE K F (tC v) (dC x) := by
  intro Hb H σ env Q k r q c
  exact c v Hb H (.d x) (Step.refl r.st) (h Hb) trivial q
theorem sd_v {v : V} : SdE K F (tC v) (dV v) := by
  intro Hb H σ env Q k r q c
  exact c v Hb H (.v v) (Step.refl r.st) rfl trivial q
end
section
variable {X : Cx} {F : Fr}
theorem de_v (i : Nat) {x : Str} {pos : Pos} (hN : X.N[i]? = some x := by rfl) (hv : Vis X.env.scope x := by first | exact Or.inl rfl | exact Or.inr (Or.inl rfl) | exact Or.inr (Or.inr rfl)) (hd : (x == ("__debug__" : Str)) = false := by decide)
    (hcd : (x == ("__classdict__" : Str)) = false := by decide) : DE X F (.Name x pos) (tVar i) (dVar i) := ⟨pe_var hN hv hd hcd, sd_var i⟩
theorem de_int {i j pos} : DE X F (.Constant (.int i) j pos) (tC (.int i)) (dC (.int i)) := ⟨pe_int, sd_c fun _ => .int i⟩
theorem de_bl {b j pos} : DE X F (.Constant (.bool b) j pos) (tC (.bl b)) (dC (.bool b)) := ⟨pe_bl, sd_c fun _ => .bl b⟩
theorem de_non {j pos} : DE X F (.Constant .none j pos) (tC .non) (dC .none) := ⟨pe_non, sd_c fun _ => .non⟩
theorem de_str {x j pos} : DE X F (.Constant (.str x) j pos) (tC (.str x)) (dC (.str x)) := ⟨pe_str, sd_c fun _ => .str x⟩
/-- a module's constant that is an int or a text; a class, a def -/
theorem de_globI {x : Str} {i : Int} {u : Tok} {pos : Pos} (hm : X.mg x = some (.int i u)) (hg : Gl X x := by rfl) (hd : (x == ("__debug__" : Str)) = false := by decide) : DE X F (.Name x pos) (tC (.int i)) (dC (.int i)) := ⟨pe_glob hg hm ⟨u, rfl⟩ hd, sd_c fun _ => .int i⟩
theorem de_globS {x : Str} {i : Str} {u : Tok} {pos : Pos} (hm : X.mg x = some (.str i u)) (hg : Gl X x := by rfl) (hd : (x == ("__debug__" : Str)) = false := by decide) : DE X F (.Name x pos) (tC (.str i)) (dC (.str i)) := ⟨pe_glob hg hm ⟨u, rfl⟩ hd, sd_c fun _ => .str i⟩
theorem de_globR {x : Str} {a : Addr} {pos : Pos} (hm : X.mg x = some (.ref a)) (hg : Gl X x := by rfl) (hd : (x == ("__debug__" : Str)) = false := by decide) : DE X F (.Name x pos) (tC (.ref a)) (dV (.ref a)) := ⟨pe_glob hg hm rfl hd, sd_v⟩
theorem de_bltn {x : Str} {n : String} {pos : Pos} (hm : X.mg x = none) (hv : bootBuiltins x = some (.type n) := by decide +kernel) (hg : Gl X x := by rfl) (hn : x ≠ "__name__" := by decide) (hd : (x == ("__debug__" : Str)) = false := by decide) : DE X F (.Name x pos) (tC (.ty n)) (dV (.ty n)) := ⟨pe_bltn hg hm hv rfl hn hd, sd_v⟩
end

/-! ### operators by values -/
section
variable (K : PySem.W.Frag) (hid : Hid)
abbrev F2 := Sl → Sl → DK → Prop
abbrev F1 := Sl → DK → Prop
abbrev FN := List Sl → DK → Prop
def LO (r : R2) (f : F2) : Prop := ∀ (Hb H : Hp) (x y : V) (s u : Sl) (Q : DK) (k : VK), St0 hid Hb H → RepSl K hid Hb H x s → RepSl K hid Hb H y u → f s u Q →
  (∀ v Hb' H' s', Step hid Hb H Hb' H' → RepSl K hid Hb' H' v s' → FrSl H v s' → Q s' → k v H') → r x y H k
def LU (r : V → Hp → VK → Prop) (f : F1) : Prop := ∀ (Hb H : Hp) (x : V) (s : Sl) (Q : DK) (k : VK), St0 hid Hb H → RepSl K hid Hb H x s → f s Q →
  (∀ v Hb' H' s', Step hid Hb H Hb' H' → RepSl K hid Hb' H' v s' → FrSl H v s' → Q s' → k v H') → r x H k
def LC (r : List V → Hp → VK → Prop) (f : FN) : Prop := ∀ (Hb H : Hp) (xs : List V) (ss : List Sl) (Q : DK) (k : VK), St0 hid Hb H → RepAll K hid Hb H xs ss → f ss Q →
  (∀ v Hb' H' s', Step hid Hb H Hb' H' → RepSl K hid Hb' H' v s' → FrSl H v s' → Q s' → k v H') → r xs H k
end
def dOp (f : F2) (fa fb : DTE) : DTE := fun env Q => fa env fun s => fb env fun u => f s.fz u.fz Q
def dUn (f : F1) (fa : DTE) : DTE := fun env Q => fa env fun s => f s.fz Q
def dCall (f : FN) (fa : DTA) : DTE := fun env Q => fa env fun ss => f ss Q
section
variable {K : PySem.W.Frag} {F : Fr} {ta tb tc : TE} {fa fb fc : DTE} {r r' : R2} {f f' : F2}
theorem sd_op (lo : LO K F.hid r f) (ha : SdE K F ta fa) (hb : SdE K F tb fb) : SdE K F (tOp r ta tb) (dOp f fa fb) := by
  intro Hb H σ env Q k rp q c
  refine ha.go (Q := fun s => fb env fun u => f s u.fz Q) rp q fun x Hb1 H1 s st1 rs1 _ q1 => ?_
  refine hb.go (Q := fun u => f s u Q) (rp.on st1) q1 fun y Hb2 H2 u st2 rs2 _ q2 => ?_
  exact lo Hb2 H2 x y s u Q k st2.st (rs1.step st2) rs2 q2 fun v Hb' H' s' st3 r3 f3 q3 => c v Hb' H' s' ((st1.trans st2).trans st3) r3 (FrSl.back (st1.trans st2) f3) q3
theorem sd_un {r : V → Hp → VK → Prop} {f : F1} (lo : LU K F.hid r f) (ha : SdE K F ta fa) : SdE K F (tUn r ta) (dUn f fa) := by
  intro Hb H σ env Q k rp q c
  refine ha.go (Q := fun s => f s Q) rp q fun x Hb1 H1 s st1 rs1 _ q1 => ?_
  exact lo Hb1 H1 x s Q k st1.st rs1 q1 fun v Hb' H' s' st3 r3 f3 q3 => c v Hb' H' s' (st1.trans st3) r3 (FrSl.back st1 f3) q3
theorem sd_nil : SdA K F tNil (fun _ Q => Q []) := by
  intro Hb H σ env Q k r q c
  exact c [] Hb H [] (Step.refl r.st) .nil q
def dCons (fa : DTE) (fr : DTA) : DTA := fun env Q => fa env fun s => fr env fun ss => Q (s.fz :: ss)
theorem sd_cons {tr : TA} {fr : DTA} (ha : SdE K F ta fa) (hr : SdA K F tr fr) : SdA K F (tCons ta tr) (dCons fa fr) := by
  intro Hb H σ env Q k rp q c
  refine ha.go (Q := fun s => fr env fun ss => Q (s :: ss)) rp q fun x Hb1 H1 s st1 rs1 e1 q1 => ?_
  refine hr Hb1 H1 σ env (fun ss => Q (s :: ss)) _ (rp.on st1) q1 fun vs Hb2 H2 ss st2 rs2 q2 => ?_
  exact c _ Hb2 H2 (s :: ss) (st1.trans st2) (.cons (rs1.step st2) e1 rs2) q2
theorem sd_call {r : List V → Hp → VK → Prop} {f : FN} {tr : TA} {fr : DTA} (lo : LC K F.hid r f) (hr : SdA K F tr fr) : SdE K F (tCB r tr) (dCall f fr) := by
  intro Hb H σ env Q k rp q c
  refine hr Hb H σ env _ _ rp q fun vs Hb1 H1 ss st1 rs1 q1 => ?_
  exact lo Hb1 H1 vs ss Q k st1.st rs1 q1 fun v Hb' H' s' st3 r3 f3 q3 => c v Hb' H' s' (st1.trans st3) r3 (FrSl.back st1 f3) q3
end
end Pu

end

section
/-! Pu2: tests, statements, targets, loops. -/
namespace Pu
open PySem L2

/-! ### tests -/
def dTest (f : DTE) : DTT := fun env Q => f env fun s => ∃ b, s.fz = .d (.bool b) ∧ Q b
def dAnd (t u : DTT) : DTT := fun env Q => t env fun c => if c = true then u env Q else Q false
def dOr (t u : DTT) : DTT := fun env Q => t env fun c => if c = true then Q true else u env Q
def dNot (t : DTT) : DTT := fun env Q => t env fun c => Q (!c)
def dAndV (fa fb : DTE) : DTE := fun env Q => fa env fun s => ∃ b, s.fz = .d (.bool b) ∧ if b = true then fb env Q else Q (.d (.bool false))
def dOrV (fa fb : DTE) : DTE := fun env Q => fa env fun s => ∃ b, s.fz = .d (.bool b) ∧ if b = true then Q (.d (.bool true)) else fb env Q
def dNotV (fa : DTE) : DTE := fun env Q => fa env fun s => ∃ b, s.fz = .d (.bool b) ∧ Q (.d (.bool (!b)))
def dIfE (t : DTT) (fa fb : DTE) : DTE := fun env Q => t env fun c => if c = true then fa env Q else fb env Q
section
variable {K : PySem.W.Frag} {F : Fr} {hid : Hid} {ta tb : TE} {fa fb : DTE} {t u : TT} {ft fu : DTT}
theorem bool_of {Hb H : Hp} {x : V} {s : Sl} {b : Bool} (h : RepSl K hid Hb H x s) (e : s = .d (.bool b)) : x = .bl b := by
  subst e
  cases (show Dq K Hb x (.bool b) from h)
  rfl
theorem sd_test (h : SdE K F ta fa) : SdT K F (tTest ta) (dTest fa) := by
  intro Hb H σ env Q k rp q c
  refine h.go (Q := fun s => ∃ b, s = .d (.bool b) ∧ Q b) rp q fun x Hb1 H1 s st1 rs1 _ q1 => ?_
  obtain ⟨b, e, q1⟩ := q1
  exact ⟨b, bool_of rs1 e, c b Hb1 H1 st1 q1⟩
theorem sd_B (h : SdE K F ta fa) : SdT K F (tB ta) (dTest fa) := sd_test h
theorem sd_and (h1 : SdT K F t ft) (h2 : SdT K F u fu) : SdT K F (tAnd t u) (dAnd ft fu) := by
  intro Hb H σ env Q k rp q c
  refine h1 Hb H σ env _ _ rp q fun b Hb1 H1 st1 q1 => ?_
  cases b with
  | true => exact h2 Hb1 H1 σ env Q k (rp.on st1) q1 fun b2 Hb2 H2 st2 q2 => c b2 Hb2 H2 (st1.trans st2) q2
  | false => exact c false Hb1 H1 st1 q1
theorem sd_or (h1 : SdT K F t ft) (h2 : SdT K F u fu) : SdT K F (tOr t u) (dOr ft fu) := by
  intro Hb H σ env Q k rp q c
  refine h1 Hb H σ env _ _ rp q fun b Hb1 H1 st1 q1 => ?_
  cases b with
  | true => exact c true Hb1 H1 st1 q1
  | false => exact h2 Hb1 H1 σ env Q k (rp.on st1) q1 fun b2 Hb2 H2 st2 q2 => c b2 Hb2 H2 (st1.trans st2) q2
theorem sd_not (h1 : SdT K F t ft) : SdT K F (tNot t) (dNot ft) := by
  intro Hb H σ env Q k rp q c
  exact h1 Hb H σ env _ _ rp q fun b Hb1 H1 st1 q1 => c (!b) Hb1 H1 st1 q1
theorem sd_andV (h1 : SdE K F ta fa) (h2 : SdE K F tb fb) : SdE K F (tAndV ta tb) (dAndV fa fb) := by
  intro Hb H σ env Q k rp q c
  refine h1.go (Q := fun s => ∃ b, s = .d (.bool b) ∧ if b = true then fb env Q else Q (.d (.bool false))) rp q fun x Hb1 H1 s st1 rs1 _ q1 => ?_
  obtain ⟨b, e, q1⟩ := q1
  refine ⟨b, bool_of rs1 e, ?_⟩
  cases b with
  | true => exact h2 Hb1 H1 σ env Q k (rp.on st1) q1 fun v Hb2 H2 s2 st2 r2 f2 q2 => c v Hb2 H2 s2 (st1.trans st2) r2 (FrSl.back st1 f2) q2
  | false => exact c (.bl false) Hb1 H1 (.d (.bool false)) st1 (Dq.bl false) trivial q1
theorem sd_orV (h1 : SdE K F ta fa) (h2 : SdE K F tb fb) : SdE K F (tOrV ta tb) (dOrV fa fb) := by
  intro Hb H σ env Q k rp q c
  refine h1.go (Q := fun s => ∃ b, s = .d (.bool b) ∧ if b = true then Q (.d (.bool true)) else fb env Q) rp q fun x Hb1 H1 s st1 rs1 _ q1 => ?_
  obtain ⟨b, e, q1⟩ := q1
  refine ⟨b, bool_of rs1 e, ?_⟩
  cases b with
  | false => exact h2 Hb1 H1 σ env Q k (rp.on st1) q1 fun v Hb2 H2 s2 st2 r2 f2 q2 => c v Hb2 H2 s2 (st1.trans st2) r2 (FrSl.back st1 f2) q2
  | true => exact c (.bl true) Hb1 H1 (.d (.bool true)) st1 (Dq.bl true) trivial q1
theorem sd_notV (h1 : SdE K F ta fa) : SdE K F (tNotV ta) (dNotV fa) := by
  intro Hb H σ env Q k rp q c
  refine h1.go (Q := fun s => ∃ b, s = .d (.bool b) ∧ Q (.d (.bool (!b)))) rp q fun x Hb1 H1 s st1 rs1 _ q1 => ?_
  obtain ⟨b, e, q1⟩ := q1
  exact ⟨b, bool_of rs1 e, c (.bl !b) Hb1 H1 (.d (.bool !b)) st1 (Dq.bl _) trivial q1⟩
theorem sd_ifE (h : SdT K F t ft) (h1 : SdE K F ta fa) (h2 : SdE K F tb fb) : SdE K F (tIf t ta tb) (dIfE ft fa fb) := by
  intro Hb H σ env Q k rp q c
  refine h Hb H σ env _ _ rp q fun b Hb1 H1 st1 q1 => ?_
  cases b with
  | true => exact h1 Hb1 H1 σ env Q k (rp.on st1) q1 fun v Hb2 H2 s2 st2 r2 f2 q2 => c v Hb2 H2 s2 (st1.trans st2) r2 (FrSl.back st1 f2) q2
  | false => exact h2 Hb1 H1 σ env Q k (rp.on st1) q1 fun v Hb2 H2 s2 st2 r2 f2 q2 => c v Hb2 H2 s2 (st1.trans st2) r2 (FrSl.back st1 f2) q2
end

/-! ### statements -/
structure DEnds where
  nx : EV → Prop
  rt : Sl → Prop
  bk : EV → Prop := fun _ => False
  ct : EV → Prop := fun _ => False
abbrev DTS := DEnds → EV → Prop
section
variable (K : PySem.W.Frag) (F : Fr)
structure Lk (Hb : Hp) (D : Ends) (E : DEnds) : Prop where
  nx : ∀ Hb' H σ env, Same Hb Hb' → Rep K F Hb' H σ env → E.nx env → D.nx σ H
  bk : ∀ Hb' H σ env, Same Hb Hb' → Rep K F Hb' H σ env → E.bk env → D.bk σ H
  ct : ∀ Hb' H σ env, Same Hb Hb' → Rep K F Hb' H σ env → E.ct env → D.ct σ H
  rt : ∀ v Hb' H s, Same Hb Hb' → Step F.hid F.B0 F.H0 Hb' H → RepSl K F.hid Hb' H v s → FrSl F.H0 v s → E.rt s → D.rt v H
def SdS (ts : TS) (t : DTS) : Prop := ∀ (Hb H : Hp) (σ : L2.St) (env : EV) (D : Ends) (E : DEnds), Rep K F Hb H σ env → t E env → Lk K F Hb D E → ts D σ H
end
structure DS (X : Cx) (F : Fr) (st : Stmt) (ts : TS) (t : DTS) : Prop where
  pe : PS X st ts
  sd : SdS X.K F ts t
structure DSs (X : Cx) (F : Fr) (st : List Stmt) (ts : TS) (t : DTS) : Prop where
  pe : PSs X st ts
  sd : SdS X.K F ts t
def dNext : DTS := fun E env => E.nx env
def dSeq (t u : DTS) : DTS := fun E env => t { E with nx := u E } env
def dRet (t : DTE) : DTS := fun E env => t env E.rt
def dRetN : DTS := fun E _ => E.rt (.d .none)
def dBrk : DTS := fun E env => E.bk env
def dCt : DTS := fun E env => E.ct env
def dIf (c : DTT) (t u : DTS) : DTS := fun E env => c env fun b => if b = true then t E env else u E env
def dSet (t : DTE) (i : Nat) : DTS := fun E env => t env fun s => E.nx (env.set i (some s))
def dDrop (t : DTE) : DTS := fun E env => t env fun _ => E.nx env
section
variable {K : PySem.W.Frag} {F : Fr} {hid : Hid} {te ta : TE} {fa : DTE} {t u : TS} {ft fu : DTS} {c : TT} {fc : DTT}
theorem Lk.on {Hb Hb1 : Hp} {D : Ends} {E : DEnds} (l : Lk K F Hb D E) (e : Same Hb Hb1) : Lk K F Hb1 D E :=
  ⟨fun Hb' H σ env s => l.nx Hb' H σ env (e.trans s), fun Hb' H σ env s => l.bk Hb' H σ env (e.trans s), fun Hb' H σ env s => l.ct Hb' H σ env (e.trans s), fun v Hb' H s z => l.rt v Hb' H s (e.trans z)⟩
theorem sd_next : SdS K F tNext dNext := fun Hb H σ env D E r q l => l.nx Hb H σ env (Same.refl _) r q
theorem sd_seq (h1 : SdS K F t ft) (h2 : SdS K F u fu) : SdS K F (tSeq t u) (dSeq ft fu) := by
  intro Hb H σ env D E r q l
  exact h1 Hb H σ env { D with nx := u D } { E with nx := fu E } r q ⟨fun Hb' H σ env s r q => h2 Hb' H σ env D E r q (l.on s), l.bk, l.ct, l.rt⟩
theorem sd_brk : SdS K F tBreak dBrk := fun Hb H σ env D E r q l => l.bk Hb H σ env (Same.refl _) r q
theorem sd_cont : SdS K F tCont dCt := fun Hb H σ env D E r q l => l.ct Hb H σ env (Same.refl _) r q
theorem sd_ret (h : SdE K F te fa) : SdS K F (tRet te) (dRet fa) := by
  intro Hb H σ env D E r q l
  exact h Hb H σ env E.rt D.rt r q fun v Hb' H' s st rs f q => l.rt v Hb' H' s st.ex (r.step.trans st) rs (FrSl.back r.step f) q
theorem sd_retN : SdS K F tRetN dRetN := fun Hb H σ env D E r q l => l.rt .non Hb H (.d .none) (Same.refl _) r.step Dq.non trivial q
theorem sd_if (hc : SdT K F c fc) (h1 : SdS K F t ft) (h2 : SdS K F u fu) : SdS K F (tIfS c t u) (dIf fc ft fu) := by
  intro Hb H σ env D E r q l
  refine hc Hb H σ env _ _ r q fun b Hb1 H1 st1 q1 => ?_
  cases b with
  | true => exact h1 Hb1 H1 σ env D E (r.on st1) q1 (l.on st1.ex)
  | false => exact h2 Hb1 H1 σ env D E (r.on st1) q1 (l.on st1.ex)
theorem sd_set (i : Nat) (h : SdE K F te fa) : SdS K F (tAsg te (gName i)) (dSet fa i) := by
  intro Hb H σ env D E r q l
  exact h Hb H σ env _ _ r q fun v Hb' H' s st rs f q => l.nx Hb' H' _ _ st.ex (r.set st rs f i) q
theorem sd_drop (h : SdE K F te fa) : SdS K F (tDrop te) (dDrop fa) := by
  intro Hb H σ env D E r q l
  exact h Hb H σ env _ _ r q fun v Hb' H' s st rs f q => l.nx Hb' H' _ _ st.ex (r.on st) q
end

/-! ### targets -/
abbrev DTG := Sl → EV → (EV → Prop) → Prop
abbrev DTGs := List PyData → EV → (EV → Prop) → Prop
/-- what a target may change: the names js -/
def Off (js : List Nat) (σ σ' : L2.St) : Prop := σ'.length = σ.length ∧ ∀ i, i ∉ js → σ'[i]? = σ[i]?
section
variable (K : PySem.W.Frag) (F : Fr)
def SdG (js : List Nat) (g : TG) (t : DTG) : Prop := ∀ (Hb H : Hp) (σ : L2.St) (env : EV) (v : V) (s : Sl) (Q : EV → Prop) (k : L2.St → Hp → Prop), Rep K F Hb H σ env → RepSl K F.hid Hb H v s → s.fz = s → t s env Q →
  (∀ σ' env', Off js σ σ' → Rep K F Hb H σ' env' → Q env' → k σ' H) → g v σ H k
def SdGs (js : List Nat) (g : TGs) (t : DTGs) : Prop := ∀ (Hb H : Hp) (σ : L2.St) (env : EV) (vs : List V) (ds : List PyData) (Q : EV → Prop) (k : L2.St → Hp → Prop), Rep K F Hb H σ env → DqAll K Hb vs ds → t ds env Q →
  (∀ σ' env', Off js σ σ' → Rep K F Hb H σ' env' → Q env' → k σ' H) → g vs σ H k
end
theorem Off.refl (js : List Nat) (σ : L2.St) : Off js σ σ := ⟨rfl, fun _ _ => rfl⟩
theorem Off.set {js : List Nat} {σ : L2.St} {i : Nat} (h : i ∈ js) (o : Option V) : Off js σ (σ.set i o) := ⟨by simp, fun j hj => List.getElem?_set_ne fun e : i = j => hj (e ▸ h)⟩
theorem Off.trans {js : List Nat} {a b c : L2.St} (x : Off js a b) (y : Off js b c) : Off js a c := ⟨y.1.trans x.1, fun i hi => (y.2 i hi).trans (x.2 i hi)⟩
def dgName (i : Nat) : DTG := fun s env Q => Q (env.set i (some s))
def dgNil : DTGs := fun ds env Q => ds = [] ∧ Q env
def dgCons (t : DTG) (u : DTGs) : DTGs := fun ds env Q => ∃ d r, ds = d :: r ∧ t (.d d) env fun env' => u r env' Q
def dgTup (n : Nat) (t : DTGs) : DTG := fun s env Q => ∃ ds, s = .d (.tuple ds) ∧ ds.length = n ∧ t ds env Q
section
variable {K : PySem.W.Frag} {F : Fr} {hid : Hid} {js : List Nat}
theorem sg_name (i : Nat) (hi : i ∈ js) : SdG K F js (gName i) (dgName i) := fun Hb H σ env v s Q k r rs e q c =>
  c _ _ (Off.set hi _) (r.set (Step.refl r.st) rs (fr_of e) i) q
theorem sg_nil : SdGs K F js gNil dgNil := fun Hb H σ env vs ds Q k r rs q c => by
  obtain ⟨e, q⟩ := q
  subst e
  cases rs
  exact ⟨rfl, c σ env (Off.refl _ _) r q⟩
theorem sg_cons {g : TG} {gs : TGs} {t : DTG} {u : DTGs} (h1 : SdG K F js g t) (h2 : SdGs K F js gs u) : SdGs K F js (gCons g gs) (dgCons t u) := fun Hb H σ env vs ds Q k r rs q c => by
  obtain ⟨d, rr, e, q⟩ := q
  subst e
  cases rs with
  | cons h t' =>
    refine ⟨_, _, rfl, ?_⟩
    refine h1 Hb H σ env _ (.d d) _ _ r h rfl q fun σ1 env1 o1 r1 q1 => ?_
    exact h2 Hb H σ1 env1 _ rr Q _ r1 t' q1 fun σ2 env2 o2 r2 q2 => c σ2 env2 (o1.trans o2) r2 q2
theorem sg_tup {n : Nat} {gs : TGs} {u : DTGs} (h : SdGs K F js gs u) : SdG K F js (gTup K n gs) (dgTup n u) := fun Hb H σ env v s Q k r rs e q c => by
  obtain ⟨ds, e1, hl, q⟩ := q
  subst e1
  cases (show Dq K Hb v (.tuple ds) from rs) with
  | tup h1 h2 => exact ⟨_, _, rfl, Same.seqT r.st.ex h1, by rw [DqAll.length h2]; exact hl, h Hb H σ env _ ds Q k r h2 q c⟩
end

/-! ### what is walked -/
abbrev DTI := EV → (List PyData → Prop) → Prop
section
variable (K : PySem.W.Frag) (hid : Hid) (F : Fr)
/-- from Hb on the walk J gives the data ys -/
structure Gives (Hb : Hp) (J : It) (ys : List PyData) : Prop where
  ex : ∃ (G : Hp → Prop) (Y : Nat → Hp → V → Hp → Prop), Walk J ys.length G Y ∧ (∀ H, Same Hb H → G H) ∧
    ∀ i Hb' H x H', i < ys.length → St0 hid Hb' H → Same Hb Hb' → Y i H x H' → ∃ Hb2 d, ys[i]? = some d ∧ Step hid Hb' H Hb2 H' ∧ Dq K Hb2 x d
def SdI (wi : TI) (t : DTI) : Prop := ∀ (Hb H : Hp) (σ : L2.St) (env : EV) (Q : List PyData → Prop) (R : It → Hp → Prop), Rep K F Hb H σ env → t env Q →
  (∀ J Hb' H' ys, Step F.hid Hb H Hb' H' → Gives K F.hid Hb' J ys → Q ys → R J H') → wi σ H R
end
structure DI (X : Cx) (F : Fr) (tg e : Expr) (wi : TI) (t : DTI) : Prop where
  pe : PI X tg e wi
  sd : SdI X.K F wi t
/-- a list, a tuple -/
def dList (f : DTE) : DTI := fun env Q => f env fun s => ∃ xs, s.fz = .d (.list xs) ∧ Q xs
def dTup (f : DTE) : DTI := fun env Q => f env fun s => ∃ xs, s.fz = .d (.tuple xs) ∧ Q xs
def rngD (lo : Int) (n : Nat) : List PyData := (List.range n).map fun i => .int (lo + (i : Nat))
def dRng1 (f : DTA) : DTI := fun env Q => f env fun ss => ∃ j : Int, ss = [.d (.int j)] ∧ (-(2 ^ 62) ≤ j ∧ j < 2 ^ 62) ∧ Q (rngD 0 j.toNat)
def dRng2 (f : DTA) : DTI := fun env Q => f env fun ss => ∃ i j : Int, ss = [.d (.int i), .d (.int j)] ∧ (-(2 ^ 62) ≤ i ∧ i < 2 ^ 62 ∧ -(2 ^ 62) ≤ j ∧ j < 2 ^ 62) ∧ Q (rngD i (j - i).toNat)
def dStrI (f : DTE) : DTI := fun env Q => f env fun s => ∃ z : Str, s.fz = .d (.str z) ∧ Q (z.cps.toList.map fun c => .str ⟨#[c]⟩)
def enumD (i : Nat) : List PyData → List PyData
  | [] => []
  | x :: xs => .tuple [.int (i : Nat), x] :: enumD (i + 1) xs
def zipD : List PyData → List PyData → List PyData
  | x :: xs, y :: ys => .tuple [x, y] :: zipD xs ys
  | _, _ => []
section
variable {K : PySem.W.Frag} {F : Fr} {hid : Hid} {ta : TE} {fa : DTE} {tr : TA} {fr : DTA}
theorem gives_at {Hb : Hp} {J : It} {vs : List V} {ys : List PyData} {G : Hp → Prop} (w : Walk J vs.length G (YAt vs)) (hG : ∀ H, Same Hb H → G H) (h : DqAll K Hb vs ys) : Gives K hid Hb J ys := by
  refine ⟨G, YAt vs, by rw [← DqAll.length h]; exact w, hG, fun i Hb' H x H' hi st ex y => ?_⟩
  obtain ⟨e1, e2⟩ := y
  subst e1
  obtain ⟨d, h1, h2⟩ := DqAll.get h e2
  exact ⟨Hb', d, h1, Step.refl st, Dq.mono ex h2⟩
theorem si_list (h : SdE K F ta fa) : SdI K F (iList K ta) (dList fa) := by
  intro Hb H σ env Q R rp q c
  refine h.go (Q := fun s => ∃ xs, s = .d (.list xs) ∧ Q xs) rp q fun x Hb1 H1 s st1 rs1 _ q1 => ?_
  obtain ⟨xs, e, q1⟩ := q1
  subst e
  cases (show Dq K Hb1 x (.list xs) from rs1) with
  | lst h1 h2 => exact ⟨_, rfl, ⟨_, SqL.of (st1.st.ex _ _ h1)⟩, c _ Hb1 H1 xs st1 (gives_at walk_list (fun H' s => SqL.of (s _ _ h1)) h2) q1⟩
theorem si_tup (h : SdE K F ta fa) : SdI K F (iTup K ta) (dTup fa) := by
  intro Hb H σ env Q R rp q c
  refine h.go (Q := fun s => ∃ xs, s = .d (.tuple xs) ∧ Q xs) rp q fun x Hb1 H1 s st1 rs1 _ q1 => ?_
  obtain ⟨xs, e, q1⟩ := q1
  subst e
  cases (show Dq K Hb1 x (.tuple xs) from rs1) with
  | tup h1 h2 => exact ⟨_, rfl, ⟨_, Same.seqT st1.st.ex h1⟩, c _ Hb1 H1 xs st1 (gives_at walk_tup (fun H' s => Same.seqT s h1) h2) q1⟩
theorem gives_rng {Hb : Hp} (lo : Int) (n : Nat) : Gives K hid Hb (Itr lo n) (rngD lo n) := by
  have hl : (rngD lo n).length = n := by simp [rngD]
  refine ⟨fun _ => True, _, by rw [hl]; exact walk_range, fun _ _ => trivial, fun i Hb' H x H' hi st ex y => ?_⟩
  obtain ⟨e1, e2⟩ := y
  subst e1 e2
  exact ⟨Hb', .int (lo + (i : Nat)), by rw [hl] at hi; simp [rngD, hi], Step.refl st, .int _⟩
theorem int_of {Hb H : Hp} {x : V} {i : Int} (h : RepSl K hid Hb H x (.d (.int i))) : x = .int i := by
  cases (show Dq K Hb x (.int i) from h)
  rfl
theorem str_of {Hb H : Hp} {x : V} {i : Str} (h : RepSl K hid Hb H x (.d (.str i))) : x = .str i := by
  cases (show Dq K Hb x (.str i) from h)
  rfl
theorem si_rng1 (h : SdA K F tr fr) : SdI K F (iRng1 tr) (dRng1 fr) := by
  intro Hb H σ env Q R rp q c
  refine h Hb H σ env _ _ rp q fun vs Hb1 H1 ss st1 rs1 q1 => ?_
  obtain ⟨j, e, ⟨h1, h2⟩, q1⟩ := q1
  subst e
  cases rs1 with
  | cons a _ t =>
    cases t
    exact ⟨j, by rw [int_of a], h1, h2, c _ Hb1 H1 _ st1 (gives_rng _ _) q1⟩
theorem si_rng2 (h : SdA K F tr fr) : SdI K F (iRng2 tr) (dRng2 fr) := by
  intro Hb H σ env Q R rp q c
  refine h Hb H σ env _ _ rp q fun vs Hb1 H1 ss st1 rs1 q1 => ?_
  obtain ⟨i, j, e, hh, q1⟩ := q1
  subst e
  cases rs1 with
  | cons a _ t =>
    cases t with
    | cons b _ t =>
      cases t
      exact ⟨i, j, by rw [int_of a, int_of b], hh, c _ Hb1 H1 _ st1 (gives_rng _ _) q1⟩
theorem si_str (h : SdE K F ta fa) : SdI K F (iStr ta) (dStrI fa) := by
  intro Hb H σ env Q R rp q c
  refine h.go (Q := fun s => ∃ z : Str, s = .d (.str z) ∧ Q (z.cps.toList.map fun c => .str ⟨#[c]⟩)) rp q fun x Hb1 H1 s st1 rs1 _ q1 => ?_
  obtain ⟨z, e, q1⟩ := q1
  subst e
  refine ⟨z, str_of rs1, c _ Hb1 H1 _ st1 ⟨⟨fun _ => True, fun i H v H' => H' = H ∧ ∃ c, z.cps[i]? = some c ∧ v = .str ⟨#[c]⟩, ?_, fun _ _ => trivial, fun i Hb' H x H' hi st ex y => ?_⟩⟩ q1⟩
  · have e : (z.cps.toList.map fun c => PyData.str ⟨#[c]⟩).length = z.cps.size := by simp
    rw [e]
    exact walk_str
  · obtain ⟨e1, c, h1, h2⟩ := y
    subst e1 h2
    exact ⟨Hb', .str ⟨#[c]⟩, by simp [h1], Step.refl st, .str _⟩
/-- a new pair -/
theorem pair_new {Hb Hb' H : Hp} {T : Addr} {x y : V} {dx dy : PyData} (st : St0 hid Hb' H) (n : H T = none) (hx : Dq K Hb' x dx) (hy : Dq K Hb' y dy) : Step hid Hb' H (upd Hb' T (.tup [x, y])) (upd H T (.tup [x, y])) ∧ Dq K (upd Hb' T (.tup [x, y])) (.ref T) (.tuple [dx, dy]) := by
  have s := Step.laid (o := .tup [x, y]) st n
  exact ⟨s, .tup (SqT.of upd_same) (.cons (Dq.mono s.ex hx) (.cons (Dq.mono s.ex hy) .nil))⟩
theorem enumD_length : ∀ (i : Nat) (xs : List PyData), (enumD i xs).length = xs.length
  | _, [] => rfl
  | i, _ :: xs => congrArg (· + 1) (enumD_length (i + 1) xs)
theorem enumD_get : ∀ (i j : Nat) (xs : List PyData) (d : PyData), xs[j]? = some d → (enumD i xs)[j]? = some (.tuple [.int ((i + j : Nat) : Int), d])
  | _, _, [], _, h => by simp at h
  | i, 0, x :: xs, d, h => by simp at h; subst h; simp [enumD]
  | i, j + 1, x :: xs, d, h => by
    have := enumD_get (i + 1) j xs d (by simpa using h)
    show (enumD (i + 1) xs)[j]? = _
    rw [this, show i + 1 + j = i + (j + 1) by omega]
theorem zipD_length : ∀ (xs ys : List PyData), (zipD xs ys).length = min xs.length ys.length
  | [], _ => by simp [zipD]
  | _ :: _, [] => by simp [zipD]
  | _ :: xs, _ :: ys => by simp [zipD, zipD_length xs ys]
theorem zipD_get : ∀ (j : Nat) (xs ys : List PyData) (d e : PyData), xs[j]? = some d → ys[j]? = some e → (zipD xs ys)[j]? = some (.tuple [d, e])
  | _, [], _, _, _, h, _ => by simp at h
  | _, _ :: _, [], _, _, _, h => by simp at h
  | 0, x :: xs, y :: ys, d, e, h, h' => by simp at h h'; subst h h'; simp [zipD]
  | j + 1, x :: xs, y :: ys, d, e, h, h' => by
    show (zipD xs ys)[j]? = _
    exact zipD_get j xs ys d e (by simpa using h) (by simpa using h')
end

/-! ### for -/
/-- the walked data, one behind the other -/
def dLoop (g : DTG) (body : DTS) (E : DEnds) : List PyData → EV → Prop
  | [], env => E.nx env
  | y :: ys, env => g (.d y) env fun env1 => body { nx := dLoop g body E ys, ct := dLoop g body E ys, bk := E.nx, rt := E.rt } env1
def dFor (i : DTI) (g : DTG) (body : DTS) : DTS := fun E env => i env fun ys => dLoop g body E ys env
section
variable {K : PySem.W.Frag} {F : Fr} {hid : Hid} {js : List Nat}
theorem sd_for {wi : TI} {g : TG} {tb : TS} {fi : DTI} {fg : DTG} {fb : DTS} (hi : SdI K F wi fi) (hg : SdG K F js g fg) (hb : SdS K F tb fb) : SdS K F (tFor wi g tb) (dFor fi fg fb) := by
  intro Hb H σ env D E r q l
  refine hi Hb H σ env _ _ r q fun J Hb1 H1 ys st1 gv q1 => ?_
  obtain ⟨G, Y, w, hG, hY⟩ := gv.ex
  refine for_it w (fun i σ' H' => ∃ Hb' env', Same Hb1 Hb' ∧ Rep K F Hb' H' σ' env' ∧ dLoop fg fb E (ys.drop i) env') ⟨Hb1, env, Same.refl _, r.on st1, q1⟩ ?_ ?_ ?_
  · rintro i σ' H' _ ⟨Hb', env', s, r', _⟩
    exact hG H' (s.trans r'.st.ex)
  · rintro i x σ' H' H2 hlt ⟨Hb', env', s, r', q'⟩ y
    obtain ⟨Hb2, d, hd, st2, hx⟩ := hY i Hb' H' x H2 hlt r'.st s y
    have e : ys.drop i = d :: ys.drop (i + 1) := by
      obtain ⟨h1, h2⟩ := List.getElem?_eq_some_iff.mp hd
      rw [List.drop_eq_getElem_cons h1, h2]
    rw [e] at q'
    refine hg Hb2 H2 σ' env' x (.d d) _ _ (r'.on st2) hx rfl q' fun σ3 env3 _ r3 q3 => ?_
    have ex2 : Same Hb1 Hb2 := s.trans st2.ex
    refine hb Hb2 H2 σ3 env3 _ _ r3 q3 ⟨fun Hb4 H4 σ4 env4 s4 r4 q4 => ⟨Hb4, env4, ex2.trans s4, r4, q4⟩, fun Hb4 H4 σ4 env4 s4 r4 q4 => l.nx Hb4 H4 σ4 env4 (st1.ex.trans (ex2.trans s4)) r4 q4, fun Hb4 H4 σ4 env4 s4 r4 q4 => ⟨Hb4, env4, ex2.trans s4, r4, q4⟩, fun v Hb4 H4 s' s4 => l.rt v Hb4 H4 s' (st1.ex.trans (ex2.trans s4))⟩
  · rintro σ' H' ⟨Hb', env', s, r', q'⟩
    rw [List.drop_length] at q'
    exact l.nx Hb' H' σ' env' (st1.ex.trans s) r' q'
end
end Pu

end

section
/-! Pu3: displays, comprehensions, own lists, calls of defs. -/
namespace Pu
open PySem L2

/-! ### displays -/
def allD : List Sl → Option (List PyData)
  | [] => some []
  | .d x :: ss => (allD ss).map (x :: ·)
  | _ :: _ => none
def dTupE (t : DTA) : DTE := fun env Q => t env fun ss => ∃ xs, allD ss = some xs ∧ xs.length ≤ sizeLine ∧ Q (.d (.tuple xs))
def dLstE (t : DTA) : DTE := fun env Q => t env fun ss => ∃ xs, allD ss = some xs ∧ xs.length ≤ sizeLine ∧ Q (.own xs)
section
variable {K : PySem.W.Frag} {hid : Hid} {F : Fr} {Hb H : Hp}
theorem allD_rep : ∀ {ss : List Sl} {vs : List V} {xs : List PyData}, RepAll K hid Hb H vs ss → allD ss = some xs → DqAll K Hb vs xs
  | [], _, xs, .nil, e => by
    cases e
    exact .nil
  | .d x :: ss, _, xs, .cons h _ t, e => by
    unfold allD at e
    cases q : allD ss with
    | none => rw [q] at e; cases e
    | some ys =>
      rw [q] at e
      cases e
      exact .cons h (allD_rep t q)
  | .v _ :: _, _, _, _, e => by cases e
  | .src :: _, _, _, _, e => by cases e
  | .own _ :: _, _, _, _, e => by cases e
  | .ownD _ :: _, _, _, _, e => by cases e
/-- a new list of one's own -/
theorem own_new {vs : List V} {xs : List PyData} {p : Addr} (st : St0 hid Hb H) (n : H p = none) (h : DqAll K Hb vs xs) : Step hid Hb H Hb (upd H p (.lst vs)) ∧ RepSl K hid Hb (upd H p (.lst vs)) (.ref p) (.own xs) ∧ FrSl H (.ref p) (.own xs) := by
  have s := Step.raw (o := .lst vs) st n
  refine ⟨s, ⟨p, vs, rfl, upd_same, h, none_back (fun o e => st.ex p o e) n, fun z => ?_⟩, fun q e => ?_⟩
  · obtain ⟨o, e⟩ := st.ok.there z
    rw [n] at e; cases e
  · cases e; exact n
theorem tup_new {vs : List V} {xs : List PyData} {p : Addr} (st : St0 hid Hb H) (n : H p = none) (h : DqAll K Hb vs xs) : Step hid Hb H (upd Hb p (.tup vs)) (upd H p (.tup vs)) ∧ Dq K (upd Hb p (.tup vs)) (.ref p) (.tuple xs) := by
  have s := Step.laid (o := .tup vs) st n
  exact ⟨s, .tup (SqT.of upd_same) (DqAll.mono s.ex h)⟩
variable {ta : TA} {fa : DTA}
theorem sd_tup (h : SdA K F ta fa) : SdE K F (tTup ta) (dTupE fa) := by
  intro Hb H σ env Q k rp q c
  refine h Hb H σ env _ _ rp q fun vs Hb1 H1 ss st1 rs1 q1 => ?_
  obtain ⟨xs, e, hl, q1⟩ := q1
  have hd := allD_rep rs1 e
  refine ⟨by rw [DqAll.length hd]; exact hl, fun p hp => ?_⟩
  obtain ⟨s2, r2⟩ := tup_new (K := K) st1.st hp hd
  exact c _ _ _ (.d (.tuple xs)) (st1.trans s2) r2 trivial q1
theorem sd_lst (h : SdA K F ta fa) : SdE K F (tLst ta) (dLstE fa) := by
  intro Hb H σ env Q k rp q c
  refine h Hb H σ env _ _ rp q fun vs Hb1 H1 ss st1 rs1 q1 => ?_
  obtain ⟨xs, e, hl, q1⟩ := q1
  have hd := allD_rep rs1 e
  refine ⟨by rw [DqAll.length hd]; exact hl, fun p hp => ?_⟩
  obtain ⟨s2, r2, f2⟩ := own_new (K := K) st1.st hp hd
  exact c _ _ _ (.own xs) (st1.trans s2) r2 (FrSl.back st1 f2) q1
end

/-! ### comprehensions -/
def wipeE (env : EV) : List Nat → EV
  | [] => env
  | v :: vs => (wipeE env vs).set v none
def dLcGo (g : DTG) (tt : DTT) (te : DTE) (env : EV) : List PyData → List PyData → (List PyData → Prop) → Prop
  | [], acc, Q => Q acc
  | y :: ys, acc, Q => g (.d y) env fun env1 => tt env1 fun b => if b = true then te env1 fun s => ∃ x, s.fz = .d x ∧ dLcGo g tt te env ys (acc ++ [x]) Q else dLcGo g tt te env ys acc Q
def dLc (ti : DTI) (g : DTG) (tt : DTT) (te : DTE) (js : List Nat) : DTE := fun env Q => ti env fun ys => ys.length ≤ sizeLine ∧ dLcGo g tt te (wipeE env js) ys [] fun zs => Q (.own zs)
section
variable {K : PySem.W.Frag} {F : Fr} {Hb H : Hp} {σ : L2.St} {env : EV}
theorem Rep.wipe (r : Rep K F Hb H σ env) : ∀ js : List Nat, Rep K F Hb H (L2.wipe σ js) (wipeE env js)
  | [] => r
  | j :: js => (Rep.wipe r js).forget j none
theorem wipe_get (σ : L2.St) : ∀ (js : List Nat) (i : Nat), (L2.wipe σ js)[i]? = if i ∈ js ∧ i < σ.length then some none else σ[i]?
  | [], i => by simp [L2.wipe]
  | j :: js, i => by
    show ((L2.wipe σ js).set j none)[i]? = _
    rw [List.getElem?_set, wipe_get σ js i]
    have hl := wipe_length σ js
    by_cases hj : j = i
    · subst hj
      by_cases h : j < σ.length
      · simp [hl, h]
      · simp [hl, h]
    · have hij : ¬ i = j := fun e => hj e.symm
      simp [hj, hij]
theorem wipe_off {σ σ' : L2.St} {js : List Nat} (o : Off js σ σ') : L2.wipe σ' js = L2.wipe σ js := by
  apply List.ext_getElem?
  intro i
  rw [wipe_get, wipe_get, o.1]
  by_cases hi : i ∈ js
  · by_cases h : i < σ.length
    · simp [hi, h]
    · have h1 : σ'[i]? = none := List.getElem?_eq_none (by rw [o.1]; omega)
      have h2 : σ[i]? = none := List.getElem?_eq_none (by omega)
      simp [h, h1, h2]
  · simp [hi, o.2 i hi]
theorem wipe_idem (σ : L2.St) (js : List Nat) : L2.wipe (L2.wipe σ js) js = L2.wipe σ js := by
  apply List.ext_getElem?
  intro i
  rw [wipe_get, wipe_get, wipe_length]
  split
  · rename_i h
    simp [h]
  · rename_i h
    simp [h]
theorem sd_lc {js : List Nat} {wi : TI} {g : TG} {tt : TT} {te : TE} {fi : DTI} {fg : DTG} {ft : DTT} {fe : DTE} (hi : SdI K F wi fi) (hg : SdG K F js g fg) (ht : SdT K F tt ft) (he : SdE K F te fe) :
    SdE K F (tLc wi g tt te js) (dLc fi fg ft fe js) := by
  intro Hb H σ env Q k r q c
  refine hi Hb H σ env _ _ r q fun J Hb1 H1 ys st1 gv q1 => ?_
  obtain ⟨hlen, q1⟩ := q1
  obtain ⟨G, Y, w, hG, hY⟩ := gv.ex
  intro D hD
  have r1 := r.on st1
  have nD : ¬ F.hid.has D := fun z => by obtain ⟨o, e⟩ := st1.st.ok.there z; rw [hD] at e; cases e
  have s0 := Step.raw (o := .lst []) st1.st hD
  have bD : Hb1 D = none := none_back (fun o e => st1.st.ex D o e) hD
  -- what holds between the turns: the new list's items so far
  refine lc_it w (fun i H' => ∃ Hb' acc xs, Step F.hid Hb1 H1 Hb' H' ∧ H' D = some (.lst acc) ∧ Hb' D = none ∧ DqAll K Hb' acc xs ∧ acc.length ≤ i ∧ dLcGo fg ft fe (wipeE env js) (ys.drop i) xs fun zs => Q (.own zs)) ⟨Hb1, [], [], s0, upd_same, bD, .nil, Nat.zero_le _, q1⟩ ?_ ?_ ?_
  · rintro i H' _ ⟨Hb', acc, xs, s, _⟩
    exact hG H' (s.ex.trans s.st.ex)
  · rintro i x H' H2 hlt ⟨Hb', acc, xs, s, hA, hN, hq, hl, q'⟩ y
    obtain ⟨Hb2, d, hd, st2, hx⟩ := hY i Hb' H' x H2 hlt s.st s.ex y
    have e : ys.drop i = d :: ys.drop (i + 1) := by
      obtain ⟨h1, h2⟩ := List.getElem?_eq_some_iff.mp hd
      rw [List.drop_eq_getElem_cons h1, h2]
    rw [e] at q'
    have keepD : ∀ {Ha Hc Hbb Hbc : Hp}, Step F.hid Hbb Ha Hbc Hc → Ha D = some (.lst acc) → Hbb D = none → Hc D = some (.lst acc) ∧ Hbc D = none := fun {Ha Hc Hbb Hbc} t h1 h2 => by
      refine ⟨t.keep D _ h1 nD, ?_⟩
      cases z : Hbc D with
      | none => rfl
      | some o =>
        have := t.new D o z h2
        rw [h1] at this; cases this
    obtain ⟨hA2, hN2⟩ := keepD st2 hA hN
    have rw2 : Rep K F Hb2 H2 (L2.wipe σ js) (wipeE env js) := (r1.on (s.trans st2)).wipe js
    refine hg Hb2 H2 _ _ x (.d d) _ _ rw2 hx rfl q' fun σ3 env3 o3 r3 q3 => ⟨?_, ?_⟩
    · rw [wipe_off o3, wipe_idem]
    · refine ht Hb2 H2 σ3 env3 _ _ r3 q3 fun b Hb3 H3 st3 q4 => ?_
      obtain ⟨hA3, hN3⟩ := keepD st3 hA2 hN2
      cases b with
      | false =>
        have q4 : dLcGo fg ft fe (wipeE env js) (ys.drop (i + 1)) xs fun zs => Q (.own zs) := q4
        exact ⟨Hb3, acc, xs, (s.trans st2).trans st3, hA3, hN3, DqAll.mono st3.ex (DqAll.mono st2.ex hq), by omega, q4⟩
      | true =>
        have q4 : fe env3 fun s => ∃ x, s.fz = .d x ∧ dLcGo fg ft fe (wipeE env js) (ys.drop (i + 1)) (xs ++ [x]) fun zs => Q (.own zs) := q4
        show te σ3 H3 _
        refine he.go (Q := fun s => ∃ x, s = .d x ∧ dLcGo fg ft fe (wipeE env js) (ys.drop (i + 1)) (xs ++ [x]) fun zs => Q (.own zs)) (r3.on st3) q4 fun v Hb4 H4 u st4 ru _ q5 => ?_
        obtain ⟨z, e5, q5⟩ := q5
        subst e5
        obtain ⟨hA4, hN4⟩ := keepD st4 hA3 hN3
        have all := ((s.trans st2).trans st3).trans st4
        refine ⟨acc, hA4, ?_, Hb4, acc ++ [v], xs ++ [z], ⟨⟨fun b o e => ?_, all.st.ok.keeps fun b o hb e => ?_, all.st.out⟩, all.ex, all.new, fun b o e hb => ?_⟩, upd_same, hN4, DqAll.append (DqAll.mono ((st2.trans st3).trans st4).ex hq) (.cons ru .nil), by simp; omega, q5⟩
        · omega
        · rw [upd_ne (fun z : b = D => by rw [z, hN4] at e; cases e)]; exact all.st.ex b o e
        · rw [upd_ne (fun z : b = D => nD (z ▸ hb))]; exact e
        · rw [upd_ne (ne_of_none e hD)]; exact all.keep b o e hb
  · rintro H' ⟨Hb', acc, xs, s, hA, hN, hq, hl, q'⟩
    rw [List.drop_length] at q'
    refine c (.ref D) Hb' H' (.own xs) (st1.trans s) ⟨D, acc, rfl, hA, hq, hN, nD⟩ (fun p e => ?_) q'
    cases e
    exact st1.back hD
end

/-! ### own lists in slots -/
section
variable {K : PySem.W.Frag} {F : Fr} {Hb H : Hp} {σ : L2.St} {env : EV}
/-- an own object as everybody's -/
def frzAt (env : EV) (i : Nat) : EV := match env[i]? with
  | some (some (.own xs)) => env.set i (some (.d (.list xs)))
  | some (some (.ownD ds)) => env.set i (some (.d (.dict ds)))
  | _ => env
/-- but for lists and dicts all of H stands in H' -/
def Butl (H H' : Hp) : Prop := ∀ b o, H b = some o → ((∃ vs, o = .lst vs) ∨ ∃ kvs, o = .dK kvs) ∨ H' b = some o
/-- what is new is lists and dicts -/
def NewL (H H' : Hp) : Prop := ∀ b o, H' b = some o → H b = none → (∃ vs, o = .lst vs) ∨ ∃ kvs, o = .dK kvs
theorem Rep.frz1 (r : Rep K F Hb H σ env) {i : Nat} {s : Sl} (e : env[i]? = some (some s)) (hs : s.isOwn) : ∃ (p : Addr) (o : HO), σ[i]? = some (some (.ref p)) ∧ Hb p = none ∧ ((∃ vs, o = .lst vs) ∨ ∃ kvs, o = .dK kvs) ∧ Rep K F (upd Hb p o) H σ (env.set i (some s.fz)) := by
  obtain ⟨v, e1, rs, fr⟩ := r.sl i _ e
  obtain ⟨p, o, ev, hH, hB, hh, ho, hd⟩ : ∃ (p : Addr) (o : HO), v = .ref p ∧ H p = some o ∧ Hb p = none ∧ ¬ F.hid.has p ∧ ((∃ vs, o = .lst vs) ∨ ∃ kvs, o = .dK kvs) ∧ ∀ Hc : Hp, Same Hb Hc → Hc p = some o → RepSl K F.hid Hc H (.ref p) s.fz := by
    cases s with
    | own xs =>
      obtain ⟨p, vs, e2, e3, e4, e5, e6⟩ := rs
      exact ⟨p, _, e2, e3, e5, e6, .inl ⟨_, rfl⟩, fun Hc ex hc => Dq.lst hc (DqAll.mono ex e4)⟩
    | ownD xs =>
      obtain ⟨p, vs, e2, e3, e4, e5, e6⟩ := rs
      exact ⟨p, _, e2, e3, e5, e6, .inr ⟨_, rfl⟩, fun Hc ex hc => Dq.dic hc e4.1 (DqAll.mono ex e4.2)⟩
    | d x => exact hs.elim
    | v x => exact hs.elim
    | src => exact hs.elim
  subst ev
  have frp : F.H0 p = none := by
    cases s with
    | own xs => exact fr p rfl
    | ownD xs => exact fr p rfl
    | d x => exact hs.elim
    | v x => exact hs.elim
    | src => exact hs.elim
  have hi : i < env.length := (List.getElem?_eq_some_iff.mp e).1
  have ex : Same Hb (upd Hb p o) := fun b u e => by rw [upd_ne (ne_of_none e hB)]; exact e
  have notO : ∀ t : Sl, ¬ (t.fz).isOwn := fun t h => by cases t <;> exact h.elim
  refine ⟨p, o, e1, hB, ho, ⟨⟨⟨fun b u e => ?_, r.st.ok, fun b hb => ?_⟩, r.step.ex.trans ex, fun b u e n => ?_, r.step.keep⟩, r.mid.trans ex, by simpa using r.len, fun j u ej => ?_, fun j k t1 t2 q hjk ej ek o1 o2 sj sk => ?_⟩⟩
  · by_cases q : b = p
    · subst q; rw [upd_same] at e; cases e; exact hH
    · rw [upd_ne q] at e; exact r.st.ex b u e
  · rw [upd_ne (fun q : b = p => hh (q ▸ hb))]; exact r.st.out b hb
  · by_cases q : b = p
    · rw [q]; exact frp
    · rw [upd_ne q] at e; exact r.step.new b u e n
  · by_cases hij : i = j
    · subst hij
      rw [List.getElem?_set_self hi] at ej
      cases ej
      exact ⟨.ref p, e1, hd _ ex upd_same, fr_fz s⟩
    · rw [List.getElem?_set_ne hij] at ej
      obtain ⟨w, w1, w2, w3⟩ := r.sl j u ej
      refine ⟨w, w1, ?_, w3⟩
      cases u with
      | d x => exact Dq.mono ex w2
      | v y => exact w2
      | src => exact w2
      | own ys =>
        obtain ⟨q, us, q1, q2, q3, q4, q5⟩ := w2
        subst q1
        refine ⟨q, us, rfl, q2, DqAll.mono ex q3, ?_, q5⟩
        rw [upd_ne (fun z : q = p => r.dis i j s (.own ys) p hij e ej hs trivial e1 (z ▸ w1))]
        exact q4
      | ownD ys =>
        obtain ⟨q, us, q1, q2, q3, q4, q5⟩ := w2
        subst q1
        refine ⟨q, us, rfl, q2, ⟨q3.1, DqAll.mono ex q3.2⟩, ?_, q5⟩
        rw [upd_ne (fun z : q = p => r.dis i j s (.ownD ys) p hij e ej hs trivial e1 (z ▸ w1))]
        exact q4
  · have look : ∀ (m : Nat) (z : Sl), (env.set i (some s.fz))[m]? = some (some z) → z.isOwn → env[m]? = some (some z) := fun m z em oz => by
      by_cases him : i = m
      · subst him; rw [List.getElem?_set_self hi] at em; cases em; exact (notO s oz).elim
      · rw [List.getElem?_set_ne him] at em; exact em
    exact r.dis j k t1 t2 q hjk (look _ _ ej o1) (look _ _ ek o2) o1 o2 sj sk
theorem Rep.frz2 (r : Rep K F Hb H σ env) (i : Nat) : ∃ Hb1, Same Hb Hb1 ∧ NewL Hb Hb1 ∧ Rep K F Hb1 H σ (frzAt env i) := by
  have none_ : frzAt env i = env → ∃ Hb1, Same Hb Hb1 ∧ NewL Hb Hb1 ∧ Rep K F Hb1 H σ (frzAt env i) := fun h => by
    rw [h]
    exact ⟨Hb, Same.refl _, fun b o e n => (by rw [n] at e; cases e), r⟩
  have some_ : ∀ s : Sl, env[i]? = some (some s) → s.isOwn → frzAt env i = env.set i (some s.fz) → ∃ Hb1, Same Hb Hb1 ∧ NewL Hb Hb1 ∧ Rep K F Hb1 H σ (frzAt env i) := fun s e hs h => by
    rw [h]
    obtain ⟨p, o, _, hB, ho, r1⟩ := r.frz1 e hs
    refine ⟨_, fun b u e => by rw [upd_ne (ne_of_none e hB)]; exact e, fun b u e n => ?_, r1⟩
    by_cases q : b = p
    · subst q; rw [upd_same] at e; cases e; exact ho
    · rw [upd_ne q, n] at e; cases e
  cases e : env[i]? with
  | none => exact none_ (by unfold frzAt; rw [e])
  | some m =>
    cases m with
    | none => exact none_ (by unfold frzAt; rw [e])
    | some s =>
      cases s with
      | own xs => exact some_ _ e trivial (by unfold frzAt; rw [e]; rfl)
      | ownD xs => exact some_ _ e trivial (by unfold frzAt; rw [e]; rfl)
      | d x => exact none_ (by unfold frzAt; rw [e])
      | v x => exact none_ (by unfold frzAt; rw [e])
      | src => exact none_ (by unfold frzAt; rw [e])
theorem Rep.frz (r : Rep K F Hb H σ env) (i : Nat) : ∃ Hb1, Same Hb Hb1 ∧ Rep K F Hb1 H σ (frzAt env i) := by
  obtain ⟨Hb1, a, _, b⟩ := r.frz2 i
  exact ⟨Hb1, a, b⟩
def frzL (env : EV) : List Nat → EV
  | [] => env
  | j :: js => frzL (frzAt env j) js
theorem Rep.frzL : ∀ (js : List Nat) {Hb : Hp} {env : EV}, Rep K F Hb H σ env → ∃ Hb1, Same Hb Hb1 ∧ Rep K F Hb1 H σ (Pu.frzL env js)
  | [], Hb, env, r => ⟨Hb, Same.refl _, r⟩
  | j :: js, Hb, env, r => by
    obtain ⟨Hb1, e1, r1⟩ := r.frz j
    obtain ⟨Hb2, e2, r2⟩ := Rep.frzL js r1
    exact ⟨Hb2, e1.trans e2, r2⟩
/-- from here on everybody's -/
def dFrz (js : List Nat) (t : DTS) : DTS := fun E env => t E (frzL env js)
theorem sd_frz (js : List Nat) {ts : TS} {t : DTS} (h : SdS K F ts t) : SdS K F ts (dFrz js t) := by
  intro Hb H σ env D E r q l
  obtain ⟨Hb1, e1, r1⟩ := r.frzL js
  exact h Hb1 H σ _ D E r1 q (l.on e1)
def flatD : PyData → Bool
  | .none => true
  | .bool _ => true
  | .int _ => true
  | .str _ => true
  | _ => false
def Sl.flat : Sl → Prop
  | .d x => flatD x = true
  | .v _ => True
  | .src => True
  | .own xs => xs.all flatD = true
  | .ownD ds => (ds.map Prod.snd).all flatD = true
theorem Dq.flat {H' : Hp} : ∀ {d : PyData} {v : V}, flatD d = true → Dq K H v d → Dq K H' v d
  | .none, _, _, .non => .non
  | .bool b, _, _, .bl _ => .bl b
  | .int i, _, _, .int _ => .int i
  | .str x, _, _, .str _ => .str x
  | .list _, _, h, _ => by cases h
  | .tuple _, _, h, _ => by cases h
  | .dict _, _, h, _ => by cases h
theorem DqAll.flat {H' : Hp} : ∀ {ds : List PyData} {vs : List V}, ds.all flatD = true → DqAll K H vs ds → DqAll K H' vs ds
  | [], _, _, .nil => .nil
  | _ :: _, _, h, .cons a t => by
    simp only [List.all_cons, Bool.and_eq_true] at h
    exact .cons (Dq.flat h.1 a) (DqAll.flat h.2 t)
theorem back_to {Hb1 Hb2 H' : Hp} (r : Rep K F Hb H σ env) (ex : Same Hb Hb1) (s : Step F.hid Hb1 H Hb2 H') : Step F.hid Hb H Hb H' :=
  ⟨⟨ex.trans (s.ex.trans s.st.ex), s.st.ok, r.st.out⟩, Same.refl _, fun b o e n => (by rw [n] at e; cases e), s.keep⟩
/-- own lists read within an expression whose value is flat -/
def dPeek (js : List Nat) (t : DTE) : DTE := fun env Q => t (frzL env js) fun s => s.flat ∧ Q s
theorem sd_peek (js : List Nat) {te : TE} {t : DTE} (h : SdE K F te t) : SdE K F te (dPeek js t) := by
  intro Hb H σ env Q k r q c
  obtain ⟨Hb1, e1, r1⟩ := r.frzL js
  refine h Hb1 H σ _ _ k r1 q fun v Hb2 H2 s st rs f q => ?_
  obtain ⟨fl, q⟩ := q
  refine c v Hb H2 s (back_to r e1 st) ?_ f q
  cases s with
  | d x => exact Dq.flat fl rs
  | v y => exact rs
  | src => exact rs
  | own xs =>
    obtain ⟨p, vs, e2, e3, e4, e5, e6⟩ := rs
    exact ⟨p, vs, e2, e3, DqAll.flat fl e4, none_back (fun o e => st.ex p o (e1 p o e)) e5, e6⟩
  | ownD ds =>
    obtain ⟨p, vs, e2, e3, e4, e5, e6⟩ := rs
    exact ⟨p, vs, e2, e3, ⟨e4.1, DqAll.flat fl e4.2⟩, none_back (fun o e => st.ex p o (e1 p o e)) e5, e6⟩
def dPeekT (js : List Nat) (t : DTT) : DTT := fun env Q => t (frzL env js) Q
theorem sd_peekT (js : List Nat) {te : TT} {t : DTT} (h : SdT K F te t) : SdT K F te (dPeekT js t) := by
  intro Hb H σ env Q k r q c
  obtain ⟨Hb1, e1, r1⟩ := r.frzL js
  exact h Hb1 H σ _ Q k r1 q fun b Hb2 H2 st q => c b Hb H2 (back_to r e1 st) q
/-- one's own object, changed -/
theorem Rep.put1 (r : Rep K F Hb H σ env) {i : Nat} {s s' : Sl} {p : Addr} {o o' : HO} (e : env[i]? = some (some s)) (hs : s.isOwn) (hσ : σ[i]? = some (some (.ref p))) (hH : H p = some o) (hB : Hb p = none) (hh : ¬ F.hid.has p)
    (hs' : s'.isOwn) (rep : RepSl K F.hid Hb (upd H p o') (.ref p) s') : Rep K F Hb (upd H p o') σ (env.set i (some s')) := by
  have hi : i < env.length := (List.getElem?_eq_some_iff.mp e).1
  obtain ⟨v, e1, _, fr⟩ := r.sl i _ e
  rw [hσ] at e1
  cases e1
  have frp : F.H0 p = none := by
    cases s with
    | own xs => exact fr p rfl
    | ownD xs => exact fr p rfl
    | d x => exact hs.elim
    | v x => exact hs.elim
    | src => exact hs.elim
  have ne : ∀ {b : Addr} {u : HO}, Hb b = some u → b ≠ p := fun e z => by rw [z, hB] at e; cases e
  refine ⟨⟨⟨fun b u e => ?_, r.st.ok.keeps fun b u hb e => ?_, r.st.out⟩, r.step.ex, r.step.new, fun b u e hb => ?_⟩, r.mid, by simpa using r.len, fun j u ej => ?_, fun j m t1 t2 q hjm ej em o1 o2 sj sm => ?_⟩
  · rw [upd_ne (ne e)]; exact r.st.ex b u e
  · rw [upd_ne (fun z : b = p => hh (z ▸ hb))]; exact e
  · rw [upd_ne (fun z : b = p => by rw [z, frp] at e; cases e)]; exact r.step.keep b u e hb
  · by_cases hij : i = j
    · subst hij
      rw [List.getElem?_set_self hi] at ej
      cases ej
      refine ⟨.ref p, hσ, rep, ?_⟩
      cases s' with
      | own xs => exact fun q eq => by cases eq; exact frp
      | ownD xs => exact fun q eq => by cases eq; exact frp
      | d x => exact hs'.elim
      | v x => exact hs'.elim
      | src => exact hs'.elim
    · rw [List.getElem?_set_ne hij] at ej
      obtain ⟨w, w1, w2, w3⟩ := r.sl j u ej
      refine ⟨w, w1, ?_, w3⟩
      cases u with
      | d x => exact w2
      | v y => exact w2
      | src => exact w2
      | own ys =>
        obtain ⟨q, us, q1, q2, q3⟩ := w2
        subst q1
        exact ⟨q, us, rfl, by rw [upd_ne (fun z : q = p => r.dis i j s (.own ys) p hij e ej hs trivial hσ (z ▸ w1))]; exact q2, q3⟩
      | ownD ys =>
        obtain ⟨q, us, q1, q2, q3⟩ := w2
        subst q1
        exact ⟨q, us, rfl, by rw [upd_ne (fun z : q = p => r.dis i j s (.ownD ys) p hij e ej hs trivial hσ (z ▸ w1))]; exact q2, q3⟩
  · have look : ∀ (m : Nat) (z : Sl), (env.set i (some s'))[m]? = some (some z) → z.isOwn → ∃ z', env[m]? = some (some z') ∧ z'.isOwn := fun m z em oz => by
      by_cases him : i = m
      · subst him; exact ⟨_, e, hs⟩
      · rw [List.getElem?_set_ne him] at em; exact ⟨_, em, oz⟩
    obtain ⟨z1, w1, x1⟩ := look _ _ ej o1
    obtain ⟨z2, w2, x2⟩ := look _ _ em o2
    exact r.dis j m z1 z2 q hjm w1 w2 x1 x2 sj sm
/-- an own object's slot after a step -/
theorem Step.keepOwn {hid : Hid} {Hb H Hb1 H1 : Hp} (st : Step hid Hb H Hb1 H1) {p : Addr} {o : HO} (hH : H p = some o) (hB : Hb p = none) (hh : ¬ hid.has p) : H1 p = some o ∧ Hb1 p = none := by
  refine ⟨st.keep p _ hH hh, ?_⟩
  cases z : Hb1 p with
  | none => rfl
  | some u =>
    have := st.new p u z hB
    rw [hH] at this; cases this
/-- own.append(e) -/
def dApp (i : Nat) (t : DTE) : DTS := fun E env => match env[i]? with
  | some (some (.own xs)) => t env fun s => ∃ x, s.fz = .d x ∧ xs.length < sizeLine ∧ E.nx (env.set i (some (.own (xs ++ [x]))))
  | _ => False
theorem sd_app (i : Nat) {te : TE} {t : DTE} (h : SdE K F te t) : SdS K F (tDrop (tBM K "list" rAppend (tVar i) (tCons te tNil))) (dApp i t) := by
  intro Hb H σ env D E r q l
  unfold dApp at q
  split at q
  · rename_i xs e
    obtain ⟨v, e1, rs, fr⟩ := r.sl i _ e
    obtain ⟨p, vs, e2, e3, e4, e5, e6⟩ := rs
    subst e2
    refine ⟨_, e1, .inl ⟨rfl, _, SqL.of e3⟩, ?_⟩
    refine h.go (Q := fun s => ∃ x, s = .d x ∧ xs.length < sizeLine ∧ E.nx (env.set i (some (.own (xs ++ [x]))))) r q fun y Hb1 H1 s st1 rs1 _ q1 => ?_
    obtain ⟨x, ex, hl, q1⟩ := q1
    subst ex
    have hp : H1 p = some (.lst vs) := st1.keep p _ e3 e6
    have hbp : Hb1 p = none := by
      cases z : Hb1 p with
      | none => rfl
      | some o =>
        have := st1.new p o z e5
        rw [e3] at this; cases this
    have hvl := DqAll.length e4
    refine ⟨p, vs, y, rfl, rfl, hp, by omega, ?_⟩
    exact l.nx Hb1 _ σ _ st1.ex ((r.on st1).put1 e trivial e1 hp hbp e6 (s' := .own (xs ++ [x])) trivial ⟨p, vs ++ [y], rfl, upd_same, DqAll.append (DqAll.mono st1.ex e4) (.cons rs1 .nil), hbp, e6⟩) q1
  · exact q.elim
/-- an own list handed back -/
def dRetOwn (i : Nat) : DTS := fun E env => match env[i]? with
  | some (some s) => E.rt s
  | _ => False
theorem sd_retOwn (i : Nat) : SdS K F (tRet (tVar i)) (dRetOwn i) := by
  intro Hb H σ env D E r q l
  unfold dRetOwn at q
  split at q
  · rename_i s e
    obtain ⟨v, e1, rs, fr⟩ := r.sl i _ e
    exact ⟨v, e1, l.rt v Hb H s (Same.refl _) r.step rs fr q⟩
  · exact q.elim
end
end Pu

end

section
/-! PuG: promises of defs that are called where no repr runs (the guards are empty). -/
namespace Pu
open PySem L2 PyProof.Rows

structure RoomG (k : Nat) (A : Around) : Prop where
  r : Room k A
  guards : A.guards = some []
theorem RoomG.mono {j k : Nat} {A : Around} (r : RoomG k A) (h : j ≤ k) : RoomG j A := ⟨r.r.mono h, r.guards⟩
theorem RoomG.units {k : Nat} {A : Around} (r : RoomG k A) : A.units + 64 < cLine := r.r.units
structure FnG (P : Program) (w : World) (K : PySem.W.Frag) (mg : Str → Option Value) (base : Heap) (CX : CXT) (k : Nat) (f : Addr) (fd : FuncData) (ps : List Str) (sp : Sp) : Prop where
  many : ∀ vs H Q E, sp vs H Q E → vs.length = ps.length
  goes : ∀ (B : Around) (above : List Env) (s : Shared) (H : Hp) (as : Args) (us : List Value) (vs : List V) (Q : VK) (E : XK), RoomG k B → Env0 P w K mg base B above s H → BindsTo s fd as (ps.zip us) → Vals vs us →
    sp vs H Q E → codeAny (model P w) B (.call (.ref f) as) (CR CX above P w H s Q E) s
theorem FnG.of {P : Program} {w : World} {K : PySem.W.Frag} {mg : Str → Option Value} {base : Heap} {CX : CXT} {k : Nat} {f : Addr} {fd : FuncData} {ps : List Str} {sp : Sp} (F : FnOk P w K mg base CX k f fd ps sp) : FnG P w K mg base CX k f fd ps sp :=
  ⟨F.len, fun B above s H as us vs Q E hr => F.run B above s H as us vs Q E hr.r⟩
section
variable {X : Cx} {CX : CXT} {k : Nat} {f : Addr} {fd : FuncData} {ps : List Str} {sp : Sp} {E : XK} {x : Str} {p pos : Pos} {e : Expr} {es : List Expr} {t : TA}
theorem goes_fn {pins : List (Addr × Obj)} {σ : L2.St} {H : Hp} {s : Shared} {Q : VK} {us : List Value} {vs : List V} (F : FnG X.prog X.w X.K X.mg X.base CX k f fd ps sp) (room : RoomG k X.A) (bi : Binds X.K fd ps []) (out : Passes CX X E)
    (I : Inv X pins σ H s) (rel : Vals vs us) (q : sp vs H Q E) : wpAny (model X.prog X.w) X.A (call (.ref f) us) (EP X pins σ Q) X.xe s := by
  have many : us.length = ps.length := rel.length ▸ F.many _ _ _ _ q
  have bound := bi s us I.kIn (by rw [List.append_nil]; exact many)
  rw [List.append_nil] at bound
  have go := F.goes X.A X.stack s H ⟨us, []⟩ us vs Q E room I.env0 bound rel q
  refine wpAny_call (codeAny_mono go fun r s2 done => ?_)
  match r, done with
  | .error ex, done => exact out pins σ H s ex s2 I done
  | .ok (.ret u), done => exact I.after done
  | .ok .next, done => exact done.elim
  | .ok .brk, done => exact done.elim
  | .ok .cont, done => exact done.elim
theorem pe_callG (F : FnG X.prog X.w X.K X.mg X.base CX k f fd ps sp) (room : RoomG k X.A) (gl : Gl X x) (at_ : X.mg x = some (.ref f)) (kp : PySem.W.keepIn X.K (.ref f) = true) (bi : Binds X.K fd ps []) (out : Passes CX X E) (args : PA X (e :: es) t)
    (hdb : (x == ("__debug__" : Str)) = false := by decide) (hs : starEach (e :: es) X.env = (false, eval e X.env) :: starEach es X.env := by rfl) (plain : (backTo pos (starEach es X.env)).any (·.1) = false := by rfl) :
    PE X (.Call (.Name x p) (e :: es) [] pos) (fun σ H Q => t σ H fun vs H1 => sp vs H1 Q E) := by
  constructor
  intro pins s σ H Q I q
  refine wpAny_Call_Name_kw (ld_glob I gl at_ (PySem.W.callWith_K (h₀ := X.base) I.ok.mod.kin kp ?_ hs plain) hdb)
  refine thn (args.run pos pins s σ H _ I q) fun us s1 ⟨vs, H1, I1, rel, q1⟩ => ?_
  exact ⟨I1.kIn, goes_fn F room bi out I1 rel q1⟩
theorem pe_callG0 (F : FnG X.prog X.w X.K X.mg X.base CX k f fd ps sp) (room : RoomG k X.A) (gl : Gl X x) (at_ : X.mg x = some (.ref f)) (kp : PySem.W.keepIn X.K (.ref f) = true) (bi : Binds X.K fd ps []) (out : Passes CX X E)
    (hdb : (x == ("__debug__" : Str)) = false := by decide) : PE X (.Call (.Name x p) [] [] pos) (fun σ H Q => sp [] H Q E) := by
  constructor
  intro pins s σ H Q I q
  refine wpAny_Call_Name_kw (ld_glob I gl at_ ?_ hdb)
  exact PySem.W.callWith_K0 I.kIn kp (goes_fn (us := []) F room bi out I .nil q)
end
section
variable {P : Program} {w : World} {K : PySem.W.Frag} {mg : Str → Option Value} {base : Heap}
/-- a def's body keeps its promise -/
theorem goes_of {CX : CXT} {k : Nat} {x qual : Str} {st : Stmt} {f : Addr} {fd : FuncData} {N ps : List Str} {sp : Sp} (F : Fun K x qual st f fd) (S : FnScope N ps (defScope st)) (many : ∀ vs H Q E, sp vs H Q E → vs.length = ps.length)
    (body : ∀ (cdv : Value) (B : Around) (above : List Env) (s : Shared) (H : Hp) (vs : List V) (Q : VK) (E : XK), RoomG k (B.deeper (envOfC qual (defScope st) s.heap.objs.size f cdv)) → sp vs H Q E →
      ∃ t, PSs (cxOf CX P w K mg base N qual (defScope st) f cdv B above s H E) (defBody st) t ∧ t { nx := fun _ H' => Q .non H', rt := Q } (L2.start N vs) H) : FnG P w K mg base CX (k + 1) f fd ps sp := by
  obtain ⟨oc, od, kV, doc, pm, an, cdv, ct, osl, rfl, lk, code⟩ := F.ex
  refine ⟨many, fun B above s H as us vs Q E room e0 bi rel q => ?_⟩
  have cnt : vs.length = ps.length := many _ _ _ _ q
  have old : ∀ b o, base.get? b = some o → s.heap.get? b = some o := fun b o e => (e0.bs b o e).1
  have inK : K.In s.heap := e0.mod.kin.keeps old
  have nolim : s.heap.NoLimit := e0.mod.nolimit.keeps old
  have kinds : ∀ y ∈ ps.zip us, (defScope st).names.lookup y.1 = some .local ∨ ((defScope st).names.lookup y.1 = some .cell ∧ ((cellsFrom (s.heap.objs.size + 1) (defScope st).names []).lookup y.1).isSome = true) := by
    intro y hy
    obtain ⟨n, v⟩ := y
    cases S.par n (List.of_mem_zip hy).1 with
    | inl z => exact .inl z
    | inr z => exact .inr ⟨z, PySem.W.cellsFrom_some _ _ _ (.inl z)⟩
  refine codeAny_call_function room.r.depth (inK _ _ lk) rfl S.co S.gen rfl (PySem.W.codeRec_of inK code) (bi _ _ _ _ (wpAny_newFunctionEnv_cells S.kind kinds fun env he s1 made => ?_))
  cases he
  refine ⟨nolim.keeps made.toInCall.keep, codeAny_func ?_⟩
  have room' : RoomG k (B.deeper (envOfC qual (defScope st) s.heap.objs.size f cdv)) := ⟨room.r.deeper _, room.guards⟩
  obtain ⟨t, walk, q'⟩ := body cdv B above s H vs Q E room' q
  have I := inv_start (CX := CX) (E := E) S room.r.hd e0 cnt rel made
  refine wpAny_mono (walk.run [] s1 (L2.start N vs) H _ I q') (fun fl s' done => ?_) fun ex s' done => done
  match fl, done with
  | .ret u, ⟨v, σ', H', J, rv, qq⟩ => exact ⟨v, H', J.os, J.bare, J.base, J.hok, rv, qq⟩
  | .next, ⟨σ', H', J, qq⟩ => exact ⟨.non, H', J.os, J.bare, J.base, J.hok, rfl, qq⟩
  | .brk, ⟨_, _, _, qq⟩ => exact qq.elim
  | .cont, ⟨_, _, _, qq⟩ => exact qq.elim
/-- no exception leaves -/
theorem goes_of0 {k : Nat} {x qual : Str} {st : Stmt} {f : Addr} {fd : FuncData} {N ps : List Str} {sp : Sp} (F : Fun K x qual st f fd) (S : FnScope N ps (defScope st)) (many : ∀ vs H Q E, sp vs H Q E → vs.length = ps.length)
    (body : ∀ (cdv : Value) (B : Around) (above : List Env) (s : Shared) (H : Hp) (vs : List V) (Q : VK) (E : XK), RoomG k (B.deeper (envOfC qual (defScope st) s.heap.objs.size f cdv)) → sp vs H Q E →
      ∃ t, PSs (cxOf CX0 P w K mg base N qual (defScope st) f cdv B above s H E).nox (defBody st) t ∧ t { nx := fun _ H' => Q .non H', rt := Q } (L2.start N vs) H) : FnG P w K mg base CX0 (k + 1) f fd ps sp :=
  goes_of F S many fun cdv B above s H vs Q E room q => let ⟨t, h1, h2⟩ := body cdv B above s H vs Q E room q; ⟨t, h1.nox, h2⟩
end
/-! ### the end: the law is called at the heap behind the top -/
def scriptObj (vs : List Value) : Obj := { cls := .type "list", data := .seq vs.toArray }
/-- the abstract heap ahead of the law: the script alone, and that only where the module does not hold it -/
def ahead (held : Bool) (a : Addr) (vs : List Value) (ns : List Int) : Hp := fun b => if held = false ∧ b = a then some (.frz (scriptObj vs) (.lst (ns.map V.int))) else none
theorem law_end {P : Program} {w : World} {K : PySem.W.Frag} {mg mb : Str → Option Value} {k : Nat} {fa a : Addr} {fd : FuncData} {x : Str} {sp : Sp} {s : Shared} {vs : List Value} {ns : List Int}
    (inK : K.In s.heap) (glob : s.heap.Ns mainGlobals mg) (blt : s.heap.Ns builtinsNs mb) (boot : ∀ x : Str, x ≠ "__name__" → mb x = bootBuiltins x) (nolim : s.heap.NoLimit) (gens : s.gens = #[]) (ha : s.heap.get? a = some (scriptObj vs)) (isI : IntsAre vs ns)
    (short : ns.length ≤ sizeLine) (room : RoomG k callerA) (F : ∀ base : Heap, K.In base → base.Ns mainGlobals mg → FnG P w K mg base CX0 k fa fd [x] sp) (bi : ∀ (s : Shared) (u : Value), BindsTo s fd ⟨[u], []⟩ [(x, u)])
    (promise : ∀ H : Hp, SqL K H a (ns.map V.int) → sp [.ref a] H (fun v _ => v = .bl true) fun _ _ _ => False) :
    codeAny (model P w) callerA (.call (.ref fa) ⟨[.ref a], []⟩) (fun r s' => r = .ok (.ret (.bool true)) ∧ OldK s.heap s'.heap ∧ s'.os = s.os ∧ AllBare s'.gens) s := by
  have rel : Vals (ns.map V.int) vs := vals_of_ints isI
  have many : vs.length = ns.length := isI.length
  let held := (K.lookup a).isSome
  let H := ahead held a vs ns
  have Hc : ∀ b u, H b = some u → b = a ∧ held = false ∧ u = .frz (scriptObj vs) (.lst (ns.map V.int)) := fun b u e => by
    have e' : (if held = false ∧ b = a then some (HO.frz (scriptObj vs) (.lst (ns.map V.int))) else none) = some u := e
    by_cases c : held = false ∧ b = a
    · rw [if_pos c] at e'; cases e'; exact ⟨c.2, c.1, rfl⟩
    · rw [if_neg c] at e'; cases e'
  have notA : ∀ b, b ≠ a → H b = none := fun b hb => by
    cases e : H b with
    | none => rfl
    | some u => exact absurd (Hc b u e).1 hb
  have seen : SqL K H a (ns.map V.int) := by
    cases e : K.lookup a with
    | none =>
      have hh : held = false := by show (K.lookup a).isSome = false; rw [e]; rfl
      exact .inl (.inr ⟨scriptObj vs, if_pos ⟨hh, rfl⟩⟩)
    | some o =>
      have e2 := inK a o e
      rw [ha] at e2
      cases e2
      exact .inr ⟨scriptObj vs, vs.toArray, _, e, rfl, rfl, rfl, by rw [List.size_toArray, many]; exact short, by simpa using rel⟩
  have hok : HOk P w H s.heap := fun b u e => by
    obtain ⟨h1, _, h3⟩ := Hc b u e
    subst h1 h3
    exact ⟨ha, by rw [List.length_map]; exact short, vs, _, rel, ha⟩
  have down : ∀ {b : Addr} {o : Obj}, s.heap.get? b = some o → H b = none → (hidT s.heap H).get? b = some o := fun e n => hidT_get e n
  have dicts : ∀ {b : Addr} {m : Str → Option Value}, s.heap.Ns b m → (hidT s.heap H).Ns b m := fun {b m} ⟨o, es, ep, e, d, r⟩ => by
    refine ⟨o, es, ep, down e (notA b fun z => ?_), d, r⟩
    subst z
    rw [ha] at e
    cases e
    cases d
  have baseK : K.In (hidT s.heap H) := fun b o e => down (inK b o e) (by
    cases q : H b with
    | none => rfl
    | some u =>
      obtain ⟨h1, h2, _⟩ := Hc b u q
      subst h1
      have h2' : (K.lookup b).isSome = false := h2
      rw [e] at h2'; cases h2')
  have md : Mod K mg (hidT s.heap H) := by
    obtain ⟨mc, c1, c2⟩ := nolim
    exact ⟨baseK, dicts glob, ⟨mb, dicts blt, boot⟩, ⟨mc, dicts c1, c2⟩⟩
  have none_in : ∀ b, b ∉ ([] : List Addr) := fun b z => by cases z
  have e0 : Env0 P w K mg (hidT s.heap H) callerA [] s H := ⟨rfl, md, fun b o e => of_hidT e, Nat.le_of_eq (hidT_size _ _), trivial, fun b hb => absurd hb (none_in b), hok, .of_eq gens⟩
  have go := (F _ baseK (dicts glob)).goes callerA [] s H ⟨[.ref a], []⟩ [.ref a] [.ref a] (fun v _ => v = .bl true) (fun _ _ _ => False) room e0 (bi s (.ref a)) (.cons rfl .nil) (promise H seen)
  refine codeAny_mono go fun r s' done => ?_
  match r, done with
  | .error _, done => exact False.elim done
  | .ok .next, done => exact False.elim done
  | .ok .brk, done => exact False.elim done
  | .ok .cont, done => exact False.elim done
  | .ok (.ret u), ⟨v, H2, os, bare, un, ok2, rv, q⟩ =>
    cases q
    cases rv
    refine ⟨rfl, OldK.of_keep fun b o e => ?_, os, bare⟩
    cases q : H b with
    | none => exact un.keep b o e q (none_in b) (none_in b)
    | some u =>
      obtain ⟨h1, _, h3⟩ := Hc b u q
      subst h1 h3
      obtain ⟨g1, _⟩ := ok2 _ _ (un.frzs _ _ _ q)
      rw [ha] at e
      cases e
      exact g1
theorem walkG {l : PySem.W.OpenLaw} {k : Nat} {q : Program} {loose : List Str} {XP : (Str → Option Value) → Heap → Prop} {YP : World → Heap → Prop} {d : DefRec} {K : Params → PySem.W.Frag} {sp : PySem.W.Frag → Sp} {x : Str}
    (most : l.most = some 63) (nodef : d.params.defaults = []) (room : RoomG k callerA) (hY : ∀ (w : World) (h : Heap), YP w h → (K w.params).In h)
    (F : ∀ (w : World) (mg : Str → Option Value) (fa : Addr) (h : Heap), (K w.params).In h → h.Ns mainGlobals mg → mg d.name = some (.ref fa) →
      ∃ fd : FuncData, (∀ (s : Shared) (u : Value), BindsTo s fd ⟨[u], []⟩ [(x, u)]) ∧ ∀ base : Heap, (K w.params).In base → base.Ns mainGlobals mg → FnG l.prog w (K w.params) mg base CX0 k fa fd [x] (sp (K w.params)))
    (promise : ∀ (K : PySem.W.Frag) (H : Hp) (a : Addr) (ns : List Int), ns.length ≤ 63 → SqL K H a (ns.map V.int) → sp K [.ref a] H (fun v _ => v = .bl true) fun _ _ _ => False) :
    PySem.W.WalkO q loose XP YP l.row.toRowW d [] (fun f vs => PySem.call f vs) := by
  refine Att.attach_call most nodef fun w s0 s mg mb fa o pm cd doc a vs ns G Y ho hd hcd hmg hobj hints hlen hg => ?_
  have inK := hY w _ Y
  obtain ⟨fd, bi, hF⟩ := F w mg fa _ inK G.T.g hmg
  exact law_end inK G.T.g G.T.b G.T.builtins G.T.nolimit hg hobj hints (Nat.le_trans hlen (by decide)) room hF bi fun H hS => promise _ H a ns hlen hS
end Pu

end

section
/-! Pu4: calls of defs; a def's promise by its body. -/
namespace Pu
open PySem L2 PyProof.Rows

/-! ### promises -/
def spD (K : PySem.W.Frag) (n : Nat) (hid : Hid) (m : FN) : Sp := fun vs H Q _ => ∃ Hb ss R, St0 hid Hb H ∧ RepAll K hid Hb H vs ss ∧ ss.length = n ∧ m ss R ∧
  ∀ v Hb' H' s, Step hid Hb H Hb' H' → RepSl K hid Hb' H' v s → FrSl H v s → R s → Q v H'
/-- whatever the hidden objects are -/
def spX (K : PySem.W.Frag) (n : Nat) (m : FN) : Sp := fun vs H Q E => ∃ hid, spD K n hid m vs H Q E
theorem RepAll.length {K : PySem.W.Frag} {hid : Hid} {Hb H : Hp} : ∀ {vs : List V} {ss : List Sl}, RepAll K hid Hb H vs ss → vs.length = ss.length
  | _, _, .nil => rfl
  | _, _, .cons _ _ t => congrArg (· + 1) (RepAll.length t)
theorem RepAll.get {K : PySem.W.Frag} {hid : Hid} {Hb H : Hp} : ∀ {vs : List V} {ss : List Sl} {i : Nat} {s : Sl}, RepAll K hid Hb H vs ss → ss[i]? = some s → ∃ v, vs[i]? = some v ∧ RepSl K hid Hb H v s ∧ s.fz = s
  | _, _, _, _, .nil, e => by simp at e
  | _, _, 0, _, .cons h k _, e => by simp at e; subst e; exact ⟨_, rfl, h, k⟩
  | _, _, i + 1, _, .cons _ _ t, e => by
    obtain ⟨v, h1, h2⟩ := RepAll.get (i := i) t (by simpa using e)
    exact ⟨v, by simpa using h1, h2⟩
def startE (N : List Str) (ss : List Sl) : EV := ss.map some ++ List.replicate (N.length - ss.length) none
theorem rep_start {K : PySem.W.Frag} {hid : Hid} {Hb H : Hp} {N : List Str} {vs : List V} {ss : List Sl} (st : St0 hid Hb H) (r : RepAll K hid Hb H vs ss) : Rep K ⟨hid, Hb, H, Hb⟩ Hb H (start N vs) (startE N ss) := by
  have hl := r.length
  have look : ∀ (i : Nat) (s : Sl), (startE N ss)[i]? = some (some s) → ss[i]? = some s := fun i s e => by
    unfold startE at e
    rw [List.getElem?_append] at e
    split at e
    · rename_i h
      rw [List.getElem?_map] at e
      cases q : ss[i]? with
      | none => rw [q] at e; cases e
      | some u => rw [q] at e; cases e; rfl
    · rw [List.getElem?_replicate] at e
      split at e <;> cases e
  refine ⟨Step.refl st, Same.refl _, by simp [startE, L2.start, hl], fun i s e => ?_, fun i j t1 t2 p hij e _ o1 _ _ => ?_⟩
  · obtain ⟨v, h1, h2, h3⟩ := RepAll.get r (look i s e)
    refine ⟨v, ?_, h2, fr_of h3⟩
    unfold L2.start
    rw [List.getElem?_append_left (by rw [List.length_map]; exact (List.getElem?_eq_some_iff.mp h1).1), List.getElem?_map, h1]
    rfl
  · obtain ⟨v, h1, h2, h3⟩ := RepAll.get r (look i _ e)
    cases t1 with
    | own xs => cases h3
    | ownD xs => cases h3
    | d x => exact o1.elim
    | v x => exact o1.elim
    | src => exact o1.elim
section
variable {P : Program} {w : World} {K : PySem.W.Frag} {mg : Str → Option Value} {base : Heap}
/-- THE RULE for a def: its body as a term of rules, and the plain reading of that term -/
theorem okD {x qual : Str} {st : Stmt} {f : Addr} {fd : FuncData} {N ps : List Str} {k : Nat} {m : FN} (F : Fun K x qual st f fd) (S : FnScope N ps (defScope st))
    (body : ∀ (G : Fr) (cdv : Value) (A : Around) (outer : List Env) (s : Shared) (H : Hp) (E : XK), RoomG k (A.deeper (envOfC qual (defScope st) s.heap.objs.size f cdv)) → ∀ (ss : List Sl) (R : DK), ss.length = ps.length → m ss R →
      ∃ ts t, DSs (cxOf CX0 P w K mg base N qual (defScope st) f cdv A outer s H E).nox G (defBody st) ts t ∧ t { nx := fun _ => R (.d .none), rt := R } (startE N ss)) :
    FnG P w K mg base CX0 (k + 1) f fd ps (spX K ps.length m) := by
  refine goes_of0 F S (fun vs H Q E h => ?_) (fun cdv A outer s H vs Q E hr hsp => ?_)
  · obtain ⟨hid, Hb, ss, R, st, r, hl, _⟩ := h
    rw [r.length]; exact hl
  · obtain ⟨hid, Hb, ss, R, st, r, hl, hm, c⟩ := hsp
    obtain ⟨ts, t, B, q⟩ := body ⟨hid, Hb, H, Hb⟩ cdv A outer s H E hr ss R hl hm
    refine ⟨ts, B.pe, B.sd Hb H _ _ _ { nx := fun _ => R (.d .none), rt := R } (rep_start st r) q ⟨fun Hb' H' σ env _ r' q => ?_, fun _ _ _ _ _ _ q => q.elim, fun _ _ _ _ _ _ q => q.elim, fun v Hb' H' s' _ st' rs fr q => ?_⟩⟩
    · exact c .non Hb' H' (.d .none) r'.step Dq.non trivial q
    · exact c v Hb' H' s' st' rs fr q
end
section
variable {X : Cx} {F : Fr} {k n : Nat} {f : Addr} {fd : FuncData} {ps : List Str} {m : FN} {x : Str} {p pos : Pos} {e : Expr} {es : List Expr} {ta : TA} {fa : DTA}
def dFn (n : Nat) (m : FN) (fa : DTA) : DTE := fun env Q => fa env fun ss => ss.length = n ∧ m ss Q
def tFn (sp : Sp) (t : TA) : TE := fun σ H Q => t σ H fun vs H1 => sp vs H1 Q E0
theorem sd_fn {K : PySem.W.Frag} (h : SdA K F ta fa) : SdE K F (tFn (spX K n m) ta) (dFn n m fa) := by
  intro Hb H σ env Q k r q c
  refine h Hb H σ env _ _ r q fun vs Hb1 H1 ss st1 rs1 q1 => ?_
  obtain ⟨hl, hm⟩ := q1
  exact ⟨F.hid, Hb1, ss, Q, st1.st, rs1, hl, hm, fun v Hb' H' s st2 r2 f2 q2 => c v Hb' H' s (st1.trans st2) r2 (FrSl.back st1 f2) q2⟩
theorem de_call (G : FnG X.prog X.w X.K X.mg X.base CX0 k f fd ps (spX X.K n m)) (hr : RoomG k X.A) (hm : X.mg x = some (.ref f)) (hk : PySem.W.keepIn X.K (.ref f) = true) (hb : Binds X.K fd ps []) (ha : DA X F (e :: es) ta fa)
    (hg : Gl X x := by rfl) (hdb : (x == ("__debug__" : Str)) = false := by decide) (he : starEach (e :: es) X.env = (false, eval e X.env) :: starEach es X.env := by rfl) (hpl : (backTo pos (starEach es X.env)).any (·.1) = false := by rfl) :
    DE X F (.Call (.Name x p) (e :: es) [] pos) (tFn (spX X.K n m) ta) (dFn n m fa) := ⟨pe_callG G hr hg hm hk hb pass0 ha.pe hdb he hpl, sd_fn (ha.sd)⟩
theorem de_call0 (G : FnG X.prog X.w X.K X.mg X.base CX0 k f fd ps (spX X.K n m)) (hr : RoomG k X.A) (hm : X.mg x = some (.ref f)) (hk : PySem.W.keepIn X.K (.ref f) = true) (hb : Binds X.K fd ps [])
    (hg : Gl X x := by rfl) (hdb : (x == ("__debug__" : Str)) = false := by decide) :
    DE X F (.Call (.Name x p) [] [] pos) (tFn (spX X.K n m) tNil) (dFn n m fun _ Q => Q []) := ⟨pe_callG0 G hr hg hm hk hb pass0 hdb, sd_fn sd_nil⟩
end

/-! ### the terms: hand layer and plain layer at once -/
section
variable {X : Cx} {F : Fr} {a b c e : Expr} {es : List Expr} {ta tb tc te : TE} {fa fb fc fe : DTE} {pos : Pos} {tt tu : TT} {ft fu : DTT} {tr : TA} {fr : DTA}
theorem da_nil : DA X F [] tNil (fun _ Q => Q []) := ⟨pa_nil, sd_nil⟩
theorem da_cons (ha : DE X F e te fe) (hr : DA X F es tr fr) (hs : starEach (e :: es) X.env = (false, eval e X.env) :: starEach es X.env := by rfl) : DA X F (e :: es) (tCons te tr) (dCons fe fr) := ⟨pa_cons ha.pe hr.pe hs, sd_cons (ha.sd) (hr.sd)⟩
theorem de_tup {x1} (h : DA X F es tr fr) : DE X F (.Tuple es x1 pos) (tTup tr) (dTupE fr) := ⟨pe_tup h.pe, sd_tup (h.sd)⟩
theorem de_lst (h : DA X F es tr fr) : DE X F (.List es pos) (tLst tr) (dLstE fr) := ⟨pe_lst h.pe, sd_lst (h.sd)⟩
theorem de_op {op : Operator} {r : R2} {f : F2} (ho : OpR X (binaryOp op) r) (lo : ∀ hid, LO X.K hid r f) (ha : DE X F a ta fa) (hb : DE X F b tb fb) : DE X F (.BinOp a op b pos) (tOp r ta tb) (dOp f fa fb) := ⟨pe_op ho ha.pe hb.pe, sd_op (lo F.hid) (ha.sd) (hb.sd)⟩
theorem de_un {op : UnaryOp} {r : V → Hp → VK → Prop} {f : F1} (ho : UnR X (unaryOp op) r) (lo : ∀ hid, LU X.K hid r f) (ha : DE X F a ta fa) : DE X F (.UnaryOp op a pos) (tUn r ta) (dUn f fa) := ⟨pe_un ho ha.pe, sd_un (lo F.hid) (ha.sd)⟩
theorem de_cmp {op : CmpOp} {r : R2} {f : F2} (ho : OpR X (compareOp op) r) (lo : ∀ hid, LO X.K hid r f) (ha : DE X F a ta fa) (hb : DE X F b tb fb) (hm : behindInMarks op b = false := by first | exact nomark _ | rfl) : DE X F (.Compare a [op] [b] pos) (tOp r ta tb) (dOp f fa fb) :=
  ⟨pe_cmpR ho ha.pe hb.pe hm, sd_op (lo F.hid) (ha.sd) (hb.sd)⟩
theorem dt_cmp {op : CmpOp} {r : R2} {f : F2} (ho : OpR X (compareOp op) r) (lo : ∀ hid, LO X.K hid r f) (ha : DE X F a ta fa) (hb : DE X F b tb fb) (hm : behindInMarks op b = false := by first | exact nomark _ | rfl) : DT X F (.Compare a [op] [b] pos) (tTest (tOp r ta tb)) (dTest (dOp f fa fb)) :=
  ⟨pt_cmpR ho ha.pe hb.pe hm, sd_test (sd_op (lo F.hid) (ha.sd) (hb.sd))⟩
theorem dt_val (h : DE X F e te fe) (he : ∀ whole, isTrue e X.env whole = (do let v ← whole; standAt e.pos; holding [v] (truthy v)) := by intro _; rfl) : DT X F e (tB te) (dTest fe) := ⟨pt_val h.pe he, sd_B (h.sd)⟩
theorem dw_and1 (ha : DT X F a tt ft) : DW X F (.BoolOp .And [a] pos) tt ft := ⟨pw_and1 ha.pe, (ha.sd)⟩
theorem dw_or1 (ha : DT X F a tt ft) : DW X F (.BoolOp .Or [a] pos) tt ft := ⟨pw_or1 ha.pe, (ha.sd)⟩
theorem dw_and (ha : DT X F a tt ft) (hb : DW X F (.BoolOp .And (b :: es) pos) tu fu) : DW X F (.BoolOp .And (a :: b :: es) pos) (tAnd tt tu) (dAnd ft fu) := ⟨pw_and ha.pe hb.pe, sd_and (ha.sd) (hb.sd)⟩
theorem dw_or (ha : DT X F a tt ft) (hb : DW X F (.BoolOp .Or (b :: es) pos) tu fu) : DW X F (.BoolOp .Or (a :: b :: es) pos) (tOr tt tu) (dOr ft fu) := ⟨pw_or ha.pe hb.pe, sd_or (ha.sd) (hb.sd)⟩
theorem DW.dt (h : DW X F e tt ft) : DT X F e tt ft := ⟨h.pe.pt, (h.sd)⟩
theorem dt_not (ha : DT X F a tt ft) : DT X F (.UnaryOp .Not a pos) (tNot tt) (dNot ft) := ⟨pt_not ha.pe, sd_not (ha.sd)⟩
theorem de_one {op} (h : DE X F a te fe) : DE X F (.BoolOp op [a] pos) te fe := ⟨pe_one h.pe, (h.sd)⟩
theorem de_and (ha : DE X F a ta fa) (hb : DE X F (.BoolOp .And (b :: es) pos) tb fb) : DE X F (.BoolOp .And (a :: b :: es) pos) (tAndV ta tb) (dAndV fa fb) := ⟨pe_and ha.pe hb.pe, sd_andV (ha.sd) (hb.sd)⟩
theorem de_or (ha : DE X F a ta fa) (hb : DE X F (.BoolOp .Or (b :: es) pos) tb fb) : DE X F (.BoolOp .Or (a :: b :: es) pos) (tOrV ta tb) (dOrV fa fb) := ⟨pe_or ha.pe hb.pe, sd_orV (ha.sd) (hb.sd)⟩
theorem de_not (ha : DE X F a ta fa) : DE X F (.UnaryOp .Not a pos) (tNotV ta) (dNotV fa) := ⟨pe_not ha.pe, sd_notV (ha.sd)⟩
theorem de_ifE (hc : DT X F c tt ft) (ha : DE X F a ta fa) (hb : DE X F b tb fb) : DE X F (.IfExp c a b pos) (tIf tt ta tb) (dIfE ft fa fb) := ⟨pe_ifExp hc.pe ha.pe hb.pe, sd_ifE (hc.sd) (ha.sd) (hb.sd)⟩
theorem de_peek (js : List Nat) (h : DE X F e te fe) : DE X F e te (dPeek js fe) := ⟨h.pe, sd_peek js (h.sd)⟩
theorem dt_peek (js : List Nat) (h : DT X F e tt ft) : DT X F e tt (dPeekT js ft) := ⟨h.pe, sd_peekT js (h.sd)⟩
/-- a built-in function, a built-in type called -/
theorem de_callB {id : String} {r : List V → Hp → VK → Prop} {f : FN} {x : Str} {p : Pos} (hc : CallR X (.builtin id) r) (lo : ∀ hid, LC X.K hid r f) (hm : X.mg x = none) (ha : DA X F (e :: es) tr fr) (hv : bootBuiltins x = some (.builtin id) := by decide +kernel) (hg : Gl X x := by rfl) (hn : x ≠ "__name__" := by decide)
    (hdb : (x == ("__debug__" : Str)) = false := by decide) (he : starEach (e :: es) X.env = (false, eval e X.env) :: starEach es X.env := by rfl) (hpl : (backTo pos (starEach es X.env)).any (·.1) = false := by rfl) : DE X F (.Call (.Name x p) (e :: es) [] pos) (tCB r tr) (dCall f fr) :=
  ⟨pe_callB hc hg hm hv ha.pe hn hdb he hpl, sd_call (lo F.hid) (ha.sd)⟩
theorem de_callTy {T : String} {r : List V → Hp → VK → Prop} {f : FN} {x : Str} {p : Pos} (hc : CallR X (.type T) r) (lo : ∀ hid, LC X.K hid r f) (hm : X.mg x = none) (ha : DA X F (e :: es) tr fr) (hv : bootBuiltins x = some (.type T) := by decide +kernel) (hg : Gl X x := by rfl) (hn : x ≠ "__name__" := by decide)
    (hdb : (x == ("__debug__" : Str)) = false := by decide) (he : starEach (e :: es) X.env = (false, eval e X.env) :: starEach es X.env := by rfl) (hpl : (backTo pos (starEach es X.env)).any (·.1) = false := by rfl) : DE X F (.Call (.Name x p) (e :: es) [] pos) (tCB r tr) (dCall f fr) :=
  ⟨pe_callTy hc hg hm hv ha.pe hn hdb he hpl, sd_call (lo F.hid) (ha.sd)⟩
theorem de_ix {r : R2} {f : F2} (hr : IxR X r) (lo : ∀ hid, LO X.K hid r f) (ha : DE X F a ta fa) (hb : DE X F b tb fb) (hs : PlainIx b := by exact fun _ _ => rfl) : DE X F (.Subscript a b pos) (tOp r ta tb) (dOp f fa fb) := ⟨pe_ix hr ha.pe hb.pe hs, sd_op (lo F.hid) (ha.sd) (hb.sd)⟩

/-! statements -/
variable {st : Stmt} {sts rest : List Stmt} {ts tv : TS} {fs fv : DTS}
theorem dss_nil : DSs X F [] tNext dNext := ⟨pss_nil, sd_next⟩
theorem dss_cons (h1 : DS X F st ts fs) (h2 : DSs X F rest tv fv) : DSs X F (st :: rest) (tSeq ts tv) (dSeq fs fv) := ⟨pss_cons h1.pe h2.pe, sd_seq (h1.sd) (h2.sd)⟩
theorem dss_one (h1 : DS X F st ts fs) : DSs X F [st] ts fs := ⟨pss_one h1.pe, (h1.sd)⟩
theorem dss_frz (js : List Nat) (h : DSs X F sts ts fs) : DSs X F sts ts (dFrz js fs) := ⟨h.pe, sd_frz js (h.sd)⟩
theorem ds_ret (he : DE X F e te fe) : DS X F (.Return (some e) pos) (tRet te) (dRet fe) := ⟨ps_ret he.pe, sd_ret (he.sd)⟩
theorem ds_retN : DS X F (.Return none pos) tRetN dRetN := ⟨ps_retN, sd_retN⟩
theorem ds_retOwn (i : Nat) {x : Str} {p : Pos} (hN : X.N[i]? = some x := by rfl) (hv : Vis X.env.scope x := by first | exact Or.inl rfl | exact Or.inr (Or.inl rfl) | exact Or.inr (Or.inr rfl)) (hd : (x == ("__debug__" : Str)) = false := by decide)
    (hcd : (x == ("__classdict__" : Str)) = false := by decide) : DS X F (.Return (some (.Name x p)) pos) (tRet (tVar i)) (dRetOwn i) := ⟨ps_ret (pe_var hN hv hd hcd), sd_retOwn i⟩
theorem ds_pass : DS X F (.Pass pos) tNext dNext := ⟨ps_pass, sd_next⟩
theorem ds_brk : DS X F (.Break pos) tBreak dBrk := ⟨ps_break, sd_brk⟩
theorem ds_cont : DS X F (.Continue pos) tCont dCt := ⟨ps_continue, sd_cont⟩
theorem ds_expr (he : DE X F e te fe) (hs : swapsWith e none pos.line X.env = pure false := by rfl) : DS X F (.Expr e pos) (tDrop te) (dDrop fe) := ⟨ps_expr he.pe hs, sd_drop (he.sd)⟩
theorem ds_if {as bs : List Stmt} (hc : DT X F c tt ft) (h1 : DSs X F as ts fs) (h2 : DSs X F bs tv fv) : DS X F (.If c as bs pos) (tIfS tt ts tv) (dIf ft fs fv) := ⟨ps_if hc.pe h1.pe h2.pe, sd_if (hc.sd) (h1.sd) (h2.sd)⟩
theorem ds_set (i : Nat) {x : Str} {pos' : Pos} (hN : X.N.Nodup) (he : DE X F e te fe) (hi : X.N[i]? = some x := by rfl) (hx : Loc X.env.scope x := by first | exact Or.inl rfl | exact Or.inr rfl) (hs : swapsWith e (some (.Name x pos')) pos.line X.env = pure false := by rfl) (hf : X.fn x = true ∨ X.env.scope.names.lookup x = some .local := by first | exact .inl rfl | exact .inr rfl) :
    DS X F (.Assign [.Name x pos'] e pos) (tAsg te (gName i)) (dSet fe i) := ⟨ps_set hN hi hx he.pe hs hf, sd_set i (he.sd)⟩
end
end Pu

end

section
/-! Pu5: rules by values. -/
namespace Pu
open PySem L2 PyProof.Rows

/-! ### ints -/
def dII (g : Int → Int → PyData) : F2 := fun s u Q => match s, u with
  | .d (.int i), .d (.int j) => Q (.d (g i j))
  | _, _ => False
def dIC (C : Int → Int → Prop) (g : Int → Int → PyData) : F2 := fun s u Q => match s, u with
  | .d (.int i), .d (.int j) => C i j ∧ Q (.d (g i j))
  | _, _ => False
section
variable {K : PySem.W.Frag} {hid : Hid}
theorem lo_I0 {g : Int → Int → V} {g' : Int → Int → PyData} (hg : ∀ (i j : Int) (Hb : Hp), Dq K Hb (g i j) (g' i j)) : LO K hid (rI0 g) (dII g') := by
  intro Hb H x y s u Q k st rx ry q c
  unfold dII at q
  split at q
  · rename_i i j
    exact ⟨i, j, int_of rx, int_of ry, c _ Hb H (.d (g' i j)) (Step.refl st) (hg i j Hb) trivial q⟩
  · exact q.elim
theorem lo_I {C : Int → Int → Prop} {g : Int → Int → V} {g' : Int → Int → PyData} (hg : ∀ (i j : Int) (Hb : Hp), Dq K Hb (g i j) (g' i j)) : LO K hid (rI C g) (dIC C g') := by
  intro Hb H x y s u Q k st rx ry q c
  unfold dIC at q
  split at q
  · rename_i i j
    exact ⟨i, j, int_of rx, int_of ry, q.1, c _ Hb H (.d (g' i j)) (Step.refl st) (hg i j Hb) trivial q.2⟩
  · exact q.elim
abbrev fAdd : F2 := dII fun i j => .int (i + j)
abbrev fSub : F2 := dII fun i j => .int (i - j)
abbrev fMul : F2 := dIC CMul fun i j => .int (i * j)
abbrev fDiv : F2 := dIC CDiv fun i j => .int (i / j)
abbrev fMod : F2 := dIC (fun _ j => 0 < j) fun i j => .int (i % j)
abbrev fPow : F2 := dIC CPow fun i j => .int (i ^ j.toNat)
abbrev fLt : F2 := dII fun i j => .bool (decide (i < j))
abbrev fLe : F2 := dII fun i j => .bool (decide (i ≤ j))
abbrev fGt : F2 := dII fun i j => .bool (decide (j < i))
abbrev fGe : F2 := dII fun i j => .bool (decide (j ≤ i))
theorem lo_add : LO K hid (rI0 fun i j => .int (i + j)) fAdd := lo_I0 fun _ _ _ => .int _
theorem lo_sub : LO K hid (rI0 fun i j => .int (i - j)) fSub := lo_I0 fun _ _ _ => .int _
theorem lo_mul : LO K hid (rI CMul fun i j => .int (i * j)) fMul := lo_I fun _ _ _ => .int _
theorem lo_div : LO K hid (rI CDiv fun i j => .int (i / j)) fDiv := lo_I fun _ _ _ => .int _
theorem lo_mod : LO K hid (rI (fun _ j => 0 < j) fun i j => .int (i % j)) fMod := lo_I fun _ _ _ => .int _
theorem lo_pow : LO K hid (rI CPow fun i j => .int (i ^ j.toNat)) fPow := lo_I fun _ _ _ => .int _
theorem lo_lt : LO K hid (rI0 fun i j => .bl (decide (i < j))) fLt := lo_I0 fun _ _ _ => .bl _
theorem lo_le : LO K hid (rI0 fun i j => .bl (decide (i ≤ j))) fLe := lo_I0 fun _ _ _ => .bl _
theorem lo_gt : LO K hid (rI0 fun i j => .bl (decide (j < i))) fGt := lo_I0 fun _ _ _ => .bl _
theorem lo_ge : LO K hid (rI0 fun i j => .bl (decide (j ≤ i))) fGe := lo_I0 fun _ _ _ => .bl _
def fNeg : F1 := fun s Q => match s with
  | .d (.int i) => Q (.d (.int (-i)))
  | _ => False
theorem lu_neg : LU K hid (rU fun i => .int (-i)) fNeg := by
  intro Hb H x s Q k st rx q c
  unfold fNeg at q
  split at q
  · rename_i i
    exact ⟨i, int_of rx, c _ Hb H (.d (.int (-i))) (Step.refl st) (Dq.int _) trivial q⟩
  · exact q.elim
end

/-! ### data is read -/
section
variable {X : Cx} {pins : List (Addr × Obj)} {σ : L2.St} {H : Hp} {s : Shared}
theorem Dq.readsP (I : Inv X pins σ H s) {d : PyData} {v : V} (h : Dq X.K H v d) : d.hasDict = false → ∀ u, RelV v u → ∃ as, Reads s.heap u d as := by
  refine Dq.rec (motive_1 := fun v d _ => d.hasDict = false → ∀ u, RelV v u → ∃ as, Reads s.heap u d as) (motive_2 := fun vs ds _ => PyData.hasDictAll ds = false → ∀ us, Vals vs us → ∃ as, ReadsAll s.heap us ds as) ?_ ?_ ?_ ?_ ?_ ?_ ?_ ?_ ?_ h
  · intro _ u r; cases r; exact ⟨_, Reads.none⟩
  · intro b _ u r; cases r; exact ⟨_, Reads.bool b⟩
  · intro i _ u r; obtain ⟨t, rfl⟩ := r; exact ⟨_, Reads.int i t⟩
  · intro x _ u r; obtain ⟨t, rfl⟩ := r; exact ⟨_, Reads.str x t⟩
  · intro a xs ds h1 _ i hd u r
    cases r
    obtain ⟨its, rv, ⟨o, n, ho, hc, _, hdat⟩, _⟩ := I.list (SqL.of h1)
    obtain ⟨as, hr⟩ := i (by simpa [PyData.hasDict] using hd) its rv
    exact ⟨_, Reads.list ho hc hdat hr⟩
  · intro a xs ds h1 _ i hd u r
    cases r
    obtain ⟨its, rv, ⟨o, ho, hc, n, hdat⟩, _⟩ := I.tuple h1
    obtain ⟨as, hr⟩ := i (by simpa [PyData.hasDict] using hd) its rv
    exact ⟨_, Reads.tuple ho hc hdat hr⟩
  · intro a kvs ds h1 h2 _ i hd u r
    simp [PyData.hasDict] at hd
  · intro _ us r; cases r; exact ⟨_, ReadsAll.nil⟩
  · intro v vs d ds _ _ i1 i2 hd us r
    cases r with
    | cons r1 r2 =>
      have hd' : d.hasDict = false ∧ PyData.hasDictAll ds = false := by simpa [PyData.hasDictAll] using hd
      obtain ⟨as, q1⟩ := i1 hd'.1 _ r1
      obtain ⟨bs, q2⟩ := i2 hd'.2 _ r2
      exact ⟨_, ReadsAll.cons q1 q2⟩
end
section
variable {X : Cx}
/-- data that is compared: without dicts, not too deep -/
def okD1 (d : PyData) : Prop := d.hasDict = false ∧ SeqAt.shaped d = true
def rEqQ (K : PySem.W.Frag) : R2 := fun x y H Q => ∃ d e, Dq K H x d ∧ Dq K H y e ∧ okD1 d ∧ okD1 e ∧ Q (.bl (PyData.eqv d e)) H
def rNeQ (K : PySem.W.Frag) : R2 := fun x y H Q => ∃ d e, Dq K H x d ∧ Dq K H y e ∧ okD1 d ∧ okD1 e ∧ Q (.bl (!PyData.eqv d e)) H
theorem op_eqQ (hu : X.A.units + 64 < cLine) : OpR X (compareOp .Eq) (rEqQ X.K) := by
  intro pins s σ H x y v u Q I rx ry h
  obtain ⟨d, e, hd, he, sd, se, q⟩ := h
  obtain ⟨as, r1⟩ := Dq.readsP I hd sd.1 v rx
  obtain ⟨bs, r2⟩ := Dq.readsP I he se.1 u ry
  exact SeqAt.compareEq_shaped r1 r2 sd.2 se.2 hu ⟨.bl _, H, I, rfl, q⟩
theorem op_neQ (hu : X.A.units + 64 < cLine) : OpR X (compareOp .NotEq) (rNeQ X.K) := by
  intro pins s σ H x y v u Q I rx ry h
  obtain ⟨d, e, hd, he, sd, se, q⟩ := h
  obtain ⟨as, r1⟩ := Dq.readsP I hd sd.1 v rx
  obtain ⟨bs, r2⟩ := Dq.readsP I he se.1 u ry
  exact SeqAt.compareNe_shaped r1 r2 sd.2 se.2 hu ⟨.bl _, H, I, rfl, q⟩
def fEq : F2 := fun s u Q => match s, u with
  | .d x, .d y => okD1 x ∧ okD1 y ∧ Q (.d (.bool (PyData.eqv x y)))
  | _, _ => False
def fNe : F2 := fun s u Q => match s, u with
  | .d x, .d y => okD1 x ∧ okD1 y ∧ Q (.d (.bool (!PyData.eqv x y)))
  | _, _ => False
variable {K : PySem.W.Frag} {hid : Hid}
theorem lo_eq : LO K hid (rEqQ K) fEq := by
  intro Hb H x y s u Q k st rx ry q c
  unfold fEq at q
  split at q
  · rename_i d e
    exact ⟨d, e, Dq.mono st.ex rx, Dq.mono st.ex ry, q.1, q.2.1, c _ Hb H (.d (.bool _)) (Step.refl st) (Dq.bl _) trivial q.2.2⟩
  · exact q.elim
theorem lo_ne : LO K hid (rNeQ K) fNe := by
  intro Hb H x y s u Q k st rx ry q c
  unfold fNe at q
  split at q
  · rename_i d e
    exact ⟨d, e, Dq.mono st.ex rx, Dq.mono st.ex ry, q.1, q.2.1, c _ Hb H (.d (.bool _)) (Step.refl st) (Dq.bl _) trivial q.2.2⟩
  · exact q.elim
/-- is None, is not None -/
def isNoneD : PyData → Bool
  | .none => true
  | _ => false
def fIsN : F2 := fun s u Q => match s, u with
  | .d x, .d .none => Q (.d (.bool (isNoneD x)))
  | _, _ => False
def fNotN : F2 := fun s u Q => match s, u with
  | .d x, .d .none => Q (.d (.bool (!isNoneD x)))
  | _, _ => False
theorem dq_non {Hb : Hp} {v : V} {x : PyData} (h : Dq K Hb v x) : decide (v = .non) = isNoneD x := by
  cases h <;> rfl
theorem lo_isN : LO K hid (fun x y H Q => y = .non ∧ Q (.bl (decide (x = .non))) H) fIsN := by
  intro Hb H x y s u Q k st rx ry q c
  unfold fIsN at q
  split at q
  · rename_i d
    cases (show Dq K Hb y .none from ry)
    exact ⟨rfl, c _ Hb H (.d (.bool _)) (Step.refl st) (show Dq K Hb _ _ by rw [dq_non (K := K) rx]; exact Dq.bl _) trivial q⟩
  · exact q.elim
theorem lo_notN : LO K hid (fun x y H Q => y = .non ∧ Q (.bl (!decide (x = .non))) H) fNotN := by
  intro Hb H x y s u Q k st rx ry q c
  unfold fNotN at q
  split at q
  · rename_i d
    cases (show Dq K Hb y .none from ry)
    exact ⟨rfl, c _ Hb H (.d (.bool _)) (Step.refl st) (show Dq K Hb _ _ by rw [dq_non (K := K) rx]; exact Dq.bl _) trivial q⟩
  · exact q.elim
/-- texts in order -/
def fLtS : F2 := fun s u Q => match s, u with
  | .d (.str i), .d (.str j) => Q (.d (.bool (decide (i.cps.toList < j.cps.toList))))
  | _, _ => False
theorem lo_ltS : LO K hid (fun x y H Q => ∃ i j, x = .str i ∧ y = .str j ∧ Q (.bl (decide (i.cps.toList < j.cps.toList))) H) fLtS := by
  intro Hb H x y s u Q k st rx ry q c
  unfold fLtS at q
  split at q
  · rename_i i j
    exact ⟨i, j, str_of rx, str_of ry, c _ Hb H (.d (.bool _)) (Step.refl st) (Dq.bl _) trivial q⟩
  · exact q.elim

/-! ### in -/
def isFl : PyData → Bool
  | .none => true | .bool _ => true | .int _ => true | .str _ => true | _ => false
def fInQ (neg : Bool) : F2 := fun s u Q => match s, u with
  | .d x, .d (.list ys) => flatD x = true ∧ ys.all flatD = true ∧ Q (.d (.bool (if neg then !(ys.any fun y => PyData.eqv y x) else ys.any fun y => PyData.eqv y x)))
  | .d x, .d (.tuple ys) => flatD x = true ∧ ys.all flatD = true ∧ Q (.d (.bool (if neg then !(ys.any fun y => PyData.eqv y x) else ys.any fun y => PyData.eqv y x)))
  | _, _ => False
theorem flat_v {Hb : Hp} {v : V} {x : PyData} (h : Dq K Hb v x) (f : flatD x = true) : flatV v = true := by
  cases h <;> first | rfl | exact absurd f Bool.false_ne_true
theorem eqv_v {Hb Hc : Hp} {v u : V} {x y : PyData} (h : Dq K Hb v x) (g : Dq K Hc u y) (f : flatD x = true) (f' : flatD y = true) : eqV v u = PyData.eqv x y := by
  cases h <;> first | exact absurd f Bool.false_ne_true | (cases g <;> first | exact absurd f' Bool.false_ne_true | (simp only [eqV, PyData.eqv]))
theorem flats_v {Hb : Hp} : ∀ {ys : List PyData} {vs : List V}, DqAll K Hb vs ys → ys.all flatD = true → vs.all flatV = true
  | [], _, .nil, _ => rfl
  | _ :: _, _, .cons h t, f => by
    simp only [List.all_cons, Bool.and_eq_true] at f ⊢
    exact ⟨flat_v h f.1, flats_v t f.2⟩
theorem inV_d {Hb Hc : Hp} {v : V} {x : PyData} (h : Dq K Hb v x) (f : flatD x = true) : ∀ {ys : List PyData} {vs : List V}, DqAll K Hc vs ys → ys.all flatD = true → inV v vs = ys.any fun y => PyData.eqv y x
  | [], _, .nil, _ => rfl
  | y :: ys, _, .cons (v := u) (vs := us) g t, f' => by
    simp only [List.all_cons, Bool.and_eq_true] at f'
    have i := inV_d h f t f'.2
    unfold inV at i ⊢
    rw [List.any_cons, List.any_cons, i, eqv_v g h f'.1 f]
theorem lo_in (neg : Bool) : LO K hid (rIn K neg) (fInQ neg) := by
  intro Hb H x y s u Q k st rx ry q c
  unfold fInQ at q
  split at q
  · rename_i d ys
    cases (show Dq K Hb y (.list ys) from ry) with
    | lst h1 h2 =>
      refine ⟨_, _, rfl, .inl (SqL.of (st.ex _ _ h1)), flat_v rx q.1, flats_v h2 q.2.1, ?_⟩
      rw [inV_d (K := K) rx q.1 h2 q.2.1]
      exact c _ Hb H (.d (.bool _)) (Step.refl st) (Dq.bl _) trivial q.2.2
  · rename_i d ys
    cases (show Dq K Hb y (.tuple ys) from ry) with
    | tup h1 h2 =>
      refine ⟨_, _, rfl, .inr (Same.seqT st.ex h1), flat_v rx q.1, flats_v h2 q.2.1, ?_⟩
      rw [inV_d (K := K) rx q.1 h2 q.2.1]
      exact c _ Hb H (.d (.bool _)) (Step.refl st) (Dq.bl _) trivial q.2.2
  · exact q.elim
end

/-! ### items, slices, lengths -/
section
variable {K : PySem.W.Frag} {hid : Hid}
def fIx : F2 := fun s u Q => match s, u with
  | .d (.list xs), .d (.int i) => ∃ d, atI xs i = some d ∧ Q (.d d)
  | .d (.tuple xs), .d (.int i) => ∃ d, atI xs i = some d ∧ Q (.d d)
  | .d (.str z), .d (.int i) => ∃ c, z.length ≤ sizeLine ∧ atI z.cps.toList i = some c ∧ Q (.d (.str ⟨#[c]⟩))
  | _, _ => False
theorem at_d {Hb : Hp} {ds : List PyData} {vs : List V} {i : Int} {d : PyData} (h : DqAll K Hb vs ds) (e : atI ds i = some d) : ∃ v, atI vs i = some v ∧ Dq K Hb v d := by
  unfold atI at e ⊢
  rw [DqAll.length h]
  cases q : ixN ds.length i with
  | none => rw [q] at e; cases e
  | some j =>
    rw [q] at e
    obtain ⟨v, h1, h2⟩ := DqAll.get' h (show ds[j]? = some d from e)
    exact ⟨v, h1, h2⟩
theorem lo_ix : LO K hid (rIx K) fIx := by
  intro Hb H x y s u Q k st rx ry q c
  unfold fIx at q
  split at q
  · rename_i xs i
    obtain ⟨d, e, q⟩ := q
    cases (show Dq K Hb x (.list xs) from rx) with
    | lst h1 h2 =>
      obtain ⟨v, h3, h4⟩ := at_d h2 e
      exact .inl ⟨_, _, i, v, rfl, int_of ry, SqL.of (st.ex _ _ h1), h3, c v Hb H (.d d) (Step.refl st) h4 trivial q⟩
  · rename_i xs i
    obtain ⟨d, e, q⟩ := q
    cases (show Dq K Hb x (.tuple xs) from rx) with
    | tup h1 h2 =>
      obtain ⟨v, h3, h4⟩ := at_d h2 e
      exact .inr (.inl ⟨_, _, i, v, rfl, int_of ry, Same.seqT st.ex h1, h3, c v Hb H (.d d) (Step.refl st) h4 trivial q⟩)
  · rename_i z i
    obtain ⟨ch, hz, e, q⟩ := q
    exact .inr (.inr ⟨z, i, ch, str_of rx, int_of ry, hz, e, c _ Hb H (.d (.str _)) (Step.refl st) (Dq.str _) trivial q⟩)
  · exact q.elim
def fLen : FN := fun ss Q => match ss with
  | [.d (.list xs)] => Q (.d (.int xs.length))
  | [.d (.tuple xs)] => Q (.d (.int xs.length))
  | [.d (.str z)] => z.length ≤ sizeLine ∧ Q (.d (.int z.length))
  | _ => False
theorem rep1 {Hb H : Hp} {xs : List V} {s : Sl} (r : RepAll K hid Hb H xs [s]) : ∃ v, xs = [v] ∧ RepSl K hid Hb H v s := by
  cases r with
  | cons h _ t => cases t; exact ⟨_, rfl, h⟩
theorem rep2 {Hb H : Hp} {xs : List V} {s u : Sl} (r : RepAll K hid Hb H xs [s, u]) : ∃ v w, xs = [v, w] ∧ RepSl K hid Hb H v s ∧ RepSl K hid Hb H w u := by
  cases r with
  | cons h _ t => obtain ⟨w, e, h2⟩ := rep1 t; subst e; exact ⟨_, _, rfl, h, h2⟩
theorem lc_len : LC K hid (fun xs H Q => ∃ x n, xs = [x] ∧ LenV K x H n ∧ Q (.int n) H) fLen := by
  intro Hb H xs ss Q k st r q c
  unfold fLen at q
  split at q
  · rename_i ys
    obtain ⟨v, rfl, h⟩ := rep1 r
    cases (show Dq K Hb v (.list ys) from h) with
    | lst h1 h2 => exact ⟨_, _, rfl, .inl ⟨_, SqL.of (st.ex _ _ h1), DqAll.length h2 ▸ rfl⟩, c _ Hb H (.d (.int _)) (Step.refl st) (Dq.int _) trivial q⟩
  · rename_i ys
    obtain ⟨v, rfl, h⟩ := rep1 r
    cases (show Dq K Hb v (.tuple ys) from h) with
    | tup h1 h2 => exact ⟨_, _, rfl, .inr ⟨_, Same.seqT st.ex h1, DqAll.length h2 ▸ rfl⟩, c _ Hb H (.d (.int _)) (Step.refl st) (Dq.int _) trivial q⟩
  · rename_i z
    obtain ⟨v, rfl, h⟩ := rep1 r
    rw [str_of h]
    exact ⟨_, _, rfl, ⟨q.1, rfl⟩, c _ Hb H (.d (.int _)) (Step.refl st) (Dq.int _) trivial q.2⟩
  · exact q.elim
/-- int(n) -/
def fInt : FN := fun ss Q => match ss with
  | [.d (.int i)] => Q (.d (.int i))
  | _ => False
theorem lc_int : LC K hid (fun xs H Q => (∃ i, xs = [.int i] ∧ Q (.int i) H) ∨ ∃ k, xs = [.bl k] ∧ Q (.int (if k then 1 else 0)) H) fInt := by
  intro Hb H xs ss Q k st r q c
  unfold fInt at q
  split at q
  · rename_i i
    obtain ⟨v, rfl, h⟩ := rep1 r
    exact .inl ⟨i, by rw [int_of h], c _ Hb H (.d (.int _)) (Step.refl st) (Dq.int _) trivial q⟩
  · exact q.elim
def fAbs : FN := fun ss Q => match ss with
  | [.d (.int i)] => Q (.d (.int (if i < 0 then -i else i)))
  | _ => False
theorem lc_abs : LC K hid (fun xs H Q => ∃ i, xs = [.int i] ∧ Q (.int (if i < 0 then -i else i)) H) fAbs := by
  intro Hb H xs ss Q k st r q c
  unfold fAbs at q
  split at q
  · rename_i i
    obtain ⟨v, rfl, h⟩ := rep1 r
    exact ⟨i, by rw [int_of h], c _ Hb H (.d (.int _)) (Step.refl st) (Dq.int _) trivial q⟩
  · exact q.elim
def fMax2 : FN := fun ss Q => match ss with
  | [.d (.int i), .d (.int j)] => Q (.d (.int (if j > i then j else i)))
  | _ => False
theorem lc_max2 : LC K hid (fun xs H Q => ∃ i j, xs = [.int i, .int j] ∧ Q (.int (if j > i then j else i)) H) fMax2 := by
  intro Hb H xs ss Q k st r q c
  unfold fMax2 at q
  split at q
  · rename_i i j
    obtain ⟨v, w, rfl, h1, h2⟩ := rep2 r
    exact ⟨i, j, by rw [int_of h1, int_of h2], c _ Hb H (.d (.int _)) (Step.refl st) (Dq.int _) trivial q⟩
  · exact q.elim
def fMin2 : FN := fun ss Q => match ss with
  | [.d (.int i), .d (.int j)] => Q (.d (.int (if j < i then j else i)))
  | _ => False
theorem lc_min2 : LC K hid (fun xs H Q => ∃ i j, xs = [.int i, .int j] ∧ Q (.int (if j < i then j else i)) H) fMin2 := by
  intro Hb H xs ss Q k st r q c
  unfold fMin2 at q
  split at q
  · rename_i i j
    obtain ⟨v, w, rfl, h1, h2⟩ := rep2 r
    exact ⟨i, j, by rw [int_of h1, int_of h2], c _ Hb H (.d (.int _)) (Step.refl st) (Dq.int _) trivial q⟩
  · exact q.elim
/-- list(xs), tuple(xs): new ones -/
def fListOf : FN := fun ss Q => match ss with
  | [.d (.list xs)] => Q (.own xs)
  | [.d (.tuple xs)] => Q (.own xs)
  | _ => False
theorem lc_list : LC K hid (fun xs H Q => ∃ p ys, xs = [.ref p] ∧ (SqL K H p ys ∨ SqT K H p ys) ∧ ∀ l, H l = none → Q (.ref l) (upd H l (.lst ys))) fListOf := by
  intro Hb H xs ss Q k st r q c
  unfold fListOf at q
  split at q
  · rename_i ys
    obtain ⟨v, rfl, h⟩ := rep1 r
    cases (show Dq K Hb v (.list ys) from h) with
    | lst h1 h2 =>
      refine ⟨_, _, rfl, .inl (SqL.of (st.ex _ _ h1)), fun l hl => ?_⟩
      obtain ⟨s2, r2, f2⟩ := own_new (K := K) st hl h2
      exact c _ Hb _ (.own ys) s2 r2 f2 q
  · rename_i ys
    obtain ⟨v, rfl, h⟩ := rep1 r
    cases (show Dq K Hb v (.tuple ys) from h) with
    | tup h1 h2 =>
      refine ⟨_, _, rfl, .inr (Same.seqT st.ex h1), fun l hl => ?_⟩
      obtain ⟨s2, r2, f2⟩ := own_new (K := K) st hl h2
      exact c _ Hb _ (.own ys) s2 r2 f2 q
  · exact q.elim
def fTupOf : FN := fun ss Q => match ss with
  | [.d (.list xs)] => Q (.d (.tuple xs))
  | [.d (.tuple xs)] => Q (.d (.tuple xs))
  | _ => False
theorem lc_tuple : LC K hid (fun xs H Q => ∃ p ys, xs = [.ref p] ∧ ((SqL K H p ys ∧ ∀ l, H l = none → Q (.ref l) (upd H l (.tup ys))) ∨ (SqT K H p ys ∧ Q (.ref p) H))) fTupOf := by
  intro Hb H xs ss Q k st r q c
  unfold fTupOf at q
  split at q
  · rename_i ys
    obtain ⟨v, rfl, h⟩ := rep1 r
    cases (show Dq K Hb v (.list ys) from h) with
    | lst h1 h2 =>
      refine ⟨_, _, rfl, .inl ⟨SqL.of (st.ex _ _ h1), fun l hl => ?_⟩⟩
      obtain ⟨s2, r2⟩ := tup_new (K := K) st hl h2
      exact c _ _ _ (.d (.tuple ys)) s2 r2 trivial q
  · rename_i ys
    obtain ⟨v, rfl, h⟩ := rep1 r
    cases (show Dq K Hb v (.tuple ys) from h) with
    | tup h1 h2 => exact ⟨_, _, rfl, .inr ⟨Same.seqT st.ex h1, c _ Hb H (.d (.tuple ys)) (Step.refl st) (Dq.tup h1 h2) trivial q⟩⟩
  · exact q.elim
/-- xs + ys -/
def fCat : F2 := fun s u Q => match s, u with
  | .d (.list xs), .d (.list ys) => xs.length + ys.length ≤ sizeLine ∧ Q (.own (xs ++ ys))
  | _, _ => False
theorem lo_cat : LO K hid rCat fCat := by
  intro Hb H x y s u Q k st rx ry q c
  unfold fCat at q
  split at q
  · rename_i xs ys
    cases (show Dq K Hb x (.list xs) from rx) with
    | lst h1 h2 =>
      cases (show Dq K Hb y (.list ys) from ry) with
      | lst g1 g2 =>
        refine ⟨_, _, _, _, rfl, rfl, st.ex _ _ h1, st.ex _ _ g1, by rw [DqAll.length h2, DqAll.length g2]; exact q.1, fun p hp => ?_⟩
        obtain ⟨s2, r2, f2⟩ := own_new (K := K) st hp (DqAll.append h2 g2)
        exact c _ Hb _ (.own _) s2 r2 f2 q.2
  · exact q.elim
def fCatT : F2 := fun s u Q => match s, u with
  | .d (.tuple xs), .d (.tuple ys) => xs.length + ys.length ≤ sizeLine ∧ Q (.d (.tuple (xs ++ ys)))
  | _, _ => False
theorem lo_catT : LO K hid (rCatA K) fCatT := by
  intro Hb H x y s u Q k st rx ry q c
  unfold fCatT at q
  split at q
  · rename_i xs ys
    cases (show Dq K Hb x (.tuple xs) from rx) with
    | tup h1 h2 =>
      cases (show Dq K Hb y (.tuple ys) from ry) with
      | tup g1 g2 =>
        refine ⟨_, _, _, _, rfl, rfl, Same.seqT st.ex h1, Same.seqT st.ex g1, by rw [DqAll.length h2, DqAll.length g2]; exact q.1, fun e => ?_, fun _ e => ?_, fun _ _ p hp => ?_⟩
        · subst e
          cases h2
          exact c _ Hb H (.d (.tuple _)) (Step.refl st) (Dq.tup g1 g2) trivial q.2
        · subst e
          cases g2
          refine c _ Hb H (.d (.tuple _)) (Step.refl st) (Dq.tup h1 h2) trivial ?_
          have := q.2
          rw [List.append_nil] at this
          exact this
        · obtain ⟨s2, r2⟩ := tup_new (K := K) st hp (DqAll.append h2 g2)
          exact c _ _ _ (.d (.tuple _)) s2 r2 trivial q.2
  · exact q.elim
/-- xs * k -/
def fRep : F2 := fun s u Q => match s, u with
  | .d (.list xs), .d (.int k) => -(2 ^ 63) ≤ k ∧ k < 2 ^ 63 ∧ xs.length * k.toNat ≤ sizeLine ∧ Q (.own (List.replicate k.toNat xs).flatten)
  | _, _ => False
theorem DqAll.rep {Hb : Hp} {ds : List PyData} {vs : List V} (h : DqAll K Hb vs ds) : ∀ k : Nat, DqAll K Hb (List.replicate k vs).flatten (List.replicate k ds).flatten
  | 0 => .nil
  | k + 1 => by
    rw [List.replicate_succ, List.replicate_succ, List.flatten_cons, List.flatten_cons]
    exact DqAll.append h (DqAll.rep h k)
theorem lo_rep : LO K hid rRep fRep := by
  intro Hb H x y s u Q k st rx ry q c
  unfold fRep at q
  split at q
  · rename_i xs j
    cases (show Dq K Hb x (.list xs) from rx) with
    | lst h1 h2 =>
      refine ⟨_, j, _, rfl, int_of ry, st.ex _ _ h1, q.1, q.2.1, by rw [DqAll.length h2]; exact q.2.2.1, fun p hp => ?_⟩
      obtain ⟨s2, r2, f2⟩ := own_new (K := K) st hp (DqAll.rep h2 _)
      exact c _ Hb _ (.own _) s2 r2 f2 q.2.2.2
  · exact q.elim
def fCatS : F2 := fun s u Q => match s, u with
  | .d (.str i), .d (.str j) => i.length + j.length ≤ sizeLine ∧ Q (.d (.str (i ++ j)))
  | _, _ => False
theorem lo_catS : LO K hid (fun x y H Q => ∃ i j, x = .str i ∧ y = .str j ∧ i.length + j.length ≤ sizeLine ∧ Q (.str (i ++ j)) H) fCatS := by
  intro Hb H x y s u Q k st rx ry q c
  unfold fCatS at q
  split at q
  · rename_i i j
    exact ⟨i, j, str_of rx, str_of ry, q.1, c _ Hb H (.d (.str _)) (Step.refl st) (Dq.str _) trivial q.2⟩
  · exact q.elim
end
end Pu

end

section
/-! Pu6: slices, what is walked, loops and comprehensions as terms, repr, sorted, isinstance. -/
namespace Pu
open PySem L2 PyProof.Rows RZ

/-! ### slices -/
abbrev DTO := EV → (Option Int → Prop) → Prop
def dNoPart : DTO := fun _ Q => Q none
def dPart (f : DTE) : DTO := fun env Q => f env fun s => ∃ i, s.fz = .d (.int i) ∧ Q (some i)
abbrev FS := Sl → Option Int → Option Int → DK → Prop
def dSl (f : FS) (fe : DTE) (fl fh : DTO) : DTE := fun env Q => fe env fun s => fl env fun l => fh env fun h => f s.fz l h Q
section
variable (K : PySem.W.Frag) (F : Fr) (hid : Hid)
def SdO (to : TO) (t : DTO) : Prop := ∀ (Hb H : Hp) (σ : L2.St) (env : EV) (Q : Option Int → Prop) (k : Option Int → Hp → Prop), Rep K F Hb H σ env → t env Q →
  (∀ o Hb' H', Step F.hid Hb H Hb' H' → Q o → k o H') → to σ H k
def LS (r : V → Option Int → Option Int → Hp → VK → Prop) (f : FS) : Prop := ∀ (Hb H : Hp) (x : V) (s : Sl) (lo hi : Option Int) (Q : DK) (k : VK), St0 hid Hb H → RepSl K hid Hb H x s → f s lo hi Q →
  (∀ v Hb' H' s', Step hid Hb H Hb' H' → RepSl K hid Hb' H' v s' → FrSl H v s' → Q s' → k v H') → r x lo hi H k
end
structure DO (X : Cx) (F : Fr) (e : Option Expr) (to : TO) (t : DTO) : Prop where
  pe : PO X e to
  sd : SdO X.K F to t
section
variable {K : PySem.W.Frag} {F : Fr} {hid : Hid} {te : TE} {fe : DTE} {tl th : TO} {fl fh : DTO}
theorem so_none : SdO K F tNoPart dNoPart := fun Hb H σ env Q k r q c => c none Hb H (Step.refl r.st) q
theorem so_some (h : SdE K F te fe) : SdO K F (tPart te) (dPart fe) := by
  intro Hb H σ env Q k r q c
  refine h.go (Q := fun s => ∃ i, s = .d (.int i) ∧ Q (some i)) r q fun x Hb1 H1 s st1 rs1 _ q1 => ?_
  obtain ⟨i, e, q1⟩ := q1
  subst e
  exact ⟨i, int_of rs1, c _ Hb1 H1 st1 q1⟩
theorem sd_slice {r : V → Option Int → Option Int → Hp → VK → Prop} {f : FS} (ls : LS K F.hid r f) (he : SdE K F te fe) (hl : SdO K F tl fl) (hh : SdO K F th fh) : SdE K F (tSl r te tl th) (dSl f fe fl fh) := by
  intro Hb H σ env Q k rp q c
  refine he.go (Q := fun s => fl env fun l => fh env fun h => f s l h Q) rp q fun x Hb1 H1 s st1 rs1 _ q1 => ?_
  refine hl Hb1 H1 σ env _ _ (rp.on st1) q1 fun l Hb2 H2 st2 q2 => ?_
  refine hh Hb2 H2 σ env _ _ (rp.on (st1.trans st2)) q2 fun h Hb3 H3 st3 q3 => ?_
  have all := (st1.trans st2).trans st3
  exact ls Hb3 H3 x s l h Q k st3.st (rs1.step (st2.trans st3)) q3 fun v Hb' H' s' st4 r4 f4 q4 => c v Hb' H' s' (all.trans st4) r4 (FrSl.back all f4) q4
def cutD (xs : List PyData) (lo hi : Option Int) : List PyData := (xs.drop (HT.sIx xs.length 0 lo)).take (HT.sIx xs.length xs.length hi - HT.sIx xs.length 0 lo)
theorem cut_all {Hb : Hp} {vs : List V} {xs : List PyData} (h : DqAll K Hb vs xs) (lo hi : Option Int) : DqAll K Hb (cutV vs lo hi) (cutD xs lo hi) := by
  unfold cutV cutD
  rw [DqAll.length h]
  exact DqAll.take _ (DqAll.drop _ h)
def fSlL : FS := fun s lo hi Q => match s with
  | .d (.list xs) => Q (.own (cutD xs lo hi))
  | _ => False
def fSlT : FS := fun s lo hi Q => match s with
  | .d (.tuple xs) => Q (.d (.tuple (cutD xs lo hi)))
  | _ => False
def fSlS : FS := fun s lo hi Q => match s with
  | .d (.str z) => z.length ≤ sizeLine ∧ Q (.d (.str (cutS z lo hi)))
  | _ => False
theorem ls_list : LS K hid (rSlL K) fSlL := by
  intro Hb H x s lo hi Q k st rx q c
  unfold fSlL at q
  split at q
  · rename_i xs
    cases (show Dq K Hb x (.list xs) from rx) with
    | lst h1 h2 =>
      refine ⟨_, _, rfl, SqL.of (st.ex _ _ h1), fun p hp => ?_⟩
      obtain ⟨s2, r2, f2⟩ := own_new (K := K) st hp (cut_all h2 lo hi)
      exact c _ Hb _ (.own _) s2 r2 f2 q
  · exact q.elim
theorem cut_whole {α : Type} {xs : List α} {lo hi : Option Int} (h : HT.sIx xs.length 0 lo = 0 ∧ HT.sIx xs.length xs.length hi = xs.length) : (xs.drop (HT.sIx xs.length 0 lo)).take (HT.sIx xs.length xs.length hi - HT.sIx xs.length 0 lo) = xs := by
  rw [h.1, h.2]
  simp
theorem ls_tup : LS K hid (rSlA K) fSlT := by
  intro Hb H x s lo hi Q k st rx q c
  unfold fSlT at q
  split at q
  · rename_i xs
    cases (show Dq K Hb x (.tuple xs) from rx) with
    | tup h1 h2 =>
      refine ⟨_, _, rfl, Same.seqT st.ex h1, fun hw => ?_, fun _ p hp => ?_⟩
      · rw [DqAll.length h2] at hw
        refine c _ Hb H (.d (.tuple (cutD xs lo hi))) (Step.refl st) ?_ trivial q
        unfold cutD
        rw [cut_whole hw]
        exact Dq.tup h1 h2
      · obtain ⟨s2, r2⟩ := tup_new (K := K) st hp (cut_all h2 lo hi)
        exact c _ _ _ (.d (.tuple _)) s2 r2 trivial q
  · exact q.elim
theorem ls_str : LS K hid rSlS fSlS := by
  intro Hb H x s lo hi Q k st rx q c
  unfold fSlS at q
  split at q
  · rename_i z
    exact ⟨z, str_of rx, q.1, c _ Hb H (.d (.str _)) (Step.refl st) (Dq.str _) trivial q.2⟩
  · exact q.elim
end

/-! ### zip, enumerate -/
section
variable {K : PySem.W.Frag} {F : Fr} {hid : Hid} {tr : TA} {fr : DTA} {a b : Addr} {xs ys : List V}
theorem walk_zipT {n : Nat} (hn : n = min xs.length ys.length) : Walk (ItzT K a b) n (fun H => SqT K H a xs ∧ SqT K H b ys) (YPair (fun i => xs[i]?) (fun i => ys[i]?)) := by
  subst hn
  refine ⟨fun i _ hi q => ?_, fun _ q => ⟨xs, ys, q.1, q.2, by omega⟩, fun i H v H' _ q y => ?_⟩
  · have h1 : i < xs.length := by omega
    have h2 : i < ys.length := by omega
    exact ⟨xs, ys, xs[i], ys[i], q.1, q.2, by simp [h1], by simp [h2]⟩
  · obtain ⟨T, x, z, h1, h2, h3, h4, h5⟩ := y
    exact ⟨T, x, z, h1, h2, h3, h4 xs q.1, h5 ys q.2⟩
theorem gives_zip {Hb : Hp} {J : It} {vs us : List V} {ds es : List PyData} {G : Hp → Prop} (w : Walk J (min vs.length us.length) G (YPair (fun i => vs[i]?) (fun i => us[i]?))) (hG : ∀ H, Same Hb H → G H) (h : DqAll K Hb vs ds) (h' : DqAll K Hb us es) : Gives K hid Hb J (zipD ds es) := by
  refine ⟨G, _, by rw [zipD_length, ← DqAll.length h, ← DqAll.length h']; exact w, hG, fun i Hb' H x H' hi st ex y => ?_⟩
  obtain ⟨T, p, q, e1, e2, e3, e4, e5⟩ := y
  obtain ⟨d, d1, d2⟩ := DqAll.get h e4
  obtain ⟨e, g1, g2⟩ := DqAll.get h' e5
  subst e1 e3
  obtain ⟨s2, r2⟩ := pair_new (K := K) (Hb := Hb') st e2 (Dq.mono ex d2) (Dq.mono ex g2)
  exact ⟨_, _, zipD_get i ds es d e d1 g1, s2, r2⟩
def dZip (f : DTA) : DTI := fun env Q => f env fun ss => (∃ xs ys, ss = [.d (.list xs), .d (.list ys)] ∧ Q (zipD xs ys)) ∨ (∃ xs ys, ss = [.d (.tuple xs), .d (.tuple ys)] ∧ Q (zipD xs ys))
theorem si_zip (h : SdA K F tr fr) : SdI K F (iZipA K tr) (dZip fr) := by
  intro Hb H σ env Q R rp q c
  refine h Hb H σ env _ _ rp q fun vs Hb1 H1 ss st1 rs1 q1 => ?_
  rcases q1 with ⟨xs, ys, e, q1⟩ | ⟨xs, ys, e, q1⟩
  · subst e
    obtain ⟨v, w, rfl, h1, h2⟩ := rep2 rs1
    cases (show Dq K Hb1 v (.list xs) from h1) with
    | lst a1 a2 =>
      cases (show Dq K Hb1 w (.list ys) from h2) with
      | lst b1 b2 => exact ⟨_, _, _, _, rfl, .inl ⟨SqL.of (st1.st.ex _ _ a1), SqL.of (st1.st.ex _ _ b1), c _ Hb1 H1 _ st1 (gives_zip (walk_zip rfl) (fun H' s => ⟨SqL.of (s _ _ a1), SqL.of (s _ _ b1)⟩) a2 b2) q1⟩⟩
  · subst e
    obtain ⟨v, w, rfl, h1, h2⟩ := rep2 rs1
    cases (show Dq K Hb1 v (.tuple xs) from h1) with
    | tup a1 a2 =>
      cases (show Dq K Hb1 w (.tuple ys) from h2) with
      | tup b1 b2 => exact ⟨_, _, _, _, rfl, .inr ⟨Same.seqT st1.st.ex a1, Same.seqT st1.st.ex b1, c _ Hb1 H1 _ st1 (gives_zip (walk_zipT rfl) (fun H' s => ⟨Same.seqT s a1, Same.seqT s b1⟩) a2 b2) q1⟩⟩
def dEnum (f : DTA) : DTI := fun env Q => f env fun ss => ∃ xs, ss = [.d (.list xs)] ∧ Q (enumD 0 xs)
theorem si_enum (h : SdA K F tr fr) : SdI K F (iEnum K tr) (dEnum fr) := by
  intro Hb H σ env Q R rp q c
  refine h Hb H σ env _ _ rp q fun vs Hb1 H1 ss st1 rs1 q1 => ?_
  obtain ⟨xs, e, q1⟩ := q1
  subst e
  obtain ⟨v, rfl, h1⟩ := rep1 rs1
  cases (show Dq K Hb1 v (.list xs) from h1) with
  | @lst a vs _ a1 a2 =>
    refine ⟨_, _, rfl, SqL.of (st1.st.ex _ _ a1), c _ Hb1 H1 _ st1 ⟨fun H => SqL K H a vs, _, by rw [enumD_length, ← DqAll.length a2]; exact walk_enum, fun H' s => SqL.of (s _ _ a1), fun i Hb' H x H' hi st ex y => ?_⟩ q1⟩
    obtain ⟨T, p, q, e1, e2, e3, e4, e5⟩ := y
    obtain ⟨d, d1, d2⟩ := DqAll.get a2 e5
    cases e4
    subst e1 e3
    obtain ⟨s2, r2⟩ := pair_new (K := K) (Hb := Hb') st e2 (Dq.int (i : Nat)) (Dq.mono ex d2)
    refine ⟨_, _, ?_, s2, r2⟩
    have := enumD_get 0 i xs d d1
    rw [Nat.zero_add] at this
    exact this
end

/-! ### terms -/
structure DG (X : Cx) (F : Fr) (js : List Nat) (tg : Expr) (g : TG) (t : DTG) : Prop where
  pe : PG X tg g
  sd : SdG X.K F js g t
structure DGs (X : Cx) (F : Fr) (js : List Nat) (tg : List Expr) (g : TGs) (t : DTGs) : Prop where
  pe : PGs X tg g
  sd : SdGs X.K F js g t
structure DP (X : Cx) (F : Fr) (es : List Expr) (te : TT) (t : DTT) : Prop where
  pe : PTs X es te
  sd : SdT X.K F te t
def dYes : DTT := fun _ Q => Q true
section
variable {X : Cx} {F : Fr} {js : List Nat} {e tg iter elt c : Expr} {es : List Expr} {te : TE} {fe : DTE} {tr : TA} {fr : DTA} {wi : TI} {fi : DTI} {g : TG} {fg : DTG} {gs : TGs} {fgs : DTGs} {tt : TT} {ft : DTT} {ts : TS} {fs : DTS} {p pos : Pos}
theorem do_none : DO X F none tNoPart dNoPart := ⟨po_none, so_none⟩
theorem do_some (h : DE X F e te fe) : DO X F (some e) (tPart te) (dPart fe) := ⟨po_some h.pe, so_some (h.sd)⟩
theorem de_slice {r : V → Option Int → Option Int → Hp → VK → Prop} {f : FS} {lo hi : Option Expr} {tl th : TO} {fl fh : DTO} {p2 : Pos} (hr : SlR X r) (ls : ∀ hid, LS X.K hid r f) (he : DE X F e te fe) (hl : DO X F lo tl fl) (hh : DO X F hi th fh) :
    DE X F (.Subscript e (.Slice lo hi none p2) pos) (tSl r te tl th) (dSl f fe fl fh) := ⟨pe_slice hr he.pe hl.pe hh.pe, sd_slice (ls F.hid) (he.sd) (hl.sd) (hh.sd)⟩
theorem di_list (h : DE X F e te fe) : DI X F tg e (iList X.K te) (dList fe) := ⟨pi_list h.pe, si_list (h.sd)⟩
theorem di_tup (h : DE X F e te fe) : DI X F tg e (iTup X.K te) (dTup fe) := ⟨pi_tup h.pe, si_tup (h.sd)⟩
theorem di_str (h : DE X F e te fe) : DI X F tg e (iStr te) (dStrI fe) := ⟨pi_str h.pe, si_str (h.sd)⟩
theorem di_rng1 {a : Expr} (hm : X.mg "range" = none) (ha : DA X F [a] tr fr) (hg : Gl X "range" := by rfl) (hs : starEach [a] X.env = [(false, eval a X.env)] := by rfl) : DI X F tg (.Call (.Name "range" p) [a] [] pos) (iRng1 tr) (dRng1 fr) := ⟨pi_range1 hg hm ha.pe hs, si_rng1 (ha.sd)⟩
theorem di_rng2 {a b : Expr} (hm : X.mg "range" = none) (ha : DA X F [a, b] tr fr) (hg : Gl X "range" := by rfl) (hs : starEach [a, b] X.env = [(false, eval a X.env), (false, eval b X.env)] := by rfl) (hs2 : starEach [b] X.env = [(false, eval b X.env)] := by rfl) : DI X F tg (.Call (.Name "range" p) [a, b] [] pos) (iRng2 tr) (dRng2 fr) := ⟨pi_range2 hg hm ha.pe hs hs2, si_rng2 (ha.sd)⟩
theorem di_zip {a b : Expr} {elts : List Expr} {kk : Nat} {tpos : Pos} (hm : X.mg "zip" = none) (ha : DA X F [a, b] tr fr) (hg : Gl X "zip" := by rfl) (hs : starEach [a, b] X.env = (false, eval a X.env) :: starEach [b] X.env := by rfl) (hpl : (backTo pos (starEach [b] X.env)).any (·.1) = false := by rfl) :
    DI X F (.Tuple elts kk tpos) (.Call (.Name "zip" p) [a, b] [] pos) (iZipA X.K tr) (dZip fr) := ⟨pi_zipA hg hm ha.pe hs hpl, si_zip (ha.sd)⟩
theorem di_enum {a : Expr} {elts : List Expr} {kk : Nat} {tpos : Pos} (hm : X.mg "enumerate" = none) (ha : DA X F [a] tr fr) (hg : Gl X "enumerate" := by rfl) (hs : starEach [a] X.env = [(false, eval a X.env)] := by rfl) :
    DI X F (.Tuple elts kk tpos) (.Call (.Name "enumerate" p) [a] [] pos) (iEnum X.K tr) (dEnum fr) := ⟨pi_enum hg hm ha.pe hs, si_enum (ha.sd)⟩
theorem dg_name (i : Nat) (hj : i ∈ js) {x : Str} (hN : X.N.Nodup) (hi : X.N[i]? = some x := by rfl) (hx : Loc X.env.scope x := by first | exact Or.inl rfl | exact Or.inr rfl) (hf : X.fn x = true ∨ X.env.scope.names.lookup x = some .local := by first | exact .inl rfl | exact .inr rfl) : DG X F js (.Name x pos) (gName i) (dgName i) := ⟨pg_name hN hi hx hf, sg_name i hj⟩
theorem dgs_nil : DGs X F js [] gNil dgNil := ⟨pgs_nil, sg_nil⟩
theorem dgs_cons (h1 : DG X F js e g fg) (h2 : DGs X F js es gs fgs) (hs : (assignEach (e :: es) X.env).map (·.2) = assign e X.env :: (assignEach es X.env).map (·.2) := by rfl) : DGs X F js (e :: es) (gCons g gs) (dgCons fg fgs) := ⟨pgs_cons h1.pe h2.pe hs, sg_cons (h1.sd) (h2.sd)⟩
theorem dg_tup {k n : Nat} (hc : X.calm = true) (h : DGs X F js es gs fgs) (hn : (assignEach es X.env).length = n := by rfl) (hst : (assignEach es X.env).findIdx? (·.1) = none := by rfl) : DG X F js (.Tuple es k pos) (gTup X.K n gs) (dgTup n fgs) := ⟨pg_tup hc h.pe hn hst, sg_tup (h.sd)⟩
theorem dp_nil : DP X F [] tYes dYes := ⟨pts_nil, fun Hb H σ env Q k r q c => c true Hb H (Step.refl r.st) q⟩
theorem dp_one (h : DT X F c tt ft) : DP X F [c] tt ft := ⟨pts_one h.pe, (h.sd)⟩
theorem ds_for {body : List Stmt} (hi : DI X F tg iter wi fi) (hg : DG X F js tg g fg) (hb : DSs X F body ts fs) (hp : PassesOwn (model X.prog X.w) X.A X.env X.xe := by exact PassesOwn.never) (hc : X.calm = true := by rfl) (hs : ∀ x, foldedSetIterable iter X.env x = pure x := by intro _; rfl) :
    DS X F (.For tg iter body [] pos) (tFor wi g ts) (dFor fi fg fs) := ⟨ps_for hp hc hi.pe hg.pe hb.pe hs, sd_for (hi.sd) (hg.sd) (hb.sd)⟩
/-- a, b = e -/
def dAsgG (t : DTE) (g : DTG) : DTS := fun E env => t env fun s => g s.fz env E.nx
theorem sd_asgG {K : PySem.W.Frag} (he : SdE K F te fe) (hg : SdG K F js g fg) : SdS K F (tAsg te g) (dAsgG fe fg) := by
  intro Hb H σ env D E r q l
  refine he.go (Q := fun s => fg s env E.nx) r q fun v Hb1 H1 s st1 rs1 e1 q1 => ?_
  exact hg Hb1 H1 σ env v s E.nx _ (r.on st1) rs1 e1 q1 fun σ' env' _ r' q' => l.nx Hb1 H1 σ' env' st1.ex r' q'
theorem ds_asg (he : DE X F e te fe) (hg : DG X F js tg g fg) (hs : swapsWithSole [tg] e pos.line X.env = pure false := by rfl) (hw : swappedStores [tg] e X.env = pure none := by rfl) (h1 : (assignEach [tg] X.env).map (·.2) = [assign tg X.env] := by rfl) : DS X F (.Assign [tg] e pos) (tAsg te g) (dAsgG fe fg) :=
  ⟨ps_asg he.pe hg.pe hs hw h1, sd_asgG (he.sd) (hg.sd)⟩
/-- x.append(e), x a list of one's own -/
theorem ds_app (i : Nat) {x : Str} {px apos cpos : Pos} (he : DE X F e te fe) (hN : X.N[i]? = some x := by rfl) (hv : Vis X.env.scope x := by first | exact Or.inl rfl | exact Or.inr (Or.inl rfl) | exact Or.inr (Or.inr rfl)) (hd : (x == ("__debug__" : Str)) = false := by decide)
    (hcd : (x == ("__classdict__" : Str)) = false := by decide) (h : PE X (.Call (.Attribute (.Name x px) "append" apos) [e] [] cpos) (tBM X.K "list" rAppend (tVar i) (tCons te tNil))) (hs : swapsWith (.Call (.Attribute (.Name x px) "append" apos) [e] [] cpos) none pos.line X.env = pure false := by rfl) :
    DS X F (.Expr (.Call (.Attribute (.Name x px) "append" apos) [e] [] cpos) pos) (tDrop (tBM X.K "list" rAppend (tVar i) (tCons te tNil))) (dApp i fe) := ⟨ps_expr h hs, sd_app i (he.sd)⟩
theorem de_lc {ifs : List Expr} {scope : Scope} {own : List (Str × Nat)} (hN : X.N.Nodup) (hi : DI X F tg iter wi fi) (ok : BlkOk X.N X.env.scope scope own)
    (hg : ∀ (s : Shared) (H : Hp) (C : Addr) (cl : List (Str × Addr)) (fp : List Addr), DG (X.blk s H scope (compEnvC scope cl C X.env) fp) F (own.map (·.2)) tg g fg) (ht : ∀ (s : Shared) (H : Hp) (C : Addr) (cl : List (Str × Addr)) (fp : List Addr), DP (X.blk s H scope (compEnvC scope cl C X.env) fp) F ifs tt ft)
    (he : ∀ (s : Shared) (H : Hp) (C : Addr) (cl : List (Str × Addr)) (fp : List Addr), DE (X.blk s H scope (compEnvC scope cl C X.env) fp) F elt te fe) (hc : X.calm = true := by rfl) (hs : ∀ x, foldedSetIterable iter X.env x = pure x := by intro _; rfl) :
    DE X F (.ListComp elt [⟨tg, iter, ifs, 0⟩] scope pos) (tLc wi g tt te (own.map (·.2))) (dLc fi fg ft fe (own.map (·.2))) :=
  ⟨pe_lc hc hN hi.pe ok (fun s H C cl fp => (hg s H C cl fp).pe) (fun s H C cl fp => (ht s H C cl fp).pe) (fun s H C cl fp => (he s H C cl fp).pe) hs,
    sd_lc (hi.sd) ((hg {} (fun _ => none) 0 [] []).sd) ((ht {} (fun _ => none) 0 [] []).sd) ((he {} (fun _ => none) 0 [] []).sd)⟩
/-- x = [..] on one line -/
theorem ds_setLc (i : Nat) {y : Str} {py : Pos} {spos : Pos} {ifs : List Expr} {scope : Scope} {own : List (Str × Nat)} (hN : X.N.Nodup) (hi : DI X F tg iter wi fi) (ok : BlkOk X.N X.env.scope scope own)
    (hg : ∀ (s : Shared) (H : Hp) (C : Addr) (cl : List (Str × Addr)) (fp : List Addr), DG (X.blk s H scope (compEnvC scope cl C X.env) fp) F (own.map (·.2)) tg g fg) (ht : ∀ (s : Shared) (H : Hp) (C : Addr) (cl : List (Str × Addr)) (fp : List Addr), DP (X.blk s H scope (compEnvC scope cl C X.env) fp) F ifs tt ft)
    (he : ∀ (s : Shared) (H : Hp) (C : Addr) (cl : List (Str × Addr)) (fp : List Addr), DE (X.blk s H scope (compEnvC scope cl C X.env) fp) F elt te fe) (hsw : swapsWith (.ListComp elt [⟨tg, iter, ifs, 0⟩] scope pos) (some (.Name y py)) spos.line X.env = pure true) (hc : X.calm = true := by rfl) (hs : ∀ x, foldedSetIterable iter X.env x = pure x := by intro _; rfl)
    (hy : X.N[i]? = some y := by rfl) (hyl : X.env.scope.names.lookup y = some .local := by rfl) :
    DS X F (.Assign [.Name y py] (.ListComp elt [⟨tg, iter, ifs, 0⟩] scope pos) spos) (tAsg (tLc wi g tt te (own.map (·.2))) (gName i)) (dSet (dLc fi fg ft fe (own.map (·.2))) i) :=
  ⟨ps_setLc hc hN hy hyl hsw hi.pe ok (fun s H C cl fp => (hg s H C cl fp).pe) (fun s H C cl fp => (ht s H C cl fp).pe) (fun s H C cl fp => (he s H C cl fp).pe) hs,
    sd_set i (sd_lc (hi.sd) ((hg {} (fun _ => none) 0 [] []).sd) ((ht {} (fun _ => none) 0 [] []).sd) ((he {} (fun _ => none) 0 [] []).sd))⟩
end

/-! ### repr -/
def okR (d : PyData) : Prop := d.hasDict = false ∧ d.showable = true ∧ d.shown.length ≤ sizeLine ∧ d.depth ≤ 60
section
variable {X : Cx} {K : PySem.W.Frag} {hid : Hid}
def isSeq : PyData → Bool
  | .list _ => true | .tuple _ => true | _ => false
def rReprQ (K : PySem.W.Frag) : List V → Hp → VK → Prop := fun xs H Q => ∃ v d, xs = [v] ∧ Dq K H v d ∧ okR d ∧ isSeq d = true ∧ Q (.str d.shown) H
theorem call_reprQ (hu : X.A.units + 64 < cLine) (hgd : X.A.guards = some []) : CallR X (.builtin "repr") (rReprQ X.K) := by
  intro pins s σ H xs us Q I r h
  obtain ⟨v, d, rfl, hd, ⟨h1, h2, h3, h4⟩, hs, q⟩ := h
  obtain ⟨u, rfl, rv⟩ := vals1 r
  obtain ⟨as, rd⟩ := Dq.readsP I hd h1 u rv
  have ⟨a, e⟩ : ∃ a, u = .ref a := by
    cases hd <;> first | exact absurd hs Bool.false_ne_true | exact ⟨_, rv⟩
  subst e
  refine repr_of_reads' rd h2 (PyData.noDict_hsm h1) hgd (by omega) (fun _ _ e => e) (fun h' u' tk hk => ?_) h3
  exact ⟨.str d.shown, H, I.kept hk, ⟨u', rfl⟩, q⟩
def fRepr : FN := fun ss Q => match ss with
  | [.d x] => okR x ∧ isSeq x = true ∧ Q (.d (.str x.shown))
  | _ => False
theorem lc_repr : LC K hid (rReprQ K) fRepr := by
  intro Hb H xs ss Q k st r q c
  unfold fRepr at q
  split at q
  · rename_i x
    obtain ⟨v, rfl, h⟩ := rep1 r
    exact ⟨v, x, rfl, Dq.mono st.ex h, q.1, q.2.1, c _ Hb H (.d (.str _)) (Step.refl st) (Dq.str _) trivial q.2.2⟩
  · exact q.elim
/-! ### sorted texts -/
def strsD : List PyData → Option (List Str)
  | [] => some []
  | .str x :: ds => (strsD ds).map (x :: ·)
  | _ :: _ => none
theorem strs_rep {Hb : Hp} : ∀ {ds : List PyData} {vs : List V} {xs : List Str}, DqAll K Hb vs ds → strsD ds = some xs → vs = xs.map V.str
  | [], _, _, .nil, e => by cases e; rfl
  | .str x :: ds, _, xs, .cons h t, e => by
    unfold strsD at e
    cases q : strsD ds with
    | none => rw [q] at e; cases e
    | some ys =>
      rw [q] at e
      cases e
      cases h
      rw [strs_rep t q]
      rfl
  | .none :: _, _, _, _, e => by cases e
  | .bool _ :: _, _, _, _, e => by cases e
  | .int _ :: _, _, _, _, e => by cases e
  | .list _ :: _, _, _, _, e => by cases e
  | .tuple _ :: _, _, _, _, e => by cases e
  | .dict _ :: _, _, _, _, e => by cases e
theorem strs_all {Hb : Hp} : ∀ xs : List Str, DqAll K Hb (xs.map V.str) (xs.map PyData.str)
  | [] => .nil
  | x :: xs => .cons (.str x) (strs_all xs)
def fSortedS : FN := fun ss Q => match ss with
  | [.d (.list ds)] => ∃ xs, strsD ds = some xs ∧ xs.length < 64 ∧ ∀ ys : List Str, ys.Perm xs → sortedS ys = true → Q (.own (ys.map PyData.str))
  | _ => False
theorem lc_sortedS : LC K hid (rSortedS K) fSortedS := by
  intro Hb H xs ss Q k st r q c
  unfold fSortedS at q
  split at q
  · rename_i ds
    obtain ⟨zs, e, h64, q⟩ := q
    obtain ⟨v, rfl, h⟩ := rep1 r
    cases (show Dq K Hb v (.list ds) from h) with
    | lst h1 h2 =>
      have ev := strs_rep h2 e
      subst ev
      refine ⟨_, zs, rfl, SqL.of (st.ex _ _ h1), h64, fun ys p hp hs hn => ?_⟩
      obtain ⟨s2, r2, f2⟩ := own_new (K := K) st hn (strs_all (K := K) (Hb := Hb) ys)
      exact c _ Hb _ (.own _) s2 r2 f2 (q ys hp hs)
  · exact q.elim
end
end Pu

end

section
/-! Pu7: defs bundled, the law's own def. -/
namespace Pu
open PySem L2 PyProof.Rows RZ

/-- a def of the text as it stands: its object, its name, its promise -/
structure At (K : PySem.W.Frag) (mg : Str → Option Value) (x : Str) (st : Stmt) (ps : List Str) : Prop where
  ex : ∃ f fd, Fun K x x st f fd ∧ mg x = some (.ref f) ∧ Binds K fd ps []
structure Fn (P : Program) (w : World) (K : PySem.W.Frag) (mg : Str → Option Value) (base : Heap) (x : Str) (k : Nat) (ps : List Str) (sp : Sp) : Prop where
  ex : ∃ f fd, mg x = some (.ref f) ∧ PySem.W.keepIn K (.ref f) = true ∧ Binds K fd ps [] ∧ FnG P w K mg base CX0 k f fd ps sp
section
variable {P : Program} {w : World} {K : PySem.W.Frag} {mg : Str → Option Value} {base : Heap}
theorem Fn.mk' {x : Str} {st : Stmt} {ps : List Str} {k : Nat} {sp : Sp} (A : At K mg x st ps) (h : ∀ f fd, Fun K x x st f fd → FnG P w K mg base CX0 k f fd ps sp) : Fn P w K mg base x k ps sp := by
  obtain ⟨f, fd, F, hm, hb⟩ := A.ex
  exact ⟨f, fd, hm, F.kp, hb, h f fd F⟩
theorem fnD {x : Str} {st : Stmt} {N ps : List Str} {k : Nat} {m : FN} (A : At K mg x st ps) (S : FnScope N ps (defScope st))
    (body : ∀ (G : Fr) (f : Addr) (cdv : Value) (A : Around) (outer : List Env) (s : Shared) (H : Hp) (E : XK), RoomG k (A.deeper (envOfC x (defScope st) s.heap.objs.size f cdv)) → ∀ (ss : List Sl) (R : DK), ss.length = ps.length → m ss R →
      ∃ ts t, DSs (cxOf CX0 P w K mg base N x (defScope st) f cdv A outer s H E).nox G (defBody st) ts t ∧ t { nx := fun _ => R (.d .none), rt := R } (startE N ss)) :
    Fn P w K mg base x (k + 1) ps (spX K ps.length m) :=
  .mk' A fun f fd F => okD F S (fun G cdv A outer s H E hr => body G f cdv A outer s H E hr)
end
section
variable {X : Cx} {F : Fr} {k n : Nat} {ps : List Str} {m : FN} {x : Str} {p pos : Pos} {e : Expr} {es : List Expr} {ta : TA} {fa : DTA}
theorem de_fn (G : Fn X.prog X.w X.K X.mg X.base x k ps (spX X.K n m)) (hr : RoomG k X.A) (ha : DA X F (e :: es) ta fa)
    (hg : Gl X x := by rfl) (hdb : (x == ("__debug__" : Str)) = false := by decide) (he : starEach (e :: es) X.env = (false, eval e X.env) :: starEach es X.env := by rfl) (hpl : (backTo pos (starEach es X.env)).any (·.1) = false := by rfl) :
    DE X F (.Call (.Name x p) (e :: es) [] pos) (tFn (spX X.K n m) ta) (dFn n m fa) := by
  obtain ⟨f, fd, hm, hk, hb, J⟩ := G.ex
  exact de_call J hr hm hk hb ha hg hdb he hpl
theorem de_fn0 (G : Fn X.prog X.w X.K X.mg X.base x k ps (spX X.K n m)) (hr : RoomG k X.A)
    (hg : Gl X x := by rfl) (hdb : (x == ("__debug__" : Str)) = false := by decide) :
    DE X F (.Call (.Name x p) [] [] pos) (tFn (spX X.K n m) tNil) (dFn n m fun _ Q => Q []) := by
  obtain ⟨f, fd, hm, hk, hb, J⟩ := G.ex
  exact de_call0 J hr hm hk hb hg hdb
end
/-! ### the law's def -/
def spSource (K : PySem.W.Frag) : Sp := fun vs H Q _ => ∃ (a : Addr) (ns : List Int), vs = [.ref a] ∧ SqL K H a (ns.map V.int) ∧ ns.length ≤ 100 ∧ ∀ H' p c, Same H H' → H p = none → H c = none → SrcAt H' p c → Q (.ref p) H'
def spLaw (K : PySem.W.Frag) : Sp := fun vs H Q _ => ∃ (a : Addr) (ns : List Int), vs = [.ref a] ∧ SqL K H a (ns.map V.int) ∧ ns.length ≤ 63 ∧ ∀ H', Q (.bl true) H'
section
variable {P : Program} {w : World} {K : PySem.W.Frag} {mg : Str → Option Value} {base : Heap}
theorem okLaw {st : Stmt} {f : Addr} {fd : FuncData} {N : List Str} {k : Nat} {rest : List Stmt} {px p1 p2 p3 pos : Pos} (F : Fun K "law" "law" st f fd) (S : FnScope ("script" :: "source" :: N) ["script"] (defScope st))
    (hb : defBody st = .Assign [.Name "source" px] (.Call (.Name "_law_source" p1) [.Name "script" p2] [] p3) pos :: rest) (G : Fn P w K mg base "_law_source" 1 ["script"] (spSource K))
    (body : ∀ (cdv : Value) (A : Around) (outer : List Env) (s : Shared) (H : Hp) (E : XK), RoomG (k + 1) (A.deeper (envOfC "law" (defScope st) s.heap.objs.size f cdv)) →
      ∃ ts t, (∀ G : Fr, DSs (cxOf CX0 P w K mg base ("script" :: "source" :: N) "law" (defScope st) f cdv A outer s H E).nox G rest ts t) ∧ t { nx := fun _ => False, rt := fun s => s = .d (.bool true) } (none :: some .src :: List.replicate N.length none))
    (first : ∀ (cdv : Value) (A : Around) (outer : List Env) (s : Shared) (H : Hp) (E : XK), RoomG (k + 1) (A.deeper (envOfC "law" (defScope st) s.heap.objs.size f cdv)) →
      PS (cxOf CX0 P w K mg base ("script" :: "source" :: N) "law" (defScope st) f cdv A outer s H E).nox (.Assign [.Name "source" px] (.Call (.Name "_law_source" p1) [.Name "script" p2] [] p3) pos) (tAsg (tFn (spSource K) (tCons (tVar 0) tNil)) (gName 1))) :
    FnG P w K mg base CX0 (k + 2) f fd ["script"] (spLaw K) := by
  refine goes_of0 F S (fun vs H Q E h => ?_) (fun cdv A outer s H vs Q E hr hsp => ?_)
  · obtain ⟨a, ns, rfl, _⟩ := h
    rfl
  · obtain ⟨a, ns, rfl, hS, hlen, q⟩ := hsp
    rw [hb]
    obtain ⟨ts, t, B0, h⟩ := body cdv A outer s H E hr
    refine ⟨_, pss_cons (first cdv A outer s H E hr) (B0 ⟨none, fun _ => none, fun _ => none, fun _ => none⟩).pe, ?_⟩
    refine ⟨_, rfl, a, ns, rfl, hS, by omega, fun H' p c sm hp hc src => ?_⟩
    have st0 : St0 (some (p, c)) (fun _ => none) H' := ⟨fun b o e => (by cases e), src, fun _ _ => rfl⟩
    have B := (B0 ⟨some (p, c), fun _ => none, H', fun _ => none⟩).sd (fun _ => none) H' (some (.ref a) :: some (.ref p) :: List.replicate N.length none) (none :: some .src :: List.replicate N.length none)
      { nx := fun _ H' => Q .non H', rt := Q } { nx := fun _ => False, rt := fun s => s = .d (.bool true) }
    refine B ⟨Step.refl st0, Same.refl _, by simp, fun i s e => ?_, fun i j t1 t2 p hij e _ o1 _ _ => ?_⟩ h ⟨fun _ _ _ _ _ _ z => z.elim, fun _ _ _ _ _ _ z => z.elim, fun _ _ _ _ _ _ z => z.elim, fun v Hb' H2 s' _ _ rs _ e => ?_⟩
    · match i with
      | 0 => cases e
      | 1 => cases e; exact ⟨.ref p, rfl, ⟨p, c, rfl, rfl⟩, trivial⟩
      | i + 2 =>
        have e' : (List.replicate N.length (none : Option Sl))[i]? = some (some s) := e
        rw [List.getElem?_replicate] at e'
        split at e' <;> cases e'
    · match i with
      | 0 => cases e
      | 1 => cases e; exact o1.elim
      | i + 2 =>
        have e' : (List.replicate N.length (none : Option Sl))[i]? = some (some t1) := e
        rw [List.getElem?_replicate] at e'
        split at e' <;> cases e'
    · subst e
      have e2 := bool_of rs rfl
      subst e2
      exact q H2
end
end Pu
namespace Pu
open PySem L2 PyProof.Rows RZ
section
variable {X : Cx} {F : Fr} {tg iter elt : Expr} {te : TE} {fe : DTE} {wi : TI} {fi : DTI} {g : TG} {fg : DTG} {tt : TT} {ft : DTT} {pos : Pos}
theorem ds_setLcF (i : Nat) {y : Str} {py : Pos} {spos : Pos} {ifs : List Expr} {scope : Scope} {own : List (Str × Nat)} (hN : X.N.Nodup) (hi : DI X F tg iter wi fi) (ok : BlkOk X.N X.env.scope scope own)
    (hg : ∀ (s : Shared) (H : Hp) (C : Addr) (cl : List (Str × Addr)) (fp : List Addr), DG (X.blk s H scope (compEnvC scope cl C X.env) fp) F (own.map (·.2)) tg g fg) (ht : ∀ (s : Shared) (H : Hp) (C : Addr) (cl : List (Str × Addr)) (fp : List Addr), DP (X.blk s H scope (compEnvC scope cl C X.env) fp) F ifs tt ft)
    (he : ∀ (s : Shared) (H : Hp) (C : Addr) (cl : List (Str × Addr)) (fp : List Addr), DE (X.blk s H scope (compEnvC scope cl C X.env) fp) F elt te fe) (hsw : swapsWith (.ListComp elt [⟨tg, iter, ifs, 0⟩] scope pos) (some (.Name y py)) spos.line X.env = pure true) (hc : X.calm = true := by rfl) (hs : ∀ x, foldedSetIterable iter X.env x = pure x := by intro _; rfl)
    (hy : X.N[i]? = some y := by rfl) (hyl : X.env.scope.names.lookup y = some .local := by rfl) :
    DS X F (.Assign [.Name y py] (.ListComp elt [⟨tg, iter, ifs, 0⟩] scope pos) spos) (tAsg (tLc wi g tt te (own.map (·.2))) (gName i)) (dSet (fun env Q => dLc fi fg ft fe (own.map (·.2)) env fun s => Q s.fz) i) :=
  ⟨ps_setLc hc hN hy hyl hsw hi.pe ok (fun s H C cl fp => (hg s H C cl fp).pe) (fun s H C cl fp => (ht s H C cl fp).pe) (fun s H C cl fp => (he s H C cl fp).pe) hs,
    sd_set i (sd_lc (hi.sd) ((hg {} (fun _ => none) 0 [] []).sd) ((ht {} (fun _ => none) 0 [] []).sd) ((he {} (fun _ => none) 0 [] []).sd)).fz⟩
end
end Pu
/-! The rules that name the written part, with it by name. -/
namespace Pu
open PySem L2 PyProof.Rows RZ
section
variable {X : Cx} {F : Fr} {K : PySem.W.Frag}
theorem k_eq (e : X.K = K) (hu : X.A.units + 64 < cLine) : OpR X (compareOp .Eq) (rEqQ K) := e ▸ op_eqQ hu
theorem k_ne (e : X.K = K) (hu : X.A.units + 64 < cLine) : OpR X (compareOp .NotEq) (rNeQ K) := e ▸ op_neQ hu
theorem k_in (e : X.K = K) : OpR X (compareOp .In) (rIn K false) := e ▸ op_in_seq
theorem k_notIn (e : X.K = K) : OpR X (compareOp .NotIn) (rIn K true) := e ▸ op_notIn_seq
theorem k_ix (e : X.K = K) : IxR X (rIx K) := e ▸ ix_seq
theorem k_slL (e : X.K = K) : SlR X (rSlL K) := e ▸ sl_list
theorem k_slT (e : X.K = K) : SlR X (rSlA K) := e ▸ sl_tupA
theorem k_catT (e : X.K = K) : OpR X (binaryOp .Add) (rCatA K) := e ▸ op_catA
theorem k_len (e : X.K = K) : CallR X (.builtin "len") (fun xs H Q => ∃ x n, xs = [x] ∧ LenV K x H n ∧ Q (.int n) H) := e ▸ call_len
theorem k_list (e : X.K = K) : CallR X (.type "list") (fun xs H Q => ∃ p ys, xs = [.ref p] ∧ (SqL K H p ys ∨ SqT K H p ys) ∧ ∀ l, H l = none → Q (.ref l) (upd H l (.lst ys))) := e ▸ call_list_of
theorem k_tuple (e : X.K = K) : CallR X (.type "tuple") (fun xs H Q => ∃ p ys, xs = [.ref p] ∧ ((SqL K H p ys ∧ ∀ l, H l = none → Q (.ref l) (upd H l (.tup ys))) ∨ (SqT K H p ys ∧ Q (.ref p) H))) := e ▸ call_tuple_of
theorem k_repr (e : X.K = K) (hu : X.A.units + 64 < cLine) (hgd : X.A.guards = some []) : CallR X (.builtin "repr") (rReprQ K) := e ▸ call_reprQ hu hgd
theorem k_sortedS (e : X.K = K) : CallR X (.builtin "sorted") (rSortedS K) := e ▸ cr_sortedS
variable {tg e : Expr} {te : TE} {fe : DTE} {tr : TA} {fr : DTA} {es : List Expr} {js : List Nat} {gs : TGs} {fgs : DTGs} {p pos : Pos}
theorem ki_list (q : X.K = K) (h : DE X F e te fe) : DI X F tg e (iList K te) (dList fe) := q ▸ di_list h
theorem ki_tup (q : X.K = K) (h : DE X F e te fe) : DI X F tg e (iTup K te) (dTup fe) := q ▸ di_tup h
theorem ki_zip (q : X.K = K) {a b : Expr} {elts : List Expr} {kk : Nat} {tpos : Pos} (hm : X.mg "zip" = none) (ha : DA X F [a, b] tr fr) (hg : Gl X "zip" := by rfl) (hs : starEach [a, b] X.env = (false, eval a X.env) :: starEach [b] X.env := by rfl) (hpl : (backTo pos (starEach [b] X.env)).any (·.1) = false := by rfl) :
    DI X F (.Tuple elts kk tpos) (.Call (.Name "zip" p) [a, b] [] pos) (iZipA K tr) (dZip fr) := q ▸ di_zip hm ha hg hs hpl
theorem ki_enum (q : X.K = K) {a : Expr} {elts : List Expr} {kk : Nat} {tpos : Pos} (hm : X.mg "enumerate" = none) (ha : DA X F [a] tr fr) (hg : Gl X "enumerate" := by rfl) (hs : starEach [a] X.env = [(false, eval a X.env)] := by rfl) :
    DI X F (.Tuple elts kk tpos) (.Call (.Name "enumerate" p) [a] [] pos) (iEnum K tr) (dEnum fr) := q ▸ di_enum hm ha hg hs
theorem kg_tup (q : X.K = K) {k n : Nat} (hc : X.calm = true) (h : DGs X F js es gs fgs) (hn : (assignEach es X.env).length = n := by rfl) (hst : (assignEach es X.env).findIdx? (·.1) = none := by rfl) : DG X F js (.Tuple es k pos) (gTup K n gs) (dgTup n fgs) := q ▸ dg_tup hc h hn hst
theorem k_fn (q : X.K = K) {k n : Nat} {ps : List Str} {m : FN} {x : Str} {ta : TA} {fa : DTA} (G : Fn X.prog X.w K X.mg X.base x k ps (spX K n m)) (hr : RoomG k X.A) (ha : DA X F (e :: es) ta fa)
    (hg : Gl X x := by rfl) (hdb : (x == ("__debug__" : Str)) = false := by decide) (he : starEach (e :: es) X.env = (false, eval e X.env) :: starEach es X.env := by rfl) (hpl : (backTo pos (starEach es X.env)).any (·.1) = false := by rfl) :
    DE X F (.Call (.Name x p) (e :: es) [] pos) (tFn (spX K n m) ta) (dFn n m fa) := by
  subst q
  exact de_fn G hr ha hg hdb he hpl
theorem k_fn0 (q : X.K = K) {k n : Nat} {ps : List Str} {m : FN} {x : Str} (G : Fn X.prog X.w K X.mg X.base x k ps (spX K n m)) (hr : RoomG k X.A)
    (hg : Gl X x := by rfl) (hdb : (x == ("__debug__" : Str)) = false := by decide) :
    DE X F (.Call (.Name x p) [] [] pos) (tFn (spX K n m) tNil) (dFn n m fun _ Q => Q []) := by
  subst q
  exact de_fn0 G hr hg hdb
end
end Pu

end

section
/-! PuT: sets of texts, whose order nobody knows. -/
namespace Pu
open PySem L2 PySem.Spec PyProof.Rows

section
variable {P : Program} {w : World} {κ : Type} [DecidableEq κ] (kd : PySem.KeyKind P w κ)
/-- no two rows hold the same key -/
def Apart (l : List (Int × Value)) : Prop := l.Pairwise fun x y => ∀ k, kd.is k x.2 = true → kd.is k y.2 = true → False
structure SG0 (o : Obj) (es : Array (Int × Value)) (ep : Nat) (t : SetTable) (S : κ → Bool) (n : Nat) : Prop where
  ex : o.ExactSet
  da : o.data = .set es ep t
  el : ElemsOf kd es.toList
  ap : Apart kd es.toList
  me : ∀ k, S k = true ↔ ∃ e ∈ es.toList, kd.is k e.2 = true
  lt : es.size < scanBound
  fi : t.fits es.size = true
  sz : es.size = n
  ri : Ris t.place.toList
  le : w.params.followText "set-order" = true ∨ t.led = true
/-- at a stands a set with the members S, n of them -/
def SG (h : Heap) (a : Addr) (S : κ → Bool) (n : Nat) : Prop := ∃ o es ep t, h.get? a = some o ∧ SG0 kd o es ep t S n
end
section
variable {P : Program} {w : World} {κ : Type} [DecidableEq κ] {kd : PySem.KeyKind P w κ} {h h' : Heap} {a : Addr} {S S' : κ → Bool} {n : Nat}
theorem SG.at (R : SG kd h a S n) (k : ∀ o, h.get? a = some o → h'.get? a = some o) : SG kd h' a S n := let ⟨o, es, ep, t, ho, r⟩ := R; ⟨o, es, ep, t, k o ho, r⟩
theorem SG.congr (R : SG kd h a S n) (e : ∀ k, S' k = S k) : SG kd h a S' n := (funext e : S' = S) ▸ R
theorem SG.setOf (R : SG kd h a S n) : h.SetOf kd a S n := let ⟨o, es, ep, t, ho, r⟩ := R; ⟨o, es, ep, t, ho, r.ex, r.da, r.el, r.me, r.lt, r.fi, r.sz⟩
theorem apart_perm {l l' : List (Int × Value)} (p : l'.Perm l) (q : Apart kd l) : Apart kd l' :=
  (p.pairwise_iff (R := fun x y : Int × Value => ∀ k, kd.is k x.2 = true → kd.is k y.2 = true → False) fun h k i j => h k j i).mpr q
theorem mem_perm {l l' : List (Int × Value)} (p : l'.Perm l) (k : κ) : (∃ e ∈ l', kd.is k e.2 = true) ↔ ∃ e ∈ l, kd.is k e.2 = true :=
  ⟨fun ⟨e, i, j⟩ => ⟨e, p.mem_iff.mp i, j⟩, fun ⟨e, i, j⟩ => ⟨e, p.mem_iff.mpr i, j⟩⟩
end

/-! ### a member put in -/
section
variable {P : Program} {w : World} {κ : Type} [DecidableEq κ] {kd : PySem.KeyKind P w κ} {A : Around} {E : Value → Shared → Prop} {s : Shared} {a : Addr} {S S' : κ → Bool} {n : Nat}
theorem sg_tail {g : Bool → Sem Unit} (hg : ∀ (b : Bool) (s₁ : Shared) (Q' : Unit → Shared → Prop), Q' () s₁ → wpAny (model P w) A (g b) Q' E s₁)
    {o : Obj} {es es1 : Array (Int × Value)} {ep : Nat} {t t2 : SetTable} (ho : s.heap.get? a = some o) (hex : o.ExactSet) (hd : o.data = .set es ep t)
    (g1 : ElemsOf kd es1.toList) (ap : Apart kd es1.toList) (me : ∀ k, S' k = true ↔ ∃ e ∈ es1.toList, kd.is k e.2 = true) (lt : es1.size < scanBound) (fi : t2.fits es1.size = true) (ri : Ris t2.place.toList)
    (le : w.params.followText "set-order" = true ∨ t2.led = true) {dum : Bool} {R : Option Bool → Shared → Prop}
    (hR : ∀ h', Heap.SameBut a s.heap h' → SG kd h' a S' es1.size → R (some true) { s with heap := h' }) :
    wpAny (model P w) A (do
        storeSet a es1 t2
        if (!dum && t2.tooFull) = true then do
            g (relayAll t2 es1 (SetTable.grown es1.size)).2.2
            storeSet a (relayAll t2 es1 (SetTable.grown es1.size)).1 (relayAll t2 es1 (SetTable.grown es1.size)).2.1
            pure (some true)
          else pure (some true)) R E s := by
  refine wpAny_bind (wpAny_storeSet_of ho hd ?_ (fits_of_scanBound lt))
  have at1 := store_at (es' := es1) (t' := t2) ho hd
  have but1 := Heap.SameBut.update s.heap a (Obj.putSet es1 t2)
  split
  · have p1 := relayAll_perm t2 es1 (SetTable.grown es1.size)
    have p2 := relayAll_fits t2 es1 (SetTable.grown es1.size)
    have p3 := relayAll_ris t2 es1 (SetTable.grown es1.size)
    have p4 := relayAll_led t2 es1 (SetTable.grown es1.size)
    generalize relayAll t2 es1 (SetTable.grown es1.size) = Z at p1 p2 p3 p4 ⊢
    obtain ⟨es2, t3, gv⟩ := Z
    dsimp only at p1 p2 p3 p4 ⊢
    have z2 : es2.size = es1.size := by rw [← Array.length_toList, p1.length_eq, Array.length_toList]
    refine wpAny_bind (hg _ _ _ ?_)
    refine wpAny_bind (wpAny_storeSet_of at1 rfl ?_ (fits_of_scanBound (z2 ▸ lt)))
    have at2 := store_at (es' := es2) (t' := t3) at1 rfl
    exact wpAny_pure (hR _ (but1.trans (Heap.SameBut.update _ a _)) ⟨_, es2, _, t3, at2, hex, rfl, g1.perm p1, apart_perm p1 ap, fun k => (me k).trans (mem_perm p1 k).symm, z2 ▸ lt, p2, z2, p3, le.imp id fun q => p4 ▸ q⟩)
  · exact wpAny_pure (hR _ but1 ⟨_, es1, _, t2, at1, hex, rfl, g1, ap, me, lt, fi, rfl, ri, le⟩)
theorem sg_put {k : κ} {v : Value} {Q : Bool → Shared → Prop} (kv : kd.is k v = true) (sc : v.scannable = true) (R : SG kd s.heap a S n) (room : n + 1 < scanBound)
    (hQ : ∀ h', Heap.SameBut a s.heap h' → SG kd h' a (fun j => S j || decide (j = k)) (if S k = true then n else n + 1) → Q (!S k) { s with heap := h' }) :
    wpAny (model P w) A (setAddHashed a v (kd.hash k)) Q E s := by
  obtain ⟨o, es, ep, t, ho, r⟩ := R
  unfold setAddHashed setAddHashedIn
  refine wpAny_holding (wpAny_bind (wpAny_setState_of ho r.da r.fi ?_))
  dsimp only
  rw [byScan_of sc r.lt r.el]
  simp only [↓reduceIte]
  unfold setAddByScan
  refine wpAny_bind (wpAny_bind (wpAny_rule (wpAny_bind (wpAny_setScan_of kv ho r.da r.fi r.el ?_))))
  cases fnd : List.findIdx? (fun e => kd.is k e.2) es.toList with
  | some j =>
    dsimp only
    obtain ⟨hj, pj, _⟩ := List.findIdx?_eq_some_iff_getElem.mp fnd
    have inS : S k = true := (r.me k).2 ⟨es.toList[j], List.getElem_mem hj, pj⟩
    have q := hQ s.heap (Heap.SameBut.refl a s.heap) ⟨o, es, ep, t, ho, r.ex, r.da, r.el, r.ap, fun i => by
      rw [Bool.or_eq_true, decide_eq_true_eq, ← r.me i]
      exact ⟨fun z => z.elim id (fun e => e ▸ inS), .inl⟩, r.lt, r.fi, (by rw [if_pos inS]; exact r.sz), r.ri, r.le⟩
    rw [inS] at q
    exact wpAny_pure (wpAny_pure q)
  | none =>
    dsimp only
    have away : ∀ e ∈ es.toList, kd.is k e.2 = true → False := fun e he z => by
      have c := List.findIdx?_eq_none_iff.mp fnd e he
      rw [z] at c; cases c
    have notS : S k = false := by
      cases q : S k with
      | false => rfl
      | true =>
        obtain ⟨e, he, z⟩ := (r.me k).1 q
        exact (away e he z).elim
    have told : ∀ (b : Bool) {s₁ : Shared} {Q' : Unit → Shared → Prop}, Q' () s₁ → wpAny (model P w) A (match b with | true => rule "set.scan.the-table-gave-way" | false => pure ()) Q' E s₁ :=
      fun b s₁ Q' q => by cases b <;> first | exact wpAny_pure q | exact wpAny_rule q
    have p1 := layNew_perm t es (kd.hash k) v
    have p2 := layNew_fits t es (kd.hash k) v
    have p3 := layNew_ris t es (kd.hash k) v r.ri
    have p4 := layNew_led t es (kd.hash k) v
    generalize layNew t es (kd.hash k) v = Z at p1 p2 p3 p4 ⊢
    obtain ⟨es1, t1, dum, gv⟩ := Z
    dsimp only at p1 p2 p3 p4 ⊢
    rw [Array.toList_push] at p1
    have pc : es1.toList.Perm ((kd.hash k, v) :: es.toList) := p1.trans (List.perm_append_singleton _ _)
    have e1 : ElemsOf kd es1.toList := fun e he => by
      rcases List.mem_cons.mp (pc.mem_iff.mp he) with z | z
      · rw [z]; exact ⟨⟨k, kv, rfl⟩, sc⟩
      · exact r.el e z
    have a1 : Apart kd es1.toList := apart_perm pc (List.pairwise_cons.mpr ⟨fun e he j i1 i2 => by
      have ej : j = k := kd.inj v j k i1 kv
      rw [ej] at i2
      exact away e he i2, r.ap⟩)
    have m1 : ∀ i, (S i || decide (i = k)) = true ↔ ∃ e ∈ es1.toList, kd.is i e.2 = true := fun i => by
      rw [Bool.or_eq_true, decide_eq_true_eq, r.me i, mem_perm pc i]
      constructor
      · rintro (⟨e, i1, i2⟩ | e)
        · exact ⟨e, List.mem_cons_of_mem _ i1, i2⟩
        · exact ⟨_, List.mem_cons_self, e ▸ kv⟩
      · rintro ⟨e, i1, i2⟩
        rcases List.mem_cons.mp i1 with z | z
        · subst z
          exact .inr (kd.inj v i k i2 kv)
        · exact .inl ⟨e, z, i2⟩
    have z1 : es1.size = n + 1 := by rw [← Array.length_toList, pc.length_eq, List.length_cons, Array.length_toList, r.sz]
    have b1 : es1.size < scanBound := by rw [z1]; exact room
    have l1 : w.params.followText "set-order" = true ∨ t1.led = true := r.le.imp id fun q => p4 ▸ q
    have fin : ∀ h', Heap.SameBut a s.heap h' → SG kd h' a (fun j => S j || decide (j = k)) es1.size → Q true { s with heap := h' } := fun h' sb r' => by
      have q := hQ h' sb
      rw [notS] at q
      rw [z1] at r'
      exact q r'
    refine wpAny_bind (told _ ?_)
    split
    · refine wpAny_bind ?_
      rw [hashByValue_scannable 8 sc]
      refine wpAny_pure (sg_tail (kd := kd) ?_ ho r.ex r.da e1 a1 m1 b1 ?_ ?_ ?_ ?_)
      · intro b s₁ Q' q; cases b <;> first | exact wpAny_pure q | exact wpAny_rule q
      · first | (split <;> first | exact p2 | exact SetTable.fits_plain_off p2) | exact p2
      · first | (split <;> exact p3) | exact p3
      · first | (split <;> exact l1) | exact l1
      · intro h' sb r'; dsimp only; exact wpAny_pure (fin h' sb r')
    · refine wpAny_bind (wpAny_pure ?_)
      simp only [↓reduceIte]
      refine sg_tail (kd := kd) ?_ ho r.ex r.da e1 a1 m1 b1 p2 p3 l1 ?_
      · intro b s₁ Q' q; cases b <;> first | exact wpAny_pure q | exact wpAny_rule q
      · intro h' sb r'; dsimp only; exact wpAny_pure (fin h' sb r')
/-- s.add(v) -/
theorem sg_add {k : κ} {v : Value} {Q : Value → Shared → Prop} (kv : kd.is k v = true) (sc : v.scannable = true) (R : SG kd s.heap a S n) (room : n + 1 < scanBound)
    (hQ : ∀ h', Heap.SameBut a s.heap h' → SG kd h' a (fun j => S j || decide (j = k)) (if S k = true then n else n + 1) → Q .none { s with heap := h', toks := s.toks + 1 }) :
    wpAny (model P w) A (call (.builtin "set.add") [.ref a, v]) Q E s := by
  refine wpAny_call_entry F.slot_set_add R.setOf.typeIs F.entry_set_add ?_ (F.args_set_add_2 _ _)
  unfold Builtin.«set.add» Builtin.Frozenset.oneOther
  simp only [List.isEmpty_nil, bind_assoc]
  unfold Builtin.Frozenset.addrOf setAdd
  refine wpAny_bind (wpAny_pure ?_)
  try dsimp only
  refine wpAny_bind (wpAny_pure ?_)
  try dsimp only
  refine wpAny_bind (wpAny_holding (wpAny_bind (kd.pyHash kv (sg_put (s := { s with toks := s.toks + 1 }) kv sc R room fun h' sb r => ?_))))
  show wpAny _ _ (ret Value.none) _ _ _
  exact wpAny_pure ⟨_, rfl, hQ h' sb r⟩
theorem sg_fresh {h : Heap} {b : Addr} (ho : h.get? b = some { cls := .type "set", dict := none, data := .set #[] 0 (.fresh 0 0 (!w.params.followText "set-order")) }) : SG kd h b (fun _ => false) 0 :=
  ⟨_, #[], 0, _, ho, ⟨rfl, rfl, rfl⟩, rfl, (fun e he => by simp at he), .nil, (fun k => by simp), (by decide), (by rfl), rfl, List.Pairwise.nil, by
    show _ ∨ (!w.params.followText "set-order") = true
    cases w.params.followText "set-order"
    · exact .inr rfl
    · exact .inl rfl⟩
end
end Pu
/-!KEEP-/
namespace Pu
open PySem L2 PySem.Spec PyProof.Rows
section
variable {P : Program} {w : World} {κ : Type} [DecidableEq κ] {kd : PySem.KeyKind P w κ} {A : Around} {E : Value → Shared → Prop} {s : Shared}
/-- the empty set that stands at the heap's end -/
abbrev hot0 (w : World) (h : Heap) : Heap := h.push { cls := .type "set", dict := none, data := .set #[] 0 (.fresh 0 0 (!w.params.followText "set-order")) }
def memB (ks : List κ) (k : κ) : Bool := decide (k ∈ ks)
theorem sg_loop {I : Addr} {fp wr : List Addr} {G : Array GenState → Array GenState → Prop} {n : Nat} {Pv : Nat → Value → Prop} {St : Nat → Shared → Prop} {R : Result → Shared → Prop}
    (W : WalksS P w A.in1 I fp wr G n Pv St) (z : Addr) (zf : z ∉ fp) (ks : List κ) (hn : n = ks.length) (hb : ks.length + 1 < scanBound) (val : ∀ i v, Pv i v → ∃ k, ks[i]? = some k ∧ kd.is k v = true ∧ v.scannable = true) :
    ∀ (m i : Nat) (s : Shared), n - i = m → i ≤ n → St i s → (∃ c, c ≤ i ∧ SG kd s.heap z (memB (ks.take i)) c) →
      (∀ s' c, Moved (z :: wr) G s s' → c ≤ n → SG kd s'.heap z (memB ks) c → R (.ok (.ret .none)) s') →
      codeAny (model P w) A (.builtin "set.update.loop" ⟨[.ref z, .ref I], []⟩) R s
  | 0, i, s, hm, hi, st, ⟨c, hc, R0⟩, fin => by
    refine codeAny_builtin F.entry_set_update_loop ?_
    rw [Around.under_plainId F.plain_set_update_loop _]
    show wpAny _ A.in1 (pyNext (.ref I) >>= _) _ _ s
    refine wpAny_bind (W.done s _ _ ((by omega : i = n) ▸ st) fun s' mv => ?_)
    show wpAny _ A.in1 (ret Value.none) _ _ s'
    rw [List.take_of_length_le (by omega)] at R0
    exact wpAny_pure (fin s' c (mv.mono fun b hb => List.mem_cons_of_mem _ hb) (by omega) (R0.at fun o e => mv.heap z o (fun h => zf (W.sub _ h)) e))
  | m + 1, i, s, hm, hi, st, ⟨c, hc, R0⟩, fin => by
    refine codeAny_builtin F.entry_set_update_loop ?_
    rw [Around.under_plainId F.plain_set_update_loop _]
    show wpAny _ A.in1 (pyNext (.ref I) >>= _) _ _ s
    refine wpAny_bind (W.item i s _ _ (by omega) st fun v s' hP st' mv => ?_)
    obtain ⟨k, hk, kv, sc⟩ := val i v hP
    have R1 : SG kd s'.heap z (memB (ks.take i)) c := R0.at fun o e => mv.heap z o (fun h => zf (W.sub _ h)) e
    show wpAny _ A.in1 (holding [v] (setAdd z v) >>= _) _ _ s'
    refine wpAny_bind (wpAny_holding ?_)
    unfold setAdd
    refine wpAny_holding (wpAny_bind (kd.pyHash kv (sg_put (s := { s' with toks := s'.toks + 1 }) kv sc R1 (by omega) fun h' but R2 => ?_)))
    have R3 : SG kd h' z (memB (ks.take (i + 1))) (if memB (ks.take i) k = true then c else c + 1) := R2.congr fun j => by
      unfold memB
      rw [List.take_add_one, hk]
      simp [List.mem_append]
    have c3 : (if memB (ks.take i) k = true then c else c + 1) ≤ i + 1 := by split <;> omega
    refine wpAny_pure ⟨plainId_quiet F.plain_set_update_loop _, sg_loop W z zf ks hn hb val m (i + 1) _ (by omega) (by omega) (W.frame _ s' _ _ st' (Nat.le_succ _) fun b hb o e => ?_) ⟨_, c3, R3⟩ fun s'' c2 mv2 hc2 R4 => ?_⟩
    · rw [but.2 b (fun h : b = z => zf (h ▸ hb))]; exact e
    · refine fin s'' c2 (Moved.trans W.gtrans ((mv.mono fun b hb => List.mem_cons_of_mem _ hb).then_heap (Nat.le_succ _) fun b o hb e => ?_) mv2) hc2 R4
      rw [but.2 b (fun h : b = z => hb (h ▸ List.mem_cons_self))]; exact e

set_option maxHeartbeats 3200000 in
/-- set(a list) -/
theorem sg_of_list {l : Addr} {items : Array Value} {ks : List κ} {Q : Value → Shared → Prop} (hh : A.handled = none) (hl : s.heap.IsList l items) (len : items.size = ks.length) (hb : ks.length + 1 < scanBound)
    (val : ∀ (i : Nat) (v : Value), items[i]? = some v → ∃ k, ks[i]? = some k ∧ kd.is k v = true ∧ v.scannable = true)
    (hQ : ∀ (h' : Heap) (tk c : Nat), SG kd h' s.heap.objs.size (memB ks) c → c ≤ ks.length → (∀ b o, s.heap.get? b = some o → h'.get? b = some o) → Q (.ref s.heap.objs.size) { s with heap := h', toks := tk }) :
    wpAny (model P w) A (call (.type "set") [.ref l]) Q E s := by
  have ⟨c, tl, hmro⟩ := F.called_set.mro
  have i1 := F.called_set.made
  have i2 := F.called_set.sub
  refine wpAny_call (codeAny_of_tree ?_)
  show wpAny _ _ (callAny (.type "set") _) _ _ _
  refine wpAny_pure ⟨Code.quiet_builtin _ (by decide +kernel), codeAny_builtin F.entry_type_call ?_⟩
  rw [Around.under_plain (weight_type_call_type "set" [.ref l] []) rfl]
  have i3 := F.called_set.notType
  have i4 := F.called_set.canCreate
  have i5 := F.typeCall_set_1 (.ref l)
  repeat (any_goals (first | assumption | wp_step))
  refine codeAny_mono (code_set_led1 (.ref l) (E := E) (Q₁ := fun v t => v = .ref s.heap.objs.size ∧ t = { s with heap := hot0 w s.heap }) ⟨rfl, rfl⟩) fun r t hr => ?_
  match r, hr with
  | .error e, hr => exact hr
  | .ok (.ret obj), hr =>
    obtain ⟨rfl, rfl⟩ := hr
    have own : (hot0 w s.heap).get? s.heap.objs.size = some { cls := .type "set", dict := none, data := .set #[] 0 (.fresh 0 0 (!w.params.followText "set-order")) } := Heap.get?_push_size _ rfl
    have ty : Shared.TypeIs { s with heap := hot0 w s.heap } (.ref s.heap.objs.size) "set" := ⟨_, own, rfl⟩
    have i6 := F.called_set.init.lookup
    have i7 := F.called_set.init.bind (.ref s.heap.objs.size)
    repeat (any_goals (first | assumption | wp_step))
    refine codeAny_mono (codeAny_call_builtin (R := wants (fun r t => r = .none ∧ ∃ h' tk c, t = { s with heap := h', toks := tk } ∧ SG kd h' s.heap.objs.size (memB ks) c ∧ c ≤ ks.length ∧ (∀ b o, s.heap.get? b = some o → h'.get? b = some o)) E) F.called_set.init.plain F.entry_set_init (check_set_init_1 ty ?_)) fun r t hr => ?_
    · have ⟨⟨ocls, odict, odata, oslots⟩, at0, j1, nl, j2⟩ := hl
      simp only at j1 j2
      subst j1; subst j2
      have at1 : (hot0 w s.heap).get? l = some { cls := .type "list", dict := odict, data := .seq items nl, slots := oslots } := Heap.get?_push_of_some _ at0
      have j3 := F.sub_list_set
      have j4 := F.sub_list_frozenset
      have j5 : (Value.type "list" == Value.type "dict") = false := by decide
      have l1 : (hot0 w s.heap).IsList l items := ⟨_, at1, rfl, nl, rfl⟩
      unfold Builtin.«set.__init__» noKeywords Builtin.Frozenset.updateFrom
      generalize hPI : pyIter = PI
      wp_walk
      subst hPI
      refine wpAny_pyIter_list l1 (wpAny_bind (wpAny_runValue ?_))
      have lt0 : l < s.heap.objs.size := Heap.lt_size at0
      have hd3 : A.in1.in1.in1.handled = none := by simp [hh]
      have z1 : (hot0 w s.heap).objs.size = s.heap.objs.size + 1 := Heap.size_push ..
      refine sg_loop (kd := kd) ((Walks.list hd3 _ l (by rw [z1]; exact Nat.ne_of_lt (Nat.lt_succ_of_lt lt0)) items).toS) s.heap.objs.size (fun m => by
        rcases List.mem_cons.mp m with e | m
        · exact Nat.ne_of_lt (Nat.lt_succ_self _) (z1 ▸ e)
        · exact Nat.ne_of_gt lt0 (List.mem_singleton.mp m)) ks len hb val (items.size - 0) 0 _ (by omega) (Nat.zero_le _) ⟨⟨_, Heap.get?_push_size _ rfl, rfl, rfl⟩, (l1.push _)⟩ ⟨0, Nat.le_refl 0, (sg_fresh (Heap.get?_push_of_some _ own)).congr fun j => by simp [memB]⟩ fun t c2 mv hc2 R4 => ?_
      obtain ⟨h', g2, d', tk', os'⟩ := t
      obtain rfl : g2 = s.gens := mv.gens
      obtain rfl : d' = s.drawn := mv.drawn
      obtain rfl : os' = s.os := mv.os
      show wpAny _ _ _ _ _ _
      refine wpAny_pure ?_
      show wpAny _ _ (ret Value.none) _ _ _
      refine wpAny_pure ⟨rfl, h', tk', c2, rfl, R4, len ▸ hc2, fun b o e => ?_⟩
      have lt1 : b < s.heap.objs.size := Heap.lt_size e
      refine mv.heap b o (fun m => ?_) (Heap.get?_push_of_some _ (Heap.get?_push_of_some _ e))
      rcases List.mem_cons.mp m with q | m
      · exact Nat.ne_of_lt lt1 q
      · exact Nat.ne_of_lt (Nat.lt_succ_of_lt lt1) ((List.mem_singleton.mp m).trans z1)
    · match r, hr with
      | .error e, hr => exact hr
      | .ok (.ret _), hr =>
        obtain ⟨rfl, h', tk, c2, rfl, R4, hc2, kp⟩ := hr
        repeat (any_goals (first | assumption | wp_step))
        exact hQ _ _ _ R4 hc2 kp
end
end Pu

end

section
/-! PuU: sets of texts as objects of the heap; set(..), sorted(..), set comprehensions of two clauses. -/
namespace Pu
open PySem L2 PySem.Spec PyProof.Rows

/-- the set of texts at a -/
def SSo (P : Program) (w : World) (a : Addr) (S : Str → Bool) (n : Nat) : HO := .ext fun h => SG (PySem.strKind P w) h a S n
section
variable {X : Cx} {P : Program} {w : World} {H : Hp} {h : Heap} {a : Addr} {S : Str → Bool} {n : Nat} {pins : List (Addr × Obj)} {σ : L2.St} {s : Shared}
theorem sso_new (R : SG (PySem.strKind P w) h a S n) : ObjOk P w H h a (SSo P w a S n) := ⟨R, (let ⟨o, _, _, _, ho, _⟩ := R; ⟨o, ho⟩), fun _ _ p k => SG.at p k⟩
theorem sso_get (I : Inv X pins σ H s) (e : H a = some (SSo X.prog X.w a S n)) : SG (PySem.strKind X.prog X.w) s.heap a S n := (I.hok a _ e).1
theorem str_is (x : Str) (t : Tok) : (PySem.strKind P w).is x (.str x t) = true := by show Value.isStrOf x (.str x t) = true; simp [Value.isStrOf, Value.isStr]
theorem strs_get : ∀ {us : List Value} {xs : List Str} (i : Nat) (v : Value), StrsAre us xs → us[i]? = some v → ∃ x t, xs[i]? = some x ∧ v = .str x t
  | _, _, i, v, .nil, e => by simp at e
  | _, _, 0, v, .cons y t r, e => by simp at e; exact ⟨y, t, rfl, e.symm⟩
  | _, _, i + 1, v, .cons y t r, e => by
    obtain ⟨x, u, h1, h2⟩ := strs_get i v r (by simpa using e)
    exact ⟨x, u, by simpa using h1, h2⟩
/-- set(xs), xs a list of texts -/
def rSetS (K : PySem.W.Frag) (P : Program) (w : World) : List V → Hp → VK → Prop := fun vs H Q => ∃ (l : Addr) (ks : List Str), vs = [V.ref l] ∧ SqL K H l (ks.map V.str) ∧ ks.length + 1 < scanBound ∧ ∀ p c, H p = none → c ≤ ks.length → Q (.ref p) (upd H p (SSo P w p (memB ks) c))
theorem cr_setS (hc : X.calm = true) : CallR X (.type "set") (rSetS X.K X.prog X.w) := by
  intro pins s σ H vs us Q I r q
  obtain ⟨l, ks, rfl, hl, hb, q⟩ := q
  obtain ⟨its, rv, pl, hz⟩ := I.list hl
  have rs := rv.strs
  rw [Vals.ref1 r]
  refine sg_of_list (P := X.prog) (w := X.w) (kd := PySem.strKind X.prog X.w) (ks := ks) (I.ok.hd hc) pl.isList (by rw [List.size_toArray]; exact rs.length) hb (fun i v hv => ?_) fun h' tk c R hc kp => ?_
  · obtain ⟨x, t, h1, rfl⟩ := strs_get i v rs (by simpa using hv)
    exact ⟨x, h1, str_is x t, rfl⟩
  · exact ⟨.ref s.heap.objs.size, upd H s.heap.objs.size (SSo X.prog X.w s.heap.objs.size (memB ks) c), I.laid (t' := tk) kp (Nat.le_refl _) (sso_new R), rfl, q _ c (I.hok.fresh (Nat.le_refl _)) hc⟩
/-! ### sorted -/
def strV : Value → Str
  | .str x _ => x
  | _ => Str.empty
theorem strs_by : ∀ l : List Value, (∀ v ∈ l, ∃ x t, v = Value.str x t) → StrsAre l (l.map strV)
  | [], _ => .nil
  | v :: l, h => by
    obtain ⟨x, t, rfl⟩ := h v List.mem_cons_self
    exact .cons x t (strs_by l fun u hu => h u (List.mem_cons_of_mem _ hu))
theorem sorted_sg {A : Around} {E : Value → Shared → Prop} {Q : Value → Shared → Prop} (R : SG (PySem.strKind P w) s.heap a S n) (hh : A.handled = none)
    (hQ : ∀ s' p (out : Array Value) (c : Nat) (ys : List Str), (∀ b o, s.heap.get? b = some o → s'.heap.get? b = some o) → s'.gens = s.gens → s'.os = s.os → s.heap.objs.size ≤ p →
      s'.heap.get? p = some (seqObj "list" out c) → StrsAre out.toList ys → sortedS ys = true → ys.Nodup → (∀ k, k ∈ ys ↔ S k = true) → ys.length = n → n < scanBound → Q (.ref p) s') :
    wpAny (model P w) A (call (.builtin "sorted") [.ref a]) Q E s := by
  obtain ⟨o, es, ep, t, ho, r⟩ := R
  have shape : ∀ e ∈ es.toList, ∃ x u, e.2 = Value.str x u := fun e he => by
    obtain ⟨⟨k, h1, _⟩, _⟩ := r.el e he
    obtain ⟨u, h2⟩ := Value.isStrOf_shape h1
    exact ⟨k, u, h2⟩
  refine Calls.call_function_entry kind_sorted plain_sorted entry_sorted (args_sorted1 _) ?_
  unfold Builtin.«sorted»
  refine wpAny_bind (m := checkCount "sorted" 1 1 _) (wpAny_pure (wpAny_bind (collect_set (A := A.in1) hh ⟨o, ho, r.ex.1, r.da⟩ r.fi r.lt r.ri r.le fun s1 vs k1 z1 g1 o1 pm => ?_)))
  have sV : ∀ v ∈ vs, ∃ x u, v = Value.str x u := fun v hv => by
    obtain ⟨e, he, q⟩ := List.mem_map.mp (pm.mem_iff.mp hv)
    obtain ⟨x, u, h⟩ := shape e he
    exact ⟨x, u, q ▸ h⟩
  have many : vs.length = n := by rw [pm.length_eq, List.length_map, Array.length_toList]; exact r.sz
  have few : vs.length ≤ sizeLine := by rw [many, ← r.sz]; exact fits_of_scanBound r.lt
  have hS := strs_by vs sV
  have pk : (vs.map strV).Perm (es.toList.map fun e => strV e.2) := by
    have q := pm.map strV
    rw [List.map_map] at q
    exact q
  have isK : ∀ e ∈ es.toList, ∀ k, (PySem.strKind P w).is k e.2 = true ↔ strV e.2 = k := fun e he k => by
    obtain ⟨x, u, h⟩ := shape e he
    rw [h]
    exact ⟨fun z => (PySem.strKind P w).inj _ _ _ (str_is x u) z, fun z => by
      have z' : x = k := z
      rw [← z']; exact str_is x u⟩
  have nd : (es.toList.map fun e => strV e.2).Nodup := by
    have q : ∀ l : List (Int × Value), (∀ e ∈ l, e ∈ es.toList) → Apart (PySem.strKind P w) l → (l.map fun e => strV e.2).Nodup := fun l => by
      induction l with
      | nil => intro _ _; exact List.nodup_nil
      | cons e l ih =>
        intro hm ha
        obtain ⟨h1, h2⟩ := List.pairwise_cons.mp ha
        refine List.nodup_cons.mpr ⟨fun z => ?_, ih (fun f hf => hm f (List.mem_cons_of_mem _ hf)) h2⟩
        obtain ⟨f, hf, ef⟩ := List.mem_map.mp z
        exact h1 f hf (strV e.2) ((isK e (hm e List.mem_cons_self) _).2 rfl) ((isK f (hm f (List.mem_cons_of_mem _ hf)) _).2 ef)
    exact q _ (fun _ h => h) r.ap
  have mem : ∀ k, k ∈ (es.toList.map fun e => strV e.2) ↔ S k = true := fun k => by
    rw [r.me k, List.mem_map]
    exact ⟨fun ⟨e, he, q⟩ => ⟨e, he, (isK e he k).2 q⟩, fun ⟨e, he, q⟩ => ⟨e, he, (isK e he k).1 q⟩⟩
  refine wpAny_bind (wpAny_newList ?_ few)
  have own : (s1.heap.push (seqObj "list" vs.toArray 0)).get? s1.heap.objs.size = some (seqObj "list" vs.toArray 0) := Heap.get?_push_size _ rfl
  refine wpAny_bind (wpAny_holding (wpAny_call_entry slot_list_sort ⟨_, own, rfl⟩ entry_list_sort (list_sort_treeKAny strKind_oneLt own hS.keysOf (fun v₁ v₂ rest e => keyKind_strs (by rw [← e]; exact hS)) few fun st' hp hs => ⟨_, rfl, ?_⟩) (args_list_sort _)))
  obtain ⟨ys, y1, y2, y3⟩ := sorted_out_str hS hp hs
  obtain ⟨c, hc⟩ := sortedHeap_at (vs := vs) (out := (arrOf st').map (·.2)) own
  have pn := y2.trans pk
  refine wpAny_pure ⟨_, rfl, hQ _ s1.heap.objs.size _ c ys (fun b u e => ?_) g1 o1 z1 hc y1 y3 (pn.nodup_iff.mpr nd) (fun k => by rw [pn.mem_iff, mem k]) ?_ (r.sz ▸ r.lt)⟩
  · have q := k1 b u e
    have l1 := Heap.lt_size q
    show (sortedHeap (s1.heap.push (seqObj "list" vs.toArray 0)) s1.heap.objs.size vs _).get? b = some u
    rw [sortedHeap_old (Nat.ne_of_lt l1) (by rw [size_push']; exact Nat.lt_succ_of_lt l1)]
    exact Heap.get?_push_of_some _ q
  · rw [pn.length_eq, List.length_map, Array.length_toList]; exact r.sz
def rSortSS (P : Program) (w : World) : List V → Hp → VK → Prop := fun vs H Q => ∃ (a : Addr) (S : Str → Bool) (n : Nat), vs = [V.ref a] ∧ H a = some (SSo P w a S n) ∧
  ∀ (ys : List Str) (p : Addr), sortedS ys = true → ys.Nodup → (∀ k, k ∈ ys ↔ S k = true) → ys.length = n → n < scanBound → H p = none → Q (.ref p) (upd H p (.lst (ys.map V.str)))
theorem cr_sortSS (hc : X.calm = true) : CallR X (.builtin "sorted") (rSortSS X.prog X.w) := by
  intro pins s σ H vs us Q I r q
  obtain ⟨a, S, n, rfl, ha, q⟩ := q
  rw [Vals.ref1 r]
  refine sorted_sg (sso_get I ha) (I.ok.hd hc) fun s' p out c ys kp g o hp hg hi hs nd hm hl hb => ?_
  have len : (ys.map V.str).length ≤ sizeLine := by rw [List.length_map, hl]; exact fits_of_scanBound hb
  have free : H p = none := I.hok.fresh hp
  have J : Inv X pins σ (upd H p (.lst (ys.map V.str))) { s with heap := s'.heap, gens := s'.gens, drawn := s'.drawn, toks := s'.toks } :=
    I.call (ch := []) (Un.laid kp hp free) (I.hok.laid kp hp ⟨len, out.toList, c, vals_of_strs hi, hg⟩) (g.symm ▸ I.bare) (fun _ z => nomatch z)
  have e : s' = { s with heap := s'.heap, gens := s'.gens, drawn := s'.drawn, toks := s'.toks } := by
    obtain ⟨_, _, _, _, _⟩ := s'
    obtain ⟨_, _, _, _, _⟩ := s
    obtain rfl := o
    rfl
  rw [e]
  exact ⟨.ref p, _, J, rfl, q ys p hs nd hm hl hb free⟩
theorem ss_add {E : Value → Shared → Prop} {x : Str} {t : Tok} {Q : Value → Shared → Prop} (I : Inv X pins σ H s) (ha : H a = some (SSo X.prog X.w a S n)) (room : n + 1 < scanBound)
    (hQ : ∀ s', Inv X pins σ (upd H a (SSo X.prog X.w a (fun j => S j || decide (j = x)) (if S x = true then n else n + 1))) s' → Q .none s') : wpAny (model X.prog X.w) X.A (call (.builtin "set.add") [.ref a, .str x t]) Q E s := by
  refine sg_add (str_is x t) rfl (sso_get I ha) room fun h' sb new => ?_
  have he : ∃ u, h'.get? a = some u := let ⟨o, _, _, _, ho, _⟩ := new; ⟨o, ho⟩
  exact hQ _ (I.write (e := a) (t' := s.toks + 1) (by rw [ha]; trivial) (.inl rfl) (fun b u hb hu => (sb.2 b hb).trans hu) he (sso_new new))
end
end Pu

end

section
/-! PuV: {e for x in a for y in b} of texts. -/
namespace Pu
open PySem L2 PySem.Spec PyProof.Rows

section
variable {prog : Program} {w : World} {A : Around} {R : Result → Shared → Prop} {s : Shared} {elt t0 i0 t1 i1 : Expr} {f0 f1 : List Expr} {scope : Scope} {pos : Pos} {it acc : Value} {env : Env}
/-- the written comprehension -/
abbrev sc2 (elt t0 i0 : Expr) (f0 : List Expr) (t1 i1 : Expr) (f1 : List Expr) (scope : Scope) (pos : Pos) : Expr := .SetComp elt [⟨t0, i0, f0, 0⟩, ⟨t1, i1, f1, 0⟩] scope pos
theorem turnS_out (elt t0 i0 t1 i1 : Expr) (f0 f1 : List Expr) (scope : Scope) (pos : Pos) (it acc : Value) (env : Env) : compTurn (sc2 elt t0 i0 f0 t1 i1 f1 scope pos) 0 it acc env = (do
      standAt i0.pos
      match ← pyNext it with
      | none => pure (.done .next)
      | some v =>
        letOwnedTupleGo t0 it v; assign t0 env v
        let mut ok := true
        for c in f0 do
          if ok then ok ← isTrue c env (eval c env)
        if ok then
          let x ← eval i1 env
          standAt i1.pos; let x ← foldedSetIterable i1 env x
          let _ ← runOwn (.compStart (sc2 elt t0 i0 f0 t1 i1 f1 scope pos) 1 (← holding [x] (pyIter x)) acc env) env
        again (.compLoop (sc2 elt t0 i0 f0 t1 i1 f1 scope pos) 0 it acc env)) := by rfl
theorem turnS_in (elt t0 i0 t1 i1 : Expr) (f0 f1 : List Expr) (scope : Scope) (pos : Pos) (it acc : Value) (env : Env) : compTurn (sc2 elt t0 i0 f0 t1 i1 f1 scope pos) 1 it acc env = (do
      standAt i1.pos
      match ← pyNext it with
      | none => pure (.done .next)
      | some v =>
        letOwnedTupleGo t1 it v; assign t1 env v
        let mut ok := true
        for c in f1 do
          if ok then ok ← isTrue c env (eval c env)
        if ok then
          (do let v ← eval elt env; standAt elt.pos; let _ ← call (.builtin "set.add") [acc, v])
        again (.compLoop (sc2 elt t0 i0 f0 t1 i1 f1 scope pos) 1 it acc env)) := by rfl
/-- what a raised error meets -/
abbrev nb (prog : Program) (w : World) (A : Around) (env : Env) (R : Result → Shared → Prop) : Value → Shared → Prop := notedBy (model prog w) A env fun e s' => R (.error e) s'
abbrev tests (f : List Expr) (env : Env) : Sem Bool := forIn f true fun c r => if r = true then do let ok ← isTrue c env (eval c env); pure (ForInStep.yield ok) else pure (ForInStep.yield r)
theorem loopS_out (hs : ∀ x, foldedSetIterable i1 env x = pure x) (I : Nat → Shared → Prop)
    (turn : ∀ n s, I n s → wpAny (model prog w) A (pyNext it) (fun r s₁ => match r with
      | none => R (.ok .next) s₁
      | some v => wpAny (model prog w) A (letOwnedTupleGo t0 it v) (fun _ s₂ => wpAny (model prog w) A (assign t0 env v) (fun _ s₃ => wpAny (model prog w) A (tests f0 env) (fun ok s₄ =>
            if ok = true then wpAny (model prog w) A (eval i1 env) (fun x s₅ => wpAny (model prog w) A (pyIter x) (fun j s₆ =>
              codeAny (model prog w) A (.compStart (sc2 elt t0 i0 f0 t1 i1 f1 scope pos) 1 j acc env) (fun r s' => match r with
                | .ok _ => ∃ m, m < n ∧ I m s'
                | .error _ => False) s₆) (nb prog w A env R) s₅) (nb prog w A env R) s₄
            else ∃ m, m < n ∧ I m s₄) (nb prog w A env R) s₃) (nb prog w A env R) s₂) (nb prog w A env R) s₁) (nb prog w A env R) s) (n : Nat) (h : I n s) :
    codeAny (model prog w) A (.compLoop (sc2 elt t0 i0 f0 t1 i1 f1 scope pos) 0 it acc env) R s := by
  refine codeAny_loop rfl I (fun n s hI => ?_) n h
  show wpAny _ A ((compTurn (sc2 elt t0 i0 f0 t1 i1 f1 scope pos) 0 it acc env).onRaise (fun x => do noteFrame x env; theTreesLotGoes x)) _ _ s
  refine wpAny_noted ?_
  rw [turnS_out]
  refine wpAny_bind (wpAny_standAt (wpAny_bind (wpAny_mono (turn n s hI) (fun r s₁ h₁ => ?_) fun _ _ z => z)))
  match r, h₁ with
  | none, h₁ => exact wpAny_pure h₁
  | some v, h₁ =>
    refine wpAny_bind (wpAny_mono h₁ (fun _ s₂ h₂ => ?_) fun _ _ z => z)
    refine wpAny_bind (wpAny_mono h₂ (fun _ s₃ h₃ => wpAny_bind (wpAny_mono h₃ (fun ok s₄ h₄ => ?_) fun _ _ z => z)) fun _ _ z => z)
    match ok, h₄ with
    | false, h₄ => exact wpAny_pure ⟨rfl, h₄⟩
    | true, h₄ =>
      refine wpAny_bind (wpAny_mono h₄ (fun x s₅ h₅ => ?_) fun _ _ z => z)
      refine wpAny_bind (wpAny_standAt (wpAny_bind (wpAny_of_eq (hs x) (wpAny_bind (wpAny_holding (wpAny_mono h₅ (fun j s₆ h₆ => ?_) fun _ _ z => z))))))
      refine wpAny_bind (wpAny_runOwn ?_)
      rw [Around.mark_none]
      refine codeAny_mono h₆ fun r s' hr => ?_
      match r, hr with
      | .ok f, hr => first | exact wpAny_pure ⟨rfl, hr⟩ | exact wpAny_bind (wpAny_pure (wpAny_pure ⟨rfl, hr⟩))
      | .error e, hr => exact hr.elim
theorem loopS_in (I : Nat → Shared → Prop)
    (turn : ∀ n s, I n s → wpAny (model prog w) A (pyNext it) (fun r s₁ => match r with
      | none => R (.ok .next) s₁
      | some v => wpAny (model prog w) A (letOwnedTupleGo t1 it v) (fun _ s₂ => wpAny (model prog w) A (assign t1 env v) (fun _ s₃ => wpAny (model prog w) A (tests f1 env) (fun ok s₄ =>
            if ok = true then wpAny (model prog w) A (eval elt env) (fun x s₅ => wpAny (model prog w) A (call (.builtin "set.add") [acc, x]) (fun _ s₆ => ∃ m, m < n ∧ I m s₆) (nb prog w A env R) s₅) (nb prog w A env R) s₄
            else ∃ m, m < n ∧ I m s₄) (nb prog w A env R) s₃) (nb prog w A env R) s₂) (nb prog w A env R) s₁) (nb prog w A env R) s) (n : Nat) (h : I n s) :
    codeAny (model prog w) A (.compLoop (sc2 elt t0 i0 f0 t1 i1 f1 scope pos) 1 it acc env) R s := by
  refine codeAny_loop rfl I (fun n s hI => ?_) n h
  show wpAny _ A ((compTurn (sc2 elt t0 i0 f0 t1 i1 f1 scope pos) 1 it acc env).onRaise (fun x => do noteFrame x env; theTreesLotGoes x)) _ _ s
  refine wpAny_noted ?_
  rw [turnS_in]
  refine wpAny_bind (wpAny_standAt (wpAny_bind (wpAny_mono (turn n s hI) (fun r s₁ h₁ => ?_) fun _ _ z => z)))
  match r, h₁ with
  | none, h₁ => exact wpAny_pure h₁
  | some v, h₁ =>
    refine wpAny_bind (wpAny_mono h₁ (fun _ s₂ h₂ => ?_) fun _ _ z => z)
    refine wpAny_bind (wpAny_mono h₂ (fun _ s₃ h₃ => wpAny_bind (wpAny_mono h₃ (fun ok s₄ h₄ => ?_) fun _ _ z => z)) fun _ _ z => z)
    match ok, h₄ with
    | false, h₄ => exact wpAny_pure ⟨rfl, h₄⟩
    | true, h₄ => exact wpAny_bind (wpAny_bind (wpAny_mono h₄ (fun x s₅ h₅ => wpAny_bind (wpAny_standAt (wpAny_bind (wpAny_mono h₅ (fun _ s₆ h₆ => wpAny_pure (wpAny_pure ⟨rfl, h₆⟩)) fun _ _ z => z)))) fun _ _ z => z))
theorem startS_1 (h0 : codeAny (model prog w) A (.compLoop (sc2 elt t0 i0 f0 t1 i1 f1 scope pos) 1 it acc env) R s)
    (h : wpAny (model prog w) A (pyIter it) (fun j s' => codeAny (model prog w) A (.compLoop (sc2 elt t0 i0 f0 t1 i1 f1 scope pos) 1 j acc env) R s') (nb prog w A env R) s) :
    codeAny (model prog w) A (.compStart (sc2 elt t0 i0 f0 t1 i1 f1 scope pos) 1 it acc env) R s := by
  refine codeAny_of_tree ?_
  show wpAny _ _ ((compStart (sc2 elt t0 i0 f0 t1 i1 f1 scope pos) 1 it acc env).onRaise (fun x => do noteFrame x env; standAt theWindowsPlace)) _ _ s
  refine wpAny_notedAt ?_
  unfold compStart
  show wpAny _ _ (ask >>= _) _ _ s
  refine wpAny_bind (wpAny_askSetting (wpAny_ite ?_))
  split
  · first | exact wpAny_bind (wpAny_pure (wpAny_pure (And.intro rfl h0))) | exact wpAny_pure (And.intro rfl h0)
  · first
      | exact wpAny_bind (wpAny_rule (wpAny_bind (wpAny_standAt (wpAny_bind (wpAny_mono h (fun j s' z => wpAny_pure (And.intro rfl z)) fun _ _ x => x)))))
      | (refine wpAny_bind (wpAny_rule ?_); show wpAny _ _ (standAt i1.pos >>= _) _ _ s; exact wpAny_bind (wpAny_standAt (wpAny_bind (wpAny_mono h (fun j s' z => wpAny_pure (And.intro rfl z)) fun _ _ x => x))))
end
section
variable {X : Cx}
/-- the reading: as of a list's comprehension, the new object a set -/
def tSs2 (P : Program) (w : World) (wi : TI) (g : TG) (tt : TT) (wi1 : TI) (g1 : TG) (tt1 : TT) (te : TE) (vs vs1 : List Nat) : TE := fun σ H Q => wi σ H fun J H1 => ∀ D, H1 D = none → ∃ W : Nat → Nat → Hp → Prop, (∃ m, W 0 m (upd H1 D (SSo P w D (fun _ => false) 0))) ∧ ∀ i m H, W i m H →
  (J.stop i H ∧ Q (.ref D) H) ∨ (J.go i H ∧ ∃ Nx : Hp → Prop, (∀ H', Nx H' → ∃ m', m' < m ∧ W (i + 1) m' H') ∧ ∀ x H', J.yld i H x H' → g x (wipe σ vs) H' fun σ2 H2 => wipe σ2 vs = wipe σ vs ∧ tt σ2 H2 fun b H3 =>
    if b = true then wi1 σ2 H3 fun J1 H4 => ∃ W1 : Nat → Nat → Hp → Prop, (∃ m, W1 0 m H4) ∧ ∀ j k H, W1 j k H →
      (J1.stop j H ∧ Nx H) ∨ (J1.go j H ∧ ∃ Nx1 : Hp → Prop, (∀ H', Nx1 H' → ∃ k', k' < k ∧ W1 (j + 1) k' H') ∧ ∀ x H', J1.yld j H x H' → g1 x (wipe σ2 vs1) H' fun σ3 H5 => wipe σ3 vs1 = wipe σ2 vs1 ∧ tt1 σ3 H5 fun b H6 =>
        if b = true then te σ3 H6 fun y H7 => ∃ (z : Str) (S : Str → Bool) (n : Nat), y = .str z ∧ H7 D = some (SSo P w D S n) ∧ n + 1 < scanBound ∧ Nx1 (upd H7 D (SSo P w D (fun j => S j || decide (j = z)) (if S z = true then n else n + 1))) else Nx1 H6)
    else Nx H3)
variable {elt tg iter tg1 iter1 : Expr} {f0 f1 : List Expr} {scope : Scope} {own : List (Str × Nat)} {vs1 : List Nat} {pos : Pos} {wi wi1 : TI} {g g1 : TG} {tt tt1 : TT} {te : TE}
theorem pe_ss2 (hc : X.calm = true) (hN : X.N.Nodup) (hi : PI X tg iter wi) (ok : BlkOk X.N X.env.scope scope own) (hv : ∀ i ∈ vs1, i ∈ own.map (·.2))
    (hg : ∀ (s : Shared) (H : Hp) (C : Addr) (cl : List (Str × Addr)) (fp : List Addr), PG (X.blk s H scope (compEnvC scope cl C X.env) fp) tg g) (ht : ∀ (s : Shared) (H : Hp) (C : Addr) (cl : List (Str × Addr)) (fp : List Addr), PTs (X.blk s H scope (compEnvC scope cl C X.env) fp) f0 tt)
    (hi1 : ∀ (s : Shared) (H : Hp) (C : Addr) (cl : List (Str × Addr)) (fp : List Addr), PI (X.blk s H scope (compEnvC scope cl C X.env) fp) tg1 iter1 wi1) (hg1 : ∀ (s : Shared) (H : Hp) (C : Addr) (cl : List (Str × Addr)) (fp : List Addr), PG (X.blk s H scope (compEnvC scope cl C X.env) fp) tg1 g1)
    (ht1 : ∀ (s : Shared) (H : Hp) (C : Addr) (cl : List (Str × Addr)) (fp : List Addr), PTs (X.blk s H scope (compEnvC scope cl C X.env) fp) f1 tt1) (he : ∀ (s : Shared) (H : Hp) (C : Addr) (cl : List (Str × Addr)) (fp : List Addr), PE (X.blk s H scope (compEnvC scope cl C X.env) fp) elt te)
    (hs : ∀ x, foldedSetIterable iter X.env x = pure x := by intro _; rfl) (hs1 : ∀ env x, foldedSetIterable iter1 env x = pure x := by intro _ _; rfl) :
    PE X (sc2 elt tg iter f0 tg1 iter1 f1 scope pos) (tSs2 X.prog X.w wi g tt wi1 g1 tt1 te (own.map (·.2)) vs1) := by
  refine ⟨fun pins s σ H Q I h => ?_⟩
  rw [PpSet.eval_SetComp]
  have cells : ∀ y ∈ scope.names, y.2 = .free → ∃ c, X.env.cells.lookup y.1 = some c := fun y hy e => (ok.free y hy e).elim (fun k => I.ok.has _ (.inl k)) fun k => I.ok.has _ (.inr k)
  refine wpAny_comprehension_free (use := none) rfl hs (closure_ok cells) ok.kind (fun y hy e => by rw [ok.uniq y hy, e]) (thn (hi.run pins s σ H _ I h) fun xv s1 hx => thn hx fun iv s2 h2 => ?_)
  obtain ⟨it, fp, tn, J, H2, e, I2, T, st2, ff2, q⟩ := h2
  subst e
  refine PpSet.newSet_ok (newEnv_comp ?_)
  generalize hD : s2.heap.objs.size = D
  obtain ⟨W, ⟨m0, w0⟩, turn⟩ := q D (I2.hok.fresh (Nat.le_of_eq hD))
  generalize hs3 : ({ s2 with heap := hot0 X.w s2.heap } : Shared) = s3
  generalize hH3 : upd H2 D (SSo X.prog X.w D (fun _ => false) 0) = H3 at w0
  have I3 : Inv X pins σ H3 s3 := by
    rw [← hs3, ← hH3]
    refine I2.laid (t' := s2.toks) (fun b o e => Heap.get?_push_of_some _ e) (Nat.le_of_eq hD) (sso_new (sg_fresh ?_))
    rw [← hD]
    exact Heap.get?_push_size _ rfl
  have heap3 : s3.heap = hot0 X.w s2.heap := by rw [← hs3]
  have ff3 : ∀ b ∈ fp, FpOk X pins H3 b ∧ b < s3.heap.objs.size := fun b hb => by
    obtain ⟨o, e, _⟩ := T.obj _ _ st2 b hb
    have lt := Heap.lt_size e
    refine ⟨⟨?_, (ff2 b hb).2⟩, by rw [heap3, Heap.size_push]; exact Nat.lt_succ_of_lt lt⟩
    rw [← hH3, upd_ne (by rw [← hD]; exact Nat.ne_of_lt lt)]
    exact (ff2 b hb).1
  have st3 : tn 0 s3.heap := T.keep _ _ _ st2 fun b _ o e => by rw [heap3]; exact Heap.get?_push_of_some _ e
  have I4 := block_start I3 ok hN ff3
  generalize hcl : cellsFrom (s3.heap.objs.size + 1) scope.names (cloFrom X.env.cells scope.names []) = cl at I4
  have p1 := hg s3 H3 s3.heap.objs.size cl fp
  have p2 := ht s3 H3 s3.heap.objs.size cl fp
  have p3 := he s3 H3 s3.heap.objs.size cl fp
  have p4 := hi1 s3 H3 s3.heap.objs.size cl fp
  have p5 := hg1 s3 H3 s3.heap.objs.size cl fp
  have p6 := ht1 s3 H3 s3.heap.objs.size cl fp
  show codeAny _ _ (.compStart (sc2 elt tg iter f0 tg1 iter1 f1 scope pos) 0 (.ref it) (.ref D) (compEnvC scope cl s3.heap.objs.size X.env)) (compPost (model X.prog X.w) X.A X.xe none (EP X pins σ Q) (.ref D) s3.heap.objs.size) { s3 with heap := pushCells (s3.heap.push { cls := .type "dict", data := .dict #[] }) scope.names }
  have none3 : ∀ b ∈ fp, H3 b = none := fun b hb => (ff3 b hb).1.1
  generalize hce : compEnvC scope cl s3.heap.objs.size X.env = ce at I4 p1 p2 p3 p4 p5 p6 ⊢
  have cL : ce.locals = s3.heap.objs.size := by rw [← hce]; rfl
  generalize hs4 : ({ s3 with heap := pushCells (s3.heap.push { cls := .type "dict", data := .dict #[] }) scope.names } : Shared) = s4 at I4 ⊢
  have st4 : tn 0 s4.heap := T.keep _ _ _ st3 fun b _ o e => by rw [← hs4]; exact pushCells_keeps _ _ _ _ (Heap.get?_push_of_some _ e)
  let Y := X.blk s3 H3 scope ce fp
  have alone : ∀ {σ' : L2.St} {H' : Hp} {s' : Shared}, Inv Y [] σ' H' s' → (∀ b ∈ fp, H' b = none) → ∀ b ∈ fp, FpOk Y [] H' b := fun {σ' H' s'} J' hn b hb =>
    ⟨hn b hb, (J'.ok.exf b hb).1, J'.ok.exfs b hb, .inl hb, fun x c e => (J'.ok.exf b hb).2 x c e, fun p hp => absurd (show p ∈ ([] : List (Addr × Obj)) ++ [] from hp) (by simp)⟩
  generalize hRR : compPost (model X.prog X.w) X.A X.xe none (EP X pins σ Q) (.ref D) s3.heap.objs.size = RR
  have last : ∀ s' m H', Inv X pins σ H' s' → Q (.ref D) H' → s'.heap.Ns s3.heap.objs.size m → FpOk X pins H' s3.heap.objs.size → RR (.ok .next) s' := fun s' m H' I' q hn f => by
    rw [← hRR]
    obtain ⟨f0, f1, f2, f3, f4, f5⟩ := f
    exact ⟨m, hn, fun h'' sb => ⟨.ref D, H', I'.turned (t' := s'.toks) (fun b o hb e => (sb.2 b hb).trans e) f0 f1 f3 f4 f5, rfl, q⟩⟩
  -- what stands between the turns of the outer loop
  let In (n : Nat) (s' : Shared) : Prop := ∃ i H', Inv Y [] (wipe σ (own.map (·.2))) H' s' ∧ tn i s'.heap ∧ (∀ b ∈ fp, H' b = none) ∧ W i n H'
  have loop : codeAny (model X.prog X.w) X.A (.compLoop (sc2 elt tg iter f0 tg1 iter1 f1 scope pos) 0 (.ref it) (.ref D) ce) RR s4 := by
    refine loopS_out (hs1 ce) In ?_ m0 ⟨0, H3, I4, st4, none3, w0⟩
    rintro n s5 ⟨i, H5, I5, st5, n5, w5⟩
    rcases turn i n H5 w5 with ⟨stop, qq⟩ | ⟨go, Nx, hNx, step⟩
    · refine thnF (T.done Y rfl rfl rfl hc i [] s5 _ H5 (fun _ _ => False) I5 (alone I5 n5) st5 stop) fun r s6 ⟨hr, I6⟩ => ?_
      subst hr
      have I7 : Inv X pins σ H5 s6 := I3.call' (ch := fp) I6.os I6.base I6.hok I6.bare fun b hb => ⟨(ff3 b hb).1.2.2.2.1, (ff3 b hb).1.2.1, (ff3 b hb).1.2.2.2.2.1, (ff3 b hb).1.2.2.2.2.2⟩
      have nC : H5 s3.heap.objs.size = none := cL ▸ (show H5 ce.locals = none from I6.free)
      obtain ⟨m, hn, _⟩ := I6.loc
      exact last s6 m H5 I7 qq (cL ▸ (show s6.heap.Ns ce.locals m from hn)) (I3.fpOk (Nat.le_refl _) nC)
    · refine thnF (T.item Y rfl rfl rfl hc i [] s5 _ H5 (fun _ _ => False) I5 (alone I5 n5) st5 go) fun r s6 ⟨u, hr, h6⟩ => ?_
      subst hr
      refine thnF h6 fun _ s7 ⟨x, H7, I7, r7, y7, st7, n7⟩ => ?_
      have I7' := I7.pinned (alone I7 n7) (T.obj _ _ st7)
      refine thnF (p1.run _ s7 _ H7 x u _ I7' r7 (step x H7 y7)) fun _ s8 ⟨σ8, H8, I8, hw8, q8⟩ => ?_
      refine thnF (p2.run _ s8 σ8 H8 _ I8 q8) fun b s9 ⟨H9, I9, q9⟩ => ?_
      have back : ∀ {σ9 : L2.St} {s' : Shared} {H' : Hp}, Inv Y ([] ++ pinsAt fp s7.heap) σ9 H' s' → (wipe σ (own.map (·.2))).length = σ9.length → (∀ (j : Nat) v, (wipe σ (own.map (·.2)))[j]? = some (some v) → σ9[j]? = some (some v)) → Nx H' → ∃ m, m < n ∧ In m s' := fun {σ9 s' H'} J' hl hk nx => by
        obtain ⟨m', hm, w'⟩ := hNx H' nx
        have pn : ∀ b ∈ fp, ∀ o, s7.heap.get? b = some o → s'.heap.get? b = some o ∧ H' b = none := fun b hb o e => let z := J'.pin (b, o) (List.mem_append_right _ (List.mem_append_right _ (mem_pinsAt hb e))); ⟨z.1, z.2.1⟩
        exact ⟨m', hm, i + 1, H', (J'.unpinned (pins := [])).weak hl hk, T.keep _ _ _ st7 fun b hb o e => (pn b hb o e).1, fun b hb => (let ⟨o, e, _⟩ := T.obj _ _ st7 b hb; (pn b hb o e).2), w'⟩
      have l8 : (wipe σ (own.map (·.2))).length = σ8.length := by rw [← hw8, wipe_length]
      match b, q9 with
      | false, q9 =>
        have q9 : Nx H9 := q9
        exact back I9 l8 (fun j v e => by rw [← hw8] at e; exact (wipe_some e).1) q9
      | true, q9 =>
        refine thnF (p4.run _ s9 σ8 H9 _ I9 q9) fun xv s10 hx => thnF hx fun iv s11 h11 => ?_
        obtain ⟨jt, fp1, tn1, J1, H11, e1, I11, T1, st11, f11, W1, ⟨m1, w1⟩, turn1⟩ := h11
        subst e1
        have alone1 : ∀ {H' : Hp}, (∀ b ∈ fp1, H' b = none) → ∀ b ∈ fp1, FpOk Y ([] ++ pinsAt fp s7.heap) H' b := fun hn b hb => ⟨hn b hb, (f11 b hb).2⟩
        let In1 (k : Nat) (s' : Shared) : Prop := ∃ j H', Inv Y ([] ++ pinsAt fp s7.heap) (wipe σ8 vs1) H' s' ∧ tn1 j s'.heap ∧ (∀ b ∈ fp1, H' b = none) ∧ W1 j k H'
        have loop1 : codeAny (model X.prog X.w) X.A (.compLoop (sc2 elt tg iter f0 tg1 iter1 f1 scope pos) 1 (.ref jt) (.ref D) ce) (fun r s' => match r with
              | .ok _ => ∃ m, m < n ∧ In m s'
              | .error _ => False) s11 := by
          refine loopS_in In1 ?_ m1 ⟨0, H11, I11.weak (wipe_length _ _) (fun j v e => (wipe_some e).1), st11, fun b hb => (f11 b hb).1, w1⟩
          rintro k s12 ⟨j, H12, I12, st12, n12, w12⟩
          rcases turn1 j k H12 w12 with ⟨stop1, nx1⟩ | ⟨go1, Nx1, hNx1, step1⟩
          · refine thnF (T1.done Y rfl rfl rfl hc j _ s12 (wipe σ8 vs1) H12 (fun _ _ => False) I12 (alone1 n12) st12 stop1) fun r s13 ⟨hr, I13⟩ => ?_
            subst hr
            exact back I13 (l8.trans (wipe_length σ8 vs1).symm) (fun j v e => by
              rw [← hw8] at e
              obtain ⟨e1, e2⟩ := wipe_some e
              exact (wipe_out fun z => e2 (hv j z)).trans e1) nx1
          · refine thnF (T1.item Y rfl rfl rfl hc j _ s12 (wipe σ8 vs1) H12 (fun _ _ => False) I12 (alone1 n12) st12 go1) fun r s13 ⟨u1, hr, h13⟩ => ?_
            subst hr
            refine thnF h13 fun _ s14 ⟨x1, H14, I14, r14, y14, st14, n14⟩ => ?_
            have I14' := I14.pinned (alone1 n14) (T1.obj _ _ st14)
            refine thnF (p5.run _ s14 (wipe σ8 vs1) H14 x1 u1 _ I14' r14 (step1 x1 H14 y14)) fun _ s15 ⟨σ15, H15, I15, hw15, q15⟩ => ?_
            refine thnF (p6.run _ s15 σ15 H15 _ I15 q15) fun b1 s16 ⟨H16, I16, q16⟩ => ?_
            have back1 : ∀ {s' : Shared} {H' : Hp}, Inv Y (([] ++ pinsAt fp s7.heap) ++ pinsAt fp1 s14.heap) σ15 H' s' → Nx1 H' → ∃ m, m < k ∧ In1 m s' := fun {s' H'} J' nx => by
              obtain ⟨m', hm, w'⟩ := hNx1 H' nx
              have pn : ∀ b ∈ fp1, ∀ o, s14.heap.get? b = some o → s'.heap.get? b = some o ∧ H' b = none := fun b hb o e => let z := J'.pin (b, o) (List.mem_append_right _ (List.mem_append_right _ (mem_pinsAt hb e))); ⟨z.1, z.2.1⟩
              exact ⟨m', hm, j + 1, H', J'.unpinned.weak (by rw [← hw15, wipe_length]) (fun j v e => by rw [← hw15] at e; exact (wipe_some e).1), T1.keep _ _ _ st14 fun b hb o e => (pn b hb o e).1, fun b hb => (let ⟨o, e, _⟩ := T1.obj _ _ st14 b hb; (pn b hb o e).2), w'⟩
            match b1, q16 with
            | false, q16 =>
              have q16 : Nx1 H16 := q16
              exact back1 I16 q16
            | true, q16 =>
              refine thnF (p3.run _ s16 σ15 H16 _ I16 q16) fun z s17 ⟨yv, H17, I17, r17, zz, S0, n0, ey, hD17, room17, nx⟩ => ?_
              subst ey
              obtain ⟨tk, rfl⟩ : ∃ tk, z = Value.str zz tk := r17
              exact ss_add (X := Y) I17 hD17 room17 fun s18 I18 => back1 I18 nx
        exact startS_1 loop1 (T1.self X.A 0 _ _ _ st11 loop1)
  exact PpSet.codeAny_compStart_set loop (T.self X.A 0 _ _ _ st4 loop)
end
end Pu

end

section
/-! PuW: sets of texts, comprehensions of two clauses, in the plain layer. -/
namespace Pu
open PySem L2 PyProof.Rows RZ

/-! ### no own lists -/
def unown (env : EV) : EV := env.map fun s => match s with
  | some (.own _) => none
  | some (.ownD _) => none
  | s => s
section
variable {K : PySem.W.Frag} {F : Fr} {Hb H : Hp} {σ : L2.St} {env : EV}
theorem unown_get {i : Nat} {s : Sl} (e : (unown env)[i]? = some (some s)) : env[i]? = some (some s) ∧ ¬ s.isOwn := by
  unfold unown at e
  rw [List.getElem?_map] at e
  match h : env[i]? with
  | none => rw [h] at e; cases e
  | some none => rw [h] at e; cases e
  | some (some (.own xs)) => rw [h] at e; cases e
  | some (some (.ownD xs)) => rw [h] at e; cases e
  | some (some (.d x)) => rw [h] at e; cases e; exact ⟨rfl, fun z => z.elim⟩
  | some (some (.v x)) => rw [h] at e; cases e; exact ⟨rfl, fun z => z.elim⟩
  | some (some .src) => rw [h] at e; cases e; exact ⟨rfl, fun z => z.elim⟩
theorem Rep.unown (r : Rep K F Hb H σ env) : Rep K F Hb H σ (Pu.unown env) :=
  ⟨r.step, r.mid, by simpa [Pu.unown] using r.len, fun i s e => r.sl i s (unown_get e).1, fun i j t1 t2 p _ e _ o1 _ _ => absurd o1 (unown_get e).2⟩
/-- an unknown object is written -/
theorem Rep.swap (r : Rep K F Hb H σ (Pu.unown env)) {D : Addr} (o : HO) (h0 : F.H0 D = none) (hb : Hb D = none) (nD : ¬ F.hid.has D) : Rep K F Hb (upd H D o) σ (Pu.unown env) := by
  refine ⟨⟨⟨fun b u e => ?_, r.st.ok.keeps fun b u hb' e => ?_, r.st.out⟩, r.step.ex, r.step.new, fun b u e hb' => ?_⟩, r.mid, r.len, fun i s e => ?_, fun i j t1 t2 p _ e _ o1 _ _ => absurd o1 (unown_get e).2⟩
  · rw [upd_ne (fun z : b = D => by rw [z, hb] at e; cases e)]; exact r.st.ex b u e
  · rw [upd_ne (fun z : b = D => nD (z ▸ hb'))]; exact e
  · rw [upd_ne (ne_of_none e h0)]; exact r.step.keep b u e hb'
  · obtain ⟨v, e1, e2, e3⟩ := r.sl i s e
    refine ⟨v, e1, ?_, e3⟩
    match s, (unown_get e).2, e2 with
    | .d x, _, e2 => exact e2
    | .v x, _, e2 => exact e2
    | .src, _, e2 => exact e2
    | .own xs, n, _ => exact absurd trivial n
    | .ownD xs, n, _ => exact absurd trivial n
end
/-! ### sorted(set(xs)) -/
def sortedOf (xs : List Str) (Q : DK) : Prop := ∀ ys : List Str, sortedS ys = true → ys.Nodup → (∀ k, k ∈ ys ↔ k ∈ xs) → Q (.own (ys.map PyData.str))
def fSortSet : FN := fun ss Q => match ss with
  | [.d (.list ds)] => ∃ xs, strsD ds = some xs ∧ xs.length + 1 < scanBound ∧ sortedOf xs Q
  | _ => False
section
variable {K : PySem.W.Frag} {F : Fr} {hid : Hid} {P : Program} {w : World}
theorem memB_iff {xs : List Str} {k : Str} : memB xs k = true ↔ k ∈ xs := by unfold memB; exact decide_eq_true_iff
theorem sort_end {Hb Hb1 H H1 : Hp} {D : Addr} {xs : List Str} {n : Nat} {Q : DK} {k : VK} (st : Step hid Hb H Hb1 H1) (hD : H1 D = some (SSo P w D (memB xs) n)) (q : sortedOf xs Q)
    (c : ∀ v Hb' H' s', Step hid Hb H Hb' H' → RepSl K hid Hb' H' v s' → FrSl H v s' → Q s' → k v H') : rSortSS P w [V.ref D] H1 k := by
  refine ⟨D, memB xs, n, rfl, hD, fun ys p h1 h2 h3 _ _ hp => ?_⟩
  obtain ⟨s2, r2, f2⟩ := own_new (K := K) st.st hp (strs_all (K := K) (Hb := Hb1) ys)
  exact c _ Hb1 _ (.own _) (st.trans s2) r2 (FrSl.back st f2) (q ys h1 h2 fun k => (h3 k).trans memB_iff)
theorem sd_sortSet {ta : TA} {fa : DTA} (h : SdA K F ta fa) : SdE K F (tCB (rSortSS P w) (tCons (tCB (rSetS K P w) ta) tNil)) (dCall fSortSet fa) := by
  intro Hb H σ env Q k rp q c
  refine h Hb H σ env _ _ rp q fun vs Hb1 H1 ss st1 rs1 q1 => ?_
  unfold fSortSet at q1
  split at q1
  · rename_i ds
    obtain ⟨xs, e, hb, q1⟩ := q1
    obtain ⟨v, rfl, h⟩ := rep1 rs1
    cases (show Dq K Hb1 v (.list ds) from h) with
    | lst h1 h2 =>
      have ev := strs_rep h2 e
      subst ev
      refine ⟨_, xs, rfl, SqL.of (st1.st.ex _ _ h1), hb, fun p n hp hn => ?_⟩
      exact sort_end (K := K) (st1.trans (Step.raw st1.st hp)) upd_same q1 c
  · exact q1.elim
end
section
variable {X : Cx} {F : Fr} {K : PySem.W.Frag} {e : Expr} {ta : TA} {fa : DTA} {p p2 pos pos2 : Pos}
theorem k_sortSet (q : X.K = K) (h1 : X.mg "sorted" = none) (h2 : X.mg "set" = none) (ha : DA X F [e] ta fa) (hc : X.calm = true := by rfl) (hg : Gl X "sorted" := by rfl) (hg2 : Gl X "set" := by rfl)
    (hs : starEach [e] X.env = (false, eval e X.env) :: starEach [] X.env := by rfl) (hs2 : starEach [.Call (.Name "set" p2) [e] [] pos2] X.env = (false, eval (.Call (.Name "set" p2) [e] [] pos2) X.env) :: starEach [] X.env := by rfl) :
    DE X F (.Call (.Name "sorted" p) [.Call (.Name "set" p2) [e] [] pos2] [] pos) (tCB (rSortSS X.prog X.w) (tCons (tCB (rSetS K X.prog X.w) ta) tNil)) (dCall fSortSet fa) := by
  subst q
  exact ⟨pe_callB (cr_sortSS hc) hg h1 (by decide +kernel) (pa_cons (pe_callTy (cr_setS hc) hg2 h2 (by decide +kernel) ha.pe (by decide) (by decide) hs) pa_nil hs2) (by decide) (by decide) hs2, sd_sortSet ha.sd⟩
end

/-! ### sorted({z for .. for ..}) of texts -/
def dSsGo (g : DTG) (tt : DTT) (te : DTE) (env : EV) : List PyData → List Str → (List Str → Prop) → Prop
  | [], acc, Q => Q acc
  | y :: ys, acc, Q => g (.d y) env fun env1 => tt env1 fun b => if b = true then te env1 fun s => ∃ z, s.fz = .d (.str z) ∧ acc.length + 1 < scanBound ∧ dSsGo g tt te env ys (acc ++ [z]) Q else dSsGo g tt te env ys acc Q
def dSsGo2 (g : DTG) (tt : DTT) (ti1 : DTI) (g1 : DTG) (tt1 : DTT) (te : DTE) (js1 : List Nat) (env : EV) : List PyData → List Str → (List Str → Prop) → Prop
  | [], acc, Q => Q acc
  | y :: ys, acc, Q => g (.d y) env fun env1 => tt env1 fun b => if b = true then ti1 (unown env1) fun zs => dSsGo g1 tt1 te (wipeE (unown env1) js1) zs acc fun acc' => dSsGo2 g tt ti1 g1 tt1 te js1 env ys acc' Q else dSsGo2 g tt ti1 g1 tt1 te js1 env ys acc Q
def dSs2 (ti : DTI) (g : DTG) (tt : DTT) (ti1 : DTI) (g1 : DTG) (tt1 : DTT) (te : DTE) (js js1 : List Nat) : DTE := fun env Q => ti env fun ys => dSsGo2 g tt ti1 g1 tt1 te js1 (wipeE env js) ys [] fun zs => sortedOf zs Q
section
variable {K : PySem.W.Frag} {F : Fr} {P : Program} {w : World}
theorem memB_app {xs : List Str} {z : Str} : memB (xs ++ [z]) = fun j => memB xs j || decide (j = z) := by
  funext j
  unfold memB
  simp [List.mem_append]
theorem drop_at {ys : List PyData} {i : Nat} {d : PyData} (hd : ys[i]? = some d) : ys.drop i = d :: ys.drop (i + 1) := by
  obtain ⟨h1, h2⟩ := List.getElem?_eq_some_iff.mp hd
  rw [List.drop_eq_getElem_cons h1, h2]
theorem sd_Ss2 {js js1 : List Nat} {wi wi1 : TI} {g g1 : TG} {tt tt1 : TT} {te : TE} {fi fi1 : DTI} {fg fg1 : DTG} {ft ft1 : DTT} {fe : DTE} (hi : SdI K F wi fi) (hg : SdG K F js g fg) (ht : SdT K F tt ft) (hi1 : SdI K F wi1 fi1) (hg1 : SdG K F js1 g1 fg1) (ht1 : SdT K F tt1 ft1) (he : SdE K F te fe) :
    SdE K F (tCB (rSortSS P w) (tCons (tSs2 P w wi g tt wi1 g1 tt1 te js js1) tNil)) (dSs2 fi fg ft fi1 fg1 ft1 fe js js1) := by
  intro Hb H σ env Q k r q c
  refine hi Hb H σ env _ _ r q fun J Hb1 H1 ys st1 gv q1 => ?_
  obtain ⟨Gd, Y, wk, hGd, hY⟩ := gv.ex
  intro D hD
  have r1 := r.on st1
  have nD : ¬ F.hid.has D := fun z => by obtain ⟨o, e⟩ := st1.st.ok.there z; rw [hD] at e; cases e
  have bD : Hb1 D = none := none_back (fun o e => st1.st.ex D o e) hD
  -- D keeps standing, unknown
  have keepD : ∀ {Ha Hc Hbb Hbc : Hp} {o : HO}, Step F.hid Hbb Ha Hbc Hc → Ha D = some o → Hbb D = none → Hc D = some o ∧ Hbc D = none := fun {Ha Hc Hbb Hbc o} t h1 h2 => by
    refine ⟨t.keep D _ h1 nD, ?_⟩
    cases z : Hbc D with
    | none => rfl
    | some u =>
      have := t.new D u z h2
      rw [h1] at this; cases this
  -- D written: the rest as it was
  have write : ∀ {Hbx Hx : Hp} (o : HO), Step F.hid Hb1 H1 Hbx Hx → Hbx D = none → Step F.hid Hb1 H1 Hbx (upd Hx D o) := fun {Hbx Hx} o s hN =>
    ⟨⟨fun b u e => by rw [upd_ne (fun z : b = D => by rw [z, hN] at e; cases e)]; exact s.st.ex b u e, s.st.ok.keeps fun b u hb e => by rw [upd_ne (fun z : b = D => nD (z ▸ hb))]; exact e, s.st.out⟩, s.ex, s.new,
      fun b u e hb => by rw [upd_ne (ne_of_none e hD)]; exact s.keep b u e hb⟩
  let Fin : List Str → Prop := fun zs => sortedOf zs Q
  let In (i : Nat) (H' : Hp) : Prop := ∃ Hb' n xs, Step F.hid Hb1 H1 Hb' H' ∧ H' D = some (SSo P w D (memB xs) n) ∧ Hb' D = none ∧ n ≤ xs.length ∧ dSsGo2 fg ft fi1 fg1 ft1 fe js1 (wipeE env js) (ys.drop i) xs Fin
  refine ⟨fun i m H' => m = ys.length - i ∧ i ≤ ys.length ∧ In i H', ⟨ys.length, by simp, Nat.zero_le _, Hb1, 0, [], Step.raw st1.st hD, upd_same, bD, Nat.zero_le _, q1⟩, ?_⟩
  rintro i m H' ⟨rfl, hle, Hb', n, xs, s, hA, hN, hl, q'⟩
  have gd := hGd H' (s.ex.trans s.st.ex)
  by_cases hlt : i < ys.length
  · refine .inr ⟨wk.goes i H' hlt gd, In (i + 1), fun H2 p => ⟨_, (by omega : ys.length - (i + 1) < ys.length - i), rfl, hlt, p⟩, fun x H2 y => ?_⟩
    obtain ⟨Hb2, d, hd, st2, hx⟩ := hY i Hb' H' x H2 hlt s.st s.ex (wk.yields i H' x H2 hlt gd y)
    rw [drop_at hd] at q'
    obtain ⟨hA2, hN2⟩ := keepD st2 hA hN
    have rw2 := (r1.on (s.trans st2)).wipe js
    refine hg Hb2 H2 _ _ x (.d d) _ _ rw2 hx rfl q' fun σ3 env3 o3 r3 q3 => ⟨by rw [wipe_off o3, wipe_idem], ?_⟩
    refine ht Hb2 H2 σ3 env3 _ _ r3 q3 fun b Hb3 H3 st3 q4 => ?_
    obtain ⟨hA3, hN3⟩ := keepD st3 hA2 hN2
    have s3 := (s.trans st2).trans st3
    have r3 := r3.on st3
    match b, q4 with
    | false, q4 => exact ⟨Hb3, n, xs, s3, hA3, hN3, hl, q4⟩
    | true, q4 =>
      show wi1 σ3 H3 _
      refine hi1 Hb3 H3 σ3 (unown env3) _ _ r3.unown q4 fun J1 Hb4 H4 zs st4 gv1 q5 => ?_
      obtain ⟨Gd1, Y1, wk1, hGd1, hY1⟩ := gv1.ex
      obtain ⟨hA4, hN4⟩ := keepD st4 hA3 hN3
      let Fin1 : List Str → Prop := fun acc' => dSsGo2 fg ft fi1 fg1 ft1 fe js1 (wipeE env js) (ys.drop (i + 1)) acc' Fin
      let In1 (j : Nat) (H' : Hp) : Prop := ∃ Hb' n xs, Step F.hid Hb1 H1 Hb' H' ∧ Same Hb4 Hb' ∧ Rep K F Hb' H' σ3 (unown env3) ∧ H' D = some (SSo P w D (memB xs) n) ∧ Hb' D = none ∧ n ≤ xs.length ∧ dSsGo fg1 ft1 fe (wipeE (unown env3) js1) (zs.drop j) xs Fin1
      refine ⟨fun j k H' => k = zs.length - j ∧ j ≤ zs.length ∧ In1 j H', ⟨zs.length, by simp, Nat.zero_le _, Hb4, n, xs, s3.trans st4, Same.refl _, r3.unown.on st4, hA4, hN4, hl, q5⟩, ?_⟩
      rintro j k H5 ⟨rfl, hle1, Hb5, n5, xs5, s5, same5, r5, hA5, hN5, hl5, q6⟩
      have gd1 := hGd1 H5 (same5.trans s5.st.ex)
      by_cases hlt1 : j < zs.length
      · refine .inr ⟨wk1.goes j H5 hlt1 gd1, In1 (j + 1), fun H6 p => ⟨_, (by omega : zs.length - (j + 1) < zs.length - j), rfl, hlt1, p⟩, fun x1 H6 y1 => ?_⟩
        obtain ⟨Hb6, d1, hd1, st6, hx1⟩ := hY1 j Hb5 H5 x1 H6 hlt1 s5.st same5 (wk1.yields j H5 x1 H6 hlt1 gd1 y1)
        rw [drop_at hd1] at q6
        obtain ⟨hA6, hN6⟩ := keepD st6 hA5 hN5
        have r6 := r5.on st6
        refine hg1 Hb6 H6 _ _ x1 (.d d1) _ _ (r6.wipe js1) hx1 rfl q6 fun σ7 env7 o7 r7 q7 => ⟨by rw [wipe_off o7, wipe_idem], ?_⟩
        refine ht1 Hb6 H6 σ7 env7 _ _ r7 q7 fun b1 Hb8 H8 st8 q8 => ?_
        obtain ⟨hA8, hN8⟩ := keepD st8 hA6 hN6
        match b1, q8 with
        | false, q8 => exact ⟨Hb8, n5, xs5, (s5.trans st6).trans st8, same5.trans (st6.ex.trans st8.ex), r6.on st8, hA8, hN8, hl5, q8⟩
        | true, q8 =>
          show te σ7 H8 _
          refine he.go (Q := fun s => ∃ z, s = .d (.str z) ∧ xs5.length + 1 < scanBound ∧ dSsGo fg1 ft1 fe (wipeE (unown env3) js1) (zs.drop (j + 1)) (xs5 ++ [z]) Fin1) (r7.on st8) q8 fun v Hb9 H9 u st9 ru _ q9 => ?_
          obtain ⟨z, eu, lim, q9⟩ := q9
          subst eu
          obtain ⟨hA9, hN9⟩ := keepD st9 hA8 hN8
          have s9 := ((s5.trans st6).trans st8).trans st9
          have nx : ∀ o : HO, Step F.hid Hb1 H1 Hb9 (upd H9 D o) ∧ Same Hb4 Hb9 ∧ Rep K F Hb9 (upd H9 D o) σ3 (unown env3) := fun o => ⟨write o s9 hN9, same5.trans (st6.ex.trans (st8.ex.trans st9.ex)), ((r6.on st8).on st9).swap o (r1.step.back hD) hN9 nD⟩
          obtain rfl := str_of ru
          refine ⟨z, memB xs5, n5, rfl, hA9, Nat.lt_of_le_of_lt (Nat.succ_le_succ hl5) lim, ?_⟩
          obtain ⟨a1, a2, a3⟩ := nx (SSo P w D (fun j => memB xs5 j || decide (j = z)) (if memB xs5 z = true then n5 else n5 + 1))
          refine ⟨Hb9, if memB xs5 z = true then n5 else n5 + 1, xs5 ++ [z], a1, a2, a3, ?_, hN9, ?_, q9⟩
          · rw [upd_same, memB_app]
          · rw [List.length_append]; simp only [List.length_singleton]; split <;> omega
      · obtain rfl : j = zs.length := by omega
        rw [List.drop_length] at q6
        exact .inl ⟨wk1.stops H5 gd1, Hb5, n5, xs5, s5, hA5, hN5, hl5, q6⟩
  · obtain rfl : i = ys.length := by omega
    rw [List.drop_length] at q'
    exact .inl ⟨wk.stops H' gd, sort_end (K := K) (st1.trans s) hA q' c⟩
end

/-! ### [e for .. for ..] -/
def dLcGa (g : DTG) (tt : DTT) (te : DTE) (env : EV) : List PyData → List PyData → (List PyData → Prop) → Prop
  | [], acc, Q => Q acc
  | y :: ys, acc, Q => g (.d y) env fun env1 => tt env1 fun b => if b = true then te env1 fun s => ∃ z, s.fz = .d z ∧ acc.length < sizeLine ∧ dLcGa g tt te env ys (acc ++ [z]) Q else dLcGa g tt te env ys acc Q
def dLcGa2 (g : DTG) (tt : DTT) (ti1 : DTI) (g1 : DTG) (tt1 : DTT) (te : DTE) (js1 : List Nat) (env : EV) : List PyData → List PyData → (List PyData → Prop) → Prop
  | [], acc, Q => Q acc
  | y :: ys, acc, Q => g (.d y) env fun env1 => tt env1 fun b => if b = true then ti1 (unown env1) fun zs => dLcGa g1 tt1 te (wipeE (unown env1) js1) zs acc fun acc' => dLcGa2 g tt ti1 g1 tt1 te js1 env ys acc' Q else dLcGa2 g tt ti1 g1 tt1 te js1 env ys acc Q
def dLc2 (ti : DTI) (g : DTG) (tt : DTT) (ti1 : DTI) (g1 : DTG) (tt1 : DTT) (te : DTE) (js js1 : List Nat) : DTE := fun env Q => ti env fun ys => dLcGa2 g tt ti1 g1 tt1 te js1 (wipeE env js) ys [] fun zs => Q (.own zs)
section
variable {K : PySem.W.Frag} {F : Fr} {P : Program} {w : World}
theorem sd_Lc2 {js js1 : List Nat} {wi wi1 : TI} {g g1 : TG} {tt tt1 : TT} {te : TE} {fi fi1 : DTI} {fg fg1 : DTG} {ft ft1 : DTT} {fe : DTE} (hi : SdI K F wi fi) (hg : SdG K F js g fg) (ht : SdT K F tt ft) (hi1 : SdI K F wi1 fi1) (hg1 : SdG K F js1 g1 fg1) (ht1 : SdT K F tt1 ft1) (he : SdE K F te fe) :
    SdE K F (tLc2 wi g tt wi1 g1 tt1 te js js1) (dLc2 fi fg ft fi1 fg1 ft1 fe js js1) := by
  intro Hb H σ env Q k r q c
  refine hi Hb H σ env _ _ r q fun J Hb1 H1 ys st1 gv q1 => ?_
  obtain ⟨Gd, Y, wk, hGd, hY⟩ := gv.ex
  intro D hD
  have r1 := r.on st1
  have nD : ¬ F.hid.has D := fun z => by obtain ⟨o, e⟩ := st1.st.ok.there z; rw [hD] at e; cases e
  have bD : Hb1 D = none := none_back (fun o e => st1.st.ex D o e) hD
  -- D keeps standing, unknown
  have keepD : ∀ {Ha Hc Hbb Hbc : Hp} {o : HO}, Step F.hid Hbb Ha Hbc Hc → Ha D = some o → Hbb D = none → Hc D = some o ∧ Hbc D = none := fun {Ha Hc Hbb Hbc o} t h1 h2 => by
    refine ⟨t.keep D _ h1 nD, ?_⟩
    cases z : Hbc D with
    | none => rfl
    | some u =>
      have := t.new D u z h2
      rw [h1] at this; cases this
  -- D written: the rest as it was
  have write : ∀ {Hbx Hx : Hp} (o : HO), Step F.hid Hb1 H1 Hbx Hx → Hbx D = none → Step F.hid Hb1 H1 Hbx (upd Hx D o) := fun {Hbx Hx} o s hN =>
    ⟨⟨fun b u e => by rw [upd_ne (fun z : b = D => by rw [z, hN] at e; cases e)]; exact s.st.ex b u e, s.st.ok.keeps fun b u hb e => by rw [upd_ne (fun z : b = D => nD (z ▸ hb))]; exact e, s.st.out⟩, s.ex, s.new,
      fun b u e hb => by rw [upd_ne (ne_of_none e hD)]; exact s.keep b u e hb⟩
  let Fin : List PyData → Prop := fun zs => Q (.own zs)
  let In (i : Nat) (H' : Hp) : Prop := ∃ Hb' n xs, Step F.hid Hb1 H1 Hb' H' ∧ H' D = some (.lst n) ∧ Hb' D = none ∧ DqAll K Hb' n xs ∧ dLcGa2 fg ft fi1 fg1 ft1 fe js1 (wipeE env js) (ys.drop i) xs Fin
  refine ⟨fun i m H' => m = ys.length - i ∧ i ≤ ys.length ∧ In i H', ⟨ys.length, by simp, Nat.zero_le _, Hb1, [], [], Step.raw st1.st hD, upd_same, bD, .nil, q1⟩, ?_⟩
  rintro i m H' ⟨rfl, hle, Hb', n, xs, s, hA, hN, hl, q'⟩
  have gd := hGd H' (s.ex.trans s.st.ex)
  by_cases hlt : i < ys.length
  · refine .inr ⟨wk.goes i H' hlt gd, In (i + 1), fun H2 p => ⟨_, (by omega : ys.length - (i + 1) < ys.length - i), rfl, hlt, p⟩, fun x H2 y => ?_⟩
    obtain ⟨Hb2, d, hd, st2, hx⟩ := hY i Hb' H' x H2 hlt s.st s.ex (wk.yields i H' x H2 hlt gd y)
    rw [drop_at hd] at q'
    obtain ⟨hA2, hN2⟩ := keepD st2 hA hN
    have rw2 := (r1.on (s.trans st2)).wipe js
    refine hg Hb2 H2 _ _ x (.d d) _ _ rw2 hx rfl q' fun σ3 env3 o3 r3 q3 => ⟨by rw [wipe_off o3, wipe_idem], ?_⟩
    refine ht Hb2 H2 σ3 env3 _ _ r3 q3 fun b Hb3 H3 st3 q4 => ?_
    obtain ⟨hA3, hN3⟩ := keepD st3 hA2 hN2
    have s3 := (s.trans st2).trans st3
    have r3 := r3.on st3
    match b, q4 with
    | false, q4 => exact ⟨Hb3, n, xs, s3, hA3, hN3, (DqAll.mono (st2.ex.trans st3.ex) hl), q4⟩
    | true, q4 =>
      show wi1 σ3 H3 _
      refine hi1 Hb3 H3 σ3 (unown env3) _ _ r3.unown q4 fun J1 Hb4 H4 zs st4 gv1 q5 => ?_
      obtain ⟨Gd1, Y1, wk1, hGd1, hY1⟩ := gv1.ex
      obtain ⟨hA4, hN4⟩ := keepD st4 hA3 hN3
      let Fin1 : List PyData → Prop := fun acc' => dLcGa2 fg ft fi1 fg1 ft1 fe js1 (wipeE env js) (ys.drop (i + 1)) acc' Fin
      let In1 (j : Nat) (H' : Hp) : Prop := ∃ Hb' n xs, Step F.hid Hb1 H1 Hb' H' ∧ Same Hb4 Hb' ∧ Rep K F Hb' H' σ3 (unown env3) ∧ H' D = some (.lst n) ∧ Hb' D = none ∧ DqAll K Hb' n xs ∧ dLcGa fg1 ft1 fe (wipeE (unown env3) js1) (zs.drop j) xs Fin1
      refine ⟨fun j k H' => k = zs.length - j ∧ j ≤ zs.length ∧ In1 j H', ⟨zs.length, by simp, Nat.zero_le _, Hb4, n, xs, s3.trans st4, Same.refl _, r3.unown.on st4, hA4, hN4, (DqAll.mono (st2.ex.trans (st3.ex.trans st4.ex)) hl), q5⟩, ?_⟩
      rintro j k H5 ⟨rfl, hle1, Hb5, n5, xs5, s5, same5, r5, hA5, hN5, hl5, q6⟩
      have gd1 := hGd1 H5 (same5.trans s5.st.ex)
      by_cases hlt1 : j < zs.length
      · refine .inr ⟨wk1.goes j H5 hlt1 gd1, In1 (j + 1), fun H6 p => ⟨_, (by omega : zs.length - (j + 1) < zs.length - j), rfl, hlt1, p⟩, fun x1 H6 y1 => ?_⟩
        obtain ⟨Hb6, d1, hd1, st6, hx1⟩ := hY1 j Hb5 H5 x1 H6 hlt1 s5.st same5 (wk1.yields j H5 x1 H6 hlt1 gd1 y1)
        rw [drop_at hd1] at q6
        obtain ⟨hA6, hN6⟩ := keepD st6 hA5 hN5
        have r6 := r5.on st6
        refine hg1 Hb6 H6 _ _ x1 (.d d1) _ _ (r6.wipe js1) hx1 rfl q6 fun σ7 env7 o7 r7 q7 => ⟨by rw [wipe_off o7, wipe_idem], ?_⟩
        refine ht1 Hb6 H6 σ7 env7 _ _ r7 q7 fun b1 Hb8 H8 st8 q8 => ?_
        obtain ⟨hA8, hN8⟩ := keepD st8 hA6 hN6
        match b1, q8 with
        | false, q8 => exact ⟨Hb8, n5, xs5, (s5.trans st6).trans st8, same5.trans (st6.ex.trans st8.ex), r6.on st8, hA8, hN8, (DqAll.mono (st6.ex.trans st8.ex) hl5), q8⟩
        | true, q8 =>
          show te σ7 H8 _
          refine he.go (Q := fun s => ∃ z, s = .d z ∧ xs5.length < sizeLine ∧ dLcGa fg1 ft1 fe (wipeE (unown env3) js1) (zs.drop (j + 1)) (xs5 ++ [z]) Fin1) (r7.on st8) q8 fun v Hb9 H9 u st9 ru _ q9 => ?_
          obtain ⟨z, eu, lim, q9⟩ := q9
          subst eu
          obtain ⟨hA9, hN9⟩ := keepD st9 hA8 hN8
          have s9 := ((s5.trans st6).trans st8).trans st9
          have nx : ∀ o : HO, Step F.hid Hb1 H1 Hb9 (upd H9 D o) ∧ Same Hb4 Hb9 ∧ Rep K F Hb9 (upd H9 D o) σ3 (unown env3) := fun o => ⟨write o s9 hN9, same5.trans (st6.ex.trans (st8.ex.trans st9.ex)), ((r6.on st8).on st9).swap o (r1.step.back hD) hN9 nD⟩
          obtain ⟨a1, a2, a3⟩ := nx (.lst (n5 ++ [v]))
          refine ⟨n5, hA9, by rw [DqAll.length hl5]; exact lim, Hb9, n5 ++ [v], xs5 ++ [z], a1, a2, a3, upd_same, hN9, ?_, q9⟩
          exact DqAll.append (DqAll.mono (st6.ex.trans (st8.ex.trans st9.ex)) hl5) (.cons ru .nil)
      · obtain rfl : j = zs.length := by omega
        rw [List.drop_length] at q6
        exact .inl ⟨wk1.stops H5 gd1, Hb5, n5, xs5, s5, hA5, hN5, hl5, q6⟩
  · obtain rfl : i = ys.length := by omega
    rw [List.drop_length] at q'
    exact .inl ⟨wk.stops H' gd, c (.ref D) Hb' H' (.own xs) (st1.trans s) ⟨D, n, rfl, hA, hl, hN, nD⟩ (fun p e => by cases e; exact st1.back hD) q'⟩
end

/-! ### the rules -/
section
variable {X : Cx} {F : Fr} {K : PySem.W.Frag} {tg iter tg1 iter1 elt : Expr} {te : TE} {fe : DTE} {wi wi1 : TI} {fi fi1 : DTI} {g g1 : TG} {fg fg1 : DTG} {tt tt1 : TT} {ft ft1 : DTT} {pos p2 p3 : Pos} {ifs ifs1 : List Expr} {scope : Scope} {own : List (Str × Nat)} {vs1 : List Nat}
theorem de_lc2 (hN : X.N.Nodup) (hi : DI X F tg iter wi fi) (ok : BlkOk X.N X.env.scope scope own) (hv : ∀ i ∈ vs1, i ∈ own.map (·.2))
    (hg : ∀ (s : Shared) (H : Hp) (C : Addr) (cl : List (Str × Addr)) (fp : List Addr), DG (X.blk s H scope (compEnvC scope cl C X.env) fp) F (own.map (·.2)) tg g fg) (ht : ∀ (s : Shared) (H : Hp) (C : Addr) (cl : List (Str × Addr)) (fp : List Addr), DP (X.blk s H scope (compEnvC scope cl C X.env) fp) F ifs tt ft)
    (hi1 : ∀ (s : Shared) (H : Hp) (C : Addr) (cl : List (Str × Addr)) (fp : List Addr), DI (X.blk s H scope (compEnvC scope cl C X.env) fp) F tg1 iter1 wi1 fi1)
    (hg1 : ∀ (s : Shared) (H : Hp) (C : Addr) (cl : List (Str × Addr)) (fp : List Addr), DG (X.blk s H scope (compEnvC scope cl C X.env) fp) F vs1 tg1 g1 fg1) (ht1 : ∀ (s : Shared) (H : Hp) (C : Addr) (cl : List (Str × Addr)) (fp : List Addr), DP (X.blk s H scope (compEnvC scope cl C X.env) fp) F ifs1 tt1 ft1)
    (he : ∀ (s : Shared) (H : Hp) (C : Addr) (cl : List (Str × Addr)) (fp : List Addr), DE (X.blk s H scope (compEnvC scope cl C X.env) fp) F elt te fe) (hc : X.calm = true := by rfl) (hs : ∀ x, foldedSetIterable iter X.env x = pure x := by intro _; rfl) (hs1 : ∀ env x, foldedSetIterable iter1 env x = pure x := by intro _ _; rfl) :
    DE X F (.ListComp elt [⟨tg, iter, ifs, 0⟩, ⟨tg1, iter1, ifs1, 0⟩] scope pos) (tLc2 wi g tt wi1 g1 tt1 te (own.map (·.2)) vs1) (dLc2 fi fg ft fi1 fg1 ft1 fe (own.map (·.2)) vs1) :=
  ⟨pe_lc2 hc hN hi.pe ok hv (fun s H C cl fp => (hg s H C cl fp).pe) (fun s H C cl fp => (ht s H C cl fp).pe) (fun s H C cl fp => (hi1 s H C cl fp).pe) (fun s H C cl fp => (hg1 s H C cl fp).pe) (fun s H C cl fp => (ht1 s H C cl fp).pe) (fun s H C cl fp => (he s H C cl fp).pe) hs hs1,
    sd_Lc2 hi.sd (hg {} (fun _ => none) 0 [] []).sd (ht {} (fun _ => none) 0 [] []).sd (hi1 {} (fun _ => none) 0 [] []).sd (hg1 {} (fun _ => none) 0 [] []).sd (ht1 {} (fun _ => none) 0 [] []).sd (he {} (fun _ => none) 0 [] []).sd⟩
theorem ds_setLc2 (i : Nat) {y : Str} {py spos : Pos} (hN : X.N.Nodup) (hi : DI X F tg iter wi fi) (ok : BlkOk X.N X.env.scope scope own) (hv : ∀ i ∈ vs1, i ∈ own.map (·.2))
    (hg : ∀ (s : Shared) (H : Hp) (C : Addr) (cl : List (Str × Addr)) (fp : List Addr), DG (X.blk s H scope (compEnvC scope cl C X.env) fp) F (own.map (·.2)) tg g fg) (ht : ∀ (s : Shared) (H : Hp) (C : Addr) (cl : List (Str × Addr)) (fp : List Addr), DP (X.blk s H scope (compEnvC scope cl C X.env) fp) F ifs tt ft)
    (hi1 : ∀ (s : Shared) (H : Hp) (C : Addr) (cl : List (Str × Addr)) (fp : List Addr), DI (X.blk s H scope (compEnvC scope cl C X.env) fp) F tg1 iter1 wi1 fi1)
    (hg1 : ∀ (s : Shared) (H : Hp) (C : Addr) (cl : List (Str × Addr)) (fp : List Addr), DG (X.blk s H scope (compEnvC scope cl C X.env) fp) F vs1 tg1 g1 fg1) (ht1 : ∀ (s : Shared) (H : Hp) (C : Addr) (cl : List (Str × Addr)) (fp : List Addr), DP (X.blk s H scope (compEnvC scope cl C X.env) fp) F ifs1 tt1 ft1)
    (he : ∀ (s : Shared) (H : Hp) (C : Addr) (cl : List (Str × Addr)) (fp : List Addr), DE (X.blk s H scope (compEnvC scope cl C X.env) fp) F elt te fe)
    (hsw : swapsWith (.ListComp elt [⟨tg, iter, ifs, 0⟩, ⟨tg1, iter1, ifs1, 0⟩] scope pos) (some (.Name y py)) spos.line X.env = pure true) (hc : X.calm = true := by rfl) (hs : ∀ x, foldedSetIterable iter X.env x = pure x := by intro _; rfl) (hs1 : ∀ env x, foldedSetIterable iter1 env x = pure x := by intro _ _; rfl)
    (hy : X.N[i]? = some y := by rfl) (hyl : X.env.scope.names.lookup y = some .local := by rfl) :
    DS X F (.Assign [.Name y py] (.ListComp elt [⟨tg, iter, ifs, 0⟩, ⟨tg1, iter1, ifs1, 0⟩] scope pos) spos) (tAsg (tLc2 wi g tt wi1 g1 tt1 te (own.map (·.2)) vs1) (gName i)) (dSet (dLc2 fi fg ft fi1 fg1 ft1 fe (own.map (·.2)) vs1) i) :=
  ⟨ps_setLc2 hc hN hy hyl hsw hi.pe ok hv (fun s H C cl fp => (hg s H C cl fp).pe) (fun s H C cl fp => (ht s H C cl fp).pe) (fun s H C cl fp => (hi1 s H C cl fp).pe) (fun s H C cl fp => (hg1 s H C cl fp).pe) (fun s H C cl fp => (ht1 s H C cl fp).pe) (fun s H C cl fp => (he s H C cl fp).pe) hs hs1,
    sd_set i (sd_Lc2 hi.sd (hg {} (fun _ => none) 0 [] []).sd (ht {} (fun _ => none) 0 [] []).sd (hi1 {} (fun _ => none) 0 [] []).sd (hg1 {} (fun _ => none) 0 [] []).sd (ht1 {} (fun _ => none) 0 [] []).sd (he {} (fun _ => none) 0 [] []).sd)⟩
/-- sorted({elt for tg in iter for tg1 in iter1}) -/
theorem de_sortSs2 (h1 : X.mg "sorted" = none) (hN : X.N.Nodup) (hi : DI X F tg iter wi fi) (ok : BlkOk X.N X.env.scope scope own) (hv : ∀ i ∈ vs1, i ∈ own.map (·.2))
    (hg : ∀ (s : Shared) (H : Hp) (C : Addr) (cl : List (Str × Addr)) (fp : List Addr), DG (X.blk s H scope (compEnvC scope cl C X.env) fp) F (own.map (·.2)) tg g fg) (ht : ∀ (s : Shared) (H : Hp) (C : Addr) (cl : List (Str × Addr)) (fp : List Addr), DP (X.blk s H scope (compEnvC scope cl C X.env) fp) F ifs tt ft)
    (hi1 : ∀ (s : Shared) (H : Hp) (C : Addr) (cl : List (Str × Addr)) (fp : List Addr), DI (X.blk s H scope (compEnvC scope cl C X.env) fp) F tg1 iter1 wi1 fi1)
    (hg1 : ∀ (s : Shared) (H : Hp) (C : Addr) (cl : List (Str × Addr)) (fp : List Addr), DG (X.blk s H scope (compEnvC scope cl C X.env) fp) F vs1 tg1 g1 fg1) (ht1 : ∀ (s : Shared) (H : Hp) (C : Addr) (cl : List (Str × Addr)) (fp : List Addr), DP (X.blk s H scope (compEnvC scope cl C X.env) fp) F ifs1 tt1 ft1)
    (he : ∀ (s : Shared) (H : Hp) (C : Addr) (cl : List (Str × Addr)) (fp : List Addr), DE (X.blk s H scope (compEnvC scope cl C X.env) fp) F elt te fe) (hc : X.calm = true := by rfl) (hs : ∀ x, foldedSetIterable iter X.env x = pure x := by intro _; rfl) (hs1 : ∀ env x, foldedSetIterable iter1 env x = pure x := by intro _ _; rfl) (hgl : Gl X "sorted" := by rfl)
    (hst : starEach [sc2 elt tg iter ifs tg1 iter1 ifs1 scope p2] X.env = (false, eval (sc2 elt tg iter ifs tg1 iter1 ifs1 scope p2) X.env) :: starEach [] X.env := by rfl) :
    DE X F (.Call (.Name "sorted" p3) [sc2 elt tg iter ifs tg1 iter1 ifs1 scope p2] [] pos) (tCB (rSortSS X.prog X.w) (tCons (tSs2 X.prog X.w wi g tt wi1 g1 tt1 te (own.map (·.2)) vs1) tNil)) (dSs2 fi fg ft fi1 fg1 ft1 fe (own.map (·.2)) vs1) :=
  ⟨pe_callB (cr_sortSS hc) hgl h1 (by decide +kernel) (pa_cons (pe_ss2 hc hN hi.pe ok hv (fun s H C cl fp => (hg s H C cl fp).pe) (fun s H C cl fp => (ht s H C cl fp).pe) (fun s H C cl fp => (hi1 s H C cl fp).pe) (fun s H C cl fp => (hg1 s H C cl fp).pe) (fun s H C cl fp => (ht1 s H C cl fp).pe) (fun s H C cl fp => (he s H C cl fp).pe) hs hs1) pa_nil hst) (by decide) (by decide) hst,
    sd_Ss2 hi.sd (hg {} (fun _ => none) 0 [] []).sd (ht {} (fun _ => none) 0 [] []).sd (hi1 {} (fun _ => none) 0 [] []).sd (hg1 {} (fun _ => none) 0 [] []).sd (ht1 {} (fun _ => none) 0 [] []).sd (he {} (fun _ => none) 0 [] []).sd⟩
end
end Pu

end

section
set_option maxHeartbeats 800000
/-! PuR: ranges whose ends may be anything. -/
namespace Pu
open PySem L2 PySem.Spec PyProof.Rows

theorem slot_lr_next : Slot "longrange_iterator" "__next__" "longrange_iterator.__next__" :=
  .of (owner := "longrange_iterator") (n := "__next__") (by rw [typeLookup_type, builtinLookup_eq_fast]; kernel_rfl) (by decide +kernel) (by decide +kernel) (by decide +kernel) (by first | exact .inl (by decide +kernel) | exact .inr (by decide +kernel)) (by rw [isSubtype_type]; kernel_rfl)
theorem entry_lr_next : entryFor table "longrange_iterator.__next__" = some Builtin.«longrange_iterator.__next__» := entryFor_of_fast (by kernel_rfl)
theorem args_lr_next (a : Value) : argsOk "longrange_iterator.__next__" ⟨[a], []⟩ := by unfold argsOk; kernel_rfl
theorem slot_lr_iter : Slot "longrange_iterator" "__iter__" "longrange_iterator.__iter__" :=
  .of (owner := "longrange_iterator") (n := "__iter__") (by rw [typeLookup_type, builtinLookup_eq_fast]; kernel_rfl) (by decide +kernel) (by decide +kernel) (by decide +kernel) (by first | exact .inl (by decide +kernel) | exact .inr (by decide +kernel)) (by rw [isSubtype_type]; kernel_rfl)
theorem entry_lr_iter : entryFor table "longrange_iterator.__iter__" = some Builtin.«dict_keyiterator.__iter__» := entryFor_alias (id' := "dict_keyiterator.__iter__") (by kernel_rfl) rfl (by decide +kernel) (by kernel_rfl)
theorem args_lr_iter (a : Value) : argsOk "longrange_iterator.__iter__" ⟨[a], []⟩ := by unfold argsOk; kernel_rfl
/-- a long range's iterator: x next, left more -/
abbrev IsLong (h : Heap) (it : Addr) (x left : Int) : Prop := h.get? it = some { cls := .type "longrange_iterator", dict := none, data := .fields #[rawInt x, rawInt left, rawInt 1], slots := #[] }
theorem long_step (it : Addr) (x left : Int) (hl : ¬ left ≤ 0) : Meets (Builtin.«longrange_iterator.__next__» ⟨[.ref it], []⟩) (fun _ R s => IsLong s.heap it x left ∧
    R (.ok (.ret (Value.int x s.toks))) { s with heap := (s.heap.update it (Obj.mapFields fun fs => fs.setIfInBounds 0 (rawInt (x + 1)))).update it (Obj.mapFields fun fs => fs.setIfInBounds 1 (rawInt (left - 1))), toks := s.toks + 1 }) :=
  .of_wp fun prog w A R s h => by
    obtain ⟨hp, g, d, tk, os⟩ := s
    obtain ⟨at_, h⟩ := h
    wp_walk
    exact ⟨_, rfl, h⟩
theorem long_iter (r : Addr) (a b : Int) (t u v : Tok) (hs : Builtin.Range.small a b 1 = false) : Meets (Builtin.«range.__iter__» ⟨[.ref r], []⟩) (fun _ R s => IsRange s.heap r a b 1 t u v ∧
    R (.ok (.ret (Value.ref s.heap.objs.size))) { s with heap := s.heap.push { cls := .type "longrange_iterator", data := .fields #[rawInt a, rawInt (Builtin.Range.rangeSize a b 1), rawInt 1] }, toks := s.toks }) :=
  .of_wp fun prog w A R s h => by
    obtain ⟨hp, g, d, tk, os⟩ := s
    obtain ⟨at_, h⟩ := h
    unfold Builtin.Range.small at hs
    wp_walk
    rw [hs]
    simp only [Bool.not_false, if_true, Bool.false_eq_true, if_false]
    refine wpAny_bind (wpAny_rule ?_)
    simp only [newFields]
    wp_walk
    exact ⟨_, rfl, h⟩
section
variable {prog : Program} {w : World} {A : Around} {E : Value → Shared → Prop} {s : Shared} {it r : Addr} {x left a b : Int} {t u v : Tok}
theorem long_item {Q : Option Value → Shared → Prop} (hit : IsLong s.heap it x left) (hl : 0 < left) (hQ : ∀ h', IsLong h' it (x + 1) (left - 1) → Heap.SameBut it s.heap h' → Q (some (.int x s.toks)) { s with heap := h', toks := s.toks + 1 }) : wpAny (model prog w) A (pyNext (.ref it)) Q E s := by
  have ty : s.TypeIs (.ref it) "longrange_iterator" := ⟨_, hit, rfl⟩
  unfold pyNext
  refine wpAny_bind (wpAny_attempt (wpAny_callSpecial?_slot (name := Str.ofString "__next__") ty slot_lr_next (call_meets slot_lr_next ty entry_lr_next (args_lr_next _) (long_step it x left (by omega)) ⟨hit, ?_⟩)))
  exact wpAny_pure (hQ _ (Heap.get?_update_self _ (Heap.get?_update_self _ hit rfl) rfl) ((Heap.SameBut.update ..).trans (Heap.SameBut.update ..)))
theorem long_end {Q : Option Value → Shared → Prop} (hh : A.handled = none) (hit : IsLong s.heap it x left) (hl : left ≤ 0) (hQ : ∀ h', Heap.ExtBut it s.heap h' → Q none { s with heap := h' }) : wpAny (model prog w) A (pyNext (.ref it)) Q E s := by
  have ty : s.TypeIs (.ref it) "longrange_iterator" := ⟨_, hit, rfl⟩
  unfold pyNext
  refine wpAny_bind (wpAny_attempt (wpAny_callSpecial?_slot (name := Str.ofString "__next__") ty slot_lr_next (wpAny_call_entry slot_lr_next ty entry_lr_next ?_ (args_lr_next _))))
  obtain ⟨hp, g, d, tk, os⟩ := s
  unfold Builtin.«longrange_iterator.__next__»
  wp_walk
  simp only [raiseNew]
  refine wpAny_bind (wpAny_handled ?_)
  rw [show A.in1.handled = none from hh]
  refine wpAny_bind (wpAny_pure (wpAny_throw ?_))
  refine wpAny_bind (wpAny_isInstance (T := "StopIteration") (b := true) ⟨_, Heap.get?_push_size _ rfl, rfl⟩ isSubtype_stop ?_)
  exact wpAny_pure (hQ _ (((Heap.ExtBut.refl it hp).push _).push _))
theorem long_iter_at {Q : Value → Shared → Prop} (hr : IsRange s.heap r a b 1 t u v) (hs : Builtin.Range.small a b 1 = false) (hQ : Q (.ref s.heap.objs.size) { s with heap := s.heap.push { cls := .type "longrange_iterator", data := .fields #[rawInt a, rawInt (Builtin.Range.rangeSize a b 1), rawInt 1] } }) : wpAny (model prog w) A (pyIter (.ref r)) Q E s := by
  have ty : s.TypeIs (.ref r) "range" := ⟨_, hr, rfl⟩
  refine wpAny_pyIter_slot ty F.slot_range_iter (call_meets F.slot_range_iter ty F.entry_range_iter (F.args_range_iter_1 _) (long_iter r a b t u v hs) ⟨hr, ?_⟩)
  exact ⟨"longrange_iterator", _, ⟨_, Heap.get?_push_size _ rfl, rfl⟩, slot_lr_next.lookup, hQ⟩
theorem long_self {Q : Value → Shared → Prop} (hit : IsLong s.heap it x left) (h : Q (.ref it) s) : wpAny (model prog w) A (pyIter (.ref it)) Q E s := by
  have ty : s.TypeIs (.ref it) "longrange_iterator" := ⟨_, hit, rfl⟩
  refine wpAny_pyIter_slot ty slot_lr_iter (wpAny_call_entry slot_lr_iter ty entry_lr_iter ?_ (args_lr_iter _))
  show wpAny _ _ (ret (.ref it)) _ _ s
  exact wpAny_pure ⟨_, rfl, "longrange_iterator", _, ty, slot_lr_next.lookup, h⟩
end
theorem turn_long {P : Program} {w : World} {K : PySem.W.Frag} {tg : Expr} (it : Addr) (lo : Int) (n : Nat) : Turn P w K tg (Itr lo n) [it] it (fun i h => IsLong h it (lo + (i : Nat)) ((n : Int) - (i : Nat))) where
  mem := by simp
  obj := fun i h st b hb => by
    obtain rfl : b = it := by simpa using hb
    exact ⟨_, st, fun v z => by
      have z' : Data.fields _ = Data.cell v := z
      cases z'⟩
  keep := fun i h h' st k => k it (by simp) _ st
  item := by
    intro X hP hw hK hc i pins s σ H E I hf st hg
    subst hP hw hK
    obtain ⟨f0, f1, f2, f3, f4, f5⟩ := hf it (by simp)
    have hi : i < n := hg
    refine long_item st (by omega) fun h' st' sb => ?_
    have I1 : Inv X pins σ H { s with heap := h', toks := s.toks + 1 } := I.turned (fun b o hb e => (sb.2 b hb).trans e) f0 f1 f3 f4 f5
    refine ⟨_, rfl, go_of (s := { s with heap := h', toks := s.toks + 1 }) (n := "longrange_iterator") st' rfl rfl (by decide) ⟨.int (lo + i), H, I1, ⟨s.toks, rfl⟩, ⟨rfl, rfl⟩, ?_, fun b hb => (hf b hb).1⟩⟩
    have e1 : lo + ((i + 1 : Nat) : Int) = lo + (i : Int) + 1 := by omega
    have e2 : (n : Int) - ((i + 1 : Nat) : Int) = (n : Int) - (i : Int) - 1 := by omega
    show IsLong h' it _ _
    rw [e1, e2]
    exact st'
  done := by
    intro X hP hw hK hc i pins s σ H E I hf st hg
    subst hP hw hK
    obtain ⟨f0, f1, f2, f3, f4, f5⟩ := hf it (by simp)
    exact long_end (I.ok.hd hc) st (by have : n ≤ i := hg; omega) fun h' eb => ⟨rfl, I.turned (t' := s.toks) (fun b o hb e => eb b o hb e) f0 f1 f3 f4 f5⟩
  self := fun _ _ _ _ _ st h => long_self st h
/-- a range just made, walked, whatever its ends -/
theorem range_any {X : Cx} {tg : Expr} {pins : List (Addr × Obj)} {σ : L2.St} {H : Hp} {s : Shared} {R : It → Hp → Prop} {E : Value → Shared → Prop} {lo hi : Int} {t u v : Tok} {tk : Nat} (I : Inv X pins σ H s)
    (q : R (Itr lo (hi - lo).toNat) H) : wpAny (model X.prog X.w) X.A (pyIter (.ref s.heap.objs.size)) (PIE X pins σ tg R) E { s with heap := s.heap.push { cls := .type "range", data := .fields #[.int lo t, .int hi u, .int 1 v] }, toks := tk } := by
  have I1 : Inv X pins σ H { s with heap := s.heap.push { cls := .type "range", data := .fields #[.int lo t, .int hi u, .int 1 v] }, toks := tk } := I.kept fun b o e => Heap.get?_push_of_some _ e
  have e2 : (((hi - lo).toNat : Nat) : Int) - ((0 : Nat) : Int) = Builtin.Range.rangeSize lo hi 1 := by rw [rangeSize_one]; split <;> omega
  cases hs : Builtin.Range.small lo hi 1 with
  | true =>
    refine wpAny_pyIter_range (IsRange.new ..) hs ?_
    refine ⟨_, [_], _, _, H, rfl, I1.kept (t' := tk) fun b o e => Heap.get?_push_of_some _ e, turn_range _ lo (hi - lo).toNat, ?_, fun b hb => ?_, q⟩
    · have e1 : lo + ((0 : Nat) : Int) * 1 = lo := by simp
      show IsRangeIter _ _ (lo + ((0 : Nat) : Int) * 1) ((((hi - lo).toNat : Nat) : Int) - ((0 : Nat) : Int)) 1
      rw [e1, e2]
      exact Heap.get?_push_size _ rfl
    · obtain rfl := List.mem_singleton.mp hb
      exact I1.fpOk (Nat.le_refl _) (I1.hok.fresh (Nat.le_refl _))
  | false =>
    refine long_iter_at (IsRange.new ..) hs ?_
    refine ⟨_, [_], _, _, H, rfl, I1.kept (t' := tk) fun b o e => Heap.get?_push_of_some _ e, turn_long _ lo (hi - lo).toNat, ?_, fun b hb => ?_, q⟩
    · have e1 : lo + ((0 : Nat) : Int) = lo := by simp
      show IsLong _ _ (lo + ((0 : Nat) : Int)) ((((hi - lo).toNat : Nat) : Int) - ((0 : Nat) : Int))
      rw [e1, e2]
      exact Heap.get?_push_size _ rfl
    · obtain rfl := List.mem_singleton.mp hb
      exact I1.fpOk (Nat.le_refl _) (I1.hok.fresh (Nat.le_refl _))
def iRngA (ta : TA) : TI := fun σ H R => ta σ H fun vs H1 => ∃ i j : Int, vs = [.int i, .int j] ∧ R (Itr i (j - i).toNat) H1
theorem pi_rangeA {X : Cx} {tg a b : Expr} {ta : TA} {p pos : Pos} (hg : Gl X "range") (hm : X.mg "range" = none) (ha : PA X [a, b] ta) (hs : starEach [a, b] X.env = [(false, eval a X.env), (false, eval b X.env)] := by rfl) (hs2 : starEach [b] X.env = [(false, eval b X.env)] := by rfl) :
    PI X tg (.Call (.Name "range" p) [a, b] [] pos) (iRngA ta) := by
  refine ⟨fun pins s σ H R I h => ?_⟩
  refine Call_ (ld_blt I hg hm boot_range (PyProof.Rows.callWith_type1 (thn (ha.run pos pins s σ H _ I h) fun us s1 hh => ?_) (by rw [hs, hs2]) (by rw [hs2]; rfl)))
  obtain ⟨vs, H1, I1, rel, lo, hi, e, q⟩ := hh
  subst e
  cases rel with
  | cons r0 rel =>
    cases rel with
    | cons r1 rel =>
      cases rel
      obtain ⟨t0, rfl⟩ := r0
      obtain ⟨t1, rfl⟩ := r1
      exact call_range_2 (range_any I1 q)
def dRngA (f : DTA) : DTI := fun env Q => f env fun ss => ∃ i j : Int, ss = [.d (.int i), .d (.int j)] ∧ Q (rngD i (j - i).toNat)
theorem si_rngA {K : PySem.W.Frag} {F : Fr} {tr : TA} {fr : DTA} (h : SdA K F tr fr) : SdI K F (iRngA tr) (dRngA fr) := by
  intro Hb H σ env Q R rp q c
  refine h Hb H σ env _ _ rp q fun vs Hb1 H1 ss st1 rs1 q1 => ?_
  obtain ⟨i, j, e, q1⟩ := q1
  subst e
  obtain ⟨v, w, rfl, a, b⟩ := rep2 rs1
  exact ⟨i, j, by rw [int_of a, int_of b], c _ Hb1 H1 _ st1 (gives_rng _ _) q1⟩
theorem di_rngA {X : Cx} {F : Fr} {tg a b : Expr} {tr : TA} {fr : DTA} {p pos : Pos} (hm : X.mg "range" = none) (ha : DA X F [a, b] tr fr) (hg : Gl X "range" := by rfl) (hs : starEach [a, b] X.env = [(false, eval a X.env), (false, eval b X.env)] := by rfl) (hs2 : starEach [b] X.env = [(false, eval b X.env)] := by rfl) :
    DI X F tg (.Call (.Name "range" p) [a, b] [] pos) (iRngA tr) (dRngA fr) := ⟨pi_rangeA hg hm ha.pe hs hs2, si_rngA ha.sd⟩
end Pu

end

section
/-! PuX: tuple * int, chains of comparisons. -/
namespace Pu
open PySem L2 PySem.Spec PyProof.Rows

set_option maxHeartbeats 2000000 in
theorem tup_once (l : Addr) (items : Array Value) (n : Nat) (dd : Option Addr) (sl : Array (Option Value)) (x : Int) (u : Tok) (b0 : (decide (x < -(2 ^ 63)) || decide (x ≥ 2 ^ 63)) = false) (b1 : (items.isEmpty || x == 1) = true) :
    Meets (Builtin.«tuple.__mul__» ⟨[.ref l, .int x u], []⟩) (fun _ R s => s.heap.get? l = some { cls := .type "tuple", dict := dd, data := .seq items n, slots := sl } ∧ R (.ok (.ret (Value.ref l))) s) :=
  .of_wp fun prog w A R s h => by
    obtain ⟨hp, g, d, tk, os⟩ := s
    obtain ⟨hl, h⟩ := h
    have f1 := AutoSeq1.idx_int
    wp_walk using wpAny_loadPart' hl
    repeat (first
      | (refine wpAny_ite_false (decide_eq_false (by rw [b0]; exact Bool.false_ne_true)) ?_; wp_walk using wpAny_loadPart' hl)
      | (refine wpAny_ite_true (decide_eq_true b1) ?_; wp_walk using wpAny_loadPart' hl)
      | (refine wpAny_ite_true b1 ?_; wp_walk using wpAny_loadPart' hl))
    exact ⟨_, rfl, h⟩
def rRepB (K : PySem.W.Frag) : R2 := fun x y H Q => ∃ l k xs, x = .ref l ∧ y = .int k ∧ SqT K H l xs ∧ xs.length ≤ 1000 ∧ k ≤ 1000 ∧ ((xs = [] ∧ 0 ≤ k) ∨ 1 ≤ k) ∧ (xs = [] ∨ k = 1 → Q (.ref l) H) ∧ (xs ≠ [] → 2 ≤ k → ∀ p, H p = none → Q (.ref p) (upd H p (.tup (List.replicate k.toNat xs).flatten)))
section
variable {X : Cx}
theorem op_repB : OpR X (binaryOp .Mult) (rRepB X.K) := by
  intro pins s σ H x y v u Q I rx ry h
  obtain ⟨l, k, xs, rfl, rfl, hT, hz, h2, h1, q1, q2⟩ := h
  by_cases c : xs = [] ∨ k = 1
  · cases rx
    obtain ⟨t, rfl⟩ := ry
    obtain ⟨its, r, ⟨⟨cls, dd, data, sl⟩, ho, hc, n, hd⟩, hs⟩ := I.tuple hT
    simp only at hc hd
    subst hc hd
    have b0 : (decide (k < -(2 ^ 63)) || decide (k ≥ 2 ^ 63)) = false := by rw [decide_eq_false (by omega), decide_eq_false (by omega)]; rfl
    have b1 : (its.toArray.isEmpty || k == 1) = true := by
      rcases c with e | e
      · subst e
        cases r
        rfl
      · rw [e]; simp
    refine wpAny_binaryOp_repeat_ref (T := "tuple") (U := "int") (by decide) ⟨_, ho, rfl⟩ (fun s' => typeIs_int s' k t) noFill_tuple_mul F.fills_int_mul F.slot_int_rmul repeat_tuple F.slot_int_index.lookup
      (call_meets F.slot_int_rmul (typeIs_int s k t) F.entry_int_rmul (F.args_int_rmul_2 _ _) (int_rmul_tuple k t l its.toArray n dd sl)
        ⟨ho, rfl, ⟨_, ho, rfl⟩, call_meets F.slot_tuple_mul ⟨_, ho, rfl⟩ F.entry_tuple_mul (F.args_tuple_mul_2 _ _) (tup_once l its.toArray n dd sl k t b0 b1) ⟨ho, ?_⟩⟩)
    exact ⟨.ref l, H, I, rfl, q1 c⟩
  · have n1 : xs ≠ [] := fun e => c (.inl e)
    have n2 : k ≠ 1 := fun e => c (.inr e)
    have n3 : 2 ≤ k := by
      rcases h1 with ⟨e, _⟩ | h1
      · exact absurd e n1
      · omega
    exact op_repT pins s σ H _ _ v u Q I rx ry ⟨l, k, xs, rfl, rfl, hT, n1, n3, h2, hz, q2 n1 n3⟩
end
def fRepT : F2 := fun s u Q => match s, u with
  | .d (.tuple xs), .d (.int k) => xs.length ≤ 1000 ∧ k ≤ 1000 ∧ ((xs = [] ∧ 0 ≤ k) ∨ 1 ≤ k) ∧ Q (.d (.tuple (List.replicate k.toNat xs).flatten))
  | _, _ => False
section
variable {K : PySem.W.Frag} {hid : Hid}
theorem rep_nil {α : Type} : ∀ k : Nat, (List.replicate k ([] : List α)).flatten = []
  | 0 => rfl
  | k + 1 => by rw [List.replicate_succ, List.flatten_cons, rep_nil k]; rfl
theorem lo_repT : LO K hid (rRepB K) fRepT := by
  intro Hb H x y s u Q k st rx ry q c
  unfold fRepT at q
  split at q
  · rename_i xs j
    cases (show Dq K Hb x (.tuple xs) from rx) with
    | tup h1 h2 =>
      have hl := DqAll.length h2
      refine ⟨_, j, _, rfl, int_of ry, Same.seqT st.ex h1, by rw [hl]; exact q.1, q.2.1, ?_, fun e => ?_, fun n1 n2 p hp => ?_⟩
      · rcases q.2.2.1 with ⟨e, e2⟩ | e
        · subst e
          cases h2
          exact .inl ⟨rfl, e2⟩
        · exact .inr e
      · refine c _ Hb H (.d (.tuple xs)) (Step.refl st) (Dq.tup h1 h2) trivial ?_
        have e2 : (List.replicate j.toNat xs).flatten = xs := by
          rcases e with e | e
          · subst e
            cases h2
            exact rep_nil _
          · subst e
            simp
        rw [e2] at q
        exact q.2.2.2
      · obtain ⟨s2, r2⟩ := tup_new (K := K) st hp (DqAll.rep h2 j.toNat)
        exact c _ _ _ (.d (.tuple _)) s2 r2 trivial q.2.2.2
  · exact q.elim
end
/-! ### a < b < c -/
def dChain (f f' : F2) (fa fb fc : DTE) : DTE := fun env Q => fa env fun s => fb env fun u => f s.fz u.fz fun z => ∃ b, z.fz = .d (.bool b) ∧ if b = true then fc env fun t => f' u.fz t.fz Q else Q (.d (.bool false))
section
variable {K : PySem.W.Frag} {F : Fr} {ta tb tc : TE} {fa fb fc : DTE} {r r' : R2} {f f' : F2}
theorem sd_chain (lo : LO K F.hid r f) (lo' : LO K F.hid r' f') (ha : SdE K F ta fa) (hb : SdE K F tb fb) (hc : SdE K F tc fc) : SdE K F (tChain r r' ta tb tc) (dChain f f' fa fb fc) := by
  intro Hb H σ env Q k rp q c
  refine ha.go (Q := fun s => fb env fun u => f s u.fz fun z => ∃ b, z.fz = .d (.bool b) ∧ if b = true then fc env fun t => f' u.fz t.fz Q else Q (.d (.bool false))) rp q fun x Hb1 H1 s st1 rs1 _ q1 => ?_
  refine hb.go (Q := fun u => f s u fun z => ∃ b, z.fz = .d (.bool b) ∧ if b = true then fc env fun t => f' u t.fz Q else Q (.d (.bool false))) (rp.on st1) q1 fun y Hb2 H2 u st2 rs2 _ q2 => ?_
  refine lo Hb2 H2 x y s u _ _ st2.st (rs1.step st2) rs2 q2 fun v Hb3 H3 z st3 r3 f3 q3 => ?_
  obtain ⟨b, e, q3⟩ := q3
  have ez : z = .d (.bool b) := by cases z <;> first | exact e | cases e
  have all := (st1.trans st2).trans st3
  refine ⟨b, bool_of r3 ez, ?_⟩
  match b, q3 with
  | false, q3 => exact c (.bl false) Hb3 H3 (.d (.bool false)) all (Dq.bl false) trivial q3
  | true, q3 =>
    show tc σ H3 _
    refine hc.go (Q := fun t => f' u t Q) (rp.on all) q3 fun w Hb4 H4 t st4 rt _ q4 => ?_
    exact lo' Hb4 H4 y w u t Q k st4.st ((rs2.step st3).step st4) rt q4 fun v Hb' H' s' st5 r5 f5 q5 => c v Hb' H' s' ((all.trans st4).trans st5) r5 (FrSl.back (all.trans st4) f5) q5
end
section
variable {X : Cx} {F : Fr} {a b c : Expr} {ta tb tc : TE} {fa fb fc : DTE} {r r' : R2} {f f' : F2} {op op' : CmpOp} {pos : Pos} {K : PySem.W.Frag}
theorem de_chain (ho : OpR X (compareOp op) r) (lo : ∀ hid, LO X.K hid r f) (ho' : OpR X (compareOp op') r') (lo' : ∀ hid, LO X.K hid r' f') (ha : DE X F a ta fa) (hb : DE X F b tb fb) (hc : DE X F c tc fc)
    (hm : lastMarks [op, op'] [b, c] = false := by with_unfolding_all rfl) : DE X F (.Compare a [op, op'] [b, c] pos) (tChain r r' ta tb tc) (dChain f f' fa fb fc) :=
  ⟨pe_chain ho ho' ha.pe hb.pe hc.pe hm, sd_chain (lo F.hid) (lo' F.hid) ha.sd hb.sd hc.sd⟩
theorem dt_chain (ho : OpR X (compareOp op) r) (lo : ∀ hid, LO X.K hid r f) (ho' : OpR X (compareOp op') r') (lo' : ∀ hid, LO X.K hid r' f') (ha : DE X F a ta fa) (hb : DE X F b tb fb) (hc : DE X F c tc fc)
    (hm : lastMarks [op, op'] [b, c] = false := by with_unfolding_all rfl) : DT X F (.Compare a [op, op'] [b, c] pos) (tTest (tChain r r' ta tb tc)) (dTest (dChain f f' fa fb fc)) :=
  ⟨pt_chain ho ho' ha.pe hb.pe hc.pe hm, sd_test (sd_chain (lo F.hid) (lo' F.hid) ha.sd hb.sd hc.sd)⟩
theorem k_repT (e : X.K = K) : OpR X (binaryOp .Mult) (rRepB K) := e ▸ op_repB
end

/-! ### a, b = x, y -/
def dPar (i j : Nat) (fa : DTA) : DTS := fun E env => fa env fun ss => ∃ s u, ss = [s, u] ∧ E.nx ((env.set i (some s)).set j (some u))
def dPar3 (i j l : Nat) (fa : DTA) : DTS := fun E env => fa env fun ss => ∃ s u t, ss = [s, u, t] ∧ E.nx (((env.set i (some s)).set j (some u)).set l (some t))
section
variable {K : PySem.W.Frag} {F : Fr} {ta : TA} {fa : DTA}
theorem sd_par (i j : Nat) (h : SdA K F ta fa) : SdS K F (tPar i j ta) (dPar i j fa) := by
  intro Hb H σ env D E r q l
  refine h Hb H σ env _ _ r q fun vs Hb1 H1 ss st rs q1 => ?_
  obtain ⟨s, u, e, q1⟩ := q1
  subst e
  cases rs with
  | cons a1 e1 t =>
    cases t with
    | cons a2 e2 t =>
      cases t
      exact ⟨_, _, rfl, l.nx Hb1 H1 _ _ st.ex (((r.on st).set (Step.refl st.st) a1 (fr_of e1) i).set (Step.refl st.st) a2 (fr_of e2) j) q1⟩
theorem sd_par3 (i j m : Nat) (h : SdA K F ta fa) : SdS K F (tPar3 i j m ta) (dPar3 i j m fa) := by
  intro Hb H σ env D E r q l
  refine h Hb H σ env _ _ r q fun vs Hb1 H1 ss st rs q1 => ?_
  obtain ⟨s, u, t', e, q1⟩ := q1
  subst e
  cases rs with
  | cons a1 e1 t =>
    cases t with
    | cons a2 e2 t =>
      cases t with
      | cons a3 e3 t =>
        cases t
        exact ⟨_, _, _, rfl, l.nx Hb1 H1 _ _ st.ex ((((r.on st).set (Step.refl st.st) a1 (fr_of e1) i).set (Step.refl st.st) a2 (fr_of e2) j).set (Step.refl st.st) a3 (fr_of e3) m) q1⟩
end
section
variable {X : Cx} {F : Fr} {a b c : Expr} {ta : TA} {fa : DTA} {px py pz pt pos : Pos} {kt k2 : Nat} {pt2 : Pos}
theorem ds_par (i j : Nat) {x y : Str} (hN : X.N.Nodup) (ha : DA X F [a, b] ta fa) (hi : X.N[i]? = some x := by rfl) (hj : X.N[j]? = some y := by rfl) (hij : i ≠ j := by decide) (hx : X.env.scope.names.lookup x = some .local := by rfl) (hy : X.env.scope.names.lookup y = some .local := by rfl) (hc : X.calm = true := by rfl)
    (hw : swappedStores [.Tuple [.Name x px, .Name y py] kt pt] (.Tuple [a, b] k2 pt2) X.env = pure (some [x, y]) := by rfl) (hs : swapsWithSole [.Tuple [.Name x px, .Name y py] kt pt] (.Tuple [a, b] k2 pt2) pos.line X.env = pure false := by rfl) :
    DS X F (.Assign [.Tuple [.Name x px, .Name y py] kt pt] (.Tuple [a, b] k2 pt2) pos) (tPar i j ta) (dPar i j fa) := ⟨ps_par hc hN hi hj hij hx hy ha.pe hw hs, sd_par i j ha.sd⟩
theorem ds_par3 (i j m : Nat) {x y z : Str} (hN : X.N.Nodup) (ha : DA X F [a, b, c] ta fa) (hi : X.N[i]? = some x := by rfl) (hj : X.N[j]? = some y := by rfl) (hm : X.N[m]? = some z := by rfl) (hij : i ≠ j := by decide) (him : i ≠ m := by decide) (hjm : j ≠ m := by decide) (hx : X.env.scope.names.lookup x = some .local := by rfl) (hy : X.env.scope.names.lookup y = some .local := by rfl) (hz : X.env.scope.names.lookup z = some .local := by rfl) (hc : X.calm = true := by rfl)
    (hw : swappedStores [.Tuple [.Name x px, .Name y py, .Name z pz] kt pt] (.Tuple [a, b, c] k2 pt2) X.env = pure (some [x, y, z]) := by rfl) (hs : swapsWithSole [.Tuple [.Name x px, .Name y py, .Name z pz] kt pt] (.Tuple [a, b, c] k2 pt2) pos.line X.env = pure false := by rfl) :
    DS X F (.Assign [.Tuple [.Name x px, .Name y py, .Name z pz] kt pt] (.Tuple [a, b, c] k2 pt2) pos) (tPar3 i j m ta) (dPar3 i j m fa) := ⟨ps_par3 hc hN hi hj hm hij him hjm hx hy hz ha.pe hw hs, sd_par3 i j m ha.sd⟩
end

/-! ### source = _law_source(script) -/
section
variable {X : Cx} {px p1 p2 p3 pos : Pos} {K : PySem.W.Frag}
theorem ps_first (q : X.K = K) (G : Fn X.prog X.w K X.mg X.base "_law_source" 1 ["script"] (spSource K)) (hr : RoomG 1 X.A) (hN : X.N.Nodup) (h0 : X.N[0]? = some ("script" : Str) := by rfl) (h1 : X.N[1]? = some ("source" : Str) := by rfl) (v0 : Vis X.env.scope "script" := by first | exact Or.inl rfl | exact Or.inr (Or.inl rfl) | exact Or.inr (Or.inr rfl))
    (hx : Loc X.env.scope "source" := by first | exact Or.inl rfl | exact Or.inr rfl) (hg : Gl X "_law_source" := by rfl) (he : starEach [Expr.Name "script" p2] X.env = (false, eval (Expr.Name "script" p2) X.env) :: starEach [] X.env := by rfl)
    (hs : swapsWith (.Call (.Name "_law_source" p1) [.Name "script" p2] [] p3) (some (.Name "source" px)) pos.line X.env = pure false := by rfl) (hf : X.fn "source" = true ∨ X.env.scope.names.lookup ("source" : Str) = some .local := by first | exact .inl rfl | exact .inr rfl) :
    PS X (.Assign [.Name "source" px] (.Call (.Name "_law_source" p1) [.Name "script" p2] [] p3) pos) (tAsg (tFn (spSource K) (tCons (tVar 0) tNil)) (gName 1)) := by
  subst q
  obtain ⟨f, fd, hm, hk, hb, J⟩ := G.ex
  exact ps_set (i := 1) hN h1 hx (pe_callG J hr hg hm hk hb pass0 (pa_cons (pe_var h0 v0 (by decide) (by decide)) pa_nil) (by decide) he) hs hf
end
end Pu

end

section
/-! PuM: pure facts: equal scalars, the length of shown data, sorted lists, walks. -/
namespace Pu
open PySem L2 PyProof.Rows

/-! ### scalars -/
def fEqS (neg : Bool) : F2 := fun s u Q => match s, u with
  | .d (.str a), .d (.str b) => Q (.d (.bool (if neg then !decide (a = b) else decide (a = b))))
  | .d (.int a), .d (.int b) => Q (.d (.bool (if neg then !decide (a = b) else decide (a = b))))
  | .d (.bool a), .d (.bool b) => Q (.d (.bool (if neg then !decide (a = b) else decide (a = b))))
  | .d (.none), .d (.int _) => Q (.d (.bool neg))
  | .d (.int _), .d (.none) => Q (.d (.bool neg))
  | .d (.none), .d (.str _) => Q (.d (.bool neg))
  | .d (.str _), .d (.none) => Q (.d (.bool neg))
  | .d (.int _), .d (.str _) => Q (.d (.bool neg))
  | .d (.str _), .d (.int _) => Q (.d (.bool neg))
  | .d (.none), .d (.none) => Q (.d (.bool (!neg)))
  | _, _ => False
section
variable {K : PySem.W.Frag} {hid : Hid} {Hb H : Hp}
theorem bool_of' {x : V} {b : Bool} (h : RepSl K hid Hb H x (.d (.bool b))) : x = .bl b := bool_of h rfl
theorem non_of {x : V} (h : RepSl K hid Hb H x (.d .none)) : x = .non := by
  cases (show Dq K Hb x .none from h)
  rfl
theorem lo_eqS : LO K hid rEq (fEqS false) := by
  intro Hb H x y s u Q k st rx ry q c
  unfold fEqS at q
  split at q
  · rename_i a b; rw [str_of rx, str_of ry]; exact ⟨rfl, c _ Hb H (.d (.bool (decide (a = b)))) (Step.refl st) (by rw [show decide (V.str a = V.str b) = decide (a = b) by simp]; exact Dq.bl _) trivial q⟩
  · rename_i a b; rw [int_of rx, int_of ry]; exact ⟨rfl, c _ Hb H (.d (.bool (decide (a = b)))) (Step.refl st) (by rw [show decide (V.int a = V.int b) = decide (a = b) by simp]; exact Dq.bl _) trivial q⟩
  · rename_i a b; rw [bool_of' rx, bool_of' ry]; exact ⟨rfl, c _ Hb H (.d (.bool (decide (a = b)))) (Step.refl st) (by rw [show decide (V.bl a = V.bl b) = decide (a = b) by simp]; exact Dq.bl _) trivial q⟩
  · rw [non_of rx, int_of ry]; exact ⟨rfl, c _ Hb H (.d (.bool false)) (Step.refl st) (Dq.bl _) trivial q⟩
  · rw [non_of ry, int_of rx]; exact ⟨rfl, c _ Hb H (.d (.bool false)) (Step.refl st) (Dq.bl _) trivial q⟩
  · rw [non_of rx, str_of ry]; exact ⟨rfl, c _ Hb H (.d (.bool false)) (Step.refl st) (Dq.bl _) trivial q⟩
  · rw [non_of ry, str_of rx]; exact ⟨rfl, c _ Hb H (.d (.bool false)) (Step.refl st) (Dq.bl _) trivial q⟩
  · rw [int_of rx, str_of ry]; exact ⟨rfl, c _ Hb H (.d (.bool false)) (Step.refl st) (Dq.bl _) trivial q⟩
  · rw [str_of rx, int_of ry]; exact ⟨rfl, c _ Hb H (.d (.bool false)) (Step.refl st) (Dq.bl _) trivial q⟩
  · rw [non_of rx, non_of ry]; exact ⟨rfl, c _ Hb H (.d (.bool true)) (Step.refl st) (Dq.bl _) trivial q⟩
  · exact q.elim
theorem lo_neS : LO K hid rNe (fEqS true) := by
  intro Hb H x y s u Q k st rx ry q c
  unfold fEqS at q
  split at q
  · rename_i a b; rw [str_of rx, str_of ry]; exact ⟨rfl, c _ Hb H (.d (.bool (!decide (a = b)))) (Step.refl st) (by rw [show decide (V.str a = V.str b) = decide (a = b) by simp]; exact Dq.bl _) trivial q⟩
  · rename_i a b; rw [int_of rx, int_of ry]; exact ⟨rfl, c _ Hb H (.d (.bool (!decide (a = b)))) (Step.refl st) (by rw [show decide (V.int a = V.int b) = decide (a = b) by simp]; exact Dq.bl _) trivial q⟩
  · rename_i a b; rw [bool_of' rx, bool_of' ry]; exact ⟨rfl, c _ Hb H (.d (.bool (!decide (a = b)))) (Step.refl st) (by rw [show decide (V.bl a = V.bl b) = decide (a = b) by simp]; exact Dq.bl _) trivial q⟩
  · rw [non_of rx, int_of ry]; exact ⟨rfl, c _ Hb H (.d (.bool true)) (Step.refl st) (Dq.bl _) trivial q⟩
  · rw [non_of ry, int_of rx]; exact ⟨rfl, c _ Hb H (.d (.bool true)) (Step.refl st) (Dq.bl _) trivial q⟩
  · rw [non_of rx, str_of ry]; exact ⟨rfl, c _ Hb H (.d (.bool true)) (Step.refl st) (Dq.bl _) trivial q⟩
  · rw [non_of ry, str_of rx]; exact ⟨rfl, c _ Hb H (.d (.bool true)) (Step.refl st) (Dq.bl _) trivial q⟩
  · rw [int_of rx, str_of ry]; exact ⟨rfl, c _ Hb H (.d (.bool true)) (Step.refl st) (Dq.bl _) trivial q⟩
  · rw [str_of rx, int_of ry]; exact ⟨rfl, c _ Hb H (.d (.bool true)) (Step.refl st) (Dq.bl _) trivial q⟩
  · rw [non_of rx, non_of ry]; exact ⟨rfl, c _ Hb H (.d (.bool false)) (Step.refl st) (Dq.bl _) trivial q⟩
  · exact q.elim
end

/-! ### how long shown data is -/
mutual
def big : PyData → Nat
  | .none => 4
  | .bool _ => 5
  | .int _ => 101
  | .str x => 10 * x.length + 2
  | .list xs => bigAll xs + 3
  | .tuple xs => bigAll xs + 3
  | .dict _ => 0
def bigAll : List PyData → Nat
  | [] => 0
  | x :: xs => big x + 2 + bigAll xs
end
mutual
/-- plain data: no dicts, ints of at most 100 figures, texts of common signs -/
def tame : PyData → Bool
  | .none => true
  | .bool _ => true
  | .int i => decide (i.natAbs < 10 ^ 100)
  | .str x => x.cps.toList.all fun c => decide (c < 16 ^ 8)
  | .list xs => tameAll xs
  | .tuple xs => tameAll xs
  | .dict _ => false
def tameAll : List PyData → Bool
  | [] => true
  | x :: xs => tame x && tameAll xs
end
theorem small_pow : (10 : Nat) ^ 100 < 2 ^ 400 := by decide +kernel
mutual
theorem tame_noDict : ∀ d : PyData, tame d = true → d.hasDict = false
  | .none, _ => by simp [PyData.hasDict]
  | .bool _, _ => by simp [PyData.hasDict]
  | .int _, _ => by simp [PyData.hasDict]
  | .str _, _ => by simp [PyData.hasDict]
  | .list xs, h => by simp only [PyData.hasDict]; exact tame_noDictAll xs (by simpa [tame] using h)
  | .tuple xs, h => by simp only [PyData.hasDict]; exact tame_noDictAll xs (by simpa [tame] using h)
  | .dict _, h => by simp [tame] at h
theorem tame_noDictAll : ∀ xs : List PyData, tameAll xs = true → PyData.hasDictAll xs = false
  | [], _ => rfl
  | x :: xs, h => by
    simp only [tameAll, Bool.and_eq_true] at h
    simp only [PyData.hasDictAll, tame_noDict x h.1, tame_noDictAll xs h.2, Bool.or_self]
end
mutual
theorem tame_showable : ∀ d : PyData, tame d = true → d.showable = true
  | .none, _ => by simp [PyData.showable]
  | .bool _, _ => by simp [PyData.showable]
  | .int i, h => by
    simp only [tame, decide_eq_true_eq] at h
    simp only [PyData.showable, decide_eq_true_eq]
    by_cases h0 : i.natAbs = 0
    · rw [h0]; decide
    · exact Nat.lt_of_lt_of_le ((Nat.log2_lt h0).mpr (Nat.lt_trans h small_pow)) (by decide)
  | .str _, _ => by simp [PyData.showable]
  | .list xs, h => by simp only [PyData.showable]; exact tame_showableAll xs (by simpa [tame] using h)
  | .tuple xs, h => by simp only [PyData.showable]; exact tame_showableAll xs (by simpa [tame] using h)
  | .dict _, h => by simp [tame] at h
theorem tame_showableAll : ∀ xs : List PyData, tameAll xs = true → PyData.showableAll xs = true
  | [], _ => rfl
  | x :: xs, h => by
    simp only [tameAll, Bool.and_eq_true] at h
    simp only [PyData.showableAll, tame_showable x h.1, tame_showableAll xs h.2, Bool.and_self]
end
theorem piled_nil : piled [] = 0 := rfl
theorem textFrom_le : ∀ (ts : List Str) (k : Nat) (acc : Str), (textFrom k acc ts).length ≤ acc.length + piled ts
  | [], k, acc => Nat.le_refl _
  | t :: r, k, acc => by
    have ih := textFrom_le r (k + 1) (acc ++ (if k > 0 then ", " else "" : String) ++ t)
    have e : (acc ++ (if k > 0 then ", " else "" : String) ++ t).length = acc.length + (if k > 0 then 2 else 0) + t.length := by
      rw [strLen_append, strLen_append]; split <;> rfl
    rw [e] at ih
    show (textFrom (k + 1) _ r).length ≤ _
    rw [piled_cons]
    have d : (if k > 0 then 2 else 0 : Nat) ≤ 2 := by split <;> omega
    omega
theorem listText_le (ts : List Str) : (listText ts).length ≤ piled ts + 2 := by
  unfold listText
  rw [strLen_append]
  have h := textFrom_le ts 0 "["
  have e1 : ((("[" : String) : Str)).length = 1 := rfl
  have e2 : ((("]" : String) : Str)).length = 1 := rfl
  omega
theorem tupleText_le (ts : List Str) : (tupleText ts).length ≤ piled ts + 3 := by
  unfold tupleText
  rw [strLen_append, strLen_append]
  have e1 : ((("(" : String) : Str)).length = 1 := rfl
  have e3 : (((if ts.length == 1 then ",)" else ")" : String) : Str)).length ≤ 2 := by split <;> decide
  rw [e1]
  by_cases h : ts = []
  · subst h
    have : (Str.join ", " []).length = 0 := rfl
    rw [piled_nil]; omega
  · have := join_length_add ts h
    omega
mutual
theorem shown_le : ∀ d : PyData, tame d = true → d.shown.length ≤ big d
  | .none, _ => by simp only [PyData.shown, big]; decide
  | .bool b, _ => by cases b <;> (simp only [PyData.shown, big]; decide)
  | .int i, h => by
    simp only [tame, decide_eq_true_eq] at h
    have := int_text_length_le10 (a := i) (k := 100) (by decide) h
    simp only [PyData.shown, big]
    show (Str.ofString (toString i)).length ≤ 101
    rw [PySem.ofString_length]
    omega
  | .str x, h => by
    simp only [PyData.shown, big]
    simp only [tame, List.all_eq_true, decide_eq_true_eq] at h
    exact PySem.StrLaws.reprText_len x h
  | .list xs, h => by
    have i := shownAll_le xs (by simpa [tame] using h)
    have j := listText_le (PyData.shownAll xs)
    simp only [PyData.shown, big]
    omega
  | .tuple xs, h => by
    have i := shownAll_le xs (by simpa [tame] using h)
    have j := tupleText_le (PyData.shownAll xs)
    simp only [PyData.shown, big]
    omega
  | .dict _, h => by simp [tame] at h
theorem shownAll_le : ∀ xs : List PyData, tameAll xs = true → piled (PyData.shownAll xs) ≤ bigAll xs
  | [], _ => Nat.le_refl _
  | x :: xs, h => by
    simp only [tameAll, Bool.and_eq_true] at h
    have i := shown_le x h.1
    have j := shownAll_le xs h.2
    simp only [PyData.shownAll, bigAll, piled_cons]
    omega
end
theorem okR_of {d : PyData} (h : tame d = true) (hb : big d ≤ 16777216) (hd : d.depth ≤ 60) : okR d := ⟨tame_noDict d h, tame_showable d h, by rw [sizeLine_eq]; have := shown_le d h; omega, hd⟩
theorem tameAll_iff {xs : List PyData} : tameAll xs = true ↔ ∀ x ∈ xs, tame x = true := by
  induction xs with
  | nil => simp [tameAll]
  | cons x xs ih => simp [tameAll, ih]
theorem bigAll_le {xs : List PyData} {n : Nat} (h : ∀ x ∈ xs, big x ≤ n) : bigAll xs ≤ xs.length * (n + 2) := by
  induction xs with
  | nil => simp [bigAll]
  | cons x xs ih =>
    have h1 := h x List.mem_cons_self
    have h2 := ih fun y hy => h y (List.mem_cons_of_mem _ hy)
    simp only [bigAll, List.length_cons, Nat.add_mul, Nat.one_mul]
    omega
theorem depthAll_le {xs : List PyData} {n : Nat} (h : ∀ x ∈ xs, x.depth ≤ n) : PyData.depthAll xs ≤ n := by
  induction xs with
  | nil => simp [PyData.depthAll]
  | cons x xs ih =>
    have h1 := h x List.mem_cons_self
    have h2 := ih fun y hy => h y (List.mem_cons_of_mem _ hy)
    simp only [PyData.depthAll]
    exact Nat.max_le.mpr ⟨h1, h2⟩

/-! ### sorted texts -/
theorem str_ext {a b : Str} (h : a.cps.toList = b.cps.toList) : a = b := by
  obtain ⟨x⟩ := a
  obtain ⟨y⟩ := b
  simp only [Str.mk.injEq]
  exact Array.toList_inj.mp h
theorem lt_anti {a b : List Nat} (h1 : ¬ a < b) (h2 : ¬ b < a) : a = b := by
  rcases List.le_total a b with h | h
  · exact List.le_antisymm h (List.not_lt.mp h1)
  · exact (List.le_antisymm h (List.not_lt.mp h2)).symm
/-- a before b -/
def StrLe (a b : Str) : Prop := ¬ b.cps.toList < a.cps.toList
theorem StrLe.trans {a b c : Str} (h1 : StrLe a b) (h2 : StrLe b c) : StrLe a c := by
  unfold StrLe at *
  rw [List.not_lt] at *
  exact List.le_trans h1 h2
theorem rising_pair : ∀ (p : Str) (l : List Str), risingS p l = true → (p :: l).Pairwise StrLe
  | p, [], _ => List.pairwise_singleton _ _
  | p, x :: r, h => by
    unfold risingS at h
    rw [Bool.and_eq_true, ltCps_eq] at h
    have hx : StrLe p x := by
      have := h.1
      simp only [Bool.not_eq_true', decide_eq_false_iff_not] at this
      exact this
    have ih := rising_pair x r h.2
    refine List.pairwise_cons.mpr ⟨fun y hy => ?_, ih⟩
    rcases List.mem_cons.mp hy with e | hy
    · exact e ▸ hx
    · exact hx.trans ((List.pairwise_cons.mp ih).1 y hy)
theorem sorted_pair : ∀ {l : List Str}, sortedS l = true → l.Pairwise StrLe
  | [], _ => .nil
  | x :: r, h => rising_pair x r h
theorem sorted_perm : ∀ {l m : List Str}, l.Pairwise StrLe → m.Pairwise StrLe → l.Perm m → l = m
  | [], m, _, _, p => (List.nil_perm.mp p).symm
  | x :: l, [], _, _, p => absurd p.length_eq (by simp)
  | x :: l, y :: m, h1, h2, p => by
    obtain ⟨a1, a2⟩ := List.pairwise_cons.mp h1
    obtain ⟨b1, b2⟩ := List.pairwise_cons.mp h2
    have e : x = y := by
      rcases List.mem_cons.mp (p.mem_iff.mp (List.mem_cons_self (a := x))) with e | hx
      · exact e
      · rcases List.mem_cons.mp (p.mem_iff.mpr (List.mem_cons_self (a := y))) with e | hy
        · exact e.symm
        · exact str_ext (lt_anti (b1 x hx) (a1 y hy)).symm |>.symm
    subst e
    rw [sorted_perm a2 b2 (List.Perm.cons_inv p)]
theorem sorted_same {l m : List Str} (h1 : sortedS l = true) (h2 : sortedS m = true) (n1 : l.Nodup) (n2 : m.Nodup) (h : ∀ k, k ∈ l ↔ k ∈ m) : l = m :=
  sorted_perm (sorted_pair h1) (sorted_pair h2) ((List.perm_ext_iff_of_nodup n1 n2).mpr h)
end Pu

end

section
/-! PuN: comprehensions and loops by what they give. -/
namespace Pu
open PySem L2 PyProof.Rows

/-! ### one-clause comprehensions -/
/-- one turn: what is put in -/
def dTurn (g : DTG) (tt : DTT) (te : DTE) (env : EV) (y : PyData) (k : List PyData → Prop) : Prop := g (.d y) env fun env1 => tt env1 fun b => if b = true then te env1 fun s => ∃ x, s.fz = .d x ∧ k [x] else k []
section
variable {g : DTG} {tt : DTT} {te : DTE} {env : EV}
theorem lcGo_by : ∀ (ys : List PyData) (I : Nat → List PyData → Prop) (i : Nat) (acc : List PyData) (Q : List PyData → Prop), I i acc →
    (∀ j y acc, ys[j]? = some y → I (i + j) acc → ∀ k : List PyData → Prop, (∀ o, I (i + j + 1) (acc ++ o) → k o) → dTurn g tt te env y k) → (∀ acc, I (i + ys.length) acc → Q acc) → dLcGo g tt te env ys acc Q
  | [], I, i, acc, Q, h, _, fin => fin acc h
  | y :: ys, I, i, acc, Q, h, step, fin => by
    have st := step 0 y acc rfl h (fun o => dLcGo g tt te env ys (acc ++ o) Q) fun o ho => lcGo_by ys I (i + 1) (acc ++ o) Q ho
      (fun j z acc' hz hI k hk => step (j + 1) z acc' hz (by rw [show i + (j + 1) = i + 1 + j by omega]; exact hI) k fun o ho => hk o (by rw [show i + 1 + j + 1 = i + (j + 1) + 1 by omega]; exact ho)) (fun acc' ha => fin acc' (by rw [List.length_cons, show i + (ys.length + 1) = i + 1 + ys.length by omega]; exact ha))
    show g (.d y) env fun env1 => tt env1 fun b => if b = true then te env1 fun s => ∃ x, s.fz = .d x ∧ dLcGo g tt te env ys (acc ++ [x]) Q else dLcGo g tt te env ys acc Q
    unfold dTurn at st
    simpa only [List.append_nil] using st
theorem lc_by {ys : List PyData} {Q : List PyData → Prop} (I : Nat → List PyData → Prop) (h0 : I 0 []) (step : ∀ j y acc, ys[j]? = some y → I j acc → ∀ k : List PyData → Prop, (∀ o, I (j + 1) (acc ++ o) → k o) → dTurn g tt te env y k) (fin : ∀ acc, I ys.length acc → Q acc) :
    dLcGo g tt te env ys [] Q := lcGo_by ys I 0 [] Q h0 (fun j y acc hy hI k hk => step j y acc hy (by simpa using hI) k fun o ho => hk o (by simpa using ho)) (fun acc ha => fin acc (by simpa using ha))
theorem take_more' {α : Type} {l : List α} {i : Nat} {x : α} (h : l[i]? = some x) : l.take (i + 1) = l.take i ++ [x] := by rw [List.take_add_one, h]; rfl
/-- each item by f -/
theorem lc_map (f : PyData → PyData) {ys : List PyData} {Q : List PyData → Prop} (h : ∀ y ∈ ys, ∀ k : DK, (∀ s, s.fz = .d (f y) → k s) → g (.d y) env fun env1 => te env1 k) (q : Q (ys.map f)) : dLcGo g dYes te env ys [] Q := by
  refine lc_by (fun i acc => acc = (ys.take i).map f) rfl (fun j y acc hy hI k hk => ?_) (fun acc ha => by rw [ha, List.take_length]; exact q)
  refine h y (List.mem_of_getElem? hy) _ fun s hs => ⟨f y, hs, hk [f y] ?_⟩
  rw [hI, take_more' hy, List.map_append]
  rfl
/-- each item anything with P -/
theorem lc_all (P : PyData → Prop) {ys : List PyData} {Q : List PyData → Prop} (h : ∀ y ∈ ys, ∀ k : DK, (∀ s x, s.fz = .d x → P x → k s) → g (.d y) env fun env1 => te env1 k) (q : ∀ zs : List PyData, zs.length = ys.length → (∀ z ∈ zs, P z) → Q zs) : dLcGo g dYes te env ys [] Q := by
  refine lc_by (fun i acc => i ≤ ys.length → acc.length = i ∧ ∀ z ∈ acc, P z) (fun _ => ⟨rfl, fun z hz => by cases hz⟩) (fun j y acc hy hI k hk => ?_) (fun acc ha => q acc (ha (Nat.le_refl _)).1 (ha (Nat.le_refl _)).2)
  have hj : j < ys.length := (List.getElem?_eq_some_iff.mp hy).1
  obtain ⟨h1, h2⟩ := hI (by omega)
  refine h y (List.mem_of_getElem? hy) _ fun s x hs hp => ⟨x, hs, hk [x] fun _ => ⟨by simp [h1], fun z hz => ?_⟩⟩
  rcases List.mem_append.mp hz with hz | hz
  · exact h2 z hz
  · rw [List.mem_singleton.mp hz]; exact hp
/-- some of the items -/
theorem lc_some {ys : List PyData} {Q : List PyData → Prop} (h : ∀ y ∈ ys, ∀ k : List PyData → Prop, k [y] → k [] → dTurn g tt te env y k) (q : ∀ zs : List PyData, zs.Sublist ys → Q zs) : dLcGo g tt te env ys [] Q := by
  refine lc_by (fun i acc => acc.Sublist (ys.take i)) (List.nil_sublist _) (fun j y acc hy hI k hk => ?_) (fun acc ha => q acc (by rw [List.take_length] at ha; exact ha))
  have e := take_more' hy
  refine h y (List.mem_of_getElem? hy) k (hk [y] ?_) (hk [] ?_)
  · show (acc ++ [y]).Sublist (ys.take (j + 1)); rw [e]; exact hI.append (List.Sublist.refl _)
  · show (acc ++ []).Sublist (ys.take (j + 1)); rw [e, List.append_nil]; exact hI.trans (List.sublist_append_left _ _)
/-- the items with p, each by f -/
theorem lc_filter (p : PyData → Bool) (f : PyData → PyData) {ys : List PyData} {Q : List PyData → Prop} (h : ∀ y ∈ ys, ∀ k : List PyData → Prop, k (if p y = true then [f y] else []) → dTurn g tt te env y k) (q : Q ((ys.filter p).map f)) : dLcGo g tt te env ys [] Q := by
  refine lc_by (fun i acc => acc = ((ys.take i).filter p).map f) (by simp) (fun j y acc hy hI k hk => ?_) (fun acc ha => by rw [ha, List.take_length]; exact q)
  refine h y (List.mem_of_getElem? hy) k (hk _ ?_)
  rw [hI, take_more' hy, List.filter_append, List.map_append]
  by_cases c : p y = true
  · simp [c]
  · simp [c]
end
/-! ### two clauses, texts -/
theorem ss_go {g : DTG} {te : DTE} {env : EV} (f : PyData → Str) : ∀ {ys : List PyData} {acc : List Str} {Q : List Str → Prop}, (∀ y ∈ ys, ∀ k : DK, (∀ s, s.fz = .d (.str (f y)) → k s) → g (.d y) env fun env1 => te env1 k) → acc.length + ys.length < 4096 → Q (acc ++ ys.map f) → dSsGo g dYes te env ys acc Q
  | [], acc, Q, _, _, q => by rw [List.map_nil, List.append_nil] at q; exact q
  | y :: ys, acc, Q, h, hl, q => by
    rw [List.length_cons] at hl
    refine h y List.mem_cons_self _ fun s hs => ⟨f y, hs, by show acc.length + 1 < 4096; omega, ss_go f (fun z hz => h z (List.mem_cons_of_mem _ hz)) (by rw [List.length_append, List.length_singleton]; omega) ?_⟩
    rw [List.append_assoc]
    exact q
theorem ss_go2 {g g1 : DTG} {ti1 : DTI} {tt1 : DTT} {te : DTE} {js1 : List Nat} {env : EV} (f : PyData → List Str) : ∀ {ys : List PyData} {acc : List Str} {Q : List Str → Prop},
    (∀ y ∈ ys, ∀ (acc : List Str) (k : List Str → Prop), acc.length + (f y).length < 4096 → k (acc ++ f y) → g (.d y) env fun env1 => ti1 (unown env1) fun zs => dSsGo g1 tt1 te (wipeE (unown env1) js1) zs acc k) → acc.length + (ys.map f).flatten.length < 4096 → Q (acc ++ (ys.map f).flatten) → dSsGo2 g dYes ti1 g1 tt1 te js1 env ys acc Q
  | [], acc, Q, _, _, q => by rw [List.map_nil, List.flatten_nil, List.append_nil] at q; exact q
  | y :: ys, acc, Q, h, hl, q => by
    rw [List.map_cons, List.flatten_cons, List.length_append] at hl
    refine h y List.mem_cons_self acc _ (by omega) (ss_go2 f (fun z hz => h z (List.mem_cons_of_mem _ hz)) (by rw [List.length_append]; omega) ?_)
    rw [List.append_assoc]
    exact q
/-! ### loops -/
theorem loop_go {g : DTG} {body : DTS} {E : DEnds} : ∀ (ys : List PyData) (I : Nat → EV → Prop) (i : Nat) (env : EV), I i env →
    (∀ j y env, ys[j]? = some y → I (i + j) env → ∀ nx : EV → Prop, (∀ env', I (i + j + 1) env' → nx env') → g (.d y) env fun env1 => body { nx := nx, ct := nx, bk := E.nx, rt := E.rt } env1) → (∀ env, I (i + ys.length) env → E.nx env) → dLoop g body E ys env
  | [], I, i, env, h, _, fin => fin env h
  | y :: ys, I, i, env, h, step, fin =>
    step 0 y env rfl h (dLoop g body E ys) fun env' ho => loop_go ys I (i + 1) env' ho
      (fun j z env' hz hI nx hk => step (j + 1) z env' hz (by rw [show i + (j + 1) = i + 1 + j by omega]; exact hI) nx fun o ho => hk o (by rw [show i + 1 + j + 1 = i + (j + 1) + 1 by omega]; exact ho)) (fun env' ha => fin env' (by rw [List.length_cons, show i + (ys.length + 1) = i + 1 + ys.length by omega]; exact ha))
theorem loop_by {g : DTG} {body : DTS} {E : DEnds} {ys : List PyData} {env : EV} (I : Nat → EV → Prop) (h0 : I 0 env)
    (step : ∀ j y env, ys[j]? = some y → I j env → ∀ nx : EV → Prop, (∀ env', I (j + 1) env' → nx env') → g (.d y) env fun env1 => body { nx := nx, ct := nx, bk := E.nx, rt := E.rt } env1) (fin : ∀ env, I ys.length env → E.nx env) : dLoop g body E ys env :=
  loop_go ys I 0 env h0 (fun j y env hy hI nx hk => step j y env hy (by simpa using hI) nx fun e he => hk e (by simpa using he)) (fun e he => fin e (by simpa using he))
/-! ### small facts on data -/
theorem any_strs {z : Str} : ∀ {xs : List Str}, ((xs.map PyData.str).any fun y => PyData.eqv y (.str z)) = decide (z ∈ xs)
  | [] => by simp
  | x :: xs => by
    rw [List.map_cons, List.any_cons, any_strs]
    simp only [PyData.eqv, List.mem_cons]
    by_cases c : x = z
    · simp [c]
    · have c' : ¬ z = x := fun e => c e.symm
      simp [c, c', show (x == z) = false by simpa using c]
theorem all_flat_strs : ∀ {xs : List Str}, (xs.map PyData.str).all flatD = true
  | [] => rfl
  | x :: xs => by rw [List.map_cons, List.all_cons, all_flat_strs]; rfl
theorem strsD_map : ∀ xs : List Str, strsD (xs.map PyData.str) = some xs
  | [] => rfl
  | x :: xs => by show (strsD (xs.map PyData.str)).map (x :: ·) = _; rw [strsD_map xs]; rfl
theorem sub_map {α β : Type} {f : α → β} {zs : List β} {xs : List α} (h : zs.Sublist (xs.map f)) : ∃ ys : List α, ys.Sublist xs ∧ zs = ys.map f := List.sublist_map_iff.mp h
theorem perm_map {α β : Type} {f : α → β} {g : β → α} (hg : ∀ x, g (f x) = x) {zs : List β} {xs : List α} (h : zs.Perm (xs.map f)) : ∃ ys : List α, ys.Perm xs ∧ zs = ys.map f := by
  refine ⟨zs.map g, ?_, ?_⟩
  · have q := h.map g
    rw [List.map_map] at q
    have e : xs.map (g ∘ f) = xs := by
      have e2 : xs.map (g ∘ f) = xs.map id := List.map_congr_left fun x _ => hg x
      rw [e2, List.map_id]
    rw [e] at q
    exact q
  · rw [List.map_map]
    have e : zs.map (f ∘ g) = zs.map id := List.map_congr_left fun z hz => by
      obtain ⟨x, _, rfl⟩ := List.mem_map.mp (h.mem_iff.mp hz)
      show f (g (f x)) = f x
      rw [hg]
    rw [e, List.map_id]
def unStr : PyData → Str
  | .str x => x
  | _ => Str.empty
end Pu

end

section
set_option maxHeartbeats 1000000
/-! PuZ: slices from behind, ranges that fall, max of a list, int of a truth, isinstance. -/
namespace Pu
open PySem L2 PyProof.Rows

/-! ### t[::-1] of a tuple -/
section
variable {prog : Program} {w : World} {A : Around} {E : Value → Shared → Prop} {s : Shared}
theorem back_applied {sl : Addr} {vl vu vs : Value} {n : Nat} {Q : Int × Int × Nat → Shared → Prop} (hs : s.heap.IsSliceOf sl vl vu vs) (pl : IsPart vl none) (pu : IsPart vu none) (ps : IsPart vs (some (-1)))
    (h : Q ((n : Int) - 1, -1, n) s) : wpAny (model prog w) A (Builtin.Slice.sliceApplied (.ref sl) (pure (n : Int))) Q E s := by
  obtain ⟨os, hos, hcs, hds⟩ := id hs
  unfold Builtin.Slice.sliceApplied Builtin.Slice.sliceFields
  refine wpAny_bind (wpAny_bind (wpAny_field hos hds (x := vl) rfl (wpAny_bind (wpAny_field hos hds (x := vu) rfl (wpAny_bind (wpAny_field hos hds (x := vs) rfl (wpAny_pure ?_)))))))
  refine wpAny_bind (HT.slicePart_ ps ?_)
  show wpAny _ _ (if ((-1 : Int) == 0) = true then _ else _) _ _ s
  rw [if_neg (by decide)]
  refine wpAny_bind (HT.slicePart_ pl (wpAny_bind (HT.slicePart_ pu (wpAny_bind (wpAny_pure ?_)))))
  have e : Builtin.Slice.sliceAdjust none none (-1) (n : Int) = ((n : Int) - 1, -1) := rfl
  show wpAny _ _ (match Builtin.Slice.sliceAdjust none none (-1) (n : Int) with | (lo, hi) => pure (lo, (-1 : Int), Builtin.Slice.slicePlaces lo hi (-1))) _ _ s
  rw [e]
  show wpAny _ _ (pure ((n : Int) - 1, (-1 : Int), Builtin.Slice.slicePlaces ((n : Int) - 1) (-1) (-1))) _ _ s
  have e2 : Builtin.Slice.slicePlaces ((n : Int) - 1) (-1) (-1) = n := by
    unfold Builtin.Slice.slicePlaces
    rw [if_neg (by decide)]
    by_cases c : (n : Int) - 1 > -1
    · rw [if_pos c, show (-(-1 : Int)) = 1 by decide, Int.ediv_one]
      omega
    · rw [if_neg c]; omega
  rw [e2]
  exact wpAny_pure h
theorem fm_congr {α β : Type} {f g : α → Option β} : ∀ {l : List α}, (∀ x ∈ l, f x = g x) → l.filterMap f = l.filterMap g
  | [], _ => rfl
  | x :: l, h => by rw [List.filterMap_cons, List.filterMap_cons, h x List.mem_cons_self, fm_congr fun y hy => h y (List.mem_cons_of_mem _ hy)]
theorem back_pick (xs : Array Value) : ((List.range xs.size).filterMap fun (m : Nat) => xs[(((xs.size : Int) - 1) + (m : Int) * -1).toNat]?).toArray = xs.toList.reverse.toArray := by
  have e : ((List.range xs.size).filterMap fun (m : Nat) => xs[(((xs.size : Int) - 1) + (m : Int) * -1).toNat]?) = ((List.range xs.size).map fun k => xs.size - 1 - k).filterMap (xs[·]?) := by
    rw [List.filterMap_map]
    refine fm_congr fun m hm => ?_
    have := List.mem_range.mp hm
    show xs[(((xs.size : Int) - 1) + (m : Int) * -1).toNat]? = xs[xs.size - 1 - m]?
    rw [show (((xs.size : Int) - 1) + (m : Int) * -1).toNat = xs.size - 1 - m by omega]
  rw [e, PySem.W.krv_range, List.filterMap_reverse, PySem.W.krv_all]
theorem getItem_tuple_back {t sl : Addr} {items : Array Value} {vl vu vs : Value} {Q : Value → Shared → Prop} (ht : IsTup s.heap t items) (hs : s.heap.IsSliceOf sl vl vu vs) (pl : IsPart vl none) (pu : IsPart vu none) (ps : IsPart vs (some (-1)))
    (h : Q (.ref s.heap.objs.size) { s with heap := s.heap.push { cls := .type "tuple", data := .seq items.toList.reverse.toArray } })
    (hsz : items.size ≤ sizeLine) : wpAny (model prog w) A (getItem (.ref t) (.ref sl)) Q E s := by
  have htake : sizeOk (.seq items.toList.reverse.toArray) := by
    show items.toList.reverse.toArray.size ≤ sizeLine
    rw [List.size_toArray, List.length_reverse, Array.length_toList]
    exact hsz
  obtain ⟨os, hos, hcs, hds⟩ := id hs
  have hTs : s.TypeIs (.ref sl) "slice" := ⟨os, hos, hcs⟩
  unfold getItem
  try with_reducible refine wpAny_holding ?_
  first | refine wpAny_bind (wpAny_pure ?_) | skip
  refine wpAny_bind (wpAny_sequenceKey ht.typeIs (by decide) ?_)
  refine wpAny_bind (wpAny_callSpecial?_slot (name := Str.ofString "__getitem__") ht.typeIs PyProof.Rows.slot_tuple_getitem
    (wpAny_call_entry PyProof.Rows.slot_tuple_getitem ht.typeIs entry_tuple_getitem ?_ (args_tuple_getitem _ _)))
  show wpAny _ _ (Builtin.Tuple.tupleItemsOf (.ref t) >>= _) _ _ s
  refine wpAny_bind (tupleItemsOf_ ht ?_)
  refine wpAny_bind (wpAny_typeOf hTs ?_)
  rw [if_pos (by decide)]
  refine wpAny_bind (back_applied hs pl pu ps ?_)
  have hno : ¬ ((((items.size : Int) - 1) == 0 && (-1 : Int) == 1 && items.size == items.size) = true) := by
    intro q
    rw [Bool.and_eq_true, Bool.and_eq_true] at q
    have := q.1.2
    exact absurd this (by decide)
  show wpAny _ _ (if (((items.size : Int) - 1) == 0 && (-1 : Int) == 1 && items.size == items.size) = true then _ else _) _ _ s
  rw [if_neg hno, back_pick]
  first
    | exact wpAny_bind (m := Builtin.Tuple.tupleExact _) (wpAny_newObj_type (wpAny_pure ⟨_, rfl, wpAny_pure h⟩) htake)
    | exact wpAny_bind (m := Builtin.Tuple.tupleExact _) (wpAny_newObj_type (wpAny_bind (wpAny_pure (wpAny_pure ⟨_, rfl, wpAny_pure h⟩))) htake)
    | exact wpAny_bind (wpAny_bind (m := Builtin.Tuple.tupleExact _) (wpAny_newObj_type (wpAny_pure (wpAny_pure ⟨_, rfl, wpAny_pure h⟩)) htake))
    | exact wpAny_bind (wpAny_bind (m := Builtin.Tuple.tupleExact _) (wpAny_newObj_type (wpAny_pure ⟨_, rfl, wpAny_pure h⟩) htake))
end

def tRevT (K : PySem.W.Frag) (te : TE) : TE := fun σ H Q => te σ H fun x H1 => ∃ a xs, x = .ref a ∧ SqT K H1 a xs ∧ ∀ p, H1 p = none → Q (.ref p) (upd H1 p (.tup xs.reverse))
section
variable {X : Cx}
theorem pe_revT {e : Expr} {te : TE} {k : Nat} {p1 p2 p3 pos : Pos} (he : PE X e te) : PE X (.Subscript e (.Slice none none (some (.UnaryOp .USub (.Constant (.int 1) k p1) p2)) p3) pos) (tRevT X.K te) := by
  refine ⟨fun pins s σ H Q I h => ?_⟩
  refine Subscript_ (thn (he.run pins s σ H _ I h) fun v s1 ⟨x, H1, I1, r1, q1⟩ => ?_)
  obtain ⟨a, xs, ex, hx, q⟩ := q1
  subst ex
  cases r1
  have hst : PO X (some (.UnaryOp .USub (.Constant (.int 1) k p1) p2)) (tPart (tUn (rU fun i => .int (-i)) (tC (.int 1)))) := po_some (pe_un un_neg pe_int)
  refine wpAny_Slice (thn (po_none.run pins s1 σ H1 (fun o H2 => o = none ∧ H2 = H1) I1 ⟨rfl, rfl⟩) fun vl s2 ⟨l, H2, I2, pl, el, e2⟩ => ?_)
  subst el e2
  refine thn (po_none.run pins s2 σ H2 (fun o H3 => o = none ∧ H3 = H2) I2 ⟨rfl, rfl⟩) fun vu s3 ⟨u, H3, I3, pu, eu, e3⟩ => ?_
  subst eu e3
  refine thn (hst.run pins s3 σ H3 (fun o H4 => o = some (-1) ∧ H4 = H3) I3 ⟨1, rfl, -1, rfl, rfl, rfl⟩) fun vs s4 ⟨o, H4, I4, ps, eo, e4⟩ => ?_
  subst eo e4
  have I5 : Inv X pins σ H4 { s4 with heap := s4.heap.push { cls := .type "slice", data := .fields #[vl, vu, vs] } } := I4.kept (t' := s4.toks) fun b ob q => Heap.get?_push_of_some _ q
  obtain ⟨its, r, ht, hz⟩ := I5.tuple hx
  have hlen := r.length
  show wpAny (model X.prog X.w) X.A (subscriptTail e (.Slice none none (some (.UnaryOp .USub (.Constant (.int 1) k p1) p2)) p3) (.ref a) (.ref s4.heap.objs.size)) (EP X pins σ Q) X.xe { s4 with heap := s4.heap.push { cls := .type "slice", data := .fields #[vl, vu, vs] } }
  refine tail_any (ops := [.ref a, .ref s4.heap.objs.size]) ht.typeIs (PyProof.Rows.slot_tuple_getitem.lookup) ?_ (by with_unfolding_all rfl)
  refine getItem_tuple_back ht (Heap.IsSliceOf.new _ vl vu vs) pl pu ps ?_ (by rw [List.size_toArray]; omega)
  refine ⟨.ref _, _, I5.laid (t' := s4.toks) (o := .tup xs.reverse) (fun b ob q => Heap.get?_push_of_some _ q) (Nat.le_refl _) ?_, rfl, q _ (I5.hok.fresh (Nat.le_refl _))⟩
  exact ⟨by rw [List.length_reverse]; exact hz, _, r.reverse, IsTup.new _ _⟩
end
theorem DqAll.reverse {K : PySem.W.Frag} {H : Hp} : ∀ {ds : List PyData} {vs : List V}, DqAll K H vs ds → DqAll K H vs.reverse ds.reverse
  | _, _, .nil => .nil
  | _, _, .cons h t => by
    rw [List.reverse_cons, List.reverse_cons]
    exact DqAll.append (DqAll.reverse t) (.cons h .nil)
def dRevT (f : DTE) : DTE := fun env Q => f env fun s => ∃ xs, s.fz = .d (.tuple xs) ∧ Q (.d (.tuple xs.reverse))
def dRevL (f : DTE) : DTE := fun env Q => f env fun s => ∃ xs, s.fz = .d (.list xs) ∧ Q (.own xs.reverse)
section
variable {K : PySem.W.Frag} {F : Fr} {te : TE} {fe : DTE}
theorem sd_revT (h : SdE K F te fe) : SdE K F (tRevT K te) (dRevT fe) := by
  intro Hb H σ env Q k rp q c
  refine h.go (Q := fun s => ∃ xs, s = .d (.tuple xs) ∧ Q (.d (.tuple xs.reverse))) rp q fun x Hb1 H1 s st1 rs1 _ q1 => ?_
  obtain ⟨xs, e, q1⟩ := q1
  subst e
  cases (show Dq K Hb1 x (.tuple xs) from rs1) with
  | tup a1 a2 =>
    refine ⟨_, _, rfl, Same.seqT st1.st.ex a1, fun p hp => ?_⟩
    obtain ⟨s2, r2⟩ := tup_new (K := K) st1.st hp (DqAll.reverse a2)
    exact c _ _ _ (.d (.tuple xs.reverse)) (st1.trans s2) r2 trivial q1
theorem sd_revL (h : SdE K F te fe) : SdE K F (tRevL K te) (dRevL fe) := by
  intro Hb H σ env Q k rp q c
  refine h.go (Q := fun s => ∃ xs, s = .d (.list xs) ∧ Q (.own xs.reverse)) rp q fun x Hb1 H1 s st1 rs1 _ q1 => ?_
  obtain ⟨xs, e, q1⟩ := q1
  subst e
  cases (show Dq K Hb1 x (.list xs) from rs1) with
  | lst a1 a2 =>
    refine ⟨_, _, rfl, SqL.of (st1.st.ex _ _ a1), fun p hp => ?_⟩
    obtain ⟨s2, r2, f2⟩ := own_new (K := K) st1.st hp (DqAll.reverse a2)
    exact c _ _ _ (.own xs.reverse) (st1.trans s2) r2 (FrSl.back st1 f2) q1
end
section
variable {X : Cx} {F : Fr} {e : Expr} {te : TE} {fe : DTE} {k : Nat} {p1 p2 p3 pos : Pos}
theorem de_revT (h : DE X F e te fe) : DE X F (.Subscript e (.Slice none none (some (.UnaryOp .USub (.Constant (.int 1) k p1) p2)) p3) pos) (tRevT X.K te) (dRevT fe) := ⟨pe_revT h.pe, sd_revT h.sd⟩
theorem de_revL (h : DE X F e te fe) : DE X F (.Subscript e (.Slice none none (some (.UnaryOp .USub (.Constant (.int 1) k p1) p2)) p3) pos) (tRevL X.K te) (dRevL fe) := ⟨pe_revL h.pe, sd_revL h.sd⟩
theorem k_revT {K : PySem.W.Frag} (ek : X.K = K) (h : DE X F e te fe) : DE X F (.Subscript e (.Slice none none (some (.UnaryOp .USub (.Constant (.int 1) k p1) p2)) p3) pos) (tRevT K te) (dRevT fe) := ek ▸ de_revT h
theorem k_revL {K : PySem.W.Frag} (ek : X.K = K) (h : DE X F e te fe) : DE X F (.Subscript e (.Slice none none (some (.UnaryOp .USub (.Constant (.int 1) k p1) p2)) p3) pos) (tRevL K te) (dRevL fe) := ek ▸ de_revL h
end

/-! ### range(i, j, -1) -/
def downD (hi : Int) (n : Nat) : List PyData := (List.range n).map fun i => .int (hi - (i : Nat))
def dDown (f : DTA) : DTI := fun env Q => f env fun ss => ∃ i j : Int, ss = [.d (.int i), .d (.int j), .d (.int (-1))] ∧ (-(2 ^ 60) ≤ i ∧ i < 2 ^ 60 ∧ -(2 ^ 60) ≤ j ∧ j < 2 ^ 60) ∧ Q (downD i (i - j).toNat)
section
variable {K : PySem.W.Frag} {F : Fr} {hid : Hid} {tr : TA} {fr : DTA}
theorem gives_down {Hb : Hp} (hi : Int) (n : Nat) : Gives K hid Hb (Itc hi (-1) n) (downD hi n) := by
  have hl : (downD hi n).length = n := by simp [downD]
  refine ⟨fun _ => True, _, by rw [hl]; exact walk_rangeC, fun _ _ => trivial, fun i Hb' H x H' hi' st ex y => ?_⟩
  obtain ⟨e1, e2⟩ := y
  subst e1 e2
  rw [hl] at hi'
  refine ⟨Hb', .int (hi - (i : Nat)), by simp [downD, hi'], Step.refl st, ?_⟩
  have e : hi + (i : Int) * -1 = hi - (i : Int) := by omega
  show Dq K Hb' (.int (hi + (i : Int) * -1)) _
  rw [e]
  exact .int _
theorem down_size {i j : Int} : Builtin.Range.rangeSize i j (-1) = (i - j).toNat := by
  unfold Builtin.Range.rangeSize
  rw [if_neg (by decide)]
  by_cases c : i > j
  · rw [if_pos c, show (-(-1 : Int)) = 1 by decide, Int.ediv_one]; omega
  · rw [if_neg c]; omega
theorem rgC_down {i j : Int} (h : -(2 ^ 60) ≤ i ∧ i < 2 ^ 60 ∧ -(2 ^ 60) ≤ j ∧ j < 2 ^ 60) : RgC i j (-1) (i - j).toNat := by
  refine ⟨by decide, by decide, ?_, down_size⟩
  have fit : ∀ x : Int, -(2 ^ 62) ≤ x → x < 2 ^ 62 → Builtin.Range.rangeFitsLong x = true := fun x h1 h2 => by
    unfold Builtin.Range.rangeFitsLong
    rw [Bool.and_eq_true]
    exact ⟨decide_eq_true (by omega), decide_eq_true (by omega)⟩
  unfold Builtin.Range.small
  rw [down_size, fit i (by omega) (by omega), fit j (by omega) (by omega), fit (-1) (by omega) (by omega), fit _ (by omega) (by omega)]
  rw [if_neg (by decide), fit (j + (-1 + 1)) (by omega) (by omega), Bool.or_true]
  rfl
theorem rep3 {Hb H : Hp} {xs : List V} {s u t : Sl} (r : RepAll K hid Hb H xs [s, u, t]) : ∃ v w x, xs = [v, w, x] ∧ RepSl K hid Hb H v s ∧ RepSl K hid Hb H w u ∧ RepSl K hid Hb H x t := by
  cases r with
  | cons h _ t =>
    cases t with
    | cons h2 _ t =>
      cases t with
      | cons h3 _ t => cases t; exact ⟨_, _, _, rfl, h, h2, h3⟩
theorem si_down (h : SdA K F tr fr) : SdI K F (iRng3 tr) (dDown fr) := by
  intro Hb H σ env Q R rp q c
  refine h Hb H σ env _ _ rp q fun vs Hb1 H1 ss st1 rs1 q1 => ?_
  obtain ⟨i, j, e, b, q1⟩ := q1
  subst e
  obtain ⟨x, y, z, rfl, h1, h2, h3⟩ := rep3 rs1
  rw [int_of h1, int_of h2, int_of h3]
  exact ⟨i, j, -1, _, rfl, rgC_down b, c _ Hb1 H1 _ st1 (gives_down i _) q1⟩
end
section
variable {X : Cx} {F : Fr} {tg : Expr} {tr : TA} {fr : DTA} {p pos : Pos}
theorem di_down {a b c : Expr} (hm : X.mg "range" = none) (ha : DA X F [a, b, c] tr fr) (hg : Gl X "range" := by rfl) (hs : starEach [a, b, c] X.env = (false, eval a X.env) :: starEach [b, c] X.env := by rfl) (hpl : (backTo pos (starEach [b, c] X.env)).any (·.1) = false := by rfl) : DI X F tg (.Call (.Name "range" p) [a, b, c] [] pos) (iRng3 tr) (dDown fr) := ⟨pi_range3 hg hm ha.pe hs hpl, si_down ha.sd⟩
end

/-! ### max of a list of ints, int of a truth, isinstance -/
def intsD : List PyData → Option (List Int)
  | [] => some []
  | .int i :: xs => (intsD xs).map (i :: ·)
  | _ :: _ => none
theorem intsD_map : ∀ ns : List Int, intsD (ns.map PyData.int) = some ns
  | [] => rfl
  | n :: ns => by rw [List.map_cons]; unfold intsD; rw [intsD_map ns]; rfl
theorem ints_v {K : PySem.W.Frag} {H : Hp} : ∀ {ds : List PyData} {vs : List V} {ns : List Int}, DqAll K H vs ds → intsD ds = some ns → vs = ns.map V.int
  | [], _, _, .nil, e => by cases e; rfl
  | d :: ds, _, _, .cons h t, e => by
    cases h with
    | int i =>
      unfold intsD at e
      obtain ⟨r, e1, e2⟩ := Option.map_eq_some_iff.mp e
      subst e2
      rw [ints_v t e1]; rfl
    | _ => cases e
def fMax1 : FN := fun ss Q => match ss with
  | [.d (.list ds)] => ∃ ns, intsD ds = some ns ∧ 0 < ns.length ∧ ∀ m, m ∈ ns → (∀ y ∈ ns, y ≤ m) → Q (.d (.int m))
  | _ => False
def fIntA : FN := fun ss Q => match ss with
  | [.d (.int i)] => Q (.d (.int i))
  | [.d (.bool b)] => Q (.d (.int (if b then 1 else 0)))
  | _ => False
def tyName : PyData → String
  | .none => "NoneType"
  | .bool _ => "bool"
  | .int _ => "int"
  | .str _ => "str"
  | .list _ => "list"
  | .tuple _ => "tuple"
  | .dict _ => "dict"
def fIsi : FN := fun ss Q => match ss with
  | [.d x, .v (.ty n)] => ∃ b, kitB (tyName x) n = some b ∧ Q (.d (.bool b))
  | _ => False
section
variable {K : PySem.W.Frag} {hid : Hid}
theorem lc_max1 : LC K hid (rMax K) fMax1 := by
  intro Hb H xs ss Q k st r q c
  unfold fMax1 at q
  split at q
  · rename_i ds
    obtain ⟨v, rfl, h⟩ := rep1 r
    obtain ⟨ns, e, hl, q⟩ := q
    cases (show Dq K Hb v (.list ds) from h) with
    | lst h1 h2 =>
      have ev := ints_v h2 e
      subst ev
      exact ⟨_, ns, rfl, SqL.of (st.ex _ _ h1), hl, fun m hm hy => c _ Hb H (.d (.int _)) (Step.refl st) (Dq.int _) trivial (q m hm hy)⟩
  · exact q.elim
theorem lc_intA : LC K hid (fun xs H Q => (∃ i, xs = [.int i] ∧ Q (.int i) H) ∨ ∃ k, xs = [.bl k] ∧ Q (.int (if k then 1 else 0)) H) fIntA := by
  intro Hb H xs ss Q k st r q c
  unfold fIntA at q
  split at q
  · obtain ⟨v, rfl, h⟩ := rep1 r
    rw [int_of h]
    exact .inl ⟨_, rfl, c _ Hb H (.d (.int _)) (Step.refl st) (Dq.int _) trivial q⟩
  · obtain ⟨v, rfl, h⟩ := rep1 r
    rw [bool_of' h]
    exact .inr ⟨_, rfl, c _ Hb H (.d (.int _)) (Step.refl st) (Dq.int _) trivial q⟩
  · exact q.elim
theorem ty_of {Hb H : Hp} {v : V} {x : PyData} (h : Dq K Hb v x) (s : Same Hb H) : TyX K H v (.type (tyName x)) := by
  cases h with
  | non => exact .base .non
  | bl b => exact .base (.bl b)
  | int i => exact .base (.int i)
  | str z => exact .base (.str z)
  | lst h1 _ => exact .base (.lst (s _ _ h1))
  | dic h1 _ _ => exact .base (.dK (s _ _ h1))
  | tup h1 _ =>
    rcases h1 with (h1 | ⟨o, h1⟩) | ⟨o, its, n, h2, h3, _⟩
    · exact .base (.tup (s _ _ h1))
    · exact .fTuple (s _ _ h1)
    · exact .kTuple h2 h3
theorem lc_isi : LC K hid (rIsi K) fIsi := by
  intro Hb H xs ss Q k st r q c
  unfold fIsi at q
  split at q
  · rename_i x n
    obtain ⟨v, w, rfl, h1, h2⟩ := rep2 r
    obtain ⟨b, e, q⟩ := q
    have e2 : w = .ty n := h2
    subst e2
    exact ⟨v, .ty n, .type (tyName x), .type n, b, rfl, .ty n, ty_of h1 st.ex, kit_ty e, c _ Hb H (.d (.bool b)) (Step.refl st) (Dq.bl b) trivial q⟩
  · exact q.elim
end
theorem k_max1 {X : Cx} {K : PySem.W.Frag} (e : X.K = K) (hc : X.calm = true := by rfl) : CallR X (.builtin "max") (rMax K) := e ▸ cr_max hc
theorem k_isi {X : Cx} {K : PySem.W.Frag} (e : X.K = K) : CallR X (.builtin "isinstance") (rIsi K) := e ▸ call_isi
end Pu

end

section
set_option maxHeartbeats 1000000
/-! PuY: own lists read where the value holds no list; an own list's item; dicts made, read; written dicts read. -/
namespace Pu
open PySem L2 PyProof.Rows

/-! ### values without lists -/
mutual
def lfD : PyData → Bool
  | .none => true
  | .bool _ => true
  | .int _ => true
  | .str _ => true
  | .tuple xs => lfAll xs
  | .list _ => false
  | .dict _ => false
def lfAll : List PyData → Bool
  | [] => true
  | x :: xs => lfD x && lfAll xs
end
theorem lfAll_iff : ∀ {xs : List PyData}, lfAll xs = true ↔ ∀ x ∈ xs, lfD x = true
  | [] => by simp [lfAll]
  | x :: xs => by simp [lfAll, lfAll_iff]
def Sl.lf : Sl → Prop
  | .d x => lfD x = true
  | .v _ => True
  | .src => True
  | .own xs => lfAll xs = true
  | .ownD ds => lfAll (ds.map Prod.snd) = true
section
variable {K : PySem.W.Frag} {F : Fr} {Hb H : Hp} {σ : L2.St} {env : EV}
theorem Butl.seqT {H H' : Hp} {a : Addr} {xs : List V} (e : Butl H H') (h : SqT K H a xs) : SqT K H' a xs := by
  rcases h with (h | ⟨o, h⟩) | h
  · rcases e _ _ h with (⟨vs, z⟩ | ⟨vs, z⟩) | z
    · cases z
    · cases z
    · exact .inl (.inl z)
  · rcases e _ _ h with (⟨vs, z⟩ | ⟨vs, z⟩) | z
    · cases z
    · cases z
    · exact .inl (.inr ⟨o, z⟩)
  · exact .inr h
theorem Dq.lf {H H' : Hp} (e : Butl H H') {d : PyData} {v : V} (h : Dq K H v d) : lfD d = true → Dq K H' v d :=
  Dq.rec (motive_1 := fun v d _ => lfD d = true → Dq K H' v d) (motive_2 := fun vs ds _ => lfAll ds = true → DqAll K H' vs ds) (fun _ => .non) (fun b _ => .bl b) (fun i _ => .int i) (fun x _ => .str x)
    (fun _ _ _ z => by cases z) (fun h1 _ i z => .tup (e.seqT h1) (i (by simpa [lfD] using z)))
    (fun _ _ _ _ z => by cases z) (fun _ => .nil) (fun _ _ i1 i2 z => by
      rw [lfAll, Bool.and_eq_true] at z
      exact .cons (i1 z.1) (i2 z.2)) h
theorem DqAll.lf {H H' : Hp} (e : Butl H H') : ∀ {ds : List PyData} {vs : List V}, DqAll K H vs ds → lfAll ds = true → DqAll K H' vs ds
  | _, _, .nil, _ => .nil
  | _, _, .cons h t, z => by
    rw [lfAll, Bool.and_eq_true] at z
    exact .cons (Dq.lf e h z.1) (DqAll.lf e t z.2)
theorem Rep.frzL2 : ∀ (js : List Nat) {Hb : Hp} {env : EV}, Rep K F Hb H σ env → ∃ Hb1, Same Hb Hb1 ∧ NewL Hb Hb1 ∧ Rep K F Hb1 H σ (Pu.frzL env js)
  | [], Hb, env, r => ⟨Hb, Same.refl _, fun b o e n => (by rw [n] at e; cases e), r⟩
  | j :: js, Hb, env, r => by
    obtain ⟨Hb1, e1, n1, r1⟩ := r.frz2 j
    obtain ⟨Hb2, e2, n2, r2⟩ := Rep.frzL2 js r1
    refine ⟨Hb2, e1.trans e2, fun b o e n => ?_, r2⟩
    cases z : Hb1 b with
    | none => exact n2 b o e z
    | some u =>
      have := e2 b u z
      rw [this] at e
      cases e
      exact n1 b _ z n
open Classical in
/-- own lists read within an expression whose value holds no list -/
def dPeekF (js : List Nat) (t : DTE) : DTE := fun env Q => t (frzL env js) fun s => s.lf ∧ Q s
open Classical in
theorem sd_peekF (js : List Nat) {te : TE} {t : DTE} (h : SdE K F te t) : SdE K F te (dPeekF js t) := by
  intro Hb H σ env Q k r q c
  obtain ⟨Hb1, e1, n1, r1⟩ := r.frzL2 js
  refine h Hb1 H σ _ _ k r1 q fun v Hb2 H' s st rs f q => ?_
  obtain ⟨fl, q⟩ := q
  let Hb3 : Hp := fun b => if Hb b = none ∧ Hb1 b ≠ none then none else Hb2 b
  have sub : ∀ b o, Hb3 b = some o → Hb2 b = some o := fun b o e => by
    have e : (if Hb b = none ∧ Hb1 b ≠ none then none else Hb2 b) = some o := e
    split at e
    · cases e
    · exact e
  have keep : Butl Hb2 Hb3 := fun b o e => by
    by_cases z : Hb b = none ∧ Hb1 b ≠ none
    · left
      cases y : Hb1 b with
      | none => exact (z.2 y).elim
      | some u =>
        have := st.ex b u y
        rw [this] at e
        cases e
        exact n1 b _ y z.1
    · right
      show (if Hb b = none ∧ Hb1 b ≠ none then none else Hb2 b) = some o
      rw [if_neg z]; exact e
  have step : Step F.hid Hb H Hb3 H' := by
    refine ⟨⟨fun b o e => st.st.ex b o (sub b o e), st.st.ok, fun b hb => ?_⟩, fun b o e => ?_, fun b o e n => ?_, st.keep⟩
    · cases y : Hb3 b with
      | none => rfl
      | some u =>
        have := sub b u y
        rw [st.st.out b hb] at this
        cases this
    · show (if Hb b = none ∧ Hb1 b ≠ none then none else Hb2 b) = some o
      rw [if_neg (fun z => by rw [z.1] at e; cases e)]
      exact st.ex b o (e1 b o e)
    · have e' := sub b o e
      cases y : Hb1 b with
      | none => exact st.new b o e' y
      | some u =>
        have e : (if Hb b = none ∧ Hb1 b ≠ none then none else Hb2 b) = some o := e
        rw [if_pos ⟨n, fun z => by rw [z] at y; cases y⟩] at e
        cases e
  refine c v Hb3 H' s step ?_ f q
  cases s with
  | d x => exact Dq.lf keep rs fl
  | v y => exact rs
  | src => exact rs
  | own xs =>
    obtain ⟨p, vs, e2, e3, e4, e5, e6⟩ := rs
    refine ⟨p, vs, e2, e3, DqAll.lf keep e4 fl, ?_, e6⟩
    cases y : Hb3 p with
    | none => rfl
    | some u =>
      have := sub p u y
      rw [e5] at this; cases this
  | ownD ds =>
    obtain ⟨p, vs, e2, e3, e4, e5, e6⟩ := rs
    refine ⟨p, vs, e2, e3, ⟨e4.1, DqAll.lf keep e4.2 fl⟩, ?_, e6⟩
    cases y : Hb3 p with
    | none => rfl
    | some u =>
      have := sub p u y
      rw [e5] at this; cases this
end
section
variable {X : Cx} {F : Fr} {e : Expr} {te : TE} {fe : DTE}
theorem de_peekF (js : List Nat) (h : DE X F e te fe) : DE X F e te (dPeekF js fe) := ⟨h.pe, sd_peekF js h.sd⟩
end

/-! ### an item of an own list -/
def dIxOwn (i : Nat) (f : DTE) : DTE := fun env Q => ∃ xs, env[i]? = some (some (.own xs)) ∧ f env fun s => ∃ n d, s.fz = .d (.int n) ∧ atI xs n = some d ∧ Q (.d d)
section
variable {K : PySem.W.Frag} {F : Fr}
theorem sd_ixOwn {i : Nat} {tk : TE} {fk : DTE} (h : SdE K F tk fk) : SdE K F (tOp (rIx K) (tVar i) tk) (dIxOwn i fk) := by
  intro Hb H σ env Q k r q c
  obtain ⟨xs, e, q⟩ := q
  obtain ⟨v, e1, rs, fr⟩ := r.sl i _ e
  obtain ⟨p, vs, e2, e3, e4, e5, e6⟩ := rs
  subst e2
  refine ⟨_, e1, ?_⟩
  refine h.go (Q := fun s => ∃ n d, s = .d (.int n) ∧ atI xs n = some d ∧ Q (.d d)) r q fun y Hb1 H1 s st1 rs1 _ q1 => ?_
  obtain ⟨n, d, es, ed, q1⟩ := q1
  subst es
  obtain ⟨u, h3, h4⟩ := at_d (DqAll.mono st1.ex e4) ed
  exact .inl ⟨_, _, n, u, rfl, int_of rs1, SqL.of (st1.keep p _ e3 e6), h3, c u Hb1 H1 (.d d) st1 h4 trivial q1⟩
end
theorem k_ixOwn {X : Cx} {F : Fr} {K : PySem.W.Frag} {i : Nat} {x : Str} {b : Expr} {tk : TE} {fk : DTE} {ps pos : Pos} (ek : X.K = K) (h : DE X F b tk fk) (hN : X.N[i]? = some x := by rfl)
    (hv : Vis X.env.scope x := by first | exact Or.inl rfl | exact Or.inr (Or.inl rfl) | exact Or.inr (Or.inr rfl)) (hd : (x == ("__debug__" : Str)) = false := by decide)
    (hcd : (x == ("__classdict__" : Str)) = false := by decide) (hs : PlainIx b := by exact fun _ _ => rfl) : DE X F (.Subscript (.Name x ps) b pos) (tOp (rIx K) (tVar i) tk) (dIxOwn i fk) :=
  ek ▸ ⟨pe_ix ix_seq (pe_var hN hv hd hcd) h.pe hs, sd_ixOwn h.sd⟩
end Pu

end

section
set_option maxHeartbeats 1000000
/-! PuDc: dicts with texts for keys: made, read; written ones read. -/
namespace Pu
open PySem L2 PyProof.Rows
def isStr : PyData → Str → Bool
  | .str k, z => decide (k = z)
  | _, _ => false
theorem isStr_key {q : Key} {z : Str} : isStr (keyD q) z = true ↔ q = Sum.inr z := by
  cases q with
  | inl i => simp [keyD, isStr]
  | inr x => simp [keyD, isStr]
def getS : List (PyData × PyData) → Str → Option PyData
  | [], _ => none
  | p :: r, z => if isStr p.1 z = true then some p.2 else getS r z
theorem getS_some {K : PySem.W.Frag} {H : Hp} {z : Str} {d : PyData} : ∀ {ds : List (PyData × PyData)} {kvs : List (Key × V)}, ds.map Prod.fst = kvs.map (fun p => keyD p.1) → DqAll K H (kvs.map Prod.snd) (ds.map Prod.snd) → getS ds z = some d →
    ∃ v, valV kvs (Sum.inr z) = some v ∧ Dq K H v d
  | [], _, _, _, e => by cases e
  | p :: ds, [], e, _, _ => by cases e
  | p :: ds, q :: kvs, e, h, g => by
    rw [List.map_cons, List.map_cons] at e h
    injection e with e1 e2
    cases h with
    | cons h t =>
      unfold getS at g
      rw [e1] at g
      by_cases c : q.1 = Sum.inr z
      · rw [if_pos (isStr_key.mpr c)] at g
        cases g
        exact ⟨_, valV_pos c, h⟩
      · rw [if_neg (fun y => c (isStr_key.mp y))] at g
        rw [valV_neg c]
        exact getS_some e2 t g
theorem getS_none {z : Str} : ∀ {ds : List (PyData × PyData)} {kvs : List (Key × V)}, ds.map Prod.fst = kvs.map (fun p => keyD p.1) → getS ds z = none → valV kvs (Sum.inr z) = none
  | [], [], _, _ => rfl
  | [], q :: kvs, e, _ => by cases e
  | p :: ds, [], e, _ => by cases e
  | p :: ds, q :: kvs, e, g => by
    rw [List.map_cons, List.map_cons] at e
    injection e with e1 e2
    unfold getS at g
    rw [e1] at g
    by_cases c : q.1 = Sum.inr z
    · rw [if_pos (isStr_key.mpr c)] at g
      cases g
    · rw [if_neg (fun y => c (isStr_key.mp y))] at g
      rw [valV_neg c]
      exact getS_none e2 g
/-- d[z] -/
def fDIx : F2 := fun s u Q => match s, u with
  | .d (.dict kvs), .d (.str z) => ∃ d, getS kvs z = some d ∧ Q (.d d)
  | _, _ => False
def rDIx : R2 := fun x y H Q => ∃ a v, x = .ref a ∧ DGet H a y (some v) ∧ Q v H
section
variable {K : PySem.W.Frag} {hid : Hid}
theorem lo_dix : LO K hid rDIx fDIx := by
  intro Hb H x y s u Q k st rx ry q c
  unfold fDIx at q
  split at q
  · rename_i kvs z
    obtain ⟨d, e, q⟩ := q
    cases (show Dq K Hb x (.dict kvs) from rx) with
    | dic h1 h2 h3 =>
      obtain ⟨v, ev, hv⟩ := getS_some h2 h3 e
      rw [str_of ry]
      refine ⟨_, v, rfl, ?_, c v Hb H (.d d) (Step.refl st) hv trivial q⟩
      rw [← ev]
      exact DGet.k (k := Sum.inr z) (st.ex _ _ h1)
  · exact q.elim
end
section
variable {X : Cx} {F : Fr} {a b : Expr} {ta tb tx : TE} {fa fb fx : DTE} {pos : Pos}
theorem de_dix (hu : X.A.units + 64 < cLine) (ha : DE X F a ta fa) (hb : DE X F b tb fb) (hs : NoSl b := by exact fun _ _ => rfl) : DE X F (.Subscript a b pos) (tOp rDIx ta tb) (dOp fDIx fa fb) := ⟨pe_dget (Nat.lt_of_le_of_lt (Nat.add_le_add_left (by decide) _) hu) ha.pe hb.pe hs, sd_op lo_dix ha.sd hb.sd⟩
end
/-! ### d.get(z, x) -/
def orSl (o : Option PyData) (t : Sl) : Sl := match o with
  | some d => .d d
  | none => t

def dGet2 (f g h : DTE) : DTE := fun env Q => f env fun s => ∃ kvs, s.fz = .d (.dict kvs) ∧ g env fun u => ∃ z, u.fz = .d (.str z) ∧ h env fun t => Q (orSl (getS kvs z) t.fz)
section
variable {K : PySem.W.Frag} {F : Fr} {ta tb tx : TE} {fa fb fx : DTE}
theorem sd_get2 (h1 : SdE K F ta fa) (h2 : SdE K F tb fb) (h3 : SdE K F tx fx) : SdE K F (tDGet2 ta tb tx) (dGet2 fa fb fx) := by
  intro Hb H σ env Q k rp q c
  refine h1.go (Q := fun s => ∃ kvs, s = .d (.dict kvs) ∧ fb env fun u => ∃ z, u.fz = .d (.str z) ∧ fx env fun t => Q (orSl (getS kvs z) t.fz)) rp q fun x Hb1 H1 s st1 rs1 _ q1 => ?_
  obtain ⟨kvs, e, q1⟩ := q1
  subst e
  cases (show Dq K Hb1 x (.dict kvs) from rs1) with
  | dic a1 a2 a3 =>
    refine ⟨_, rfl, .inl ⟨_, .inl (st1.st.ex _ _ a1)⟩, ?_⟩
    refine h2.go (Q := fun u => ∃ z, u = .d (.str z) ∧ fx env fun t => Q (orSl (getS kvs z) t.fz)) (rp.on st1) q1 fun y Hb2 H2 u st2 rs2 _ q2 => ?_
    obtain ⟨z, e, q2⟩ := q2
    subst e
    refine h3.go (Q := fun t => Q (orSl (getS kvs z) t)) (rp.on (st1.trans st2)) q2 fun t Hb3 H3 u st3 rs3 ez q3 => ?_
    rw [str_of rs2]
    have a1' := (st2.trans st3).ex _ _ a1
    refine ⟨_, DGet.k (k := Sum.inr z) (st3.st.ex _ _ a1'), ?_⟩
    have all := (st1.trans st2).trans st3
    cases g : getS kvs z with
    | none =>
      rw [g] at q3
      rw [getS_none a2 g]
      exact c t Hb3 H3 u all rs3 (fr_of ez) q3
    | some d =>
      rw [g] at q3
      obtain ⟨v, ev, hv⟩ := getS_some a2 (DqAll.mono (st2.trans st3).ex a3) g
      rw [ev]
      exact c v Hb3 H3 (.d d) all hv trivial q3
end
section
variable {X : Cx} {F : Fr} {o e f : Expr} {ta tb tx : TE} {fa fb fx : DTE} {apos cpos : Pos}
theorem de_get2 (hu : X.A.units + 64 < cLine) (ha : DE X F o ta fa) (hb : DE X F e tb fb) (hx : DE X F f tx fx) (m : M2 X o "get" apos e f cpos := by exact ⟨rfl, rfl, rfl, rfl⟩) : DE X F (.Call (.Attribute o "get" apos) [e, f] [] cpos) (tDGet2 ta tb tx) (dGet2 fa fb fx) :=
  ⟨pe_dget2 (Nat.lt_of_le_of_lt (Nat.add_le_add_left (by decide) _) hu) ha.pe hb.pe hx.pe m, sd_get2 ha.sd hb.sd hx.sd⟩
end
/-! ### written dicts -/
def tGetK (K : PySem.W.Frag) (w : World) (td ty tx : TE) : TE := fun σ H Q => td σ H fun x H1 => ∃ a es n, x = .ref a ∧ KDict K w a es n ∧ ty σ H1 fun y H2 => tx σ H2 fun z H3 => ∃ (k : Str) (r : Option Value), y = .str k ∧ PySem.W.nsIn K a k = some r ∧ (∀ u, r = some u → ∃ v, RelV v u ∧ Q v H3) ∧ (r = none → Q z H3)
theorem pe_getK {X : Cx} {o e f : Expr} {apos cpos : Pos} {td ty tx : TE} (ho : PE X o td) (he : PE X e ty) (hf : PE X f tx) (m : M2 X o "get" apos e f cpos) : PE X (.Call (.Attribute o "get" apos) [e, f] [] cpos) (tGetK X.K X.w td ty tx) := by
  refine ⟨fun pins s σ H Q I h => ?_⟩
  refine wpAny_Call_method m.base m.few m.line PySem.F.plainAttrs_dict PySem.F.slot_dict_get PySem.F.type_dict_get (thn (ho.run pins s σ H _ I h) fun u s1 ⟨x, H1, I1, rx, a, es, n, ex, D, q1⟩ => ?_)
  subst ex
  obtain rfl : u = Value.ref a := rx
  have hob := I1.kIn _ _ D.at_
  refine ⟨kd_type D I1, fun b q => ?_, ?_⟩
  · cases q
    exact ⟨_, hob, rfl⟩
  rw [m.trees]
  refine Calls.callWith_builtin rfl (Calls.evalArgs_plain (Calls.spliced_cons (thn (he.run pins s1 σ H1 _ I1 q1) fun iv s2 ⟨y, H2, I2, ry, q2⟩ =>
    Calls.spliced_cons (thn (hf.run pins s2 σ H2 _ I2 q2) fun fv s3 ⟨z, H3, I3, rz, k, r, ey, ek, q3, q4⟩ => Calls.spliced_nil ?_))))
  subst ey
  obtain ⟨t, rfl⟩ := ry
  refine call_meetsIn PySem.F.slot_dict_get (kd_type D I3) PySem.F.entry_dict_get (PySem.F.args_dict_get_3 _ _ _) (PySem.meets_dict_get_default (PySem.strKind X.prog X.w) a (PySem.strKind_is X.prog X.w k t) D.low fv) ⟨_, PySem.W.mapOf_K (prog := X.prog) I3.kIn D.at_ D.lit, ?_⟩
  show (fun vs' s' => _) _ _
  rw [PySem.W.find_K D.at_ ek]
  cases r with
  | none => exact ⟨z, H3, I3.tok _, rz, q4 rfl⟩
  | some u =>
    obtain ⟨v, rv, q⟩ := q3 u rfl
    exact ⟨v, H3, I3.tok _, rv, q⟩
/-- what a written dict holds at the texts ws -/
structure KTab (K : PySem.W.Frag) (w : World) (a : Addr) (ws : List Str) (tb : Str → Option PyData) : Prop where
  ex : ∃ es n, KDict K w a es n
  at_ : ∀ z ∈ ws, match tb z with
    | some d => ∃ u v, PySem.W.nsIn K a z = some (some u) ∧ RelV v u ∧ ∀ Hb : Hp, Dq K Hb v d
    | none => PySem.W.nsIn K a z = some none
def dGetK (ws : List Str) (tb : Str → Option PyData) (g h : DTE) : DTE := fun env Q => g env fun u => ∃ z, u.fz = .d (.str z) ∧ z ∈ ws ∧ h env fun t => Q (orSl (tb z) t.fz)
section
variable {K : PySem.W.Frag} {w : World} {F : Fr} {a : Addr} {ws : List Str} {tb : Str → Option PyData} {ty tx : TE} {fy fx : DTE}
theorem sd_getK (T : KTab K w a ws tb) (h2 : SdE K F ty fy) (h3 : SdE K F tx fx) : SdE K F (tGetK K w (tC (.ref a)) ty tx) (dGetK ws tb fy fx) := by
  intro Hb H σ env Q k rp q c
  obtain ⟨es, n, D⟩ := T.ex
  refine ⟨a, es, n, rfl, D, ?_⟩
  refine h2.go (Q := fun u => ∃ z, u = .d (.str z) ∧ z ∈ ws ∧ fx env fun t => Q (orSl (tb z) t.fz)) rp q fun y Hb2 H2 u st2 rs2 _ q2 => ?_
  obtain ⟨z, e, hz, q2⟩ := q2
  subst e
  refine h3.go (Q := fun t => Q (orSl (tb z) t)) (rp.on st2) q2 fun t Hb3 H3 u st3 rs3 ez q3 => ?_
  have T2 := T.at_ z hz
  cases g : tb z with
  | none =>
    rw [g] at q3 T2
    exact ⟨z, none, str_of rs2, T2, fun _ e => (by cases e), fun _ => c t Hb3 H3 u (st2.trans st3) rs3 (fr_of ez) q3⟩
  | some d =>
    rw [g] at q3 T2
    obtain ⟨u2, v, e1, e2, e3⟩ := T2
    refine ⟨z, some u2, str_of rs2, e1, fun u' e => ?_, fun e => by cases e⟩
    cases e
    exact ⟨v, e2, c v Hb3 H3 (.d d) (st2.trans st3) (e3 Hb3) trivial q3⟩
end
section
variable {X : Cx} {F : Fr} {K : PySem.W.Frag} {a : Addr} {ws : List Str} {tb : Str → Option PyData} {e f : Expr} {ty tx : TE} {fy fx : DTE} {x : Str} {p apos cpos : Pos}
theorem k_getK {w : World} (ek : X.K = K) (ew : X.w = w) (hm : X.mg x = some (.ref a)) (T : KTab K w a ws tb) (hb : DE X F e ty fy) (hx : DE X F f tx fx) (hg : Gl X x := by rfl) (hd : (x == ("__debug__" : Str)) = false := by decide)
    (m : M2 X (.Name x p) "get" apos e f cpos := by exact ⟨rfl, rfl, rfl, rfl⟩) : DE X F (.Call (.Attribute (.Name x p) "get" apos) [e, f] [] cpos) (tGetK K w (tC (.ref a)) ty tx) (dGetK ws tb fy fx) := by
  subst ek ew
  exact ⟨pe_getK (pe_glob hg hm rfl hd) hb.pe hx.pe m, sd_getK T hb.sd hx.sd⟩
end
/-! ### {k: v, ..} -/
structure DPs (X : Cx) (F : Fr) (pos : Pos) (ks : List Str) (keys : List (Option Expr)) (vals : List Expr) (trs : List (TE × TE)) (f : DTA) : Prop where
  pe : PPs X pos keys vals trs
  sd : ∀ (Hb H : Hp) (σ : L2.St) (env : EV) (Q : List Sl → Prop) (k : List (V × V) → Hp → Prop), Rep X.K F Hb H σ env → f env Q →
    (∀ vs Hb' H' ss, Step F.hid Hb H Hb' H' → RepAll X.K F.hid Hb' H' vs ss → vs.length = ks.length → Q ss → k ((ks.map V.str).zip vs) H') → tPairs trs σ H k
  all_ : keys.all (·.isSome) = true
  eq : keys.length = vals.length
  len : keys.length = ks.length
theorem dps_nil {X : Cx} {F : Fr} {pos : Pos} : DPs X F pos [] [] [] [] (fun _ Q => Q []) := ⟨pps_nil, fun Hb H σ env Q k r q c => c [] Hb H [] (Step.refl r.st) .nil rfl q, rfl, rfl, rfl⟩
theorem dps_cons {X : Cx} {F : Fr} {pos : Pos} {k : Str} {ks : List Str} {e : Expr} {keys : List (Option Expr)} {vals : List Expr} {trs : List (TE × TE)} {f : DTA} {te : TE} {fe : DTE} {j : Nat} {p : Pos} (h : DE X F e te fe) (r : DPs X F pos ks keys vals trs f) :
    DPs X F pos (k :: ks) (some (.Constant (.str k) j p) :: keys) (e :: vals) ((tC (.str k), te) :: trs) (dCons fe f) := by
  refine ⟨pps_cons pe_str h.pe r.pe, fun Hb H σ env Q c rp q cc => ?_, by rw [List.all_cons, r.all_]; rfl, by rw [List.length_cons, List.length_cons, r.eq], by rw [List.length_cons, List.length_cons, r.len]⟩
  show te σ H fun y H2 => tPairs trs σ H2 fun ps H3 => c ((V.str k, y) :: ps) H3
  refine h.sd.go (Q := fun s => f env fun ss => Q (s :: ss)) rp q fun x Hb1 H1 s st1 rs1 e1 q1 => ?_
  refine r.sd Hb1 H1 σ env (fun ss => Q (s :: ss)) _ (rp.on st1) q1 fun vs Hb2 H2 ss st2 rs2 hl q2 => ?_
  exact cc (x :: vs) Hb2 H2 (s :: ss) (st1.trans st2) (.cons (rs1.step st2) e1 rs2) (congrArg (· + 1) hl) q2
theorem putK_new {k : Key} {v : V} : ∀ {acc : List (Key × V)}, k ∉ acc.map Prod.fst → putK acc k v = acc ++ [(k, v)] := by
  intro acc h
  unfold putK
  rw [if_neg]
  intro z
  obtain ⟨p, hp, e⟩ := List.any_eq_true.mp z
  exact h (List.mem_map.mpr ⟨p, hp, of_decide_eq_true e⟩)
theorem mergeK_new : ∀ {more acc : List (Key × V)}, (acc.map Prod.fst ++ more.map Prod.fst).Nodup → mergeK acc more = acc ++ more
  | [], acc, _ => by rw [List.append_nil]; rfl
  | p :: r, acc, h => by
    have h1 : p.1 ∉ acc.map Prod.fst := fun z => by
      have := (List.nodup_append.mp h).2.2 _ z _ (List.mem_map.mpr ⟨p, List.mem_cons_self, rfl⟩)
      exact this rfl
    show mergeK (putK acc p.1 p.2) r = _
    rw [putK_new h1, mergeK_new]
    · rw [List.append_assoc]; rfl
    · rw [List.map_append, List.append_assoc]; exact h
def dDisp (ks : List Str) (f : DTA) : DTE := fun env Q => f env fun ss => ∃ ds, allD ss = some ds ∧ Q (.d (.dict ((ks.map PyData.str).zip ds)))
theorem nodup_inr : ∀ {ks : List Str}, ks.Nodup → (ks.map (Sum.inr : Str → Key)).Nodup
  | [], _ => List.nodup_nil
  | k :: ks, h => by
    obtain ⟨h1, h2⟩ := List.nodup_cons.mp h
    rw [List.map_cons]
    refine List.nodup_cons.mpr ⟨fun z => ?_, nodup_inr h2⟩
    obtain ⟨y, hy, e⟩ := List.mem_map.mp z
    cases e
    exact h1 hy
theorem zip_fst {α β : Type} : ∀ {xs : List α} {ys : List β}, xs.length = ys.length → (xs.zip ys).map Prod.fst = xs
  | [], [], _ => rfl
  | x :: xs, y :: ys, h => by rw [List.zip_cons_cons, List.map_cons, zip_fst (by simpa using h)]
  | [], _ :: _, h => by cases h
  | _ :: _, [], h => by cases h
theorem zip_snd {α β : Type} : ∀ {xs : List α} {ys : List β}, xs.length = ys.length → (xs.zip ys).map Prod.snd = ys
  | [], [], _ => rfl
  | x :: xs, y :: ys, h => by rw [List.zip_cons_cons, List.map_cons, zip_snd (by simpa using h)]
  | [], _ :: _, h => by cases h
  | _ :: _, [], h => by cases h
theorem zip_map_l {α β γ : Type} (g : α → γ) : ∀ {xs : List α} {ys : List β}, (xs.map g).zip ys = (xs.zip ys).map fun p => (g p.1, p.2)
  | [], _ => by simp
  | x :: xs, [] => by simp
  | x :: xs, y :: ys => by simp [zip_map_l g]
theorem de_disp {X : Cx} {F : Fr} {pos : Pos} {ks : List Str} {keys : List (Option Expr)} {vals : List Expr} {trs : List (TE × TE)} {f : DTA} (h : DPs X F pos ks keys vals trs f) (nd : ks.Nodup := by decide) (h0 : keys ≠ [] := by exact List.cons_ne_nil _ _) (h15 : ks.length ≤ 15 := by decide) :
    DE X F (.Dict keys vals pos) (tDisp trs) (dDisp ks f) := by
  refine ⟨pe_disp h.pe h.all_ h.eq h0 (by rw [h.len]; exact h15), ?_⟩
  intro Hb H σ env Q k rp q c p hp
  have s0 := Step.raw (o := .dK []) rp.st hp
  have bp : Hb p = none := none_back (fun o e => rp.st.ex p o e) hp
  have np : ¬ F.hid.has p := fun z => by obtain ⟨o, e⟩ := rp.st.ok.there z; rw [e] at hp; cases hp
  refine h.sd Hb _ σ env _ _ (rp.on s0) q fun vs Hb1 H1 ss st1 rs1 hl q1 => ?_
  obtain ⟨ds, ed, q1⟩ := q1
  have hd := allD_rep rs1 ed
  have hp1 : H1 p = some (.dK []) := st1.keep p _ upd_same np
  have bp1 : Hb1 p = none := by
    cases z : Hb1 p with
    | none => rfl
    | some o =>
      have := st1.new p o z bp
      rw [upd_same] at this; cases this
  have lv : (ks.map (Sum.inr : Str → Key)).length = vs.length := by rw [List.length_map, hl]
  have ld : (ks.map PyData.str).length = ds.length := by rw [List.length_map, ← hl, DqAll.length hd]
  have em : mergeK [] ((ks.map (Sum.inr : Str → Key)).zip vs) = (ks.map (Sum.inr : Str → Key)).zip vs := by
    rw [mergeK_new, List.nil_append]
    rw [zip_fst lv]
    show (ks.map (Sum.inr : Str → Key)).Nodup
    exact nodup_inr nd
  refine ⟨hp1, (ks.map (Sum.inr : Str → Key)).zip vs, ?_, ?_, ?_⟩
  · rw [zip_map_l V.str, zip_map_l (Sum.inr : Str → Key), List.map_map]
    rfl
  · rw [List.length_zip, List.length_map]; omega
  rw [em]
  have all := s0.trans st1
  refine c (.ref p) (upd Hb1 p (.dK ((ks.map (Sum.inr : Str → Key)).zip vs))) _ (.d (.dict ((ks.map PyData.str).zip ds))) ⟨⟨fun b o e => ?_, all.st.ok.keeps fun b o hb e => ?_, fun b hb => ?_⟩, fun b o e => ?_, fun b o e n => ?_, fun b o e hb => ?_⟩ ?_ trivial q1
  · by_cases z : b = p
    · subst z; rw [upd_same] at e ⊢; exact e
    · rw [upd_ne z] at e ⊢; exact all.st.ex b o e
  · rw [upd_ne (fun z : b = p => np (z ▸ hb))]; exact e
  · rw [upd_ne (fun z : b = p => np (z ▸ hb))]; exact all.st.out b hb
  · rw [upd_ne (ne_of_none e bp)]; exact all.ex b o e
  · by_cases z : b = p
    · rw [z]; exact hp
    · rw [upd_ne z] at e; exact all.new b o e n
  · rw [upd_ne (ne_of_none e hp)]; exact all.keep b o e hb
  · have ex : Same Hb1 (upd Hb1 p (.dK ((ks.map (Sum.inr : Str → Key)).zip vs))) := fun b u e => by rw [upd_ne (ne_of_none e bp1)]; exact e
    refine .dic upd_same ?_ ?_
    · rw [zip_fst ld]
      rw [show (fun (p : Key × V) => keyD p.1) = keyD ∘ Prod.fst from rfl, ← List.map_map, zip_fst lv, List.map_map]
      rfl
    · rw [zip_snd ld, zip_snd lv]
      exact DqAll.mono ex hd
end Pu

end

section
set_option maxHeartbeats 1000000
/-! PuP: a, b = x, y, where one of the two is a list of one's own. -/
namespace Pu
open PySem L2 PyProof.Rows
/-- the last one is one's own -/
def dParL (i j : Nat) (fa fb : DTE) : DTS := fun E env => fa env fun s => fb env fun u => E.nx ((env.set i (some s.fz)).set j (some u))
/-- the first one is one's own -/
def dParF (i j : Nat) (fa fb : DTE) : DTS := fun E env => fa env fun s => fb env fun u => E.nx ((env.set i (some s)).set j (some u.fz))
section
variable {K : PySem.W.Frag} {F : Fr} {ta tb : TE} {fa fb : DTE} {Hb H Hb1 H1 : Hp} {σ : L2.St} {env : EV}
theorem Rep.setL (r : Rep K F Hb H σ env) (a : Step F.hid Hb H Hb1 H1) {v w : V} {s u : Sl} (h : RepSl K F.hid Hb1 H1 v s) (e : s.fz = s) (h2 : RepSl K F.hid Hb1 H1 w u) (f : FrSl H w u) {i j : Nat} (hij : i ≠ j) :
    Rep K F Hb1 H1 ((σ.set i (some v)).set j (some w)) ((env.set i (some s)).set j (some u)) := by
  rw [List.set_comm _ _ hij, List.set_comm (some s) (some u) hij]
  exact (r.set a h2 f j).set (Step.refl a.st) h (fr_of e) i
theorem Rep.setF (r : Rep K F Hb H σ env) (a : Step F.hid Hb H Hb1 H1) {v w : V} {s u : Sl} (h : RepSl K F.hid Hb1 H1 v s) (f : FrSl H v s) (h2 : RepSl K F.hid Hb1 H1 w u) (e : u.fz = u) (i j : Nat) :
    Rep K F Hb1 H1 ((σ.set i (some v)).set j (some w)) ((env.set i (some s)).set j (some u)) := (r.set a h f i).set (Step.refl a.st) h2 (fr_of e) j
theorem go_parL (ha : SdE K F ta fa) (hb : SdE K F tb fb) {Q : Sl → Sl → Prop} {k : List V → Hp → Prop} (r : Rep K F Hb H σ env) (q : fa env fun s => fb env fun u => Q s.fz u)
    (c : ∀ v w Hb' H' s u, Step F.hid Hb H Hb' H' → RepSl K F.hid Hb' H' v s → s.fz = s → RepSl K F.hid Hb' H' w u → FrSl H w u → Q s u → k [v, w] H') : tCons ta (tCons tb tNil) σ H k := by
  refine ha.go (Q := fun s => fb env fun u => Q s u) r q fun x Hb1 H1 s st1 rs1 e1 q1 => ?_
  refine hb Hb1 H1 σ env _ _ (r.on st1) q1 fun y Hb2 H2 u st2 rs2 f2 q2 => ?_
  exact c x y Hb2 H2 s u (st1.trans st2) (rs1.step st2) e1 rs2 (FrSl.back st1 f2) q2
theorem go_parF (ha : SdE K F ta fa) (hb : SdE K F tb fb) {Q : Sl → Sl → Prop} {k : List V → Hp → Prop} (r : Rep K F Hb H σ env) (q : fa env fun s => fb env fun u => Q s u.fz)
    (c : ∀ v w Hb' H' s u, Step F.hid Hb H Hb' H' → RepSl K F.hid Hb' H' v s → FrSl H v s → RepSl K F.hid Hb' H' w u → u.fz = u → Q s u → k [v, w] H') : tCons ta (tCons tb tNil) σ H k := by
  refine ha Hb H σ env _ _ r q fun x Hb1 H1 s st1 rs1 f1 q1 => ?_
  refine hb.go (Q := fun u => Q s u) (r.on st1) q1 fun y Hb2 H2 u st2 rs2 e2 q2 => ?_
  exact c x y Hb2 H2 s u (st1.trans st2) (rs1.step st2) f1 rs2 e2 q2
theorem sd_parL {i j : Nat} (hij : i ≠ j) (ha : SdE K F ta fa) (hb : SdE K F tb fb) : SdS K F (tPar i j (tCons ta (tCons tb tNil))) (dParL i j fa fb) := by
  intro Hb H σ env D E r q l
  refine go_parL ha hb (Q := fun s u => E.nx ((env.set i (some s)).set j (some u))) r q fun v w Hb' H' s u st rs e ru f q => ?_
  exact ⟨v, w, rfl, l.nx Hb' H' _ _ st.ex (r.setL st rs e ru f hij) q⟩
theorem sd_parF {i j : Nat} (ha : SdE K F ta fa) (hb : SdE K F tb fb) : SdS K F (tPar i j (tCons ta (tCons tb tNil))) (dParF i j fa fb) := by
  intro Hb H σ env D E r q l
  refine go_parF ha hb (Q := fun s u => E.nx ((env.set i (some s)).set j (some u))) r q fun v w Hb' H' s u st rs f ru e q => ?_
  exact ⟨v, w, rfl, l.nx Hb' H' _ _ st.ex (r.setF st rs f ru e i j) q⟩
theorem sd_parLC {i j : Nat} (hij : i ≠ j) (ha : SdE K F ta fa) (hb : SdE K F tb fb) : SdS K F (tAsg (tTup (tCons ta (tCons tb tNil))) (gTup K 2 (gCons (gName i) (gCons (gName j) gNil)))) (dParL i j fa fb) := by
  intro Hb H σ env D E r q l
  show tCons ta (tCons tb tNil) σ H (fun vs H1 => vs.length ≤ sizeLine ∧ ∀ p, H1 p = none → gTup K 2 (gCons (gName i) (gCons (gName j) gNil)) (.ref p) σ (upd H1 p (.tup vs)) D.nx)
  refine go_parL ha hb (Q := fun s u => E.nx ((env.set i (some s)).set j (some u))) r q fun v w Hb' H' s u st rs e ru f q => ?_
  refine ⟨by rw [sizeLine_eq]; show 2 ≤ 16777216; omega, fun p hp => ?_⟩
  have s0 := Step.raw (o := .tup [v, w]) st.st hp
  exact ⟨p, _, rfl, SqT.of upd_same, rfl, v, [w], rfl, w, [], rfl, rfl, l.nx Hb' _ _ _ st.ex (r.setL (st.trans s0) (rs.step s0) e (ru.step s0) f hij) q⟩
theorem sd_parFC {i j : Nat} (ha : SdE K F ta fa) (hb : SdE K F tb fb) : SdS K F (tAsg (tTup (tCons ta (tCons tb tNil))) (gTup K 2 (gCons (gName i) (gCons (gName j) gNil)))) (dParF i j fa fb) := by
  intro Hb H σ env D E r q l
  show tCons ta (tCons tb tNil) σ H (fun vs H1 => vs.length ≤ sizeLine ∧ ∀ p, H1 p = none → gTup K 2 (gCons (gName i) (gCons (gName j) gNil)) (.ref p) σ (upd H1 p (.tup vs)) D.nx)
  refine go_parF ha hb (Q := fun s u => E.nx ((env.set i (some s)).set j (some u))) r q fun v w Hb' H' s u st rs f ru e q => ?_
  refine ⟨by rw [sizeLine_eq]; show 2 ≤ 16777216; omega, fun p hp => ?_⟩
  have s0 := Step.raw (o := .tup [v, w]) st.st hp
  exact ⟨p, _, rfl, SqT.of upd_same, rfl, v, [w], rfl, w, [], rfl, rfl, l.nx Hb' _ _ _ st.ex (r.setF (st.trans s0) (rs.step s0) f (ru.step s0) e i j) q⟩
end
section
variable {X : Cx} {F : Fr} {a b : Expr} {ta tb : TE} {fa fb : DTE} {px py pt pt2 pos : Pos} {kt k2 : Nat}
theorem ds_parL (i j : Nat) {x y : Str} (hN : X.N.Nodup) (ha : DE X F a ta fa) (hb : DE X F b tb fb) (hp : PA X [a, b] (tCons ta (tCons tb tNil))) (hi : X.N[i]? = some x := by rfl) (hj : X.N[j]? = some y := by rfl) (hij : i ≠ j := by decide) (hx : X.env.scope.names.lookup x = some .local := by rfl) (hy : X.env.scope.names.lookup y = some .local := by rfl) (hc : X.calm = true := by rfl)
    (hw : swappedStores [.Tuple [.Name x px, .Name y py] kt pt] (.Tuple [a, b] k2 pt2) X.env = pure (some [x, y]) := by rfl) (hs : swapsWithSole [.Tuple [.Name x px, .Name y py] kt pt] (.Tuple [a, b] k2 pt2) pos.line X.env = pure false := by rfl) :
    DS X F (.Assign [.Tuple [.Name x px, .Name y py] kt pt] (.Tuple [a, b] k2 pt2) pos) (tPar i j (tCons ta (tCons tb tNil))) (dParL i j fa fb) := ⟨ps_par hc hN hi hj hij hx hy hp hw hs, sd_parL hij ha.sd hb.sd⟩
theorem ds_parF (i j : Nat) {x y : Str} (hN : X.N.Nodup) (ha : DE X F a ta fa) (hb : DE X F b tb fb) (hp : PA X [a, b] (tCons ta (tCons tb tNil))) (hi : X.N[i]? = some x := by rfl) (hj : X.N[j]? = some y := by rfl) (hij : i ≠ j := by decide) (hx : X.env.scope.names.lookup x = some .local := by rfl) (hy : X.env.scope.names.lookup y = some .local := by rfl) (hc : X.calm = true := by rfl)
    (hw : swappedStores [.Tuple [.Name x px, .Name y py] kt pt] (.Tuple [a, b] k2 pt2) X.env = pure (some [x, y]) := by rfl) (hs : swapsWithSole [.Tuple [.Name x px, .Name y py] kt pt] (.Tuple [a, b] k2 pt2) pos.line X.env = pure false := by rfl) :
    DS X F (.Assign [.Tuple [.Name x px, .Name y py] kt pt] (.Tuple [a, b] k2 pt2) pos) (tPar i j (tCons ta (tCons tb tNil))) (dParF i j fa fb) := ⟨ps_par hc hN hi hj hij hx hy hp hw hs, sd_parF ha.sd hb.sd⟩
theorem k_parLC {K : PySem.W.Frag} (ek : X.K = K) (i j : Nat) {x y : Str} (hN : X.N.Nodup) (ha : DE X F a ta fa) (hb : DE X F b tb fb) (hp : PA X [a, b] (tCons ta (tCons tb tNil))) (hg : PG X (.Tuple [.Name x px, .Name y py] kt pt) (gTup X.K 2 (gCons (gName i) (gCons (gName j) gNil)))) (hij : i ≠ j := by decide)
    (hs : swapsWithSole [.Tuple [.Name x px, .Name y py] kt pt] (.Tuple [a, b] k2 pt2) pos.line X.env = pure false := by rfl) (hw : swappedStores [.Tuple [.Name x px, .Name y py] kt pt] (.Tuple [a, b] k2 pt2) X.env = pure none := by rfl) (h1 : (assignEach [.Tuple [.Name x px, .Name y py] kt pt] X.env).map (·.2) = [assign (.Tuple [.Name x px, .Name y py] kt pt) X.env] := by rfl) :
    DS X F (.Assign [.Tuple [.Name x px, .Name y py] kt pt] (.Tuple [a, b] k2 pt2) pos) (tAsg (tTup (tCons ta (tCons tb tNil))) (gTup K 2 (gCons (gName i) (gCons (gName j) gNil)))) (dParL i j fa fb) := ek ▸ ⟨ps_asg (pe_tup hp) hg hs hw h1, sd_parLC hij ha.sd hb.sd⟩
theorem k_parFC {K : PySem.W.Frag} (ek : X.K = K) (i j : Nat) {x y : Str} (hN : X.N.Nodup) (ha : DE X F a ta fa) (hb : DE X F b tb fb) (hp : PA X [a, b] (tCons ta (tCons tb tNil))) (hg : PG X (.Tuple [.Name x px, .Name y py] kt pt) (gTup X.K 2 (gCons (gName i) (gCons (gName j) gNil))))
    (hs : swapsWithSole [.Tuple [.Name x px, .Name y py] kt pt] (.Tuple [a, b] k2 pt2) pos.line X.env = pure false := by rfl) (hw : swappedStores [.Tuple [.Name x px, .Name y py] kt pt] (.Tuple [a, b] k2 pt2) X.env = pure none := by rfl) (h1 : (assignEach [.Tuple [.Name x px, .Name y py] kt pt] X.env).map (·.2) = [assign (.Tuple [.Name x px, .Name y py] kt pt) X.env] := by rfl) :
    DS X F (.Assign [.Tuple [.Name x px, .Name y py] kt pt] (.Tuple [a, b] k2 pt2) pos) (tAsg (tTup (tCons ta (tCons tb tNil))) (gTup K 2 (gCons (gName i) (gCons (gName j) gNil)))) (dParF i j fa fb) := ek ▸ ⟨ps_asg (pe_tup hp) hg hs hw h1, sd_parFC ha.sd hb.sd⟩
end
end Pu

end

section
set_option maxHeartbeats 1000000
/-! PuL: an item of an own list set -/
namespace Pu
open PySem L2 PyProof.Rows
theorem DqAll.set {K : PySem.W.Frag} {H : Hp} : ∀ {ds : List PyData} {vs : List V} {d : PyData} {v : V} (j : Nat), DqAll K H vs ds → Dq K H v d → DqAll K H (vs.set j v) (ds.set j d)
  | [], [], _, _, _, h, _ => h
  | _ :: _, _ :: _, _, _, 0, .cons h1 h2, h => .cons h h2
  | _ :: _, _ :: _, _, _, j + 1, .cons h1 h2, h => .cons h1 (DqAll.set j h2 h)
/-- own[i] = e -/
def dPutL (i : Nat) (fi fe : DTE) : DTS := fun E env => fe env fun s => ∃ d, s.fz = .d d ∧ ∃ xs, env[i]? = some (some (.own xs)) ∧ fi env fun t => ∃ n j, t.fz = .d (.int n) ∧ ixN xs.length n = some j ∧ E.nx (env.set i (some (.own (xs.set j d))))
section
variable {K : PySem.W.Frag} {F : Fr}
theorem sd_putL (i : Nat) {te ti : TE} {fe fi : DTE} (he : SdE K F te fe) (hi : SdE K F ti fi) : SdS K F (tAsg te (gSub (tVar i) ti rSetL)) (dPutL i fi fe) := by
  intro Hb H σ env D E r q l
  refine he.go (Q := fun s => ∃ d, s = .d d ∧ ∃ xs, env[i]? = some (some (.own xs)) ∧ fi env fun t => ∃ n j, t.fz = .d (.int n) ∧ ixN xs.length n = some j ∧ E.nx (env.set i (some (.own (xs.set j d))))) r q fun y Hb1 H1 s st1 rs1 _ q1 => ?_
  obtain ⟨d, es, xs, e, q1⟩ := q1
  subst es
  have r1 := r.on st1
  obtain ⟨v, e1, rs, fr⟩ := r1.sl i _ e
  obtain ⟨p, vs, e2, e3, e4, e5, e6⟩ := rs
  subst e2
  refine ⟨_, e1, ?_⟩
  refine hi.go (Q := fun t => ∃ n j, t = .d (.int n) ∧ ixN xs.length n = some j ∧ E.nx (env.set i (some (.own (xs.set j d))))) r1 q1 fun w Hb2 H2 t st2 rs2 _ q2 => ?_
  obtain ⟨n, j, et, hj, q2⟩ := q2
  subst et
  have hp : H2 p = some (.lst vs) := st2.keep p _ e3 e6
  have hbp : Hb2 p = none := by
    cases z : Hb2 p with
    | none => rfl
    | some o =>
      have := st2.new p o z e5
      rw [e3] at this; cases this
  refine ⟨p, vs, n, j, rfl, int_of rs2, hp, by rw [DqAll.length e4]; exact hj, ?_⟩
  exact l.nx Hb2 _ σ _ (st1.ex.trans st2.ex) ((r1.on st2).put1 e trivial e1 hp hbp e6 (s' := .own (xs.set j d)) trivial ⟨p, vs.set j y, rfl, upd_same, DqAll.set j (DqAll.mono st2.ex e4) (Dq.mono st2.ex rs1), hbp, e6⟩) q2
end
theorem ds_putL {X : Cx} {F : Fr} (i : Nat) {x : Str} {e b : Expr} {te ti : TE} {fe fi : DTE} {px ppos pos : Pos} (he : DE X F e te fe) (hb : DE X F b ti fi) (hN : X.N[i]? = some x := by rfl) (hv : Vis X.env.scope x := by first | exact Or.inl rfl | exact Or.inr (Or.inl rfl) | exact Or.inr (Or.inr rfl)) (hd : (x == ("__debug__" : Str)) = false := by decide)
    (hcd : (x == ("__classdict__" : Str)) = false := by decide) (hs : swapsWithSole [.Subscript (.Name x px) b ppos] e pos.line X.env = pure false := by rfl) (hw : swappedStores [.Subscript (.Name x px) b ppos] e X.env = pure none := by rfl)
    (h1 : (assignEach [.Subscript (.Name x px) b ppos] X.env).map (·.2) = [assign (.Subscript (.Name x px) b ppos) X.env] := by rfl)
    (h2 : ∀ (v : Value), assign (Expr.Subscript (.Name x px) b ppos) X.env v = (do
        let ov ← holding [v] (eval (.Name x px) X.env)
        let iv ← holding [v, ov] (eval b X.env)
        standAt ppos
        holding [v, ov, iv] (setItem ov iv v)
        release [v, ov, iv] []) := by intro _; rfl) :
    DS X F (.Assign [.Subscript (.Name x px) b ppos] e pos) (tAsg te (gSub (tVar i) ti rSetL)) (dPutL i fi fe) :=
  ⟨ps_asg he.pe (pg_sub (pe_var hN hv hd hcd) hb.pe set_list h2) hs hw h1, sd_putL i he.sd hb.sd⟩
end Pu

end

section
set_option maxHeartbeats 1000000
/-! PuE: own dicts with keys that are whole numbers or texts: d[k] = v, d[k] -/
namespace Pu
open PySem L2 PyProof.Rows
def isKey : PyData → Key → Bool
  | .int i, .inl j => decide (i = j)
  | .str x, .inr y => decide (x = y)
  | _, _ => false
theorem isKey_keyD (q k : Key) : isKey (keyD q) k = decide (q = k) := by cases q <;> cases k <;> simp [isKey, keyD]
def putP (ds : List (PyData × PyData)) (k : Key) (d : PyData) : List (PyData × PyData) := if ds.any (fun p => isKey p.1 k) = true then ds.map (fun p => if isKey p.1 k = true then (p.1, d) else p) else ds ++ [(keyD k, d)]
def getP (ds : List (PyData × PyData)) (k : Key) : Option PyData := (ds.find? fun p => isKey p.1 k).map (·.2)
section
variable {K : PySem.W.Frag} {H : Hp}
theorem DRel.two {kv : Key × V} {kvs : List (Key × V)} {ds : List (PyData × PyData)} (h : DRel K H (kv :: kvs) ds) : ∃ d r, ds = (keyD kv.1, d) :: r ∧ Dq K H kv.2 d ∧ DRel K H kvs r := by
  obtain ⟨h1, h2⟩ := h
  match ds, h1, h2 with
  | (k, d) :: r, h1, .cons a b =>
    rw [List.map_cons, List.map_cons] at h1
    injection h1 with e1 e2
    have e1 : k = keyD kv.1 := e1
    subst e1
    exact ⟨d, r, rfl, a, e2, b⟩
theorem DRel.none {ds : List (PyData × PyData)} (h : DRel K H [] ds) : ds = [] := by
  have := h.1
  rw [List.map_nil] at this
  exact List.map_eq_nil_iff.mp this
theorem DRel.cons' {k : Key} {v : V} {d : PyData} {kvs : List (Key × V)} {ds : List (PyData × PyData)} (a : Dq K H v d) (h : DRel K H kvs ds) : DRel K H ((k, v) :: kvs) ((keyD k, d) :: ds) := ⟨by rw [List.map_cons, List.map_cons, h.1], .cons a h.2⟩
theorem DRel.any {k : Key} : ∀ {kvs : List (Key × V)} {ds : List (PyData × PyData)}, DRel K H kvs ds → ds.any (fun p => isKey p.1 k) = kvs.any fun kv => decide (kv.1 = k)
  | [], ds, h => by rw [h.none]; rfl
  | kv :: kvs, ds, h => by
    obtain ⟨d, r, rfl, _, t⟩ := h.two
    rw [List.any_cons, List.any_cons, isKey_keyD, DRel.any t]
theorem DRel.map_ {k : Key} {v : V} {d : PyData} (a : Dq K H v d) : ∀ {kvs : List (Key × V)} {ds : List (PyData × PyData)}, DRel K H kvs ds → DRel K H (kvs.map fun kv => if kv.1 = k then (kv.1, v) else kv) (ds.map fun p => if isKey p.1 k = true then (p.1, d) else p)
  | [], ds, h => by rw [h.none]; exact ⟨rfl, .nil⟩
  | kv :: kvs, ds, h => by
    obtain ⟨z, r, rfl, b, t⟩ := h.two
    rw [List.map_cons, List.map_cons, isKey_keyD]
    by_cases c : kv.1 = k
    · rw [if_pos c, if_pos (decide_eq_true c)]
      exact DRel.cons' a (DRel.map_ a t)
    · rw [if_neg c, if_neg (by rw [decide_eq_false c]; exact Bool.false_ne_true)]
      exact DRel.cons' (k := kv.1) (v := kv.2) b (DRel.map_ a t)
theorem DRel.snoc {k : Key} {v : V} {d : PyData} (a : Dq K H v d) : ∀ {kvs : List (Key × V)} {ds : List (PyData × PyData)}, DRel K H kvs ds → DRel K H (kvs ++ [(k, v)]) (ds ++ [(keyD k, d)])
  | [], ds, h => by rw [h.none]; exact DRel.cons' a ⟨rfl, .nil⟩
  | kv :: kvs, ds, h => by
    obtain ⟨z, r, rfl, b, t⟩ := h.two
    exact DRel.cons' (k := kv.1) (v := kv.2) b (DRel.snoc a t)
theorem DRel.put {k : Key} {v : V} {d : PyData} (a : Dq K H v d) {kvs : List (Key × V)} {ds : List (PyData × PyData)} (h : DRel K H kvs ds) : DRel K H (putK kvs k v) (putP ds k d) := by
  unfold putK putP
  rw [h.any]
  split
  · exact h.map_ a
  · exact h.snoc a
theorem DRel.get {k : Key} {d : PyData} : ∀ {kvs : List (Key × V)} {ds : List (PyData × PyData)}, DRel K H kvs ds → getP ds k = some d → ∃ v, valV kvs k = some v ∧ Dq K H v d
  | [], ds, h, e => by rw [h.none] at e; cases e
  | kv :: kvs, ds, h, e => by
    obtain ⟨z, r, rfl, b, t⟩ := h.two
    unfold getP at e
    unfold valV
    rw [List.find?_cons, isKey_keyD] at e
    rw [List.find?_cons]
    by_cases c : kv.1 = k
    · rw [decide_eq_true c] at e ⊢
      cases e
      exact ⟨kv.2, rfl, b⟩
    · rw [decide_eq_false c] at e ⊢
      exact DRel.get t e
theorem DRel.length {kvs : List (Key × V)} {ds : List (PyData × PyData)} (h : DRel K H kvs ds) : kvs.length = ds.length := by
  have := congrArg List.length h.1
  rw [List.length_map, List.length_map] at this
  exact this.symm
theorem DRel.mono {H' : Hp} (e : Same H H') {kvs : List (Key × V)} {ds : List (PyData × PyData)} (h : DRel K H kvs ds) : DRel K H' kvs ds := ⟨h.1, DqAll.mono e h.2⟩
end
theorem key_of {K : PySem.W.Frag} {hid : Hid} {Hb H : Hp} {x : V} {k : Key} (h : RepSl K hid Hb H x (.d (keyD k))) : x = kV k := by
  cases k with
  | inl i => exact int_of h
  | inr z => exact str_of h
/-- own[k] = e -/
def dPutD (i : Nat) (fi fe : DTE) : DTS := fun E env => fe env fun s => ∃ d, s.fz = .d d ∧ ∃ ds, env[i]? = some (some (.ownD ds)) ∧ fi env fun t => ∃ k, t.fz = .d (keyD k) ∧ ds.length < sizeLine ∧ E.nx (env.set i (some (.ownD (putP ds k d))))
section
variable {K : PySem.W.Frag} {F : Fr}
theorem sd_putD (i : Nat) {te ti : TE} {fe fi : DTE} (he : SdE K F te fe) (hi : SdE K F ti fi) : SdS K F (sDPut (tVar i) ti te) (dPutD i fi fe) := by
  intro Hb H σ env D E r q l
  refine he.go (Q := fun s => ∃ d, s = .d d ∧ ∃ ds, env[i]? = some (some (.ownD ds)) ∧ fi env fun t => ∃ k, t.fz = .d (keyD k) ∧ ds.length < sizeLine ∧ E.nx (env.set i (some (.ownD (putP ds k d))))) r q fun y Hb1 H1 s st1 rs1 _ q1 => ?_
  obtain ⟨d, es, ds, e, q1⟩ := q1
  subst es
  have r1 := r.on st1
  obtain ⟨v, e1, rs, fr⟩ := r1.sl i _ e
  obtain ⟨p, vs, e2, e3, e4, e5, e6⟩ := rs
  subst e2
  refine ⟨_, e1, ?_⟩
  refine hi.go (Q := fun t => ∃ k, t = .d (keyD k) ∧ ds.length < sizeLine ∧ E.nx (env.set i (some (.ownD (putP ds k d))))) r1 q1 fun w Hb2 H2 t st2 rs2 _ q2 => ?_
  obtain ⟨k, et, hl, q2⟩ := q2
  subst et
  have hp : H2 p = some (.dK vs) := st2.keep p _ e3 e6
  have hbp : Hb2 p = none := by
    cases z : Hb2 p with
    | none => rfl
    | some o =>
      have := st2.new p o z e5
      rw [e3] at this; cases this
  have e4 := DRel.mono st2.ex e4
  refine ⟨p, _, rfl, .inl ⟨vs, k, hp, key_of rs2, by rw [e4.length]; exact hl, rfl⟩, ?_⟩
  exact l.nx Hb2 _ σ _ (st1.ex.trans st2.ex) ((r1.on st2).put1 e trivial e1 hp hbp e6 (s' := .ownD (putP ds k d)) trivial ⟨p, putK vs k y, rfl, upd_same, e4.put (Dq.mono st2.ex rs1), hbp, e6⟩) q2
end
/-- own[k] -/
def dDixOwn (i : Nat) (f : DTE) : DTE := fun env Q => ∃ ds, env[i]? = some (some (.ownD ds)) ∧ f env fun s => ∃ k d, s.fz = .d (keyD k) ∧ getP ds k = some d ∧ Q (.d d)
section
variable {K : PySem.W.Frag} {F : Fr}
theorem sd_dixOwn {i : Nat} {tk : TE} {fk : DTE} (h : SdE K F tk fk) : SdE K F (tDGet (tVar i) tk) (dDixOwn i fk) := by
  intro Hb H σ env Q k r q c
  obtain ⟨xs, e, q⟩ := q
  obtain ⟨v, e1, rs, fr⟩ := r.sl i _ e
  obtain ⟨p, vs, e2, e3, e4, e5, e6⟩ := rs
  subst e2
  refine ⟨_, e1, ?_⟩
  refine h.go (Q := fun s => ∃ k d, s = .d (keyD k) ∧ getP xs k = some d ∧ Q (.d d)) r q fun y Hb1 H1 s st1 rs1 _ q1 => ?_
  obtain ⟨n, d, es, ed, q1⟩ := q1
  subst es
  obtain ⟨u, h3, h4⟩ := DRel.get (DRel.mono st1.ex e4) ed
  exact ⟨p, u, rfl, .inl ⟨vs, n, .inl (st1.keep p _ e3 e6), key_of rs1, h3.symm⟩, c u Hb1 H1 (.d d) st1 h4 trivial q1⟩
end
section
variable {X : Cx} {F : Fr} {e b : Expr} {te ti : TE} {fe fi : DTE} {x : Str} {px ppos pos : Pos}
theorem ds_putD (hu : X.A.units + 64 < cLine) (i : Nat) (he : DE X F e te fe) (hb : DE X F b ti fi) (hN : X.N[i]? = some x := by rfl) (hv : Vis X.env.scope x := by first | exact Or.inl rfl | exact Or.inr (Or.inl rfl) | exact Or.inr (Or.inr rfl)) (hd : (x == ("__debug__" : Str)) = false := by decide)
    (hcd : (x == ("__classdict__" : Str)) = false := by decide) (hs : swapsWith e (some (Expr.Subscript (.Name x px) b ppos)) pos.line X.env = pure false := by rfl) :
    DS X F (.Assign [.Subscript (.Name x px) b ppos] e pos) (sDPut (tVar i) ti te) (dPutD i fi fe) :=
  ⟨ps_dput (Nat.lt_of_le_of_lt (Nat.add_le_add_left (by decide) _) hu) (pe_var hN hv hd hcd) hb.pe he.pe hs, sd_putD i he.sd hb.sd⟩
theorem de_dixOwn (hu : X.A.units + 64 < cLine) (i : Nat) (hb : DE X F b ti fi) (hN : X.N[i]? = some x := by rfl) (hv : Vis X.env.scope x := by first | exact Or.inl rfl | exact Or.inr (Or.inl rfl) | exact Or.inr (Or.inr rfl)) (hd : (x == ("__debug__" : Str)) = false := by decide)
    (hcd : (x == ("__classdict__" : Str)) = false := by decide) (hs : NoSl b := by exact fun _ _ => rfl) : DE X F (.Subscript (.Name x px) b pos) (tDGet (tVar i) ti) (dDixOwn i fi) :=
  ⟨pe_dget (Nat.lt_of_le_of_lt (Nat.add_le_add_left (by decide) _) hu) (pe_var hN hv hd hcd) hb.pe hs, sd_dixOwn hb.sd⟩
end
end Pu

end

section
set_option maxHeartbeats 1000000
/-! PuE2: {} of one's own; d[k] of data, k in d, by keys that are whole numbers or texts -/
namespace Pu
open PySem L2 PyProof.Rows
/-- {} -/
def dNewD : DTE := fun _ Q => Q (.ownD [])
section
variable {K : PySem.W.Frag} {F : Fr}
theorem sd_newD : SdE K F tDNewK dNewD := by
  intro Hb H σ env Q k r q c p hp
  have bp : Hb p = none := none_back (fun o e => r.st.ex p o e) hp
  have np : ¬ F.hid.has p := fun z => by obtain ⟨o, e⟩ := r.st.ok.there z; rw [e] at hp; cases hp
  exact c (.ref p) Hb _ (.ownD []) (Step.raw (o := .dK []) r.st hp) ⟨p, [], rfl, upd_same, ⟨rfl, .nil⟩, bp, np⟩ (fun q e => by cases e; exact hp) q
theorem DRel.miss {H : Hp} {k : Key} : ∀ {kvs : List (Key × V)} {ds : List (PyData × PyData)}, DRel K H kvs ds → (valV kvs k).isSome = (getP ds k).isSome
  | [], ds, h => by rw [h.none]; rfl
  | kv :: kvs, ds, h => by
    obtain ⟨z, r, rfl, b, t⟩ := h.two
    unfold getP valV
    rw [List.find?_cons, List.find?_cons, isKey_keyD]
    by_cases c : kv.1 = k
    · rw [decide_eq_true c]; rfl
    · rw [decide_eq_false c]
      exact DRel.miss t
/-- k in own, k not in own -/
def dInOwn (neg : Bool) (i : Nat) (f : DTE) : DTT := fun env Q => f env fun s => ∃ k, s.fz = .d (keyD k) ∧ ∃ ds, env[i]? = some (some (.ownD ds)) ∧ Q (neg != (getP ds k).isSome)
theorem in_own {i : Nat} {tk : TE} {fk : DTE} (h : SdE K F tk fk) {neg : Bool} {Hb H : Hp} {σ : L2.St} {env : EV} {Q : Bool → Prop} {k : V → Hp → Prop} (r : Rep K F Hb H σ env) (q : dInOwn neg i fk env Q)
    (c : ∀ (y : V) (a : Addr) (o : Option V) (Hb' H' : Hp), Step F.hid Hb H Hb' H' → σ[i]? = some (some (.ref a)) → DGet H' a y o → Q (neg != o.isSome) → k y H') : tk σ H k := by
  refine h.go (Q := fun s => ∃ k, s = .d (keyD k) ∧ ∃ ds, env[i]? = some (some (.ownD ds)) ∧ Q (neg != (getP ds k).isSome)) r q fun y Hb1 H1 s st1 rs1 _ q1 => ?_
  obtain ⟨n, es, ds, e, q1⟩ := q1
  subst es
  obtain ⟨v, e1, rs, fr⟩ := (r.on st1).sl i _ e
  obtain ⟨p, vs, e2, e3, e4, e5, e6⟩ := rs
  subst e2
  exact c y p (valV vs n) Hb1 H1 st1 e1 (.inl ⟨vs, n, .inl e3, key_of rs1, rfl⟩) (by rw [e4.miss]; exact q1)
theorem sd_inOwn {i : Nat} {tk : TE} {fk : DTE} (h : SdE K F tk fk) : SdT K F (tB (tDIn tk (tVar i))) (dInOwn false i fk) := by
  intro Hb H σ env Q k r q c
  refine in_own h r q fun y a o Hb1 H1 st1 e1 g q1 => ⟨_, e1, a, o, rfl, g, _, rfl, c _ Hb1 H1 st1 ?_⟩
  rwa [Bool.false_bne] at q1
theorem sd_notInOwn {i : Nat} {tk : TE} {fk : DTE} (h : SdE K F tk fk) : SdT K F (tB (tDNotIn tk (tVar i))) (dInOwn true i fk) := by
  intro Hb H σ env Q k r q c
  refine in_own h r q fun y a o Hb1 H1 st1 e1 g q1 => ⟨_, e1, a, o, rfl, g, _, rfl, c _ Hb1 H1 st1 ?_⟩
  rwa [Bool.true_bne] at q1
/-- d[k] of data -/
def dDGetK (fa fb : DTE) : DTE := fun env Q => fa env fun s => ∃ ds, s.fz = .d (.dict ds) ∧ fb env fun t => ∃ k d, t.fz = .d (keyD k) ∧ getP ds k = some d ∧ Q (.d d)
theorem sd_dgetK {ta tb : TE} {fa fb : DTE} (ha : SdE K F ta fa) (hb : SdE K F tb fb) : SdE K F (tDGet ta tb) (dDGetK fa fb) := by
  intro Hb H σ env Q k r q c
  refine ha.go (Q := fun s => ∃ ds, s = .d (.dict ds) ∧ fb env fun t => ∃ k d, t.fz = .d (keyD k) ∧ getP ds k = some d ∧ Q (.d d)) r q fun x Hb1 H1 s st1 rs1 _ q1 => ?_
  obtain ⟨ds, es, q1⟩ := q1
  subst es
  refine hb.go (Q := fun t => ∃ k d, t = .d (keyD k) ∧ getP ds k = some d ∧ Q (.d d)) (r.on st1) q1 fun y Hb2 H2 t st2 rs2 _ q2 => ?_
  obtain ⟨n, d, et, ed, q2⟩ := q2
  subst et
  have rs1 : Dq K Hb1 x (.dict ds) := rs1
  cases rs1 with
  | dic h1 h2 h3 =>
    obtain ⟨u, g1, g2⟩ := DRel.get (DRel.mono st2.ex (⟨h2, h3⟩ : DRel K Hb1 _ ds)) ed
    exact ⟨_, u, rfl, .inl ⟨_, n, .inl (st2.st.ex _ _ (st2.ex _ _ h1)), key_of rs2, g1.symm⟩, c u Hb2 H2 (.d d) (st1.trans st2) g2 trivial q2⟩
end
section
variable {X : Cx} {F : Fr} {a b : Expr} {ta ti : TE} {fa fi : DTE} {x : Str} {px ppos pos : Pos}
theorem de_newD : DE X F (.Dict [] [] pos) tDNewK dNewD := ⟨pe_dnewK, sd_newD⟩
theorem de_dgetK (hu : X.A.units + 64 < cLine) (ha : DE X F a ta fa) (hb : DE X F b ti fi) (hs : NoSl b := by exact fun _ _ => rfl) : DE X F (.Subscript a b pos) (tDGet ta ti) (dDGetK fa fi) :=
  ⟨pe_dget (Nat.lt_of_le_of_lt (Nat.add_le_add_left (by decide) _) hu) ha.pe hb.pe hs, sd_dgetK ha.sd hb.sd⟩
theorem dt_inOwn (hu : X.A.units + 64 < cLine) (i : Nat) (hb : DE X F b ti fi) (hN : X.N[i]? = some x := by rfl) (hv : Vis X.env.scope x := by first | exact Or.inl rfl | exact Or.inr (Or.inl rfl) | exact Or.inr (Or.inr rfl)) (hd : (x == ("__debug__" : Str)) = false := by decide)
    (hcd : (x == ("__classdict__" : Str)) = false := by decide) (hm : behindInMarks .In (.Name x px) = false := by rfl) : DT X F (.Compare b [.In] [.Name x px] pos) (tB (tDIn ti (tVar i))) (dInOwn false i fi) :=
  ⟨pt_cmp (pc_din (Nat.lt_of_le_of_lt (Nat.add_le_add_left (by decide) _) hu) hb.pe (pe_var hN hv hd hcd)) hm, sd_inOwn hb.sd⟩
theorem dt_notInOwn (hu : X.A.units + 64 < cLine) (i : Nat) (hb : DE X F b ti fi) (hN : X.N[i]? = some x := by rfl) (hv : Vis X.env.scope x := by first | exact Or.inl rfl | exact Or.inr (Or.inl rfl) | exact Or.inr (Or.inr rfl)) (hd : (x == ("__debug__" : Str)) = false := by decide)
    (hcd : (x == ("__classdict__" : Str)) = false := by decide) (hm : behindInMarks .NotIn (.Name x px) = false := by rfl) : DT X F (.Compare b [.NotIn] [.Name x px] pos) (tB (tDNotIn ti (tVar i))) (dInOwn true i fi) :=
  ⟨pt_cmp (pc_dnotin (Nat.lt_of_le_of_lt (Nat.add_le_add_left (by decide) _) hu) hb.pe (pe_var hN hv hd hcd)) hm, sd_notInOwn hb.sd⟩
end
end Pu

end

section
set_option maxHeartbeats 1000000
/-! PuWh: while; the last item taken from an own list -/
namespace Pu
open PySem L2 PyProof.Rows
/-- so many turns at most -/
def dWhileN (c : DTT) (body : DTS) (E : DEnds) : Nat → EV → Prop
  | 0, _ => False
  | m + 1, env => c env fun b => if b = true then body { nx := dWhileN c body E m, ct := dWhileN c body E m, bk := E.nx, rt := E.rt } env else E.nx env
def dWhile (c : DTT) (body : DTS) : DTS := fun E env => ∃ m, dWhileN c body E m env
/-- own.pop(), to a target -/
def dPopG (i : Nat) (g : DTG) : DTS := fun E env => ∃ xs d, env[i]? = some (some (.own xs)) ∧ xs[xs.length - 1]? = some d ∧ g (.d d) (env.set i (some (.own xs.dropLast))) E.nx
section
variable {K : PySem.W.Frag} {F : Fr} {js : List Nat}
theorem sd_while {tc : TT} {tb : TS} {fc : DTT} {fb : DTS} (hc : SdT K F tc fc) (hb : SdS K F tb fb) : SdS K F (tWhile tc tb) (dWhile fc fb) := by
  intro Hb H σ env D E r q l
  obtain ⟨m, q⟩ := q
  refine ⟨fun m σ' H' => ∃ Hb' env', Same Hb Hb' ∧ Rep K F Hb' H' σ' env' ∧ dWhileN fc fb E m env', ⟨m, Hb, env, Same.refl _, r, q⟩, ?_⟩
  rintro m σ' H' ⟨Hb', env', s, r', q'⟩
  cases m with
  | zero => exact q'.elim
  | succ m =>
    refine hc Hb' H' σ' env' _ _ r' q' fun b Hb2 H2 st2 q2 => ?_
    cases b with
    | true =>
      rw [if_pos rfl] at q2 ⊢
      have ex2 : Same Hb Hb2 := s.trans st2.ex
      exact ⟨fun σ'' H'' => ∃ Hb' env', Same Hb Hb' ∧ Rep K F Hb' H'' σ'' env' ∧ dWhileN fc fb E m env', fun σ'' H'' h => ⟨m, Nat.lt_succ_self m, h⟩,
        hb Hb2 H2 σ' env' _ _ (r'.on st2) q2 ⟨fun Hb4 H4 σ4 env4 s4 r4 q4 => ⟨Hb4, env4, ex2.trans s4, r4, q4⟩, fun Hb4 H4 σ4 env4 s4 r4 q4 => l.nx Hb4 H4 σ4 env4 (ex2.trans s4) r4 q4, fun Hb4 H4 σ4 env4 s4 r4 q4 => ⟨Hb4, env4, ex2.trans s4, r4, q4⟩, fun v Hb4 H4 s' s4 => l.rt v Hb4 H4 s' (ex2.trans s4)⟩⟩
    | false =>
      rw [if_neg Bool.false_ne_true] at q2 ⊢
      exact l.nx Hb2 H2 σ' env' (s.trans st2.ex) (r'.on st2) q2
theorem sd_popG (i : Nat) {g : TG} {fg : DTG} (hg : SdG K F js g fg) : SdS K F (tAsg (tBM0 K "list" rPop (tVar i)) g) (dPopG i fg) := by
  intro Hb H σ env D E r q l
  obtain ⟨xs, d, e, ed, q⟩ := q
  obtain ⟨v, e1, rs, fr⟩ := r.sl i _ e
  obtain ⟨p, vs, e2, e3, e4, e5, e6⟩ := rs
  subst e2
  obtain ⟨y, hy, dy⟩ := DqAll.get' e4 ed
  have hl := DqAll.length e4
  refine ⟨_, e1, .inl ⟨rfl, _, SqL.of e3⟩, p, vs, y, rfl, rfl, e3, by rw [hl]; exact hy, ?_⟩
  have r1 := r.put1 e trivial e1 e3 e5 e6 (s' := .own xs.dropLast) trivial ⟨p, vs.dropLast, rfl, upd_same, by rw [List.dropLast_eq_take, List.dropLast_eq_take, hl]; exact DqAll.take _ e4, e5, e6⟩
  exact hg Hb _ σ _ y (.d d) _ _ r1 dy rfl q fun σ' env' _ r' q' => l.nx Hb _ σ' env' (Same.refl _) r' q'
end
section
variable {X : Cx} {F : Fr} {js : List Nat} {c tg : Expr} {body : List Stmt} {tc : TT} {tb : TS} {fc : DTT} {fb : DTS} {g : TG} {fg : DTG} {x : Str} {px apos cpos pos : Pos}
theorem ds_while (hc : DT X F c tc fc) (hb : DSs X F body tb fb) (hp : PassesOwn (model X.prog X.w) X.A X.env X.xe := by exact PassesOwn.never) : DS X F (.While c body [] pos) (tWhile tc tb) (dWhile fc fb) := ⟨ps_while hp hc.pe hb.pe, sd_while hc.sd hb.sd⟩
theorem ds_popG (i : Nat) (hg : DG X F js tg g fg) (h : PE X (.Call (.Attribute (.Name x px) "pop" apos) [] [] cpos) (tBM0 X.K "list" rPop (tVar i)))
    (hs : swapsWithSole [tg] (.Call (.Attribute (.Name x px) "pop" apos) [] [] cpos) pos.line X.env = pure false := by rfl) (hw : swappedStores [tg] (.Call (.Attribute (.Name x px) "pop" apos) [] [] cpos) X.env = pure none := by rfl) (h1 : (assignEach [tg] X.env).map (·.2) = [assign tg X.env] := by rfl) :
    DS X F (.Assign [tg] (.Call (.Attribute (.Name x px) "pop" apos) [] [] cpos) pos) (tAsg (tBM0 X.K "list" rPop (tVar i)) g) (dPopG i fg) := ⟨ps_asg h hg.pe hs hw h1, sd_popG i hg.sd⟩
theorem pe_popL (i : Nat) {x : Str} {px apos cpos : Pos} (hN : X.N[i]? = some x := by rfl) (hv : Vis X.env.scope x := by first | exact Or.inl rfl | exact Or.inr (Or.inl rfl) | exact Or.inr (Or.inr rfl)) (hd : (x == ("__debug__" : Str)) = false := by decide)
    (hcd : (x == ("__classdict__" : Str)) = false := by decide) (ha : attributeBase (.Name x px) "pop" X.env (eval (.Name x px) X.env) = eval (.Name x px) X.env := by rfl) (hl : (apos.endLine == cpos.line) = true := by rfl) :
    PE X (.Call (.Attribute (.Name x px) "pop" apos) [] [] cpos) (tBM0 X.K "list" rPop (tVar i)) := pe_bm0 PySem.F.plainAttrs_list PySem.F.slot_list_pop PySem.F.type_list_pop mt_pop (pe_var hN hv hd hcd) ha hl
end
end Pu

end

section
set_option maxHeartbeats 1000000
/-! PuS: sorted({e for x in a if ..}) of texts -/
namespace Pu
open PySem L2 PySem.Spec PyProof.Rows

section
variable {prog : Program} {w : World} {A : Around} {R : Result → Shared → Prop} {s : Shared} {elt t0 i0 : Expr} {f0 : List Expr} {scope : Scope} {pos : Pos} {it acc : Value} {env : Env}
/-- the written comprehension -/
abbrev sc1 (elt t0 i0 : Expr) (f0 : List Expr) (scope : Scope) (pos : Pos) : Expr := .SetComp elt [⟨t0, i0, f0, 0⟩] scope pos
theorem turnS_1c (elt t0 i0 : Expr) (f0 : List Expr) (scope : Scope) (pos : Pos) (it acc : Value) (env : Env) : compTurn (sc1 elt t0 i0 f0 scope pos) 0 it acc env = (do
      standAt i0.pos
      match ← pyNext it with
      | none => pure (.done .next)
      | some v =>
        letOwnedTupleGo t0 it v; assign t0 env v
        let mut ok := true
        for c in f0 do
          if ok then ok ← isTrue c env (eval c env)
        if ok then
          (do let v ← eval elt env; standAt elt.pos; let _ ← call (.builtin "set.add") [acc, v])
        again (.compLoop (sc1 elt t0 i0 f0 scope pos) 0 it acc env)) := by rfl
theorem loopS_1c (I : Nat → Shared → Prop)
    (turn : ∀ n s, I n s → wpAny (model prog w) A (pyNext it) (fun r s₁ => match r with
      | none => R (.ok .next) s₁
      | some v => wpAny (model prog w) A (letOwnedTupleGo t0 it v) (fun _ s₂ => wpAny (model prog w) A (assign t0 env v) (fun _ s₃ => wpAny (model prog w) A (tests f0 env) (fun ok s₄ =>
            if ok = true then wpAny (model prog w) A (eval elt env) (fun x s₅ => wpAny (model prog w) A (call (.builtin "set.add") [acc, x]) (fun _ s₆ => ∃ m, m < n ∧ I m s₆) (nb prog w A env R) s₅) (nb prog w A env R) s₄
            else ∃ m, m < n ∧ I m s₄) (nb prog w A env R) s₃) (nb prog w A env R) s₂) (nb prog w A env R) s₁) (nb prog w A env R) s) (n : Nat) (h : I n s) :
    codeAny (model prog w) A (.compLoop (sc1 elt t0 i0 f0 scope pos) 0 it acc env) R s := by
  refine codeAny_loop rfl I (fun n s hI => ?_) n h
  show wpAny _ A ((compTurn (sc1 elt t0 i0 f0 scope pos) 0 it acc env).onRaise (fun x => do noteFrame x env; theTreesLotGoes x)) _ _ s
  refine wpAny_noted ?_
  rw [turnS_1c]
  refine wpAny_bind (wpAny_standAt (wpAny_bind (wpAny_mono (turn n s hI) (fun r s₁ h₁ => ?_) fun _ _ z => z)))
  match r, h₁ with
  | none, h₁ => exact wpAny_pure h₁
  | some v, h₁ =>
    refine wpAny_bind (wpAny_mono h₁ (fun _ s₂ h₂ => ?_) fun _ _ z => z)
    refine wpAny_bind (wpAny_mono h₂ (fun _ s₃ h₃ => wpAny_bind (wpAny_mono h₃ (fun ok s₄ h₄ => ?_) fun _ _ z => z)) fun _ _ z => z)
    match ok, h₄ with
    | false, h₄ => exact wpAny_pure ⟨rfl, h₄⟩
    | true, h₄ => exact wpAny_bind (wpAny_bind (wpAny_mono h₄ (fun x s₅ h₅ => wpAny_bind (wpAny_standAt (wpAny_bind (wpAny_mono h₅ (fun _ s₆ h₆ => wpAny_pure (wpAny_pure ⟨rfl, h₆⟩)) fun _ _ z => z)))) fun _ _ z => z))
end
section
variable {X : Cx}
def tSs1 (P : Program) (w : World) (wi : TI) (g : TG) (tt : TT) (te : TE) (vs : List Nat) : TE := fun σ H Q => wi σ H fun J H1 => ∀ D, H1 D = none → ∃ W : Nat → Nat → Hp → Prop, (∃ m, W 0 m (upd H1 D (SSo P w D (fun _ => false) 0))) ∧ ∀ i m H, W i m H →
  (J.stop i H ∧ Q (.ref D) H) ∨ (J.go i H ∧ ∃ Nx : Hp → Prop, (∀ H', Nx H' → ∃ m', m' < m ∧ W (i + 1) m' H') ∧ ∀ x H', J.yld i H x H' → g x (wipe σ vs) H' fun σ2 H2 => wipe σ2 vs = wipe σ vs ∧ tt σ2 H2 fun b H3 =>
    if b = true then te σ2 H3 fun y H7 => ∃ (z : Str) (S : Str → Bool) (n : Nat), y = .str z ∧ H7 D = some (SSo P w D S n) ∧ n + 1 < scanBound ∧ Nx (upd H7 D (SSo P w D (fun j => S j || decide (j = z)) (if S z = true then n else n + 1))) else Nx H3)
variable {elt tg iter : Expr} {f0 : List Expr} {scope : Scope} {own : List (Str × Nat)} {pos : Pos} {wi : TI} {g : TG} {tt : TT} {te : TE}
theorem pe_ss1 (hc : X.calm = true) (hN : X.N.Nodup) (hi : PI X tg iter wi) (ok : BlkOk X.N X.env.scope scope own)
    (hg : ∀ (s : Shared) (H : Hp) (C : Addr) (cl : List (Str × Addr)) (fp : List Addr), PG (X.blk s H scope (compEnvC scope cl C X.env) fp) tg g) (ht : ∀ (s : Shared) (H : Hp) (C : Addr) (cl : List (Str × Addr)) (fp : List Addr), PTs (X.blk s H scope (compEnvC scope cl C X.env) fp) f0 tt)
    (he : ∀ (s : Shared) (H : Hp) (C : Addr) (cl : List (Str × Addr)) (fp : List Addr), PE (X.blk s H scope (compEnvC scope cl C X.env) fp) elt te)
    (hs : ∀ x, foldedSetIterable iter X.env x = pure x := by intro _; rfl) :
    PE X (sc1 elt tg iter f0 scope pos) (tSs1 X.prog X.w wi g tt te (own.map (·.2))) := by
  refine ⟨fun pins s σ H Q I h => ?_⟩
  rw [PpSet.eval_SetComp]
  have cells : ∀ y ∈ scope.names, y.2 = .free → ∃ c, X.env.cells.lookup y.1 = some c := fun y hy e => (ok.free y hy e).elim (fun k => I.ok.has _ (.inl k)) fun k => I.ok.has _ (.inr k)
  refine wpAny_comprehension_free (use := none) rfl hs (closure_ok cells) ok.kind (fun y hy e => by rw [ok.uniq y hy, e]) (thn (hi.run pins s σ H _ I h) fun xv s1 hx => thn hx fun iv s2 h2 => ?_)
  obtain ⟨it, fp, tn, J, H2, e, I2, T, st2, ff2, q⟩ := h2
  subst e
  refine PpSet.newSet_ok (newEnv_comp ?_)
  generalize hD : s2.heap.objs.size = D
  obtain ⟨W, ⟨m0, w0⟩, turn⟩ := q D (I2.hok.fresh (Nat.le_of_eq hD))
  generalize hs3 : ({ s2 with heap := hot0 X.w s2.heap } : Shared) = s3
  generalize hH3 : upd H2 D (SSo X.prog X.w D (fun _ => false) 0) = H3 at w0
  have I3 : Inv X pins σ H3 s3 := by
    rw [← hs3, ← hH3]
    refine I2.laid (t' := s2.toks) (fun b o e => Heap.get?_push_of_some _ e) (Nat.le_of_eq hD) (sso_new (sg_fresh ?_))
    rw [← hD]
    exact Heap.get?_push_size _ rfl
  have heap3 : s3.heap = hot0 X.w s2.heap := by rw [← hs3]
  have ff3 : ∀ b ∈ fp, FpOk X pins H3 b ∧ b < s3.heap.objs.size := fun b hb => by
    obtain ⟨o, e, _⟩ := T.obj _ _ st2 b hb
    have lt := Heap.lt_size e
    refine ⟨⟨?_, (ff2 b hb).2⟩, by rw [heap3, Heap.size_push]; exact Nat.lt_succ_of_lt lt⟩
    rw [← hH3, upd_ne (by rw [← hD]; exact Nat.ne_of_lt lt)]
    exact (ff2 b hb).1
  have st3 : tn 0 s3.heap := T.keep _ _ _ st2 fun b _ o e => by rw [heap3]; exact Heap.get?_push_of_some _ e
  have I4 := block_start I3 ok hN ff3
  generalize hcl : cellsFrom (s3.heap.objs.size + 1) scope.names (cloFrom X.env.cells scope.names []) = cl at I4
  have p1 := hg s3 H3 s3.heap.objs.size cl fp
  have p2 := ht s3 H3 s3.heap.objs.size cl fp
  have p3 := he s3 H3 s3.heap.objs.size cl fp
  show codeAny _ _ (.compStart (sc1 elt tg iter f0 scope pos) 0 (.ref it) (.ref D) (compEnvC scope cl s3.heap.objs.size X.env)) (compPost (model X.prog X.w) X.A X.xe none (EP X pins σ Q) (.ref D) s3.heap.objs.size) { s3 with heap := pushCells (s3.heap.push { cls := .type "dict", data := .dict #[] }) scope.names }
  have none3 : ∀ b ∈ fp, H3 b = none := fun b hb => (ff3 b hb).1.1
  generalize hce : compEnvC scope cl s3.heap.objs.size X.env = ce at I4 p1 p2 p3 ⊢
  have cL : ce.locals = s3.heap.objs.size := by rw [← hce]; rfl
  generalize hs4 : ({ s3 with heap := pushCells (s3.heap.push { cls := .type "dict", data := .dict #[] }) scope.names } : Shared) = s4 at I4 ⊢
  have st4 : tn 0 s4.heap := T.keep _ _ _ st3 fun b _ o e => by rw [← hs4]; exact pushCells_keeps _ _ _ _ (Heap.get?_push_of_some _ e)
  let Y := X.blk s3 H3 scope ce fp
  have alone : ∀ {σ' : L2.St} {H' : Hp} {s' : Shared}, Inv Y [] σ' H' s' → (∀ b ∈ fp, H' b = none) → ∀ b ∈ fp, FpOk Y [] H' b := fun {σ' H' s'} J' hn b hb =>
    ⟨hn b hb, (J'.ok.exf b hb).1, J'.ok.exfs b hb, .inl hb, fun x c e => (J'.ok.exf b hb).2 x c e, fun p hp => absurd (show p ∈ ([] : List (Addr × Obj)) ++ [] from hp) (by simp)⟩
  generalize hRR : compPost (model X.prog X.w) X.A X.xe none (EP X pins σ Q) (.ref D) s3.heap.objs.size = RR
  have last : ∀ s' m H', Inv X pins σ H' s' → Q (.ref D) H' → s'.heap.Ns s3.heap.objs.size m → FpOk X pins H' s3.heap.objs.size → RR (.ok .next) s' := fun s' m H' I' q hn f => by
    rw [← hRR]
    obtain ⟨f0, f1, f2, f3, f4, f5⟩ := f
    exact ⟨m, hn, fun h'' sb => ⟨.ref D, H', I'.turned (t' := s'.toks) (fun b o hb e => (sb.2 b hb).trans e) f0 f1 f3 f4 f5, rfl, q⟩⟩
  -- what stands between the turns of the outer loop
  let In (n : Nat) (s' : Shared) : Prop := ∃ i H', Inv Y [] (wipe σ (own.map (·.2))) H' s' ∧ tn i s'.heap ∧ (∀ b ∈ fp, H' b = none) ∧ W i n H'
  have loop : codeAny (model X.prog X.w) X.A (.compLoop (sc1 elt tg iter f0 scope pos) 0 (.ref it) (.ref D) ce) RR s4 := by
    refine loopS_1c In ?_ m0 ⟨0, H3, I4, st4, none3, w0⟩
    rintro n s5 ⟨i, H5, I5, st5, n5, w5⟩
    rcases turn i n H5 w5 with ⟨stop, qq⟩ | ⟨go, Nx, hNx, step⟩
    · refine thnF (T.done Y rfl rfl rfl hc i [] s5 _ H5 (fun _ _ => False) I5 (alone I5 n5) st5 stop) fun r s6 ⟨hr, I6⟩ => ?_
      subst hr
      have I7 : Inv X pins σ H5 s6 := I3.call' (ch := fp) I6.os I6.base I6.hok I6.bare fun b hb => ⟨(ff3 b hb).1.2.2.2.1, (ff3 b hb).1.2.1, (ff3 b hb).1.2.2.2.2.1, (ff3 b hb).1.2.2.2.2.2⟩
      have nC : H5 s3.heap.objs.size = none := cL ▸ (show H5 ce.locals = none from I6.free)
      obtain ⟨m, hn, _⟩ := I6.loc
      exact last s6 m H5 I7 qq (cL ▸ (show s6.heap.Ns ce.locals m from hn)) (I3.fpOk (Nat.le_refl _) nC)
    · refine thnF (T.item Y rfl rfl rfl hc i [] s5 _ H5 (fun _ _ => False) I5 (alone I5 n5) st5 go) fun r s6 ⟨u, hr, h6⟩ => ?_
      subst hr
      refine thnF h6 fun _ s7 ⟨x, H7, I7, r7, y7, st7, n7⟩ => ?_
      have I7' := I7.pinned (alone I7 n7) (T.obj _ _ st7)
      refine thnF (p1.run _ s7 _ H7 x u _ I7' r7 (step x H7 y7)) fun _ s8 ⟨σ8, H8, I8, hw8, q8⟩ => ?_
      refine thnF (p2.run _ s8 σ8 H8 _ I8 q8) fun b s9 ⟨H9, I9, q9⟩ => ?_
      have back : ∀ {σ9 : L2.St} {s' : Shared} {H' : Hp}, Inv Y ([] ++ pinsAt fp s7.heap) σ9 H' s' → (wipe σ (own.map (·.2))).length = σ9.length → (∀ (j : Nat) v, (wipe σ (own.map (·.2)))[j]? = some (some v) → σ9[j]? = some (some v)) → Nx H' → ∃ m, m < n ∧ In m s' := fun {σ9 s' H'} J' hl hk nx => by
        obtain ⟨m', hm, w'⟩ := hNx H' nx
        have pn : ∀ b ∈ fp, ∀ o, s7.heap.get? b = some o → s'.heap.get? b = some o ∧ H' b = none := fun b hb o e => let z := J'.pin (b, o) (List.mem_append_right _ (List.mem_append_right _ (mem_pinsAt hb e))); ⟨z.1, z.2.1⟩
        exact ⟨m', hm, i + 1, H', (J'.unpinned (pins := [])).weak hl hk, T.keep _ _ _ st7 fun b hb o e => (pn b hb o e).1, fun b hb => (let ⟨o, e, _⟩ := T.obj _ _ st7 b hb; (pn b hb o e).2), w'⟩
      have l8 : (wipe σ (own.map (·.2))).length = σ8.length := by rw [← hw8, wipe_length]
      match b, q9 with
      | false, q9 =>
        have q9 : Nx H9 := q9
        exact back I9 l8 (fun j v e => by rw [← hw8] at e; exact (wipe_some e).1) q9
      | true, q9 =>
        refine thnF (p3.run _ s9 σ8 H9 _ I9 q9) fun z s17 ⟨yv, H17, I17, r17, zz, S0, n0, ey, hD17, room17, nx⟩ => ?_
        subst ey
        obtain ⟨tk, rfl⟩ : ∃ tk, z = Value.str zz tk := r17
        exact ss_add (X := Y) I17 hD17 room17 fun s18 I18 => back I18 l8 (fun j v e => by rw [← hw8] at e; exact (wipe_some e).1) nx
  exact PpSet.codeAny_compStart_set loop (T.self X.A 0 _ _ _ st4 loop)
end
end Pu

end

section
set_option maxHeartbeats 1000000
/-! PuS2: sorted({e for x in a if ..}) of texts, over plain data -/
namespace Pu
open PySem L2 PyProof.Rows
def dSs1 (ti : DTI) (g : DTG) (tt : DTT) (te : DTE) (js : List Nat) : DTE := fun env Q => ti env fun ys => dSsGo g tt te (wipeE env js) ys [] fun zs => sortedOf zs Q
section
variable {K : PySem.W.Frag} {F : Fr} {P : Program} {w : World}
theorem sd_Ss1 {js : List Nat} {wi : TI} {g : TG} {tt : TT} {te : TE} {fi : DTI} {fg : DTG} {ft : DTT} {fe : DTE} (hi : SdI K F wi fi) (hg : SdG K F js g fg) (ht : SdT K F tt ft) (he : SdE K F te fe) :
    SdE K F (tCB (rSortSS P w) (tCons (tSs1 P w wi g tt te js) tNil)) (dSs1 fi fg ft fe js) := by
  intro Hb H σ env Q k r q c
  refine hi Hb H σ env _ _ r q fun J Hb1 H1 ys st1 gv q1 => ?_
  obtain ⟨Gd, Y, wk, hGd, hY⟩ := gv.ex
  intro D hD
  have r1 := r.on st1
  have nD : ¬ F.hid.has D := fun z => by obtain ⟨o, e⟩ := st1.st.ok.there z; rw [hD] at e; cases e
  have bD : Hb1 D = none := none_back (fun o e => st1.st.ex D o e) hD
  -- D keeps standing, unknown
  have keepD : ∀ {Ha Hc Hbb Hbc : Hp} {o : HO}, Step F.hid Hbb Ha Hbc Hc → Ha D = some o → Hbb D = none → Hc D = some o ∧ Hbc D = none := fun {Ha Hc Hbb Hbc o} t h1 h2 => by
    refine ⟨t.keep D _ h1 nD, ?_⟩
    cases z : Hbc D with
    | none => rfl
    | some u =>
      have := t.new D u z h2
      rw [h1] at this; cases this
  -- D written: the rest as it was
  have write : ∀ {Hbx Hx : Hp} (o : HO), Step F.hid Hb1 H1 Hbx Hx → Hbx D = none → Step F.hid Hb1 H1 Hbx (upd Hx D o) := fun {Hbx Hx} o s hN =>
    ⟨⟨fun b u e => by rw [upd_ne (fun z : b = D => by rw [z, hN] at e; cases e)]; exact s.st.ex b u e, s.st.ok.keeps fun b u hb e => by rw [upd_ne (fun z : b = D => nD (z ▸ hb))]; exact e, s.st.out⟩, s.ex, s.new,
      fun b u e hb => by rw [upd_ne (ne_of_none e hD)]; exact s.keep b u e hb⟩
  let Fin : List Str → Prop := fun zs => sortedOf zs Q
  let In (i : Nat) (H' : Hp) : Prop := ∃ Hb' n xs, Step F.hid Hb1 H1 Hb' H' ∧ H' D = some (SSo P w D (memB xs) n) ∧ Hb' D = none ∧ n ≤ xs.length ∧ dSsGo fg ft fe (wipeE env js) (ys.drop i) xs Fin
  refine ⟨fun i m H' => m = ys.length - i ∧ i ≤ ys.length ∧ In i H', ⟨ys.length, by simp, Nat.zero_le _, Hb1, 0, [], Step.raw st1.st hD, upd_same, bD, Nat.zero_le _, q1⟩, ?_⟩
  rintro i m H' ⟨rfl, hle, Hb', n, xs, s, hA, hN, hl, q'⟩
  have gd := hGd H' (s.ex.trans s.st.ex)
  by_cases hlt : i < ys.length
  · refine .inr ⟨wk.goes i H' hlt gd, In (i + 1), fun H2 p => ⟨_, (by omega : ys.length - (i + 1) < ys.length - i), rfl, hlt, p⟩, fun x H2 y => ?_⟩
    obtain ⟨Hb2, d, hd, st2, hx⟩ := hY i Hb' H' x H2 hlt s.st s.ex (wk.yields i H' x H2 hlt gd y)
    rw [drop_at hd] at q'
    obtain ⟨hA2, hN2⟩ := keepD st2 hA hN
    have rw2 := (r1.on (s.trans st2)).wipe js
    refine hg Hb2 H2 _ _ x (.d d) _ _ rw2 hx rfl q' fun σ3 env3 o3 r3 q3 => ⟨by rw [wipe_off o3, wipe_idem], ?_⟩
    refine ht Hb2 H2 σ3 env3 _ _ r3 q3 fun b Hb3 H3 st3 q4 => ?_
    obtain ⟨hA3, hN3⟩ := keepD st3 hA2 hN2
    have s3 := (s.trans st2).trans st3
    have r3 := r3.on st3
    match b, q4 with
    | false, q4 => exact ⟨Hb3, n, xs, s3, hA3, hN3, hl, q4⟩
    | true, q4 =>
      show te σ3 H3 _
      refine he.go (Q := fun u => ∃ z, u = .d (.str z) ∧ xs.length + 1 < scanBound ∧ dSsGo fg ft fe (wipeE env js) (ys.drop (i + 1)) (xs ++ [z]) Fin) r3 q4 fun v Hb9 H9 u st9 ru _ q9 => ?_
      obtain ⟨z, eu, lim, q9⟩ := q9
      subst eu
      obtain ⟨hA9, hN9⟩ := keepD st9 hA3 hN3
      obtain rfl := str_of ru
      refine ⟨z, memB xs, n, rfl, hA9, Nat.lt_of_le_of_lt (Nat.succ_le_succ hl) lim, ?_⟩
      refine ⟨Hb9, if memB xs z = true then n else n + 1, xs ++ [z], write _ (s3.trans st9) hN9, ?_, hN9, ?_, q9⟩
      · rw [upd_same, memB_app]
      · rw [List.length_append]; simp only [List.length_singleton]; split <;> omega
  · obtain rfl : i = ys.length := by omega
    rw [List.drop_length] at q'
    exact .inl ⟨wk.stops H' gd, sort_end (K := K) (st1.trans s) hA q' c⟩
end
section
variable {X : Cx} {F : Fr} {K : PySem.W.Frag} {tg iter tg1 iter1 elt : Expr} {te : TE} {fe : DTE} {wi wi1 : TI} {fi fi1 : DTI} {g g1 : TG} {fg fg1 : DTG} {tt tt1 : TT} {ft ft1 : DTT} {pos p2 p3 : Pos} {ifs ifs1 : List Expr} {scope : Scope} {own : List (Str × Nat)} {vs1 : List Nat}
theorem de_sortSs1 (h1 : X.mg "sorted" = none) (hN : X.N.Nodup) (hi : DI X F tg iter wi fi) (ok : BlkOk X.N X.env.scope scope own)
    (hg : ∀ (s : Shared) (H : Hp) (C : Addr) (cl : List (Str × Addr)) (fp : List Addr), DG (X.blk s H scope (compEnvC scope cl C X.env) fp) F (own.map (·.2)) tg g fg) (ht : ∀ (s : Shared) (H : Hp) (C : Addr) (cl : List (Str × Addr)) (fp : List Addr), DP (X.blk s H scope (compEnvC scope cl C X.env) fp) F ifs tt ft)
    (he : ∀ (s : Shared) (H : Hp) (C : Addr) (cl : List (Str × Addr)) (fp : List Addr), DE (X.blk s H scope (compEnvC scope cl C X.env) fp) F elt te fe) (hc : X.calm = true := by rfl) (hs : ∀ x, foldedSetIterable iter X.env x = pure x := by intro _; rfl) (hgl : Gl X "sorted" := by rfl)
    (hst : starEach [sc1 elt tg iter ifs scope p2] X.env = (false, eval (sc1 elt tg iter ifs scope p2) X.env) :: starEach [] X.env := by rfl) :
    DE X F (.Call (.Name "sorted" p3) [sc1 elt tg iter ifs scope p2] [] pos) (tCB (rSortSS X.prog X.w) (tCons (tSs1 X.prog X.w wi g tt te (own.map (·.2))) tNil)) (dSs1 fi fg ft fe (own.map (·.2))) :=
  ⟨pe_callB (cr_sortSS hc) hgl h1 (by decide +kernel) (pa_cons (pe_ss1 hc hN hi.pe ok (fun s H C cl fp => (hg s H C cl fp).pe) (fun s H C cl fp => (ht s H C cl fp).pe) (fun s H C cl fp => (he s H C cl fp).pe) hs) pa_nil hst) (by decide) (by decide) hst,
    sd_Ss1 hi.sd (hg {} (fun _ => none) 0 [] []).sd (ht {} (fun _ => none) 0 [] []).sd (he {} (fun _ => none) 0 [] []).sd⟩
end
end Pu

end

section
set_option maxHeartbeats 1000000
/-! PuI: sorted lists of whole numbers; the place of an item in a list -/
namespace Pu
open PySem L2 PyProof.Rows
section
variable {K : PySem.W.Frag} {hid : Hid} {F : Fr}
theorem ints_rep {Hb : Hp} : ∀ {ds : List PyData} {vs : List V} {xs : List Int}, DqAll K Hb vs ds → intsD ds = some xs → vs = xs.map V.int
  | [], _, _, .nil, e => by cases e; rfl
  | .int x :: ds, _, xs, .cons h t, e => by
    cases q : intsD ds with
    | none =>
      have e : (intsD ds).map (x :: ·) = some xs := e
      rw [q] at e; cases e
    | some ys =>
      have e : (intsD ds).map (x :: ·) = some xs := e
      rw [q] at e
      cases e
      cases h
      rw [ints_rep t q]
      rfl
  | .none :: _, _, _, _, e => by cases e
  | .bool _ :: _, _, _, _, e => by cases e
  | .str _ :: _, _, _, _, e => by cases e
  | .list _ :: _, _, _, _, e => by cases e
  | .tuple _ :: _, _, _, _, e => by cases e
  | .dict _ :: _, _, _, _, e => by cases e
theorem ints_all {Hb : Hp} : ∀ xs : List Int, DqAll K Hb (xs.map V.int) (xs.map PyData.int)
  | [] => .nil
  | x :: xs => .cons (.int x) (ints_all xs)
def fSortedI : FN := fun ss Q => match ss with
  | [.d (.list ds)] => ∃ xs, intsD ds = some xs ∧ xs.length < 64 ∧ ∀ ys : List Int, ys.Perm xs → ys.Pairwise (· ≤ ·) → Q (.own (ys.map PyData.int))
  | _ => False
theorem lc_sortedI : LC K hid (rSorted K) fSortedI := by
  intro Hb H xs ss Q k st r q c
  unfold fSortedI at q
  split at q
  · rename_i ds
    obtain ⟨zs, e, h64, q⟩ := q
    obtain ⟨v, rfl, h⟩ := rep1 r
    cases (show Dq K Hb v (.list ds) from h) with
    | lst h1 h2 =>
      have ev := ints_rep h2 e
      subst ev
      refine ⟨_, zs, rfl, SqL.of (st.ex _ _ h1), h64, fun ys p hp hs hn => ?_⟩
      obtain ⟨s2, r2, f2⟩ := own_new (K := K) st hn (ints_all (K := K) (Hb := Hb) ys)
      exact c _ Hb _ (.own _) s2 r2 f2 (q ys hp hs)
  · exact q.elim
theorem k_sortedI {X : Cx} (e : X.K = K) : CallR X (.builtin "sorted") (rSorted K) := e ▸ cr_sorted
/-- xs.index(x): flat items -/
def dIndex (fa fb : DTE) : DTE := fun env Q => fa env fun s => ∃ ys, s.fz = .d (.list ys) ∧ fb env fun t => ∃ x j z, t.fz = .d x ∧ flatD x = true ∧ ys.all flatD = true ∧ ys[j]? = some z ∧ PyData.eqv z x = true ∧ (∀ m z', m < j → ys[m]? = some z' → PyData.eqv z' x = false) ∧ Q (.d (.int (j : Nat)))
theorem sd_index {ta tb : TE} {fa fb : DTE} (ha : SdE K F ta fa) (hb : SdE K F tb fb) : SdE K F (tBM K "list" (rIndex K) ta (tCons tb tNil)) (dIndex fa fb) := by
  intro Hb H σ env Q k r q c
  refine ha.go (Q := fun s => ∃ ys, s = .d (.list ys) ∧ fb env fun t => ∃ x j z, t.fz = .d x ∧ flatD x = true ∧ ys.all flatD = true ∧ ys[j]? = some z ∧ PyData.eqv z x = true ∧ (∀ m z', m < j → ys[m]? = some z' → PyData.eqv z' x = false) ∧ Q (.d (.int (j : Nat)))) r q fun v Hb1 H1 s st1 rs1 _ q1 => ?_
  obtain ⟨ys, es, q1⟩ := q1
  subst es
  have rs1 : Dq K Hb1 v (.list ys) := rs1
  cases rs1 with
  | lst h1 h2 =>
    rename_i a vs
    refine ⟨.inl ⟨rfl, _, SqL.of (st1.st.ex _ _ h1)⟩, ?_⟩
    refine hb.go (Q := fun t => ∃ x j z, t = .d x ∧ flatD x = true ∧ ys.all flatD = true ∧ ys[j]? = some z ∧ PyData.eqv z x = true ∧ (∀ m z', m < j → ys[m]? = some z' → PyData.eqv z' x = false) ∧ Q (.d (.int (j : Nat)))) (r.on st1) q1 fun w Hb2 H2 t st2 rs2 _ q2 => ?_
    obtain ⟨x, j, z, et, f1, f2, e1, e2, e3, q2⟩ := q2
    subst et
    have rs2 : Dq K Hb2 w x := rs2
    have h2' := DqAll.mono st2.ex h2
    obtain ⟨u, u1, u2⟩ := DqAll.get' h2' e1
    have fl : ∀ {m : Nat} {d : PyData}, ys[m]? = some d → flatD d = true := fun {m d} e => List.all_eq_true.mp f2 d (List.mem_of_getElem? e)
    refine ⟨a, vs, w, j, u, rfl, rfl, SqL.of (st2.st.ex _ _ (st2.ex _ _ h1)), flat_v rs2 f1, flats_v h2' f2, u1, by rw [eqv_v u2 rs2 (fl e1) f1]; exact e2, fun m z' hm em => ?_, c _ Hb2 H2 (.d (.int (j : Nat))) (st1.trans st2) (.int _) trivial q2⟩
    obtain ⟨d, d1, d2⟩ := DqAll.get h2' em
    rw [eqv_v d2 rs2 (fl d1) f1]
    exact e3 m d hm d1
end
end Pu

end

section
/-! PuJ: sets of whole numbers: sorted(set(xs)). -/
namespace Pu
open PySem L2 PySem.Spec PyProof.Rows
/-- the set of whole numbers at a -/
def SIo (P : Program) (w : World) (a : Addr) (S : Int → Bool) (n : Nat) : HO := .ext fun h => SG (PySem.intKind P w) h a S n
section
variable {X : Cx} {P : Program} {w : World} {H : Hp} {h : Heap} {a : Addr} {S : Int → Bool} {n : Nat} {pins : List (Addr × Obj)} {σ : L2.St} {s : Shared}
theorem sio_new (R : SG (PySem.intKind P w) h a S n) : ObjOk P w H h a (SIo P w a S n) := ⟨R, (let ⟨o, _, _, _, ho, _⟩ := R; ⟨o, ho⟩), fun _ _ p k => SG.at p k⟩
theorem sio_get (I : Inv X pins σ H s) (e : H a = some (SIo X.prog X.w a S n)) : SG (PySem.intKind X.prog X.w) s.heap a S n := (I.hok a _ e).1
theorem int_is (x : Int) (t : Tok) : (PySem.intKind P w).is x (.int x t) = true := by show Value.isInt x (.int x t) = true; simp [Value.isInt]
theorem ints_get : ∀ {us : List Value} {xs : List Int} (i : Nat) (v : Value), IntsAre us xs → us[i]? = some v → ∃ x t, xs[i]? = some x ∧ v = .int x t
  | _, _, i, v, .nil, e => by simp at e
  | _, _, 0, v, .cons y t r, e => by simp at e; exact ⟨y, t, rfl, e.symm⟩
  | _, _, i + 1, v, .cons y t r, e => by
    obtain ⟨x, u, h1, h2⟩ := ints_get i v r (by simpa using e)
    exact ⟨x, u, by simpa using h1, h2⟩
/-- set(xs), xs a list of whole numbers -/
def rSetI (K : PySem.W.Frag) (P : Program) (w : World) : List V → Hp → VK → Prop := fun vs H Q => ∃ (l : Addr) (ks : List Int), vs = [V.ref l] ∧ SqL K H l (ks.map V.int) ∧ ks.length + 1 < scanBound ∧ ∀ p c, H p = none → c ≤ ks.length → Q (.ref p) (upd H p (SIo P w p (memB ks) c))
theorem cr_setI (hc : X.calm = true) : CallR X (.type "set") (rSetI X.K X.prog X.w) := by
  intro pins s σ H vs us Q I r q
  obtain ⟨l, ks, rfl, hl, hb, q⟩ := q
  obtain ⟨its, rv, pl, hz⟩ := I.list hl
  have rs := rv.ints
  rw [Vals.ref1 r]
  refine sg_of_list (P := X.prog) (w := X.w) (kd := PySem.intKind X.prog X.w) (ks := ks) (I.ok.hd hc) pl.isList (by rw [List.size_toArray]; exact rs.length) hb (fun i v hv => ?_) fun h' tk c R hc kp => ?_
  · obtain ⟨x, t, h1, rfl⟩ := ints_get i v rs (by simpa using hv)
    exact ⟨x, h1, int_is x t, rfl⟩
  · exact ⟨.ref s.heap.objs.size, upd H s.heap.objs.size (SIo X.prog X.w s.heap.objs.size (memB ks) c), I.laid (t' := tk) kp (Nat.le_refl _) (sio_new R), rfl, q _ c (I.hok.fresh (Nat.le_refl _)) hc⟩
theorem sorted_sgI {A : Around} {E : Value → Shared → Prop} {Q : Value → Shared → Prop} (R : SG (PySem.intKind P w) s.heap a S n) (hh : A.handled = none)
    (hQ : ∀ s' p (out : Array Value) (c : Nat) (ys : List Int), (∀ b o, s.heap.get? b = some o → s'.heap.get? b = some o) → s'.gens = s.gens → s'.os = s.os → s.heap.objs.size ≤ p →
      s'.heap.get? p = some (seqObj "list" out c) → IntsAre out.toList ys → ys.Pairwise (· ≤ ·) → ys.Nodup → (∀ k, k ∈ ys ↔ S k = true) → ys.length = n → n < scanBound → Q (.ref p) s') :
    wpAny (model P w) A (call (.builtin "sorted") [.ref a]) Q E s := by
  obtain ⟨o, es, ep, t, ho, r⟩ := R
  have shape : ∀ e ∈ es.toList, ∃ x u, e.2 = Value.int x u := fun e he => by
    obtain ⟨⟨k, h1, _⟩, _⟩ := r.el e he
    obtain ⟨u, h2⟩ := Value.isInt_shape h1
    exact ⟨k, u, h2⟩
  refine Calls.call_function_entry kind_sorted plain_sorted entry_sorted (args_sorted1 _) ?_
  unfold Builtin.«sorted»
  refine wpAny_bind (m := checkCount "sorted" 1 1 _) (wpAny_pure (wpAny_bind (collect_set (A := A.in1) hh ⟨o, ho, r.ex.1, r.da⟩ r.fi r.lt r.ri r.le fun s1 vs k1 z1 g1 o1 pm => ?_)))
  have sV : ∀ v ∈ vs, ∃ x u, v = Value.int x u := fun v hv => by
    obtain ⟨e, he, q⟩ := List.mem_map.mp (pm.mem_iff.mp hv)
    obtain ⟨x, u, h⟩ := shape e he
    exact ⟨x, u, q ▸ h⟩
  have many : vs.length = n := by rw [pm.length_eq, List.length_map, Array.length_toList]; exact r.sz
  have few : vs.length ≤ sizeLine := by rw [many, ← r.sz]; exact fits_of_scanBound r.lt
  have hI := SrtO.ints_iv sV
  have pk : (vs.map SrtO.iv).Perm (es.toList.map fun e => SrtO.iv e.2) := by
    have q := pm.map SrtO.iv
    rw [List.map_map] at q
    exact q
  have isK : ∀ e ∈ es.toList, ∀ k, (PySem.intKind P w).is k e.2 = true ↔ SrtO.iv e.2 = k := fun e he k => by
    obtain ⟨x, u, h⟩ := shape e he
    rw [h]
    exact ⟨fun z => (PySem.intKind P w).inj _ _ _ (int_is x u) z, fun z => by
      have z' : x = k := z
      rw [← z']; exact int_is x u⟩
  have nd : (es.toList.map fun e => SrtO.iv e.2).Nodup := by
    have q : ∀ l : List (Int × Value), (∀ e ∈ l, e ∈ es.toList) → Apart (PySem.intKind P w) l → (l.map fun e => SrtO.iv e.2).Nodup := fun l => by
      induction l with
      | nil => intro _ _; exact List.nodup_nil
      | cons e l ih =>
        intro hm ha
        obtain ⟨h1, h2⟩ := List.pairwise_cons.mp ha
        refine List.nodup_cons.mpr ⟨fun z => ?_, ih (fun f hf => hm f (List.mem_cons_of_mem _ hf)) h2⟩
        obtain ⟨f, hf, ef⟩ := List.mem_map.mp z
        exact h1 f hf (SrtO.iv e.2) ((isK e (hm e List.mem_cons_self) _).2 rfl) ((isK f (hm f (List.mem_cons_of_mem _ hf)) _).2 ef)
    exact q _ (fun _ h => h) r.ap
  have mem : ∀ k, k ∈ (es.toList.map fun e => SrtO.iv e.2) ↔ S k = true := fun k => by
    rw [r.me k, List.mem_map]
    exact ⟨fun ⟨e, he, q⟩ => ⟨e, he, (isK e he k).2 q⟩, fun ⟨e, he, q⟩ => ⟨e, he, (isK e he k).1 q⟩⟩
  refine wpAny_bind (wpAny_newList ?_ few)
  have own : (s1.heap.push (seqObj "list" vs.toArray 0)).get? s1.heap.objs.size = some (seqObj "list" vs.toArray 0) := Heap.get?_push_size _ rfl
  refine wpAny_bind (wpAny_holding (wpAny_call_entry slot_list_sort ⟨_, own, rfl⟩ entry_list_sort (SrtO.list_sort_ord SrtO.swo_int own few (fun h2 => SrtO.ints_sortable hI h2) fun out hp hs => ⟨_, rfl, ?_⟩) (args_list_sort _)))
  obtain ⟨y1, y2, y3⟩ := SrtO.ints_out hI hp hs
  obtain ⟨c, hc⟩ := sortedHeap_at (vs := vs) (out := out.toArray) own
  have pn := y2.trans pk
  refine wpAny_pure ⟨_, rfl, hQ _ s1.heap.objs.size _ c (out.map SrtO.iv) (fun b u e => ?_) g1 o1 z1 hc (by rw [List.toList_toArray]; exact y1) y3 (pn.nodup_iff.mpr nd) (fun k => by rw [pn.mem_iff, mem k]) ?_ (r.sz ▸ r.lt)⟩
  · have q := k1 b u e
    have l1 := Heap.lt_size q
    show (sortedHeap (s1.heap.push (seqObj "list" vs.toArray 0)) s1.heap.objs.size vs _).get? b = some u
    rw [sortedHeap_old (Nat.ne_of_lt l1) (by rw [size_push']; exact Nat.lt_succ_of_lt l1)]
    exact Heap.get?_push_of_some _ q
  · rw [pn.length_eq, List.length_map, Array.length_toList]; exact r.sz
def rSortSI (P : Program) (w : World) : List V → Hp → VK → Prop := fun vs H Q => ∃ (a : Addr) (S : Int → Bool) (n : Nat), vs = [V.ref a] ∧ H a = some (SIo P w a S n) ∧
  ∀ (ys : List Int) (p : Addr), ys.Pairwise (· < ·) → (∀ k, k ∈ ys ↔ S k = true) → ys.length = n → n < scanBound → H p = none → Q (.ref p) (upd H p (.lst (ys.map V.int)))
theorem asc_of {l : List Int} (h : l.Pairwise (· ≤ ·)) (n : l.Nodup) : l.Pairwise (· < ·) := by
  have n : l.Pairwise (· ≠ ·) := n
  exact (h.and n).imp fun {a b} h => by have := h.1; have := h.2; omega
theorem cr_sortSI (hc : X.calm = true) : CallR X (.builtin "sorted") (rSortSI X.prog X.w) := by
  intro pins s σ H vs us Q I r q
  obtain ⟨a, S, n, rfl, ha, q⟩ := q
  rw [Vals.ref1 r]
  refine sorted_sgI (sio_get I ha) (I.ok.hd hc) fun s' p out c ys kp g o hp hg hi hs nd hm hl hb => ?_
  have len : (ys.map V.int).length ≤ sizeLine := by rw [List.length_map, hl]; exact fits_of_scanBound hb
  have free : H p = none := I.hok.fresh hp
  have J : Inv X pins σ (upd H p (.lst (ys.map V.int))) { s with heap := s'.heap, gens := s'.gens, drawn := s'.drawn, toks := s'.toks } :=
    I.call (ch := []) (Un.laid kp hp free) (I.hok.laid kp hp ⟨len, out.toList, c, vals_of_ints hi, hg⟩) (g.symm ▸ I.bare) (fun _ z => nomatch z)
  have e : s' = { s with heap := s'.heap, gens := s'.gens, drawn := s'.drawn, toks := s'.toks } := by
    obtain ⟨_, _, _, _, _⟩ := s'
    obtain ⟨_, _, _, _, _⟩ := s
    obtain rfl := o
    rfl
  rw [e]
  exact ⟨.ref p, _, J, rfl, q ys p (asc_of hs nd) hm hl hb free⟩
end
/-! ### over plain data -/
def sortedOfI (xs : List Int) (Q : DK) : Prop := ∀ ys : List Int, ys.Pairwise (· < ·) → (∀ k, k ∈ ys ↔ k ∈ xs) → Q (.own (ys.map PyData.int))
def fSortSetI : FN := fun ss Q => match ss with
  | [.d (.list ds)] => ∃ xs, intsD ds = some xs ∧ xs.length + 1 < scanBound ∧ sortedOfI xs Q
  | _ => False
section
variable {K : PySem.W.Frag} {F : Fr} {hid : Hid} {P : Program} {w : World}
theorem memBI_iff {xs : List Int} {k : Int} : memB xs k = true ↔ k ∈ xs := by unfold memB; exact decide_eq_true_iff
theorem sort_endI {Hb Hb1 H H1 : Hp} {D : Addr} {xs : List Int} {n : Nat} {Q : DK} {k : VK} (st : Step hid Hb H Hb1 H1) (hD : H1 D = some (SIo P w D (memB xs) n)) (q : sortedOfI xs Q)
    (c : ∀ v Hb' H' s', Step hid Hb H Hb' H' → RepSl K hid Hb' H' v s' → FrSl H v s' → Q s' → k v H') : rSortSI P w [V.ref D] H1 k := by
  refine ⟨D, memB xs, n, rfl, hD, fun ys p h1 h3 _ _ hp => ?_⟩
  obtain ⟨s2, r2, f2⟩ := own_new (K := K) st.st hp (ints_all (K := K) (Hb := Hb1) ys)
  exact c _ Hb1 _ (.own _) (st.trans s2) r2 (FrSl.back st f2) (q ys h1 fun k => (h3 k).trans memBI_iff)
theorem sd_sortSetI {ta : TA} {fa : DTA} (h : SdA K F ta fa) : SdE K F (tCB (rSortSI P w) (tCons (tCB (rSetI K P w) ta) tNil)) (dCall fSortSetI fa) := by
  intro Hb H σ env Q k rp q c
  refine h Hb H σ env _ _ rp q fun vs Hb1 H1 ss st1 rs1 q1 => ?_
  unfold fSortSetI at q1
  split at q1
  · rename_i ds
    obtain ⟨xs, e, hb, q1⟩ := q1
    obtain ⟨v, rfl, h⟩ := rep1 rs1
    cases (show Dq K Hb1 v (.list ds) from h) with
    | lst h1 h2 =>
      have ev := ints_rep h2 e
      subst ev
      refine ⟨_, xs, rfl, SqL.of (st1.st.ex _ _ h1), hb, fun p n hp hn => ?_⟩
      exact sort_endI (K := K) (st1.trans (Step.raw st1.st hp)) upd_same q1 c
  · exact q1.elim
end
section
variable {X : Cx} {F : Fr} {K : PySem.W.Frag} {e : Expr} {ta : TA} {fa : DTA} {p p2 pos pos2 : Pos}
theorem k_sortSetI (q : X.K = K) (h1 : X.mg "sorted" = none) (h2 : X.mg "set" = none) (ha : DA X F [e] ta fa) (hc : X.calm = true := by rfl) (hg : Gl X "sorted" := by rfl) (hg2 : Gl X "set" := by rfl)
    (hs : starEach [e] X.env = (false, eval e X.env) :: starEach [] X.env := by rfl) (hs2 : starEach [.Call (.Name "set" p2) [e] [] pos2] X.env = (false, eval (.Call (.Name "set" p2) [e] [] pos2) X.env) :: starEach [] X.env := by rfl) :
    DE X F (.Call (.Name "sorted" p) [.Call (.Name "set" p2) [e] [] pos2] [] pos) (tCB (rSortSI X.prog X.w) (tCons (tCB (rSetI K X.prog X.w) ta) tNil)) (dCall fSortSetI fa) := by
  subst q
  exact ⟨pe_callB (cr_sortSI hc) hg h1 (by decide +kernel) (pa_cons (pe_callTy (cr_setI hc) hg2 h2 (by decide +kernel) ha.pe (by decide) (by decide) hs) pa_nil hs2) (by decide) (by decide) hs2, sd_sortSetI ha.sd⟩
end
/-! ### sorted(xs), whole numbers, any number of them -/
def fSortedIA : FN := fun ss Q => match ss with
  | [.d (.list ds)] => ∃ xs, intsD ds = some xs ∧ ∀ ys : List Int, ys.Perm xs → ys.Pairwise (· ≤ ·) → Q (.own (ys.map PyData.int))
  | _ => False
theorem lc_sortedIA {K : PySem.W.Frag} {hid : Hid} : LC K hid (rSortedI K) fSortedIA := by
  intro Hb H xs ss Q k st r q c
  unfold fSortedIA at q
  split at q
  · rename_i ds
    obtain ⟨zs, e, q⟩ := q
    obtain ⟨v, rfl, h⟩ := rep1 r
    cases (show Dq K Hb v (.list ds) from h) with
    | lst h1 h2 =>
      have ev := ints_rep h2 e
      subst ev
      refine ⟨_, zs, rfl, SqL.of (st.ex _ _ h1), fun ys p hp hs hn => ?_⟩
      obtain ⟨s2, r2, f2⟩ := own_new (K := K) st hn (ints_all (K := K) (Hb := Hb) ys)
      exact c _ Hb _ (.own _) s2 r2 f2 (q ys hp hs)
  · exact q.elim
theorem k_sortedIA {X : Cx} {K : PySem.W.Frag} (e : X.K = K) : CallR X (.builtin "sorted") (rSortedI K) := e ▸ cr_sortedI
end Pu

end

section
set_option maxHeartbeats 1000000
/-! PuK: dict comprehensions; list(d), sorted(d), d.update(e); l.extend(e); x = e[l.pop()]; lists as tests. -/
namespace L2
open PySem PySem.Spec PyProof.Rows
theorem dc_it {J : It} {n : Nat} {G : Hp → Prop} {Y : Nat → Hp → V → Hp → Prop} (w : Walk J n G Y) {g : TG} {tt : TT} {tk tv : TE} {vs : List Nat} {σ : St} {H1 : Hp} {D : Addr} {Qd : Hp → Prop} (Pv : Nat → Hp → Prop) (h0 : Pv 0 (upd H1 D (.dK []))) (hG : ∀ i H, i ≤ n → Pv i H → G H)
    (hs : ∀ i x H H', i < n → Pv i H → Y i H x H' → g x (wipe σ vs) H' fun σ2 H2 => wipe σ2 vs = wipe σ vs ∧ tt σ2 H2 fun b H3 =>
      if b = true then tk σ2 H3 fun y H4 => tv σ2 H4 fun z H5 => ∃ kvs k, y = kV k ∧ H5 D = some (.dK kvs) ∧ kvs.length < sizeLine ∧ Pv (i + 1) (upd H5 D (.dK (putK kvs k z))) else Pv (i + 1) H3) (hd : ∀ H, Pv n H → Qd H) :
    ∃ W : Nat → Nat → Hp → Prop, (∃ m, W 0 m (upd H1 D (.dK []))) ∧ ∀ i m H, W i m H →
      (J.stop i H ∧ Qd H) ∨ (J.go i H ∧ ∃ Nx : Hp → Prop, (∀ H', Nx H' → ∃ m', m' < m ∧ W (i + 1) m' H') ∧ ∀ x H', J.yld i H x H' → g x (wipe σ vs) H' fun σ2 H2 => wipe σ2 vs = wipe σ vs ∧ tt σ2 H2 fun b H3 =>
        if b = true then tk σ2 H3 fun y H4 => tv σ2 H4 fun z H5 => ∃ kvs k, y = kV k ∧ H5 D = some (.dK kvs) ∧ kvs.length < sizeLine ∧ Nx (upd H5 D (.dK (putK kvs k z))) else Nx H3) := by
  refine ⟨fun i m H => m = n - i ∧ i ≤ n ∧ Pv i H, ⟨n, by simp, Nat.zero_le _, h0⟩, ?_⟩
  rintro i m H ⟨rfl, hi, p⟩
  have q := hG i H hi p
  by_cases hlt : i < n
  · refine .inr ⟨w.goes i H hlt q, Pv (i + 1), fun H' p' => ⟨n - (i + 1), by omega, rfl, hlt, p'⟩, fun x H' y => hs i x H H' hlt p (w.yields i H x H' hlt q y)⟩
  · have e : i = n := by omega
    subst e
    exact .inl ⟨w.stops H q, hd H p⟩
section
variable {X : Cx}
theorem sw_trueD {kx vx : Expr} {gs : List Comprehension} {scope : Scope} {pos py : Pos} {y : Str} {l : Nat} {env : Env} (hk : env.scope.kind = .function) (hy : env.scope.names.lookup y = some .local) (hl : (py.line == pos.line) = true)
    (ha : (scope.names.any fun (n, k) => n == y && (k == .local || k == .cell)) = false) : swapsWith (.DictComp kx vx gs scope pos) (some (.Name y py)) l env = pure true := by
  have ky : env.kindOf y = some .local := hy
  have hb : env.blockKind = .function := by unfold Env.blockKind; rw [hk]; rfl
  unfold swapsWith
  simp only [hb, ky, ha, Expr.pos, hl]
  rfl
theorem ps_setDc {i : Nat} {y : Str} {py : Pos} {kx vx tg iter : Expr} {ifs : List Expr} {scope : Scope} {own : List (Str × Nat)} {pos spos : Pos} {wi : TI} {g : TG} {tt : TT} {tk tv : TE} (hc : X.calm = true) (hN : X.N.Nodup) (hy : X.N[i]? = some y) (hyl : X.env.scope.names.lookup y = some .local)
    (hsw : swapsWith (.DictComp kx vx [⟨tg, iter, ifs, 0⟩] scope pos) (some (.Name y py)) spos.line X.env = pure true) (hi : PI X tg iter wi) (ok : BlkOk X.N X.env.scope scope own)
    (hg : ∀ (s : Shared) (H : Hp) (C : Addr) (cl : List (Str × Addr)) (fp : List Addr), PG (X.blk s H scope (compEnvC scope cl C X.env) fp) tg g) (ht : ∀ (s : Shared) (H : Hp) (C : Addr) (cl : List (Str × Addr)) (fp : List Addr), PTs (X.blk s H scope (compEnvC scope cl C X.env) fp) ifs tt)
    (hk : ∀ (s : Shared) (H : Hp) (C : Addr) (cl : List (Str × Addr)) (fp : List Addr), PE (X.blk s H scope (compEnvC scope cl C X.env) fp) kx tk)
    (he : ∀ (s : Shared) (H : Hp) (C : Addr) (cl : List (Str × Addr)) (fp : List Addr), PE (X.blk s H scope (compEnvC scope cl C X.env) fp) vx tv) (hs : ∀ x, foldedSetIterable iter X.env x = pure x := by intro _; rfl) :
    PS X (.Assign [.Name y py] (.DictComp kx vx [⟨tg, iter, ifs, 0⟩] scope pos) spos) (tAsg (tDc wi g tt tk tv (own.map (·.2))) (gName i)) := by
  refine ⟨fun pins s σ H D I h => ?_⟩
  rw [exec_Assign_Name_used _ _ _ _ hsw]
  refine wpAny_bind (wpAny_standAt (wpAny_bind ?_))
  show wpAny _ X.A (do let _ ← comprehension (.DictComp kx vx [⟨tg, iter, ifs, 0⟩] scope pos) scope X.env (firstIterPos [⟨tg, iter, ifs, 0⟩] pos) newDict false (eval iter X.env) (some (assign (.Name y py) X.env))) _ _ s
  have h : tDc wi g tt tk tv (own.map (·.2)) σ H (fun x H1 => gName i x σ H1 D.nx) := h
  refine wpAny_bind (thn (dc_core (Qf := fun _ s' => SP X pins D .next s') hc hN I hi ok hg ht hk he hs h fun L C s' m H' I' q hn f => ?_) fun _ s' hq => wpAny_pure (wpAny_pure hq))
  show wpAny _ _ (assign (.Name y py) X.env (.ref L)) _ _ _
  refine wpAny_assign_Name (store_ok2 (v := V.ref L) I' hN hy (.inl hyl) rfl (fun s2 I2 ⟨a, sb, ha⟩ => ?_) (.inr hyl))
  obtain ⟨f0, f1, f2, f3, f4, f5⟩ := f
  have haC : C ≠ a := by
    rcases ha with z | z
    · rw [z]; exact f1
    · exact fun e => f4 y a z e.symm
  refine ⟨m, hn.sameBut sb haC, fun h3 sb3 => ?_⟩
  exact ⟨_, H', I2.turned (t' := s2.toks) (fun b o hb e => (sb3.2 b hb).trans e) f0 f1 f3 f4 f5, q⟩
/-! d.update(e) -/
def rDUpd : V → List V → Hp → VK → Prop := fun x vs H Q => ∃ (a b : Addr) (kvs more : List (Key × V)), x = .ref a ∧ vs = [.ref b] ∧ a ≠ b ∧ H a = some (.dK kvs) ∧ Rd H b (.dK more) ∧ kvs.length + more.length ≤ sizeLine ∧ Q .non (upd H a (.dK (mergeK kvs more)))
theorem mt_update : MtR X "dict.update" rDUpd := by
  intro pins s σ H x vs v us Q I rx rv h
  obtain ⟨a, b, kvs, more, rfl, rfl, hne, ea, eb, hz, q⟩ := h
  obtain rfl : v = Value.ref a := rx
  obtain ⟨u, rfl, ru⟩ := rv.one
  obtain rfl : u = Value.ref b := ru
  obtain ⟨_, hd, va, ra, da⟩ := dk_of I.hok ea
  obtain ⟨_, hb, vb, rb, db⟩ := dk_rd I.hok eb
  have lz : (mergeK kvs more).length ≤ sizeLine := by have := length_mergeK more kvs; omega
  refine call_meetsIn PySem.F.slot_dict_update da.typeIs PySem.F.entry_dict_update (PySem.F.args_dict_update_2 _ _) (meets_dict_update (mixKind X.prog X.w) a b hne hb)
    ⟨va, vb, da, db, by rw [← ra.length, ← rb.length]; exact hz, fun h' dd _ hs => ?_⟩
  have he : ∃ q, h'.get? a = some q := let ⟨q, _, _, hq, _⟩ := dd; ⟨q, hq⟩
  exact ⟨.non, _, d_write (t' := s.toks) I (by rw [ea]; exact True.intro) hs he (dk_new lz hd (KV.merge rb ra) dd), rfl, q⟩
end
end L2
namespace Pu
open PySem L2 PyProof.Rows
/-! ### dict comprehensions -/
def dDcGo (g : DTG) (tt : DTT) (tk tv : DTE) (env : EV) : List PyData → List (PyData × PyData) → (List (PyData × PyData) → Prop) → Prop
  | [], acc, Q => Q acc
  | y :: ys, acc, Q => g (.d y) env fun env1 => tt env1 fun b => if b = true then tk env1 fun s => ∃ k, s.fz = .d (keyD k) ∧ tv env1 fun u => ∃ d, u.fz = .d d ∧ acc.length < sizeLine ∧ dDcGo g tt tk tv env ys (putP acc k d) Q else dDcGo g tt tk tv env ys acc Q
def dDc (ti : DTI) (g : DTG) (tt : DTT) (tk tv : DTE) (js : List Nat) : DTE := fun env Q => ti env fun ys => dDcGo g tt tk tv (wipeE env js) ys [] fun zs => Q (.ownD zs)
section
variable {K : PySem.W.Frag} {F : Fr}
theorem sd_dc {js : List Nat} {wi : TI} {g : TG} {tt : TT} {tk tv : TE} {fi : DTI} {fg : DTG} {ft : DTT} {fk fv : DTE} (hi : SdI K F wi fi) (hg : SdG K F js g fg) (ht : SdT K F tt ft) (hk : SdE K F tk fk) (hv : SdE K F tv fv) :
    SdE K F (tDc wi g tt tk tv js) (dDc fi fg ft fk fv js) := by
  intro Hb H σ env Q k r q c
  refine hi Hb H σ env _ _ r q fun J Hb1 H1 ys st1 gv q1 => ?_
  obtain ⟨G, Y, w, hG, hY⟩ := gv.ex
  intro D hD
  have r1 := r.on st1
  have nD : ¬ F.hid.has D := fun z => by obtain ⟨o, e⟩ := st1.st.ok.there z; rw [hD] at e; cases e
  have s0 := Step.raw (o := .dK []) st1.st hD
  have bD : Hb1 D = none := none_back (fun o e => st1.st.ex D o e) hD
  refine dc_it w (fun i H' => ∃ Hb' acc xs, Step F.hid Hb1 H1 Hb' H' ∧ H' D = some (.dK acc) ∧ Hb' D = none ∧ DRel K Hb' acc xs ∧ dDcGo fg ft fk fv (wipeE env js) (ys.drop i) xs fun zs => Q (.ownD zs)) ⟨Hb1, [], [], s0, upd_same, bD, ⟨rfl, .nil⟩, q1⟩ ?_ ?_ ?_
  · rintro i H' _ ⟨Hb', acc, xs, s, _⟩
    exact hG H' (s.ex.trans s.st.ex)
  · rintro i x H' H2 hlt ⟨Hb', acc, xs, s, hA, hN, hq, q'⟩ y
    obtain ⟨Hb2, d, hd, st2, hx⟩ := hY i Hb' H' x H2 hlt s.st s.ex y
    have e : ys.drop i = d :: ys.drop (i + 1) := by
      obtain ⟨h1, h2⟩ := List.getElem?_eq_some_iff.mp hd
      rw [List.drop_eq_getElem_cons h1, h2]
    rw [e] at q'
    have keepD : ∀ {Ha Hc Hbb Hbc : Hp}, Step F.hid Hbb Ha Hbc Hc → Ha D = some (.dK acc) → Hbb D = none → Hc D = some (.dK acc) ∧ Hbc D = none := fun {Ha Hc Hbb Hbc} t h1 h2 => t.keepOwn h1 h2 nD
    obtain ⟨hA2, hN2⟩ := keepD st2 hA hN
    have rw2 : Rep K F Hb2 H2 (L2.wipe σ js) (wipeE env js) := (r1.on (s.trans st2)).wipe js
    refine hg Hb2 H2 _ _ x (.d d) _ _ rw2 hx rfl q' fun σ3 env3 o3 r3 q3 => ⟨?_, ?_⟩
    · rw [wipe_off o3, wipe_idem]
    · refine ht Hb2 H2 σ3 env3 _ _ r3 q3 fun b Hb3 H3 st3 q4 => ?_
      obtain ⟨hA3, hN3⟩ := keepD st3 hA2 hN2
      cases b with
      | false =>
        have q4 : dDcGo fg ft fk fv (wipeE env js) (ys.drop (i + 1)) xs fun zs => Q (.ownD zs) := q4
        exact ⟨Hb3, acc, xs, (s.trans st2).trans st3, hA3, hN3, DRel.mono st3.ex (DRel.mono st2.ex hq), q4⟩
      | true =>
        have q4 : fk env3 fun s => ∃ k, s.fz = .d (keyD k) ∧ fv env3 fun u => ∃ d, u.fz = .d d ∧ xs.length < sizeLine ∧ dDcGo fg ft fk fv (wipeE env js) (ys.drop (i + 1)) (putP xs k d) fun zs => Q (.ownD zs) := q4
        show tk σ3 H3 _
        refine hk.go (Q := fun s => ∃ k, s = .d (keyD k) ∧ fv env3 fun u => ∃ d, u.fz = .d d ∧ xs.length < sizeLine ∧ dDcGo fg ft fk fv (wipeE env js) (ys.drop (i + 1)) (putP xs k d) fun zs => Q (.ownD zs)) (r3.on st3) q4 fun v Hb4 H4 u st4 ru _ q5 => ?_
        obtain ⟨kk, e5, q5⟩ := q5
        subst e5
        obtain ⟨hA4, hN4⟩ := keepD st4 hA3 hN3
        refine hv.go (Q := fun u => ∃ d, u = .d d ∧ xs.length < sizeLine ∧ dDcGo fg ft fk fv (wipeE env js) (ys.drop (i + 1)) (putP xs kk d) fun zs => Q (.ownD zs)) ((r3.on st3).on st4) q5 fun v2 Hb5 H5 u2 st5 ru2 _ q6 => ?_
        obtain ⟨z, e6, hl6, q6⟩ := q6
        subst e6
        obtain ⟨hA5, hN5⟩ := keepD st5 hA4 hN4
        have all := (((s.trans st2).trans st3).trans st4).trans st5
        have hq5 := DRel.mono (((st2.trans st3).trans st4).trans st5).ex hq
        refine ⟨acc, kk, key_of ru, hA5, ?_, Hb5, putK acc kk v2, putP xs kk z, ⟨⟨fun b o e => ?_, all.st.ok.keeps fun b o hb e => ?_, all.st.out⟩, all.ex, all.new, fun b o e hb => ?_⟩, upd_same, hN5, hq5.put ru2, q6⟩
        · rw [hq5.length]; exact hl6
        · rw [upd_ne (fun z : b = D => by rw [z, hN5] at e; cases e)]; exact all.st.ex b o e
        · rw [upd_ne (fun z : b = D => nD (z ▸ hb))]; exact e
        · rw [upd_ne (ne_of_none e hD)]; exact all.keep b o e hb
  · rintro H' ⟨Hb', acc, xs, s, hA, hN, hq, q'⟩
    have dl : ys.drop ys.length = [] := List.drop_length
    rw [dl] at q'
    refine c (.ref D) Hb' H' (.ownD xs) (st1.trans s) ⟨D, acc, rfl, hA, hq, hN, nD⟩ (fun p e => ?_) q'
    cases e
    exact st1.back hD
/-! ### lists and dicts as tests -/
def dTruth (f : DTE) : DTT := fun env Q => f env fun s => match s.fz with
  | .d (.list xs) => Q (!xs.isEmpty)
  | .d (.tuple xs) => Q (!xs.isEmpty)
  | .d (.dict ds) => Q (!ds.isEmpty)
  | .d (.int i) => Q (i != 0)
  | .d .none => Q false
  | _ => False
theorem sd_truth {ta : TE} {fa : DTE} (h : SdE K F ta fa) : SdT K F (fun σ H Q => ta σ H fun x H' => ∃ k, TruV K x H' k ∧ Q k H') (dTruth fa) := by
  intro Hb H σ env Q k r q c
  refine h.go (Q := fun s => match s with
    | .d (.list xs) => Q (!xs.isEmpty)
    | .d (.tuple xs) => Q (!xs.isEmpty)
    | .d (.dict ds) => Q (!ds.isEmpty)
    | .d (.int i) => Q (i != 0)
    | .d .none => Q false
    | _ => False) r q fun x Hb1 H1 s st1 rs1 e1 q1 => ?_
  split at q1
  · rename_i xs
    cases (show Dq K Hb1 x (.list xs) from rs1) with
    | lst h1 h2 =>
      rename_i a vs
      refine ⟨!xs.isEmpty, .inl ⟨vs, SqL.of (st1.st.ex _ _ h1), ?_⟩, c _ Hb1 H1 st1 q1⟩
      cases h2 <;> rfl
  · rename_i xs
    cases (show Dq K Hb1 x (.tuple xs) from rs1) with
    | tup h1 h2 =>
      rename_i a vs
      refine ⟨!xs.isEmpty, .inr (.inl ⟨vs, Same.seqT st1.st.ex h1, ?_⟩), c _ Hb1 H1 st1 q1⟩
      cases h2 <;> rfl
  · rename_i ds
    cases (show Dq K Hb1 x (.dict ds) from rs1) with
    | dic h1 h2 h3 =>
      rename_i a kvs
      refine ⟨!ds.isEmpty, .inr (.inr ⟨kvs, st1.st.ex _ _ h1, ?_⟩), c _ Hb1 H1 st1 q1⟩
      have := DRel.length (⟨h2, h3⟩ : DRel K Hb1 kvs ds)
      cases kvs <;> cases ds <;> simp_all
  · rename_i i
    have e := int_of rs1
    subst e
    exact ⟨_, rfl, c _ Hb1 H1 st1 q1⟩
  · cases (show Dq K Hb1 x .none from rs1)
    exact ⟨_, rfl, c _ Hb1 H1 st1 q1⟩
  · exact q1.elim
/-! ### list(d), sorted(d) -/
def fListD : FN := fun ss Q => match ss with
  | [.d (.dict ds)] => Q (.own (ds.map Prod.fst))
  | _ => False
theorem keys_rep {Hb : Hp} : ∀ {kvs : List (Key × V)} {ds : List (PyData × PyData)}, DRel K Hb kvs ds → DqAll K Hb (kvs.map fun kv => kV kv.1) (ds.map Prod.fst)
  | [], ds, h => by rw [h.none]; exact .nil
  | kv :: kvs, ds, h => by
    obtain ⟨d, r, rfl, _, t⟩ := h.two
    refine .cons ?_ (keys_rep t)
    show Dq K Hb (kV kv.1) (keyD kv.1)
    cases kv.1 with
    | inl i => exact .int i
    | inr x => exact .str x
theorem lc_listD {hid : Hid} : LC K hid rListD fListD := by
  intro Hb H xs ss Q k st r q c
  unfold fListD at q
  split at q
  · rename_i ds
    obtain ⟨v, rfl, h⟩ := rep1 r
    cases (show Dq K Hb v (.dict ds) from h) with
    | dic h1 h2 h3 =>
      refine ⟨_, _, rfl, st.ex _ _ h1, fun p hn => ?_⟩
      obtain ⟨s2, r2, f2⟩ := own_new (K := K) st hn (keys_rep (K := K) (⟨h2, h3⟩ : DRel K Hb _ ds))
      exact c _ Hb _ (.own _) s2 r2 f2 q
  · exact q.elim
def rSortDI : List V → Hp → VK → Prop := fun xs H Q => ∃ (a : Addr) (kvs : List (Key × V)) (ks : List Int), xs = [.ref a] ∧ Rd H a (.dK kvs) ∧ kvs.map (·.1) = ks.map Sum.inl ∧ ks.length < 64 ∧
    ∀ (ys : List Int) (p : Addr), ys.Perm ks → ys.Pairwise (· ≤ ·) → H p = none → Q (.ref p) (upd H p (.lst (ys.map V.int)))
def fSortDI : FN := fun ss Q => match ss with
  | [.d (.dict ds)] => ∃ ks : List Int, ds.map Prod.fst = ks.map PyData.int ∧ ks.length < 64 ∧ ∀ ys : List Int, ys.Perm ks → ys.Pairwise (· ≤ ·) → Q (.own (ys.map PyData.int))
  | _ => False
theorem keys_ints : ∀ {kvs : List (Key × V)} {ks : List Int}, kvs.map (fun p => keyD p.1) = ks.map PyData.int → kvs.map (·.1) = ks.map Sum.inl
  | [], [], _ => rfl
  | [], _ :: _, h => by cases h
  | _ :: _, [], h => by cases h
  | kv :: kvs, k :: ks, h => by
    rw [List.map_cons, List.map_cons] at h
    injection h with h1 h2
    rw [List.map_cons, List.map_cons, keys_ints h2]
    congr 1
    cases e : kv.1 with
    | inl i => rw [e] at h1; injection h1 with h1; rw [h1]
    | inr x => rw [e] at h1; cases h1
theorem lc_sortDI {hid : Hid} : LC K hid rSortDI fSortDI := by
  intro Hb H xs ss Q k st r q c
  unfold fSortDI at q
  split at q
  · rename_i ds
    obtain ⟨ks, e, h64, q⟩ := q
    obtain ⟨v, rfl, h⟩ := rep1 r
    cases (show Dq K Hb v (.dict ds) from h) with
    | dic h1 h2 h3 =>
      refine ⟨_, _, ks, rfl, .inl (st.ex _ _ h1), keys_ints (h2.symm.trans e), h64, fun ys p hp hs hn => ?_⟩
      obtain ⟨s2, r2, f2⟩ := own_new (K := K) st hn (ints_all (K := K) (Hb := Hb) ys)
      exact c _ Hb _ (.own _) s2 r2 f2 (q ys hp hs)
  · exact q.elim
/-! ### own.update(e), own.extend(e) -/
def putPD (ds : List (PyData × PyData)) (p : PyData × PyData) : List (PyData × PyData) := match p.1 with
  | .int i => putP ds (.inl i) p.2
  | .str x => putP ds (.inr x) p.2
  | _ => ds
def mergeP (ds es : List (PyData × PyData)) : List (PyData × PyData) := es.foldl putPD ds
theorem putPD_key (ds : List (PyData × PyData)) (k : Key) (d : PyData) : putPD ds (keyD k, d) = putP ds k d := by cases k <;> rfl
theorem DRel.merge {H : Hp} : ∀ {more : List (Key × V)} {es : List (PyData × PyData)} {kvs : List (Key × V)} {ds : List (PyData × PyData)}, DRel K H more es → DRel K H kvs ds → DRel K H (mergeK kvs more) (mergeP ds es)
  | [], es, kvs, ds, h, r => by rw [h.none]; exact r
  | kv :: more, es, kvs, ds, h, r => by
    obtain ⟨d, es', rfl, a, t⟩ := h.two
    show DRel K H (mergeK (putK kvs kv.1 kv.2) more) (mergeP (putPD ds (keyD kv.1, d)) es')
    rw [putPD_key]
    exact DRel.merge t (r.put a)
theorem RepSl.heap {hid : Hid} {Hb H H' : Hp} {v : V} : ∀ {s : Sl}, s.fz = s → RepSl K hid Hb H v s → RepSl K hid Hb H' v s
  | .d _, _, h => h
  | .v _, _, h => h
  | .src, _, h => h
  | .own _, e, _ => by cases e
  | .ownD _, e, _ => by cases e
def dUpd (i : Nat) (fe : DTE) : DTS := fun E env => ∃ ds, env[i]? = some (some (.ownD ds)) ∧ fe env fun s => ∃ es, s.fz = .d (.dict es) ∧ ds.length + es.length ≤ sizeLine ∧ E.nx (env.set i (some (.ownD (mergeP ds es))))
theorem sd_upd (i : Nat) {te : TE} {fe : DTE} (he : SdE K F te fe) : SdS K F (tDrop (tBM K "dict" rDUpd (tVar i) (tCons te tNil))) (dUpd i fe) := by
  intro Hb H σ env D E r q l
  obtain ⟨ds, e, q⟩ := q
  obtain ⟨v, e1, rs, fr⟩ := r.sl i _ e
  obtain ⟨p, vs, e2, e3, e4, e5, e6⟩ := rs
  subst e2
  refine ⟨_, e1, .inr (.inr (.inl ⟨rfl, .inl ⟨_, e3⟩⟩)), ?_⟩
  refine he.go (Q := fun s => ∃ es, s = .d (.dict es) ∧ ds.length + es.length ≤ sizeLine ∧ E.nx (env.set i (some (.ownD (mergeP ds es))))) r q fun y Hb1 H1 s st1 rs1 _ q1 => ?_
  obtain ⟨es, ex, hl, q1⟩ := q1
  subst ex
  obtain ⟨hp, hbp⟩ := st1.keepOwn e3 e5 e6
  have e4' := DRel.mono st1.ex e4
  cases (show Dq K Hb1 y (.dict es) from rs1) with
  | dic h1 h2 h3 =>
    rename_i b more
    have rm : DRel K Hb1 more es := ⟨h2, h3⟩
    refine ⟨p, b, vs, more, rfl, rfl, fun z => ?_, hp, .inl (st1.st.ex _ _ h1), by rw [e4.length, rm.length]; exact hl, ?_⟩
    · rw [z, h1] at hbp; cases hbp
    · exact l.nx Hb1 _ σ _ st1.ex ((r.on st1).put1 e trivial e1 hp hbp e6 (s' := .ownD (mergeP ds es)) trivial ⟨p, mergeK vs more, rfl, upd_same, DRel.merge rm e4', hbp, e6⟩) q1
def dExt (i : Nat) (fe : DTE) : DTS := fun E env => ∃ xs, env[i]? = some (some (.own xs)) ∧ fe env fun s => ∃ ys, s.fz = .d (.list ys) ∧ xs.length + ys.length ≤ sizeLine ∧ E.nx (env.set i (some (.own (xs ++ ys))))
theorem sd_ext (i : Nat) {te : TE} {fe : DTE} (he : SdE K F te fe) : SdS K F (tDrop (tBM K "list" rExtend (tVar i) (tCons te tNil))) (dExt i fe) := by
  intro Hb H σ env D E r q l
  obtain ⟨xs, e, q⟩ := q
  obtain ⟨v, e1, rs, fr⟩ := r.sl i _ e
  obtain ⟨p, vs, e2, e3, e4, e5, e6⟩ := rs
  subst e2
  refine ⟨_, e1, .inl ⟨rfl, _, SqL.of e3⟩, ?_⟩
  refine he.go (Q := fun s => ∃ ys, s = .d (.list ys) ∧ xs.length + ys.length ≤ sizeLine ∧ E.nx (env.set i (some (.own (xs ++ ys))))) r q fun y Hb1 H1 s st1 rs1 _ q1 => ?_
  obtain ⟨ys, ex, hl, q1⟩ := q1
  subst ex
  obtain ⟨hp, hbp⟩ := st1.keepOwn e3 e5 e6
  have e4' := DqAll.mono st1.ex e4
  cases (show Dq K Hb1 y (.list ys) from rs1) with
  | lst h1 h2 =>
    rename_i b zs
    refine ⟨p, b, vs, zs, rfl, rfl, hp, st1.st.ex _ _ h1, by rw [DqAll.length e4, DqAll.length h2]; exact hl, ?_⟩
    exact l.nx Hb1 _ σ _ st1.ex ((r.on st1).put1 e trivial e1 hp hbp e6 (s' := .own (xs ++ ys)) trivial ⟨p, vs ++ zs, rfl, upd_same, DqAll.append e4' h2, hbp, e6⟩) q1
/-! ### x = e[own.pop()] -/
def dIxPop (f : F2) (i j : Nat) (fa : DTE) : DTS := fun E env => fa env fun s => ∃ xs d, env[i]? = some (some (.own xs)) ∧ xs[xs.length - 1]? = some d ∧ f s.fz (.d d) fun u => E.nx ((env.set i (some (.own xs.dropLast))).set j (some u))
theorem sd_ixPop {rr : R2} {f : F2} (lo : LO K F.hid rr f) (i j : Nat) {ta : TE} {fa : DTE} (ha : SdE K F ta fa) : SdS K F (tAsg (tOp rr ta (tBM0 K "list" rPop (tVar i))) (gName j)) (dIxPop f i j fa) := by
  intro Hb H σ env D E r q l
  refine ha.go (Q := fun s => ∃ xs d, env[i]? = some (some (.own xs)) ∧ xs[xs.length - 1]? = some d ∧ f s (.d d) fun u => E.nx ((env.set i (some (.own xs.dropLast))).set j (some u))) r q fun x Hb1 H1 s st1 rs1 es q1 => ?_
  obtain ⟨xs, d, e, ed, q1⟩ := q1
  have r1 := r.on st1
  obtain ⟨v, e1, rs, fr⟩ := r1.sl i _ e
  obtain ⟨p, vs, e2, e3, e4, e5, e6⟩ := rs
  subst e2
  obtain ⟨y, hy, dy⟩ := DqAll.get' e4 ed
  have hl := DqAll.length e4
  refine ⟨_, e1, .inl ⟨rfl, _, SqL.of e3⟩, p, vs, y, rfl, rfl, e3, by rw [hl]; exact hy, ?_⟩
  have r2 := r1.put1 e trivial e1 e3 e5 e6 (s' := .own xs.dropLast) trivial ⟨p, vs.dropLast, rfl, upd_same, by rw [List.dropLast_eq_take, List.dropLast_eq_take, hl]; exact DqAll.take _ e4, e5, e6⟩
  exact lo Hb1 _ x y s (.d d) _ _ r2.st (rs1.heap es) dy q1 fun w Hb' H' s' st3 r3 f3 q3 => l.nx Hb' H' _ _ (st1.ex.trans st3.ex) (r2.set st3 r3 f3 j) q3
end
section
variable {X : Cx} {F : Fr} {js : List Nat} {tg iter kx vx e a : Expr} {te ta tk tv : TE} {fe fa fk fv : DTE} {wi : TI} {fi : DTI} {g : TG} {fg : DTG} {tt : TT} {ft : DTT} {x : Str} {px apos cpos pos : Pos}
theorem de_dc {ifs : List Expr} {scope : Scope} {own : List (Str × Nat)} (hN : X.N.Nodup) (hi : DI X F tg iter wi fi) (ok : BlkOk X.N X.env.scope scope own)
    (hg : ∀ (s : Shared) (H : Hp) (C : Addr) (cl : List (Str × Addr)) (fp : List Addr), DG (X.blk s H scope (compEnvC scope cl C X.env) fp) F (own.map (·.2)) tg g fg) (ht : ∀ (s : Shared) (H : Hp) (C : Addr) (cl : List (Str × Addr)) (fp : List Addr), DP (X.blk s H scope (compEnvC scope cl C X.env) fp) F ifs tt ft)
    (hk : ∀ (s : Shared) (H : Hp) (C : Addr) (cl : List (Str × Addr)) (fp : List Addr), DE (X.blk s H scope (compEnvC scope cl C X.env) fp) F kx tk fk)
    (hv : ∀ (s : Shared) (H : Hp) (C : Addr) (cl : List (Str × Addr)) (fp : List Addr), DE (X.blk s H scope (compEnvC scope cl C X.env) fp) F vx tv fv) (hc : X.calm = true := by rfl) (hs : ∀ x, foldedSetIterable iter X.env x = pure x := by intro _; rfl) :
    DE X F (.DictComp kx vx [⟨tg, iter, ifs, 0⟩] scope pos) (tDc wi g tt tk tv (own.map (·.2))) (dDc fi fg ft fk fv (own.map (·.2))) :=
  ⟨pe_dc hc hN hi.pe ok (fun s H C cl fp => (hg s H C cl fp).pe) (fun s H C cl fp => (ht s H C cl fp).pe) (fun s H C cl fp => (hk s H C cl fp).pe) (fun s H C cl fp => (hv s H C cl fp).pe) hs,
    sd_dc (hi.sd) ((hg {} (fun _ => none) 0 [] []).sd) ((ht {} (fun _ => none) 0 [] []).sd) ((hk {} (fun _ => none) 0 [] []).sd) ((hv {} (fun _ => none) 0 [] []).sd)⟩
theorem ds_setDc (i : Nat) {y : Str} {py : Pos} {spos : Pos} {ifs : List Expr} {scope : Scope} {own : List (Str × Nat)} (hN : X.N.Nodup) (hi : DI X F tg iter wi fi) (ok : BlkOk X.N X.env.scope scope own)
    (hg : ∀ (s : Shared) (H : Hp) (C : Addr) (cl : List (Str × Addr)) (fp : List Addr), DG (X.blk s H scope (compEnvC scope cl C X.env) fp) F (own.map (·.2)) tg g fg) (ht : ∀ (s : Shared) (H : Hp) (C : Addr) (cl : List (Str × Addr)) (fp : List Addr), DP (X.blk s H scope (compEnvC scope cl C X.env) fp) F ifs tt ft)
    (hk : ∀ (s : Shared) (H : Hp) (C : Addr) (cl : List (Str × Addr)) (fp : List Addr), DE (X.blk s H scope (compEnvC scope cl C X.env) fp) F kx tk fk)
    (hv : ∀ (s : Shared) (H : Hp) (C : Addr) (cl : List (Str × Addr)) (fp : List Addr), DE (X.blk s H scope (compEnvC scope cl C X.env) fp) F vx tv fv)
    (hsw : swapsWith (.DictComp kx vx [⟨tg, iter, ifs, 0⟩] scope pos) (some (.Name y py)) spos.line X.env = pure true) (hc : X.calm = true := by rfl) (hs : ∀ x, foldedSetIterable iter X.env x = pure x := by intro _; rfl)
    (hy : X.N[i]? = some y := by rfl) (hyl : X.env.scope.names.lookup y = some .local := by rfl) :
    DS X F (.Assign [.Name y py] (.DictComp kx vx [⟨tg, iter, ifs, 0⟩] scope pos) spos) (tAsg (tDc wi g tt tk tv (own.map (·.2))) (gName i)) (dSet (dDc fi fg ft fk fv (own.map (·.2))) i) :=
  ⟨ps_setDc hc hN hy hyl hsw hi.pe ok (fun s H C cl fp => (hg s H C cl fp).pe) (fun s H C cl fp => (ht s H C cl fp).pe) (fun s H C cl fp => (hk s H C cl fp).pe) (fun s H C cl fp => (hv s H C cl fp).pe) hs,
    sd_set i (sd_dc (hi.sd) ((hg {} (fun _ => none) 0 [] []).sd) ((ht {} (fun _ => none) 0 [] []).sd) ((hk {} (fun _ => none) 0 [] []).sd) ((hv {} (fun _ => none) 0 [] []).sd))⟩
theorem ds_upd (i : Nat) (he : DE X F e te fe) (hN : X.N[i]? = some x := by rfl) (hv : Vis X.env.scope x := by first | exact Or.inl rfl | exact Or.inr (Or.inl rfl) | exact Or.inr (Or.inr rfl)) (hd : (x == ("__debug__" : Str)) = false := by decide)
    (hcd : (x == ("__classdict__" : Str)) = false := by decide) (h : PE X (.Call (.Attribute (.Name x px) "update" apos) [e] [] cpos) (tBM X.K "dict" rDUpd (tVar i) (tCons te tNil))) (hs : swapsWith (.Call (.Attribute (.Name x px) "update" apos) [e] [] cpos) none pos.line X.env = pure false := by rfl) :
    DS X F (.Expr (.Call (.Attribute (.Name x px) "update" apos) [e] [] cpos) pos) (tDrop (tBM X.K "dict" rDUpd (tVar i) (tCons te tNil))) (dUpd i fe) := ⟨ps_expr h hs, sd_upd i (he.sd)⟩
theorem ds_ext (i : Nat) (he : DE X F e te fe) (hN : X.N[i]? = some x := by rfl) (hv : Vis X.env.scope x := by first | exact Or.inl rfl | exact Or.inr (Or.inl rfl) | exact Or.inr (Or.inr rfl)) (hd : (x == ("__debug__" : Str)) = false := by decide)
    (hcd : (x == ("__classdict__" : Str)) = false := by decide) (h : PE X (.Call (.Attribute (.Name x px) "extend" apos) [e] [] cpos) (tBM X.K "list" rExtend (tVar i) (tCons te tNil))) (hs : swapsWith (.Call (.Attribute (.Name x px) "extend" apos) [e] [] cpos) none pos.line X.env = pure false := by rfl) :
    DS X F (.Expr (.Call (.Attribute (.Name x px) "extend" apos) [e] [] cpos) pos) (tDrop (tBM X.K "list" rExtend (tVar i) (tCons te tNil))) (dExt i fe) := ⟨ps_expr h hs, sd_ext i (he.sd)⟩
theorem ds_ixPop {r : R2} {f : F2} {y : Str} {pos' bpos : Pos} (i j : Nat) (hr : IxR X r) (lo : ∀ hid, LO X.K hid r f) (hN : X.N.Nodup) (ha : DE X F a ta fa) (h : PE X (.Call (.Attribute (.Name x px) "pop" apos) [] [] cpos) (tBM0 X.K "list" rPop (tVar i)))
    (hi : X.N[j]? = some y := by rfl) (hx : Loc X.env.scope y := by first | exact Or.inl rfl | exact Or.inr rfl) (hs : swapsWith (.Subscript a (.Call (.Attribute (.Name x px) "pop" apos) [] [] cpos) bpos) (some (.Name y pos')) pos.line X.env = pure false := by rfl)
    (hf : X.fn y = true ∨ X.env.scope.names.lookup y = some .local := by first | exact .inl rfl | exact .inr rfl) (hp : PlainIx (.Call (.Attribute (.Name x px) "pop" apos) [] [] cpos) := by exact fun _ _ => rfl) :
    DS X F (.Assign [.Name y pos'] (.Subscript a (.Call (.Attribute (.Name x px) "pop" apos) [] [] cpos) bpos) pos) (tAsg (tOp r ta (tBM0 X.K "list" rPop (tVar i))) (gName j)) (dIxPop f i j fa) :=
  ⟨ps_set hN hi hx (pe_ix hr ha.pe h hp) hs hf, sd_ixPop (lo F.hid) i j ha.sd⟩
theorem dt_truth (h : DE X F e te fe) (he : ∀ whole, isTrue e X.env whole = (do let v ← whole; standAt e.pos; holding [v] (truthy v)) := by intro _; rfl) : DT X F e (fun σ H Q => te σ H fun x H' => ∃ k, TruV X.K x H' k ∧ Q k H') (dTruth fe) := ⟨pt_truth h.pe he, sd_truth h.sd⟩
theorem k_sortDI (hc : X.calm = true) : CallR X (.builtin "sorted") rSortDI := call_sortedDI hc
end
end Pu

end

section
set_option maxHeartbeats 1000000
/-! PuQ: max(xs, default=d); written tuples of texts; list(range(..)). -/
namespace Pu
open PySem PySem.W L2 PySem.Spec PyProof.Rows
/-! ### max(xs, default=d), whole numbers -/
def rMaxDef (K : PySem.W.Frag) : List V → List V → Hp → VK → Prop := fun vs zs H Q => ∃ (a : Addr) (ns : List Int) (z : V), vs = [V.ref a] ∧ zs = [z] ∧ SqL K H a (ns.map V.int) ∧ (ns = [] → Q z H) ∧ (ns ≠ [] → ∀ m, m ∈ ns → (∀ y, y ∈ ns → y ≤ m) → Q (.int m) H)
theorem reads_ints {h : Heap} : ∀ {vs : List Value} {ns : List Int}, IntsAre vs ns → ReadsAll h vs (ns.map PyData.int) []
  | _, _, .nil => .nil
  | _, _, .cons n t r => .cons (as := []) (bs := []) (.int n t) (reads_ints r)
theorem depth_ints : ∀ ns : List Int, PyData.depthAll (ns.map PyData.int) = 0
  | [] => rfl
  | n :: ns => by
    show max (PyData.int n).depth (PyData.depthAll (ns.map PyData.int)) = 0
    rw [depth_ints ns]; rfl
theorem fold_max : ∀ (ns : List Int) (n : Int), ns.foldl max n ∈ n :: ns ∧ n ≤ ns.foldl max n ∧ ∀ y ∈ ns, y ≤ ns.foldl max n
  | [], n => ⟨List.mem_cons_self, Int.le_refl _, fun _ h => by cases h⟩
  | x :: ns, n => by
    obtain ⟨h1, h2, h3⟩ := fold_max ns (max n x)
    have e : (x :: ns).foldl max n = ns.foldl max (max n x) := rfl
    rw [e]
    refine ⟨?_, by omega, fun y hy => ?_⟩
    · rcases List.mem_cons.mp h1 with h | h
      · rw [h]
        by_cases c : n ≤ x
        · rw [Int.max_eq_right c]; exact List.mem_cons_of_mem _ List.mem_cons_self
        · rw [Int.max_eq_left (by omega)]; exact List.mem_cons_self
      · exact List.mem_cons_of_mem _ (List.mem_cons_of_mem _ h)
    · rcases List.mem_cons.mp hy with rfl | hy
      · omega
      · exact h3 y hy
theorem cr_maxDef {X : Cx} (hc : X.calm = true) (hu : X.A.units + 64 < cLine) : CallRK X (.builtin "max") [Str.ofString "default"] (rMaxDef X.K) := by
  intro pins s σ H vs zs us ws Q I r rz h
  obtain ⟨a, ns, z, rfl, rfl, hs, q0, q1⟩ := h
  obtain rfl := Vals.ref1 r
  obtain ⟨w1, rfl, e1⟩ := vals1 rz
  obtain ⟨its, rv, hl, hz⟩ := I.list hs
  have hi := rv.ints
  have rd := reads_ints (h := s.heap) hi
  have al : AlikeAll (ns.map PyData.int) := ⟨fun x hx y hy => by
    obtain ⟨i, _, rfl⟩ := List.mem_map.mp hx
    obtain ⟨j, _, rfl⟩ := List.mem_map.mp hy
    simp [alike], fun x hx => by
    obtain ⟨i, _, rfl⟩ := List.mem_map.mp hx
    exact fun e => by cases e⟩
  refine max_list_default (I.ok.hd hc) hl.isList (by rw [List.toList_toArray]; exact rd) al (by rw [depth_ints]; omega) (fun e h' tk hk => ?_) fun y ys i v h' tk bs e hv rdv hk => ?_
  · have e : ns = [] := List.map_eq_nil_iff.mp e
    exact ⟨z, H, I.kept hk, e1, q0 e⟩
  · cases ns with
    | nil => cases e
    | cons n ns =>
      rw [List.map_cons] at e
      injection e with e2 e3
      subst e2; subst e3
      rw [maxD_ints] at rdv
      obtain ⟨m1, m2, m3⟩ := fold_max ns n
      cases rdv with
      | int i t =>
        refine ⟨.int _, H, I.kept hk, ⟨_, rfl⟩, q1 (by simp) _ m1 fun y hy => ?_⟩
        rcases List.mem_cons.mp hy with rfl | hy
        · exact m2
        · exact m3 y hy
def dMaxDef (fa fz : DTE) : DTE := fun env Q => fa env fun s => ∃ ds ns, s.fz = .d (.list ds) ∧ intsD ds = some ns ∧ fz env fun u => ∃ z : Int, u.fz = .d (.int z) ∧ (ns = [] → Q (.d (.int z))) ∧ (ns ≠ [] → ∀ m, m ∈ ns → (∀ y, y ∈ ns → y ≤ m) → Q (.d (.int m)))
theorem sd_maxDef {K : PySem.W.Frag} {F : Fr} {ta tz : TE} {fa fz : DTE} (ha : SdE K F ta fa) (hz : SdE K F tz fz) : SdE K F (tCKw (rMaxDef K) (tCons ta tNil) (tCons tz tNil)) (dMaxDef fa fz) := by
  intro Hb H σ env Q k r q c
  refine ha.go (Q := fun s => ∃ ds ns, s = .d (.list ds) ∧ intsD ds = some ns ∧ fz env fun u => ∃ z : Int, u.fz = .d (.int z) ∧ (ns = [] → Q (.d (.int z))) ∧ (ns ≠ [] → ∀ m, m ∈ ns → (∀ y, y ∈ ns → y ≤ m) → Q (.d (.int m)))) r q fun v Hb1 H1 s st1 rs1 _ q1 => ?_
  obtain ⟨ds, ns, es, e, q1⟩ := q1
  subst es
  refine hz.go (Q := fun u => ∃ z : Int, u = .d (.int z) ∧ (ns = [] → Q (.d (.int z))) ∧ (ns ≠ [] → ∀ m, m ∈ ns → (∀ y, y ∈ ns → y ≤ m) → Q (.d (.int m)))) (r.on st1) q1 fun w Hb2 H2 t st2 rs2 _ q2 => ?_
  obtain ⟨z, et, q0, q3⟩ := q2
  subst et
  cases (show Dq K Hb1 v (.list ds) from rs1) with
  | lst h1 h2 =>
    have ev := ints_rep h2 e
    subst ev
    have ez := int_of rs2
    subst ez
    exact ⟨_, ns, _, rfl, rfl, SqL.of (st2.st.ex _ _ (st2.ex _ _ h1)), fun e => c _ Hb2 H2 (.d (.int z)) (st1.trans st2) (.int _) trivial (q0 e), fun e m h1 h2 => c _ Hb2 H2 (.d (.int m)) (st1.trans st2) (.int _) trivial (q3 e m h1 h2)⟩
section
variable {X : Cx} {F : Fr} {e z : Expr} {te tz : TE} {fe fz : DTE} {p pos kpos : Pos} {x : Str}
theorem de_maxDef (hu : X.A.units + 64 < cLine) (hm : X.mg "max" = none) (he : DE X F e te fe) (hz : DE X F z tz fz) (hc : X.calm = true := by rfl) (hg : Gl X "max" := by rfl)
    (hs : starEach [e] X.env = (false, eval e X.env) :: starEach [] X.env := by rfl)
    (h1 : backTo pos (starEach [e] X.env) = (false, eval e X.env) :: backTo pos (starEach [] X.env) := by rfl) (hpl : (backTo pos (starEach [e] X.env)).any (·.1) = false := by rfl)
    (hall : (backToKw pos (keywordEach [⟨some "default", z, kpos⟩] X.env)).all (·.1.isSome) = true := by rfl) (hnone : (backToKw pos (keywordEach [⟨some "default", z, kpos⟩] X.env)).any (·.1.isNone) = false := by rfl) (hks : (backToKw pos (keywordEach [⟨some "default", z, kpos⟩] X.env)).filterMap (·.1) = [Str.ofString "default"] := by rfl) :
    DE X F (.Call (.Name "max" p) [e] [⟨some "default", z, kpos⟩] pos) (tCKw (rMaxDef X.K) (tCons te tNil) (tCons tz tNil)) (dMaxDef fe fz) :=
  ⟨pe_callBK (cr_maxDef hc hu) hg hm (by decide +kernel) (pa_cons he.pe pa_nil hs) (pk_cons hz.pe pk_nil) (by decide) (by decide) h1 hpl hall hnone hks, sd_maxDef he.sd hz.sd⟩
end
theorem k_maxDef {X : Cx} {F : Fr} {K : PySem.W.Frag} {e z : Expr} {te tz : TE} {fe fz : DTE} {p pos kpos : Pos} (ek : X.K = K) (hu : X.A.units + 64 < cLine) (hm : X.mg "max" = none) (he : DE X F e te fe) (hz : DE X F z tz fz) (hc : X.calm = true := by rfl) (hg : Gl X "max" := by rfl) (hs : starEach [e] X.env = (false, eval e X.env) :: starEach [] X.env := by rfl)
    (h1 : backTo pos (starEach [e] X.env) = (false, eval e X.env) :: backTo pos (starEach [] X.env) := by rfl) (hpl : (backTo pos (starEach [e] X.env)).any (·.1) = false := by rfl)
    (hall : (backToKw pos (keywordEach [⟨some "default", z, kpos⟩] X.env)).all (·.1.isSome) = true := by rfl) (hnone : (backToKw pos (keywordEach [⟨some "default", z, kpos⟩] X.env)).any (·.1.isNone) = false := by rfl) (hks : (backToKw pos (keywordEach [⟨some "default", z, kpos⟩] X.env)).filterMap (·.1) = [Str.ofString "default"] := by rfl) :
    DE X F (.Call (.Name "max" p) [e] [⟨some "default", z, kpos⟩] pos) (tCKw (rMaxDef K) (tCons te tNil) (tCons tz tNil)) (dMaxDef fe fz) := by
  subst ek
  exact de_maxDef hu hm he hz hc hg hs h1 hpl hall hnone hks
/-! ### a written tuple of texts -/
def KTup (K : PySem.W.Frag) (a : Addr) (ws : List Str) : Prop := ∃ (o : Obj) (its : Array Value) (n : Nat), K.lookup a = some o ∧ o.cls = .type "tuple" ∧ o.data = .seq its n ∧ its.size ≤ sizeLine ∧ Vals (ws.map V.str) its.toList
theorem vals_zip : ∀ (ws : List Str) (ts : List Tok), ts.length = ws.length → Vals (ws.map V.str) (List.zipWith Value.str ws ts)
  | [], [], _ => .nil
  | [], _ :: _, h => by cases h
  | _ :: _, [], h => by cases h
  | w :: ws, t :: ts, h => .cons ⟨t, rfl⟩ (vals_zip ws ts (by simpa using h))
theorem ktup_of {K : PySem.W.Frag} {a : Addr} {od : Option Addr} {its : Array Value} {n : Nat} {sl : Array (Option Value)} {ws : List Str} (l : K.lookup a = some ⟨.type "tuple", od, .seq its n, sl⟩) (hw : ws.length ≤ 1000)
    (h : ∃ ts : List Tok, ts.length = ws.length ∧ its.toList = List.zipWith Value.str ws ts) : KTup K a ws := by
  obtain ⟨ts, h1, h2⟩ := h
  refine ⟨_, its, n, l, rfl, rfl, ?_, by rw [h2]; exact vals_zip ws ts h1⟩
  have : its.size = its.toList.length := by simp
  rw [this, h2, List.length_zipWith, h1, Nat.min_self, sizeLine_eq]
  omega
theorem de_globT {X : Cx} {F : Fr} {x : Str} {a : Addr} {ws : List Str} {pos : Pos} {K : PySem.W.Frag} (e : X.K = K) (hm : X.mg x = some (.ref a)) (ht : KTup K a ws) (hg : Gl X x := by rfl) (hd : (x == ("__debug__" : Str)) = false := by decide) : DE X F (.Name x pos) (tC (.ref a)) (dC (.tuple (ws.map PyData.str))) := by
  subst e
  exact ⟨pe_glob hg hm rfl hd, sd_c fun Hb => .tup (.inr ht) (strs_all ws)⟩
/-! ### list(range(..)) -/
theorem rg_all {K : PySem.W.Frag} {Hb : Hp} (a b : Int) : DqAll K Hb (rgV a b) (rngD a (b - a).toNat) := by
  unfold rgV rngD
  generalize List.range (b - a).toNat = l
  induction l with
  | nil => exact .nil
  | cons x l ih => exact .cons (.int _) ih
def dListRg1 (fa : DTE) : DTE := fun env Q => fa env fun s => ∃ n : Int, s.fz = .d (.int n) ∧ (0 ≤ n ∧ n ≤ 16777216) ∧ Q (.own (rngD 0 n.toNat))
def dListRg2 (fa fb : DTE) : DTE := fun env Q => fa env fun s => fb env fun u => ∃ i j : Int, s.fz = .d (.int i) ∧ u.fz = .d (.int j) ∧ RgOk i j ∧ Q (.own (rngD i (j - i).toNat))
section
variable {K : PySem.W.Frag} {F : Fr} {ta tb : TE} {fa fb : DTE}
theorem sd_listRg1 (ha : SdE K F ta fa) : SdE K F (tLstRg (tRg1 ta)) (dListRg1 fa) := by
  intro Hb H σ env Q k r q c
  refine ha.go (Q := fun s => ∃ n : Int, s = .d (.int n) ∧ (0 ≤ n ∧ n ≤ 16777216) ∧ Q (.own (rngD 0 n.toNat))) r q fun v Hb1 H1 s st1 rs1 _ q1 => ?_
  obtain ⟨n, es, hn, q1⟩ := q1
  subst es
  have ev := int_of rs1
  subst ev
  refine ⟨n, rfl, RgOk.of_le (Int.le_refl _) hn.2 (by omega) hn.1, fun p hp => ?_⟩
  obtain ⟨s2, r2, f2⟩ := own_new (K := K) st1.st hp (rg_all (K := K) (Hb := Hb1) 0 n)
  exact c _ Hb1 _ (.own _) (st1.trans s2) r2 (FrSl.back st1 f2) (by rw [Int.sub_zero]; exact q1)
theorem sd_listRg2 (ha : SdE K F ta fa) (hb : SdE K F tb fb) : SdE K F (tLstRg (tRg2 ta tb)) (dListRg2 fa fb) := by
  intro Hb H σ env Q k r q c
  refine ha.go (Q := fun s => fb env fun u => ∃ i j : Int, s = .d (.int i) ∧ u.fz = .d (.int j) ∧ RgOk i j ∧ Q (.own (rngD i (j - i).toNat))) r q fun v Hb1 H1 s st1 rs1 _ q1 => ?_
  refine hb.go (Q := fun u => ∃ i j : Int, s = .d (.int i) ∧ u = .d (.int j) ∧ RgOk i j ∧ Q (.own (rngD i (j - i).toNat))) (r.on st1) q1 fun w Hb2 H2 u st2 rs2 _ q2 => ?_
  obtain ⟨i, j, es, eu, hn, q2⟩ := q2
  subst es
  subst eu
  have ev := int_of rs1
  subst ev
  have ew := int_of rs2
  subst ew
  refine ⟨i, j, rfl, rfl, hn, fun p hp => ?_⟩
  obtain ⟨s2, r2, f2⟩ := own_new (K := K) st2.st hp (rg_all (K := K) (Hb := Hb2) i j)
  exact c _ Hb2 _ (.own _) ((st1.trans st2).trans s2) r2 (FrSl.back (st1.trans st2) f2) q2
end
section
variable {X : Cx} {F : Fr} {a b : Expr} {ta tb : TE} {fa fb : DTE} {p p2 pos pos2 : Pos}
theorem de_listRg1 (hm : X.mg "list" = none) (hr : X.mg "range" = none) (ha : DE X F a ta fa) (hc : X.calm = true := by rfl) (hg : Gl X "list" := by rfl) (hg2 : Gl X "range" := by rfl) (na : starEach [a] X.env = (false, eval a X.env) :: starEach [] X.env := by rfl)
    (nb : starEach [.Call (.Name "range" p2) [a] [] pos2] X.env = (false, eval (.Call (.Name "range" p2) [a] [] pos2) X.env) :: starEach [] X.env := by rfl) :
    DE X F (.Call (.Name "list" p) [.Call (.Name "range" p2) [a] [] pos2] [] pos) (tLstRg (tRg1 ta)) (dListRg1 fa) := ⟨pe_listRg hc hg hm (prg_1 hg2 hr ha.pe na) nb, sd_listRg1 ha.sd⟩
theorem de_listRg2 (hm : X.mg "list" = none) (hr : X.mg "range" = none) (ha : DE X F a ta fa) (hb : DE X F b tb fb) (hc : X.calm = true := by rfl) (hg : Gl X "list" := by rfl) (hg2 : Gl X "range" := by rfl) (na : starEach [a, b] X.env = (false, eval a X.env) :: starEach [b] X.env := by rfl)
    (nb : starEach [b] X.env = (false, eval b X.env) :: starEach [] X.env := by rfl) (hp : (backTo pos2 (starEach [b] X.env)).any (·.1) = false := by rfl)
    (nc : starEach [.Call (.Name "range" p2) [a, b] [] pos2] X.env = (false, eval (.Call (.Name "range" p2) [a, b] [] pos2) X.env) :: starEach [] X.env := by rfl) :
    DE X F (.Call (.Name "list" p) [.Call (.Name "range" p2) [a, b] [] pos2] [] pos) (tLstRg (tRg2 ta tb)) (dListRg2 fa fb) := ⟨pe_listRg hc hg hm (prg_2 hg2 hr ha.pe hb.pe na nb hp) nc, sd_listRg2 ha.sd hb.sd⟩
end
end Pu

end

section
set_option maxHeartbeats 1000000
/-! PuA: list(d.values()); any, all, sum; xs.index(x); written dicts: in, d[k]; dicts made of computed keys. -/
namespace L2
open PySem PySem.Spec PyProof.Rows
def tListVals (te : TE) : TE := fun σ H Q => te σ H fun x H1 => ∃ (d : Addr) (kvs : List (Key × V)), x = .ref d ∧ H1 d = some (.dK kvs) ∧ ∀ p, H1 p = none → Q (.ref p) (upd H1 p (.lst (kvs.map (·.2))))
section
variable {X : Cx} {e : Expr} {te : TE} {p apos cpos pos : Pos}
theorem pe_listVals (hc : X.calm = true) (he : PE X e te) (hg : Gl X "list") (hm : X.mg "list" = none) (hv : bootBuiltins "list" = some (.type "list")) (hbase : attributeBase e "values" X.env (eval e X.env) = eval e X.env := by rfl) (hline : (apos.endLine == cpos.line) = true := by rfl)
    (hs : starEach [.Call (.Attribute e "values" apos) [] [] cpos] X.env = (false, eval (.Call (.Attribute e "values" apos) [] [] cpos) X.env) :: starEach [] X.env := by rfl) :
    PE X (.Call (.Name "list" p) [.Call (.Attribute e "values" apos) [] [] cpos] [] pos) (tListVals te) := by
  refine ⟨fun pins s σ H Q I hq => ?_⟩
  refine wpAny_Call_Name_kw (ld_blt I hg hm hv ?_)
  refine PyProof.Rows.callWith_type1 ?_ hs rfl
  rw [hs]
  show wpAny _ _ (spliced ((false, eval (.Call (.Attribute e "values" apos) [] [] cpos) X.env) :: backTo pos (starEach [] X.env))) _ _ s
  refine Calls.spliced_cons ?_
  refine wpAny_Call_method (T := "dict") (id := "dict.values") hbase rfl hline F.plainAttrs_dict F.slot_dict_values F.type_dict_values (thn (he.run pins s σ H _ I hq) fun u s1 ⟨x, H1, I1, rx, d, kvs, ex, hd, q⟩ => ?_)
  subst ex
  obtain rfl : u = Value.ref d := rx
  obtain ⟨hz, hs0, vs, kv, hdo⟩ := I1.hok d _ hd
  obtain ⟨ep, hat⟩ := hdo.dictAt
  have lk : kvs.length = vs.length := Paired.length kv
  have I2 : Inv X pins σ H1 { s1 with heap := s1.heap.push { cls := .type "dict_values", data := .fields #[.ref d] } } := I1.kept (t' := s1.toks) fun b ob q => Heap.get?_push_of_some _ q
  refine ⟨hdo.typeIs, hdo.mapOf.noDict, ?_⟩
  show wpAny _ _ (callWith cpos (.builtin "dict.values") [.ref d] [] []) _ X.xe s1
  refine method_meetsIn F.slot_dict_values F.entry_dict_values rfl (PySem.evalArgs_none ⟨rfl, hdo.typeIs, F.args_dict_values_1 _, _, meets_dict_values (mixKind X.prog X.w) d hs0, ⟨vs, hdo⟩, ?_⟩)
  refine Calls.spliced_nil ?_
  refine PySem.W.kdl_call (PySem.W.kdl_values (knd := mixKind X.prog X.w) (kvs := vs) (ep := ep)) (I1.ok.hd hc) ⟨⟨_, Heap.get?_push_size _ rfl, rfl, rfl⟩, hat.push _⟩ (by rw [← lk]; exact hz) fun h' tk acc c hk hS hacc => ?_
  refine ⟨.ref _, upd H1 _ (.lst (kvs.map (·.2))), I2.laid hk (Nat.le_refl _) (show ObjOk X.prog X.w _ _ _ (.lst (kvs.map (·.2))) from ⟨?_, acc.toList, c, ?_, ?_⟩), rfl, q _ (I2.hok.fresh (Nat.le_refl _))⟩
  · rw [List.length_map]; exact hz
  · have el : acc.toList.length = acc.size := by simp
    refine vals_of_at (by rw [List.length_map, el, hacc.1, lk]) fun j x w h1 h2 => ?_
    obtain ⟨k, hky⟩ := hacc.2 j w (by rw [← Array.getElem?_toList]; exact h2)
    rw [List.getElem?_map] at h1
    obtain ⟨kvj, e1, e2⟩ := Option.map_eq_some_iff.mp h1
    obtain ⟨y, g1, g2⟩ := LiI.paired_get kv e1
    rw [hky] at g1
    cases g1
    rw [← e2]
    exact g2.2
  · rw [Array.toArray_toList]; exact hS
end
end L2
namespace Pu
open PySem L2 PyProof.Rows
/-! ### list(d.values()) -/
def dListVals (f : DTE) : DTE := fun env Q => f env fun s => ∃ ds, s.fz = .d (.dict ds) ∧ Q (.own (ds.map Prod.snd))
section
variable {K : PySem.W.Frag} {F : Fr} {hid : Hid}
theorem sd_listVals {te : TE} {fe : DTE} (h : SdE K F te fe) : SdE K F (tListVals te) (dListVals fe) := by
  intro Hb H σ env Q k r q c
  refine h.go (Q := fun s => ∃ ds, s = .d (.dict ds) ∧ Q (.own (ds.map Prod.snd))) r q fun x Hb1 H1 s st1 rs1 _ q1 => ?_
  obtain ⟨ds, es, q1⟩ := q1
  subst es
  cases (show Dq K Hb1 x (.dict ds) from rs1) with
  | dic h1 h2 h3 =>
    refine ⟨_, _, rfl, st1.st.ex _ _ h1, fun p hp => ?_⟩
    obtain ⟨s2, r2, f2⟩ := own_new (K := K) st1.st hp h3
    exact c _ Hb1 _ (.own _) (st1.trans s2) r2 (FrSl.back st1 f2) q1
/-! ### any, all, sum -/
theorem bools_rep {Hb : Hp} : ∀ {bs : List Bool} {vs : List V}, DqAll K Hb vs (bs.map PyData.bool) → vs = bs.map V.bl
  | [], _, .nil => rfl
  | b :: bs, _, .cons h t => by
    cases h
    rw [bools_rep t]; rfl
def fAnyB : FN := fun ss Q => match ss with
  | [.d (.list ds)] => ∃ bs : List Bool, ds = bs.map PyData.bool ∧ Q (.d (.bool (bs.any id)))
  | _ => False
def fAllB : FN := fun ss Q => match ss with
  | [.d (.list ds)] => ∃ bs : List Bool, ds = bs.map PyData.bool ∧ Q (.d (.bool (bs.all id)))
  | _ => False
def fSumI : FN := fun ss Q => match ss with
  | [.d (.list ds)] => ∃ ns : List Int, intsD ds = some ns ∧ Q (.d (.int ns.sum))
  | _ => False
theorem lc_anyB : LC K hid (rAny K) fAnyB := by
  intro Hb H xs ss Q k st r q c
  unfold fAnyB at q
  split at q
  · rename_i ds
    obtain ⟨bs, e, q⟩ := q
    subst e
    obtain ⟨v, rfl, h⟩ := rep1 r
    cases (show Dq K Hb v (.list _) from h) with
    | lst h1 h2 =>
      have ev := bools_rep h2
      subst ev
      exact ⟨_, bs, rfl, SqL.of (st.ex _ _ h1), c _ Hb H (.d (.bool _)) (Step.refl st) (.bl _) trivial q⟩
  · exact q.elim
theorem lc_allB : LC K hid (rAll K) fAllB := by
  intro Hb H xs ss Q k st r q c
  unfold fAllB at q
  split at q
  · rename_i ds
    obtain ⟨bs, e, q⟩ := q
    subst e
    obtain ⟨v, rfl, h⟩ := rep1 r
    cases (show Dq K Hb v (.list _) from h) with
    | lst h1 h2 =>
      have ev := bools_rep h2
      subst ev
      exact ⟨_, bs, rfl, SqL.of (st.ex _ _ h1), c _ Hb H (.d (.bool _)) (Step.refl st) (.bl _) trivial q⟩
  · exact q.elim
theorem lc_sumI : LC K hid (rSum K) fSumI := by
  intro Hb H xs ss Q k st r q c
  unfold fSumI at q
  split at q
  · rename_i ds
    obtain ⟨ns, e, q⟩ := q
    obtain ⟨v, rfl, h⟩ := rep1 r
    cases (show Dq K Hb v (.list ds) from h) with
    | lst h1 h2 =>
      have ev := ints_rep h2 e
      subst ev
      exact ⟨_, ns, rfl, SqL.of (st.ex _ _ h1), c _ Hb H (.d (.int _)) (Step.refl st) (.int _) trivial q⟩
  · exact q.elim
/-! ### written dicts: k in d, d[k] -/
def fInKT (a : Addr) (ws : List Str) (tb : Str → Option PyData) (neg : Bool) : F2 := fun s u Q => ∃ z, s = .d (.str z) ∧ u = .v (.ref a) ∧ z ∈ ws ∧ Q (.d (.bool (neg != (tb z).isSome)))
theorem lo_inKT {a : Addr} {w : World} {ws : List Str} {tb : Str → Option PyData} (T : KTab K w a ws tb) : LO K hid (fun x y H Q => ∃ (z : Str) (r : Option Value), x = .str z ∧ y = .ref a ∧ PySem.W.nsIn K a z = some r ∧ Q (.bl r.isSome) H) (fInKT a ws tb false) := by
  intro Hb H x y s u Q k st rx ry q c
  obtain ⟨z, rfl, rfl, hz, q⟩ := q
  have T2 := T.at_ z hz
  cases g : tb z with
  | none =>
    rw [g] at T2 q
    exact ⟨z, none, str_of rx, ry, T2, c _ Hb H (.d (.bool _)) (Step.refl st) (.bl _) trivial q⟩
  | some d =>
    rw [g] at T2 q
    obtain ⟨u2, v, e1, e2, e3⟩ := T2
    exact ⟨z, some u2, str_of rx, ry, e1, c _ Hb H (.d (.bool _)) (Step.refl st) (.bl _) trivial q⟩
theorem lo_notInKT {a : Addr} {w : World} {ws : List Str} {tb : Str → Option PyData} (T : KTab K w a ws tb) : LO K hid (fun x y H Q => ∃ (z : Str) (r : Option Value), x = .str z ∧ y = .ref a ∧ PySem.W.nsIn K a z = some r ∧ Q (.bl (!r.isSome)) H) (fInKT a ws tb true) := by
  intro Hb H x y s u Q k st rx ry q c
  obtain ⟨z, rfl, rfl, hz, q⟩ := q
  have T2 := T.at_ z hz
  cases g : tb z with
  | none =>
    rw [g] at T2 q
    exact ⟨z, none, str_of rx, ry, T2, c _ Hb H (.d (.bool _)) (Step.refl st) (.bl _) trivial q⟩
  | some d =>
    rw [g] at T2 q
    obtain ⟨u2, v, e1, e2, e3⟩ := T2
    exact ⟨z, some u2, str_of rx, ry, e1, c _ Hb H (.d (.bool _)) (Step.refl st) (.bl _) trivial q⟩
def fIxKT (a : Addr) (ws : List Str) (tb : Str → Option PyData) : F2 := fun s u Q => ∃ z d, s = .v (.ref a) ∧ u = .d (.str z) ∧ z ∈ ws ∧ tb z = some d ∧ Q (.d d)
theorem lo_ixKT {a : Addr} {w : World} {ws : List Str} {tb : Str → Option PyData} (T : KTab K w a ws tb) : LO K hid (rIxD K w) (fIxKT a ws tb) := by
  intro Hb H x y s u Q k st rx ry q c
  obtain ⟨z, d, rfl, rfl, hz, g, q⟩ := q
  have T2 := T.at_ z hz
  rw [g] at T2
  obtain ⟨u2, v, e1, e2, e3⟩ := T2
  obtain ⟨es, n, D⟩ := T.ex
  have ex : x = .ref a := rx
  subst ex
  exact ⟨a, z, v, rfl, str_of ry, ⟨es, n, u2, D.at_, D.lit, e1, e2⟩, c v Hb H (.d d) (Step.refl st) (e3 Hb) trivial q⟩
end
section
variable {X : Cx} {F : Fr} {K : PySem.W.Frag} {w : World} {a : Addr} {ws : List Str} {tb : Str → Option PyData} {e b : Expr} {te tb' : TE} {fe fb : DTE} {x : Str} {p apos cpos pos px : Pos}
theorem de_globK (hm : X.mg x = some (.ref a)) (hg : Gl X x := by rfl) (hd : (x == ("__debug__" : Str)) = false := by decide) : DE X F (.Name x p) (tC (.ref a)) (dV (.ref a)) := ⟨pe_glob hg hm rfl hd, sd_v⟩
theorem k_inKT (ek : X.K = K) (ew : X.w = w) (T : KTab K w a ws tb) : OpR X (compareOp .In) (fun x y H Q => ∃ (z : Str) (r : Option Value), x = .str z ∧ y = .ref a ∧ PySem.W.nsIn K a z = some r ∧ Q (.bl r.isSome) H) := by
  subst ek ew
  obtain ⟨es, n, D⟩ := T.ex
  exact op_in_kd D
theorem k_notInKT (ek : X.K = K) (ew : X.w = w) (T : KTab K w a ws tb) : OpR X (compareOp .NotIn) (fun x y H Q => ∃ (z : Str) (r : Option Value), x = .str z ∧ y = .ref a ∧ PySem.W.nsIn K a z = some r ∧ Q (.bl (!r.isSome)) H) := by
  subst ek ew
  obtain ⟨es, n, D⟩ := T.ex
  exact op_notIn_kd D
theorem k_ixKT (ek : X.K = K) (ew : X.w = w) : IxR X (rIxD K w) := by
  subst ek ew
  exact ix_kdict
theorem de_listVals (hm : X.mg "list" = none) (he : DE X F e te fe) (hc : X.calm = true := by rfl) (hg : Gl X "list" := by rfl) (hbase : attributeBase e "values" X.env (eval e X.env) = eval e X.env := by rfl) (hline : (apos.endLine == cpos.line) = true := by rfl)
    (hs : starEach [.Call (.Attribute e "values" apos) [] [] cpos] X.env = (false, eval (.Call (.Attribute e "values" apos) [] [] cpos) X.env) :: starEach [] X.env := by rfl) :
    DE X F (.Call (.Name "list" p) [.Call (.Attribute e "values" apos) [] [] cpos] [] pos) (tListVals te) (dListVals fe) := ⟨pe_listVals hc he.pe hg hm (by decide +kernel) hbase hline hs, sd_listVals he.sd⟩
theorem k_index (ek : X.K = K) (he : DE X F e te fe) (hb : DE X F b tb' fb) (h : PE X (.Call (.Attribute e "index" apos) [b] [] cpos) (tBM X.K "list" (rIndex X.K) te (tCons tb' tNil))) : DE X F (.Call (.Attribute e "index" apos) [b] [] cpos) (tBM K "list" (rIndex K) te (tCons tb' tNil)) (dIndex fe fb) := by
  subst ek
  exact ⟨h, sd_index he.sd hb.sd⟩
end
/-! ### {k: v, ..}, the keys computed -/
abbrev DTP := EV → (List (Key × PyData) → Prop) → Prop
structure DPk (X : Cx) (F : Fr) (pos : Pos) (keys : List (Option Expr)) (vals : List Expr) (trs : List (TE × TE)) (f : DTP) : Prop where
  pe : PPs X pos keys vals trs
  sd : ∀ (Hb H : Hp) (σ : L2.St) (env : EV) (Q : List (Key × PyData) → Prop) (k : List (V × V) → Hp → Prop), Rep X.K F Hb H σ env → f env Q →
    (∀ (kvs : List (Key × V)) Hb' H' (ps : List (Key × PyData)), Step F.hid Hb H Hb' H' → DRel X.K Hb' kvs (ps.map fun p => (keyD p.1, p.2)) → kvs.length = keys.length → Q ps → k (kvs.map fun kv => (kV kv.1, kv.2)) H') → tPairs trs σ H k
  all_ : keys.all (·.isSome) = true
  eq : keys.length = vals.length
  low : keys.length ≤ 15
def dpNil : DTP := fun _ Q => Q []
def dpCons (fk fe : DTE) (f : DTP) : DTP := fun env Q => fk env fun s => ∃ k, s.fz = .d (keyD k) ∧ fe env fun u => ∃ d, u.fz = .d d ∧ f env fun ps => Q ((k, d) :: ps)
theorem dpk_nil {X : Cx} {F : Fr} {pos : Pos} : DPk X F pos [] [] [] dpNil := ⟨pps_nil, fun Hb H σ env Q k r q c => c [] Hb H [] (Step.refl r.st) ⟨rfl, .nil⟩ rfl q, rfl, rfl, by decide⟩
theorem dpk_cons {X : Cx} {F : Fr} {pos : Pos} {ek e : Expr} {keys : List (Option Expr)} {vals : List Expr} {trs : List (TE × TE)} {f : DTP} {tk te : TE} {fk fe : DTE} (hk : DE X F ek tk fk) (h : DE X F e te fe) (r : DPk X F pos keys vals trs f) (low : (keys.length + 1) ≤ 15 := by decide) :
    DPk X F pos (some ek :: keys) (e :: vals) ((tk, te) :: trs) (dpCons fk fe f) := by
  refine ⟨pps_cons hk.pe h.pe r.pe, fun Hb H σ env Q c rp q cc => ?_, by rw [List.all_cons, r.all_]; rfl, by rw [List.length_cons, List.length_cons, r.eq], low⟩
  refine hk.sd.go (Q := fun s => ∃ k, s = .d (keyD k) ∧ fe env fun u => ∃ d, u.fz = .d d ∧ f env fun ps => Q ((k, d) :: ps)) rp q fun x Hb1 H1 s st1 rs1 e1 q1 => ?_
  obtain ⟨k, es, q1⟩ := q1
  subst es
  refine h.sd.go (Q := fun u => ∃ d, u = .d d ∧ f env fun ps => Q ((k, d) :: ps)) (rp.on st1) q1 fun y Hb2 H2 u st2 rs2 e2 q2 => ?_
  obtain ⟨d, eu, q2⟩ := q2
  subst eu
  refine r.sd Hb2 H2 σ env _ _ ((rp.on st1).on st2) q2 fun kvs Hb3 H3 ps st3 rel hl q3 => ?_
  have ex := key_of rs1
  subst ex
  have := cc ((k, y) :: kvs) Hb3 H3 ((k, d) :: ps) ((st1.trans st2).trans st3) (DRel.cons' (Dq.mono st3.ex rs2) rel) (congrArg (· + 1) hl) q3
  exact this
def dDispK (f : DTP) : DTE := fun env Q => f env fun ps => Q (.ownD (mergeP [] (ps.map fun p => (keyD p.1, p.2))))
theorem DRel.merge0 {K : PySem.W.Frag} {H : Hp} {kvs : List (Key × V)} {ps : List (Key × PyData)} (h : DRel K H kvs (ps.map fun p => (keyD p.1, p.2))) : DRel K H (mergeK [] kvs) (mergeP [] (ps.map fun p => (keyD p.1, p.2))) := DRel.merge h ⟨rfl, .nil⟩
theorem de_dispK {X : Cx} {F : Fr} {pos : Pos} {keys : List (Option Expr)} {vals : List Expr} {trs : List (TE × TE)} {f : DTP} (h : DPk X F pos keys vals trs f) (h0 : keys ≠ [] := by exact List.cons_ne_nil _ _) : DE X F (.Dict keys vals pos) (tDisp trs) (dDispK f) := by
  refine ⟨pe_disp h.pe h.all_ h.eq h0 h.low, ?_⟩
  intro Hb H σ env Q k rp q c p hp
  have s0 := Step.raw (o := .dK []) rp.st hp
  have bp : Hb p = none := none_back (fun o e => rp.st.ex p o e) hp
  have np : ¬ F.hid.has p := fun z => by obtain ⟨o, e⟩ := rp.st.ok.there z; rw [e] at hp; cases hp
  refine h.sd Hb _ σ env _ _ (rp.on s0) q fun kvs Hb1 H1 ps st1 rel hl q1 => ?_
  obtain ⟨hp1, bp1⟩ := st1.keepOwn (o := .dK []) upd_same bp np
  refine ⟨hp1, kvs, rfl, by rw [hl]; exact h.low, ?_⟩
  have all := s0.trans st1
  refine c (.ref p) Hb1 _ (.ownD (mergeP [] (ps.map fun p => (keyD p.1, p.2)))) ⟨⟨fun b o e => ?_, all.st.ok.keeps fun b o hb e => ?_, all.st.out⟩, all.ex, all.new, fun b o e hb => ?_⟩ ⟨p, _, rfl, upd_same, DRel.merge0 rel, bp1, np⟩ (fun q e => by cases e; exact hp) q1
  · rw [upd_ne (fun z : b = p => by rw [z, bp1] at e; cases e)]; exact all.st.ex b o e
  · rw [upd_ne (fun z : b = p => np (z ▸ hb))]; exact e
  · rw [upd_ne (ne_of_none e hp)]; exact all.keep b o e hb
end Pu

end

section
set_option maxHeartbeats 1000000
/-! PuB: x in l, l.index(x), the items data of any depth. -/
namespace Pu
open PySem L2 PyProof.Rows
theorem RoomG.units2 {k : Nat} {A : Around} (r : RoomG k A) : A.units + 65 < cLine := by have := r.r.un; omega
theorem Dq.dp {K : PySem.W.Frag} {H : Hp} {d : PyData} {v : V} (h : Dq K H v d) : d.hasDict = false → Dp K H v d := by
  refine Dq.rec (motive_1 := fun v d _ => d.hasDict = false → Dp K H v d) (motive_2 := fun vs ds _ => PyData.hasDictAll ds = false → DpAll K H vs ds) (fun _ => .non) (fun b _ => .bl b) (fun i _ => .int i) (fun x _ => .str x) ?_ ?_ ?_ (fun _ => .nil) ?_ h
  · intro a xs ds h1 _ i hd
    exact .lst (SqL.of h1) (i (by simpa [PyData.hasDict] using hd))
  · intro a xs ds h1 _ i hd
    exact .tup h1 (i (by simpa [PyData.hasDict] using hd))
  · intro a kvs ds h1 h2 _ i hd
    simp [PyData.hasDict] at hd
  · intro v vs d ds _ _ i1 i2 hd
    have hd' : d.hasDict = false ∧ PyData.hasDictAll ds = false := by simpa [PyData.hasDictAll] using hd
    exact .cons (i1 hd'.1) (i2 hd'.2)
def fInD (neg : Bool) : F2 := fun s u Q => match s, u with
  | .d x, .d (.list ys) => okD1 x ∧ okD1 (.list ys) ∧ Q (.d (.bool (neg != ys.any fun y => PyData.eqv y x)))
  | _, _ => False
section
variable {K : PySem.W.Frag} {hid : Hid} {F : Fr}
theorem lo_inD : LO K hid (rInD K) (fInD false) := by
  intro Hb H x y s u Q k st rx ry q c
  unfold fInD at q
  split at q
  · rename_i d ys
    obtain ⟨a1, a2, q⟩ := q
    rw [Bool.false_bne] at q
    exact ⟨d, ys, Dq.dp (Dq.mono st.ex rx) a1.1, Dq.dp (Dq.mono st.ex ry) a2.1, a1.2, a2.2, c _ Hb H (.d (.bool _)) (Step.refl st) (.bl _) trivial q⟩
  · exact q.elim
theorem lo_notInD : LO K hid (rNotInD K) (fInD true) := by
  intro Hb H x y s u Q k st rx ry q c
  unfold fInD at q
  split at q
  · rename_i d ys
    obtain ⟨a1, a2, q⟩ := q
    rw [Bool.true_bne] at q
    exact ⟨d, ys, Dq.dp (Dq.mono st.ex rx) a1.1, Dq.dp (Dq.mono st.ex ry) a2.1, a1.2, a2.2, c _ Hb H (.d (.bool _)) (Step.refl st) (.bl _) trivial q⟩
  · exact q.elim
def dIndexD (fa fb : DTE) : DTE := fun env Q => fa env fun s => ∃ ys, s.fz = .d (.list ys) ∧ fb env fun t => ∃ x j z, t.fz = .d x ∧ okD1 x ∧ okD1 (.list ys) ∧ ys[j]? = some z ∧ PyData.eqv z x = true ∧ (∀ m z', m < j → ys[m]? = some z' → PyData.eqv z' x = false) ∧ Q (.d (.int (j : Nat)))
theorem sd_indexD {ta tb : TE} {fa fb : DTE} (ha : SdE K F ta fa) (hb : SdE K F tb fb) : SdE K F (tBM K "list" (rIndexD K) ta (tCons tb tNil)) (dIndexD fa fb) := by
  intro Hb H σ env Q k r q c
  refine ha.go (Q := fun s => ∃ ys, s = .d (.list ys) ∧ fb env fun t => ∃ x j z, t.fz = .d x ∧ okD1 x ∧ okD1 (.list ys) ∧ ys[j]? = some z ∧ PyData.eqv z x = true ∧ (∀ m z', m < j → ys[m]? = some z' → PyData.eqv z' x = false) ∧ Q (.d (.int (j : Nat)))) r q fun v Hb1 H1 s st1 rs1 _ q1 => ?_
  obtain ⟨ys, es, q1⟩ := q1
  subst es
  have rs1 : Dq K Hb1 v (.list ys) := rs1
  cases rs1 with
  | lst h1 h2 =>
    rename_i a vs
    refine ⟨.inl ⟨rfl, _, SqL.of (st1.st.ex _ _ h1)⟩, ?_⟩
    refine hb.go (Q := fun t => ∃ x j z, t = .d x ∧ okD1 x ∧ okD1 (.list ys) ∧ ys[j]? = some z ∧ PyData.eqv z x = true ∧ (∀ m z', m < j → ys[m]? = some z' → PyData.eqv z' x = false) ∧ Q (.d (.int (j : Nat)))) (r.on st1) q1 fun w Hb2 H2 t st2 rs2 _ q2 => ?_
    obtain ⟨x, j, z, et, f1, f2, e1, e2, e3, q2⟩ := q2
    subst et
    have rs2 : Dq K Hb2 w x := rs2
    have rl : Dq K Hb2 (.ref a) (.list ys) := Dq.mono st2.ex (.lst h1 h2)
    exact ⟨a, w, x, ys, j, z, rfl, rfl, Dq.dp (Dq.mono st2.st.ex rl) f2.1, Dq.dp (Dq.mono st2.st.ex rs2) f1.1, f2.2, f1.2, e1, e2, e3, c _ Hb2 H2 (.d (.int (j : Nat))) (st1.trans st2) (.int _) trivial q2⟩
end
section
variable {X : Cx} {F : Fr} {K : PySem.W.Frag} {e b : Expr} {te tb : TE} {fe fb : DTE} {apos cpos : Pos}
theorem k_inD (ek : X.K = K) (hu : X.A.units + 65 < cLine) : OpR X (compareOp .In) (rInD K) := by subst ek; exact op_inD hu
theorem k_notInD (ek : X.K = K) (hu : X.A.units + 65 < cLine) : OpR X (compareOp .NotIn) (rNotInD K) := by subst ek; exact op_notInD hu
theorem k_indexD (ek : X.K = K) (he : DE X F e te fe) (hb : DE X F b tb fb) (h : PE X (.Call (.Attribute e "index" apos) [b] [] cpos) (tBM X.K "list" (rIndexD X.K) te (tCons tb tNil))) : DE X F (.Call (.Attribute e "index" apos) [b] [] cpos) (tBM K "list" (rIndexD K) te (tCons tb tNil)) (dIndexD fe fb) := by
  subst ek
  exact ⟨h, sd_indexD he.sd hb.sd⟩
theorem k_any (ek : X.K = K) (hc : X.calm = true) : CallR X (.builtin "any") (rAny K) := by subst ek; exact cr_any hc
theorem k_all (ek : X.K = K) (hc : X.calm = true) : CallR X (.builtin "all") (rAll K) := by subst ek; exact cr_all hc
theorem k_sum (ek : X.K = K) (hc : X.calm = true) : CallR X (.builtin "sum") (rSum K) := by subst ek; exact cr_sum hc
theorem k_truth (ek : X.K = K) (h : DE X F e te fe) (he : ∀ whole, isTrue e X.env whole = (do let v ← whole; standAt e.pos; holding [v] (truthy v)) := by intro _; rfl) : DT X F e (fun σ H Q => te σ H fun x H' => ∃ k, TruV K x H' k ∧ Q k H') (dTruth fe) := by
  subst ek
  exact dt_truth h he
end
end Pu
namespace Pu
open PySem L2 PyProof.Rows RZ
/-! ### repr of a whole number -/
def rReprI : List V → Hp → VK → Prop := fun xs H Q => ∃ i : Int, xs = [.int i] ∧ i.natAbs.log2 < 1920 ∧ Q (.str (toString i)) H
def fReprI : FN := fun ss Q => match ss with
  | [.d (.int i)] => i.natAbs.log2 < 1920 ∧ Q (.d (.str (toString i)))
  | _ => False
section
variable {K : PySem.W.Frag} {hid : Hid} {X : Cx}
theorem lc_reprI : LC K hid rReprI fReprI := by
  intro Hb H xs ss Q k st r q c
  unfold fReprI at q
  split at q
  · rename_i i
    obtain ⟨v, rfl, h⟩ := rep1 r
    cases (show Dq K Hb v (.int i) from h) with
    | int => exact ⟨_, rfl, q.1, c _ Hb H (.d (.str _)) (Step.refl st) (Dq.str _) trivial q.2⟩
  · exact q.elim
theorem k_reprI (ek : X.K = K) : CallR X (.builtin "repr") rReprI := SkE.call_repr_int
end
end Pu

end

section
set_option maxHeartbeats 1000000
/-! PuC: a, b = xs, of a list. -/
namespace L2
open PySem PySem.Spec PyProof.Rows
section
variable {prog : Program} {w : World} {A : Around} {E : Value → Shared → Prop}
theorem drawsL {I L : Addr} {xs : Array Value} (ne : L ≠ I) : ∀ (m k : Nat) (σ : Shared) (R : List Value → Shared → Prop), σ.heap.IsListIter I L k → σ.heap.IsList L xs → k + m ≤ xs.size →
    (∀ g, g.IsListIter I L (k + m) → Heap.SameBut I σ.heap g → R ((xs.toList.drop k).take m) { σ with heap := g }) → wpAny (model prog w) A (draw (.ref I) m) R E σ := by
  intro m
  induction m with
  | zero =>
    intro k σ R a _ _ r
    have r0 := r σ.heap a (Heap.SameBut.refl ..)
    rw [List.take_zero] at r0
    exact wpAny_pure r0
  | succ m ih =>
    intro k σ R a b c r
    have lt : k < xs.size := by omega
    show wpAny _ _ (pyNext (.ref I) >>= _) _ _ _
    apply wpAny_bind
    apply wpAny_pyNext_list_item a b (x := xs[k]) (Array.getElem?_eq_getElem lt)
    intro g1 a1 s1
    apply wpAny_bind
    apply wpAny_holding
    apply ih (k + 1) _ _ a1 (b.extBut s1.extBut ne) (by omega)
    intro g2 a2 s2
    apply wpAny_pure
    have e : xs.toList.drop k = xs[k] :: xs.toList.drop (k + 1) := by
      rw [List.drop_eq_getElem_cons (by simpa using lt)]; simp
    have r2 := r g2 (by rw [show k + (m + 1) = k + 1 + m by omega]; exact a2) (s1.trans s2)
    rw [e] at r2
    exact r2
theorem unpacksL {σ : Shared} {L : Addr} {xs : Array Value} {R : List Value → Shared → Prop} (hh : A.handled = none) (b : σ.heap.IsList L xs)
    (r : ∀ g, Heap.ExtBut σ.heap.objs.size σ.heap g → R xs.toList { σ with heap := g }) : wpAny (model prog w) A (unpackItems (.ref L) xs.size none) R E σ := by
  have ne : L ≠ σ.heap.objs.size := by
    obtain ⟨_, e, _⟩ := b
    exact Nat.ne_of_lt (Heap.lt_size e)
  unfold unpackItems
  apply wpAny_bind
  unfold notIterableAtAll
  apply wpAny_bind
  apply wpAny_specialOf b.typeIs slot_list_iter.lookup
  apply wpAny_pure
  simp only [Bool.false_eq_true, if_false]
  apply wpAny_bind
  apply wpAny_holding
  apply wpAny_pyIter_list b
  apply wpAny_bind
  apply wpAny_holding
  apply drawsL ne xs.size 0 _ _ ⟨_, Heap.get?_push_size _ rfl, rfl, rfl⟩ (b.push _) (by omega)
  intro g1 a1 s1
  have all : List.take xs.size (List.drop 0 xs.toList) = xs.toList := by
    rw [List.drop_zero]
    exact List.take_of_length_le (Nat.le_of_eq Array.length_toList)
  rw [all]
  rw [if_neg (show ¬ _ from by simp)]
  have b1 : g1.IsList L xs := (b.push _).extBut s1.extBut ne
  apply wpAny_bind
  apply wpAny_holding
  apply wpAny_pyNext_list_end hh a1 b1 (by simp)
  intro g2 x2
  simp only [Option.isSome_none, Bool.false_eq_true, if_false]
  apply wpAny_pure
  exact r g2 fun p o hp e => x2 p o hp (s1.extBut p o hp (Heap.get?_push_of_some _ e))
theorem assignsL {σ : Shared} {env : Env} {ts : List Expr} {z} {pos : Pos} {L : Addr} {xs : Array Value} {R : Unit → Shared → Prop} (hh : A.handled = none) (b : σ.heap.IsList L xs)
    (hn : (assignEach ts env).length = xs.size) (st : (assignEach ts env).findIdx? (·.1) = none)
    (r : ∀ g, Heap.ExtBut σ.heap.objs.size σ.heap g → wpAny (model prog w) A (assignInOrder ((assignEach ts env).map (·.2)) xs.toList) R E { σ with heap := g }) :
    wpAny (model prog w) A (assign (.Tuple ts z pos) env (.ref L)) R E σ := by
  rw [PyProof.Rows.assign_Tuple]
  apply wpAny_bind
  apply wpAny_standAt
  unfold unpack
  rw [hn, st]
  apply wpAny_bind
  apply wpAny_holding
  exact unpacksL hh b r
end
section
variable {X : Cx} {pos : Pos}
def gLst (K : PySem.W.Frag) (n : Nat) (t : TGs) : TG := fun v σ H Q => ∃ p ys, v = .ref p ∧ SqL K H p ys ∧ ys.length = n ∧ t ys σ H Q
theorem pg_lst {es : List Expr} {k : Nat} {t : TGs} {n : Nat} (hc : X.calm = true) (h : PGs X es t) (hn : (assignEach es X.env).length = n := by rfl) (hst : (assignEach es X.env).findIdx? (·.1) = none := by rfl) :
    PG X (.Tuple es k pos) (gLst X.K n t) := by
  constructor
  intro pins s σ H v u Q I r hw
  obtain ⟨p, ys, e1, sq, hl, hw⟩ := hw
  subst e1
  cases r
  obtain ⟨its, rv, ⟨o, c, ho, hc1, _, hd⟩, hz⟩ := I.list sq
  apply assignsL (I.ok.hd hc) ⟨o, ho, hc1, c, hd⟩ (by simp [hn, ← hl, rv.length]) hst
  intro g hx
  have I2 : Inv X pins σ H { s with heap := g } := I.kept (t' := s.toks) fun b o e => hx b o (Nat.ne_of_lt (Heap.lt_size e)) e
  exact h.run pins _ σ H ys _ Q I2 (by simpa using rv) hw
end
end L2
namespace Pu
open PySem L2 PyProof.Rows
def dgLst (n : Nat) (t : DTGs) : DTG := fun s env Q => ∃ ds, s = .d (.list ds) ∧ ds.length = n ∧ t ds env Q
section
variable {K : PySem.W.Frag} {F : Fr} {js : List Nat} {X : Cx} {es : List Expr} {gs : TGs} {fgs : DTGs} {pos : Pos}
theorem sg_lst {n : Nat} {u : DTGs} (h : SdGs K F js gs u) : SdG K F js (gLst K n gs) (dgLst n u) := by
  intro Hb H σ env v s Q k r rs e q c
  obtain ⟨ds, e1, hl, q⟩ := q
  subst e1
  cases (show Dq K Hb v (.list ds) from rs) with
  | lst h1 h2 => exact ⟨_, _, rfl, SqL.of (r.st.ex _ _ h1), by rw [DqAll.length h2]; exact hl, h Hb H σ env _ ds Q k r h2 q c⟩
theorem kg_lst (q : X.K = K) {k n : Nat} (hc : X.calm = true) (h : DGs X F js es gs fgs) (hn : (assignEach es X.env).length = n := by rfl) (hst : (assignEach es X.env).findIdx? (·.1) = none := by rfl) : DG X F js (.Tuple es k pos) (gLst K n gs) (dgLst n fgs) :=
  q ▸ ⟨pg_lst hc h.pe hn hst, sg_lst h.sd⟩
end
end Pu

end

section
set_option maxHeartbeats 1000000
/-! PuF: x = [f, g]; if x != z: return False; x[0].append(None); x[1].append(None), f and g lists of one's own. -/
namespace Pu
open PySem L2 PyProof.Rows
section
variable {K : PySem.W.Frag} {F : Fr} {Hb H : Hp} {σ : L2.St} {env : EV}
/-- an object that no name holds is written -/
theorem Rep.junk (r : Rep K F Hb H σ env) {p : Addr} {o' : HO} (hB : Hb p = none) (hh : ¬ F.hid.has p) (h0 : F.H0 p = none) (no : ∀ (j : Nat) (s : Sl), env[j]? = some (some s) → s.isOwn → σ[j]? ≠ some (some (.ref p))) : Rep K F Hb (upd H p o') σ env := by
  have ne : ∀ {b : Addr} {u : HO}, Hb b = some u → b ≠ p := fun e z => by rw [z, hB] at e; cases e
  refine ⟨⟨⟨fun b u e => ?_, r.st.ok.keeps fun b u hb e => ?_, r.st.out⟩, r.step.ex, r.step.new, fun b u e hb => ?_⟩, r.mid, r.len, fun j u ej => ?_, r.dis⟩
  · rw [upd_ne (ne e)]; exact r.st.ex b u e
  · rw [upd_ne (fun z : b = p => hh (z ▸ hb))]; exact e
  · rw [upd_ne (fun z : b = p => by rw [z, h0] at e; cases e)]; exact r.step.keep b u e hb
  · obtain ⟨w, w1, w2, w3⟩ := r.sl j u ej
    refine ⟨w, w1, ?_, w3⟩
    cases u with
    | d x => exact w2
    | v y => exact w2
    | src => exact w2
    | own ys =>
      obtain ⟨q, us, q1, q2, q3⟩ := w2
      subst q1
      exact ⟨q, us, rfl, by rw [upd_ne (fun z : q = p => no j _ ej trivial (z ▸ w1))]; exact q2, q3⟩
    | ownD ys =>
      obtain ⟨q, us, q1, q2, q3⟩ := w2
      subst q1
      exact ⟨q, us, rfl, by rw [upd_ne (fun z : q = p => no j _ ej trivial (z ▸ w1))]; exact q2, q3⟩
theorem Rep.held (r : Rep K F Hb H σ env) {j : Nat} {s : Sl} {p : Addr} (e : env[j]? = some (some s)) (o : s.isOwn) (h : σ[j]? = some (some (.ref p))) : ∃ u, H p = some u ∧ ¬ F.hid.has p := by
  obtain ⟨v, e1, e2, _⟩ := r.sl j s e
  rw [h] at e1; cases e1
  cases s with
  | own xs =>
    obtain ⟨q, us, q1, q2, _, _, q3⟩ := e2
    cases q1; exact ⟨_, q2, q3⟩
  | ownD xs =>
    obtain ⟨q, us, q1, q2, _, _, q3⟩ := e2
    cases q1; exact ⟨_, q2, q3⟩
  | d x => exact o.elim
  | v x => exact o.elim
  | src => exact o.elim
end
def dTwo (i : Nat) (ff fg fz : DTE) : DTS := fun E env => i < env.length ∧ ff env fun s => ∃ xs, s = .own xs ∧ xs.length < sizeLine ∧ fg env fun u => ∃ ys, u = .own ys ∧ ys.length < sizeLine ∧ fz (env.set i none) fun z => ∃ d, z.fz = .d d ∧ okD1 (.list [.list xs, .list ys]) ∧ okD1 d ∧
  (PyData.eqv (.list [.list xs, .list ys]) d = false → E.rt (.d (.bool false))) ∧ (PyData.eqv (.list [.list xs, .list ys]) d = true → E.nx (env.set i none))
section
variable {K : PySem.W.Frag} {F : Fr} {tf tg tz : TE} {ff fg fz : DTE}
theorem sd_two (i : Nat) (hf : SdE K F tf ff) (hg : SdE K F tg fg) (hz : SdE K F tz fz) : SdS K F (tSeq (tAsg (tLst (tCons tf (tCons tg tNil))) (gName i)) (tSeq (tIfS (tTest (tOp (rNeQ K) (tVar i) tz)) (tRet (tC (.bl false))) tNext)
    (tSeq (tDrop (tBM K "list" rAppend (tOp (rIx K) (tVar i) (tC (.int 0))) (tCons (tC .non) tNil))) (tDrop (tBM K "list" rAppend (tOp (rIx K) (tVar i) (tC (.int 1))) (tCons (tC .non) tNil)))))) (dTwo i ff fg fz) := by
  intro Hb H σ env D E r q l
  obtain ⟨hi, q⟩ := q
  refine hf Hb H σ env _ _ r q fun v0 Hb1 H1 s st1 rs1 fr1 q1 => ?_
  obtain ⟨xs, rfl, lx, q1⟩ := q1
  obtain ⟨p0, vs0, rfl, h0, d0, b0, n0⟩ := rs1
  have r1 := r.on st1
  refine hg Hb1 H1 σ env _ _ r1 q1 fun v1 Hb2 H2 u st2 rs2 fr2 q2 => ?_
  obtain ⟨ys, rfl, ly, q2⟩ := q2
  obtain ⟨p1, vs1, rfl, h1, d1, b1, n1⟩ := rs2
  have r2 := r1.on st2
  have a0 : H2 p0 = some (.lst vs0) := st2.keep _ _ h0 n0
  have p01 : p0 ≠ p1 := fun e => by
    have := fr2 p1 rfl
    rw [← e, h0] at this; cases this
  refine ⟨by rw [sizeLine_eq]; show 2 ≤ _; omega, fun p hp => ?_⟩
  have st3 := Step.raw (o := .lst [.ref p0, .ref p1]) st2.st hp
  have np : ¬ F.hid.has p := fun z => by
    obtain ⟨o, e⟩ := st2.st.ok.there z
    rw [e] at hp; cases hp
  have q0 : p0 ≠ p := fun e => by rw [e, hp] at a0; cases a0
  have q1' : p1 ≠ p := fun e => by rw [e, hp] at h1; cases h1
  have r3 := (r2.on st3).forget i (some (.ref p))
  have si : (σ.set i (some (.ref p)))[i]? = some (some (.ref p)) := List.getElem?_set_self (by rw [← r.len]; exact hi)
  refine ⟨_, si, ?_⟩
  refine hz.go (Q := fun s => ∃ d, s = .d d ∧ okD1 (.list [.list xs, .list ys]) ∧ okD1 d ∧ (PyData.eqv (.list [.list xs, .list ys]) d = false → E.rt (.d (.bool false))) ∧ (PyData.eqv (.list [.list xs, .list ys]) d = true → E.nx (env.set i none))) r3 q2 fun v2 Hb3 H4 s st4 rs4 _ q4 => ?_
  obtain ⟨d, rfl, o1, o2, qa, qb⟩ := q4
  have r4 := r3.on st4
  have e0 : H4 p0 = some (.lst vs0) := st4.keep _ _ (by rw [upd_ne q0]; exact a0) n0
  have e1 : H4 p1 = some (.lst vs1) := st4.keep _ _ (by rw [upd_ne q1']; exact h1) n1
  have e2 : H4 p = some (.lst [.ref p0, .ref p1]) := st4.keep _ _ upd_same np
  have s2 : Same Hb2 H4 := st4.ex.trans st4.st.ex
  have x0 : Dq K H4 (.ref p0) (.list xs) := .lst e0 (DqAll.mono (st2.ex.trans s2) d0)
  have x1 : Dq K H4 (.ref p1) (.list ys) := .lst e1 (DqAll.mono s2 d1)
  have gone : ∀ {b : Addr} {o : HO}, H2 b = some o → Hb2 b = none → b ≠ p → Hb3 b = none := fun {b o} e n ne => by
    cases z : Hb3 b with
    | none => rfl
    | some w =>
      have := st4.new b w z n
      rw [upd_ne ne, e] at this; cases this
  have g0 : Hb3 p0 = none := gone a0 (by
    cases z : Hb2 p0 with
    | none => rfl
    | some w => have := st2.new p0 w z b0; rw [h0] at this; cases this) q0
  have g1 : Hb3 p1 = none := gone h1 b1 q1'
  refine ⟨_, d, .lst e2 (.cons x0 (.cons x1 .nil)), Dq.mono st4.st.ex rs4, o1, o2, ?_⟩
  refine ⟨_, rfl, ?_⟩
  have ex4 : Same Hb Hb3 := st1.ex.trans (st2.ex.trans (st3.ex.trans st4.ex))
  cases c : PyData.eqv (.list [.list xs, .list ys]) d with
  | false => exact l.rt (.bl false) Hb3 H4 (.d (.bool false)) ex4 r4.step (Dq.bl _) trivial (qa c)
  | true =>
    have lv0 := DqAll.length d0
    have lv1 := DqAll.length d1
    refine ⟨_, si, .inl ⟨p, _, 0, _, rfl, rfl, SqL.of e2, rfl, ?_⟩⟩
    refine ⟨.inl ⟨rfl, _, SqL.of e0⟩, p0, vs0, .non, rfl, rfl, e0, by omega, ?_⟩
    refine ⟨_, si, .inl ⟨p, [.ref p0, .ref p1], 1, _, rfl, rfl, SqL.of (by rw [upd_ne q0.symm]; exact e2), rfl, ?_⟩⟩
    refine ⟨.inl ⟨rfl, _, SqL.of (by rw [upd_ne p01.symm]; exact e1)⟩, p1, vs1, .non, rfl, rfl, by rw [upd_ne p01.symm]; exact e1, by omega, ?_⟩
    have look : ∀ (j : Nat) (s : Sl) (w : Addr), (env.set i none)[j]? = some (some s) → (σ.set i (some (.ref p)))[j]? = some (some (.ref w)) → env[j]? = some (some s) ∧ σ[j]? = some (some (.ref w)) := fun j s w e f => by
      by_cases hij : i = j
      · subst hij
        rw [List.getElem?_set_self hi] at e; cases e
      · rw [List.getElem?_set_ne hij] at e f
        exact ⟨e, f⟩
    have r5 := r4.junk (o' := .lst (vs0 ++ [.non])) g0 n0 (r.step.back (fr1 p0 rfl)) fun j s e o f => by
      obtain ⟨e', f'⟩ := look j s p0 e f
      obtain ⟨w, hw, _⟩ := r.held e' o f'
      rw [fr1 p0 rfl] at hw; cases hw
    have r6 := r5.junk (o' := .lst (vs1 ++ [.non])) g1 n1 (r1.step.back (fr2 p1 rfl)) fun j s e o f => by
      obtain ⟨e', f'⟩ := look j s p1 e f
      obtain ⟨w, hw, _⟩ := r1.held e' o f'
      rw [fr2 p1 rfl] at hw; cases hw
    exact l.nx Hb3 _ _ _ ex4 r6 (qb c)
def dPar2 (i j : Nat) (ff fg : DTE) : DTS := fun E env => ff env fun s => fg env fun u => E.nx ((env.set i (some s)).set j (some u))
theorem sd_par2 {i j : Nat} (hij : i ≠ j) (hf : SdE K F tf ff) (hg : SdE K F tg fg) : SdS K F (tAsg (tTup (tCons tf (tCons tg tNil))) (gTup K 2 (gCons (gName i) (gCons (gName j) gNil)))) (fun E env => ff env fun s => fg env fun u => E.nx ((env.set i (some s)).set j (some u))) := by
  intro Hb H σ env D E r q l
  show tCons tf (tCons tg tNil) σ H (fun vs H1 => vs.length ≤ sizeLine ∧ ∀ p, H1 p = none → gTup K 2 (gCons (gName i) (gCons (gName j) gNil)) (.ref p) σ (upd H1 p (.tup vs)) D.nx)
  refine hf Hb H σ env _ _ r q fun v Hb1 H1 s st1 rs1 f1 q1 => ?_
  refine hg Hb1 H1 σ env _ _ (r.on st1) q1 fun w Hb2 H2 u st2 rs2 f2 q2 => ?_
  refine ⟨by rw [sizeLine_eq]; show 2 ≤ 16777216; omega, fun p hp => ?_⟩
  have s0 := Step.raw (o := .tup [v, w]) st2.st hp
  have ra := r.set st1 rs1 f1 i
  have rb := ra.set (st2.trans s0) (rs2.step s0) f2 j
  exact ⟨p, _, rfl, SqT.of upd_same, rfl, v, [w], rfl, w, [], rfl, rfl, l.nx Hb2 _ _ _ (st1.ex.trans st2.ex) rb q2⟩
theorem sd_par2L {i j : Nat} (hf : SdE K F tf ff) (hg : SdE K F tg fg) : SdS K F (tPar i j (tCons tf (tCons tg tNil))) (dPar2 i j ff fg) := by
  intro Hb H σ env D E r q l
  refine hf Hb H σ env _ _ r q fun v Hb1 H1 s st1 rs1 f1 q1 => ?_
  refine hg Hb1 H1 σ env _ _ (r.on st1) q1 fun w Hb2 H2 u st2 rs2 f2 q2 => ?_
  exact ⟨v, w, rfl, l.nx Hb2 _ _ _ (st1.ex.trans st2.ex) ((r.set st1 rs1 f1 i).set st2 rs2 f2 j) q2⟩
end
/-! for g in m(e[own.pop()]) -/
def dForPop (f : F2) (i : Nat) (m : FN) (fa : DTE) (fg : DTG) (fb : DTS) : DTS := fun E env => fa env fun s => ∃ xs d, env[i]? = some (some (.own xs)) ∧ xs[xs.length - 1]? = some d ∧ f s.fz (.d d) fun u => m [u.fz] fun z => ∃ ys, z.fz = .d (.list ys) ∧ dLoop fg fb E ys (env.set i (some (.own xs.dropLast)))
section
variable {K : PySem.W.Frag} {F : Fr} {js : List Nat}
theorem sd_forPop {rr : R2} {f : F2} (lo : LO K F.hid rr f) (i : Nat) (m : FN) {ta : TE} {fa : DTE} {g : TG} {fg : DTG} {tb : TS} {fb : DTS} (ha : SdE K F ta fa) (hg : SdG K F js g fg) (hb : SdS K F tb fb) :
    SdS K F (tFor (iList K (tFn (spX K 1 m) (tCons (tOp rr ta (tBM0 K "list" rPop (tVar i))) tNil))) g tb) (dForPop f i m fa fg fb) := by
  intro Hb H σ env D E r q l
  refine ha.go (Q := fun s => ∃ xs d, env[i]? = some (some (.own xs)) ∧ xs[xs.length - 1]? = some d ∧ f s (.d d) fun u => m [u.fz] fun z => ∃ ys, z.fz = .d (.list ys) ∧ dLoop fg fb E ys (env.set i (some (.own xs.dropLast)))) r q fun x Hb1 H1 s st1 rs1 es q1 => ?_
  obtain ⟨xs, d, e, ed, q1⟩ := q1
  have r1 := r.on st1
  obtain ⟨v, e1, rs, fr⟩ := r1.sl i _ e
  obtain ⟨p, vs, e2, e3, e4, e5, e6⟩ := rs
  subst e2
  obtain ⟨y, hy, dy⟩ := DqAll.get' e4 ed
  have hl := DqAll.length e4
  refine ⟨_, e1, .inl ⟨rfl, _, SqL.of e3⟩, p, vs, y, rfl, rfl, e3, by rw [hl]; exact hy, ?_⟩
  have r2 := r1.put1 e trivial e1 e3 e5 e6 (s' := .own xs.dropLast) trivial ⟨p, vs.dropLast, rfl, upd_same, by rw [List.dropLast_eq_take, List.dropLast_eq_take, hl]; exact DqAll.take _ e4, e5, e6⟩
  refine lo Hb1 _ x y s (.d d) _ _ r2.st (rs1.heap es) dy q1 fun w Hb2 H2 u st3 r3 f3 q3 => ?_
  obtain ⟨Hb3, st4, ex4, new4, rep4⟩ := RepSl.fz st3.st r3 f3 fun b n => st3.back n
  have stA : Step F.hid Hb1 (upd H1 p (.lst vs.dropLast)) Hb3 H2 := ⟨st4, st3.ex.trans ex4, fun b o e n => by
    cases z : Hb2 b with
    | some u => exact st3.new b u z n
    | none => exact new4 b o e z, st3.keep⟩
  have rA := r2.on stA
  refine ⟨F.hid, Hb3, [u.fz], _, st4, .cons rep4 (fz_fz u) .nil, rfl, q3, fun v2 Hb4 H4 z st5 r5 f5 q5 => ?_⟩
  obtain ⟨ys, ez, q5⟩ := q5
  obtain ⟨Hb5, st6, ex6, new6, rep6⟩ := RepSl.fz st5.st r5 f5 fun b n => st5.back n
  have stB : Step F.hid Hb3 H2 Hb5 H4 := ⟨st6, st5.ex.trans ex6, fun b o e n => by
    cases z : Hb4 b with
    | some u => exact st5.new b u z n
    | none => exact new6 b o e z, st5.keep⟩
  have rB := rA.on stB
  rw [ez] at rep6
  have exT : Same Hb Hb5 := st1.ex.trans (stA.ex.trans stB.ex)
  cases (show Dq K Hb5 v2 (.list ys) from rep6) with
  | @lst a ws _ h1 h2 =>
    refine ⟨_, rfl, ⟨_, SqL.of (st6.ex _ _ h1)⟩, ?_⟩
    have gv : Gives K F.hid Hb5 (Itl K a) ys := gives_at (J := Itl K a) (G := fun H => SqL K H a ws) walk_list (fun H' s => SqL.of (s _ _ h1)) h2
    obtain ⟨G, Y, w, hG, hY⟩ := gv.ex
    refine for_it w (fun i σ' H' => ∃ Hb' env', Same Hb5 Hb' ∧ Rep K F Hb' H' σ' env' ∧ dLoop fg fb E (ys.drop i) env') ⟨Hb5, _, Same.refl _, rB, q5⟩ ?_ ?_ ?_
    · rintro i σ' H' _ ⟨Hb', env', s, r', _⟩
      exact hG H' (s.trans r'.st.ex)
    · rintro i x σ' H' H2 hlt ⟨Hb', env', s, r', q'⟩ y
      obtain ⟨Hb2, d, hd, st2, hx⟩ := hY i Hb' H' x H2 hlt r'.st s y
      have e : ys.drop i = d :: ys.drop (i + 1) := by
        obtain ⟨h1, h2⟩ := List.getElem?_eq_some_iff.mp hd
        rw [List.drop_eq_getElem_cons h1, h2]
      rw [e] at q'
      refine hg Hb2 H2 σ' env' x (.d d) _ _ (r'.on st2) hx rfl q' fun σ3 env3 _ r3 q3 => ?_
      have ex2 : Same Hb5 Hb2 := s.trans st2.ex
      exact hb Hb2 H2 σ3 env3 _ _ r3 q3 ⟨fun Hb4 H4 σ4 env4 s4 r4 q4 => ⟨Hb4, env4, ex2.trans s4, r4, q4⟩, fun Hb4 H4 σ4 env4 s4 r4 q4 => l.nx Hb4 H4 σ4 env4 (exT.trans (ex2.trans s4)) r4 q4, fun Hb4 H4 σ4 env4 s4 r4 q4 => ⟨Hb4, env4, ex2.trans s4, r4, q4⟩, fun v Hb4 H4 s' s4 => l.rt v Hb4 H4 s' (exT.trans (ex2.trans s4))⟩
    · rintro σ' H' ⟨Hb', env', s, r', q'⟩
      rw [List.drop_length] at q'
      exact l.nx Hb' H' σ' env' (exT.trans s) r' q'
end
/-! the terms -/
section
variable {X : Cx} {F : Fr} {K : PySem.W.Frag} {js : List Nat} {a b e tg o : Expr} {ta tb te to : TE} {fa fb fe fo : DTE} {px py pt pt2 p pos : Pos} {kt k2 : Nat} {es : List Expr} {g : TG} {fg : DTG} {ts : TS} {fs : DTS}
theorem k_par2 (ek : X.K = K) (i j : Nat) {x y : Str} (hN : X.N.Nodup) (ha : DE X F a ta fa) (hb : DE X F b tb fb) (hp : PA X [a, b] (tCons ta (tCons tb tNil))) (hg : PG X (.Tuple [.Name x px, .Name y py] kt pt) (gTup X.K 2 (gCons (gName i) (gCons (gName j) gNil)))) (hij : i ≠ j := by decide)
    (hs : swapsWithSole [.Tuple [.Name x px, .Name y py] kt pt] (.Tuple [a, b] k2 pt2) pos.line X.env = pure false := by rfl) (hw : swappedStores [.Tuple [.Name x px, .Name y py] kt pt] (.Tuple [a, b] k2 pt2) X.env = pure none := by rfl) (h1 : (assignEach [.Tuple [.Name x px, .Name y py] kt pt] X.env).map (·.2) = [assign (.Tuple [.Name x px, .Name y py] kt pt) X.env] := by rfl) :
    DS X F (.Assign [.Tuple [.Name x px, .Name y py] kt pt] (.Tuple [a, b] k2 pt2) pos) (tAsg (tTup (tCons ta (tCons tb tNil))) (gTup K 2 (gCons (gName i) (gCons (gName j) gNil)))) (dPar2 i j fa fb) := ek ▸ ⟨ps_asg (pe_tup hp) hg hs hw h1, sd_par2 hij ha.sd hb.sd⟩
theorem ds_par2 (i j : Nat) {x y : Str} (hN : X.N.Nodup) (ha : DE X F a ta fa) (hb : DE X F b tb fb) (hp : PA X [a, b] (tCons ta (tCons tb tNil))) (hi : X.N[i]? = some x := by rfl) (hj : X.N[j]? = some y := by rfl) (hij : i ≠ j := by decide) (hx : X.env.scope.names.lookup x = some .local := by rfl) (hy : X.env.scope.names.lookup y = some .local := by rfl) (hc : X.calm = true := by rfl)
    (hw : swappedStores [.Tuple [.Name x px, .Name y py] kt pt] (.Tuple [a, b] k2 pt2) X.env = pure (some [x, y]) := by rfl) (hs : swapsWithSole [.Tuple [.Name x px, .Name y py] kt pt] (.Tuple [a, b] k2 pt2) pos.line X.env = pure false := by rfl) :
    DS X F (.Assign [.Tuple [.Name x px, .Name y py] kt pt] (.Tuple [a, b] k2 pt2) pos) (tPar i j (tCons ta (tCons tb tNil))) (dPar2 i j fa fb) := ⟨ps_par hc hN hi hj hij hx hy hp hw hs, sd_par2L ha.sd hb.sd⟩
theorem k_two (ek : X.K = K) (i : Nat) {s3 s4 : Stmt} {x : Str} {lp sp cp ip : Pos} {rs : List Stmt} (ha : DE X F a ta fa) (hb : DE X F b tb fb) (he : DE X F e te fe) (h1 : PS X (.Assign [.Name x px] (.List [a, b] lp) sp) (tAsg (tLst (tCons ta (tCons tb tNil))) (gName i))) (h2 : PS X (.If (.Compare (.Name x py) [.NotEq] [e] cp) rs [] ip) (tIfS (tTest (tOp (rNeQ K) (tVar i) te)) (tRet (tC (.bl false))) tNext))
    (h3 : PS X s3 (tDrop (tBM K "list" rAppend (tOp (rIx K) (tVar i) (tC (.int 0))) (tCons (tC .non) tNil)))) (h4 : PS X s4 (tDrop (tBM K "list" rAppend (tOp (rIx K) (tVar i) (tC (.int 1))) (tCons (tC .non) tNil)))) :
    DSs X F [.Assign [.Name x px] (.List [a, b] lp) sp, .If (.Compare (.Name x py) [.NotEq] [e] cp) rs [] ip, s3, s4] (tSeq (tAsg (tLst (tCons ta (tCons tb tNil))) (gName i)) (tSeq (tIfS (tTest (tOp (rNeQ K) (tVar i) te)) (tRet (tC (.bl false))) tNext) (tSeq (tDrop (tBM K "list" rAppend (tOp (rIx K) (tVar i) (tC (.int 0))) (tCons (tC .non) tNil))) (tDrop (tBM K "list" rAppend (tOp (rIx K) (tVar i) (tC (.int 1))) (tCons (tC .non) tNil)))))) (dTwo i fa fb fe) := by
  subst ek
  exact ⟨pss_cons h1 (pss_cons h2 (pss_cons h3 (pss_one h4))), sd_two i ha.sd hb.sd he.sd⟩
theorem k_forPop (ek : X.K = K) {k : Nat} {ps : List Str} {m : FN} {x y : Str} {body : List Stmt} {r : R2} {f : F2} {apos cpos bpos : Pos} (i : Nat) (G : Fn X.prog X.w K X.mg X.base x k ps (spX K 1 m)) (hr : RoomG k X.A) (hi : IxR X r) (lo : ∀ hid, LO K hid r f) (ho : DE X F o to fo)
    (h : PE X (.Call (.Attribute (.Name y px) "pop" apos) [] [] cpos) (tBM0 K "list" rPop (tVar i))) (hg : DG X F js tg g fg) (hb : DSs X F body ts fs)
    (hp : PlainIx (.Call (.Attribute (.Name y px) "pop" apos) [] [] cpos) := by exact fun _ _ => rfl) (hG : Gl X x := by rfl) (hdb : (x == ("__debug__" : Str)) = false := by decide)
    (he : starEach [.Subscript o (.Call (.Attribute (.Name y px) "pop" apos) [] [] cpos) bpos] X.env = (false, eval (.Subscript o (.Call (.Attribute (.Name y px) "pop" apos) [] [] cpos) bpos) X.env) :: starEach [] X.env := by rfl) (hpl : (backTo pos (starEach [] X.env)).any (·.1) = false := by rfl)
    (ho2 : PassesOwn (model X.prog X.w) X.A X.env X.xe := by exact PassesOwn.never) (hc : X.calm = true := by rfl) (hs : ∀ x', foldedSetIterable (.Call (.Name x p) [.Subscript o (.Call (.Attribute (.Name y px) "pop" apos) [] [] cpos) bpos] [] pos) X.env x' = pure x' := by intro _; rfl) {pos2 : Pos} :
    DS X F (.For tg (.Call (.Name x p) [.Subscript o (.Call (.Attribute (.Name y px) "pop" apos) [] [] cpos) bpos] [] pos) body [] pos2) (tFor (iList K (tFn (spX K 1 m) (tCons (tOp r to (tBM0 K "list" rPop (tVar i))) tNil))) g ts) (dForPop f i m fo fg fs) := by
  subst ek
  obtain ⟨f, fd, hm, hk, hbn, J⟩ := G.ex
  exact ⟨ps_for ho2 hc (pi_list (pe_callG J hr hG hm hk hbn pass0 (pa_cons (pe_ix hi ho.pe h hp) pa_nil he) hdb he hpl)) hg.pe hb.pe hs, sd_forPop (lo F.hid) i m ho.sd hg.sd hb.sd⟩
end
end Pu

end

section
set_option maxHeartbeats 1000000
/-! PuH: x op= e: of data; of a list of one's own. -/
namespace Pu
open PySem L2 PyProof.Rows
def dAug (f : F2) (i : Nat) (fe : DTE) : DTS := fun E env => ∃ x, env[i]? = some (some (.d x)) ∧ fe env fun s => f (.d x) s.fz fun u => E.nx (env.set i (some u))
def dAugL (i : Nat) (fe : DTE) : DTS := fun E env => ∃ xs, env[i]? = some (some (.own xs)) ∧ fe env fun s => ∃ ys, s.fz = .d (.list ys) ∧ xs.length + ys.length ≤ sizeLine ∧ E.nx (env.set i (some (.own (xs ++ ys))))
section
variable {K : PySem.W.Frag} {F : Fr} {te : TE} {fe : DTE}
theorem sd_aug {rr : R2} {f : F2} (lo : LO K F.hid rr f) (i : Nat) (he : SdE K F te fe) : SdS K F (tAug i te rr) (dAug f i fe) := by
  intro Hb H σ env D E r q l
  obtain ⟨x, e, q⟩ := q
  obtain ⟨v, e1, rs, _⟩ := r.sl i _ e
  refine ⟨v, e1, ?_⟩
  refine he.go (Q := fun s => f (.d x) s fun u => E.nx (env.set i (some u))) r q fun y Hb1 H1 s st1 rs1 _ q1 => ?_
  exact lo Hb1 H1 v y (.d x) s _ _ st1.st (rs.step st1) rs1 q1 fun w Hb' H' s' st3 r3 f3 q3 => l.nx Hb' H' _ _ (st1.ex.trans st3.ex) ((r.on st1).set st3 r3 f3 i) q3
theorem sd_augL (i : Nat) (he : SdE K F te fe) : SdS K F (tAug i te rExt2) (dAugL i fe) := by
  intro Hb H σ env D E r q l
  obtain ⟨xs, e, q⟩ := q
  obtain ⟨v, e1, rs, fr⟩ := r.sl i _ e
  obtain ⟨p, vs, e2, e3, e4, e5, e6⟩ := rs
  subst e2
  refine ⟨_, e1, ?_⟩
  refine he.go (Q := fun s => ∃ ys, s = .d (.list ys) ∧ xs.length + ys.length ≤ sizeLine ∧ E.nx (env.set i (some (.own (xs ++ ys))))) r q fun y Hb1 H1 s st1 rs1 _ q1 => ?_
  obtain ⟨ys, ex, hl, q1⟩ := q1
  subst ex
  obtain ⟨hp, hbp⟩ := st1.keepOwn e3 e5 e6
  have e4' := DqAll.mono st1.ex e4
  cases (show Dq K Hb1 y (.list ys) from rs1) with
  | @lst b zs _ h1 h2 =>
    refine ⟨p, b, vs, zs, rfl, rfl, hp, st1.st.ex _ _ h1, by rw [DqAll.length e4, DqAll.length h2]; exact hl, ?_⟩
    have same : σ.set i (some (.ref p)) = σ := by
      refine List.ext_getElem? fun j => ?_
      by_cases c : i = j
      · subst c; rw [List.getElem?_set_self (List.getElem?_eq_some_iff.mp e1).1, e1]
      · rw [List.getElem?_set_ne c]
    show D.nx (List.set σ i (some (V.ref p))) _
    rw [same]
    exact l.nx Hb1 _ σ _ st1.ex ((r.on st1).put1 e trivial e1 hp hbp e6 (s' := .own (xs ++ ys)) trivial ⟨p, vs ++ zs, rfl, upd_same, DqAll.append e4' h2, hbp, e6⟩) q1
end
section
variable {X : Cx} {F : Fr} {K : PySem.W.Frag} {e : Expr} {te : TE} {fe : DTE} {x : Str} {p' pos : Pos}
theorem ds_aug (i : Nat) {op : Operator} {r : R2} {f : F2} (ho : OpR X (inplaceOp op) r) (lo : ∀ hid, LO X.K hid r f) (hN : X.N.Nodup) (he : DE X F e te fe) (hi : X.N[i]? = some x := by rfl) (hx : Loc X.env.scope x := by first | exact Or.inl rfl | exact Or.inr rfl) (hf : X.fn x = true ∨ X.env.scope.names.lookup x = some .local := by first | exact .inl rfl | exact .inr rfl) :
    DS X F (.AugAssign (.Name x p') op e pos) (tAug i te r) (dAug f i fe) := ⟨ps_aug hN hi hx he.pe ho hf, sd_aug (lo F.hid) i he.sd⟩
theorem ds_augL (i : Nat) (hN : X.N.Nodup) (he : DE X F e te fe) (hi : X.N[i]? = some x := by rfl) (hx : Loc X.env.scope x := by first | exact Or.inl rfl | exact Or.inr rfl) (hf : X.fn x = true ∨ X.env.scope.names.lookup x = some .local := by first | exact .inl rfl | exact .inr rfl) :
    DS X F (.AugAssign (.Name x p') .Add e pos) (tAug i te rExt2) (dAugL i fe) := ⟨ps_aug hN hi hx he.pe iop_ext hf, sd_augL i he.sd⟩
end
end Pu

end

section
set_option maxHeartbeats 1000000
/-! PuO: sorted({e for x in a for y in b}) of whole numbers; {k: v for x in a for y in b}; the keys of a dict walked. -/
namespace Pu
open PySem L2 PySem.Spec PyProof.Rows RZ
section
variable {X : Cx} {pins : List (Addr × Obj)} {σ : L2.St} {H : Hp} {s : Shared} {a : Addr} {S : Int → Bool} {n : Nat}
theorem si_add {E : Value → Shared → Prop} {x : Int} {t : Tok} {Q : Value → Shared → Prop} (I : Inv X pins σ H s) (ha : H a = some (SIo X.prog X.w a S n)) (room : n + 1 < scanBound)
    (hQ : ∀ s', Inv X pins σ (upd H a (SIo X.prog X.w a (fun j => S j || decide (j = x)) (if S x = true then n else n + 1))) s' → Q .none s') : wpAny (model X.prog X.w) X.A (call (.builtin "set.add") [.ref a, .int x t]) Q E s := by
  refine sg_add (int_is x t) rfl (sio_get I ha) room fun h' sb new => ?_
  have he : ∃ u, h'.get? a = some u := let ⟨o, _, _, _, ho, _⟩ := new; ⟨o, ho⟩
  exact hQ _ (I.write (e := a) (t' := s.toks + 1) (by rw [ha]; trivial) (.inl rfl) (fun b u hb hu => (sb.2 b hb).trans hu) he (sio_new new))
end
section
variable {X : Cx}
/-- the reading: as of a list's comprehension, the new object a set -/
def tSi2 (P : Program) (w : World) (wi : TI) (g : TG) (tt : TT) (wi1 : TI) (g1 : TG) (tt1 : TT) (te : TE) (vs vs1 : List Nat) : TE := fun σ H Q => wi σ H fun J H1 => ∀ D, H1 D = none → ∃ W : Nat → Nat → Hp → Prop, (∃ m, W 0 m (upd H1 D (SIo P w D (fun _ => false) 0))) ∧ ∀ i m H, W i m H →
  (J.stop i H ∧ Q (.ref D) H) ∨ (J.go i H ∧ ∃ Nx : Hp → Prop, (∀ H', Nx H' → ∃ m', m' < m ∧ W (i + 1) m' H') ∧ ∀ x H', J.yld i H x H' → g x (wipe σ vs) H' fun σ2 H2 => wipe σ2 vs = wipe σ vs ∧ tt σ2 H2 fun b H3 =>
    if b = true then wi1 σ2 H3 fun J1 H4 => ∃ W1 : Nat → Nat → Hp → Prop, (∃ m, W1 0 m H4) ∧ ∀ j k H, W1 j k H →
      (J1.stop j H ∧ Nx H) ∨ (J1.go j H ∧ ∃ Nx1 : Hp → Prop, (∀ H', Nx1 H' → ∃ k', k' < k ∧ W1 (j + 1) k' H') ∧ ∀ x H', J1.yld j H x H' → g1 x (wipe σ2 vs1) H' fun σ3 H5 => wipe σ3 vs1 = wipe σ2 vs1 ∧ tt1 σ3 H5 fun b H6 =>
        if b = true then te σ3 H6 fun y H7 => ∃ (z : Int) (S : Int → Bool) (n : Nat), y = .int z ∧ H7 D = some (SIo P w D S n) ∧ n + 1 < scanBound ∧ Nx1 (upd H7 D (SIo P w D (fun j => S j || decide (j = z)) (if S z = true then n else n + 1))) else Nx1 H6)
    else Nx H3)
variable {elt tg iter tg1 iter1 : Expr} {f0 f1 : List Expr} {scope : Scope} {own : List (Str × Nat)} {vs1 : List Nat} {pos : Pos} {wi wi1 : TI} {g g1 : TG} {tt tt1 : TT} {te : TE}
theorem pe_si2 (hc : X.calm = true) (hN : X.N.Nodup) (hi : PI X tg iter wi) (ok : BlkOk X.N X.env.scope scope own) (hv : ∀ i ∈ vs1, i ∈ own.map (·.2))
    (hg : ∀ (s : Shared) (H : Hp) (C : Addr) (cl : List (Str × Addr)) (fp : List Addr), PG (X.blk s H scope (compEnvC scope cl C X.env) fp) tg g) (ht : ∀ (s : Shared) (H : Hp) (C : Addr) (cl : List (Str × Addr)) (fp : List Addr), PTs (X.blk s H scope (compEnvC scope cl C X.env) fp) f0 tt)
    (hi1 : ∀ (s : Shared) (H : Hp) (C : Addr) (cl : List (Str × Addr)) (fp : List Addr), PI (X.blk s H scope (compEnvC scope cl C X.env) fp) tg1 iter1 wi1) (hg1 : ∀ (s : Shared) (H : Hp) (C : Addr) (cl : List (Str × Addr)) (fp : List Addr), PG (X.blk s H scope (compEnvC scope cl C X.env) fp) tg1 g1)
    (ht1 : ∀ (s : Shared) (H : Hp) (C : Addr) (cl : List (Str × Addr)) (fp : List Addr), PTs (X.blk s H scope (compEnvC scope cl C X.env) fp) f1 tt1) (he : ∀ (s : Shared) (H : Hp) (C : Addr) (cl : List (Str × Addr)) (fp : List Addr), PE (X.blk s H scope (compEnvC scope cl C X.env) fp) elt te)
    (hs : ∀ x, foldedSetIterable iter X.env x = pure x := by intro _; rfl) (hs1 : ∀ env x, foldedSetIterable iter1 env x = pure x := by intro _ _; rfl) :
    PE X (sc2 elt tg iter f0 tg1 iter1 f1 scope pos) (tSi2 X.prog X.w wi g tt wi1 g1 tt1 te (own.map (·.2)) vs1) := by
  refine ⟨fun pins s σ H Q I h => ?_⟩
  rw [PpSet.eval_SetComp]
  have cells : ∀ y ∈ scope.names, y.2 = .free → ∃ c, X.env.cells.lookup y.1 = some c := fun y hy e => (ok.free y hy e).elim (fun k => I.ok.has _ (.inl k)) fun k => I.ok.has _ (.inr k)
  refine wpAny_comprehension_free (use := none) rfl hs (closure_ok cells) ok.kind (fun y hy e => by rw [ok.uniq y hy, e]) (thn (hi.run pins s σ H _ I h) fun xv s1 hx => thn hx fun iv s2 h2 => ?_)
  obtain ⟨it, fp, tn, J, H2, e, I2, T, st2, ff2, q⟩ := h2
  subst e
  refine PpSet.newSet_ok (newEnv_comp ?_)
  generalize hD : s2.heap.objs.size = D
  obtain ⟨W, ⟨m0, w0⟩, turn⟩ := q D (I2.hok.fresh (Nat.le_of_eq hD))
  generalize hs3 : ({ s2 with heap := hot0 X.w s2.heap } : Shared) = s3
  generalize hH3 : upd H2 D (SIo X.prog X.w D (fun _ => false) 0) = H3 at w0
  have I3 : Inv X pins σ H3 s3 := by
    rw [← hs3, ← hH3]
    refine I2.laid (t' := s2.toks) (fun b o e => Heap.get?_push_of_some _ e) (Nat.le_of_eq hD) (sio_new (sg_fresh ?_))
    rw [← hD]
    exact Heap.get?_push_size _ rfl
  have heap3 : s3.heap = hot0 X.w s2.heap := by rw [← hs3]
  have ff3 : ∀ b ∈ fp, FpOk X pins H3 b ∧ b < s3.heap.objs.size := fun b hb => by
    obtain ⟨o, e, _⟩ := T.obj _ _ st2 b hb
    have lt := Heap.lt_size e
    refine ⟨⟨?_, (ff2 b hb).2⟩, by rw [heap3, Heap.size_push]; exact Nat.lt_succ_of_lt lt⟩
    rw [← hH3, upd_ne (by rw [← hD]; exact Nat.ne_of_lt lt)]
    exact (ff2 b hb).1
  have st3 : tn 0 s3.heap := T.keep _ _ _ st2 fun b _ o e => by rw [heap3]; exact Heap.get?_push_of_some _ e
  have I4 := block_start I3 ok hN ff3
  generalize hcl : cellsFrom (s3.heap.objs.size + 1) scope.names (cloFrom X.env.cells scope.names []) = cl at I4
  have p1 := hg s3 H3 s3.heap.objs.size cl fp
  have p2 := ht s3 H3 s3.heap.objs.size cl fp
  have p3 := he s3 H3 s3.heap.objs.size cl fp
  have p4 := hi1 s3 H3 s3.heap.objs.size cl fp
  have p5 := hg1 s3 H3 s3.heap.objs.size cl fp
  have p6 := ht1 s3 H3 s3.heap.objs.size cl fp
  show codeAny _ _ (.compStart (sc2 elt tg iter f0 tg1 iter1 f1 scope pos) 0 (.ref it) (.ref D) (compEnvC scope cl s3.heap.objs.size X.env)) (compPost (model X.prog X.w) X.A X.xe none (EP X pins σ Q) (.ref D) s3.heap.objs.size) { s3 with heap := pushCells (s3.heap.push { cls := .type "dict", data := .dict #[] }) scope.names }
  have none3 : ∀ b ∈ fp, H3 b = none := fun b hb => (ff3 b hb).1.1
  generalize hce : compEnvC scope cl s3.heap.objs.size X.env = ce at I4 p1 p2 p3 p4 p5 p6 ⊢
  have cL : ce.locals = s3.heap.objs.size := by rw [← hce]; rfl
  generalize hs4 : ({ s3 with heap := pushCells (s3.heap.push { cls := .type "dict", data := .dict #[] }) scope.names } : Shared) = s4 at I4 ⊢
  have st4 : tn 0 s4.heap := T.keep _ _ _ st3 fun b _ o e => by rw [← hs4]; exact pushCells_keeps _ _ _ _ (Heap.get?_push_of_some _ e)
  let Y := X.blk s3 H3 scope ce fp
  have alone : ∀ {σ' : L2.St} {H' : Hp} {s' : Shared}, Inv Y [] σ' H' s' → (∀ b ∈ fp, H' b = none) → ∀ b ∈ fp, FpOk Y [] H' b := fun {σ' H' s'} J' hn b hb =>
    ⟨hn b hb, (J'.ok.exf b hb).1, J'.ok.exfs b hb, .inl hb, fun x c e => (J'.ok.exf b hb).2 x c e, fun p hp => absurd (show p ∈ ([] : List (Addr × Obj)) ++ [] from hp) (by simp)⟩
  generalize hRR : compPost (model X.prog X.w) X.A X.xe none (EP X pins σ Q) (.ref D) s3.heap.objs.size = RR
  have last : ∀ s' m H', Inv X pins σ H' s' → Q (.ref D) H' → s'.heap.Ns s3.heap.objs.size m → FpOk X pins H' s3.heap.objs.size → RR (.ok .next) s' := fun s' m H' I' q hn f => by
    rw [← hRR]
    obtain ⟨f0, f1, f2, f3, f4, f5⟩ := f
    exact ⟨m, hn, fun h'' sb => ⟨.ref D, H', I'.turned (t' := s'.toks) (fun b o hb e => (sb.2 b hb).trans e) f0 f1 f3 f4 f5, rfl, q⟩⟩
  -- what stands between the turns of the outer loop
  let In (n : Nat) (s' : Shared) : Prop := ∃ i H', Inv Y [] (wipe σ (own.map (·.2))) H' s' ∧ tn i s'.heap ∧ (∀ b ∈ fp, H' b = none) ∧ W i n H'
  have loop : codeAny (model X.prog X.w) X.A (.compLoop (sc2 elt tg iter f0 tg1 iter1 f1 scope pos) 0 (.ref it) (.ref D) ce) RR s4 := by
    refine loopS_out (hs1 ce) In ?_ m0 ⟨0, H3, I4, st4, none3, w0⟩
    rintro n s5 ⟨i, H5, I5, st5, n5, w5⟩
    rcases turn i n H5 w5 with ⟨stop, qq⟩ | ⟨go, Nx, hNx, step⟩
    · refine thnF (T.done Y rfl rfl rfl hc i [] s5 _ H5 (fun _ _ => False) I5 (alone I5 n5) st5 stop) fun r s6 ⟨hr, I6⟩ => ?_
      subst hr
      have I7 : Inv X pins σ H5 s6 := I3.call' (ch := fp) I6.os I6.base I6.hok I6.bare fun b hb => ⟨(ff3 b hb).1.2.2.2.1, (ff3 b hb).1.2.1, (ff3 b hb).1.2.2.2.2.1, (ff3 b hb).1.2.2.2.2.2⟩
      have nC : H5 s3.heap.objs.size = none := cL ▸ (show H5 ce.locals = none from I6.free)
      obtain ⟨m, hn, _⟩ := I6.loc
      exact last s6 m H5 I7 qq (cL ▸ (show s6.heap.Ns ce.locals m from hn)) (I3.fpOk (Nat.le_refl _) nC)
    · refine thnF (T.item Y rfl rfl rfl hc i [] s5 _ H5 (fun _ _ => False) I5 (alone I5 n5) st5 go) fun r s6 ⟨u, hr, h6⟩ => ?_
      subst hr
      refine thnF h6 fun _ s7 ⟨x, H7, I7, r7, y7, st7, n7⟩ => ?_
      have I7' := I7.pinned (alone I7 n7) (T.obj _ _ st7)
      refine thnF (p1.run _ s7 _ H7 x u _ I7' r7 (step x H7 y7)) fun _ s8 ⟨σ8, H8, I8, hw8, q8⟩ => ?_
      refine thnF (p2.run _ s8 σ8 H8 _ I8 q8) fun b s9 ⟨H9, I9, q9⟩ => ?_
      have back : ∀ {σ9 : L2.St} {s' : Shared} {H' : Hp}, Inv Y ([] ++ pinsAt fp s7.heap) σ9 H' s' → (wipe σ (own.map (·.2))).length = σ9.length → (∀ (j : Nat) v, (wipe σ (own.map (·.2)))[j]? = some (some v) → σ9[j]? = some (some v)) → Nx H' → ∃ m, m < n ∧ In m s' := fun {σ9 s' H'} J' hl hk nx => by
        obtain ⟨m', hm, w'⟩ := hNx H' nx
        have pn : ∀ b ∈ fp, ∀ o, s7.heap.get? b = some o → s'.heap.get? b = some o ∧ H' b = none := fun b hb o e => let z := J'.pin (b, o) (List.mem_append_right _ (List.mem_append_right _ (mem_pinsAt hb e))); ⟨z.1, z.2.1⟩
        exact ⟨m', hm, i + 1, H', (J'.unpinned (pins := [])).weak hl hk, T.keep _ _ _ st7 fun b hb o e => (pn b hb o e).1, fun b hb => (let ⟨o, e, _⟩ := T.obj _ _ st7 b hb; (pn b hb o e).2), w'⟩
      have l8 : (wipe σ (own.map (·.2))).length = σ8.length := by rw [← hw8, wipe_length]
      match b, q9 with
      | false, q9 =>
        have q9 : Nx H9 := q9
        exact back I9 l8 (fun j v e => by rw [← hw8] at e; exact (wipe_some e).1) q9
      | true, q9 =>
        refine thnF (p4.run _ s9 σ8 H9 _ I9 q9) fun xv s10 hx => thnF hx fun iv s11 h11 => ?_
        obtain ⟨jt, fp1, tn1, J1, H11, e1, I11, T1, st11, f11, W1, ⟨m1, w1⟩, turn1⟩ := h11
        subst e1
        have alone1 : ∀ {H' : Hp}, (∀ b ∈ fp1, H' b = none) → ∀ b ∈ fp1, FpOk Y ([] ++ pinsAt fp s7.heap) H' b := fun hn b hb => ⟨hn b hb, (f11 b hb).2⟩
        let In1 (k : Nat) (s' : Shared) : Prop := ∃ j H', Inv Y ([] ++ pinsAt fp s7.heap) (wipe σ8 vs1) H' s' ∧ tn1 j s'.heap ∧ (∀ b ∈ fp1, H' b = none) ∧ W1 j k H'
        have loop1 : codeAny (model X.prog X.w) X.A (.compLoop (sc2 elt tg iter f0 tg1 iter1 f1 scope pos) 1 (.ref jt) (.ref D) ce) (fun r s' => match r with
              | .ok _ => ∃ m, m < n ∧ In m s'
              | .error _ => False) s11 := by
          refine loopS_in In1 ?_ m1 ⟨0, H11, I11.weak (wipe_length _ _) (fun j v e => (wipe_some e).1), st11, fun b hb => (f11 b hb).1, w1⟩
          rintro k s12 ⟨j, H12, I12, st12, n12, w12⟩
          rcases turn1 j k H12 w12 with ⟨stop1, nx1⟩ | ⟨go1, Nx1, hNx1, step1⟩
          · refine thnF (T1.done Y rfl rfl rfl hc j _ s12 (wipe σ8 vs1) H12 (fun _ _ => False) I12 (alone1 n12) st12 stop1) fun r s13 ⟨hr, I13⟩ => ?_
            subst hr
            exact back I13 (l8.trans (wipe_length σ8 vs1).symm) (fun j v e => by
              rw [← hw8] at e
              obtain ⟨e1, e2⟩ := wipe_some e
              exact (wipe_out fun z => e2 (hv j z)).trans e1) nx1
          · refine thnF (T1.item Y rfl rfl rfl hc j _ s12 (wipe σ8 vs1) H12 (fun _ _ => False) I12 (alone1 n12) st12 go1) fun r s13 ⟨u1, hr, h13⟩ => ?_
            subst hr
            refine thnF h13 fun _ s14 ⟨x1, H14, I14, r14, y14, st14, n14⟩ => ?_
            have I14' := I14.pinned (alone1 n14) (T1.obj _ _ st14)
            refine thnF (p5.run _ s14 (wipe σ8 vs1) H14 x1 u1 _ I14' r14 (step1 x1 H14 y14)) fun _ s15 ⟨σ15, H15, I15, hw15, q15⟩ => ?_
            refine thnF (p6.run _ s15 σ15 H15 _ I15 q15) fun b1 s16 ⟨H16, I16, q16⟩ => ?_
            have back1 : ∀ {s' : Shared} {H' : Hp}, Inv Y (([] ++ pinsAt fp s7.heap) ++ pinsAt fp1 s14.heap) σ15 H' s' → Nx1 H' → ∃ m, m < k ∧ In1 m s' := fun {s' H'} J' nx => by
              obtain ⟨m', hm, w'⟩ := hNx1 H' nx
              have pn : ∀ b ∈ fp1, ∀ o, s14.heap.get? b = some o → s'.heap.get? b = some o ∧ H' b = none := fun b hb o e => let z := J'.pin (b, o) (List.mem_append_right _ (List.mem_append_right _ (mem_pinsAt hb e))); ⟨z.1, z.2.1⟩
              exact ⟨m', hm, j + 1, H', J'.unpinned.weak (by rw [← hw15, wipe_length]) (fun j v e => by rw [← hw15] at e; exact (wipe_some e).1), T1.keep _ _ _ st14 fun b hb o e => (pn b hb o e).1, fun b hb => (let ⟨o, e, _⟩ := T1.obj _ _ st14 b hb; (pn b hb o e).2), w'⟩
            match b1, q16 with
            | false, q16 =>
              have q16 : Nx1 H16 := q16
              exact back1 I16 q16
            | true, q16 =>
              refine thnF (p3.run _ s16 σ15 H16 _ I16 q16) fun z s17 ⟨yv, H17, I17, r17, zz, S0, n0, ey, hD17, room17, nx⟩ => ?_
              subst ey
              obtain ⟨tk, rfl⟩ : ∃ tk, z = Value.int zz tk := r17
              exact si_add (X := Y) I17 hD17 room17 fun s18 I18 => back1 I18 nx
        exact startS_1 loop1 (T1.self X.A 0 _ _ _ st11 loop1)
  exact PpSet.codeAny_compStart_set loop (T.self X.A 0 _ _ _ st4 loop)
end

/-! ### sorted({z for .. for ..}) of whole numbers -/
def dSiGo (g : DTG) (tt : DTT) (te : DTE) (env : EV) : List PyData → List Int → (List Int → Prop) → Prop
  | [], acc, Q => Q acc
  | y :: ys, acc, Q => g (.d y) env fun env1 => tt env1 fun b => if b = true then te env1 fun s => ∃ z, s.fz = .d (.int z) ∧ acc.length + 1 < scanBound ∧ dSiGo g tt te env ys (acc ++ [z]) Q else dSiGo g tt te env ys acc Q
def dSiGo2 (g : DTG) (tt : DTT) (ti1 : DTI) (g1 : DTG) (tt1 : DTT) (te : DTE) (js1 : List Nat) (env : EV) : List PyData → List Int → (List Int → Prop) → Prop
  | [], acc, Q => Q acc
  | y :: ys, acc, Q => g (.d y) env fun env1 => tt env1 fun b => if b = true then ti1 (unown env1) fun zs => dSiGo g1 tt1 te (wipeE (unown env1) js1) zs acc fun acc' => dSiGo2 g tt ti1 g1 tt1 te js1 env ys acc' Q else dSiGo2 g tt ti1 g1 tt1 te js1 env ys acc Q
def dSi2 (ti : DTI) (g : DTG) (tt : DTT) (ti1 : DTI) (g1 : DTG) (tt1 : DTT) (te : DTE) (js js1 : List Nat) : DTE := fun env Q => ti env fun ys => dSiGo2 g tt ti1 g1 tt1 te js1 (wipeE env js) ys [] fun zs => sortedOfI zs Q
section
variable {K : PySem.W.Frag} {F : Fr} {P : Program} {w : World}
theorem memB_appI {xs : List Int} {z : Int} : memB (xs ++ [z]) = fun j => memB xs j || decide (j = z) := by
  funext j
  unfold memB
  simp [List.mem_append]
theorem sd_Si2 {js js1 : List Nat} {wi wi1 : TI} {g g1 : TG} {tt tt1 : TT} {te : TE} {fi fi1 : DTI} {fg fg1 : DTG} {ft ft1 : DTT} {fe : DTE} (hi : SdI K F wi fi) (hg : SdG K F js g fg) (ht : SdT K F tt ft) (hi1 : SdI K F wi1 fi1) (hg1 : SdG K F js1 g1 fg1) (ht1 : SdT K F tt1 ft1) (he : SdE K F te fe) :
    SdE K F (tCB (rSortSI P w) (tCons (tSi2 P w wi g tt wi1 g1 tt1 te js js1) tNil)) (dSi2 fi fg ft fi1 fg1 ft1 fe js js1) := by
  intro Hb H σ env Q k r q c
  refine hi Hb H σ env _ _ r q fun J Hb1 H1 ys st1 gv q1 => ?_
  obtain ⟨Gd, Y, wk, hGd, hY⟩ := gv.ex
  intro D hD
  have r1 := r.on st1
  have nD : ¬ F.hid.has D := fun z => by obtain ⟨o, e⟩ := st1.st.ok.there z; rw [hD] at e; cases e
  have bD : Hb1 D = none := none_back (fun o e => st1.st.ex D o e) hD
  -- D keeps standing, unknown
  have keepD : ∀ {Ha Hc Hbb Hbc : Hp} {o : HO}, Step F.hid Hbb Ha Hbc Hc → Ha D = some o → Hbb D = none → Hc D = some o ∧ Hbc D = none := fun {Ha Hc Hbb Hbc o} t h1 h2 => by
    refine ⟨t.keep D _ h1 nD, ?_⟩
    cases z : Hbc D with
    | none => rfl
    | some u =>
      have := t.new D u z h2
      rw [h1] at this; cases this
  -- D written: the rest as it was
  have write : ∀ {Hbx Hx : Hp} (o : HO), Step F.hid Hb1 H1 Hbx Hx → Hbx D = none → Step F.hid Hb1 H1 Hbx (upd Hx D o) := fun {Hbx Hx} o s hN =>
    ⟨⟨fun b u e => by rw [upd_ne (fun z : b = D => by rw [z, hN] at e; cases e)]; exact s.st.ex b u e, s.st.ok.keeps fun b u hb e => by rw [upd_ne (fun z : b = D => nD (z ▸ hb))]; exact e, s.st.out⟩, s.ex, s.new,
      fun b u e hb => by rw [upd_ne (ne_of_none e hD)]; exact s.keep b u e hb⟩
  let Fin : List Int → Prop := fun zs => sortedOfI zs Q
  let In (i : Nat) (H' : Hp) : Prop := ∃ Hb' n xs, Step F.hid Hb1 H1 Hb' H' ∧ H' D = some (SIo P w D (memB xs) n) ∧ Hb' D = none ∧ n ≤ xs.length ∧ dSiGo2 fg ft fi1 fg1 ft1 fe js1 (wipeE env js) (ys.drop i) xs Fin
  refine ⟨fun i m H' => m = ys.length - i ∧ i ≤ ys.length ∧ In i H', ⟨ys.length, by simp, Nat.zero_le _, Hb1, 0, [], Step.raw st1.st hD, upd_same, bD, Nat.zero_le _, q1⟩, ?_⟩
  rintro i m H' ⟨rfl, hle, Hb', n, xs, s, hA, hN, hl, q'⟩
  have gd := hGd H' (s.ex.trans s.st.ex)
  by_cases hlt : i < ys.length
  · refine .inr ⟨wk.goes i H' hlt gd, In (i + 1), fun H2 p => ⟨_, (by omega : ys.length - (i + 1) < ys.length - i), rfl, hlt, p⟩, fun x H2 y => ?_⟩
    obtain ⟨Hb2, d, hd, st2, hx⟩ := hY i Hb' H' x H2 hlt s.st s.ex (wk.yields i H' x H2 hlt gd y)
    rw [drop_at hd] at q'
    obtain ⟨hA2, hN2⟩ := keepD st2 hA hN
    have rw2 := (r1.on (s.trans st2)).wipe js
    refine hg Hb2 H2 _ _ x (.d d) _ _ rw2 hx rfl q' fun σ3 env3 o3 r3 q3 => ⟨by rw [wipe_off o3, wipe_idem], ?_⟩
    refine ht Hb2 H2 σ3 env3 _ _ r3 q3 fun b Hb3 H3 st3 q4 => ?_
    obtain ⟨hA3, hN3⟩ := keepD st3 hA2 hN2
    have s3 := (s.trans st2).trans st3
    have r3 := r3.on st3
    match b, q4 with
    | false, q4 => exact ⟨Hb3, n, xs, s3, hA3, hN3, hl, q4⟩
    | true, q4 =>
      show wi1 σ3 H3 _
      refine hi1 Hb3 H3 σ3 (unown env3) _ _ r3.unown q4 fun J1 Hb4 H4 zs st4 gv1 q5 => ?_
      obtain ⟨Gd1, Y1, wk1, hGd1, hY1⟩ := gv1.ex
      obtain ⟨hA4, hN4⟩ := keepD st4 hA3 hN3
      let Fin1 : List Int → Prop := fun acc' => dSiGo2 fg ft fi1 fg1 ft1 fe js1 (wipeE env js) (ys.drop (i + 1)) acc' Fin
      let In1 (j : Nat) (H' : Hp) : Prop := ∃ Hb' n xs, Step F.hid Hb1 H1 Hb' H' ∧ Same Hb4 Hb' ∧ Rep K F Hb' H' σ3 (unown env3) ∧ H' D = some (SIo P w D (memB xs) n) ∧ Hb' D = none ∧ n ≤ xs.length ∧ dSiGo fg1 ft1 fe (wipeE (unown env3) js1) (zs.drop j) xs Fin1
      refine ⟨fun j k H' => k = zs.length - j ∧ j ≤ zs.length ∧ In1 j H', ⟨zs.length, by simp, Nat.zero_le _, Hb4, n, xs, s3.trans st4, Same.refl _, r3.unown.on st4, hA4, hN4, hl, q5⟩, ?_⟩
      rintro j k H5 ⟨rfl, hle1, Hb5, n5, xs5, s5, same5, r5, hA5, hN5, hl5, q6⟩
      have gd1 := hGd1 H5 (same5.trans s5.st.ex)
      by_cases hlt1 : j < zs.length
      · refine .inr ⟨wk1.goes j H5 hlt1 gd1, In1 (j + 1), fun H6 p => ⟨_, (by omega : zs.length - (j + 1) < zs.length - j), rfl, hlt1, p⟩, fun x1 H6 y1 => ?_⟩
        obtain ⟨Hb6, d1, hd1, st6, hx1⟩ := hY1 j Hb5 H5 x1 H6 hlt1 s5.st same5 (wk1.yields j H5 x1 H6 hlt1 gd1 y1)
        rw [drop_at hd1] at q6
        obtain ⟨hA6, hN6⟩ := keepD st6 hA5 hN5
        have r6 := r5.on st6
        refine hg1 Hb6 H6 _ _ x1 (.d d1) _ _ (r6.wipe js1) hx1 rfl q6 fun σ7 env7 o7 r7 q7 => ⟨by rw [wipe_off o7, wipe_idem], ?_⟩
        refine ht1 Hb6 H6 σ7 env7 _ _ r7 q7 fun b1 Hb8 H8 st8 q8 => ?_
        obtain ⟨hA8, hN8⟩ := keepD st8 hA6 hN6
        match b1, q8 with
        | false, q8 => exact ⟨Hb8, n5, xs5, (s5.trans st6).trans st8, same5.trans (st6.ex.trans st8.ex), r6.on st8, hA8, hN8, hl5, q8⟩
        | true, q8 =>
          show te σ7 H8 _
          refine he.go (Q := fun s => ∃ z, s = .d (.int z) ∧ xs5.length + 1 < scanBound ∧ dSiGo fg1 ft1 fe (wipeE (unown env3) js1) (zs.drop (j + 1)) (xs5 ++ [z]) Fin1) (r7.on st8) q8 fun v Hb9 H9 u st9 ru _ q9 => ?_
          obtain ⟨z, eu, lim, q9⟩ := q9
          subst eu
          obtain ⟨hA9, hN9⟩ := keepD st9 hA8 hN8
          have s9 := ((s5.trans st6).trans st8).trans st9
          have nx : ∀ o : HO, Step F.hid Hb1 H1 Hb9 (upd H9 D o) ∧ Same Hb4 Hb9 ∧ Rep K F Hb9 (upd H9 D o) σ3 (unown env3) := fun o => ⟨write o s9 hN9, same5.trans (st6.ex.trans (st8.ex.trans st9.ex)), ((r6.on st8).on st9).swap o (r1.step.back hD) hN9 nD⟩
          obtain rfl := int_of ru
          refine ⟨z, memB xs5, n5, rfl, hA9, Nat.lt_of_le_of_lt (Nat.succ_le_succ hl5) lim, ?_⟩
          obtain ⟨a1, a2, a3⟩ := nx (SIo P w D (fun j => memB xs5 j || decide (j = z)) (if memB xs5 z = true then n5 else n5 + 1))
          refine ⟨Hb9, if memB xs5 z = true then n5 else n5 + 1, xs5 ++ [z], a1, a2, a3, ?_, hN9, ?_, q9⟩
          · rw [upd_same, memB_appI]
          · rw [List.length_append]; simp only [List.length_singleton]; split <;> omega
      · obtain rfl : j = zs.length := by omega
        rw [List.drop_length] at q6
        exact .inl ⟨wk1.stops H5 gd1, Hb5, n5, xs5, s5, hA5, hN5, hl5, q6⟩
  · obtain rfl : i = ys.length := by omega
    rw [List.drop_length] at q'
    exact .inl ⟨wk.stops H' gd, sort_endI (K := K) (st1.trans s) hA q' c⟩
end
section
variable {prog : Program} {w : World} {A : Around} {R : Result → Shared → Prop} {s : Shared} {kx vx t0 i0 t1 i1 : Expr} {f0 f1 : List Expr} {scope : Scope} {pos : Pos} {it : Value} {D : Addr} {env : Env}
/-- the written comprehension -/
abbrev dcc2 (kx vx t0 i0 : Expr) (f0 : List Expr) (t1 i1 : Expr) (f1 : List Expr) (scope : Scope) (pos : Pos) : Expr := .DictComp kx vx [⟨t0, i0, f0, 0⟩, ⟨t1, i1, f1, 0⟩] scope pos
theorem turnD_out (kx vx t0 i0 t1 i1 : Expr) (f0 f1 : List Expr) (scope : Scope) (pos : Pos) (it : Value) (D : Addr) (env : Env) : compTurn (dcc2 kx vx t0 i0 f0 t1 i1 f1 scope pos) 0 it (.ref D) env = (do
      standAt i0.pos
      match ← pyNext it with
      | none => pure (.done .next)
      | some v =>
        letOwnedTupleGo t0 it v; assign t0 env v
        let mut ok := true
        for c in f0 do
          if ok then ok ← isTrue c env (eval c env)
        if ok then
          let x ← eval i1 env
          standAt i1.pos; let x ← foldedSetIterable i1 env x
          let _ ← runOwn (.compStart (dcc2 kx vx t0 i0 f0 t1 i1 f1 scope pos) 1 (← holding [x] (pyIter x)) (.ref D) env) env
        again (.compLoop (dcc2 kx vx t0 i0 f0 t1 i1 f1 scope pos) 0 it (.ref D) env)) := by rfl
theorem turnD_in (kx vx t0 i0 t1 i1 : Expr) (f0 f1 : List Expr) (scope : Scope) (pos : Pos) (it : Value) (D : Addr) (env : Env) : compTurn (dcc2 kx vx t0 i0 f0 t1 i1 f1 scope pos) 1 it (.ref D) env = (do
      standAt i1.pos
      match ← pyNext it with
      | none => pure (.done .next)
      | some v =>
        letOwnedTupleGo t1 it v; assign t1 env v
        let mut ok := true
        for c in f1 do
          if ok then ok ← isTrue c env (eval c env)
        if ok then
          (do
            let kv ← eval kx env
            let vv ← holding [kv] (eval vx env)
            standAt { kx.pos with endLine := vx.pos.endLine, endCol := vx.pos.endCol }
            holding [kv, vv] (dictSet D kv vv))
        again (.compLoop (dcc2 kx vx t0 i0 f0 t1 i1 f1 scope pos) 1 it (.ref D) env)) := by rfl
theorem loopD_out (hs : ∀ x, foldedSetIterable i1 env x = pure x) (I : Nat → Shared → Prop)
    (turn : ∀ n s, I n s → wpAny (model prog w) A (pyNext it) (fun r s₁ => match r with
      | none => R (.ok .next) s₁
      | some v => wpAny (model prog w) A (letOwnedTupleGo t0 it v) (fun _ s₂ => wpAny (model prog w) A (assign t0 env v) (fun _ s₃ => wpAny (model prog w) A (tests f0 env) (fun ok s₄ =>
            if ok = true then wpAny (model prog w) A (eval i1 env) (fun x s₅ => wpAny (model prog w) A (pyIter x) (fun j s₆ =>
              codeAny (model prog w) A (.compStart (dcc2 kx vx t0 i0 f0 t1 i1 f1 scope pos) 1 j (.ref D) env) (fun r s' => match r with
                | .ok _ => ∃ m, m < n ∧ I m s'
                | .error _ => False) s₆) (nb prog w A env R) s₅) (nb prog w A env R) s₄
            else ∃ m, m < n ∧ I m s₄) (nb prog w A env R) s₃) (nb prog w A env R) s₂) (nb prog w A env R) s₁) (nb prog w A env R) s) (n : Nat) (h : I n s) :
    codeAny (model prog w) A (.compLoop (dcc2 kx vx t0 i0 f0 t1 i1 f1 scope pos) 0 it (.ref D) env) R s := by
  refine codeAny_loop rfl I (fun n s hI => ?_) n h
  show wpAny _ A ((compTurn (dcc2 kx vx t0 i0 f0 t1 i1 f1 scope pos) 0 it (.ref D) env).onRaise (fun x => do noteFrame x env; theTreesLotGoes x)) _ _ s
  refine wpAny_noted ?_
  rw [turnD_out]
  refine wpAny_bind (wpAny_standAt (wpAny_bind (wpAny_mono (turn n s hI) (fun r s₁ h₁ => ?_) fun _ _ z => z)))
  match r, h₁ with
  | none, h₁ => exact wpAny_pure h₁
  | some v, h₁ =>
    refine wpAny_bind (wpAny_mono h₁ (fun _ s₂ h₂ => ?_) fun _ _ z => z)
    refine wpAny_bind (wpAny_mono h₂ (fun _ s₃ h₃ => wpAny_bind (wpAny_mono h₃ (fun ok s₄ h₄ => ?_) fun _ _ z => z)) fun _ _ z => z)
    match ok, h₄ with
    | false, h₄ => exact wpAny_pure ⟨rfl, h₄⟩
    | true, h₄ =>
      refine wpAny_bind (wpAny_mono h₄ (fun x s₅ h₅ => ?_) fun _ _ z => z)
      refine wpAny_bind (wpAny_standAt (wpAny_bind (wpAny_of_eq (hs x) (wpAny_bind (wpAny_holding (wpAny_mono h₅ (fun j s₆ h₆ => ?_) fun _ _ z => z))))))
      refine wpAny_bind (wpAny_runOwn ?_)
      rw [Around.mark_none]
      refine codeAny_mono h₆ fun r s' hr => ?_
      match r, hr with
      | .ok f, hr => first | exact wpAny_pure ⟨rfl, hr⟩ | exact wpAny_bind (wpAny_pure (wpAny_pure ⟨rfl, hr⟩))
      | .error e, hr => exact hr.elim
theorem loopD_in (I : Nat → Shared → Prop)
    (turn : ∀ n s, I n s → wpAny (model prog w) A (pyNext it) (fun r s₁ => match r with
      | none => R (.ok .next) s₁
      | some v => wpAny (model prog w) A (letOwnedTupleGo t1 it v) (fun _ s₂ => wpAny (model prog w) A (assign t1 env v) (fun _ s₃ => wpAny (model prog w) A (tests f1 env) (fun ok s₄ =>
            if ok = true then wpAny (model prog w) A (eval kx env) (fun kv s₅ => wpAny (model prog w) A (eval vx env) (fun vv s₆ => wpAny (model prog w) A (dictSet D kv vv) (fun _ s₇ => ∃ m, m < n ∧ I m s₇) (nb prog w A env R) s₆) (nb prog w A env R) s₅) (nb prog w A env R) s₄
            else ∃ m, m < n ∧ I m s₄) (nb prog w A env R) s₃) (nb prog w A env R) s₂) (nb prog w A env R) s₁) (nb prog w A env R) s) (n : Nat) (h : I n s) :
    codeAny (model prog w) A (.compLoop (dcc2 kx vx t0 i0 f0 t1 i1 f1 scope pos) 1 it (.ref D) env) R s := by
  refine codeAny_loop rfl I (fun n s hI => ?_) n h
  show wpAny _ A ((compTurn (dcc2 kx vx t0 i0 f0 t1 i1 f1 scope pos) 1 it (.ref D) env).onRaise (fun x => do noteFrame x env; theTreesLotGoes x)) _ _ s
  refine wpAny_noted ?_
  rw [turnD_in]
  refine wpAny_bind (wpAny_standAt (wpAny_bind (wpAny_mono (turn n s hI) (fun r s₁ h₁ => ?_) fun _ _ z => z)))
  match r, h₁ with
  | none, h₁ => exact wpAny_pure h₁
  | some v, h₁ =>
    refine wpAny_bind (wpAny_mono h₁ (fun _ s₂ h₂ => ?_) fun _ _ z => z)
    refine wpAny_bind (wpAny_mono h₂ (fun _ s₃ h₃ => wpAny_bind (wpAny_mono h₃ (fun ok s₄ h₄ => ?_) fun _ _ z => z)) fun _ _ z => z)
    match ok, h₄ with
    | false, h₄ => exact wpAny_pure ⟨rfl, h₄⟩
    | true, h₄ => exact wpAny_bind (wpAny_bind (wpAny_mono h₄ (fun kv s₅ h₅ => wpAny_bind (wpAny_holding (wpAny_mono h₅ (fun vv s₆ h₆ => wpAny_bind (wpAny_standAt (wpAny_holding (wpAny_mono h₆ (fun _ s₇ h₇ => wpAny_pure ⟨rfl, h₇⟩) fun _ _ z => z)))) fun _ _ z => z))) fun _ _ z => z))
theorem startD_1 (h0 : codeAny (model prog w) A (.compLoop (dcc2 kx vx t0 i0 f0 t1 i1 f1 scope pos) 1 it (.ref D) env) R s)
    (h : wpAny (model prog w) A (pyIter it) (fun j s' => codeAny (model prog w) A (.compLoop (dcc2 kx vx t0 i0 f0 t1 i1 f1 scope pos) 1 j (.ref D) env) R s') (nb prog w A env R) s) :
    codeAny (model prog w) A (.compStart (dcc2 kx vx t0 i0 f0 t1 i1 f1 scope pos) 1 it (.ref D) env) R s := by
  refine codeAny_of_tree ?_
  show wpAny _ _ ((compStart (dcc2 kx vx t0 i0 f0 t1 i1 f1 scope pos) 1 it (.ref D) env).onRaise (fun x => do noteFrame x env; standAt theWindowsPlace)) _ _ s
  refine wpAny_notedAt ?_
  unfold compStart
  show wpAny _ _ (ask >>= _) _ _ s
  refine wpAny_bind (wpAny_askSetting (wpAny_ite ?_))
  split
  · first | exact wpAny_bind (wpAny_pure (wpAny_pure (And.intro rfl h0))) | exact wpAny_pure (And.intro rfl h0)
  · first
      | exact wpAny_bind (wpAny_rule (wpAny_bind (wpAny_standAt (wpAny_bind (wpAny_mono h (fun j s' z => wpAny_pure (And.intro rfl z)) fun _ _ x => x)))))
      | (refine wpAny_bind (wpAny_rule ?_); show wpAny _ _ (standAt i1.pos >>= _) _ _ s; exact wpAny_bind (wpAny_standAt (wpAny_bind (wpAny_mono h (fun j s' z => wpAny_pure (And.intro rfl z)) fun _ _ x => x))))
end
section
variable {X : Cx}
/-- the reading: as of a list's comprehension, the new object a set -/
def tDc2 (wi : TI) (g : TG) (tt : TT) (wi1 : TI) (g1 : TG) (tt1 : TT) (tk te : TE) (vs vs1 : List Nat) : TE := fun σ H Q => wi σ H fun J H1 => ∀ D, H1 D = none → ∃ W : Nat → Nat → Hp → Prop, (∃ m, W 0 m (upd H1 D (.dK []))) ∧ ∀ i m H, W i m H →
  (J.stop i H ∧ Q (.ref D) H) ∨ (J.go i H ∧ ∃ Nx : Hp → Prop, (∀ H', Nx H' → ∃ m', m' < m ∧ W (i + 1) m' H') ∧ ∀ x H', J.yld i H x H' → g x (wipe σ vs) H' fun σ2 H2 => wipe σ2 vs = wipe σ vs ∧ tt σ2 H2 fun b H3 =>
    if b = true then wi1 σ2 H3 fun J1 H4 => ∃ W1 : Nat → Nat → Hp → Prop, (∃ m, W1 0 m H4) ∧ ∀ j k H, W1 j k H →
      (J1.stop j H ∧ Nx H) ∨ (J1.go j H ∧ ∃ Nx1 : Hp → Prop, (∀ H', Nx1 H' → ∃ k', k' < k ∧ W1 (j + 1) k' H') ∧ ∀ x H', J1.yld j H x H' → g1 x (wipe σ2 vs1) H' fun σ3 H5 => wipe σ3 vs1 = wipe σ2 vs1 ∧ tt1 σ3 H5 fun b H6 =>
        if b = true then tk σ3 H6 fun y H7 => te σ3 H7 fun z H8 => ∃ (kvs : List (Key × V)) (k : Key), y = kV k ∧ H8 D = some (.dK kvs) ∧ kvs.length < sizeLine ∧ Nx1 (upd H8 D (.dK (putK kvs k z))) else Nx1 H6)
    else Nx H3)
variable {kx vx tg iter tg1 iter1 : Expr} {f0 f1 : List Expr} {scope : Scope} {own : List (Str × Nat)} {vs1 : List Nat} {pos : Pos} {wi wi1 : TI} {g g1 : TG} {tt tt1 : TT} {tk te : TE}
theorem dc2_core {pins : List (Addr × Obj)} {s : Shared} {σ : L2.St} {H : Hp} {Q : VK} {pos' : Pos} {use : Option (Value → Sem Unit)} {Qf : Value → Shared → Prop} (hc : X.calm = true) (hN : X.N.Nodup) (I : Inv X pins σ H s) (hi : PI X tg iter wi) (ok : BlkOk X.N X.env.scope scope own) (hv : ∀ i ∈ vs1, i ∈ own.map (·.2))
    (hg : ∀ (s : Shared) (H : Hp) (C : Addr) (cl : List (Str × Addr)) (fp : List Addr), PG (X.blk s H scope (compEnvC scope cl C X.env) fp) tg g) (ht : ∀ (s : Shared) (H : Hp) (C : Addr) (cl : List (Str × Addr)) (fp : List Addr), PTs (X.blk s H scope (compEnvC scope cl C X.env) fp) f0 tt)
    (hi1 : ∀ (s : Shared) (H : Hp) (C : Addr) (cl : List (Str × Addr)) (fp : List Addr), PI (X.blk s H scope (compEnvC scope cl C X.env) fp) tg1 iter1 wi1) (hg1 : ∀ (s : Shared) (H : Hp) (C : Addr) (cl : List (Str × Addr)) (fp : List Addr), PG (X.blk s H scope (compEnvC scope cl C X.env) fp) tg1 g1)
    (ht1 : ∀ (s : Shared) (H : Hp) (C : Addr) (cl : List (Str × Addr)) (fp : List Addr), PTs (X.blk s H scope (compEnvC scope cl C X.env) fp) f1 tt1) (hk : ∀ (s : Shared) (H : Hp) (C : Addr) (cl : List (Str × Addr)) (fp : List Addr), PE (X.blk s H scope (compEnvC scope cl C X.env) fp) kx tk) (he : ∀ (s : Shared) (H : Hp) (C : Addr) (cl : List (Str × Addr)) (fp : List Addr), PE (X.blk s H scope (compEnvC scope cl C X.env) fp) vx te)
    (hs : ∀ x, foldedSetIterable iter X.env x = pure x := by intro _; rfl) (hs1 : ∀ env x, foldedSetIterable iter1 env x = pure x := by intro _ _; rfl) 
    (h : tDc2 wi g tt wi1 g1 tt1 tk te (own.map (·.2)) vs1 σ H Q) (hRR : ∀ D C s' m H', Inv X pins σ H' s' → Q (.ref D) H' → s'.heap.Ns C m → FpOk X pins H' C → compPost (model X.prog X.w) X.A X.xe use Qf (.ref D) C (.ok .next) s') :
    wpAny (model X.prog X.w) X.A (comprehension (dcc2 kx vx tg iter f0 tg1 iter1 f1 scope pos) scope X.env pos' newDict false (eval iter X.env) use) Qf X.xe s := by
  have cells : ∀ y ∈ scope.names, y.2 = .free → ∃ c, X.env.cells.lookup y.1 = some c := fun y hy e => (ok.free y hy e).elim (fun k => I.ok.has _ (.inl k)) fun k => I.ok.has _ (.inr k)
  refine wpAny_comprehension_free (use := use) rfl hs (closure_ok cells) ok.kind (fun y hy e => by rw [ok.uniq y hy, e]) (thn (hi.run pins s σ H _ I h) fun xv s1 hx => thn hx fun iv s2 h2 => ?_)
  obtain ⟨it, fp, tn, J, H2, e, I2, T, st2, ff2, q⟩ := h2
  subst e
  refine wpAny_newObj_type (newEnv_comp ?_)
  generalize hD : s2.heap.objs.size = D
  obtain ⟨W, ⟨m0, w0⟩, turn⟩ := q D (I2.hok.fresh (Nat.le_of_eq hD))
  generalize hs3 : ({ s2 with heap := s2.heap.push { cls := .type "dict", data := .dict #[] } } : Shared) = s3
  generalize hH3 : upd H2 D (.dK []) = H3 at w0
  have I3 : Inv X pins σ H3 s3 := by
    rw [← hs3, ← hH3]
    refine I2.laid (t' := s2.toks) (fun b o e => Heap.get?_push_of_some _ e) (Nat.le_of_eq hD) ?_
    rw [← hD]
    exact dk_empty s2.heap I2.big
  have heap3 : s3.heap = s2.heap.push { cls := .type "dict", data := .dict #[] } := by rw [← hs3]
  have ff3 : ∀ b ∈ fp, FpOk X pins H3 b ∧ b < s3.heap.objs.size := fun b hb => by
    obtain ⟨o, e, _⟩ := T.obj _ _ st2 b hb
    have lt := Heap.lt_size e
    refine ⟨⟨?_, (ff2 b hb).2⟩, by rw [heap3, Heap.size_push]; exact Nat.lt_succ_of_lt lt⟩
    rw [← hH3, upd_ne (by rw [← hD]; exact Nat.ne_of_lt lt)]
    exact (ff2 b hb).1
  have st3 : tn 0 s3.heap := T.keep _ _ _ st2 fun b _ o e => by rw [heap3]; exact Heap.get?_push_of_some _ e
  have I4 := block_start I3 ok hN ff3
  generalize hcl : cellsFrom (s3.heap.objs.size + 1) scope.names (cloFrom X.env.cells scope.names []) = cl at I4
  have p1 := hg s3 H3 s3.heap.objs.size cl fp
  have p2 := ht s3 H3 s3.heap.objs.size cl fp
  have p3 := he s3 H3 s3.heap.objs.size cl fp
  have pk := hk s3 H3 s3.heap.objs.size cl fp
  have p4 := hi1 s3 H3 s3.heap.objs.size cl fp
  have p5 := hg1 s3 H3 s3.heap.objs.size cl fp
  have p6 := ht1 s3 H3 s3.heap.objs.size cl fp
  show codeAny _ _ (.compStart (dcc2 kx vx tg iter f0 tg1 iter1 f1 scope pos) 0 (.ref it) (.ref D) (compEnvC scope cl s3.heap.objs.size X.env)) (compPost (model X.prog X.w) X.A X.xe use Qf (.ref D) s3.heap.objs.size) { s3 with heap := pushCells (s3.heap.push { cls := .type "dict", data := .dict #[] }) scope.names }
  have none3 : ∀ b ∈ fp, H3 b = none := fun b hb => (ff3 b hb).1.1
  generalize hce : compEnvC scope cl s3.heap.objs.size X.env = ce at I4 p1 p2 p3 pk p4 p5 p6 ⊢
  have cL : ce.locals = s3.heap.objs.size := by rw [← hce]; rfl
  generalize hs4 : ({ s3 with heap := pushCells (s3.heap.push { cls := .type "dict", data := .dict #[] }) scope.names } : Shared) = s4 at I4 ⊢
  have st4 : tn 0 s4.heap := T.keep _ _ _ st3 fun b _ o e => by rw [← hs4]; exact pushCells_keeps _ _ _ _ (Heap.get?_push_of_some _ e)
  let Y := X.blk s3 H3 scope ce fp
  have alone : ∀ {σ' : L2.St} {H' : Hp} {s' : Shared}, Inv Y [] σ' H' s' → (∀ b ∈ fp, H' b = none) → ∀ b ∈ fp, FpOk Y [] H' b := fun {σ' H' s'} J' hn b hb =>
    ⟨hn b hb, (J'.ok.exf b hb).1, J'.ok.exfs b hb, .inl hb, fun x c e => (J'.ok.exf b hb).2 x c e, fun p hp => absurd (show p ∈ ([] : List (Addr × Obj)) ++ [] from hp) (by simp)⟩
  generalize hRR2 : compPost (model X.prog X.w) X.A X.xe use Qf (.ref D) s3.heap.objs.size = RR
  have last : ∀ s' m H', Inv X pins σ H' s' → Q (.ref D) H' → s'.heap.Ns s3.heap.objs.size m → FpOk X pins H' s3.heap.objs.size → RR (.ok .next) s' := fun s' m H' I' q hn f => by
    rw [← hRR2]
    exact hRR D s3.heap.objs.size s' m H' I' q hn f
  -- what stands between the turns of the outer loop
  let In (n : Nat) (s' : Shared) : Prop := ∃ i H', Inv Y [] (wipe σ (own.map (·.2))) H' s' ∧ tn i s'.heap ∧ (∀ b ∈ fp, H' b = none) ∧ W i n H'
  have loop : codeAny (model X.prog X.w) X.A (.compLoop (dcc2 kx vx tg iter f0 tg1 iter1 f1 scope pos) 0 (.ref it) (.ref D) ce) RR s4 := by
    refine loopD_out (hs1 ce) In ?_ m0 ⟨0, H3, I4, st4, none3, w0⟩
    rintro n s5 ⟨i, H5, I5, st5, n5, w5⟩
    rcases turn i n H5 w5 with ⟨stop, qq⟩ | ⟨go, Nx, hNx, step⟩
    · refine thnF (T.done Y rfl rfl rfl hc i [] s5 _ H5 (fun _ _ => False) I5 (alone I5 n5) st5 stop) fun r s6 ⟨hr, I6⟩ => ?_
      subst hr
      have I7 : Inv X pins σ H5 s6 := I3.call' (ch := fp) I6.os I6.base I6.hok I6.bare fun b hb => ⟨(ff3 b hb).1.2.2.2.1, (ff3 b hb).1.2.1, (ff3 b hb).1.2.2.2.2.1, (ff3 b hb).1.2.2.2.2.2⟩
      have nC : H5 s3.heap.objs.size = none := cL ▸ (show H5 ce.locals = none from I6.free)
      obtain ⟨m, hn, _⟩ := I6.loc
      exact last s6 m H5 I7 qq (cL ▸ (show s6.heap.Ns ce.locals m from hn)) (I3.fpOk (Nat.le_refl _) nC)
    · refine thnF (T.item Y rfl rfl rfl hc i [] s5 _ H5 (fun _ _ => False) I5 (alone I5 n5) st5 go) fun r s6 ⟨u, hr, h6⟩ => ?_
      subst hr
      refine thnF h6 fun _ s7 ⟨x, H7, I7, r7, y7, st7, n7⟩ => ?_
      have I7' := I7.pinned (alone I7 n7) (T.obj _ _ st7)
      refine thnF (p1.run _ s7 _ H7 x u _ I7' r7 (step x H7 y7)) fun _ s8 ⟨σ8, H8, I8, hw8, q8⟩ => ?_
      refine thnF (p2.run _ s8 σ8 H8 _ I8 q8) fun b s9 ⟨H9, I9, q9⟩ => ?_
      have back : ∀ {σ9 : L2.St} {s' : Shared} {H' : Hp}, Inv Y ([] ++ pinsAt fp s7.heap) σ9 H' s' → (wipe σ (own.map (·.2))).length = σ9.length → (∀ (j : Nat) v, (wipe σ (own.map (·.2)))[j]? = some (some v) → σ9[j]? = some (some v)) → Nx H' → ∃ m, m < n ∧ In m s' := fun {σ9 s' H'} J' hl hk nx => by
        obtain ⟨m', hm, w'⟩ := hNx H' nx
        have pn : ∀ b ∈ fp, ∀ o, s7.heap.get? b = some o → s'.heap.get? b = some o ∧ H' b = none := fun b hb o e => let z := J'.pin (b, o) (List.mem_append_right _ (List.mem_append_right _ (mem_pinsAt hb e))); ⟨z.1, z.2.1⟩
        exact ⟨m', hm, i + 1, H', (J'.unpinned (pins := [])).weak hl hk, T.keep _ _ _ st7 fun b hb o e => (pn b hb o e).1, fun b hb => (let ⟨o, e, _⟩ := T.obj _ _ st7 b hb; (pn b hb o e).2), w'⟩
      have l8 : (wipe σ (own.map (·.2))).length = σ8.length := by rw [← hw8, wipe_length]
      match b, q9 with
      | false, q9 =>
        have q9 : Nx H9 := q9
        exact back I9 l8 (fun j v e => by rw [← hw8] at e; exact (wipe_some e).1) q9
      | true, q9 =>
        refine thnF (p4.run _ s9 σ8 H9 _ I9 q9) fun xv s10 hx => thnF hx fun iv s11 h11 => ?_
        obtain ⟨jt, fp1, tn1, J1, H11, e1, I11, T1, st11, f11, W1, ⟨m1, w1⟩, turn1⟩ := h11
        subst e1
        have alone1 : ∀ {H' : Hp}, (∀ b ∈ fp1, H' b = none) → ∀ b ∈ fp1, FpOk Y ([] ++ pinsAt fp s7.heap) H' b := fun hn b hb => ⟨hn b hb, (f11 b hb).2⟩
        let In1 (k : Nat) (s' : Shared) : Prop := ∃ j H', Inv Y ([] ++ pinsAt fp s7.heap) (wipe σ8 vs1) H' s' ∧ tn1 j s'.heap ∧ (∀ b ∈ fp1, H' b = none) ∧ W1 j k H'
        have loop1 : codeAny (model X.prog X.w) X.A (.compLoop (dcc2 kx vx tg iter f0 tg1 iter1 f1 scope pos) 1 (.ref jt) (.ref D) ce) (fun r s' => match r with
              | .ok _ => ∃ m, m < n ∧ In m s'
              | .error _ => False) s11 := by
          refine loopD_in In1 ?_ m1 ⟨0, H11, I11.weak (wipe_length _ _) (fun j v e => (wipe_some e).1), st11, fun b hb => (f11 b hb).1, w1⟩
          rintro k s12 ⟨j, H12, I12, st12, n12, w12⟩
          rcases turn1 j k H12 w12 with ⟨stop1, nx1⟩ | ⟨go1, Nx1, hNx1, step1⟩
          · refine thnF (T1.done Y rfl rfl rfl hc j _ s12 (wipe σ8 vs1) H12 (fun _ _ => False) I12 (alone1 n12) st12 stop1) fun r s13 ⟨hr, I13⟩ => ?_
            subst hr
            exact back I13 (l8.trans (wipe_length σ8 vs1).symm) (fun j v e => by
              rw [← hw8] at e
              obtain ⟨e1, e2⟩ := wipe_some e
              exact (wipe_out fun z => e2 (hv j z)).trans e1) nx1
          · refine thnF (T1.item Y rfl rfl rfl hc j _ s12 (wipe σ8 vs1) H12 (fun _ _ => False) I12 (alone1 n12) st12 go1) fun r s13 ⟨u1, hr, h13⟩ => ?_
            subst hr
            refine thnF h13 fun _ s14 ⟨x1, H14, I14, r14, y14, st14, n14⟩ => ?_
            have I14' := I14.pinned (alone1 n14) (T1.obj _ _ st14)
            refine thnF (p5.run _ s14 (wipe σ8 vs1) H14 x1 u1 _ I14' r14 (step1 x1 H14 y14)) fun _ s15 ⟨σ15, H15, I15, hw15, q15⟩ => ?_
            refine thnF (p6.run _ s15 σ15 H15 _ I15 q15) fun b1 s16 ⟨H16, I16, q16⟩ => ?_
            have back1 : ∀ {s' : Shared} {H' : Hp}, Inv Y (([] ++ pinsAt fp s7.heap) ++ pinsAt fp1 s14.heap) σ15 H' s' → Nx1 H' → ∃ m, m < k ∧ In1 m s' := fun {s' H'} J' nx => by
              obtain ⟨m', hm, w'⟩ := hNx1 H' nx
              have pn : ∀ b ∈ fp1, ∀ o, s14.heap.get? b = some o → s'.heap.get? b = some o ∧ H' b = none := fun b hb o e => let z := J'.pin (b, o) (List.mem_append_right _ (List.mem_append_right _ (mem_pinsAt hb e))); ⟨z.1, z.2.1⟩
              exact ⟨m', hm, j + 1, H', J'.unpinned.weak (by rw [← hw15, wipe_length]) (fun j v e => by rw [← hw15] at e; exact (wipe_some e).1), T1.keep _ _ _ st14 fun b hb o e => (pn b hb o e).1, fun b hb => (let ⟨o, e, _⟩ := T1.obj _ _ st14 b hb; (pn b hb o e).2), w'⟩
            match b1, q16 with
            | false, q16 =>
              have q16 : Nx1 H16 := q16
              exact back1 I16 q16
            | true, q16 =>
              refine thnF (pk.run _ s16 σ15 H16 _ I16 q16) fun z s17 ⟨yk, H17, I17, r17, q17⟩ => ?_
              refine thnF (p3.run _ s17 σ15 H17 _ I17 q17) fun z2 s18 ⟨yv, H18, I18, r18, kvs, k', ek, hD18, room18, nx⟩ => ?_
              subst ek
              exact d_dictSet (X := Y) I18 hD18 room18 r17 r18 fun s19 I19 => back1 I19 nx
        exact startD_1 loop1 (T1.self X.A 0 _ _ _ st11 loop1)
  exact codeAny_compStart_dict loop (T.self X.A 0 _ _ _ st4 loop)
theorem pe_dc2 (hc : X.calm = true) (hN : X.N.Nodup) (hi : PI X tg iter wi) (ok : BlkOk X.N X.env.scope scope own) (hv : ∀ i ∈ vs1, i ∈ own.map (·.2))
    (hg : ∀ (s : Shared) (H : Hp) (C : Addr) (cl : List (Str × Addr)) (fp : List Addr), PG (X.blk s H scope (compEnvC scope cl C X.env) fp) tg g) (ht : ∀ (s : Shared) (H : Hp) (C : Addr) (cl : List (Str × Addr)) (fp : List Addr), PTs (X.blk s H scope (compEnvC scope cl C X.env) fp) f0 tt)
    (hi1 : ∀ (s : Shared) (H : Hp) (C : Addr) (cl : List (Str × Addr)) (fp : List Addr), PI (X.blk s H scope (compEnvC scope cl C X.env) fp) tg1 iter1 wi1) (hg1 : ∀ (s : Shared) (H : Hp) (C : Addr) (cl : List (Str × Addr)) (fp : List Addr), PG (X.blk s H scope (compEnvC scope cl C X.env) fp) tg1 g1)
    (ht1 : ∀ (s : Shared) (H : Hp) (C : Addr) (cl : List (Str × Addr)) (fp : List Addr), PTs (X.blk s H scope (compEnvC scope cl C X.env) fp) f1 tt1) (hk : ∀ (s : Shared) (H : Hp) (C : Addr) (cl : List (Str × Addr)) (fp : List Addr), PE (X.blk s H scope (compEnvC scope cl C X.env) fp) kx tk) (he : ∀ (s : Shared) (H : Hp) (C : Addr) (cl : List (Str × Addr)) (fp : List Addr), PE (X.blk s H scope (compEnvC scope cl C X.env) fp) vx te)
    (hs : ∀ x, foldedSetIterable iter X.env x = pure x := by intro _; rfl) (hs1 : ∀ env x, foldedSetIterable iter1 env x = pure x := by intro _ _; rfl) :
    PE X (dcc2 kx vx tg iter f0 tg1 iter1 f1 scope pos) (tDc2 wi g tt wi1 g1 tt1 tk te (own.map (·.2)) vs1) := by
  refine ⟨fun pins s σ H Q I h => ?_⟩
  rw [arm_eval_DictComp]
  refine dc2_core hc hN I hi ok hv hg ht hi1 hg1 ht1 hk he hs hs1 h fun D C s' m H' I' q hn f => ⟨m, hn, fun h'' sb => ?_⟩
  obtain ⟨f0, f1, f2, f3, f4, f5⟩ := f
  exact ⟨.ref D, H', I'.turned (t' := s'.toks) (fun b o hb e => (sb.2 b hb).trans e) f0 f1 f3 f4 f5, rfl, q⟩
theorem ps_setDc2 {i : Nat} {y : Str} {py spos : Pos} (hy : X.N[i]? = some y) (hyl : X.env.scope.names.lookup y = some .local) (hsw : swapsWith (dcc2 kx vx tg iter f0 tg1 iter1 f1 scope pos) (some (.Name y py)) spos.line X.env = pure true) (hc : X.calm = true) (hN : X.N.Nodup) (hi : PI X tg iter wi) (ok : BlkOk X.N X.env.scope scope own) (hv : ∀ i ∈ vs1, i ∈ own.map (·.2))
    (hg : ∀ (s : Shared) (H : Hp) (C : Addr) (cl : List (Str × Addr)) (fp : List Addr), PG (X.blk s H scope (compEnvC scope cl C X.env) fp) tg g) (ht : ∀ (s : Shared) (H : Hp) (C : Addr) (cl : List (Str × Addr)) (fp : List Addr), PTs (X.blk s H scope (compEnvC scope cl C X.env) fp) f0 tt)
    (hi1 : ∀ (s : Shared) (H : Hp) (C : Addr) (cl : List (Str × Addr)) (fp : List Addr), PI (X.blk s H scope (compEnvC scope cl C X.env) fp) tg1 iter1 wi1) (hg1 : ∀ (s : Shared) (H : Hp) (C : Addr) (cl : List (Str × Addr)) (fp : List Addr), PG (X.blk s H scope (compEnvC scope cl C X.env) fp) tg1 g1)
    (ht1 : ∀ (s : Shared) (H : Hp) (C : Addr) (cl : List (Str × Addr)) (fp : List Addr), PTs (X.blk s H scope (compEnvC scope cl C X.env) fp) f1 tt1) (hk : ∀ (s : Shared) (H : Hp) (C : Addr) (cl : List (Str × Addr)) (fp : List Addr), PE (X.blk s H scope (compEnvC scope cl C X.env) fp) kx tk) (he : ∀ (s : Shared) (H : Hp) (C : Addr) (cl : List (Str × Addr)) (fp : List Addr), PE (X.blk s H scope (compEnvC scope cl C X.env) fp) vx te)
    (hs : ∀ x, foldedSetIterable iter X.env x = pure x := by intro _; rfl) (hs1 : ∀ env x, foldedSetIterable iter1 env x = pure x := by intro _ _; rfl) :
    PS X (.Assign [.Name y py] (dcc2 kx vx tg iter f0 tg1 iter1 f1 scope pos) spos) (tAsg (tDc2 wi g tt wi1 g1 tt1 tk te (own.map (·.2)) vs1) (gName i)) := by
  refine ⟨fun pins s σ H D I h => ?_⟩
  rw [exec_Assign_Name_used _ _ _ _ hsw]
  refine wpAny_bind (wpAny_standAt (wpAny_bind ?_))
  show wpAny _ X.A (do let _ ← comprehension (dcc2 kx vx tg iter f0 tg1 iter1 f1 scope pos) scope X.env (firstIterPos [⟨tg, iter, f0, 0⟩, ⟨tg1, iter1, f1, 0⟩] pos) newDict false (eval iter X.env) (some (assign (.Name y py) X.env))) _ _ s
  have h : tDc2 wi g tt wi1 g1 tt1 tk te (own.map (·.2)) vs1 σ H (fun x H1 => gName i x σ H1 D.nx) := h
  refine wpAny_bind (thn (dc2_core (Qf := fun _ s' => SP X pins D .next s') hc hN I hi ok hv hg ht hi1 hg1 ht1 hk he hs hs1 h fun L C s' m H' I' q hn f => ?_) fun _ s' hq => wpAny_pure (wpAny_pure hq))
  show wpAny _ _ (assign (.Name y py) X.env (.ref L)) _ _ _
  refine wpAny_assign_Name (store_ok2 (v := V.ref L) I' hN hy (.inl hyl) rfl (fun s2 I2 ⟨a, sb, ha⟩ => ?_) (.inr hyl))
  obtain ⟨f0, f1, f2, f3, f4, f5⟩ := f
  have haC : C ≠ a := by
    rcases ha with z | z
    · rw [z]; exact f1
    · exact fun e => f4 y a z e.symm
  refine ⟨m, hn.sameBut sb haC, fun h3 sb3 => ?_⟩
  exact ⟨_, H', I2.turned (t' := s2.toks) (fun b o hb e => (sb3.2 b hb).trans e) f0 f1 f3 f4 f5, q⟩
end

/-! ### {k: v for .. for ..} -/
def dDcGa (g : DTG) (tt : DTT) (tk te : DTE) (env : EV) : List PyData → List (PyData × PyData) → (List (PyData × PyData) → Prop) → Prop
  | [], acc, Q => Q acc
  | y :: ys, acc, Q => g (.d y) env fun env1 => tt env1 fun b => if b = true then tk env1 fun s => ∃ k, s.fz = .d (keyD k) ∧ te env1 fun u => ∃ z, u.fz = .d z ∧ acc.length < sizeLine ∧ dDcGa g tt tk te env ys (putP acc k z) Q else dDcGa g tt tk te env ys acc Q
def dDcGa2 (g : DTG) (tt : DTT) (ti1 : DTI) (g1 : DTG) (tt1 : DTT) (tk te : DTE) (js1 : List Nat) (env : EV) : List PyData → List (PyData × PyData) → (List (PyData × PyData) → Prop) → Prop
  | [], acc, Q => Q acc
  | y :: ys, acc, Q => g (.d y) env fun env1 => tt env1 fun b => if b = true then ti1 (unown env1) fun zs => dDcGa g1 tt1 tk te (wipeE (unown env1) js1) zs acc fun acc' => dDcGa2 g tt ti1 g1 tt1 tk te js1 env ys acc' Q else dDcGa2 g tt ti1 g1 tt1 tk te js1 env ys acc Q
def dDc2 (ti : DTI) (g : DTG) (tt : DTT) (ti1 : DTI) (g1 : DTG) (tt1 : DTT) (tk te : DTE) (js js1 : List Nat) : DTE := fun env Q => ti env fun ys => dDcGa2 g tt ti1 g1 tt1 tk te js1 (wipeE env js) ys [] fun zs => Q (.ownD zs)
section
variable {K : PySem.W.Frag} {F : Fr} {P : Program} {w : World}
theorem sd_Dc2 {js js1 : List Nat} {wi wi1 : TI} {g g1 : TG} {tt tt1 : TT} {tk te : TE} {fi fi1 : DTI} {fg fg1 : DTG} {ft ft1 : DTT} {fk fe : DTE} (hi : SdI K F wi fi) (hg : SdG K F js g fg) (ht : SdT K F tt ft) (hi1 : SdI K F wi1 fi1) (hg1 : SdG K F js1 g1 fg1) (ht1 : SdT K F tt1 ft1) (hk : SdE K F tk fk) (he : SdE K F te fe) :
    SdE K F (tDc2 wi g tt wi1 g1 tt1 tk te js js1) (dDc2 fi fg ft fi1 fg1 ft1 fk fe js js1) := by
  intro Hb H σ env Q k r q c
  refine hi Hb H σ env _ _ r q fun J Hb1 H1 ys st1 gv q1 => ?_
  obtain ⟨Gd, Y, wk, hGd, hY⟩ := gv.ex
  intro D hD
  have r1 := r.on st1
  have nD : ¬ F.hid.has D := fun z => by obtain ⟨o, e⟩ := st1.st.ok.there z; rw [hD] at e; cases e
  have bD : Hb1 D = none := none_back (fun o e => st1.st.ex D o e) hD
  -- D keeps standing, unknown
  have keepD : ∀ {Ha Hc Hbb Hbc : Hp} {o : HO}, Step F.hid Hbb Ha Hbc Hc → Ha D = some o → Hbb D = none → Hc D = some o ∧ Hbc D = none := fun {Ha Hc Hbb Hbc o} t h1 h2 => by
    refine ⟨t.keep D _ h1 nD, ?_⟩
    cases z : Hbc D with
    | none => rfl
    | some u =>
      have := t.new D u z h2
      rw [h1] at this; cases this
  -- D written: the rest as it was
  have write : ∀ {Hbx Hx : Hp} (o : HO), Step F.hid Hb1 H1 Hbx Hx → Hbx D = none → Step F.hid Hb1 H1 Hbx (upd Hx D o) := fun {Hbx Hx} o s hN =>
    ⟨⟨fun b u e => by rw [upd_ne (fun z : b = D => by rw [z, hN] at e; cases e)]; exact s.st.ex b u e, s.st.ok.keeps fun b u hb e => by rw [upd_ne (fun z : b = D => nD (z ▸ hb))]; exact e, s.st.out⟩, s.ex, s.new,
      fun b u e hb => by rw [upd_ne (ne_of_none e hD)]; exact s.keep b u e hb⟩
  let Fin : List (PyData × PyData) → Prop := fun zs => Q (.ownD zs)
  let In (i : Nat) (H' : Hp) : Prop := ∃ Hb' n xs, Step F.hid Hb1 H1 Hb' H' ∧ H' D = some (.dK n) ∧ Hb' D = none ∧ DRel K Hb' n xs ∧ dDcGa2 fg ft fi1 fg1 ft1 fk fe js1 (wipeE env js) (ys.drop i) xs Fin
  refine ⟨fun i m H' => m = ys.length - i ∧ i ≤ ys.length ∧ In i H', ⟨ys.length, by simp, Nat.zero_le _, Hb1, [], [], Step.raw st1.st hD, upd_same, bD, ⟨rfl, .nil⟩, q1⟩, ?_⟩
  rintro i m H' ⟨rfl, hle, Hb', n, xs, s, hA, hN, hl, q'⟩
  have gd := hGd H' (s.ex.trans s.st.ex)
  by_cases hlt : i < ys.length
  · refine .inr ⟨wk.goes i H' hlt gd, In (i + 1), fun H2 p => ⟨_, (by omega : ys.length - (i + 1) < ys.length - i), rfl, hlt, p⟩, fun x H2 y => ?_⟩
    obtain ⟨Hb2, d, hd, st2, hx⟩ := hY i Hb' H' x H2 hlt s.st s.ex (wk.yields i H' x H2 hlt gd y)
    rw [drop_at hd] at q'
    obtain ⟨hA2, hN2⟩ := keepD st2 hA hN
    have rw2 := (r1.on (s.trans st2)).wipe js
    refine hg Hb2 H2 _ _ x (.d d) _ _ rw2 hx rfl q' fun σ3 env3 o3 r3 q3 => ⟨by rw [wipe_off o3, wipe_idem], ?_⟩
    refine ht Hb2 H2 σ3 env3 _ _ r3 q3 fun b Hb3 H3 st3 q4 => ?_
    obtain ⟨hA3, hN3⟩ := keepD st3 hA2 hN2
    have s3 := (s.trans st2).trans st3
    have r3 := r3.on st3
    match b, q4 with
    | false, q4 => exact ⟨Hb3, n, xs, s3, hA3, hN3, (DRel.mono (st2.ex.trans st3.ex) hl), q4⟩
    | true, q4 =>
      show wi1 σ3 H3 _
      refine hi1 Hb3 H3 σ3 (unown env3) _ _ r3.unown q4 fun J1 Hb4 H4 zs st4 gv1 q5 => ?_
      obtain ⟨Gd1, Y1, wk1, hGd1, hY1⟩ := gv1.ex
      obtain ⟨hA4, hN4⟩ := keepD st4 hA3 hN3
      let Fin1 : List (PyData × PyData) → Prop := fun acc' => dDcGa2 fg ft fi1 fg1 ft1 fk fe js1 (wipeE env js) (ys.drop (i + 1)) acc' Fin
      let In1 (j : Nat) (H' : Hp) : Prop := ∃ Hb' n xs, Step F.hid Hb1 H1 Hb' H' ∧ Same Hb4 Hb' ∧ Rep K F Hb' H' σ3 (unown env3) ∧ H' D = some (.dK n) ∧ Hb' D = none ∧ DRel K Hb' n xs ∧ dDcGa fg1 ft1 fk fe (wipeE (unown env3) js1) (zs.drop j) xs Fin1
      refine ⟨fun j k H' => k = zs.length - j ∧ j ≤ zs.length ∧ In1 j H', ⟨zs.length, by simp, Nat.zero_le _, Hb4, n, xs, s3.trans st4, Same.refl _, r3.unown.on st4, hA4, hN4, (DRel.mono (st2.ex.trans (st3.ex.trans st4.ex)) hl), q5⟩, ?_⟩
      rintro j k H5 ⟨rfl, hle1, Hb5, n5, xs5, s5, same5, r5, hA5, hN5, hl5, q6⟩
      have gd1 := hGd1 H5 (same5.trans s5.st.ex)
      by_cases hlt1 : j < zs.length
      · refine .inr ⟨wk1.goes j H5 hlt1 gd1, In1 (j + 1), fun H6 p => ⟨_, (by omega : zs.length - (j + 1) < zs.length - j), rfl, hlt1, p⟩, fun x1 H6 y1 => ?_⟩
        obtain ⟨Hb6, d1, hd1, st6, hx1⟩ := hY1 j Hb5 H5 x1 H6 hlt1 s5.st same5 (wk1.yields j H5 x1 H6 hlt1 gd1 y1)
        rw [drop_at hd1] at q6
        obtain ⟨hA6, hN6⟩ := keepD st6 hA5 hN5
        have r6 := r5.on st6
        refine hg1 Hb6 H6 _ _ x1 (.d d1) _ _ (r6.wipe js1) hx1 rfl q6 fun σ7 env7 o7 r7 q7 => ⟨by rw [wipe_off o7, wipe_idem], ?_⟩
        refine ht1 Hb6 H6 σ7 env7 _ _ r7 q7 fun b1 Hb8 H8 st8 q8 => ?_
        obtain ⟨hA8, hN8⟩ := keepD st8 hA6 hN6
        match b1, q8 with
        | false, q8 => exact ⟨Hb8, n5, xs5, (s5.trans st6).trans st8, same5.trans (st6.ex.trans st8.ex), r6.on st8, hA8, hN8, (DRel.mono (st6.ex.trans st8.ex) hl5), q8⟩
        | true, q8 =>
          show tk σ7 H8 _
          refine hk.go (Q := fun s => ∃ k, s = .d (keyD k) ∧ fe env7 fun u => ∃ z, u.fz = .d z ∧ xs5.length < sizeLine ∧ dDcGa fg1 ft1 fk fe (wipeE (unown env3) js1) (zs.drop (j + 1)) (putP xs5 k z) Fin1) (r7.on st8) q8 fun kv Hba Ha uk sta rk _ qa => ?_
          obtain ⟨kk, ek, qa⟩ := qa
          subst ek
          have ek := key_of rk
          subst ek
          refine he.go (Q := fun s => ∃ z, s = .d z ∧ xs5.length < sizeLine ∧ dDcGa fg1 ft1 fk fe (wipeE (unown env3) js1) (zs.drop (j + 1)) (putP xs5 kk z) Fin1) ((r7.on st8).on sta) qa fun v Hb9 H9 u st9 ru _ q9 => ?_
          obtain ⟨z, eu, lim, q9⟩ := q9
          subst eu
          obtain ⟨hAa, hNa⟩ := keepD sta hA8 hN8
          obtain ⟨hA9, hN9⟩ := keepD st9 hAa hNa
          have s9 := (((s5.trans st6).trans st8).trans sta).trans st9
          have nx : ∀ o : HO, Step F.hid Hb1 H1 Hb9 (upd H9 D o) ∧ Same Hb4 Hb9 ∧ Rep K F Hb9 (upd H9 D o) σ3 (unown env3) := fun o => ⟨write o s9 hN9, same5.trans (st6.ex.trans (st8.ex.trans (sta.ex.trans st9.ex))), (((r6.on st8).on sta).on st9).swap o (r1.step.back hD) hN9 nD⟩
          obtain ⟨a1, a2, a3⟩ := nx (.dK (putK n5 kk v))
          refine ⟨n5, kk, rfl, hA9, by rw [DRel.length hl5]; exact lim, Hb9, putK n5 kk v, putP xs5 kk z, a1, a2, a3, upd_same, hN9, ?_, q9⟩
          exact DRel.put ru (DRel.mono (st6.ex.trans (st8.ex.trans (sta.ex.trans st9.ex))) hl5)
      · obtain rfl : j = zs.length := by omega
        rw [List.drop_length] at q6
        exact .inl ⟨wk1.stops H5 gd1, Hb5, n5, xs5, s5, hA5, hN5, hl5, q6⟩
  · obtain rfl : i = ys.length := by omega
    rw [List.drop_length] at q'
    exact .inl ⟨wk.stops H' gd, c (.ref D) Hb' H' (.ownD xs) (st1.trans s) ⟨D, n, rfl, hA, hl, hN, nD⟩ (fun p e => by cases e; exact st1.back hD) q'⟩
end
section
variable {X : Cx} {F : Fr} {K : PySem.W.Frag} {tg iter tg1 iter1 elt kx vx : Expr} {tk te : TE} {fk fe : DTE} {wi wi1 : TI} {fi fi1 : DTI} {g g1 : TG} {fg fg1 : DTG} {tt tt1 : TT} {ft ft1 : DTT} {pos p2 p3 : Pos} {ifs ifs1 : List Expr} {scope : Scope} {own : List (Str × Nat)} {vs1 : List Nat}
/-- sorted({elt for tg in iter for tg1 in iter1}) -/
theorem de_sortSi2 (h1 : X.mg "sorted" = none) (hN : X.N.Nodup) (hi : DI X F tg iter wi fi) (ok : BlkOk X.N X.env.scope scope own) (hv : ∀ i ∈ vs1, i ∈ own.map (·.2))
    (hg : ∀ (s : Shared) (H : Hp) (C : Addr) (cl : List (Str × Addr)) (fp : List Addr), DG (X.blk s H scope (compEnvC scope cl C X.env) fp) F (own.map (·.2)) tg g fg) (ht : ∀ (s : Shared) (H : Hp) (C : Addr) (cl : List (Str × Addr)) (fp : List Addr), DP (X.blk s H scope (compEnvC scope cl C X.env) fp) F ifs tt ft)
    (hi1 : ∀ (s : Shared) (H : Hp) (C : Addr) (cl : List (Str × Addr)) (fp : List Addr), DI (X.blk s H scope (compEnvC scope cl C X.env) fp) F tg1 iter1 wi1 fi1)
    (hg1 : ∀ (s : Shared) (H : Hp) (C : Addr) (cl : List (Str × Addr)) (fp : List Addr), DG (X.blk s H scope (compEnvC scope cl C X.env) fp) F vs1 tg1 g1 fg1) (ht1 : ∀ (s : Shared) (H : Hp) (C : Addr) (cl : List (Str × Addr)) (fp : List Addr), DP (X.blk s H scope (compEnvC scope cl C X.env) fp) F ifs1 tt1 ft1)
    (he : ∀ (s : Shared) (H : Hp) (C : Addr) (cl : List (Str × Addr)) (fp : List Addr), DE (X.blk s H scope (compEnvC scope cl C X.env) fp) F elt te fe) (hc : X.calm = true := by rfl) (hs : ∀ x, foldedSetIterable iter X.env x = pure x := by intro _; rfl) (hs1 : ∀ env x, foldedSetIterable iter1 env x = pure x := by intro _ _; rfl) (hgl : Gl X "sorted" := by rfl)
    (hst : starEach [sc2 elt tg iter ifs tg1 iter1 ifs1 scope p2] X.env = (false, eval (sc2 elt tg iter ifs tg1 iter1 ifs1 scope p2) X.env) :: starEach [] X.env := by rfl) :
    DE X F (.Call (.Name "sorted" p3) [sc2 elt tg iter ifs tg1 iter1 ifs1 scope p2] [] pos) (tCB (rSortSI X.prog X.w) (tCons (tSi2 X.prog X.w wi g tt wi1 g1 tt1 te (own.map (·.2)) vs1) tNil)) (dSi2 fi fg ft fi1 fg1 ft1 fe (own.map (·.2)) vs1) :=
  ⟨pe_callB (cr_sortSI hc) hgl h1 (by decide +kernel) (pa_cons (pe_si2 hc hN hi.pe ok hv (fun s H C cl fp => (hg s H C cl fp).pe) (fun s H C cl fp => (ht s H C cl fp).pe) (fun s H C cl fp => (hi1 s H C cl fp).pe) (fun s H C cl fp => (hg1 s H C cl fp).pe) (fun s H C cl fp => (ht1 s H C cl fp).pe) (fun s H C cl fp => (he s H C cl fp).pe) hs hs1) pa_nil hst) (by decide) (by decide) hst,
    sd_Si2 hi.sd (hg {} (fun _ => none) 0 [] []).sd (ht {} (fun _ => none) 0 [] []).sd (hi1 {} (fun _ => none) 0 [] []).sd (hg1 {} (fun _ => none) 0 [] []).sd (ht1 {} (fun _ => none) 0 [] []).sd (he {} (fun _ => none) 0 [] []).sd⟩
/-- {k: v for tg in iter for tg1 in iter1} -/
theorem de_dc2 (hN : X.N.Nodup) (hi : DI X F tg iter wi fi) (ok : BlkOk X.N X.env.scope scope own) (hv : ∀ i ∈ vs1, i ∈ own.map (·.2))
    (hg : ∀ (s : Shared) (H : Hp) (C : Addr) (cl : List (Str × Addr)) (fp : List Addr), DG (X.blk s H scope (compEnvC scope cl C X.env) fp) F (own.map (·.2)) tg g fg) (ht : ∀ (s : Shared) (H : Hp) (C : Addr) (cl : List (Str × Addr)) (fp : List Addr), DP (X.blk s H scope (compEnvC scope cl C X.env) fp) F ifs tt ft)
    (hi1 : ∀ (s : Shared) (H : Hp) (C : Addr) (cl : List (Str × Addr)) (fp : List Addr), DI (X.blk s H scope (compEnvC scope cl C X.env) fp) F tg1 iter1 wi1 fi1)
    (hg1 : ∀ (s : Shared) (H : Hp) (C : Addr) (cl : List (Str × Addr)) (fp : List Addr), DG (X.blk s H scope (compEnvC scope cl C X.env) fp) F vs1 tg1 g1 fg1) (ht1 : ∀ (s : Shared) (H : Hp) (C : Addr) (cl : List (Str × Addr)) (fp : List Addr), DP (X.blk s H scope (compEnvC scope cl C X.env) fp) F ifs1 tt1 ft1)
    (hk : ∀ (s : Shared) (H : Hp) (C : Addr) (cl : List (Str × Addr)) (fp : List Addr), DE (X.blk s H scope (compEnvC scope cl C X.env) fp) F kx tk fk) (he : ∀ (s : Shared) (H : Hp) (C : Addr) (cl : List (Str × Addr)) (fp : List Addr), DE (X.blk s H scope (compEnvC scope cl C X.env) fp) F vx te fe) (hc : X.calm = true := by rfl) (hs : ∀ x, foldedSetIterable iter X.env x = pure x := by intro _; rfl) (hs1 : ∀ env x, foldedSetIterable iter1 env x = pure x := by intro _ _; rfl) :
    DE X F (dcc2 kx vx tg iter ifs tg1 iter1 ifs1 scope p2) (tDc2 wi g tt wi1 g1 tt1 tk te (own.map (·.2)) vs1) (dDc2 fi fg ft fi1 fg1 ft1 fk fe (own.map (·.2)) vs1) :=
  ⟨pe_dc2 hc hN hi.pe ok hv (fun s H C cl fp => (hg s H C cl fp).pe) (fun s H C cl fp => (ht s H C cl fp).pe) (fun s H C cl fp => (hi1 s H C cl fp).pe) (fun s H C cl fp => (hg1 s H C cl fp).pe) (fun s H C cl fp => (ht1 s H C cl fp).pe) (fun s H C cl fp => (hk s H C cl fp).pe) (fun s H C cl fp => (he s H C cl fp).pe) hs hs1,
    sd_Dc2 hi.sd (hg {} (fun _ => none) 0 [] []).sd (ht {} (fun _ => none) 0 [] []).sd (hi1 {} (fun _ => none) 0 [] []).sd (hg1 {} (fun _ => none) 0 [] []).sd (ht1 {} (fun _ => none) 0 [] []).sd (hk {} (fun _ => none) 0 [] []).sd (he {} (fun _ => none) 0 [] []).sd⟩
/-- y = {k: v for tg in iter for tg1 in iter1} -/
theorem ds_setDc2 (i : Nat) {y : Str} {py spos : Pos} (hN : X.N.Nodup) (hi : DI X F tg iter wi fi) (ok : BlkOk X.N X.env.scope scope own) (hv : ∀ i ∈ vs1, i ∈ own.map (·.2))
    (hg : ∀ (s : Shared) (H : Hp) (C : Addr) (cl : List (Str × Addr)) (fp : List Addr), DG (X.blk s H scope (compEnvC scope cl C X.env) fp) F (own.map (·.2)) tg g fg) (ht : ∀ (s : Shared) (H : Hp) (C : Addr) (cl : List (Str × Addr)) (fp : List Addr), DP (X.blk s H scope (compEnvC scope cl C X.env) fp) F ifs tt ft)
    (hi1 : ∀ (s : Shared) (H : Hp) (C : Addr) (cl : List (Str × Addr)) (fp : List Addr), DI (X.blk s H scope (compEnvC scope cl C X.env) fp) F tg1 iter1 wi1 fi1)
    (hg1 : ∀ (s : Shared) (H : Hp) (C : Addr) (cl : List (Str × Addr)) (fp : List Addr), DG (X.blk s H scope (compEnvC scope cl C X.env) fp) F vs1 tg1 g1 fg1) (ht1 : ∀ (s : Shared) (H : Hp) (C : Addr) (cl : List (Str × Addr)) (fp : List Addr), DP (X.blk s H scope (compEnvC scope cl C X.env) fp) F ifs1 tt1 ft1)
    (hk : ∀ (s : Shared) (H : Hp) (C : Addr) (cl : List (Str × Addr)) (fp : List Addr), DE (X.blk s H scope (compEnvC scope cl C X.env) fp) F kx tk fk) (he : ∀ (s : Shared) (H : Hp) (C : Addr) (cl : List (Str × Addr)) (fp : List Addr), DE (X.blk s H scope (compEnvC scope cl C X.env) fp) F vx te fe) (hsw : swapsWith (dcc2 kx vx tg iter ifs tg1 iter1 ifs1 scope p2) (some (.Name y py)) spos.line X.env = pure true) (hc : X.calm = true := by rfl) (hs : ∀ x, foldedSetIterable iter X.env x = pure x := by intro _; rfl) (hs1 : ∀ env x, foldedSetIterable iter1 env x = pure x := by intro _ _; rfl) (hy : X.N[i]? = some y := by rfl) (hyl : X.env.scope.names.lookup y = some .local := by rfl) :
    DS X F (.Assign [.Name y py] (dcc2 kx vx tg iter ifs tg1 iter1 ifs1 scope p2) spos) (tAsg (tDc2 wi g tt wi1 g1 tt1 tk te (own.map (·.2)) vs1) (gName i)) (dSet (dDc2 fi fg ft fi1 fg1 ft1 fk fe (own.map (·.2)) vs1) i) :=
  ⟨ps_setDc2 hy hyl hsw hc hN hi.pe ok hv (fun s H C cl fp => (hg s H C cl fp).pe) (fun s H C cl fp => (ht s H C cl fp).pe) (fun s H C cl fp => (hi1 s H C cl fp).pe) (fun s H C cl fp => (hg1 s H C cl fp).pe) (fun s H C cl fp => (ht1 s H C cl fp).pe) (fun s H C cl fp => (hk s H C cl fp).pe) (fun s H C cl fp => (he s H C cl fp).pe) hs hs1,
    sd_set i (sd_Dc2 hi.sd (hg {} (fun _ => none) 0 [] []).sd (ht {} (fun _ => none) 0 [] []).sd (hi1 {} (fun _ => none) 0 [] []).sd (hg1 {} (fun _ => none) 0 [] []).sd (ht1 {} (fun _ => none) 0 [] []).sd (hk {} (fun _ => none) 0 [] []).sd (he {} (fun _ => none) 0 [] []).sd)⟩
end
end Pu

end

section
set_option maxHeartbeats 1000000
/-! PuIn: d[k] = xs, xs a list of one's own; if test: e[k2] = n; d[k].append(m). -/
namespace Pu
open PySem L2 PyProof.Rows
section
variable {K : PySem.W.Frag} {F : Fr} {Hb H : Hp} {σ : L2.St} {env : EV}
/-- an object that no own name holds is known from now on -/
theorem Rep.know (r : Rep K F Hb H σ env) {a : Addr} {o : HO} (hH : H a = some o) (hB : Hb a = none) (hh : ¬ F.hid.has a) (h0 : F.H0 a = none) (no : ∀ (j : Nat) (s : Sl), env[j]? = some (some s) → s.isOwn → σ[j]? ≠ some (some (.ref a))) : Rep K F (upd Hb a o) H σ env := by
  have ex : Same Hb (upd Hb a o) := fun b u e => by rw [upd_ne (fun z : b = a => by rw [z, hB] at e; cases e)]; exact e
  refine ⟨⟨⟨fun b u e => ?_, r.st.ok, fun b hb => ?_⟩, r.step.ex.trans ex, fun b u e n => ?_, r.step.keep⟩, r.mid.trans ex, r.len, fun j u ej => ?_, r.dis⟩
  · by_cases c : b = a
    · subst c; rw [upd_same] at e; rw [hH]; exact e
    · rw [upd_ne c] at e; exact r.st.ex b u e
  · rw [upd_ne (fun z : b = a => hh (z ▸ hb))]; exact r.st.out b hb
  · by_cases c : b = a
    · subst c; exact h0
    · rw [upd_ne c] at e; exact r.step.new b u e n
  · obtain ⟨w, w1, w2, w3⟩ := r.sl j u ej
    refine ⟨w, w1, ?_, w3⟩
    cases u with
    | d x => exact Dq.mono ex w2
    | v y => exact w2
    | src => exact w2
    | own ys =>
      obtain ⟨q, us, q1, q2, q3, q4, q5⟩ := w2
      subst q1
      exact ⟨q, us, rfl, q2, DqAll.mono ex q3, by rw [upd_ne (fun z : q = a => no j _ ej trivial (z ▸ w1))]; exact q4, q5⟩
    | ownD ys =>
      obtain ⟨q, us, q1, q2, q3, q4, q5⟩ := w2
      subst q1
      exact ⟨q, us, rfl, q2, DRel.mono ex q3, by rw [upd_ne (fun z : q = a => no j _ ej trivial (z ▸ w1))]; exact q4, q5⟩
end
def dInner (i j : Nat) (fe fk : DTE) (ft : DTT) (fc fk2 fk3 fv : DTE) (fr : DTS) : DTS := fun E env =>
  fe env fun s => ∃ xs ds dj, s = .own xs ∧ xs.length < sizeLine ∧ env[i]? = some (some (.ownD ds)) ∧ env[j]? = some (some (.ownD dj)) ∧ ds.length < sizeLine ∧ dj.length < sizeLine ∧ fk env fun t => ∃ k, t.fz = .d (keyD k) ∧
    ft (env.set i (some (.ownD (putP ds k (.list xs))))) fun b => if b = true then
      fc (env.set i (some (.ownD (putP ds k (.list xs))))) fun u => ∃ n, u.fz = .d (.int n) ∧ fk2 (env.set i (some (.ownD (putP ds k (.list xs))))) fun t2 => ∃ k2, t2.fz = .d (keyD k2) ∧
        fk3 ((env.set i (some (.ownD (putP ds k (.list xs))))).set j (some (.ownD (putP dj k2 (.int n))))) fun t3 => t3.fz = .d (keyD k) ∧
          fv ((env.set i (some (.ownD (putP ds k (.list xs))))).set j (some (.ownD (putP dj k2 (.int n))))) fun z => ∃ m, z.fz = .d (.int m) ∧
            fr E ((env.set i (some (.ownD (putP ds k (.list (xs ++ [.int m])))))).set j (some (.ownD (putP dj k2 (.int n)))))
      else E.nx (env.set i (some (.ownD (putP ds k (.list xs)))))
section
variable {K : PySem.W.Frag} {F : Fr} {te tk tc tk2 tk3 tv : TE} {tt : TT} {tr : TS} {fe fk fc fk2 fk3 fv : DTE} {ft : DTT} {fr : DTS}
theorem sd_inner {i j : Nat} (hij : i ≠ j) (he : SdE K F te fe) (hk : SdE K F tk fk) (ht : SdT K F tt ft) (hc : SdE K F tc fc) (hk2 : SdE K F tk2 fk2) (hk3 : SdE K F tk3 fk3) (hv : SdE K F tv fv) (hr : SdS K F tr fr) :
    SdS K F (tSeq (sDPut (tVar i) tk te) (tIfS tt (tSeq (sDPut (tVar j) tk2 tc) (tSeq (tDrop (tBM K "list" rAppend (tDGet (tVar i) tk3) (tCons tv tNil))) tr)) tNext)) (dInner i j fe fk ft fc fk2 fk3 fv fr) := by
  intro Hb H σ env D E r q l
  refine he Hb H σ env _ _ r q fun v0 Hb1 H1 s0 st1 rs1 fr1 q1 => ?_
  obtain ⟨xs, ds, dj, rfl, lx, ei, ej, li, lj, q1⟩ := q1
  obtain ⟨a, vs, rfl, ha1, dvs, ba1, na⟩ := rs1
  have a0 : H a = none := fr1 a rfl
  have r1 := r.on st1
  obtain ⟨vi, si, rsi, fri⟩ := r1.sl i _ ei
  obtain ⟨pi, kvi, e, hpi1, dri, bpi1, npi⟩ := rsi
  subst e
  obtain ⟨vj, sj, rsj, frj⟩ := r1.sl j _ ej
  obtain ⟨pj, kvj, e, hpj1, drj, bpj1, npj⟩ := rsj
  subst e
  have nai : a ≠ pi := fun z => by
    obtain ⟨u, hu, _⟩ := r.held ei trivial si
    rw [← z, a0] at hu; cases hu
  have naj : a ≠ pj := fun z => by
    obtain ⟨u, hu, _⟩ := r.held ej trivial sj
    rw [← z, a0] at hu; cases hu
  have nij : pi ≠ pj := fun z => r1.dis i j _ _ pi hij ei ej trivial trivial si (by rw [z]; exact sj)
  refine ⟨_, si, ?_⟩
  refine hk.go (Q := fun t => ∃ k, t = .d (keyD k) ∧ ft (env.set i (some (Sl.ownD (putP ds k (.list xs))))) fun b => if b = true then fc (env.set i (some (Sl.ownD (putP ds k (.list xs))))) fun u => ∃ n, u.fz = .d (.int n) ∧ fk2 (env.set i (some (Sl.ownD (putP ds k (.list xs))))) fun t2 => ∃ k2, t2.fz = .d (keyD k2) ∧ fk3 ((env.set i (some (Sl.ownD (putP ds k (.list xs))))).set j (some (Sl.ownD (putP dj k2 (.int n))))) fun t3 => t3.fz = .d (keyD k) ∧ fv ((env.set i (some (Sl.ownD (putP ds k (.list xs))))).set j (some (Sl.ownD (putP dj k2 (.int n))))) fun z => ∃ m, z.fz = .d (.int m) ∧ fr E ((env.set i (some (Sl.ownD (putP ds k (.list (xs ++ [.int m])))))).set j (some (Sl.ownD (putP dj k2 (.int n))))) else E.nx (env.set i (some (Sl.ownD (putP ds k (.list xs)))))) r1 q1 fun w Hb2 H2 t st2 rs2 _ q2 => ?_
  obtain ⟨k, et, q2⟩ := q2
  subst et
  have ek := key_of rs2
  subst ek
  obtain ⟨ha2, ba2⟩ := st2.keepOwn ha1 ba1 na
  obtain ⟨hpi2, bpi2⟩ := st2.keepOwn hpi1 bpi1 npi
  obtain ⟨hpj2, bpj2⟩ := st2.keepOwn hpj1 bpj1 npj
  have r2 := r1.on st2
  have f0 : F.H0 a = none := r.step.back a0
  have noa : ∀ (m : Nat) (s : Sl), env[m]? = some (some s) → s.isOwn → σ[m]? ≠ some (some (.ref a)) := fun m s em o z => by
    obtain ⟨u, hu, _⟩ := r.held em o z
    rw [a0] at hu; cases hu
  have dri2 := DRel.mono st2.ex dri
  have drj2 := DRel.mono st2.ex drj
  have dvs2 := DqAll.mono st2.ex dvs
  refine ⟨pi, _, rfl, .inl ⟨kvi, k, hpi2, rfl, by rw [dri.length]; exact li, rfl⟩, ?_⟩
  have exc : Same Hb2 (upd Hb2 a (.lst vs)) := fun b u e => by rw [upd_ne (fun z : b = a => by rw [z, ba2] at e; cases e)]; exact e
  have dqa : Dq K (upd Hb2 a (.lst vs)) (.ref a) (.list xs) := .lst upd_same (DqAll.mono exc dvs2)
  have r3 := (r2.know ha2 ba2 na f0 noa).put1 ei trivial si hpi2 (by rw [upd_ne nai.symm]; exact bpi2) npi (s' := .ownD (putP ds k (.list xs))) trivial
    ⟨pi, putK kvi k (.ref a), rfl, upd_same, DRel.put dqa (DRel.mono exc dri2), by rw [upd_ne nai.symm]; exact bpi2, npi⟩
  have bc : ∀ b, b ≠ a → Hb2 b = none → upd Hb2 a (.lst vs) b = none := fun b hb n => by rw [upd_ne hb]; exact n
  have h3i : upd H2 pi (.dK (putK kvi k (.ref a))) pi = some (.dK (putK kvi k (.ref a))) := upd_same
  have h3j : upd H2 pi (.dK (putK kvi k (.ref a))) pj = some (.dK kvj) := by rw [upd_ne nij.symm]; exact hpj2
  have h3a : upd H2 pi (.dK (putK kvi k (.ref a))) a = some (.lst vs) := by rw [upd_ne nai]; exact ha2
  refine ht _ _ σ _ _ _ r3 q2 fun b Hb4 H4 st4 q4 => ?_
  have ex2 : Same Hb Hb2 := st1.ex.trans st2.ex
  cases b with
  | false =>
    rw [if_neg Bool.false_ne_true] at q4 ⊢
    exact l.nx Hb4 H4 σ _ (ex2.trans (exc.trans st4.ex)) (r3.on st4) q4
  | true =>
    rw [if_pos rfl] at q4 ⊢
    have r4 := r3.on st4
    have h4i := st4.keep _ _ h3i npi
    have h4j := st4.keep _ _ h3j npj
    have h4a := st4.keep _ _ h3a na
    refine hc.go (Q := fun u => ∃ n, u = .d (.int n) ∧ fk2 (env.set i (some (Sl.ownD (putP ds k (.list xs))))) fun t2 => ∃ k2, t2.fz = .d (keyD k2) ∧ fk3 ((env.set i (some (Sl.ownD (putP ds k (.list xs))))).set j (some (Sl.ownD (putP dj k2 (.int n))))) fun t3 => t3.fz = .d (keyD k) ∧ fv ((env.set i (some (Sl.ownD (putP ds k (.list xs))))).set j (some (Sl.ownD (putP dj k2 (.int n))))) fun z => ∃ m, z.fz = .d (.int m) ∧ fr E ((env.set i (some (Sl.ownD (putP ds k (.list (xs ++ [.int m])))))).set j (some (Sl.ownD (putP dj k2 (.int n)))))) r4 q4 fun v5 Hb5 H5 u5 st5 rs5 _ q5 => ?_
    obtain ⟨n, eu, q5⟩ := q5
    subst eu
    have ev := int_of rs5
    subst ev
    have r5 := r4.on st5
    have h5i := st5.keep _ _ h4i npi
    have h5j := st5.keep _ _ h4j npj
    have h5a := st5.keep _ _ h4a na
    refine ⟨_, sj, ?_⟩
    refine hk2.go (Q := fun t2 => ∃ k2, t2 = .d (keyD k2) ∧ fk3 ((env.set i (some (Sl.ownD (putP ds k (.list xs))))).set j (some (Sl.ownD (putP dj k2 (.int n))))) fun t3 => t3.fz = .d (keyD k) ∧ fv ((env.set i (some (Sl.ownD (putP ds k (.list xs))))).set j (some (Sl.ownD (putP dj k2 (.int n))))) fun z => ∃ m, z.fz = .d (.int m) ∧ fr E ((env.set i (some (Sl.ownD (putP ds k (.list (xs ++ [.int m])))))).set j (some (Sl.ownD (putP dj k2 (.int n)))))) r5 q5 fun w6 Hb6 H6 u6 st6 rs6 _ q6 => ?_
    obtain ⟨k2, et, q6⟩ := q6
    subst et
    have ek2 := key_of rs6
    subst ek2
    have r6 := r5.on st6
    have h6i := st6.keep _ _ h5i npi
    have h6j := st6.keep _ _ h5j npj
    have h6a := st6.keep _ _ h5a na
    have ej6 : (env.set i (some (Sl.ownD (putP ds k (.list xs)))))[j]? = some (some (.ownD dj)) := by rw [List.getElem?_set_ne hij]; exact ej
    have b6j : Hb6 pj = none := by
      obtain ⟨_, sj', rsj', _⟩ := r6.sl j _ ej6
      rw [sj] at sj'; cases sj'
      obtain ⟨p', _, e', _, _, b', _⟩ := rsj'
      cases e'; exact b'
    have ex26 : Same Hb2 Hb6 := exc.trans (st4.ex.trans (st5.ex.trans st6.ex))
    refine ⟨pj, _, rfl, .inl ⟨kvj, k2, h6j, rfl, by rw [drj.length]; exact lj, rfl⟩, ?_⟩
    have r7 := r6.put1 ej6 trivial sj h6j b6j npj (s' := .ownD (putP dj k2 (.int n))) trivial ⟨pj, putK kvj k2 (.int n), rfl, upd_same, DRel.put (.int n) (DRel.mono ex26 drj2), b6j, npj⟩
    refine ⟨_, si, ?_⟩
    refine hk3.go (Q := fun t3 => t3 = .d (keyD k) ∧ fv ((env.set i (some (Sl.ownD (putP ds k (.list xs))))).set j (some (Sl.ownD (putP dj k2 (.int n))))) fun z => ∃ m, z.fz = .d (.int m) ∧ fr E ((env.set i (some (Sl.ownD (putP ds k (.list (xs ++ [.int m])))))).set j (some (Sl.ownD (putP dj k2 (.int n)))))) r7 q6 fun w8 Hb8 H8 u8 st8 rs8 _ q8 => ?_
    obtain ⟨et, q8⟩ := q8
    subst et
    have ek3 := key_of rs8
    subst ek3
    have h8i := st8.keep _ _ (show upd H6 pj (.dK (putK kvj k2 (.int n))) pi = _ by rw [upd_ne nij]; exact h6i) npi
    have h8j := st8.keep _ _ (show upd H6 pj (.dK (putK kvj k2 (.int n))) pj = _ from upd_same) npj
    have h8a := st8.keep _ _ (show upd H6 pj (.dK (putK kvj k2 (.int n))) a = _ by rw [upd_ne naj]; exact h6a) na
    refine ⟨pi, .ref a, rfl, .inl ⟨_, k, .inl h8i, rfl, by rw [valV_put, if_pos rfl]⟩, .inl ⟨rfl, _, SqL.of h8a⟩, ?_⟩
    have r8 := r7.on st8
    refine hv.go (Q := fun z => ∃ m, z = .d (.int m) ∧ fr E ((env.set i (some (Sl.ownD (putP ds k (.list (xs ++ [.int m])))))).set j (some (Sl.ownD (putP dj k2 (.int n)))))) r8 q8 fun w9 Hb9 H9 u9 st9 rs9 _ q9 => ?_
    obtain ⟨m, ez, q9⟩ := q9
    subst ez
    have em := int_of rs9
    subst em
    have r9 := r8.on st9
    have h9i := st9.keep _ _ h8i npi
    have h9j := st9.keep _ _ h8j npj
    have h9a := st9.keep _ _ h8a na
    refine ⟨a, vs, .int m, rfl, rfl, h9a, by rw [DqAll.length dvs]; exact lx, ?_⟩
    have kp : ∀ q o, H2 q = some o → ¬ F.hid.has q → q ≠ pi → q ≠ pj → H9 q = some o := fun q o e nq n1 n2 =>
      st9.keep _ _ (st8.keep _ _ (show upd H6 pj (.dK (putK kvj k2 (.int n))) q = _ by rw [upd_ne n2]; exact st6.keep _ _ (st5.keep _ _ (st4.keep _ _ (by rw [upd_ne n1]; exact e) nq) nq) nq) nq) nq
    have exf : Same Hb2 (upd Hb2 a (.lst (vs ++ [.int m]))) := fun b u e => by rw [upd_ne (fun z : b = a => by rw [z, ba2] at e; cases e)]; exact e
    have ex29 : Same Hb2 Hb9 := ex26.trans (st8.ex.trans st9.ex)
    have hfi : upd H9 a (.lst (vs ++ [.int m])) pi = some (.dK (putK kvi k (.ref a))) := by rw [upd_ne nai.symm]; exact h9i
    have hfj : upd H9 a (.lst (vs ++ [.int m])) pj = some (.dK (putK kvj k2 (.int n))) := by rw [upd_ne naj.symm]; exact h9j
    have le : ∀ (o : HO) (b : Addr), Hb2 b = none → b ≠ a → upd Hb2 a o b = none := fun o b n hb => by rw [upd_ne hb]; exact n
    have hi : i < env.length := (List.getElem?_eq_some_iff.mp ei).1
    have hj : j < env.length := (List.getElem?_eq_some_iff.mp ej).1
    have at3 : ∀ (p : Nat) (s : Sl), ((env.set i (some (Sl.ownD (putP ds k (.list (xs ++ [.int m])))))).set j (some (.ownD (putP dj k2 (.int n)))))[p]? = some (some s) →
        (p = j ∧ s = .ownD (putP dj k2 (.int n))) ∨ (p = i ∧ s = .ownD (putP ds k (.list (xs ++ [.int m])))) ∨ (p ≠ i ∧ p ≠ j ∧ env[p]? = some (some s)) := fun p s e => by
      by_cases c : j = p
      · subst c
        rw [List.getElem?_set_self (by rw [List.length_set]; exact hj)] at e
        cases e; exact .inl ⟨rfl, rfl⟩
      · rw [List.getElem?_set_ne c] at e
        by_cases c2 : i = p
        · subst c2
          rw [List.getElem?_set_self hi] at e
          cases e; exact .inr (.inl ⟨rfl, rfl⟩)
        · rw [List.getElem?_set_ne c2] at e
          exact .inr (.inr ⟨fun z => c2 z.symm, fun z => c z.symm, e⟩)
    have rf : Rep K F (upd Hb2 a (.lst (vs ++ [.int m]))) (upd H9 a (.lst (vs ++ [.int m]))) σ ((env.set i (some (.ownD (putP ds k (.list (xs ++ [.int m])))))).set j (some (.ownD (putP dj k2 (.int n))))) := by
      refine ⟨⟨⟨fun b u e => ?_, r9.st.ok.keeps fun b u hb e => ?_, fun b hb => ?_⟩, r2.step.ex.trans exf, fun b u e nn => ?_, fun b u e hb => ?_⟩, r2.mid.trans exf, by simpa using r2.len, fun p u ep => ?_, fun p p' s s' z hp ep ep' o o' sp => ?_⟩
      · by_cases c : b = a
        · subst c; rw [upd_same] at e ⊢; exact e
        · rw [upd_ne c] at e ⊢
          exact r9.st.ex b u (ex29 b u e)
      · rw [upd_ne (fun z : b = a => na (z ▸ hb))]; exact e
      · rw [upd_ne (fun z : b = a => na (z ▸ hb))]; exact r2.st.out b hb
      · by_cases c : b = a
        · subst c; exact f0
        · rw [upd_ne c] at e; exact r2.step.new b u e nn
      · rw [upd_ne (fun z : b = a => by rw [z, f0] at e; cases e)]
        exact r9.step.keep b u e hb
      · rcases at3 p u ep with ⟨rfl, rfl⟩ | ⟨rfl, rfl⟩ | ⟨n1, n2, ep⟩
        · exact ⟨_, sj, ⟨pj, _, rfl, hfj, DRel.put (.int n) (DRel.mono exf drj2), le _ _ bpj2 naj.symm, npj⟩, frj⟩
        · exact ⟨_, si, ⟨pi, _, rfl, hfi, DRel.put (.lst upd_same (DqAll.append (DqAll.mono exf dvs2) (.cons (.int m) .nil))) (DRel.mono exf dri2), le _ _ bpi2 nai.symm, npi⟩, fri⟩
        · obtain ⟨w, w1, w2, w3⟩ := r2.sl p u ep
          refine ⟨w, w1, ?_, w3⟩
          cases u with
          | d x => exact Dq.mono exf w2
          | v y => exact w2
          | src => exact w2
          | own ys =>
            obtain ⟨q', us, q1', q2', q3', q4', q5'⟩ := w2
            subst q1'
            have na' : q' ≠ a := fun z => noa p _ ep trivial (z ▸ w1)
            exact ⟨q', us, rfl, by rw [upd_ne na']; exact kp q' _ q2' q5' (fun z => r2.dis p i _ _ q' n1 ep ei trivial trivial w1 (by rw [z]; exact si)) (fun z => r2.dis p j _ _ q' n2 ep ej trivial trivial w1 (by rw [z]; exact sj)), DqAll.mono exf q3', le _ _ q4' na', q5'⟩
          | ownD ys =>
            obtain ⟨q', us, q1', q2', q3', q4', q5'⟩ := w2
            subst q1'
            have na' : q' ≠ a := fun z => noa p _ ep trivial (z ▸ w1)
            exact ⟨q', us, rfl, by rw [upd_ne na']; exact kp q' _ q2' q5' (fun z => r2.dis p i _ _ q' n1 ep ei trivial trivial w1 (by rw [z]; exact si)) (fun z => r2.dis p j _ _ q' n2 ep ej trivial trivial w1 (by rw [z]; exact sj)), DRel.mono exf q3', le _ _ q4' na', q5'⟩
      · have look : ∀ (p : Nat) (s : Sl), ((env.set i (some (Sl.ownD (putP ds k (.list (xs ++ [.int m])))))).set j (some (.ownD (putP dj k2 (.int n)))))[p]? = some (some s) → s.isOwn → ∃ s', env[p]? = some (some s') ∧ s'.isOwn := fun p s ep o => by
          rcases at3 p s ep with ⟨rfl, rfl⟩ | ⟨rfl, rfl⟩ | ⟨_, _, ep⟩
          · exact ⟨_, ej, trivial⟩
          · exact ⟨_, ei, trivial⟩
          · exact ⟨_, ep, o⟩
        obtain ⟨t1, x1, y1⟩ := look p s ep o
        obtain ⟨t2, x2, y2⟩ := look p' s' ep' o'
        exact r2.dis p p' t1 t2 z hp x1 x2 y1 y2 sp
    exact hr _ _ σ _ _ E rf q9 (l.on (ex2.trans exf))
end
section
variable {X : Cx} {F : Fr} {K : PySem.W.Frag} {e b t c b2 b3 v : Expr} {te tk tc tk2 tk3 tv : TE} {tt : TT} {ts : TS} {fe fk fc fk2 fk3 fv : DTE} {ft : DTT} {fs : DTS} {x y : Str} {rest : List Stmt} {px pq p1 py pq2 p2 px3 pb ap cp p3 pos : Pos}
/-- d[k] = xs; if test: e[k2] = n; d[k].append(m); .. -/
theorem k_inner (ek : X.K = K) (i j : Nat) (hij : i ≠ j) (he : DE X F e te fe) (hk : DE X F b tk fk) (ht : DT X F t tt ft) (hc : DE X F c tc fc) (hk2 : DE X F b2 tk2 fk2) (hk3 : DE X F b3 tk3 fk3) (hv : DE X F v tv fv) (hr : DSs X F rest ts fs)
    (h1 : PS X (.Assign [.Subscript (.Name x px) b pq] e p1) (sDPut (tVar i) tk te)) (h2 : PS X (.Assign [.Subscript (.Name y py) b2 pq2] c p2) (sDPut (tVar j) tk2 tc)) (h3 : PS X (.Expr (.Call (.Attribute (.Subscript (.Name x px3) b3 pb) "append" ap) [v] [] cp) p3) (tDrop (tBM K "list" rAppend (tDGet (tVar i) tk3) (tCons tv tNil)))) :
    DSs X F [.Assign [.Subscript (.Name x px) b pq] e p1, .If t (.Assign [.Subscript (.Name y py) b2 pq2] c p2 :: .Expr (.Call (.Attribute (.Subscript (.Name x px3) b3 pb) "append" ap) [v] [] cp) p3 :: rest) [] pos] (tSeq (sDPut (tVar i) tk te) (tIfS tt (tSeq (sDPut (tVar j) tk2 tc) (tSeq (tDrop (tBM K "list" rAppend (tDGet (tVar i) tk3) (tCons tv tNil))) ts)) tNext)) (dInner i j fe fk ft fc fk2 fk3 fv fs) := by
  subst ek
  exact ⟨pss_cons h1 (pss_one (ps_if ht.pe (pss_cons h2 (pss_cons h3 hr.pe)) pss_nil)), sd_inner hij he.sd hk.sd ht.sd hc.sd hk2.sd hk3.sd hv.sd hr.sd⟩
end
end Pu

end

section
set_option maxHeartbeats 1000000
/-! PuKy: the keys of a dict of one's own walked, the dict locked; not of a list; a, b, c = x, y, z. -/
namespace Pu
open PySem L2 PyProof.Rows
section
variable {K : PySem.W.Frag} {F : Fr} {hid : Hid}
def KeyAt (K : PySem.W.Frag) (F : Fr) (a : Addr) (ds : List (PyData × PyData)) : Prop := ∃ od kvs, F.M0 a = some (.frz od (.dK kvs)) ∧ DRel K F.M0 kvs ds
theorem walk_itk {a : Addr} {od : Obj} {kvs : List (Key × V)} {n : Nat} (hn : n = kvs.length) : Walk (Itk a od kvs) n (fun H => H a = some (.frz od (.dK kvs))) fun i H x H' => H' = H ∧ ∃ k v, kvs[i]? = some (k, v) ∧ x = kV k := by
  subst hn
  exact ⟨fun i H hi h => ⟨h, hi⟩, fun H h => ⟨h, Nat.le_refl _⟩, fun i H x H' _ _ y => y⟩
def dKeysL (i : Nat) (a : Addr) (ds : List (PyData × PyData)) : DTI := fun env Q => env[i]? = some (some (.v (.ref a))) ∧ Q (ds.map Prod.fst)
theorem si_keysL {i : Nat} {a : Addr} {ds : List (PyData × PyData)} (hk : KeyAt K F a ds) : SdI K F (iKeys (tVar i)) (dKeysL i a ds) := by
  intro Hb H σ env Q R rp q c
  obtain ⟨e, q⟩ := q
  obtain ⟨od, kvs, h1, h2⟩ := hk
  obtain ⟨v, e1, e2, _⟩ := rp.sl i _ e
  have e2 : v = .ref a := e2
  subst e2
  have hl := h2.length
  refine ⟨_, e1, a, od, rfl, .inl ⟨kvs, rp.st.ex _ _ (rp.mid _ _ h1), c _ Hb H _ (Step.refl rp.st) ⟨⟨_, _, walk_itk (by rw [List.length_map]; exact hl.symm), fun H' s => s _ _ (rp.mid _ _ h1), fun j Hb' H' x H2 hj st ex y => ?_⟩⟩ q⟩⟩
  obtain ⟨rfl, k, w, e3, rfl⟩ := y
  refine ⟨Hb', keyD k, ?_, Step.refl st, ?_⟩
  · rw [h2.1, List.getElem?_map, e3]; rfl
  · cases k with
    | inl n => exact .int n
    | inr z => exact .str z
def dLockK (i : Nat) (fe : Addr → List (PyData × PyData) → DTE) : DTE := fun env Q => ∃ ds, env[i]? = some (some (.ownD ds)) ∧ ∀ a, fe a ds (env.set i (some (.v (.ref a)))) fun s => ∃ n, s.fz = .d (.int n) ∧ Q (.d (.int n))
theorem sd_lockK (i : Nat) {te : TE} {fe : Addr → List (PyData × PyData) → DTE} (h : ∀ (F' : Fr) (a : Addr) (ds : List (PyData × PyData)), KeyAt K F' a ds → SdE K F' te (fe a ds)) : SdE K F (tLockE te) (dLockK i fe) := by
  intro Hb H σ env Q k r q c
  obtain ⟨ds, e, q⟩ := q
  obtain ⟨v, si, rs, fr⟩ := r.sl i _ e
  obtain ⟨p, kvs, e2, hp, dr, bp, np⟩ := rs
  subst e2
  have f0 : F.H0 p = none := fr p rfl
  have hi : i < env.length := (List.getElem?_eq_some_iff.mp e).1
  refine ⟨p, .dK kvs, hp, trivial, fun od => ?_⟩
  have nb : ∀ {b : Addr} {u : HO}, Hb b = some u → b ≠ p := fun e z => by rw [z, bp] at e; cases e
  have ex : Same Hb (upd Hb p (.frz od (.dK kvs))) := fun b u e => by rw [upd_ne (nb e)]; exact e
  have r' : Rep K { F with M0 := upd Hb p (.frz od (.dK kvs)) } (upd Hb p (.frz od (.dK kvs))) (upd H p (.frz od (.dK kvs))) σ (env.set i (some (.v (.ref p)))) := by
    refine ⟨⟨⟨fun b u e => ?_, r.st.ok.keeps fun b u hb e => ?_, fun b hb => ?_⟩, r.step.ex.trans ex, fun b u e n => ?_, fun b u e hb => ?_⟩, Same.refl _, by simpa using r.len, fun j u ej => ?_, fun j m s t q hjm ej em o1 o2 sj => ?_⟩
    · by_cases c : b = p
      · subst c; rw [upd_same] at e ⊢; exact e
      · rw [upd_ne c] at e ⊢; exact r.st.ex b u e
    · rw [upd_ne (fun z : b = p => np (z ▸ hb))]; exact e
    · rw [upd_ne (fun z : b = p => np (z ▸ hb))]; exact r.st.out b hb
    · by_cases c : b = p
      · subst c; exact f0
      · rw [upd_ne c] at e; exact r.step.new b u e n
    · rw [upd_ne (fun z : b = p => by rw [z, f0] at e; cases e)]; exact r.step.keep b u e hb
    · by_cases c : i = j
      · subst c
        rw [List.getElem?_set_self hi] at ej
        cases ej
        exact ⟨_, si, rfl, trivial⟩
      · rw [List.getElem?_set_ne c] at ej
        obtain ⟨w, w1, w2, w3⟩ := r.sl j u ej
        refine ⟨w, w1, ?_, w3⟩
        cases u with
        | d x => exact Dq.mono ex w2
        | v y => exact w2
        | src => exact w2
        | own ys =>
          obtain ⟨q', us, q1, q2, q3, q4, q5⟩ := w2
          subst q1
          have ne : q' ≠ p := fun z => r.dis i j _ _ p c e ej trivial trivial si (z ▸ w1)
          exact ⟨q', us, rfl, by rw [upd_ne ne]; exact q2, DqAll.mono ex q3, by rw [upd_ne ne]; exact q4, q5⟩
        | ownD ys =>
          obtain ⟨q', us, q1, q2, q3, q4, q5⟩ := w2
          subst q1
          have ne : q' ≠ p := fun z => r.dis i j _ _ p c e ej trivial trivial si (z ▸ w1)
          exact ⟨q', us, rfl, by rw [upd_ne ne]; exact q2, DRel.mono ex q3, by rw [upd_ne ne]; exact q4, q5⟩
    · have look : ∀ (j : Nat) (s : Sl), (env.set i (some (Sl.v (.ref p))))[j]? = some (some s) → s.isOwn → env[j]? = some (some s) := fun j s ej o => by
        by_cases c : i = j
        · subst c
          rw [List.getElem?_set_self hi] at ej
          cases ej; exact o.elim
        · rw [List.getElem?_set_ne c] at ej; exact ej
      exact r.dis j m s t q hjm (look j s ej o1) (look m t em o2) o1 o2 sj
  refine (h { F with M0 := upd Hb p (.frz od (.dK kvs)) } p ds ⟨od, kvs, upd_same, DRel.mono ex dr⟩).go (Q := fun s => ∃ n, s = .d (.int n) ∧ Q (.d (.int n))) r' (q p) fun v Hb1 H1 s st rs1 _ q1 => ?_
  obtain ⟨n, es, q1⟩ := q1
  subst es
  have ev := int_of rs1
  subst ev
  refine ⟨st.st.ex _ _ (st.ex _ _ upd_same), c _ Hb _ (.d (.int n)) ⟨⟨fun b u e => ?_, st.st.ok.keeps fun b u hb e => ?_, r.st.out⟩, Same.refl _, fun b u e n => (by rw [n] at e; cases e), fun b u e hb => ?_⟩ (Dq.int n) trivial q1⟩
  · rw [upd_ne (nb e)]; exact st.st.ex _ _ (st.ex _ _ (ex _ _ e))
  · rw [upd_ne (fun z : b = p => np (z ▸ hb))]; exact e
  · by_cases c : b = p
    · subst c; rw [hp] at e; rw [upd_same]; exact e
    · rw [upd_ne c]; exact st.keep _ _ (by rw [upd_ne c]; exact e) hb
/-! ### not of a list -/
def dNotTr (f : DTE) : DTE := fun env Q => dTruth f env fun b => Q (.d (.bool (!b)))
theorem sd_notTr {ta : TE} {fa : DTE} (h : SdE K F ta fa) : SdE K F (tNotT K ta) (dNotTr fa) := by
  intro Hb H σ env Q k r q c
  exact sd_truth h Hb H σ env (fun b => Q (.d (.bool (!b)))) (fun b H' => k (.bl (!b)) H') r q fun b Hb' H' st qb => c _ Hb' H' (.d (.bool (!b))) st (Dq.bl _) trivial qb
/-! ### a, b, c = x, y, z -/
def dPar3G (i j m : Nat) (fa fb fc : DTE) : DTS := fun E env => fa env fun s => fb env fun u => fc env fun t => E.nx (((env.set i (some s)).set j (some u)).set m (some t))
theorem sd_par3G {i j m : Nat} {ta tb tc : TE} {fa fb fc : DTE} (ha : SdE K F ta fa) (hb : SdE K F tb fb) (hc : SdE K F tc fc) : SdS K F (tPar3 i j m (tCons ta (tCons tb (tCons tc tNil)))) (dPar3G i j m fa fb fc) := by
  intro Hb H σ env D E r q l
  refine ha Hb H σ env _ _ r q fun v Hb1 H1 s st1 rs1 f1 q1 => ?_
  refine hb Hb1 H1 σ env _ _ (r.on st1) q1 fun w Hb2 H2 u st2 rs2 f2 q2 => ?_
  refine hc Hb2 H2 σ env _ _ ((r.on st1).on st2) q2 fun x Hb3 H3 t st3 rs3 f3 q3 => ?_
  exact ⟨v, w, x, rfl, l.nx Hb3 _ _ _ (st1.ex.trans (st2.ex.trans st3.ex)) (((r.set st1 rs1 f1 i).set st2 rs2 f2 j).set st3 rs3 f3 m) q3⟩
end
section
variable {X : Cx} {F : Fr} {K : PySem.W.Frag} {a b c e tg : Expr} {ta tb tc te : TE} {fa fb fc : DTE} {px py pz pt pt2 pos : Pos} {kt k2 : Nat}
theorem key_none (K : PySem.W.Frag) (F : Fr) (a : Addr) : ∃ F' : Fr, KeyAt K F' a [] := ⟨{ F with M0 := fun b => if b = a then some (.frz (scriptObj []) (.dK [])) else none }, scriptObj [], [], if_pos rfl, ⟨rfl, .nil⟩⟩
/-- e, in which the keys of the dict in slot i are walked -/
theorem k_lockK (ek : X.K = K) (i : Nat) {fe : Addr → List (PyData × PyData) → DTE} (h : ∀ (F' : Fr) (a : Addr) (ds : List (PyData × PyData)), KeyAt X.K F' a ds → DE X F' e te (fe a ds)) : DE X F e (tLockE te) (dLockK i fe) := by
  obtain ⟨F', hk⟩ := key_none X.K F 0
  exact ⟨pe_lock (h F' 0 [] hk).pe, sd_lockK i fun F' a ds hk => (h F' a ds hk).sd⟩
theorem di_keysL (i : Nat) {ad : Addr} {ds : List (PyData × PyData)} {x : Str} {p : Pos} (hk : KeyAt X.K F ad ds) (hN : X.N[i]? = some x := by rfl) (hv : Vis X.env.scope x := by first | exact Or.inl rfl | exact Or.inr (Or.inl rfl) | exact Or.inr (Or.inr rfl)) (hd : (x == ("__debug__" : Str)) = false := by decide)
    (hcd : (x == ("__classdict__" : Str)) = false := by decide) : DI X F tg (.Name x p) (iKeys (tVar i)) (dKeysL i ad ds) := ⟨pi_keys (pe_var hN hv hd hcd), si_keysL hk⟩
theorem k_notTr (ek : X.K = K) (h : DE X F a ta fa) : DE X F (.UnaryOp .Not a pos) (tNotT K ta) (dNotTr fa) := by
  subst ek
  exact ⟨pe_notT h.pe, sd_notTr h.sd⟩
theorem ds_par3G (i j m : Nat) {x y z : Str} (hN : X.N.Nodup) (ha : DE X F a ta fa) (hb : DE X F b tb fb) (hcc : DE X F c tc fc) (hp : PA X [a, b, c] (tCons ta (tCons tb (tCons tc tNil)))) (hi : X.N[i]? = some x := by rfl) (hj : X.N[j]? = some y := by rfl) (hm : X.N[m]? = some z := by rfl) (hij : i ≠ j := by decide) (him : i ≠ m := by decide) (hjm : j ≠ m := by decide)
    (hx : X.env.scope.names.lookup x = some .local := by rfl) (hy : X.env.scope.names.lookup y = some .local := by rfl) (hz : X.env.scope.names.lookup z = some .local := by rfl) (hc : X.calm = true := by rfl)
    (hw : swappedStores [.Tuple [.Name x px, .Name y py, .Name z pz] kt pt] (.Tuple [a, b, c] k2 pt2) X.env = pure (some [x, y, z]) := by rfl) (hs : swapsWithSole [.Tuple [.Name x px, .Name y py, .Name z pz] kt pt] (.Tuple [a, b, c] k2 pt2) pos.line X.env = pure false := by rfl) :
    DS X F (.Assign [.Tuple [.Name x px, .Name y py, .Name z pz] kt pt] (.Tuple [a, b, c] k2 pt2) pos) (tPar3 i j m (tCons ta (tCons tb (tCons tc tNil)))) (dPar3G i j m fa fb fc) := ⟨ps_par3 hc hN hi hj hm hij him hjm hx hy hz hp hw hs, sd_par3G ha.sd hb.sd hcc.sd⟩
end
end Pu

end

section
set_option maxHeartbeats 1000000
/-! PuRo: repr of a whole number or of nothing. -/
namespace Pu
open PySem L2 PyProof.Rows RZ
def rReprN : List V → Hp → VK → Prop := fun xs H Q => ∃ v, xs = [v] ∧ ((∃ i : Int, v = .int i ∧ i.natAbs.log2 < 1920 ∧ Q (.str (toString i)) H) ∨ (v = .non ∧ Q (.str "None") H))
def fReprN : FN := fun ss Q => match ss with
  | [.d (.int i)] => i.natAbs.log2 < 1920 ∧ Q (.d (.str (toString i)))
  | [.d .none] => Q (.d (.str "None"))
  | _ => False
section
variable {K : PySem.W.Frag} {hid : Hid} {X : Cx}
theorem lc_reprN : LC K hid rReprN fReprN := by
  intro Hb H xs ss Q k st r q c
  unfold fReprN at q
  split at q
  · rename_i i
    obtain ⟨v, rfl, h⟩ := rep1 r
    cases (show Dq K Hb v (.int i) from h) with
    | int => exact ⟨_, rfl, .inl ⟨i, rfl, q.1, c _ Hb H (.d (.str _)) (Step.refl st) (Dq.str _) trivial q.2⟩⟩
  · obtain ⟨v, rfl, h⟩ := rep1 r
    cases (show Dq K Hb v .none from h) with
    | non => exact ⟨_, rfl, .inr ⟨rfl, c _ Hb H (.d (.str _)) (Step.refl st) (Dq.str _) trivial q⟩⟩
  · exact q.elim
theorem k_reprN (ek : X.K = K) : CallR X (.builtin "repr") rReprN := by
  intro pins s σ H xs us Q I r h
  obtain ⟨v, rfl, h⟩ := h
  obtain ⟨u, rfl, rv⟩ := vals1 r
  rcases h with ⟨i, rfl, hz, q⟩ | ⟨rfl, q⟩
  · obtain ⟨t, rfl⟩ := rv
    exact PySem.P.repr_of_int hz ⟨.str _, H, I.tok _, ⟨_, rfl⟩, q⟩
  · have e : u = Value.none := rv
    subst e
    exact PySem.P.repr_of_none ⟨.str _, H, I.tok _, ⟨_, rfl⟩, q⟩
end
end Pu

end

section
set_option maxHeartbeats 1000000
/-! PuEz: for i, (x, y) in enumerate(zip(a, b)), a and b tuples: the zip's own pair stays out. -/
namespace RZ
open PySem
open PySem.Sem (wp)
abbrev ZF (h : Heap) (z TI TO : Addr) (f0 : Value) (f1 : Bool) : Prop :=
  h.get? z = some { cls := .type "zip", dict := none, data := .fields #[f0, .bool f1, .bool false, .ref TI, .ref TO], slots := #[] }
def Own0 (f0 : Value) : Prop := f0 = .none ∨ ∃ T : Addr, f0 = rawInt T
structure ZSt (h : Heap) (z TI TO i1 i2 l1 l2 : Addr) (k : Nat) : Prop where
  zf : ∃ f0 f1, ZF h z TI TO f0 f1 ∧ Own0 f0
  ti : IsPair h TI (.ref i1) (.ref i2)
  to : ∃ a b, IsPair h TO a b
  a1 : h.IsTupleIter i1 l1 k
  a2 : h.IsTupleIter i2 l2 k
theorem ZSt.keep {h h' : Heap} {z TI TO i1 i2 l1 l2 : Addr} {k : Nat} (x : ZSt h z TI TO i1 i2 l1 l2 k) (c : ∀ b ∈ [z, TI, TO, i1, i2], ∀ o, h.get? b = some o → h'.get? b = some o) : ZSt h' z TI TO i1 i2 l1 l2 k := by
  obtain ⟨⟨f0, f1, h1, h2⟩, h3, ⟨a, b, h4⟩, h5, h6⟩ := x
  exact ⟨⟨f0, f1, c z (by simp) _ h1, h2⟩, c TI (by simp) _ h3, ⟨a, b, c TO (by simp) _ h4⟩, h5.at fun o q => c i1 (by simp) o q, h6.at fun o q => c i2 (by simp) o q⟩
section
variable {prog : Program} {w : World} {A : Around} {E : Value → Shared → Prop} {s : Shared}
theorem alive_any {a : Addr} {Q : Option Obj → Shared → Prop} (h : Q (s.heap.get? a) s) : wpAny (model prog w) A (loadIfAlive a) Q E s := fun _ _ _ => h
theorem free_zip {z TI TO : Addr} {f0 : Value} {f1 : Bool} {Q : Bool → Shared → Prop} (hz : ZF s.heap z TI TO f0 f1) (ho : Own0 f0) (h1 : Q true s) (h2 : ∀ h', ZF h' z TI TO f0 true → Heap.SameBut z s.heap h' → Q false { s with heap := h' }) :
    wpAny (model prog w) A (Builtin.SmallTypes.ownedTupleIsFree (.ref z)) Q E s := by
  unfold Builtin.SmallTypes.ownedTupleIsFree
  refine wpAny_bind (wpAny_field hz rfl (x := f0) rfl ?_)
  rcases ho with rfl | ⟨T, rfl⟩
  · exact wpAny_pure h1
  · show wpAny _ _ (loadIfAlive ((T : Int).toNat) >>= _) _ _ _
    rw [Int.toNat_natCast]
    refine wpAny_bind (alive_any ?_)
    cases hT : s.heap.get? T with
    | none =>
      simp only [Option.isNone_none, if_true]
      exact wpAny_pure h1
    | some oT =>
      simp only [Option.isNone_some, Bool.false_eq_true, if_false]
      refine wpAny_bind (wpAny_field hz rfl (x := .bool f1) rfl ?_)
      cases f1 with
      | true =>
        rw [if_neg (show ¬ ((Value.bool true != Value.bool true) = true) from Bool.false_ne_true)]
        exact wpAny_pure (h2 s.heap hz (Heap.SameBut.refl _ _))
      | false =>
        rw [if_pos (show (Value.bool false != Value.bool true) = true from rfl)]
        exact wpAny_bind (wpAny_setField_rec hz (by simp) fun h₁ hz₁ hs₁ => wpAny_pure (h2 h₁ hz₁ hs₁))
theorem zipE_next_item {z TI TO i1 i2 l1 l2 : Addr} {k : Nat} {xs ys : Array Value} {x y : Value} {Q : Value → Shared → Prop} (D : ZipApart z TI TO i1 i2 l1 l2) (S : ZSt s.heap z TI TO i1 i2 l1 l2 k)
    (hl1 : s.heap.IsTuple l1 xs) (hl2 : s.heap.IsTuple l2 ys) (hx : xs[k]? = some x) (hy : ys[k]? = some y)
    (hQ : ∀ h', ZSt h' z TI TO i1 i2 l1 l2 (k + 1) → IsPair h' s.heap.objs.size x y → h'.objs.size = s.heap.objs.size + 1 →
      (∀ c o, c ≠ z → c ≠ TO → c ≠ i1 → c ≠ i2 → s.heap.get? c = some o → h'.get? c = some o) → Q (.ref s.heap.objs.size) { s with heap := h' }) :
    wpAny (model prog w) A (Builtin.«zip.__next__» ⟨[.ref z], []⟩) (fun fin s' => ∃ v, fin = .done (.ret v) ∧ Q v s') E s := by
  obtain ⟨⟨f0, f1, hz, ho⟩, hTI, ⟨a, b, hTO⟩, h1, h2⟩ := S
  show wpAny _ _ (field (.ref z) 2 >>= _) _ _ _
  refine wpAny_bind (wpAny_field hz rfl (x := .bool false) rfl ?_)
  show wpAny _ _ (field (.ref z) 3 >>= _) _ _ _
  refine wpAny_bind (wpAny_field hz rfl (x := .ref TI) rfl ?_)
  refine wpAny_bind (wpAny_seqItems hTI rfl ?_)
  show wpAny _ _ (Builtin.SmallTypes.ownedTupleIsFree (.ref z) >>= _) _ _ _
  refine wpAny_bind (free_zip hz ho ?_ fun h₁ hz₁ hs₁ => ?_)
  · simp only [if_true]
    refine wpAny_bind (wpAny_rule ?_)
    refine wpAny_bind (wpAny_field hz rfl (x := .ref TO) rfl ?_)
    refine wpAny_bind (wpAny_setField_rec hz (by simp) fun h₁ hz₁ hs₁ => ?_)
    replace hz₁ : ZF h₁ z TI TO .ellipsis f1 := hz₁
    refine wpAny_bind ?_
    simp only [List.zipIdx_cons, List.zipIdx_nil, List.forIn_cons, List.forIn_nil]
    refine wpAny_bind (wpAny_bind (wpAny_onRaise ?_))
    show wpAny _ _ (Builtin.SmallTypes.nextOf (.ref i1) >>= _) _ _ _
    refine wpAny_bind (nextOf_tuple_item (h1.extBut hs₁.extBut D.i1z) (hl1.extBut hs₁.extBut D.l1z) hx fun h₂ h1₂ hs₂ => wpAny_pure ?_)
    have hTO₂ : IsPair h₂ TO a b := hs₂.extBut _ _ D.TOi1 (hs₁.extBut _ _ D.TOz hTO)
    refine wpAny_bind (wpAny_seqItems hTO₂ rfl ?_)
    refine wpAny_bind (wpAny_updateSeq_pair hTO₂ fun h₃ hTO₃ hs₃ => ?_)
    replace hTO₃ : IsPair h₃ TO x b := hTO₃
    refine wpAny_bind (wpAny_letGo (wpAny_pure ?_))
    refine wpAny_bind (wpAny_bind (wpAny_onRaise ?_))
    show wpAny _ _ (Builtin.SmallTypes.nextOf (.ref i2) >>= _) _ _ _
    refine wpAny_bind (nextOf_tuple_item (((h2.extBut hs₁.extBut D.i2z).extBut hs₂.extBut D.i12.symm).extBut hs₃.extBut D.TOi2.symm)
      (((hl2.extBut hs₁.extBut D.l2z).extBut hs₂.extBut D.l2i1).extBut hs₃.extBut D.l2TO) hy fun h₄ h2₄ hs₄ => wpAny_pure ?_)
    have hTO₄ : IsPair h₄ TO x b := hs₄.extBut _ _ D.TOi2 hTO₃
    refine wpAny_bind (wpAny_seqItems hTO₄ rfl ?_)
    refine wpAny_bind (wpAny_updateSeq_pair hTO₄ fun h₅ hTO₅ hs₅ => ?_)
    replace hTO₅ : IsPair h₅ TO x y := hTO₅
    refine wpAny_bind (wpAny_letGo (wpAny_pure (wpAny_pure ?_)))
    refine wpAny_bind (wpAny_seqItems hTO₅ rfl ?_)
    refine wpAny_bind (wpAny_newTuple ?_)
    have hsz : h₅.objs.size = s.heap.objs.size := by rw [hs₅.1, hs₄.1, hs₃.1, hs₂.1, hs₁.1]
    have hz₅ : ZF h₅ z TI TO .ellipsis f1 := hs₅.extBut _ _ D.TOz.symm (hs₄.extBut _ _ D.i2z.symm (hs₃.extBut _ _ D.TOz.symm (hs₂.extBut _ _ D.i1z.symm hz₁)))
    have hk₅ : ∀ c o, c ≠ z → c ≠ TO → c ≠ i1 → c ≠ i2 → s.heap.get? c = some o → h₅.get? c = some o := fun c o c1 c2 c3 c4 e =>
      hs₅.extBut _ _ c2 (hs₄.extBut _ _ c4 (hs₃.extBut _ _ c2 (hs₂.extBut _ _ c3 (hs₁.extBut _ _ c1 e))))
    have h1₅ : h₅.IsTupleIter i1 l1 (k + 1) := ((h1₂.extBut hs₃.extBut D.TOi1.symm).extBut hs₄.extBut D.i12).extBut hs₅.extBut D.TOi1.symm
    have h2₅ : h₅.IsTupleIter i2 l2 (k + 1) := h2₄.extBut hs₅.extBut D.TOi2.symm
    have hzlt : z < h₅.objs.size := Heap.lt_size hz₅
    show wpAny _ _ (Builtin.SmallTypes.ownedTupleHandOut (.ref z) (.ref h₅.objs.size) >>= _) _ _ _
    refine wpAny_bind ?_
    unfold Builtin.SmallTypes.ownedTupleHandOut
    have hz₆ : ZF (h₅.push { cls := .type "tuple", data := .seq #[x, y] }) z TI TO .ellipsis f1 := Heap.get?_push_of_some _ hz₅
    refine wpAny_bind (wpAny_setField_rec hz₆ (by simp) fun h₇ hz₇ hs₇ => ?_)
    replace hz₇ : ZF h₇ z TI TO (rawInt h₅.objs.size) f1 := hz₇
    refine wpAny_setField_rec hz₇ (by simp) fun h₈ hz₈ hs₈ => ?_
    replace hz₈ : ZF h₈ z TI TO (rawInt h₅.objs.size) false := hz₈
    have up : ∀ c o, c ≠ z → h₅.get? c = some o → h₈.get? c = some o := fun c o c1 e => hs₈.extBut _ _ c1 (hs₇.extBut _ _ c1 (Heap.get?_push_of_some _ e))
    have hT₈ : IsPair h₈ h₅.objs.size x y := hs₈.extBut _ _ (Nat.ne_of_gt hzlt) (hs₇.extBut _ _ (Nat.ne_of_gt hzlt) (Heap.get?_push_size _ rfl))
    have hz8 : h₈.objs.size = h₅.objs.size + 1 := by rw [hs₈.1, hs₇.1, Heap.size_push]
    rw [hsz] at hz₈ hT₈ hz8
    refine wpAny_pure ⟨_, rfl, ?_⟩
    show Q (.ref h₅.objs.size) _
    rw [hsz]
    have hTI₅ : IsPair h₅ TI (.ref i1) (.ref i2) := hk₅ _ _ D.TIz D.TITO D.TIi1 D.TIi2 hTI
    exact hQ h₈ ⟨⟨_, _, hz₈, .inr ⟨_, rfl⟩⟩, up _ _ D.TIz hTI₅, ⟨_, _, up _ _ D.TOz hTO₅⟩, h1₅.at fun o e => up _ o D.i1z e, h2₅.at fun o e => up _ o D.i2z e⟩ hT₈ hz8 fun c o c1 c2 c3 c4 e => up c o c1 (hk₅ c o c1 c2 c3 c4 e)
  · simp only [Bool.false_eq_true, if_false]
    refine wpAny_bind ?_
    rw [← Array.forIn_toList]
    simp only [List.forIn_cons, List.forIn_nil]
    refine wpAny_bind (wpAny_bind (wpAny_holding ?_))
    show wpAny _ _ (Builtin.SmallTypes.nextOf (.ref i1) >>= _) _ _ _
    refine wpAny_bind (nextOf_tuple_item (s := { s with heap := h₁ }) (h1.extBut hs₁.extBut D.i1z) (hl1.extBut hs₁.extBut D.l1z) hx fun h₂ h1₂ hs₂ => wpAny_pure ?_)
    refine wpAny_pure ?_
    refine wpAny_bind (wpAny_bind (wpAny_holding ?_))
    show wpAny _ _ (Builtin.SmallTypes.nextOf (.ref i2) >>= _) _ _ _
    refine wpAny_bind (nextOf_tuple_item (s := { s with heap := h₂ }) ((h2.extBut hs₁.extBut D.i2z).extBut hs₂.extBut D.i12.symm) ((hl2.extBut hs₁.extBut D.l2z).extBut hs₂.extBut D.l2i1) hy fun h₃ h2₃ hs₃ => wpAny_pure ?_)
    refine wpAny_pure (wpAny_pure ?_)
    show wpAny _ _ (newTuple [x, y] >>= _) _ _ _
    refine wpAny_bind (wpAny_newTuple ?_)
    have hsz : h₃.objs.size = s.heap.objs.size := by rw [hs₃.1, hs₂.1, hs₁.1]
    have hz₃ : ZF h₃ z TI TO f0 true := hs₃.extBut _ _ D.i2z.symm (hs₂.extBut _ _ D.i1z.symm hz₁)
    have hk : ∀ c o, c ≠ z → c ≠ i1 → c ≠ i2 → s.heap.get? c = some o → h₃.get? c = some o := fun c o c1 c2 c3 e => hs₃.extBut _ _ c3 (hs₂.extBut _ _ c2 (hs₁.extBut _ _ c1 e))
    have h1₃ : h₃.IsTupleIter i1 l1 (k + 1) := h1₂.extBut hs₃.extBut D.i12
    refine wpAny_pure ⟨_, rfl, ?_⟩
    show Q (.ref h₃.objs.size) _
    have hp : IsPair (h₃.push { cls := .type "tuple", data := .seq #[x, y] }) h₃.objs.size x y := Heap.get?_push_size _ rfl
    have hz4 : (h₃.push { cls := .type "tuple", data := .seq #[x, y] }).objs.size = h₃.objs.size + 1 := Heap.size_push ..
    rw [hsz] at hp hz4 ⊢
    have hTI₃ : IsPair h₃ TI (.ref i1) (.ref i2) := hk _ _ D.TIz D.TIi1 D.TIi2 hTI
    have hTO₃ : IsPair h₃ TO a b := hk _ _ D.TOz D.TOi1 D.TOi2 hTO
    exact hQ _ ⟨⟨_, _, Heap.get?_push_of_some _ hz₃, ho⟩, Heap.get?_push_of_some _ hTI₃, ⟨_, _, Heap.get?_push_of_some _ hTO₃⟩, h1₃.at fun o e => Heap.get?_push_of_some _ e, h2₃.at fun o e => Heap.get?_push_of_some _ e⟩ hp hz4 fun c o c1 _ c3 c4 e => Heap.get?_push_of_some _ (hk c o c1 c3 c4 e)
theorem zipE_next_end {z TI TO i1 i2 l1 l2 : Addr} {k : Nat} {xs ys : Array Value} {Q : Fin → Shared → Prop} (hh : A.handled = none) (D : ZipApart z TI TO i1 i2 l1 l2) (S : ZSt s.heap z TI TO i1 i2 l1 l2 k)
    (hl1 : s.heap.IsTuple l1 xs) (hl2 : s.heap.IsTuple l2 ys) (hend : xs[k]? = none ∨ ys[k]? = none)
    (hE : ∀ h' e, (∀ c o, c ≠ z → c ≠ TO → c ≠ i1 → c ≠ i2 → s.heap.get? c = some o → h'.get? c = some o) → (∃ o, h'.get? e = some o ∧ o.cls = .type "StopIteration") → E (.ref e) { s with heap := h' }) :
    wpAny (model prog w) A (Builtin.«zip.__next__» ⟨[.ref z], []⟩) Q E s := by
  obtain ⟨⟨f0, f1, hz, ho⟩, hTI, ⟨a, b, hTO⟩, h1, h2⟩ := S
  show wpAny _ _ (field (.ref z) 2 >>= _) _ _ _
  refine wpAny_bind (wpAny_field hz rfl (x := .bool false) rfl ?_)
  show wpAny _ _ (field (.ref z) 3 >>= _) _ _ _
  refine wpAny_bind (wpAny_field hz rfl (x := .ref TI) rfl ?_)
  refine wpAny_bind (wpAny_seqItems hTI rfl ?_)
  show wpAny _ _ (Builtin.SmallTypes.ownedTupleIsFree (.ref z) >>= _) _ _ _
  refine wpAny_bind (free_zip hz ho ?_ fun h₁ hz₁ hs₁ => ?_)
  · simp only [if_true]
    refine wpAny_bind (wpAny_rule ?_)
    refine wpAny_bind (wpAny_field hz rfl (x := .ref TO) rfl ?_)
    refine wpAny_bind (wpAny_setField_rec hz (by simp) fun h₁ hz₁ hs₁ => ?_)
    replace hz₁ : ZF h₁ z TI TO .ellipsis f1 := hz₁
    refine wpAny_bind ?_
    simp only [List.zipIdx_cons, List.zipIdx_nil, List.forIn_cons, List.forIn_nil]
    refine wpAny_bind (wpAny_bind (wpAny_onRaise ?_))
    show wpAny _ _ (Builtin.SmallTypes.nextOf (.ref i1) >>= _) _ _ _
    cases hx : xs[k]? with
    | none =>
      refine wpAny_bind (nextOf_tuple_end hh (h1.extBut hs₁.extBut D.i1z) (hl1.extBut hs₁.extBut D.l1z) hx fun h₂ e hs₂ he => ?_)
      obtain ⟨oe, hoe, hce⟩ := he
      have hz₂ : ZF h₂ z TI TO .ellipsis f1 := hs₂ _ _ D.i1z.symm hz₁
      have hez : e ≠ z := fun x => by subst x; rw [hz₂] at hoe; cases hoe; simp at hce
      refine wpAny_setField_rec hz₂ (by simp) fun h₃ _ hs₃ => hE h₃ e (fun c o c1 _ c3 _ x => hs₃.extBut _ _ c1 (hs₂ _ _ c3 (hs₁.extBut _ _ c1 x))) ⟨oe, hs₃.extBut _ _ hez hoe, hce⟩
    | some x =>
      have hy : ys[k]? = none := by rcases hend with h | h; rw [hx] at h; cases h; exact h
      refine wpAny_bind (nextOf_tuple_item (h1.extBut hs₁.extBut D.i1z) (hl1.extBut hs₁.extBut D.l1z) hx fun h₂ h1₂ hs₂ => wpAny_pure ?_)
      have hTO₂ : IsPair h₂ TO a b := hs₂.extBut _ _ D.TOi1 (hs₁.extBut _ _ D.TOz hTO)
      refine wpAny_bind (wpAny_seqItems hTO₂ rfl ?_)
      refine wpAny_bind (wpAny_updateSeq_pair hTO₂ fun h₃ hTO₃ hs₃ => ?_)
      refine wpAny_bind (wpAny_letGo (wpAny_pure ?_))
      refine wpAny_bind (wpAny_bind (wpAny_onRaise ?_))
      show wpAny _ _ (Builtin.SmallTypes.nextOf (.ref i2) >>= _) _ _ _
      refine wpAny_bind (nextOf_tuple_end hh (((h2.extBut hs₁.extBut D.i2z).extBut hs₂.extBut D.i12.symm).extBut hs₃.extBut D.TOi2.symm)
        (((hl2.extBut hs₁.extBut D.l2z).extBut hs₂.extBut D.l2i1).extBut hs₃.extBut D.l2TO) hy fun h₄ e hs₄ he => ?_)
      obtain ⟨oe, hoe, hce⟩ := he
      have hz₄ : ZF h₄ z TI TO .ellipsis f1 := hs₄ _ _ D.i2z.symm (hs₃.extBut _ _ D.TOz.symm (hs₂.extBut _ _ D.i1z.symm hz₁))
      have hez : e ≠ z := fun x => by subst x; rw [hz₄] at hoe; cases hoe; simp at hce
      refine wpAny_setField_rec hz₄ (by simp) fun h₅ _ hs₅ => hE h₅ e (fun c o c1 c2 c3 c4 x => hs₅.extBut _ _ c1 (hs₄ _ _ c4 (hs₃.extBut _ _ c2 (hs₂.extBut _ _ c3 (hs₁.extBut _ _ c1 x))))) ⟨oe, hs₅.extBut _ _ hez hoe, hce⟩
  · simp only [Bool.false_eq_true, if_false]
    refine wpAny_bind ?_
    rw [← Array.forIn_toList]
    simp only [List.forIn_cons, List.forIn_nil]
    refine wpAny_bind (wpAny_bind (wpAny_holding ?_))
    show wpAny _ _ (Builtin.SmallTypes.nextOf (.ref i1) >>= _) _ _ _
    cases hx : xs[k]? with
    | none =>
      refine wpAny_bind (nextOf_tuple_end (s := { s with heap := h₁ }) hh (h1.extBut hs₁.extBut D.i1z) (hl1.extBut hs₁.extBut D.l1z) hx fun h₂ e hs₂ he => ?_)
      exact hE h₂ e (fun c o c1 _ c2 _ x => hs₂ _ _ c2 (hs₁.extBut _ _ c1 x)) he
    | some x =>
      have hy : ys[k]? = none := by rcases hend with h | h; rw [hx] at h; cases h; exact h
      refine wpAny_bind (nextOf_tuple_item (s := { s with heap := h₁ }) (h1.extBut hs₁.extBut D.i1z) (hl1.extBut hs₁.extBut D.l1z) hx fun h₂ h1₂ hs₂ => wpAny_pure ?_)
      refine wpAny_pure ?_
      refine wpAny_bind (wpAny_bind (wpAny_holding ?_))
      show wpAny _ _ (Builtin.SmallTypes.nextOf (.ref i2) >>= _) _ _ _
      refine wpAny_bind (nextOf_tuple_end (s := { s with heap := h₂ }) hh ((h2.extBut hs₁.extBut D.i2z).extBut hs₂.extBut D.i12.symm) ((hl2.extBut hs₁.extBut D.l2z).extBut hs₂.extBut D.l2i1) hy fun h₃ e hs₃ he => ?_)
      exact hE h₃ e (fun c o c1 _ c2 c3 x => hs₃ _ _ c3 (hs₂.extBut _ _ c2 (hs₁.extBut _ _ c1 x))) he
theorem nextOf_zipE_item {z TI TO i1 i2 l1 l2 : Addr} {k : Nat} {xs ys : Array Value} {x y : Value} {Q : Value → Shared → Prop} (D : ZipApart z TI TO i1 i2 l1 l2) (S : ZSt s.heap z TI TO i1 i2 l1 l2 k)
    (hl1 : s.heap.IsTuple l1 xs) (hl2 : s.heap.IsTuple l2 ys) (hx : xs[k]? = some x) (hy : ys[k]? = some y)
    (hQ : ∀ h', ZSt h' z TI TO i1 i2 l1 l2 (k + 1) → IsPair h' s.heap.objs.size x y → h'.objs.size = s.heap.objs.size + 1 →
      (∀ c o, c ≠ z → c ≠ TO → c ≠ i1 → c ≠ i2 → s.heap.get? c = some o → h'.get? c = some o) → Q (.ref s.heap.objs.size) { s with heap := h' }) :
    wpAny (model prog w) A (Builtin.SmallTypes.nextOf (.ref z)) Q E s := by
  obtain ⟨f0, f1, hz, _⟩ := S.zf
  have hT : s.TypeIs (.ref z) "zip" := ⟨_, hz, rfl⟩
  unfold Builtin.SmallTypes.nextOf
  exact wpAny_bind (wpAny_callSpecial?_slot (name := Str.ofString "__next__") hT F.slot_zip_next
    (wpAny_call_entry F.slot_zip_next hT F.entry_zip_next
      (zipE_next_item D S hl1 hl2 hx hy fun h' a1 a2 a3 a4 => wpAny_pure (hQ h' a1 a2 a3 a4)) (F.args_zip_next_1 _)))
theorem nextOf_zipE_end {z TI TO i1 i2 l1 l2 : Addr} {k : Nat} {xs ys : Array Value} {Q : Value → Shared → Prop} (hh : A.handled = none) (D : ZipApart z TI TO i1 i2 l1 l2) (S : ZSt s.heap z TI TO i1 i2 l1 l2 k)
    (hl1 : s.heap.IsTuple l1 xs) (hl2 : s.heap.IsTuple l2 ys) (hend : xs[k]? = none ∨ ys[k]? = none)
    (hE : ∀ h' e, (∀ c o, c ≠ z → c ≠ TO → c ≠ i1 → c ≠ i2 → s.heap.get? c = some o → h'.get? c = some o) → (∃ o, h'.get? e = some o ∧ o.cls = .type "StopIteration") → E (.ref e) { s with heap := h' }) :
    wpAny (model prog w) A (Builtin.SmallTypes.nextOf (.ref z)) Q E s := by
  obtain ⟨f0, f1, hz, _⟩ := S.zf
  have hT : s.TypeIs (.ref z) "zip" := ⟨_, hz, rfl⟩
  unfold Builtin.SmallTypes.nextOf
  exact wpAny_bind (wpAny_callSpecial?_slot (name := Str.ofString "__next__") hT F.slot_zip_next
    (wpAny_call_entry F.slot_zip_next hT F.entry_zip_next (zipE_next_end hh D S hl1 hl2 hend hE) (F.args_zip_next_1 _)))
theorem enumE_next_item {e z TI TO i1 i2 l1 l2 : Addr} {i : Nat} {xs ys : Array Value} {x y old : Value} {Q : Option Value → Shared → Prop} (D : ZipApart z TI TO i1 i2 l1 l2) (he : IsEnum s.heap e z i old) (S : ZSt s.heap z TI TO i1 i2 l1 l2 i)
    (hl1 : s.heap.IsTuple l1 xs) (hl2 : s.heap.IsTuple l2 ys) (hx : xs[i]? = some x) (hy : ys[i]? = some y) (ne : e ∉ [z, TI, TO, i1, i2])
    (hQ : ∀ h₁ h', ZSt h₁ z TI TO i1 i2 l1 l2 (i + 1) → IsPair h₁ s.heap.objs.size x y → h₁.objs.size = s.heap.objs.size + 1 →
      (∀ c o, c ∉ [e, z, TI, TO, i1, i2] → s.heap.get? c = some o → h₁.get? c = some o) → IsEnumOut h' e z ((i : Int) + 1) (.ref s.heap.objs.size) (s.heap.objs.size + 1) →
      h'.get? (s.heap.objs.size + 1) = some { cls := .type "tuple", data := .seq #[.int i s.toks, .ref s.heap.objs.size] } → (∀ c o, c ≠ e → h₁.get? c = some o → h'.get? c = some o) →
      Q (some (.ref (s.heap.objs.size + 1))) { s with heap := h', toks := s.toks + 1 }) :
    wpAny (model prog w) A (pyNext (.ref e)) Q E s := by
  have hT : s.TypeIs (.ref e) "enumerate" := ⟨_, he, rfl⟩
  have n1 : e ≠ z := fun q => ne (by simp [q])
  have n2 : e ≠ TO := fun q => ne (by simp [q])
  have n3 : e ≠ i1 := fun q => ne (by simp [q])
  have n4 : e ≠ i2 := fun q => ne (by simp [q])
  unfold pyNext
  refine wpAny_bind (wpAny_attempt (wpAny_callSpecial?_slot (name := Str.ofString "__next__") hT F.slot_enumerate_next
    (wpAny_call_entry F.slot_enumerate_next hT F.entry_enumerate_next ?_ (F.args_enumerate_next_1 _))))
  obtain ⟨hp, g, d, tk, os⟩ := s
  show wpAny _ _ (field (.ref e) 2 >>= _) _ _ _
  refine wpAny_bind (wpAny_field he rfl (x := .ref z) rfl ?_)
  refine wpAny_bind (nextOf_zipE_item D S hl1 hl2 hx hy fun h₁ S₁ hT₁ sz₁ kp₁ => ?_)
  replace kp₁ : ∀ c o, c ≠ z → c ≠ TO → c ≠ i1 → c ≠ i2 → hp.get? c = some o → h₁.get? c = some o := kp₁
  replace sz₁ : h₁.objs.size = hp.objs.size + 1 := sz₁
  have he₁ : IsEnum h₁ e z i old := kp₁ _ _ n1 n2 n3 n4 he
  show wpAny _ _ (field (.ref e) 3 >>= _) _ _ ⟨h₁, g, d, tk, os⟩
  refine wpAny_bind (wpAny_field he₁ rfl (x := rawInt i) rfl ?_)
  show wpAny _ _ (field (.ref e) 4 >>= _) _ _ ⟨h₁, g, d, tk, os⟩
  refine wpAny_bind (wpAny_field he₁ rfl (x := .none) rfl ?_)
  show wpAny _ _ (mkInt i >>= _) _ _ ⟨h₁, g, d, tk, os⟩
  refine wpAny_bind (wpAny_mkInt ?_)
  show wpAny _ _ (setField (.ref e) 3 (rawInt ((i : Int) + 1)) >>= _) _ _ ⟨h₁, g, d, tk + 1, os⟩
  refine wpAny_bind (wpAny_setField_rec he₁ (by simp) fun h₂ he₂ hs₂ => ?_)
  replace hs₂ : Heap.SameBut e h₁ h₂ := hs₂
  replace he₂ : IsEnum h₂ e z ((i : Int) + 1) old := he₂
  show wpAny _ _ (setField (.ref e) 4 .none >>= _) _ _ ⟨h₂, g, d, tk + 1, os⟩
  refine wpAny_bind (wpAny_setField_rec he₂ (by simp) fun h₃ he₃ hs₃ => ?_)
  replace hs₃ : Heap.SameBut e h₂ h₃ := hs₃
  replace he₃ : IsEnum h₃ e z ((i : Int) + 1) old := he₃
  show wpAny _ _ (newTuple [.int i tk, .ref hp.objs.size] >>= _) _ _ ⟨h₃, g, d, tk + 1, os⟩
  refine wpAny_bind (wpAny_newTuple ?_)
  have he₄ : IsEnum (h₃.push { cls := .type "tuple", data := .seq #[.int i tk, .ref hp.objs.size] }) e z ((i : Int) + 1) old := Heap.get?_push_of_some _ he₃
  generalize hh₄ : h₃.push { cls := .type "tuple", data := .seq #[.int i tk, .ref hp.objs.size] } = h₄ at he₄
  have hsz : h₃.objs.size = hp.objs.size + 1 := by rw [hs₃.1, hs₂.1, sz₁]
  have hel : e < hp.objs.size := Heap.lt_size he
  have nP : hp.objs.size + 1 ≠ e := Nat.ne_of_gt (Nat.lt_succ_of_lt hel)
  have ht₄ : h₄.get? (hp.objs.size + 1) = some { cls := .type "tuple", data := .seq #[.int i tk, .ref hp.objs.size] } := by rw [← hh₄, ← hsz]; exact Heap.get?_push_size _ rfl
  have hk₄ : ∀ b o, b ≠ e → h₁.get? b = some o → h₄.get? b = some o := fun b o hbe hb => by
    rw [← hh₄]; exact Heap.get?_push_of_some _ (hs₃.extBut b o hbe (hs₂.extBut b o hbe hb))
  show wpAny _ _ (Builtin.SmallTypes.ownedTupleIsFree (.ref e) >>= _) _ _ ⟨h₄, g, d, tk + 1, os⟩
  rw [hsz]
  clear hh₄ he₃ hs₃ he₂ hs₂ he₁ hsz h₃ h₂
  refine wpAny_bind ?_
  · unfold Builtin.SmallTypes.ownedTupleIsFree
    refine wpAny_bind (wpAny_field he₄ rfl (x := .none) rfl (wpAny_pure ?_))
    simp only [if_true]
    refine wpAny_bind (wpAny_rule ?_)
    refine wpAny_bind (wpAny_field he₄ rfl (x := old) rfl ?_)
    refine wpAny_bind (wpAny_setField_rec he₄ (by simp) fun h₅ he₅ hs₅ => ?_)
    replace hs₅ : Heap.SameBut e h₄ h₅ := hs₅
    replace he₅ : IsEnum h₅ e z ((i : Int) + 1) (.ref hp.objs.size) := he₅
    show wpAny _ _ (Builtin.SmallTypes.ownedTupleHandOut (.ref e) (.ref (hp.objs.size + 1)) >>= _) _ _ ⟨h₅, g, d, tk + 1, os⟩
    refine wpAny_bind ?_
    · unfold Builtin.SmallTypes.ownedTupleHandOut
      refine wpAny_bind (wpAny_setField_rec he₅ (by simp) fun h₆ he₆ hs₆ => ?_)
      replace hs₆ : Heap.SameBut e h₅ h₆ := hs₆
      replace he₆ : IsEnumOut h₆ e z ((i : Int) + 1) (.ref hp.objs.size) (hp.objs.size + 1) := he₆
      refine wpAny_setField_rec he₆ (by simp) fun h₇ he₇ hs₇ => ?_
      replace hs₇ : Heap.SameBut e h₆ h₇ := hs₇
      replace he₇ : IsEnumOut h₇ e z ((i : Int) + 1) (.ref hp.objs.size) (hp.objs.size + 1) := he₇
      refine wpAny_bind (wpAny_letGo (wpAny_pure ⟨_, rfl, wpAny_pure (hQ h₁ h₇ S₁ hT₁ sz₁ (fun c o hc => kp₁ c o (fun q => hc (by simp [q])) (fun q => hc (by simp [q])) (fun q => hc (by simp [q])) (fun q => hc (by simp [q]))) he₇ ?_ ?_)⟩))
      · exact hs₇.extBut _ _ nP (hs₆.extBut _ _ nP (hs₅.extBut _ _ nP ht₄))
      · exact fun b o hbe hb => hs₇.extBut b o hbe (hs₆.extBut b o hbe (hs₅.extBut b o hbe (hk₄ b o hbe hb)))
theorem enumE_next_end {e z TI TO i1 i2 l1 l2 : Addr} {i : Nat} {xs ys : Array Value} {old : Value} {Q : Option Value → Shared → Prop} (hh : A.handled = none) (D : ZipApart z TI TO i1 i2 l1 l2) (he : IsEnum s.heap e z i old) (S : ZSt s.heap z TI TO i1 i2 l1 l2 i)
    (hl1 : s.heap.IsTuple l1 xs) (hl2 : s.heap.IsTuple l2 ys) (hend : xs[i]? = none ∨ ys[i]? = none)
    (hQ : ∀ h', (∀ c o, c ≠ z → c ≠ TO → c ≠ i1 → c ≠ i2 → s.heap.get? c = some o → h'.get? c = some o) → Q none { s with heap := h' }) : wpAny (model prog w) A (pyNext (.ref e)) Q E s := by
  have hT : s.TypeIs (.ref e) "enumerate" := ⟨_, he, rfl⟩
  unfold pyNext
  refine wpAny_bind (wpAny_attempt (wpAny_callSpecial?_slot (name := Str.ofString "__next__") hT F.slot_enumerate_next
    (wpAny_call_entry F.slot_enumerate_next hT F.entry_enumerate_next ?_ (F.args_enumerate_next_1 _))))
  show wpAny _ _ (field (.ref e) 2 >>= _) _ _ _
  refine wpAny_bind (wpAny_field he rfl (x := .ref z) rfl ?_)
  refine wpAny_bind (nextOf_zipE_end hh D S hl1 hl2 hend fun h' x he' hx' => ?_)
  obtain ⟨o, ho, hc⟩ := hx'
  refine wpAny_bind (wpAny_isInstance (T := "StopIteration") (b := true) ⟨o, ho, hc⟩ isSubtype_stop ?_)
  exact wpAny_pure (hQ _ he')
end
theorem meets_enumerate_newZ (z TI TO : Addr) :
    Meets (Builtin.«enumerate.__new__» ⟨[.type "enumerate", .ref z], []⟩) (fun _ R s => IsZip s.heap z TI TO .none ∧
      R (.ok (.ret (.ref s.heap.objs.size))) { s with heap := s.heap.push { cls := .type "enumerate", data := .fields #[.none, .bool false, .ref z, rawInt 0, .none, .none] } }) :=
  .of_wp fun prog w A R s h => by
    obtain ⟨hp, g, d, tk, os⟩ := s; obtain ⟨hl, h⟩ := h
    have hsub := sub_enumerate
    have hL : IsZip (Shared.heap ⟨hp, g, d, tk, os⟩) z TI TO .none := hl
    wp_walk using AutoSeq1.wpAny_loadPart' hl
    refine wpAny_stack_any fun st => wpAny_pure ?_
    split
    · rename_i c _ _ _ _ _
      cases (c == Value.type "enumerate")
      · wp_walk using AutoSeq1.wpAny_loadPart' hl, wpAny_pyIter_zip hL
        exact ⟨_, rfl, h⟩
      · wp_walk using AutoSeq1.wpAny_loadPart' hl, wpAny_pyIter_zip hL
        exact ⟨_, rfl, h⟩
    · wp_walk using AutoSeq1.wpAny_loadPart' hl, wpAny_pyIter_zip hL
      exact ⟨_, rfl, h⟩
section
variable {prog : Program} {w : World} {A : Around} {E : Value → Shared → Prop} {s : Shared}
theorem call_enumZ {z TI TO : Addr} {Q : Value → Shared → Prop} (hL : IsZip s.heap z TI TO .none)
    (h : ∀ h', IsEnum h' s.heap.objs.size z 0 .none → (∀ b o, s.heap.get? b = some o → h'.get? b = some o) → Q (.ref s.heap.objs.size) { s with heap := h' }) :
    wpAny (model prog w) A (call (.type "enumerate") [.ref z]) Q E s := by
  refine callType_new F.called_enumerate (by decide) (F.typeCall_enumerate_1 _) (F.newCall_enumerate_1 _) (fun obj => F.args_object_init_2 obj _) F.entry_enumerate_new
    (meets_enumerate_newZ z TI TO) ⟨hL, ?_⟩
  have he : IsEnum (s.heap.push { cls := .type "enumerate", data := .fields #[.none, .bool false, .ref z, rawInt 0, .none, .none] }) s.heap.objs.size z 0 .none := Heap.get?_push_size _ rfl
  exact ⟨⟨_, he, rfl⟩, h _ he fun b o x => Heap.get?_push_of_some _ x⟩
end
end RZ
namespace RZ
open PySem PySem.Spec PyProof.Rows L2
def ItezT (K : PySem.W.Frag) (a b : Addr) : It :=
  ⟨fun i H => ∃ (xs ys : List V) (x y : V), SqT K H a xs ∧ SqT K H b ys ∧ xs[i]? = some x ∧ ys[i]? = some y,
    fun i H v H' => ∃ T P x y, v = .ref P ∧ H T = none ∧ upd H T (.tup [x, y]) P = none ∧ H' = upd (upd H T (.tup [x, y])) P (.tup [.int (i : Nat), .ref T]) ∧ (∀ xs, SqT K H a xs → xs[i]? = some x) ∧ ∀ ys, SqT K H b ys → ys[i]? = some y,
    fun i H => ∃ xs ys : List V, SqT K H a xs ∧ SqT K H b ys ∧ (xs.length ≤ i ∨ ys.length ≤ i)⟩
theorem turn_ezT {P : Program} {w : World} {K : PySem.W.Frag} {elts : List Expr} {kk : Nat} {tpos : Pos} {a b e z TI TO i1 i2 : Addr} (D : ZipApart z TI TO i1 i2 a b) (ne : e ∉ [z, TI, TO, i1, i2]) :
    Turn P w K (.Tuple elts kk tpos) (ItezT K a b) [e, z, TI, TO, i1, i2] e (fun i h => (∃ old, IsEnum h e z ((i : Nat) : Int) old) ∧ ZSt h z TI TO i1 i2 a b i) where
  mem := by simp
  obj := fun i h st c hc => by
    obtain ⟨⟨old, he⟩, ⟨f0, f1, hz, _⟩, hTI, ⟨x, y, hTO⟩, ⟨o1, e1, _, d1⟩, ⟨o2, e2, _, d2⟩⟩ := st
    have e' : c = e ∨ c = z ∨ c = TI ∨ c = TO ∨ c = i1 ∨ c = i2 := by simpa using hc
    rcases e' with q | q | q | q | q | q
    · rw [q]; exact ⟨_, he, fun v q => nomatch q⟩
    · rw [q]; exact ⟨_, hz, fun v q => nomatch q⟩
    · rw [q]; exact ⟨_, hTI, fun v q => nomatch q⟩
    · rw [q]; exact ⟨_, hTO, fun v q => nomatch q⟩
    · rw [q]; exact ⟨o1, e1, fun v q => by rw [d1] at q; cases q⟩
    · rw [q]; exact ⟨o2, e2, fun v q => by rw [d2] at q; cases q⟩
  keep := fun i h h' st k => by
    obtain ⟨⟨old, he⟩, S⟩ := st
    exact ⟨⟨old, k e (by simp) _ he⟩, S.keep fun c hc => k c (List.mem_cons_of_mem _ hc)⟩
  item := by
    intro X hP hw hK hc i pins s σ H E I hf st hg
    subst hP hw hK
    obtain ⟨⟨old, he⟩, S⟩ := st
    obtain ⟨xs, ys, x, y, hqx, hqy, hx, hy⟩ := hg
    obtain ⟨its, rv, p, _⟩ := I.tuple hqx
    obtain ⟨its2, rv2, p2, _⟩ := I.tuple hqy
    obtain ⟨u, hu, ru⟩ := rv.get hx
    obtain ⟨u2, hu2, ru2⟩ := rv2.get hy
    have hel : e < s.heap.objs.size := Heap.lt_size he
    have lts : ∀ c ∈ [e, z, TI, TO, i1, i2], c < s.heap.objs.size := fun c hcm => by
      obtain ⟨⟨f0, f1, hz, _⟩, hTI, ⟨x0, y0, hTO⟩, h1, h2⟩ := S
      have e' : c = e ∨ c = z ∨ c = TI ∨ c = TO ∨ c = i1 ∨ c = i2 := by simpa using hcm
      rcases e' with q | q | q | q | q | q
      · rw [q]; exact hel
      · rw [q]; exact Heap.lt_size hz
      · rw [q]; exact Heap.lt_size hTI
      · rw [q]; exact Heap.lt_size hTO
      · rw [q]; obtain ⟨_, e1, _⟩ := h1; exact Heap.lt_size e1
      · rw [q]; obtain ⟨_, e1, _⟩ := h2; exact Heap.lt_size e1
    refine enumE_next_item D he S p p2 (x := u) (y := u2) (by simpa using hu) (by simpa using hu2) ne fun h₁ h' S₁ hT₁ sz₁ kp₁ he' hP' kp' => ?_
    refine ⟨_, rfl, wpAny_letOwnedTupleGo_enum (s := { s with heap := h', toks := s.toks + 1 }) he' fun h'' he'' sb => ?_⟩
    have nT : s.heap.objs.size ≠ e := Nat.ne_of_gt hel
    have nP : s.heap.objs.size + 1 ≠ e := Nat.ne_of_gt (Nat.lt_succ_of_lt hel)
    have new1 : ObjOk X.prog X.w (upd H s.heap.objs.size (.tup [x, y])) h₁ s.heap.objs.size (.tup [x, y]) :=
      ⟨by show 2 ≤ sizeLine; decide, [u, u2], .cons ru (.cons ru2 .nil), ⟨_, hT₁, rfl, _, rfl⟩⟩
    have I1 : Inv X pins σ (upd H s.heap.objs.size (.tup [x, y])) { s with heap := h₁, toks := s.toks } :=
      I.turnedNew (t' := s.toks) (ch := [e, z, TI, TO, i1, i2]) (fun c o hb q => kp₁ c o hb q) hf (Nat.le_refl _) new1
    have hf1 : ∀ c ∈ [e, z, TI, TO, i1, i2], FpOk X pins (upd H s.heap.objs.size (.tup [x, y])) c := fun c hcm => by
      obtain ⟨q0, q1⟩ := hf c hcm
      exact ⟨by rw [upd_ne (Nat.ne_of_lt (lts c hcm))]; exact q0, q1⟩
    have kp2 : ∀ c o, c ≠ e → h₁.get? c = some o → h''.get? c = some o := fun c o hb q => (sb.2 c hb).trans (kp' c o hb q)
    have hP2 : h''.get? (s.heap.objs.size + 1) = some { cls := .type "tuple", data := .seq #[.int i s.toks, .ref s.heap.objs.size] } := (sb.2 _ nP).trans hP'
    have new2 : ObjOk X.prog X.w (upd (upd H s.heap.objs.size (.tup [x, y])) (s.heap.objs.size + 1) (.tup [.int (i : Nat), .ref s.heap.objs.size])) h'' (s.heap.objs.size + 1) (.tup [.int (i : Nat), .ref s.heap.objs.size]) :=
      ⟨by show 2 ≤ sizeLine; decide, [.int i s.toks, .ref s.heap.objs.size], .cons ⟨_, rfl⟩ (.cons rfl .nil), ⟨_, hP2, rfl, _, rfl⟩⟩
    have leP : (Shared.heap { s with heap := h₁, toks := s.toks }).objs.size ≤ s.heap.objs.size + 1 := Nat.le_of_eq sz₁
    have I2 : Inv X pins σ (upd (upd H s.heap.objs.size (.tup [x, y])) (s.heap.objs.size + 1) (.tup [.int (i : Nat), .ref s.heap.objs.size])) { s with heap := h'', toks := s.toks + 1 } :=
      I1.turnedNew (t' := s.toks + 1) (ch := [e, z, TI, TO, i1, i2]) (fun c o hb q => kp2 c o (fun z => hb (by simp [z])) q) hf1 leP new2
    refine ⟨.ref (s.heap.objs.size + 1), _, I2, rfl, ⟨s.heap.objs.size, s.heap.objs.size + 1, x, y, rfl, I.hok.fresh (Nat.le_refl _), I1.hok.fresh leP, rfl, fun l hl => by rw [I.tuple_inj hl hqx]; exact hx, fun l hl => by rw [I.tuple_inj hl hqy]; exact hy⟩, ⟨⟨.ref s.heap.objs.size, ?_⟩, S₁.keep fun c hcm o q => kp2 c o (fun z => ne (z ▸ hcm)) q⟩, fun c hcm => ?_⟩
    · have e1 : ((i + 1 : Nat) : Int) = (i : Int) + 1 := by omega
      rw [e1]; exact he''
    · have hlt := lts c hcm
      rw [upd_ne (Nat.ne_of_lt (Nat.lt_succ_of_lt hlt)), upd_ne (Nat.ne_of_lt hlt)]
      exact (hf c hcm).1
  done := by
    intro X hP hw hK hc i pins s σ H E I hf st hg
    subst hP hw hK
    obtain ⟨⟨old, he⟩, S⟩ := st
    obtain ⟨xs, ys, hqx, hqy, hend⟩ := hg
    obtain ⟨its, rv, p, _⟩ := I.tuple hqx
    obtain ⟨its2, rv2, p2, _⟩ := I.tuple hqy
    have l1 := rv.length
    have l2 := rv2.length
    have he2 : its.toArray[i]? = none ∨ its2.toArray[i]? = none := by
      rcases hend with q | q
      · exact .inl (by simp; omega)
      · exact .inr (by simp; omega)
    exact enumE_next_end (I.ok.hd hc) D he S p p2 he2 fun h' hk => ⟨rfl, I.turnedL (t' := s.toks) (ch := [e, z, TI, TO, i1, i2]) (fun c o hb q =>
      hk c o (fun q' => hb (by simp [q'])) (fun q' => hb (by simp [q'])) (fun q' => hb (by simp [q'])) (fun q' => hb (by simp [q'])) q) hf⟩
  self := fun A i s Q E st h => let ⟨⟨_, he⟩, _⟩ := st; wpAny_pyIter_enum he h
def iEzT (K : PySem.W.Frag) (ta : TA) : TI := fun σ H R => ta σ H fun vs H1 => ∃ a b xs ys, vs = [.ref a, .ref b] ∧ SqT K H1 a xs ∧ SqT K H1 b ys ∧ R (ItezT K a b) H1
theorem pi_ezT {X : Cx} {e e2 : Expr} {ta : TA} {p p0 pos pos2 tpos : Pos} {elts : List Expr} {kk : Nat} (hg0 : Gl X "enumerate") (hm0 : X.mg "enumerate" = none) (hg : Gl X "zip") (hm : X.mg "zip" = none) (ha : PA X [e, e2] ta)
    (hs0 : starEach [.Call (.Name "zip" p) [e, e2] [] pos] X.env = [(false, eval (.Call (.Name "zip" p) [e, e2] [] pos) X.env)] := by rfl)
    (hs : starEach [e, e2] X.env = (false, eval e X.env) :: starEach [e2] X.env := by rfl) (hpl : (backTo pos (starEach [e2] X.env)).any (·.1) = false := by rfl) :
    PI X (.Tuple elts kk tpos) (.Call (.Name "enumerate" p0) [.Call (.Name "zip" p) [e, e2] [] pos] [] pos2) (iEzT X.K ta) := by
  refine ⟨fun pins s σ H R I h => ?_⟩
  refine Call_ (ld_blt I hg0 hm0 boot_enumerate (PyProof.Rows.callWith_type1 ?_ hs0 rfl))
  rw [hs0]
  show wpAny _ _ (spliced ((false, eval (.Call (.Name "zip" p) [e, e2] [] pos) X.env) :: backTo pos2 [])) _ _ s
  refine Calls.spliced_cons ?_
  refine Call_ (ld_blt I hg hm PyProof.Rows.boot_zip (PyProof.Rows.callWith_type1 (thn (ha.run pos pins s σ H _ I h) fun us s1 ⟨vs, H1, I1, r1, q1⟩ => ?_) hs hpl))
  obtain ⟨a, b, xs, ys, ex, hqx, hqy, q⟩ := q1
  subst ex
  cases r1 with
  | cons r rr =>
    cases rr with
    | cons r' rr =>
      cases rr
      cases r
      cases r'
      obtain ⟨its, rv, p1, _⟩ := I1.tuple hqx
      obtain ⟨its2, rv2, p2, _⟩ := I1.tuple hqy
      obtain ⟨o1, ho1, _⟩ := id p1
      obtain ⟨o2, ho2, _⟩ := id p2
      refine call_zipT (show s1.heap.IsTuple a its.toArray from p1) (show s1.heap.IsTuple b its2.toArray from p2) fun h' hz hTI hTO h1 h2 hsz hk => ?_
      refine Calls.spliced_nil ?_
      refine call_enumZ (s := { s1 with heap := h' }) hz fun h2' he hk2 => wpAny_pyIter_enum he ?_
      replace he : IsEnum h2' h'.objs.size (s1.heap.objs.size + 4) 0 .none := he
      rw [hsz] at he
      have I2 : Inv X pins σ H1 { s1 with heap := h2' } := I1.kept (t' := s1.toks) fun c o x => hk2 c o (hk c o x)
      have ze : (Shared.heap { s1 with heap := h' }).objs.size = s1.heap.objs.size + 5 := hsz
      rw [ze]
      refine ⟨s1.heap.objs.size + 5, [s1.heap.objs.size + 5, s1.heap.objs.size + 4, s1.heap.objs.size + 2, s1.heap.objs.size + 3, s1.heap.objs.size, s1.heap.objs.size + 1], _, _, H1, rfl, I2, turn_ezT (PySem.W.ktu_apart s1.heap.objs.size a b (Heap.lt_size ho1) (Heap.lt_size ho2)) (by simp), ⟨⟨.none, he⟩, ⟨⟨_, _, hk2 _ _ hz, .inl rfl⟩, hk2 _ _ hTI, ⟨_, _, hk2 _ _ hTO⟩, h1.at fun o q => hk2 _ o q, h2.at fun o q => hk2 _ o q⟩⟩, fun c hcm => ?_, q⟩
      have hle : s1.heap.objs.size ≤ c := by
        have e' : c = s1.heap.objs.size + 5 ∨ c = s1.heap.objs.size + 4 ∨ c = s1.heap.objs.size + 2 ∨ c = s1.heap.objs.size + 3 ∨ c = s1.heap.objs.size ∨ c = s1.heap.objs.size + 1 := by simpa using hcm
        rcases e' with z | z | z | z | z | z
        · rw [z]; exact Nat.le_add_right _ _
        · rw [z]; exact Nat.le_add_right _ _
        · rw [z]; exact Nat.le_add_right _ _
        · rw [z]; exact Nat.le_add_right _ _
        · rw [z]; exact Nat.le_refl _
        · rw [z]; exact Nat.le_add_right _ _
      exact I1.fpOk hle (I1.hok.fresh hle)
end RZ
namespace Pu
open PySem L2 PyProof.Rows RZ
def dEz (f : DTA) : DTI := fun env Q => f env fun ss => ∃ xs ys, ss = [.d (.tuple xs), .d (.tuple ys)] ∧ Q (enumD 0 (zipD xs ys))
section
variable {K : PySem.W.Frag} {F : Fr} {hid : Hid} {tr : TA} {fr : DTA}
theorem si_ez (h : SdA K F tr fr) : SdI K F (iEzT K tr) (dEz fr) := by
  intro Hb H σ env Q R rp q c
  refine h Hb H σ env _ _ rp q fun vs Hb1 H1 ss st1 rs1 q1 => ?_
  obtain ⟨xs, ys, e, q1⟩ := q1
  subst e
  obtain ⟨v, w, rfl, h1, h2⟩ := rep2 rs1
  cases (show Dq K Hb1 v (.tuple xs) from h1) with
  | @tup a vs _ a1 a2 =>
    cases (show Dq K Hb1 w (.tuple ys) from h2) with
    | @tup b us _ b1 b2 =>
      refine ⟨_, _, _, _, rfl, Same.seqT st1.st.ex a1, Same.seqT st1.st.ex b1, c _ Hb1 H1 _ st1 ⟨fun H => SqT K H a vs ∧ SqT K H b us, fun i H v H' => ∃ T P x y, v = .ref P ∧ H T = none ∧ upd H T (.tup [x, y]) P = none ∧ H' = upd (upd H T (.tup [x, y])) P (.tup [.int (i : Nat), .ref T]) ∧ vs[i]? = some x ∧ us[i]? = some y, ?_, fun H' s => ⟨Same.seqT s a1, Same.seqT s b1⟩, fun i Hb' H x H' hi st ex y => ?_⟩ q1⟩
      · rw [enumD_length, zipD_length, ← DqAll.length a2, ← DqAll.length b2]
        refine ⟨fun i _ hi q => ?_, fun _ q => ⟨vs, us, q.1, q.2, by omega⟩, fun i H v H' _ q y => ?_⟩
        · have h1 : i < vs.length := by omega
          have h2 : i < us.length := by omega
          exact ⟨vs, us, vs[i], us[i], q.1, q.2, by simp [h1], by simp [h2]⟩
        · obtain ⟨T, P, x, z, h1, h2, h3, h4, h5, h6⟩ := y
          exact ⟨T, P, x, z, h1, h2, h3, h4, h5 vs q.1, h6 us q.2⟩
      · obtain ⟨T, P, p, q, e1, e2, e3, e4, e5, e6⟩ := y
        obtain ⟨d, d1, d2⟩ := DqAll.get a2 e5
        obtain ⟨e, g1, g2⟩ := DqAll.get b2 e6
        subst e1 e4
        obtain ⟨s2, r2⟩ := pair_new (K := K) (Hb := Hb') st e2 (Dq.mono ex d2) (Dq.mono ex g2)
        obtain ⟨s3, r3⟩ := pair_new (K := K) (Hb := Hb') s2.st e3 (Dq.int (i : Nat)) r2
        refine ⟨_, _, ?_, s2.trans s3, r3⟩
        have := enumD_get 0 i _ _ (zipD_get i xs ys d e d1 g1)
        rw [Nat.zero_add] at this
        exact this
end
section
variable {X : Cx} {F : Fr} {K : PySem.W.Frag} {e e2 : Expr} {tr : TA} {fr : DTA} {p p0 pos pos2 tpos : Pos} {elts : List Expr} {kk : Nat}
theorem di_ez (q : X.K = K) (hm0 : X.mg "enumerate" = none) (hm : X.mg "zip" = none) (ha : DA X F [e, e2] tr fr) (hg0 : Gl X "enumerate" := by rfl) (hg : Gl X "zip" := by rfl)
    (hs0 : starEach [.Call (.Name "zip" p) [e, e2] [] pos] X.env = [(false, eval (.Call (.Name "zip" p) [e, e2] [] pos) X.env)] := by rfl)
    (hs : starEach [e, e2] X.env = (false, eval e X.env) :: starEach [e2] X.env := by rfl) (hpl : (backTo pos (starEach [e2] X.env)).any (·.1) = false := by rfl) :
    DI X F (.Tuple elts kk tpos) (.Call (.Name "enumerate" p0) [.Call (.Name "zip" p) [e, e2] [] pos] [] pos2) (iEzT K tr) (dEz fr) := q ▸ ⟨pi_ezT hg0 hm0 hg hm ha.pe hs0 hs hpl, si_ez ha.sd⟩
end
end Pu

end

section
set_option maxHeartbeats 800000
/-! PuR3: range(i, j, c), the ends whatever they are. -/
namespace Pu
open PySem L2 PySem.Spec PyProof.Rows
abbrev IsLongC (h : Heap) (it : Addr) (x left c : Int) : Prop := h.get? it = some { cls := .type "longrange_iterator", dict := none, data := .fields #[rawInt x, rawInt left, rawInt c], slots := #[] }
theorem longC_step (it : Addr) (x left c : Int) (hl : ¬ left ≤ 0) : Meets (Builtin.«longrange_iterator.__next__» ⟨[.ref it], []⟩) (fun _ R s => IsLongC s.heap it x left c ∧
    R (.ok (.ret (Value.int x s.toks))) { s with heap := (s.heap.update it (Obj.mapFields fun fs => fs.setIfInBounds 0 (rawInt (x + c)))).update it (Obj.mapFields fun fs => fs.setIfInBounds 1 (rawInt (left - 1))), toks := s.toks + 1 }) :=
  .of_wp fun prog w A R s h => by
    obtain ⟨hp, g, d, tk, os⟩ := s
    obtain ⟨at_, h⟩ := h
    wp_walk
    exact ⟨_, rfl, h⟩
theorem longC_iter (r : Addr) (a b c : Int) (t u v : Tok) (hs : Builtin.Range.small a b c = false) : Meets (Builtin.«range.__iter__» ⟨[.ref r], []⟩) (fun _ R s => IsRange s.heap r a b c t u v ∧
    R (.ok (.ret (Value.ref s.heap.objs.size))) { s with heap := s.heap.push { cls := .type "longrange_iterator", data := .fields #[rawInt a, rawInt (Builtin.Range.rangeSize a b c), rawInt c] }, toks := s.toks }) :=
  .of_wp fun prog w A R s h => by
    obtain ⟨hp, g, d, tk, os⟩ := s
    obtain ⟨at_, h⟩ := h
    unfold Builtin.Range.small at hs
    wp_walk
    rw [hs]
    exact ⟨_, rfl, h⟩
section
variable {prog : Program} {w : World} {A : Around} {E : Value → Shared → Prop} {s : Shared} {it r : Addr} {x left a b c : Int} {t u v : Tok}
theorem longC_item {Q : Option Value → Shared → Prop} (hit : IsLongC s.heap it x left c) (hl : 0 < left) (hQ : ∀ h', IsLongC h' it (x + c) (left - 1) c → Heap.SameBut it s.heap h' → Q (some (.int x s.toks)) { s with heap := h', toks := s.toks + 1 }) : wpAny (model prog w) A (pyNext (.ref it)) Q E s := by
  have ty : s.TypeIs (.ref it) "longrange_iterator" := ⟨_, hit, rfl⟩
  unfold pyNext
  refine wpAny_bind (wpAny_attempt (wpAny_callSpecial?_slot (name := Str.ofString "__next__") ty slot_lr_next (call_meets slot_lr_next ty entry_lr_next (args_lr_next _) (longC_step it x left c (by omega)) ⟨hit, ?_⟩)))
  exact wpAny_pure (hQ _ (Heap.get?_update_self _ (Heap.get?_update_self _ hit rfl) rfl) ((Heap.SameBut.update ..).trans (Heap.SameBut.update ..)))
theorem longC_end {Q : Option Value → Shared → Prop} (hh : A.handled = none) (hit : IsLongC s.heap it x left c) (hl : left ≤ 0) (hQ : ∀ h', Heap.ExtBut it s.heap h' → Q none { s with heap := h' }) : wpAny (model prog w) A (pyNext (.ref it)) Q E s := by
  have ty : s.TypeIs (.ref it) "longrange_iterator" := ⟨_, hit, rfl⟩
  unfold pyNext
  refine wpAny_bind (wpAny_attempt (wpAny_callSpecial?_slot (name := Str.ofString "__next__") ty slot_lr_next (wpAny_call_entry slot_lr_next ty entry_lr_next ?_ (args_lr_next _))))
  obtain ⟨hp, g, d, tk, os⟩ := s
  unfold Builtin.«longrange_iterator.__next__»
  wp_walk
  simp only [raiseNew]
  refine wpAny_bind (wpAny_handled ?_)
  rw [show A.in1.handled = none from hh]
  refine wpAny_bind (wpAny_pure (wpAny_throw ?_))
  refine wpAny_bind (wpAny_isInstance (T := "StopIteration") (b := true) ⟨_, Heap.get?_push_size _ rfl, rfl⟩ isSubtype_stop ?_)
  exact wpAny_pure (hQ _ (((Heap.ExtBut.refl it hp).push _).push _))
theorem longC_iter_at {Q : Value → Shared → Prop} (hr : IsRange s.heap r a b c t u v) (hs : Builtin.Range.small a b c = false) (hQ : Q (.ref s.heap.objs.size) { s with heap := s.heap.push { cls := .type "longrange_iterator", data := .fields #[rawInt a, rawInt (Builtin.Range.rangeSize a b c), rawInt c] } }) : wpAny (model prog w) A (pyIter (.ref r)) Q E s := by
  have ty : s.TypeIs (.ref r) "range" := ⟨_, hr, rfl⟩
  refine wpAny_pyIter_slot ty F.slot_range_iter (call_meets F.slot_range_iter ty F.entry_range_iter (F.args_range_iter_1 _) (longC_iter r a b c t u v hs) ⟨hr, ?_⟩)
  exact ⟨"longrange_iterator", _, ⟨_, Heap.get?_push_size _ rfl, rfl⟩, slot_lr_next.lookup, hQ⟩
theorem longC_self {Q : Value → Shared → Prop} (hit : IsLongC s.heap it x left c) (h : Q (.ref it) s) : wpAny (model prog w) A (pyIter (.ref it)) Q E s := by
  have ty : s.TypeIs (.ref it) "longrange_iterator" := ⟨_, hit, rfl⟩
  refine wpAny_pyIter_slot ty slot_lr_iter (wpAny_call_entry slot_lr_iter ty entry_lr_iter ?_ (args_lr_iter _))
  show wpAny _ _ (ret (.ref it)) _ _ s
  exact wpAny_pure ⟨_, rfl, "longrange_iterator", _, ty, slot_lr_next.lookup, h⟩
end
theorem turn_longC {P : Program} {w : World} {K : PySem.W.Frag} {tg : Expr} (it : Addr) (lo c : Int) (n : Nat) : Turn P w K tg (Itc lo c n) [it] it (fun i h => IsLongC h it (lo + (i : Nat) * c) ((n : Int) - (i : Nat)) c) where
  mem := by simp
  obj := fun i h st b hb => by
    obtain rfl : b = it := by simpa using hb
    exact ⟨_, st, fun v z => by
      have z' : Data.fields _ = Data.cell v := z
      cases z'⟩
  keep := fun i h h' st k => k it (by simp) _ st
  item := by
    intro X hP hw hK hc i pins s σ H E I hf st hg
    subst hP hw hK
    obtain ⟨f0, f1, f2, f3, f4, f5⟩ := hf it (by simp)
    have hi : i < n := hg
    refine longC_item st (by omega) fun h' st' sb => ?_
    have I1 : Inv X pins σ H { s with heap := h', toks := s.toks + 1 } := I.turned (fun b o hb e => (sb.2 b hb).trans e) f0 f1 f3 f4 f5
    refine ⟨_, rfl, go_of (s := { s with heap := h', toks := s.toks + 1 }) (n := "longrange_iterator") st' rfl rfl (by decide) ⟨.int (lo + (i : Nat) * c), H, I1, ⟨s.toks, rfl⟩, ⟨rfl, rfl⟩, ?_, fun b hb => (hf b hb).1⟩⟩
    have e1 : lo + ((i + 1 : Nat) : Int) * c = lo + (i : Int) * c + c := by rw [Int.natCast_add, Int.add_mul]; omega
    have e2 : (n : Int) - ((i + 1 : Nat) : Int) = (n : Int) - (i : Int) - 1 := by omega
    show IsLongC h' it _ _ _
    rw [e1, e2]
    exact st'
  done := by
    intro X hP hw hK hc i pins s σ H E I hf st hg
    subst hP hw hK
    obtain ⟨f0, f1, f2, f3, f4, f5⟩ := hf it (by simp)
    exact longC_end (I.ok.hd hc) st (by have : n ≤ i := hg; omega) fun h' eb => ⟨rfl, I.turned (t' := s.toks) (fun b o hb e => eb b o hb e) f0 f1 f3 f4 f5⟩
  self := fun _ _ _ _ _ st h => longC_self st h
/-- a range just made, walked, whatever its ends -/
theorem rangeC_any {X : Cx} {tg : Expr} {pins : List (Addr × Obj)} {σ : L2.St} {H : Hp} {s : Shared} {R : It → Hp → Prop} {E : Value → Shared → Prop} {lo hi c : Int} {n : Nat} {t u v : Tok} {tk : Nat} (I : Inv X pins σ H s) (hn : Builtin.Range.rangeSize lo hi c = n)
    (q : R (Itc lo c n) H) : wpAny (model X.prog X.w) X.A (pyIter (.ref s.heap.objs.size)) (PIE X pins σ tg R) E { s with heap := s.heap.push { cls := .type "range", data := .fields #[.int lo t, .int hi u, .int c v] }, toks := tk } := by
  have I1 : Inv X pins σ H { s with heap := s.heap.push { cls := .type "range", data := .fields #[.int lo t, .int hi u, .int c v] }, toks := tk } := I.kept fun b o e => Heap.get?_push_of_some _ e
  have e2 : (n : Int) - ((0 : Nat) : Int) = Builtin.Range.rangeSize lo hi c := by rw [hn]; simp
  have e1 : lo + ((0 : Nat) : Int) * c = lo := by simp
  cases hs : Builtin.Range.small lo hi c with
  | true =>
    refine wpAny_pyIter_range (IsRange.new ..) hs ?_
    refine ⟨_, [_], _, _, H, rfl, I1.kept (t' := tk) fun b o e => Heap.get?_push_of_some _ e, turn_rangeC _ lo c n, ?_, fun b hb => ?_, q⟩
    · show IsRangeIter _ _ (lo + ((0 : Nat) : Int) * c) ((n : Int) - ((0 : Nat) : Int)) c
      rw [e1, e2]
      exact Heap.get?_push_size _ rfl
    · obtain rfl := List.mem_singleton.mp hb
      exact I1.fpOk (Nat.le_refl _) (I1.hok.fresh (Nat.le_refl _))
  | false =>
    refine longC_iter_at (IsRange.new ..) hs ?_
    refine ⟨_, [_], _, _, H, rfl, I1.kept (t' := tk) fun b o e => Heap.get?_push_of_some _ e, turn_longC _ lo c n, ?_, fun b hb => ?_, q⟩
    · show IsLongC _ _ (lo + ((0 : Nat) : Int) * c) ((n : Int) - ((0 : Nat) : Int)) c
      rw [e1, e2]
      exact Heap.get?_push_size _ rfl
    · obtain rfl := List.mem_singleton.mp hb
      exact I1.fpOk (Nat.le_refl _) (I1.hok.fresh (Nat.le_refl _))
def iRngC (ta : TA) : TI := fun σ H R => ta σ H fun vs H1 => ∃ (i j c : Int) (n : Nat), vs = [.int i, .int j, .int c] ∧ c ≠ 0 ∧ c.natAbs < 1073741824 ∧ Builtin.Range.rangeSize i j c = n ∧ R (Itc i c n) H1
theorem pi_rangeC {X : Cx} {tg a b c : Expr} {ta : TA} {p pos : Pos} (hg : Gl X "range") (hm : X.mg "range" = none) (ha : PA X [a, b, c] ta)
    (hs : starEach [a, b, c] X.env = (false, eval a X.env) :: starEach [b, c] X.env := by rfl) (hpl : (backTo pos (starEach [b, c] X.env)).any (·.1) = false := by rfl) :
    PI X tg (.Call (.Name "range" p) [a, b, c] [] pos) (iRngC ta) := by
  refine ⟨fun pins s σ H R I h => ?_⟩
  refine Call_ (ld_blt I hg hm boot_range (PyProof.Rows.callWith_type1 (thn (ha.run pos pins s σ H _ I h) fun us s1 ⟨vs, H1, I1, r1, q1⟩ => ?_) hs hpl))
  obtain ⟨i, j, k, n, e, c0, c1, c3, q⟩ := q1
  subst e
  cases r1 with
  | cons r rr =>
    cases rr with
    | cons r' rr =>
      cases rr with
      | cons r'' rr =>
        cases rr
        obtain ⟨t, rfl⟩ := r
        obtain ⟨t', rfl⟩ := r'
        obtain ⟨t'', rfl⟩ := r''
        exact call_range_3 c0 (rangeC_any I1 c3 q) (.inl (PyProof.noPylong_small c1))
def stepD (lo c : Int) (n : Nat) : List PyData := (List.range n).map fun i => .int (lo + (i : Nat) * c)
def dRngC (f : DTA) : DTI := fun env Q => f env fun ss => ∃ (i j c : Int) (n : Nat), ss = [.d (.int i), .d (.int j), .d (.int c)] ∧ c ≠ 0 ∧ c.natAbs < 1073741824 ∧ Builtin.Range.rangeSize i j c = n ∧ Q (stepD i c n)
theorem gives_rngC {K : PySem.W.Frag} {hid : Hid} {Hb : Hp} (lo c : Int) (n : Nat) : Gives K hid Hb (Itc lo c n) (stepD lo c n) := by
  have hl : (stepD lo c n).length = n := by simp [stepD]
  refine ⟨fun _ => True, fun i H x H' => H' = H ∧ x = .int (lo + (i : Nat) * c), by rw [hl]; exact ⟨fun i H hi _ => hi, fun H _ => Nat.le_refl _, fun i H x H' _ _ y => y⟩, fun _ _ => trivial, fun i Hb' H x H' hi st ex y => ?_⟩
  obtain ⟨e1, e2⟩ := y
  subst e1 e2
  exact ⟨Hb', .int (lo + (i : Nat) * c), by rw [hl] at hi; simp [stepD, hi], Step.refl st, .int _⟩
theorem si_rngC {K : PySem.W.Frag} {F : Fr} {tr : TA} {fr : DTA} (h : SdA K F tr fr) : SdI K F (iRngC tr) (dRngC fr) := by
  intro Hb H σ env Q R rp q c
  refine h Hb H σ env _ _ rp q fun vs Hb1 H1 ss st1 rs1 q1 => ?_
  obtain ⟨i, j, k, n, e, c0, c1, c2, q1⟩ := q1
  subst e
  obtain ⟨v, w, x, rfl, a, b, d⟩ := rep3 rs1
  exact ⟨i, j, k, n, by rw [int_of a, int_of b, int_of d], c0, c1, c2, c _ Hb1 H1 _ st1 (gives_rngC _ _ _) q1⟩
theorem di_rngC {X : Cx} {F : Fr} {tg a b c : Expr} {tr : TA} {fr : DTA} {p pos : Pos} (hm : X.mg "range" = none) (ha : DA X F [a, b, c] tr fr) (hg : Gl X "range" := by rfl) (hs : starEach [a, b, c] X.env = (false, eval a X.env) :: starEach [b, c] X.env := by rfl) (hpl : (backTo pos (starEach [b, c] X.env)).any (·.1) = false := by rfl) :
    DI X F tg (.Call (.Name "range" p) [a, b, c] [] pos) (iRngC tr) (dRngC fr) := ⟨pi_rangeC hg hm ha.pe hs hpl, si_rngC ha.sd⟩
end Pu

end

section
set_option maxHeartbeats 2000000
/-! PuEx: exceptions of the program's own classes, with one field that holds a tuple: raised, and caught. -/
namespace Pu
open PySem L2 PySem.Spec PyProof.Rows RZ
/-- what stands for raising: a def's promise is asked of it as of an answer; no value stands for it -/
def excS (ds : List PyData) : Sl := .d (.dict [(.none, .tuple ds)])
theorem exc_no {K : PySem.W.Frag} {hid : Hid} {Hb H : Hp} {v : V} {ds : List PyData} (h : RepSl K hid Hb H v (excS ds)) : False := by
  cases (show Dq K Hb v (.dict [(.none, .tuple ds)]) from h) with
  | @dic a kvs _ h1 h2 h3 =>
    match kvs, h2 with
    | p :: _, h2 =>
      have e : PyData.none = keyD p.1 := (List.cons.inj h2).1
      cases q : p.1 with
      | inl i => rw [q] at e; cases e
      | inr x => rw [q] at e; cases e
/-- what the written part says of the class x at C, its __init__ at fI, its field f -/
structure ExC (K : PySem.W.Frag) (mg : Str → Option Value) (x : Str) (C fI : Addr) (f : Str) : Prop where
  oex : OexC K C
  xf : XfC K C
  no : PySem.W.findIn K (.ref C) f = some none
  iC : PySem.W.findIn K (.ref C) "__init__" = some (some (.ref fI))
  tI : PySem.W.typeIn K (.ref fI) = some (.type "function")
  te : PySem.W.exmOne K (.ref C) (.ref C) = some true
  gm : mg x = some (.ref C)
/-- __init__(self, path): self.f = tuple(path), path a tuple -/
def spInit (K : PySem.W.Frag) (C : Addr) (f : Str) : Sp := fun vs H Q _ => ∃ (a p : Addr) (ys : List V), vs = [.ref a, .ref p] ∧ H a = some (exo a C none) ∧ SqT K H p ys ∧
  ∀ dx, H dx = none → dx ≠ a → Q .non (upd (upd H dx (exd dx [(f, .ref p)])) a (exo a C (some dx)))
/-- a def that may raise it -/
def spXE (K : PySem.W.Frag) (n : Nat) (m : FN) (C : Addr) (f : Str) : Sp := fun vs H Q E => ∃ hid Hb ss R, St0 hid Hb H ∧ RepAll K hid Hb H vs ss ∧ ss.length = n ∧ m ss R ∧
  (∀ v Hb' H' s, Step hid Hb H Hb' H' → RepSl K hid Hb' H' v s → FrSl H v s → R s → Q v H') ∧
  (∀ (v : V) Hb' H' (d : Addr) ds, Step hid Hb H Hb' H' → H' d = some (.xd [(f, v)]) → Dq K Hb' v (.tuple ds) → R (excS ds) → E (.ref C) (some d) H')
/-! ### raise x(e) -/
def dRaise (R : DK) (fe : DTE) : DTS := fun _ env => fe env fun s => ∃ ds, s.fz = .d (.tuple ds) ∧ R (excS ds)
def tRaise (C : Addr) (K : PySem.W.Frag) (f : Str) (E : XK) (te : TE) : TS := fun _ σ H => tMkO C (spInit K C f) [] (tCons te tNil) σ H fun cls d H' => E cls d H'
section
variable {K : PySem.W.Frag} {F : Fr} {te : TE} {fe : DTE} {C : Addr} {f : Str} {E : XK} {R : DK}
theorem sd_raise (he : SdE K F te fe) (hE : ∀ (v : V) Hb' H' (d : Addr) ds, Step F.hid F.B0 F.H0 Hb' H' → H' d = some (.xd [(f, v)]) → Dq K Hb' v (.tuple ds) → R (excS ds) → E (.ref C) (some d) H') : SdS K F (tRaise C K f E te) (dRaise R fe) := by
  intro Hb H σ env D E' r q l
  refine he.go (Q := fun s => ∃ ds, s = .d (.tuple ds) ∧ R (excS ds)) r q fun v Hb1 H1 s st1 rs1 _ q1 => ?_
  obtain ⟨ds, es, q1⟩ := q1
  subst es
  cases (show Dq K Hb1 v (.tuple ds) from rs1) with
  | @tup p vs _ h1 h2 =>
    have hq := Same.seqT st1.st.ex h1
    refine ⟨by show 1 ≤ 1000; omega, fun a ha => ⟨a, p, vs, rfl, upd_same, ?_, fun dx hdx hne => ⟨rfl, dx, [(f, .ref p)], upd_same, ?_, ?_, ?_⟩⟩⟩
    · exact Same.seqT (fun b u e => by rw [upd_ne (ne_of_none e ha)]; exact e) hq
    · rw [upd_ne hne, upd_same]
    · rw [upd_ne hne] at hdx; exact hdx
    · rw [upd_ne hne] at hdx
      have e : upd (del (upd (upd (upd H1 a (exo a C none)) dx (exd dx [(f, .ref p)])) a (exo a C (some dx))) a) dx (.xd [(f, V.ref p)]) = upd H1 dx (.xd [(f, V.ref p)]) := by
        funext b
        by_cases c : b = dx
        · subst c; rw [upd_same, upd_same]
        · rw [upd_ne c, upd_ne c]
          by_cases c2 : b = a
          · subst c2; rw [del_same, ha]
          · rw [del_ne c2, upd_ne c2, upd_ne c, upd_ne c2]
      show E (.ref C) (some dx) _
      rw [e]
      have s2 := Step.raw (o := .xd [(f, V.ref p)]) st1.st hdx
      exact hE (.ref p) Hb1 _ dx ds ((r.step.trans st1).trans s2) upd_same (.tup h1 h2) q1
end
section
variable {X : Cx} {F : Fr} {e : Expr} {te : TE} {fe : DTE} {x f : Str} {C fI : Addr} {CXi : CXT} {k : Nat} {fd : FuncData} {E : XK} {R : DK} {p pos pos2 : Pos}
theorem ds_raise (hc : X.calm = true) (T : ExC X.K X.mg x C fI f) (FI : FnOk X.prog X.w X.K X.mg X.base CX0 k fI fd ["self", "path"] (spInit X.K C f)) (hr : Room (k + 1) X.A) (hb : Binds X.K fd ["self", "path"] []) (tk : Takes X (fun cls d _ H => E cls d H))
    (hE : ∀ (v : V) Hb' H' (d : Addr) ds, Step F.hid F.B0 F.H0 Hb' H' → H' d = some (.xd [(f, v)]) → Dq X.K Hb' v (.tuple ds) → R (excS ds) → E (.ref C) (some d) H') (he : DE X F e te fe) (hg : Gl X x := by rfl) (hdb : (x == ("__debug__" : Str)) = false := by decide)
    (hs : starEach (e :: []) X.env = (false, eval e X.env) :: starEach [] X.env := by rfl) (hpl : (backTo pos (starEach [] X.env)).any (·.1) = false := by rfl) :
    DS X F (.Raise (some (.Call (.Name x p) [e] [] pos)) none pos2) (tRaise C X.K f E te) (dRaise R fe) :=
  ⟨ps_raise hc tk (pmk_oex T.oex T.iC T.tI FI hr hb .nil pass0 hg T.gm (pa_cons he.pe pa_nil hs) hdb hs hpl), sd_raise he.sd hE⟩
end
/-! ### a def that may raise -/
section
variable {P : Program} {w : World} {K : PySem.W.Frag} {mg : Str → Option Value} {base : Heap}
theorem okDX {x qual f : Str} {C : Addr} {st : Stmt} {fa : Addr} {fd : FuncData} {N ps : List Str} {k : Nat} {m : FN} (F : Fun K x qual st fa fd) (S : FnScope N ps (defScope st))
    (body : ∀ (G : Fr) (cdv : Value) (A : Around) (outer : List Env) (s : Shared) (H : Hp) (E : XK), RoomG k (A.deeper (envOfC qual (defScope st) s.heap.objs.size fa cdv)) → ∀ (ss : List Sl) (R : DK), ss.length = ps.length → m ss R →
      (∀ (v : V) Hb' H' (d : Addr) ds, Step G.hid G.B0 G.H0 Hb' H' → H' d = some (.xd [(f, v)]) → Dq K Hb' v (.tuple ds) → R (excS ds) → E (.ref C) (some d) H') →
      ∃ ts t, DSs (cxOf (L2.CX P w) P w K mg base N qual (defScope st) fa cdv A outer s H E) G (defBody st) ts t ∧ t { nx := fun _ => R (.d .none), rt := R } (startE N ss)) :
    FnG P w K mg base (L2.CX P w) (k + 1) fa fd ps (spXE K ps.length m C f) := by
  refine goes_of F S (fun vs H Q E h => ?_) (fun cdv A outer s H vs Q E hr hsp => ?_)
  · obtain ⟨hid, Hb, ss, R, st, r, hl, _⟩ := h
    rw [r.length]; exact hl
  · obtain ⟨hid, Hb, ss, R, st, r, hl, hm, c, ce⟩ := hsp
    obtain ⟨ts, t, B, q⟩ := body ⟨hid, Hb, H, Hb⟩ cdv A outer s H E hr ss R hl hm ce
    refine ⟨ts, B.pe, B.sd Hb H _ _ _ { nx := fun _ => R (.d .none), rt := R } (rep_start st r) q ⟨fun Hb' H' σ env _ r' q => ?_, fun _ _ _ _ _ _ q => q.elim, fun _ _ _ _ _ _ q => q.elim, fun v Hb' H' s' _ st' rs fr q => ?_⟩⟩
    · exact c .non Hb' H' (.d .none) r'.step Dq.non trivial q
    · exact c v Hb' H' s' st' rs fr q
end
end Pu

end

section
set_option maxHeartbeats 2000000
/-! PuTr: try: y = [] if g(e) is None else [z]; except x as n: y = [n.f]. -/
namespace Pu
open PySem L2 PySem.Spec PyProof.Rows RZ
theorem takesNo {X : Cx} : Takes X (fun _ _ _ _ => False) := fun _ _ x => by
  obtain ⟨_, _, _, _, _, _, _, _, _, _, _, _, _, _, _, _, z⟩ := x
  exact z.elim
abbrev rIsNo : R2 := fun x y H Q => y = .non ∧ Q (.bl (decide (x = .non))) H
def tSuP (C : Addr) (f : Str) (i j : Nat) : Addr → Value → Option Addr → TS := fun a cls d => tAsg (tLst (tCons (tXf a cls d C f (tVar j)) tNil)) (gName i)
def tBoP (sp : Sp) (i : Nat) (z : Str) (ta : TA) (W : WX) : TS := tAsg (tIf (tTest (tOp rIsNo (tCallS sp (WE W) ta) (tC .non))) (tLst tNil) (tLst (tCons (tC (.str z)) tNil))) (gName i)
def tTryP (K : PySem.W.Frag) (C : Addr) (f : Str) (sp : Sp) (i j : Nat) (z : Str) (ta : TA) : TS := fun D σ H => tBoP sp i z ta (wAs K (.ref C) j (tSuP C f i j) (fun _ _ _ _ => False) D) D σ H
section
variable {X : Cx} {k : Nat} {g : Addr} {fd : FuncData} {ps : List Str} {sp : Sp} {cs : Str} {p pos : Pos} {e : Expr} {es : List Expr} {t : TA} {W : WX}
theorem pe_callGS (F : FnG X.prog X.w X.K X.mg X.base (L2.CX X.prog X.w) k g fd ps sp) (room : RoomG k X.A) (gl : Gl X cs) (at_ : X.mg cs = some (.ref g)) (kp : PySem.W.keepIn X.K (.ref g) = true) (bi : Binds X.K fd ps []) (tk : Takes X W) (args : PA X (e :: es) t)
    (hdb : (cs == ("__debug__" : Str)) = false := by decide) (hs : starEach (e :: es) X.env = (false, eval e X.env) :: starEach es X.env := by rfl) (plain : (backTo pos (starEach es X.env)).any (·.1) = false := by rfl) :
    PE X (.Call (.Name cs p) (e :: es) [] pos) (tCallS sp (WE W) t) := by
  constructor
  intro pins s σ H Q I q
  refine wpAny_Call_Name_kw (ld_glob I gl at_ (PySem.W.callWith_K (h₀ := X.base) I.ok.mod.kin kp ?_ hs plain) hdb)
  refine thn (args.run pos pins s σ H _ I q) fun us s1 ⟨vs, H1, I1, rel, q1⟩ => ⟨I1.kIn, ?_⟩
  have many : us.length = ps.length := rel.length ▸ F.many _ _ _ _ q1
  have bound := bi s1 us I1.kIn (by rw [List.append_nil]; exact many)
  rw [List.append_nil] at bound
  have go := F.goes X.A X.stack s1 H1 ⟨us, []⟩ us vs Q _ room I1.env0 bound rel q1
  refine wpAny_call (codeAny_mono go fun r s2 done => ?_)
  match r, done with
  | .error ex, done => exact passAt tk σ pins H1 s1 ex s2 I1 done
  | .ok (.ret u), done => exact I1.after done
  | .ok .next, done => exact done.elim
  | .ok .brk, done => exact done.elim
  | .ok .cont, done => exact done.elim
end
section
variable {X : Cx} {k i j : Nat} {g C fI : Addr} {fd : FuncData} {ps : List Str} {sp : Sp} {cs y n x f z : Str} {e : Expr} {t : TA} {jc jz : Nat} {p1 p2 p3 p4 p5 p6 p7 p8 p9 q1 q2 q3 q4 q5 q6 q7 pos pos' : Pos}
theorem ps_tryP (T : ExC X.K X.mg x C fI f) (G : FnG X.prog X.w X.K X.mg X.base (L2.CX X.prog X.w) k g fd ps sp) (room : RoomG k X.A) (at_ : X.mg cs = some (.ref g)) (kp : PySem.W.keepIn X.K (.ref g) = true) (bi : Binds X.K fd ps [])
    (ha : ∀ (pn : List (Addr × Obj)) (xe : Value → Shared → Prop), PA (X.tr pn xe) [e] t) (hN : X.N.Nodup) (hi : X.N[i]? = some y) (hj : X.N[j]? = some n) (hy : X.env.scope.names.lookup y = some .local) (hn : X.env.scope.names.lookup n = some .local)
    (gl : Gl X cs := by rfl) (glx : Gl X x := by rfl) (hs : X.stack = X.env :: X.outer := by rfl) (hf : X.env.frame = some X.env.locals := by rfl) (hln : X.env.kindOf n = some .local := by rfl)
    (hdb : (cs == ("__debug__" : Str)) = false := by decide) (hdx : (x == ("__debug__" : Str)) = false := by decide) (hdn : (n == ("__debug__" : Str)) = false := by decide) (hcn : (n == ("__classdict__" : Str)) = false := by decide)
    (hse : starEach (e :: []) X.env = (false, eval e X.env) :: starEach [] X.env := by rfl)
    (w1 : swapsWith (.IfExp (.Compare (.Call (.Name cs p2) [e] [] p3) [.Is] [.Constant .none jc p4] p5) (.List [] p6) (.List [.Constant (.str z) jz p7] p8) p9) (some (.Name y p1)) q1.line X.env = pure false := by rfl)
    (w2 : swapsWith (.List [.Attribute (.Name n q3) f q4] q5) (some (.Name y q2)) q6.line X.env = pure false := by rfl)
    (hat : attributeBase (.Name n q3) f X.env (eval (.Name n q3) X.env) = eval (.Name n q3) X.env := by rfl) :
    PS X (.Try [.Assign [.Name y p1] (.IfExp (.Compare (.Call (.Name cs p2) [e] [] p3) [.Is] [.Constant .none jc p4] p5) (.List [] p6) (.List [.Constant (.str z) jz p7] p8) p9) q1]
      [.ExceptHandler (some (.Name x q7)) (some n) [.Assign [.Name y q2] (.List [.Attribute (.Name n q3) f q4] q5) q6] pos'] [] [] pos) (tTryP X.K C f sp i j z t) := by
  refine ps_try_as (X := X) (c := .ref C) (i := j) (tb := tBoP sp i z t) (ts := tSuP C f i j) (Wout := fun _ _ _ _ => False) hs hf hN hj hln ⟨glx, hdx, .inl T.gm⟩ takesNo (fun W pn xe tk _ => ?_) (fun a oe cls d pn hz hd => ?_)
  · refine pss_one (ps_set (X := X.tr pn xe) hN hi (.inl hy) (pe_ifExp (pt_cmpR op_isN (pe_callGS (X := X.tr pn xe) G room gl at_ kp bi tk (ha pn xe) hdb hse rfl) pe_non (by first | exact nomark _ | rfl)) (pe_lst pa_nil) (pe_lst (pa_cons pe_str pa_nil))) w1 (.inr hy))
  · refine pss_one (ps_set (X := X.suite a ((a, oe) :: pn)) hN hi (.inl hy) (pe_lst (pa_cons (pe_xf T.xf T.no hz hd (pe_var hj (.inl hn) hdn hcn) hat) pa_nil)) w2 (.inr hy))
end
def dTryP (n : Nat) (m : FN) (i j : Nat) (fa : DTA) : DTS := fun E env => fa env fun ss => ss.length = n ∧ m ss fun s => (s = .d .none ∧ E.nx (env.set i (some (.own [])))) ∨ ∃ ds, s = excS ds ∧ E.nx ((env.set i (some (.own [.tuple ds]))).set j none)
section
variable {K : PySem.W.Frag} {F : Fr} {C : Addr} {f z : Str} {n i j : Nat} {m : FN} {ta : TA} {fa : DTA}
theorem sd_tryP (ha : SdA K F ta fa) (hij : i ≠ j) (te : PySem.W.exmOne K (.ref C) (.ref C) = some true) : SdS K F (tTryP K C f (spXE K n m C f) i j z ta) (fun E env => j < env.length ∧ dTryP n m i j fa E env) := by
  intro Hb H σ env D E r q l
  obtain ⟨jl, q⟩ := q
  refine ha Hb H σ env _ _ r q fun vs Hb1 H1 ss st1 rs1 q1 => ?_
  obtain ⟨hl, hm⟩ := q1
  refine ⟨F.hid, Hb1, ss, _, st1.st, rs1, hl, hm, fun v Hb' H' s st2 r2 f2 hR => ?_, fun v Hb' H' d ds st2 hd dq hR => ?_⟩
  · rcases hR with ⟨es, hn⟩ | ⟨ds, es, _⟩
    · subst es
      cases (show Dq K Hb' v .none from r2) with
      | non =>
        refine ⟨rfl, true, rfl, ?_⟩
        refine ⟨Nat.zero_le _, fun p hp => ?_⟩
        obtain ⟨s3, r3⟩ := own_new (K := K) (vs := []) (xs := []) st2.st hp .nil
        exact l.nx _ _ _ _ (st1.ex.trans (st2.ex.trans s3.ex)) (((r.on st1).on st2).set s3 r3.1 r3.2 i) hn
    · subst es
      exact (exc_no r2).elim
  · rcases hR with ⟨es, _⟩ | ⟨ds', es, hn⟩
    · cases es
    · obtain rfl : ds = ds' := by
        have e : PyData.dict [(.none, .tuple ds)] = PyData.dict [(.none, .tuple ds')] := Sl.d.inj es
        injection e with e
        injection e with e _
        injection e with _ e
        injection e
      refine ⟨true, te, fun _ a ha => ?_, fun z => by cases z⟩
      have hjl : j < σ.length := by rw [← r.len]; exact jl
      refine ⟨.ref a, List.getElem?_set_self hjl, rfl, rfl, d, [(f, v)], v, rfl, hd, by simp [List.lookup], ?_⟩
      refine ⟨by show 1 ≤ sizeLine; decide, fun p hp => ?_⟩
      obtain ⟨s3, r3⟩ := own_new (K := K) (vs := [v]) (xs := [.tuple ds]) st2.st hp (.cons dq .nil)
      have r4 := (((r.on st1).on st2).set s3 r3.1 r3.2 i).forget j none
      have e : (σ.set i (some (V.ref p))).set j none = ((σ.set j (some (V.ref a))).set i (some (V.ref p))).set j none := by
        rw [List.set_comm _ _ (Ne.symm hij), List.set_set]
      show D.nx (((σ.set j (some (V.ref a))).set i (some (V.ref p))).set j none) _
      rw [← e]
      exact l.nx _ _ _ _ (st1.ex.trans (st2.ex.trans s3.ex)) r4 hn
end
def dTryPG (n : Nat) (m : FN) (i j : Nat) (fa : DTA) : DTS := fun E env => j < env.length ∧ dTryP n m i j fa E env
section
variable {X : Cx} {F : Fr} {k i j n : Nat} {m : FN} {g C fI : Addr} {fd : FuncData} {ps : List Str} {cs y nm x f z : Str} {e : Expr} {t : TA} {fa : DTA} {jc jz : Nat} {p1 p2 p3 p4 p5 p6 p7 p8 p9 q1 q2 q3 q4 q5 q6 q7 pos pos' : Pos}
theorem ds_tryP (T : ExC X.K X.mg x C fI f) (G : FnG X.prog X.w X.K X.mg X.base (L2.CX X.prog X.w) k g fd ps (spXE X.K n m C f)) (room : RoomG k X.A) (at_ : X.mg cs = some (.ref g)) (kp : PySem.W.keepIn X.K (.ref g) = true) (bi : Binds X.K fd ps [])
    (ha : ∀ (pn : List (Addr × Obj)) (xe : Value → Shared → Prop), DA (X.tr pn xe) F [e] t fa) (hN : X.N.Nodup) (hi : X.N[i]? = some y := by rfl) (hj : X.N[j]? = some nm := by rfl) (hy : X.env.scope.names.lookup y = some .local := by rfl) (hn : X.env.scope.names.lookup nm = some .local := by rfl) (hij : i ≠ j := by decide)
    (gl : Gl X cs := by rfl) (glx : Gl X x := by rfl) (hs : X.stack = X.env :: X.outer := by rfl) (hf : X.env.frame = some X.env.locals := by rfl) (hln : X.env.kindOf nm = some .local := by rfl)
    (hdb : (cs == ("__debug__" : Str)) = false := by decide) (hdx : (x == ("__debug__" : Str)) = false := by decide) (hdn : (nm == ("__debug__" : Str)) = false := by decide) (hcn : (nm == ("__classdict__" : Str)) = false := by decide)
    (hse : starEach (e :: []) X.env = (false, eval e X.env) :: starEach [] X.env := by rfl)
    (w1 : swapsWith (.IfExp (.Compare (.Call (.Name cs p2) [e] [] p3) [.Is] [.Constant .none jc p4] p5) (.List [] p6) (.List [.Constant (.str z) jz p7] p8) p9) (some (.Name y p1)) q1.line X.env = pure false := by rfl)
    (w2 : swapsWith (.List [.Attribute (.Name nm q3) f q4] q5) (some (.Name y q2)) q6.line X.env = pure false := by rfl)
    (hat : attributeBase (.Name nm q3) f X.env (eval (.Name nm q3) X.env) = eval (.Name nm q3) X.env := by rfl) :
    DS X F (.Try [.Assign [.Name y p1] (.IfExp (.Compare (.Call (.Name cs p2) [e] [] p3) [.Is] [.Constant .none jc p4] p5) (.List [] p6) (.List [.Constant (.str z) jz p7] p8) p9) q1]
      [.ExceptHandler (some (.Name x q7)) (some nm) [.Assign [.Name y q2] (.List [.Attribute (.Name nm q3) f q4] q5) q6] pos'] [] [] pos) (tTryP X.K C f (spXE X.K n m C f) i j z t) (dTryPG n m i j fa) :=
  ⟨ps_tryP T G room at_ kp bi (fun pn xe => (ha pn xe).pe) hN hi hj hy hn gl glx hs hf hln hdb hdx hdn hcn hse w1 w2 hat, sd_tryP (ha [] fun _ _ => False).sd hij T.te⟩
end
/-! ### __init__ -/
section
variable {P : Program} {w : World} {K : PySem.W.Frag} {mg : Str → Option Value} {base : Heap}
/-- self.f = tuple(path) -/
theorem ok_init {qual x f : Str} {st : Stmt} {C fI : Addr} {fd : FuncData} {q1 q2 q3 q4 q5 q6 : Pos} (F : Fun K "__init__" qual st fI fd) (S : FnScope ["self", "path"] ["self", "path"] (defScope st))
    (hb : defBody st = [.Assign [.Attribute (.Name "self" q1) f q2] (.Call (.Name "tuple" q3) [.Name "path" q4] [] q5) q6]) (T : ExC K mg x C fI f) (mt : mg "tuple" = none)
    (body : ∀ (cdv : Value) (A : Around) (outer : List Env) (s : Shared) (H : Hp) (E : XK), PSs (cxOf CX0 P w K mg base ["self", "path"] qual (defScope st) fI cdv A outer s H E).nox (defBody st)
      (tOst K f (tVar 0) (tCB (fun xs H Q => ∃ p ys, xs = [.ref p] ∧ ((SqL K H p ys ∧ ∀ l, H l = none → Q (.ref l) (upd H l (.tup ys))) ∨ (SqT K H p ys ∧ Q (.ref p) H))) (tCons (tVar 1) tNil)))) :
    FnOk P w K mg base CX0 1 fI fd ["self", "path"] (spInit K C f) := by
  refine F.ok S (fun vs H Q E h => ?_) (fun cdv A outer s H vs Q E hr h => ⟨_, body cdv A outer s H E, ?_⟩)
  · obtain ⟨a, p, ys, rfl, _⟩ := h
    rfl
  · obtain ⟨a, p, ys, rfl, ha, hp, q⟩ := h
    refine ⟨_, rfl, p, ys, rfl, .inr ⟨hp, ?_⟩⟩
    exact ⟨_, rfl, a, C, rfl, T.oex, T.no, .inl ⟨ha, fun dx h1 h2 => q dx h1 h2⟩⟩
end
/-! ### defs that raise, by name -/
structure FnXE (P : Program) (w : World) (K : PySem.W.Frag) (mg : Str → Option Value) (base : Heap) (cs : Str) (k : Nat) (ps : List Str) (n : Nat) (m : FN) (x f : Str) : Prop where
  ex : ∃ C fI, ExC K mg x C fI f ∧ ∃ g fd, mg cs = some (.ref g) ∧ PySem.W.keepIn K (.ref g) = true ∧ Binds K fd ps [] ∧ FnG P w K mg base (L2.CX P w) k g fd ps (spXE K n m C f)
section
variable {P : Program} {w : World} {K : PySem.W.Frag} {mg : Str → Option Value} {base : Heap}
theorem fnDX {cs x f : Str} {C fI : Addr} {st : Stmt} {N ps : List Str} {k : Nat} {m : FN} (A : At K mg cs st ps) (S : FnScope N ps (defScope st)) (T : ExC K mg x C fI f)
    (body : ∀ (G : Fr) (g : Addr) (cdv : Value) (A : Around) (outer : List Env) (s : Shared) (H : Hp) (E : XK), RoomG k (A.deeper (envOfC cs (defScope st) s.heap.objs.size g cdv)) → ∀ (ss : List Sl) (R : DK), ss.length = ps.length → m ss R →
      (∀ (v : V) Hb' H' (d : Addr) ds, Step G.hid G.B0 G.H0 Hb' H' → H' d = some (.xd [(f, v)]) → Dq K Hb' v (.tuple ds) → R (excS ds) → E (.ref C) (some d) H') →
      ∃ ts t, DSs (cxOf (L2.CX P w) P w K mg base N cs (defScope st) g cdv A outer s H E) G (defBody st) ts t ∧ t { nx := fun _ => R (.d .none), rt := R } (startE N ss)) :
    FnXE P w K mg base cs (k + 1) ps ps.length m x f := by
  obtain ⟨g, fd, F, hm, hb⟩ := A.ex
  exact ⟨C, fI, T, g, fd, hm, F.kp, hb, okDX F S fun G cdv A outer s H E hr => body G g cdv A outer s H E hr⟩
end
end Pu

end

section
set_option maxHeartbeats 1000000
/-! PuEt: enumerate(tuple). -/
namespace RZ
open PySem
open PySem.Sem (wp)
section
variable {prog : Program} {w : World} {A : Around} {E : Value → Shared → Prop} {s : Shared}
theorem enumT_next_item {e it l : Addr} {i : Nat} {xs : Array Value} {x old : Value} {Q : Option Value → Shared → Prop} (he : IsEnum s.heap e it i old) (hit : s.heap.IsTupleIter it l i)
    (hl : s.heap.IsTuple l xs) (hx : xs[i]? = some x) (ne : e ≠ it)
    (hQ : ∀ h', IsEnumOut h' e it ((i : Int) + 1) x s.heap.objs.size → h'.IsTupleIter it l (i + 1) → h'.get? s.heap.objs.size = some { cls := .type "tuple", data := .seq #[.int i s.toks, x] } →
      (∀ c o, c ≠ e → c ≠ it → s.heap.get? c = some o → h'.get? c = some o) → Q (some (.ref s.heap.objs.size)) { s with heap := h', toks := s.toks + 1 }) :
    wpAny (model prog w) A (pyNext (.ref e)) Q E s := by
  have hT : s.TypeIs (.ref e) "enumerate" := ⟨_, he, rfl⟩
  unfold pyNext
  refine wpAny_bind (wpAny_attempt (wpAny_callSpecial?_slot (name := Str.ofString "__next__") hT F.slot_enumerate_next
    (wpAny_call_entry F.slot_enumerate_next hT F.entry_enumerate_next ?_ (F.args_enumerate_next_1 _))))
  obtain ⟨hp, g, d, tk, os⟩ := s
  show wpAny _ _ (field (.ref e) 2 >>= _) _ _ _
  refine wpAny_bind (wpAny_field he rfl (x := .ref it) rfl ?_)
  refine wpAny_bind (nextOf_tuple_item hit hl hx fun h₁ hit₁ hs₁ => ?_)
  replace hs₁ : Heap.SameBut it hp h₁ := hs₁
  have he₁ : IsEnum h₁ e it i old := (hs₁.2 e ne).trans he
  show wpAny _ _ (field (.ref e) 3 >>= _) _ _ ⟨h₁, g, d, tk, os⟩
  refine wpAny_bind (wpAny_field he₁ rfl (x := rawInt i) rfl ?_)
  show wpAny _ _ (field (.ref e) 4 >>= _) _ _ ⟨h₁, g, d, tk, os⟩
  refine wpAny_bind (wpAny_field he₁ rfl (x := .none) rfl ?_)
  show wpAny _ _ (mkInt i >>= _) _ _ ⟨h₁, g, d, tk, os⟩
  refine wpAny_bind (wpAny_mkInt ?_)
  show wpAny _ _ (setField (.ref e) 3 (rawInt ((i : Int) + 1)) >>= _) _ _ ⟨h₁, g, d, tk + 1, os⟩
  refine wpAny_bind (wpAny_setField_rec he₁ (by simp) fun h₂ he₂ hs₂ => ?_)
  replace hs₂ : Heap.SameBut e h₁ h₂ := hs₂
  replace he₂ : IsEnum h₂ e it ((i : Int) + 1) old := he₂
  show wpAny _ _ (setField (.ref e) 4 .none >>= _) _ _ ⟨h₂, g, d, tk + 1, os⟩
  refine wpAny_bind (wpAny_setField_rec he₂ (by simp) fun h₃ he₃ hs₃ => ?_)
  replace hs₃ : Heap.SameBut e h₂ h₃ := hs₃
  replace he₃ : IsEnum h₃ e it ((i : Int) + 1) old := he₃
  show wpAny _ _ (newTuple [.int i tk, x] >>= _) _ _ ⟨h₃, g, d, tk + 1, os⟩
  refine wpAny_bind (wpAny_newTuple ?_)
  have he₄ : IsEnum (h₃.push { cls := .type "tuple", data := .seq #[.int i tk, x] }) e it ((i : Int) + 1) old := Heap.get?_push_of_some _ he₃
  generalize hh₄ : h₃.push { cls := .type "tuple", data := .seq #[.int i tk, x] } = h₄ at he₄
  have hsz : h₃.objs.size = hp.objs.size := by rw [hs₃.1, hs₂.1, hs₁.1]
  have hel : e < hp.objs.size := Heap.lt_size he
  have nP : hp.objs.size ≠ e := Nat.ne_of_gt hel
  have ht₄ : h₄.get? hp.objs.size = some { cls := .type "tuple", data := .seq #[.int i tk, x] } := by rw [← hh₄, ← hsz]; exact Heap.get?_push_size _ rfl
  have hk₄ : ∀ b o, b ≠ e → b ≠ it → hp.get? b = some o → h₄.get? b = some o := fun b o hbe hbi hb => by
    rw [← hh₄]; exact Heap.get?_push_of_some _ (hs₃.extBut b o hbe (hs₂.extBut b o hbe (hs₁.extBut b o hbi hb)))
  have hit₄ : h₄.IsTupleIter it l (i + 1) := by
    rw [← hh₄]; obtain ⟨o, ho, r⟩ := (hit₁.extBut hs₂.extBut (Ne.symm ne)).extBut hs₃.extBut (Ne.symm ne); exact ⟨o, Heap.get?_push_of_some _ ho, r⟩
  show wpAny _ _ (Builtin.SmallTypes.ownedTupleIsFree (.ref e) >>= _) _ _ ⟨h₄, g, d, tk + 1, os⟩
  rw [hsz]
  clear hh₄ he₃ hs₃ he₂ hs₂ he₁ hs₁ hit₁ hsz h₃ h₂ h₁
  refine wpAny_bind ?_
  · unfold Builtin.SmallTypes.ownedTupleIsFree
    refine wpAny_bind (wpAny_field he₄ rfl (x := .none) rfl (wpAny_pure ?_))
    simp only [if_true]
    refine wpAny_bind (wpAny_rule ?_)
    refine wpAny_bind (wpAny_field he₄ rfl (x := old) rfl ?_)
    refine wpAny_bind (wpAny_setField_rec he₄ (by simp) fun h₅ he₅ hs₅ => ?_)
    replace hs₅ : Heap.SameBut e h₄ h₅ := hs₅
    replace he₅ : IsEnum h₅ e it ((i : Int) + 1) x := he₅
    show wpAny _ _ (Builtin.SmallTypes.ownedTupleHandOut (.ref e) (.ref hp.objs.size) >>= _) _ _ ⟨h₅, g, d, tk + 1, os⟩
    refine wpAny_bind ?_
    · unfold Builtin.SmallTypes.ownedTupleHandOut
      refine wpAny_bind (wpAny_setField_rec he₅ (by simp) fun h₆ he₆ hs₆ => ?_)
      replace hs₆ : Heap.SameBut e h₅ h₆ := hs₆
      replace he₆ : IsEnumOut h₆ e it ((i : Int) + 1) x hp.objs.size := he₆
      refine wpAny_setField_rec he₆ (by simp) fun h₇ he₇ hs₇ => ?_
      replace hs₇ : Heap.SameBut e h₆ h₇ := hs₇
      replace he₇ : IsEnumOut h₇ e it ((i : Int) + 1) x hp.objs.size := he₇
      refine wpAny_bind (wpAny_letGo (wpAny_pure ⟨_, rfl, wpAny_pure (hQ h₇ he₇ ?_ ?_ ?_)⟩))
      · exact ((hit₄.extBut hs₅.extBut (Ne.symm ne)).extBut hs₆.extBut (Ne.symm ne)).extBut hs₇.extBut (Ne.symm ne)
      · exact hs₇.extBut _ _ nP (hs₆.extBut _ _ nP (hs₅.extBut _ _ nP ht₄))
      · exact fun b o hbe hbi hb => hs₇.extBut b o hbe (hs₆.extBut b o hbe (hs₅.extBut b o hbe (hk₄ b o hbe hbi hb)))
theorem enumT_next_end {e it l : Addr} {i : Nat} {xs : Array Value} {old : Value} {Q : Option Value → Shared → Prop} (hh : A.handled = none) (he : IsEnum s.heap e it i old) (hit : s.heap.IsTupleIter it l i) (hl : s.heap.IsTuple l xs) (hx : xs[i]? = none)
    (hQ : ∀ h', Heap.ExtBut it s.heap h' → Q none { s with heap := h' }) : wpAny (model prog w) A (pyNext (.ref e)) Q E s := by
  have hT : s.TypeIs (.ref e) "enumerate" := ⟨_, he, rfl⟩
  unfold pyNext
  refine wpAny_bind (wpAny_attempt (wpAny_callSpecial?_slot (name := Str.ofString "__next__") hT F.slot_enumerate_next
    (wpAny_call_entry F.slot_enumerate_next hT F.entry_enumerate_next ?_ (F.args_enumerate_next_1 _))))
  show wpAny _ _ (field (.ref e) 2 >>= _) _ _ _
  refine wpAny_bind (wpAny_field he rfl (x := .ref it) rfl ?_)
  refine wpAny_bind (nextOf_tuple_end hh hit hl hx fun h' x he' hx' => ?_)
  obtain ⟨o, ho, hc⟩ := hx'
  refine wpAny_bind (wpAny_isInstance (T := "StopIteration") (b := true) ⟨o, ho, hc⟩ isSubtype_stop ?_)
  exact wpAny_pure (hQ _ he')
end
theorem meets_enumerate_newT (l : Addr) (xs : Array Value) :
    Meets (Builtin.«enumerate.__new__» ⟨[.type "enumerate", .ref l], []⟩) (fun _ R s => s.heap.IsTuple l xs ∧
      R (.ok (.ret (.ref (s.heap.push { cls := .type "tuple_iterator", data := .fields #[.ref l, .int 0 0] }).objs.size)))
        { s with heap := (s.heap.push { cls := .type "tuple_iterator", data := .fields #[.ref l, .int 0 0] }).push { cls := .type "enumerate", data := .fields #[.none, .bool false, .ref s.heap.objs.size, rawInt 0, .none, .none] } }) :=
  .of_wp fun prog w A R s h => by
    obtain ⟨hp, g, d, tk, os⟩ := s; obtain ⟨hl, h⟩ := h
    have hsub := sub_enumerate
    have hL : Heap.IsTuple (Shared.heap ⟨hp, g, d, tk, os⟩) l xs := hl
    obtain ⟨ol, hol, _, nl, hdl⟩ := id hl
    wp_walk using AutoSeq1.wpAny_loadPart' hol
    refine wpAny_stack_any fun st => wpAny_pure ?_
    split
    · rename_i c _ _ _ _ _
      cases (c == Value.type "enumerate")
      · wp_walk using AutoSeq1.wpAny_loadPart' hol, wpAny_pyIter_tuple hL
        exact ⟨_, rfl, h⟩
      · wp_walk using AutoSeq1.wpAny_loadPart' hol, wpAny_pyIter_tuple hL
        exact ⟨_, rfl, h⟩
    · wp_walk using AutoSeq1.wpAny_loadPart' hol, wpAny_pyIter_tuple hL
      exact ⟨_, rfl, h⟩
section
variable {prog : Program} {w : World} {A : Around} {E : Value → Shared → Prop} {s : Shared}
theorem call_enumT {l : Addr} {xs : Array Value} {Q : Value → Shared → Prop} (hL : s.heap.IsTuple l xs)
    (h : ∀ h', IsEnum h' (s.heap.objs.size + 1) s.heap.objs.size 0 .none → h'.IsTupleIter s.heap.objs.size l 0 → (∀ b o, s.heap.get? b = some o → h'.get? b = some o) → Q (.ref (s.heap.objs.size + 1)) { s with heap := h' }) :
    wpAny (model prog w) A (call (.type "enumerate") [.ref l]) Q E s := by
  refine callType_new F.called_enumerate (by decide) (F.typeCall_enumerate_1 _) (F.newCall_enumerate_1 _) (fun obj => F.args_object_init_2 obj _) F.entry_enumerate_new
    (meets_enumerate_newT l xs) ⟨hL, ?_⟩
  have hz : (s.heap.push { cls := .type "tuple_iterator", data := .fields #[.ref l, .int 0 0] }).objs.size = s.heap.objs.size + 1 := Heap.size_push ..
  show _ ∧ _
  rw [hz]
  have he : IsEnum ((s.heap.push { cls := .type "tuple_iterator", data := .fields #[.ref l, .int 0 0] }).push
      { cls := .type "enumerate", data := .fields #[.none, .bool false, .ref s.heap.objs.size, rawInt 0, .none, .none] }) (s.heap.objs.size + 1) s.heap.objs.size 0 .none := by
    have := Heap.get?_push_size (s.heap.push { cls := .type "tuple_iterator", data := .fields #[.ref l, .int 0 0] })
      (o := { cls := .type "enumerate", data := .fields #[.none, .bool false, .ref s.heap.objs.size, rawInt 0, .none, .none] }) rfl
    rw [hz] at this; exact this
  exact ⟨⟨_, he, rfl⟩, h _ he ⟨_, Heap.get?_push_of_some _ (Heap.get?_push_size _ rfl), rfl, rfl⟩ fun b o x => Heap.get?_push_of_some _ (Heap.get?_push_of_some _ x)⟩
end
end RZ
namespace RZ
open PySem PySem.Spec PyProof.Rows L2
def IteT (K : PySem.W.Frag) (a : Addr) : It :=
  ⟨fun i H => ∃ (xs : List V) (x : V), SqT K H a xs ∧ xs[i]? = some x, fun i H v H' => ∃ T x, v = .ref T ∧ H T = none ∧ H' = upd H T (.tup [.int (i : Nat), x]) ∧ ∀ xs, SqT K H a xs → xs[i]? = some x, fun i H => ∃ xs : List V, SqT K H a xs ∧ xs.length ≤ i⟩
theorem turn_enumT {P : Program} {w : World} {K : PySem.W.Frag} {elts : List Expr} {kk : Nat} {tpos : Pos} (a e it : Addr) :
    Turn P w K (.Tuple elts kk tpos) (IteT K a) [e, it] e (fun i h => (∃ old, IsEnum h e it ((i : Nat) : Int) old) ∧ h.IsTupleIter it a i ∧ e ≠ it) where
  mem := by simp
  obj := fun i h st b hb => by
    obtain ⟨⟨old, he⟩, ⟨o, ho, hc, hd⟩, _⟩ := st
    have e' : b = e ∨ b = it := by simpa using hb
    rcases e' with z | z
    · rw [z]; exact ⟨_, he, fun v q => nomatch q⟩
    · rw [z]; exact ⟨o, ho, fun v q => by rw [hd] at q; cases q⟩
  keep := fun i h h' st k => let ⟨⟨old, he⟩, hi, hne⟩ := st; ⟨⟨old, k e (by simp) _ he⟩, hi.at fun o q => k it (by simp) o q, hne⟩
  item := by
    intro X hP hw hK hc i pins s σ H E I hf st hg
    subst hP hw hK
    obtain ⟨⟨old, he⟩, hit, hne⟩ := st
    obtain ⟨xs, x, hq, hx⟩ := hg
    obtain ⟨its, rv, p, hz⟩ := I.tuple hq
    obtain ⟨u, hu, ru⟩ := rv.get hx
    have hel : e < s.heap.objs.size := Heap.lt_size he
    have hil : it < s.heap.objs.size := by obtain ⟨_, q, _⟩ := hit; exact Heap.lt_size q
    refine enumT_next_item he hit p (x := u) (by simpa using hu) hne fun h' ho hit' hT hk => ?_
    refine ⟨_, rfl, wpAny_letOwnedTupleGo_enum (s := { s with heap := h', toks := s.toks + 1 }) ho fun h'' he' sb => ?_⟩
    have hT2 : h''.get? s.heap.objs.size = some { cls := .type "tuple", data := .seq #[.int i s.toks, u] } := (sb.2 _ (Nat.ne_of_gt hel)).trans hT
    have new : ObjOk X.prog X.w (upd H s.heap.objs.size (.tup [.int (i : Nat), x])) h'' s.heap.objs.size (.tup [.int (i : Nat), x]) :=
      ⟨by show 2 ≤ sizeLine; decide, [.int i s.toks, u], .cons ⟨_, rfl⟩ (.cons ru .nil), ⟨_, hT2, rfl, _, rfl⟩⟩
    have I1 : Inv X pins σ (upd H s.heap.objs.size (.tup [.int (i : Nat), x])) { s with heap := h'', toks := s.toks + 1 } :=
      I.turnedNew (ch := [e, it]) (fun b ob hb q => (sb.2 b (fun z => hb (by simp [z]))).trans (hk b ob (fun z => hb (by simp [z])) (fun z => hb (by simp [z])) q)) hf (Nat.le_refl _) new
    refine ⟨.ref s.heap.objs.size, _, I1, rfl, ⟨_, x, rfl, I.hok.fresh (Nat.le_refl _), rfl, fun ys hy => by rw [I.tuple_inj hy hq]; exact hx⟩, ⟨⟨u, ?_⟩, hit'.at fun o q => (sb.2 it (Ne.symm hne)).trans q, hne⟩, fun b hb => ?_⟩
    · have e1 : ((i + 1 : Nat) : Int) = (i : Int) + 1 := by omega
      rw [e1]; exact he'
    · have hb' : b < s.heap.objs.size := by
        have e' : b = e ∨ b = it := by simpa using hb
        rcases e' with z | z
        · rw [z]; exact hel
        · rw [z]; exact hil
      rw [upd_ne (Nat.ne_of_lt hb')]
      exact (hf b hb).1
  done := by
    intro X hP hw hK hc i pins s σ H E I hf st hg
    subst hP hw hK
    obtain ⟨⟨old, he⟩, hit, hne⟩ := st
    obtain ⟨xs, hq, hx⟩ := hg
    obtain ⟨its, rv, p, hz⟩ := I.tuple hq
    obtain ⟨f0, f1, f2, f3, f4, f5⟩ := hf it (by simp)
    have hl := rv.length
    exact enumT_next_end (I.ok.hd hc) he hit p (by simp; omega) fun h' eb => ⟨rfl, I.turned (t' := s.toks) (fun b o hb q => eb b o hb q) f0 f1 f3 f4 f5⟩
  self := fun A i s Q E st h => let ⟨⟨_, he⟩, _⟩ := st; wpAny_pyIter_enum he h
def iEnumT (K : PySem.W.Frag) (ta : TA) : TI := fun σ H R => ta σ H fun vs H1 => ∃ a xs, vs = [.ref a] ∧ SqT K H1 a xs ∧ R (IteT K a) H1
theorem pi_enumT {X : Cx} {e : Expr} {ta : TA} {p pos tpos : Pos} {elts : List Expr} {kk : Nat} (hg : Gl X "enumerate") (hm : X.mg "enumerate" = none) (ha : PA X [e] ta) (hs : starEach [e] X.env = [(false, eval e X.env)] := by rfl) :
    PI X (.Tuple elts kk tpos) (.Call (.Name "enumerate" p) [e] [] pos) (iEnumT X.K ta) := by
  refine ⟨fun pins s σ H R I h => ?_⟩
  refine Call_ (ld_blt I hg hm boot_enumerate (PyProof.Rows.callWith_type1 (thn (ha.run pos pins s σ H _ I h) fun us s1 ⟨vs, H1, I1, r1, q1⟩ => ?_) hs rfl))
  obtain ⟨a, xs, ex, hq, q⟩ := q1
  subst ex
  cases r1 with
  | cons r rr =>
    cases rr
    cases r
    obtain ⟨its, rv, p', hz⟩ := I1.tuple hq
    refine call_enumT (show s1.heap.IsTuple a its.toArray from p') fun h' he hit hk => wpAny_pyIter_enum he ?_
    have I2 : Inv X pins σ H1 { s1 with heap := h' } := I1.kept (t' := s1.toks) hk
    refine ⟨s1.heap.objs.size + 1, [s1.heap.objs.size + 1, s1.heap.objs.size], _, _, H1, rfl, I2, turn_enumT a (s1.heap.objs.size + 1) s1.heap.objs.size, ⟨⟨.none, he⟩, hit, Nat.succ_ne_self _⟩, fun b hb => ?_, q⟩
    have e' : b = s1.heap.objs.size + 1 ∨ b = s1.heap.objs.size := by simpa using hb
    have hle : s1.heap.objs.size ≤ b := by
      rcases e' with z | z
      · rw [z]; exact Nat.le_add_right _ _
      · rw [z]; exact Nat.le_refl _
    exact I1.fpOk hle (I1.hok.fresh hle)
end RZ
namespace Pu
open PySem L2 PyProof.Rows RZ
def dEnumT (f : DTA) : DTI := fun env Q => f env fun ss => ∃ xs, ss = [.d (.tuple xs)] ∧ Q (enumD 0 xs)
section
variable {K : PySem.W.Frag} {F : Fr} {tr : TA} {fr : DTA}
theorem si_enumT (h : SdA K F tr fr) : SdI K F (iEnumT K tr) (dEnumT fr) := by
  intro Hb H σ env Q R rp q c
  refine h Hb H σ env _ _ rp q fun vs Hb1 H1 ss st1 rs1 q1 => ?_
  obtain ⟨xs, e, q1⟩ := q1
  subst e
  obtain ⟨v, rfl, h1⟩ := rep1 rs1
  cases (show Dq K Hb1 v (.tuple xs) from h1) with
  | @tup a vs _ a1 a2 =>
    refine ⟨_, _, rfl, Same.seqT st1.st.ex a1, c _ Hb1 H1 _ st1 ⟨fun H => SqT K H a vs, fun i H v H' => ∃ T x, v = .ref T ∧ H T = none ∧ H' = upd H T (.tup [.int (i : Nat), x]) ∧ vs[i]? = some x, ?_, fun H' s => Same.seqT s a1, fun i Hb' H x H' hi st ex y => ?_⟩ q1⟩
    · rw [enumD_length, ← DqAll.length a2]
      refine ⟨fun i _ hi q => ⟨vs, vs[i], q, by simp [hi]⟩, fun _ q => ⟨vs, q, Nat.le_refl _⟩, fun i H v H' _ q y => ?_⟩
      obtain ⟨T, x, h1, h2, h3, h4⟩ := y
      exact ⟨T, x, h1, h2, h3, h4 vs q⟩
    · obtain ⟨T, p, e1, e2, e3, e5⟩ := y
      obtain ⟨d, d1, d2⟩ := DqAll.get a2 e5
      subst e1 e3
      obtain ⟨s2, r2⟩ := pair_new (K := K) (Hb := Hb') st e2 (Dq.int (i : Nat)) (Dq.mono ex d2)
      refine ⟨_, _, ?_, s2, r2⟩
      have := enumD_get 0 i xs d d1
      rw [Nat.zero_add] at this
      exact this
end
theorem ki_enumT {X : Cx} {F : Fr} {K : PySem.W.Frag} {tr : TA} {fr : DTA} {p pos tpos : Pos} (q : X.K = K) {a : Expr} {elts : List Expr} {kk : Nat} (hm : X.mg "enumerate" = none) (ha : DA X F [a] tr fr) (hg : Gl X "enumerate" := by rfl) (hs : starEach [a] X.env = [(false, eval a X.env)] := by rfl) :
    DI X F (.Tuple elts kk tpos) (.Call (.Name "enumerate" p) [a] [] pos) (iEnumT K tr) (dEnumT fr) := q ▸ ⟨pi_enumT hg hm ha.pe hs, si_enumT ha.sd⟩
end Pu

end

section
set_option maxHeartbeats 1000000
/-! PuX7: repr of all data; a if c else b as a test. -/
namespace Pu
open PySem L2 PyProof.Rows RZ
/-! ### a if c else b, as a test -/
def tIfT (t ta tb : TT) : TT := fun σ H Q => t σ H fun c H1 => if c = true then ta σ H1 Q else tb σ H1 Q
def dIfT (t fa fb : DTT) : DTT := fun env Q => t env fun c => if c = true then fa env Q else fb env Q
section
variable {X : Cx} {F : Fr} {K : PySem.W.Frag} {c a b : Expr} {pos : Pos} {t ta tb : TT} {ft fa fb : DTT}
theorem pt_ifExp (hc : PT X c t) (ha : PT X a ta) (hb : PT X b tb) : PT X (.IfExp c a b pos) (tIfT t ta tb) := by
  refine ⟨fun pins s σ H Q I h => ?_⟩
  refine isTrue_IfExp (thn (hc.run pins s σ H _ I h) fun d s1 ⟨H1, I1, q1⟩ => ?_)
  cases d with
  | true => exact ha.run pins s1 σ H1 Q I1 q1
  | false => exact hb.run pins s1 σ H1 Q I1 q1
theorem sd_ifT (h : SdT K F t ft) (h1 : SdT K F ta fa) (h2 : SdT K F tb fb) : SdT K F (tIfT t ta tb) (dIfT ft fa fb) := by
  intro Hb H σ env Q k rp q c
  refine h Hb H σ env _ _ rp q fun b Hb1 H1 st1 q1 => ?_
  cases b with
  | true => exact h1 Hb1 H1 σ env Q k (rp.on st1) q1 fun v Hb2 H2 st2 q2 => c v Hb2 H2 (st1.trans st2) q2
  | false => exact h2 Hb1 H1 σ env Q k (rp.on st1) q1 fun v Hb2 H2 st2 q2 => c v Hb2 H2 (st1.trans st2) q2
theorem dt_ifExp (hc : DT X F c t ft) (ha : DT X F a ta fa) (hb : DT X F b tb fb) : DT X F (.IfExp c a b pos) (tIfT t ta tb) (dIfT ft fa fb) :=
  ⟨pt_ifExp hc.pe ha.pe hb.pe, sd_ifT hc.sd ha.sd hb.sd⟩
end
/-! ### repr -/
mutual
/-- no list anywhere -/
def noL : PyData → Bool
  | .list _ => false
  | .tuple xs => noLAll xs
  | .dict kvs => noLKv kvs
  | _ => true
def noLAll : List PyData → Bool
  | [] => true
  | x :: xs => noL x && noLAll xs
def noLKv : List (PyData × PyData) → Bool
  | [] => true
  | (_, v) :: r => noL v && noLKv r
end
theorem noLKv_all : ∀ kvs : List (PyData × PyData), noLKv kvs = noLAll (kvs.map Prod.snd)
  | [] => rfl
  | (_, v) :: r => by simp [noLKv, noLAll, noLKv_all r]
section
variable {X : Cx} {pins : List (Addr × Obj)} {σ : L2.St} {H : Hp} {s : Shared}
theorem reads_keys {P : Program} {w : World} {h : Heap} : ∀ {es : List DictEntry} {vs : List (Key × Value)}, Pairs (mixKind P w) es vs → ReadsAll h (es.map (·.key)) (vs.map fun p => keyD p.1) []
  | _, _, .nil => .nil
  | _, _, .cons (e := e) (kv := kv) h1 h2 h3 => by
    have q : Reads h e.key (keyD kv.1) [] := by
      obtain ⟨k, v⟩ := kv
      have h1' : keyIs k e.key = true := h1
      rcases keyIs_shape h1' with ⟨i, t, e1, e2⟩ | ⟨x, t, e1, e2⟩
      · rw [e1, e2]; exact .int _ _
      · rw [e1, e2]; exact .str _ _
    exact ReadsAll.cons (as := []) (bs := []) q (reads_keys h3)
theorem pairs_vals {P : Program} {w : World} : ∀ {es : List DictEntry} {vs : List (Key × Value)}, Pairs (mixKind P w) es vs → es.map (·.val) = vs.map (·.2)
  | _, _, .nil => rfl
  | _, _, .cons h1 h2 h3 => by simp [h2, pairs_vals h3]
theorem kv_vals : ∀ {kvs : List (Key × V)} {vs : List (Key × Value)}, KV kvs vs → Vals (kvs.map Prod.snd) (vs.map (·.2))
  | _, _, .nil => .nil
  | _, _, .cons h1 h2 => .cons h1.2 (kv_vals h2)
theorem kv_keys : ∀ {kvs : List (Key × V)} {vs : List (Key × Value)}, KV kvs vs → kvs.map (fun p => keyD p.1) = vs.map fun p => keyD p.1
  | _, _, .nil => rfl
  | _, _, .cons h1 h2 => by simp [h1.1, kv_keys h2]
theorem Dq.readsN (I : Inv X pins σ H s) {d : PyData} {v : V} (h : Dq X.K H v d) : noL d = true → ∀ u, RelV v u → ∃ as, Reads s.heap u d as ∧ sysModules ∉ as := by
  refine Dq.rec (motive_1 := fun v d _ => noL d = true → ∀ u, RelV v u → ∃ as, Reads s.heap u d as ∧ sysModules ∉ as) (motive_2 := fun vs ds _ => noLAll ds = true → ∀ us, Vals vs us → ∃ as, ReadsAll s.heap us ds as ∧ sysModules ∉ as) ?_ ?_ ?_ ?_ ?_ ?_ ?_ ?_ ?_ h
  · intro _ u r; cases r; exact ⟨_, Reads.none, by simp⟩
  · intro b _ u r; cases r; exact ⟨_, Reads.bool b, by simp⟩
  · intro i _ u r; obtain ⟨t, rfl⟩ := r; exact ⟨_, Reads.int i t, by simp⟩
  · intro x _ u r; obtain ⟨t, rfl⟩ := r; exact ⟨_, Reads.str x t, by simp⟩
  · intro a xs ds h1 _ i hd u r
    simp [noL] at hd
  · intro a xs ds h1 _ i hd u r
    cases r
    obtain ⟨its, rv, ⟨o, ho, hc, n, hdat⟩, _⟩ := I.tuple h1
    obtain ⟨as, hr, hn⟩ := i (by simpa [noL] using hd) its rv
    exact ⟨_, Reads.tuple ho hc hdat hr, hn⟩
  · intro a kvs ds h1 h2 _ i hd u r
    cases r
    obtain ⟨z, hs, vs, rel, o, es, ep, ho, hx, hdat, _, hp, _⟩ := dk_of I.hok h1
    have hn : noLAll (ds.map Prod.snd) = true := by rw [← noLKv_all]; simpa [noL] using hd
    obtain ⟨bs, hr, hb⟩ := i hn _ (kv_vals rel)
    have hk : ReadsAll s.heap (es.toList.map (·.key)) (ds.map (·.1)) [] := by
      rw [h2, kv_keys rel]; exact reads_keys hp
    have hv : ReadsAll s.heap (es.toList.map (·.val)) (ds.map (·.2)) bs := by
      rw [pairs_vals hp]; exact hr
    refine ⟨_, Reads.dict ho hx.1 hdat hk hv, ?_⟩
    have hs' : sysModules ≠ a := fun e => by rw [e] at hs; simp at hs
    simp [hs', hb]
  · intro _ us r; cases r; exact ⟨_, ReadsAll.nil, by simp⟩
  · intro v vs d ds _ _ i1 i2 hd us r
    cases r with
    | cons r1 r2 =>
      have hd' : noL d = true ∧ noLAll ds = true := by simpa [noLAll] using hd
      obtain ⟨as, q1, n1⟩ := i1 hd'.1 _ r1
      obtain ⟨bs, q2, n2⟩ := i2 hd'.2 _ r2
      exact ⟨_, ReadsAll.cons q1 q2, by simp [n1, n2]⟩
end
def okX (d : PyData) : Prop := (d.hasDict = false ∨ noL d = true) ∧ d.showable = true ∧ d.shown.length ≤ sizeLine ∧ d.depth ≤ 60
section
variable {X : Cx} {K : PySem.W.Frag} {hid : Hid}
def rReprX (K : PySem.W.Frag) : List V → Hp → VK → Prop := fun xs H Q => ∃ v d, xs = [v] ∧ Dq K H v d ∧ okX d ∧ Q (.str d.shown) H
theorem call_reprX (hu : X.A.units + 64 < cLine) (hgd : X.A.guards = some []) : CallR X (.builtin "repr") (rReprX X.K) := by
  intro pins s σ H xs us Q I r h
  obtain ⟨v, d, rfl, hd, ⟨h1, h2, h3, h4⟩, q⟩ := h
  obtain ⟨u, rfl, rv⟩ := vals1 r
  have rd : ∃ as, Reads s.heap u d as ∧ (d.hasDict = true → sysModules ∉ as) := by
    rcases h1 with h1 | h1
    · obtain ⟨as, rd⟩ := Dq.readsP I hd h1 u rv
      exact ⟨as, rd, fun z => by rw [h1] at z; cases z⟩
    · obtain ⟨as, rd, n⟩ := Dq.readsN I hd h1 u rv
      exact ⟨as, rd, fun _ => n⟩
  obtain ⟨as, rd, hn⟩ := rd
  cases hd with
  | non => cases rv; exact PySem.P.repr_of_none ⟨.str _, H, I.tok _, ⟨_, rfl⟩, q⟩
  | bl b => cases rv; exact PySem.P.repr_of_bool ⟨.str _, H, I.tok _, ⟨_, rfl⟩, q⟩
  | int i =>
    obtain ⟨t, rfl⟩ := rv
    exact PySem.P.repr_of_int (by simpa [PyData.showable] using h2) ⟨.str _, H, I.tok _, ⟨_, rfl⟩, q⟩
  | str x =>
    obtain ⟨t, rfl⟩ := rv
    exact PySem.P.repr_of_str ⟨.str _, H, I.tok _, ⟨_, rfl⟩, q⟩ (by simpa [PyData.shown] using h3)
  | lst _ _ =>
    cases rv
    refine repr_of_reads' rd h2 hn hgd (by omega) (fun _ _ e => e) (fun h' u' tk hk => ?_) h3
    exact ⟨.str _, H, I.kept hk, ⟨u', rfl⟩, q⟩
  | tup _ _ =>
    cases rv
    refine repr_of_reads' rd h2 hn hgd (by omega) (fun _ _ e => e) (fun h' u' tk hk => ?_) h3
    exact ⟨.str _, H, I.kept hk, ⟨u', rfl⟩, q⟩
  | dic _ _ _ =>
    cases rv
    refine repr_of_reads' rd h2 hn hgd (by omega) (fun _ _ e => e) (fun h' u' tk hk => ?_) h3
    exact ⟨.str _, H, I.kept hk, ⟨u', rfl⟩, q⟩
def fReprX : FN := fun ss Q => match ss with
  | [.d x] => okX x ∧ Q (.d (.str x.shown))
  | _ => False
theorem lc_reprX : LC K hid (rReprX K) fReprX := by
  intro Hb H xs ss Q k st r q c
  unfold fReprX at q
  split at q
  · rename_i x
    obtain ⟨v, rfl, h⟩ := rep1 r
    exact ⟨v, x, rfl, Dq.mono st.ex h, q.1, c _ Hb H (.d (.str _)) (Step.refl st) (Dq.str _) trivial q.2⟩
  · exact q.elim
theorem k_reprX (e : X.K = K) (hu : X.A.units + 64 < cLine) (hgd : X.A.guards = some []) : CallR X (.builtin "repr") (rReprX K) := e ▸ call_reprX hu hgd
end
end Pu
namespace Pu
/-- a class is its own kind -/
theorem exm_own {K : PySem.W.Frag} {C : PySem.Addr} (eC : PySem.W.subIn K (.ref C) (.type "BaseException") = some true) (cC : PySem.W.isClsIn K C = true) (tC : PySem.W.typeIn K (.ref C) = some (.type "type")) (sC : PySem.W.subIn K (.ref C) (.ref C) = some true) :
    PySem.W.exmOne K (.ref C) (.ref C) = some true := by
  have q : (PySem.W.clsIn K C).isSome = true := cC
  unfold PySem.W.exmOne
  rw [eC, if_pos (by rfl)]
  show (if ((PySem.W.clsIn K C).isSome && PySem.W.typeIn K (.ref C) == some (.type "type")) = true then PySem.W.subIn K (.ref C) (.ref C) else none) = some true
  rw [q, tC, if_pos (by rfl), sC]
end Pu

end

section
set_option maxHeartbeats 1000000
/-! PuDe: dict(enumerate(tuple)). -/
namespace RZ
open PySem
open PySem.Sem (wp)
section
variable {prog : Program} {w : World} {A : Around} {E : Value → Shared → Prop} {s : Shared}
/-- the next pair, where the last one given out is still held -/
theorem enumT_next_held {e it l T : Addr} {i : Nat} {xs : Array Value} {x old : Value} {f : Bool} {oT : Obj} {Q : Option Value → Shared → Prop} (he : IsEnumHeld s.heap e it i old T f) (hT : s.heap.get? T = some oT) (n1 : T ≠ e) (n2 : T ≠ it)
    (hit : s.heap.IsTupleIter it l i) (hl : s.heap.IsTuple l xs) (hx : xs[i]? = some x) (ne : e ≠ it)
    (hQ : ∀ h', IsEnumHeld h' e it ((i : Int) + 1) old T true → h'.IsTupleIter it l (i + 1) → h'.get? s.heap.objs.size = some { cls := .type "tuple", data := .seq #[.int i s.toks, x] } →
      (∀ c o, c ≠ e → c ≠ it → s.heap.get? c = some o → h'.get? c = some o) → Q (some (.ref s.heap.objs.size)) { s with heap := h', toks := s.toks + 1 }) :
    wpAny (model prog w) A (pyNext (.ref e)) Q E s := by
  have ty : s.TypeIs (.ref e) "enumerate" := ⟨_, he, rfl⟩
  unfold pyNext
  refine wpAny_bind (wpAny_attempt (wpAny_callSpecial?_slot (name := Str.ofString "__next__") ty F.slot_enumerate_next
    (wpAny_call_entry F.slot_enumerate_next ty F.entry_enumerate_next ?_ (F.args_enumerate_next_1 _))))
  obtain ⟨hp, gs, dr, tk, os⟩ := s
  show wpAny _ _ (field (.ref e) 2 >>= _) _ _ _
  refine wpAny_bind (wpAny_field he rfl (x := .ref it) rfl ?_)
  refine wpAny_bind (nextOf_tuple_item hit hl hx fun ha ia sa => ?_)
  replace sa : Heap.SameBut it hp ha := sa
  have ea : IsEnumHeld ha e it i old T f := (sa.2 e ne).trans he
  show wpAny _ _ (field (.ref e) 3 >>= _) _ _ ⟨ha, gs, dr, tk, os⟩
  refine wpAny_bind (wpAny_field ea rfl (x := rawInt i) rfl ?_)
  show wpAny _ _ (field (.ref e) 4 >>= _) _ _ ⟨ha, gs, dr, tk, os⟩
  refine wpAny_bind (wpAny_field ea rfl (x := .none) rfl ?_)
  show wpAny _ _ (mkInt i >>= _) _ _ ⟨ha, gs, dr, tk, os⟩
  refine wpAny_bind (wpAny_mkInt ?_)
  show wpAny _ _ (setField (.ref e) 3 (rawInt ((i : Int) + 1)) >>= _) _ _ ⟨ha, gs, dr, tk + 1, os⟩
  refine wpAny_bind (wpAny_setField_rec ea (by simp) fun hb eb sb => ?_)
  replace sb : Heap.SameBut e ha hb := sb
  replace eb : IsEnumHeld hb e it ((i : Int) + 1) old T f := eb
  show wpAny _ _ (setField (.ref e) 4 .none >>= _) _ _ ⟨hb, gs, dr, tk + 1, os⟩
  refine wpAny_bind (wpAny_setField_rec eb (by simp) fun hc ec sc => ?_)
  replace sc : Heap.SameBut e hb hc := sc
  replace ec : IsEnumHeld hc e it ((i : Int) + 1) old T f := ec
  show wpAny _ _ (newTuple [.int i tk, x] >>= _) _ _ ⟨hc, gs, dr, tk + 1, os⟩
  refine wpAny_bind (wpAny_newTuple ?_)
  have ed : IsEnumHeld (hc.push { cls := .type "tuple", data := .seq #[.int i tk, x] }) e it ((i : Int) + 1) old T f := Heap.get?_push_of_some _ ec
  generalize hz : hc.push { cls := .type "tuple", data := .seq #[.int i tk, x] } = hd at ed
  have z : hc.objs.size = hp.objs.size := by rw [sc.1, sb.1, sa.1]
  have lt : e < hp.objs.size := Heap.lt_size he
  have td : hd.get? hp.objs.size = some { cls := .type "tuple", data := .seq #[.int i tk, x] } := by rw [← hz, ← z]; exact Heap.get?_push_size _ rfl
  have kd : ∀ c o, c ≠ e → c ≠ it → hp.get? c = some o → hd.get? c = some o := fun c o h1 h2 h3 => by
    rw [← hz]
    exact Heap.get?_push_of_some _ (sc.extBut c o h1 (sb.extBut c o h1 (sa.extBut c o h2 h3)))
  have id : hd.IsTupleIter it l (i + 1) := by
    rw [← hz]
    obtain ⟨o, ho, r⟩ := (ia.extBut sb.extBut (Ne.symm ne)).extBut sc.extBut (Ne.symm ne)
    exact ⟨o, Heap.get?_push_of_some _ ho, r⟩
  show wpAny _ _ (Builtin.SmallTypes.ownedTupleIsFree (.ref e) >>= _) _ _ ⟨hd, gs, dr, tk + 1, os⟩
  rw [z]
  clear hz ec sc eb sb ea sa ia z hc hb ha
  refine wpAny_bind (wpAny_tupleHeld_enum (s := ⟨hd, gs, dr, tk + 1, os⟩) ed (kd T oT n1 n2 hT) fun hf ef sf => ?_)
  replace sf : Heap.SameBut e hd hf := sf
  simp only [Bool.false_eq_true, if_false]
  refine wpAny_pure ⟨_, rfl, wpAny_pure ?_⟩
  exact hQ hf ef (id.extBut sf.extBut (Ne.symm ne)) (sf.extBut _ _ (Nat.ne_of_gt lt) td) fun c o h1 h2 h3 => sf.extBut c o h1 (kd c o h1 h2 h3)
theorem enumT_end_held {e it l T : Addr} {i : Nat} {xs : Array Value} {old : Value} {f : Bool} {Q : Option Value → Shared → Prop} (hh : A.handled = none) (he : IsEnumHeld s.heap e it i old T f) (hit : s.heap.IsTupleIter it l i)
    (hl : s.heap.IsTuple l xs) (hx : xs[i]? = none) (hQ : ∀ h', Heap.ExtBut it s.heap h' → Q none { s with heap := h' }) : wpAny (model prog w) A (pyNext (.ref e)) Q E s := by
  have ty : s.TypeIs (.ref e) "enumerate" := ⟨_, he, rfl⟩
  unfold pyNext
  refine wpAny_bind (wpAny_attempt (wpAny_callSpecial?_slot (name := Str.ofString "__next__") ty F.slot_enumerate_next
    (wpAny_call_entry F.slot_enumerate_next ty F.entry_enumerate_next ?_ (F.args_enumerate_next_1 _))))
  show wpAny _ _ (field (.ref e) 2 >>= _) _ _ _
  refine wpAny_bind (wpAny_field he rfl (x := .ref it) rfl ?_)
  refine wpAny_bind (nextOf_tuple_end hh hit hl hx fun h' c k ⟨o, ho, hc⟩ => ?_)
  refine wpAny_bind (wpAny_isInstance (T := "StopIteration") (b := true) ⟨o, ho, hc⟩ isSubtype_stop ?_)
  exact wpAny_pure (hQ _ k)
end
section
variable {prog : Program} {w : World}
/-- the state of an enumerate over a tuple, while dict() reads it -/
def EnSt (e it l d : Addr) (xs : Array Value) (i : Nat) (h : Heap) : Prop := h.IsTupleIter it l i ∧ h.IsTuple l xs ∧ ((∃ old, IsEnum h e it i old) ∨ ∃ old T f oT, IsEnumHeld h e it i old T f ∧ h.get? T = some oT ∧ T ≠ e ∧ T ≠ it ∧ T ≠ d)
theorem enSrc {A : Around} {e it l d : Addr} (ne : e ≠ it) (nl : l ≠ e) (nl2 : l ≠ it) (de : d ≠ e) (dit : d ≠ it) (dl : d ≠ l) (hA : A.handled = none) (xs : Array Value) :
    PairSrc prog w A e d [e, it] xs.size (fun i k v => (∃ t, k = .int i t) ∧ xs[i]? = some v) (EnSt e it l d xs) where
  off := by simp [de, dit]
  frame := by
    rintro i h h' ⟨a1, a2, a3⟩ hk
    refine ⟨a1.at fun o q => hk _ o (Ne.symm dit) q, a2.at fun o q => hk _ o (Ne.symm dl) q, ?_⟩
    rcases a3 with ⟨old, a3⟩ | ⟨old, T, f, oT, a3, a4, a5, a6, a7⟩
    · exact .inl ⟨old, hk _ _ (Ne.symm de) a3⟩
    · exact .inr ⟨old, T, f, oT, hk _ _ (Ne.symm de) a3, hk _ _ a7 a4, a5, a6, a7⟩
  item := by
    rintro i s Q E hi ⟨a1, a2, a3⟩ hd hQ
    have hx : xs[i]? = some xs[i] := Array.getElem?_eq_getElem hi
    have cast : ((i + 1 : Nat) : Int) = (i : Int) + 1 := by omega
    have far : s.heap.objs.size ≠ it := by
      obtain ⟨_, q, _⟩ := id a1
      exact Nat.ne_of_gt (Heap.lt_size q)
    have put : ∀ {h' : Heap}, (∀ c o, c ≠ e → c ≠ it → s.heap.get? c = some o → h'.get? c = some o) → ∀ b o, b ∉ [e, it] → s.heap.get? b = some o → h'.get? b = some o := fun k b o hb q =>
      k b o (fun y => hb (by simp [y])) (fun y => hb (by simp [y])) q
    rcases a3 with ⟨old, a3⟩ | ⟨old, T, f, oT, a3, a4, a5, a6, a7⟩
    · refine enumT_next_item a3 a1 a2 hx ne fun h' b1 b2 b3 b4 => ?_
      refine hQ _ _ _ h' (s.toks + 1) ⟨⟨_, rfl⟩, hx⟩ (.inl ⟨_, b3, rfl, _, rfl⟩) ⟨b2, a2.at fun o q => b4 l o nl nl2 q, .inr ⟨_, s.heap.objs.size, false, _, by rw [cast]; exact b1, b3, ?_, far, Nat.ne_of_gt hd⟩⟩ (put b4)
      exact Nat.ne_of_gt (Heap.lt_size a3)
    · refine enumT_next_held a3 a4 a5 a6 a1 a2 hx ne fun h' b1 b2 b3 b4 => ?_
      exact hQ _ _ _ h' (s.toks + 1) ⟨⟨_, rfl⟩, hx⟩ (.inl ⟨_, b3, rfl, _, rfl⟩) ⟨b2, a2.at fun o q => b4 l o nl nl2 q, .inr ⟨old, T, true, oT, by rw [cast]; exact b1, b4 _ _ a5 a6 a4, a5, a6, a7⟩⟩ (put b4)
  done := by
    rintro s Q E ⟨a1, a2, a3⟩ hQ
    have hx : xs[xs.size]? = none := Array.getElem?_eq_none (Nat.le_refl _)
    have fin : ∀ h', Heap.ExtBut it s.heap h' → Q none { s with heap := h' } := fun h' k => hQ h' s.toks fun b o hb q => k b o (fun y => hb (by simp [y])) q
    rcases a3 with ⟨old, a3⟩ | ⟨old, T, f, oT, a3, _⟩
    · exact enumT_next_end hA a3 a1 a2 hx fin
    · exact enumT_end_held hA a3 a1 a2 hx fin
theorem enArg (e it l : Addr) (ne : e ≠ it) (nl : l ≠ e) (nl2 : l ≠ it) (xs : Array Value) :
    PairArg prog w "enumerate" e [e, it, l] [e, it] xs.size (fun i k v => (∃ t, k = .int i t) ∧ xs[i]? = some v) (fun h => (∃ old, IsEnum h e it 0 old) ∧ h.IsTupleIter it l 0 ∧ h.IsTuple l xs) where
  type := by
    rintro s ⟨⟨_, q⟩, _⟩
    exact ⟨_, q, rfl⟩
  notDict := by decide
  keep := by
    rintro h h' ⟨⟨old, a1⟩, a2, a3⟩ hk
    exact ⟨⟨old, hk _ _ a1⟩, a2.at fun o q => hk _ o q, a3.at fun o q => hk _ o q⟩
  there := by
    rintro h ⟨⟨old, a1⟩, ⟨o1, a2, _⟩, ⟨o2, a3, _⟩⟩ b hb
    have c : b = e ∨ b = it ∨ b = l := by simpa using hb
    rcases c with c | c | c
    · subst c; exact ⟨_, a1⟩
    · subst c; exact ⟨_, a2⟩
    · subst c; exact ⟨_, a3⟩
  sub := by
    intro b hb
    have c : b = e ∨ b = it := by simpa using hb
    rcases c with c | c <;> subst c <;> simp
  noKeys := by
    rintro A s Q E hA ⟨⟨_, q⟩, _⟩ h
    exact getAttrOr_miss_enumerate q rfl rfl rfl enumerate_no_keys (by decide +kernel) hA h
  iter := by
    rintro A s d Q E hA ⟨⟨old, a1⟩, a2, a3⟩ hd hdf h
    have c : ¬ d = e ∧ ¬ d = it ∧ ¬ d = l := by simpa using hdf
    exact wpAny_pyIter_enum a1 (h e [e, it] (EnSt e it l d xs) s.heap s.toks (enSrc ne nl nl2 c.1 c.2.1 c.2.2 hA xs) ⟨a2, a3, .inl ⟨old, a1⟩⟩ (fun _ _ q => q) fun b hb => .inl hb)
end
end RZ
namespace L2
open PySem PySem.Spec PyProof.Rows RZ Pu
/-- numbered -/
def enK : Nat → List V → List (Key × V)
  | _, [] => []
  | i, x :: xs => (.inl (i : Nat), x) :: enK (i + 1) xs
theorem enK_get : ∀ (k : Nat) (xs : List V) (i : Nat), (enK k xs)[i]? = xs[i]?.map fun x => ((.inl ((k + i : Nat) : Int) : Key), x)
  | _, [], _ => by simp [enK]
  | k, x :: xs, 0 => by simp [enK]
  | k, x :: xs, i + 1 => by
    have e : k + 1 + i = k + (i + 1) := by omega
    simp [enK, enK_get (k + 1) xs i, e]
theorem enK_length : ∀ (k : Nat) (xs : List V), (enK k xs).length = xs.length
  | _, [] => rfl
  | k, x :: xs => by simp [enK, enK_length (k + 1) xs]
theorem enK_ge : ∀ (k : Nat) (xs : List V) (q : Key), q ∈ (enK k xs).map Prod.fst → ∃ i : Nat, k ≤ i ∧ q = .inl (i : Int)
  | _, [], q, h => by simp [enK] at h
  | k, x :: xs, q, h => by
    rcases (by simpa [enK] using h : q = .inl (k : Nat) ∨ ∃ a, (q, a) ∈ enK (k + 1) xs) with h | ⟨a, h⟩
    · exact ⟨k, Nat.le_refl _, h⟩
    · obtain ⟨i, h1, h2⟩ := enK_ge (k + 1) xs q (List.mem_map_of_mem h)
      exact ⟨i, by omega, h2⟩
theorem enK_nodup : ∀ (k : Nat) (xs : List V), ((enK k xs).map Prod.fst).Nodup
  | _, [] => by simp [enK]
  | k, x :: xs => by
    rw [enK, List.map_cons, List.nodup_cons]
    refine ⟨fun z => ?_, enK_nodup (k + 1) xs⟩
    obtain ⟨i, h1, h2⟩ := enK_ge (k + 1) xs _ z
    have h3 : ((k : Nat) : Int) = (i : Int) := Sum.inl.inj h2
    omega
def tDEn (K : PySem.W.Frag) (ta : TA) : TE := fun σ H Q => ta σ H fun vs H1 => ∃ a xs, vs = [.ref a] ∧ SqT K H1 a xs ∧ ∀ p, H1 p = none → Q (.ref p) (upd H1 p (.dK (enK 0 xs)))
theorem en_vals : ∀ (k : Nat) {xs : List V} {us : List Value}, Vals xs us → KV (enK k xs) ((us.zipIdx k).map fun p => ((.inl ((p.2 : Nat) : Int) : Key), p.1))
  | _, [], _, .nil => .nil
  | k, x :: xs, _, .cons h t => .cons ⟨rfl, h⟩ (en_vals (k + 1) t)
theorem pe_dEn {X : Cx} {e : Expr} {ta : TA} {p p0 pos pos2 : Pos} (hc : X.calm = true) (hg0 : Gl X "dict") (hm0 : X.mg "dict" = none) (hg : Gl X "enumerate") (hm : X.mg "enumerate" = none) (ha : PA X [e] ta)
    (hs0 : starEach [.Call (.Name "enumerate" p) [e] [] pos] X.env = [(false, eval (.Call (.Name "enumerate" p) [e] [] pos) X.env)] := by rfl) (hs : starEach [e] X.env = [(false, eval e X.env)] := by rfl) :
    PE X (.Call (.Name "dict" p0) [.Call (.Name "enumerate" p) [e] [] pos] [] pos2) (tDEn X.K ta) := by
  refine ⟨fun pins s σ H Q I h => ?_⟩
  refine Call_ (ld_blt I hg0 hm0 PyProof.Rows.boot_dict (PyProof.Rows.callWith_type1 ?_ hs0 rfl))
  rw [hs0]
  show wpAny _ _ (spliced ((false, eval (.Call (.Name "enumerate" p) [e] [] pos) X.env) :: backTo pos2 [])) _ _ s
  refine Calls.spliced_cons ?_
  refine Call_ (ld_blt I hg hm boot_enumerate (PyProof.Rows.callWith_type1 (thn (ha.run pos pins s σ H _ I h) fun us s1 ⟨vs, H1, I1, r1, q1⟩ => ?_) hs rfl))
  obtain ⟨a, xs, ex, hq, q⟩ := q1
  subst ex
  cases r1 with
  | cons r rr =>
    cases rr
    cases r
    obtain ⟨its, rv, p1, hz⟩ := I1.tuple hq
    obtain ⟨o1, ho1, _⟩ := id p1
    have la : a < s1.heap.objs.size := Heap.lt_size ho1
    have pt : s1.heap.IsTuple a its.toArray := p1
    refine call_enumT pt fun h' he hit hk => ?_
    refine Calls.spliced_nil ?_
    have I2 : Inv X pins σ H1 { s1 with heap := h' } := I1.kept (t' := s1.toks) hk
    have pt2 : h'.IsTuple a its.toArray := pt.at fun o q => hk _ o q
    have lsz : its.length = xs.length := rv.length.symm
    refine PySem.call_dict_pairs (s := { s1 with heap := h' }) (knd := mixKind X.prog X.w) (kvs := (its.zipIdx 0).map fun p => ((.inl ((p.2 : Nat) : Int) : Key), p.1))
      (enArg (s1.heap.objs.size + 1) s1.heap.objs.size a (Nat.succ_ne_self _) (Nat.ne_of_lt (Nat.lt_succ_of_lt la)) (Nat.ne_of_lt la) its.toArray) (I1.ok.hd hc) ⟨⟨.none, he⟩, hit, pt2⟩ ?_ ?_ fun h2 tk hd hk2 => ?_
    · refine ⟨by simp, fun i key v => ?_⟩
      rintro ⟨⟨t, rfl⟩, hv⟩
      have hv' : its[i]? = some v := by simpa using hv
      exact ⟨.inl (i : Nat), by simp [hv'], kV_is (P := X.prog) (w := X.w) (k := .inl (i : Nat)) (u := .int i t) ⟨t, rfl⟩⟩
    · show its.toArray.size ≤ sizeLine
      simp only [List.size_toArray]
      omega
    · have hb : (Shared.heap { s1 with heap := h' }).objs.size = h'.objs.size := rfl
      have rel := KV.merge (en_vals 0 rv) (.nil : KV [] [])
      rw [mergeK_new (by simpa using enK_nodup 0 xs), List.nil_append] at rel
      have fresh : ∀ b o, s1.heap.get? b = some o → b ∉ [s1.heap.objs.size + 1, s1.heap.objs.size] := fun b o q z => by
        have lt : b < s1.heap.objs.size := Heap.lt_size q
        have c : b = s1.heap.objs.size + 1 ∨ b = s1.heap.objs.size := by simpa using z
        rcases c with c | c
        · rw [c] at lt; exact absurd (Nat.lt_of_succ_lt lt) (Nat.lt_irrefl _)
        · rw [c] at lt; exact absurd lt (Nat.lt_irrefl _)
      have hm : (h'.objs.size == sysModules) = false := beq_eq_false_iff_ne.mpr (Nat.ne_of_gt I2.big)
      have le : s1.heap.objs.size ≤ h'.objs.size := by
        exact Nat.le_of_lt (Nat.lt_of_succ_lt (Heap.lt_size he))
      have kk : ∀ b o, s1.heap.get? b = some o → h2.get? b = some o := fun b o q => hk2 b o (fresh b o q) (hk b o q)
      refine ⟨.ref h'.objs.size, upd H1 h'.objs.size (.dK (enK 0 xs)), ?_, rfl, q _ (I1.hok.fresh le)⟩
      have lz : (enK 0 xs).length ≤ sizeLine := by rw [enK_length]; omega
      exact I1.laid (t' := tk) kk le (show ObjOk X.prog X.w _ _ _ (.dK (enK 0 xs)) from ⟨lz, hm, _, rel, hd⟩)
end L2
namespace Pu
open PySem L2 PyProof.Rows RZ
def enP : Nat → List PyData → List (PyData × PyData)
  | _, [] => []
  | i, x :: xs => (.int (i : Nat), x) :: enP (i + 1) xs
def dDEn (f : DTA) : DTE := fun env Q => f env fun ss => ∃ xs, ss = [.d (.tuple xs)] ∧ Q (.d (.dict (enP 0 xs)))
theorem enP_fst : ∀ (k : Nat) {vs : List V} {xs : List PyData}, vs.length = xs.length → (enP k xs).map Prod.fst = (enK k vs).map fun p => keyD p.1
  | _, [], [], _ => rfl
  | k, v :: vs, x :: xs, h => by simp [enP, enK, keyD, enP_fst (k + 1) (vs := vs) (xs := xs) (by simpa using h)]
  | _, [], _ :: _, h => by simp at h
  | _, _ :: _, [], h => by simp at h
theorem enP_snd : ∀ (k : Nat) (xs : List PyData), (enP k xs).map Prod.snd = xs
  | _, [] => rfl
  | k, x :: xs => by simp [enP, enP_snd (k + 1) xs]
theorem enK_snd : ∀ (k : Nat) (xs : List V), (enK k xs).map Prod.snd = xs
  | _, [] => rfl
  | k, x :: xs => by simp [enK, enK_snd (k + 1) xs]
section
variable {K : PySem.W.Frag} {F : Fr} {tr : TA} {fr : DTA}
theorem sd_dEn (h : SdA K F tr fr) : SdE K F (tDEn K tr) (dDEn fr) := by
  intro Hb H σ env Q k rp q c
  refine h Hb H σ env _ _ rp q fun vs Hb1 H1 ss st1 rs1 q1 => ?_
  obtain ⟨xs, e, q1⟩ := q1
  subst e
  obtain ⟨v, rfl, h1⟩ := rep1 rs1
  cases (show Dq K Hb1 v (.tuple xs) from h1) with
  | @tup a vs _ a1 a2 =>
    refine ⟨a, vs, rfl, Same.seqT st1.st.ex a1, fun p hp => ?_⟩
    have s2 := Step.laid (o := .dK (enK 0 vs)) st1.st hp
    refine c (.ref p) _ _ (.d (.dict (enP 0 xs))) (st1.trans s2) ?_ trivial q1
    refine Dq.dic upd_same (enP_fst 0 (DqAll.length a2)) ?_
    rw [enK_snd, enP_snd]
    exact DqAll.mono s2.ex a2
end
theorem k_dEn {X : Cx} {F : Fr} {K : PySem.W.Frag} {tr : TA} {fr : DTA} {p p0 pos pos2 : Pos} (q : X.K = K) {a : Expr} (hm0 : X.mg "dict" = none) (hm : X.mg "enumerate" = none) (ha : DA X F [a] tr fr) (hc : X.calm = true := by rfl) (hg0 : Gl X "dict" := by rfl) (hg : Gl X "enumerate" := by rfl)
    (hs0 : starEach [.Call (.Name "enumerate" p) [a] [] pos] X.env = [(false, eval (.Call (.Name "enumerate" p) [a] [] pos) X.env)] := by rfl) (hs : starEach [a] X.env = [(false, eval a X.env)] := by rfl) :
    DE X F (.Call (.Name "dict" p0) [.Call (.Name "enumerate" p) [a] [] pos] [] pos2) (tDEn K tr) (dDEn fr) := q ▸ ⟨pe_dEn hc hg0 hm0 hg hm ha.pe hs0 hs, sd_dEn ha.sd⟩
end Pu

end

section
set_option maxHeartbeats 1000000
/-! PuTx: texts compared by <=, texts within texts. -/
namespace Pu
open PySem L2 PyProof.Rows RZ
def leS (i j : Str) : Bool := !decide (j.cps.toList < i.cps.toList)
def occS (i j : Str) : Bool := !(Builtin.Str.occurrences j i 0 j.length 1).isEmpty
def fLeS : F2 := fun s u Q => match s, u with
  | .d (.str i), .d (.str j) => Q (.d (.bool (leS i j)))
  | _, _ => False
def fInS (neg : Bool) : F2 := fun s u Q => match s, u with
  | .d (.str i), .d (.str j) => Q (.d (.bool (neg != occS i j)))
  | _, _ => False
section
variable {K : PySem.W.Frag} {hid : Hid}
theorem lo_leS : LO K hid (fun x y H Q => ∃ i j, x = .str i ∧ y = .str j ∧ Q (.bl (!decide (j.cps.toList < i.cps.toList))) H) fLeS := by
  intro Hb H x y s u Q k st rx ry q c
  unfold fLeS at q
  split at q
  · rename_i i j
    exact ⟨i, j, str_of rx, str_of ry, c _ Hb H (.d (.bool (leS i j))) (Step.refl st) (Dq.bl _) trivial q⟩
  · exact q.elim
theorem lo_inS : LO K hid (fun x y H Q => ∃ i j, x = .str i ∧ y = .str j ∧ Q (.bl (!(Builtin.Str.occurrences j i 0 j.length 1).isEmpty)) H) (fInS false) := by
  intro Hb H x y s u Q k st rx ry q c
  unfold fInS at q
  split at q
  · rename_i i j
    exact ⟨i, j, str_of rx, str_of ry, c _ Hb H (.d (.bool (false != occS i j))) (Step.refl st) (by rw [Bool.false_bne]; exact Dq.bl _) trivial q⟩
  · exact q.elim
theorem lo_ninS : LO K hid (fun x y H Q => ∃ i j, x = .str i ∧ y = .str j ∧ Q (.bl (!(!(Builtin.Str.occurrences j i 0 j.length 1).isEmpty))) H) (fInS true) := by
  intro Hb H x y s u Q k st rx ry q c
  unfold fInS at q
  split at q
  · rename_i i j
    exact ⟨i, j, str_of rx, str_of ry, c _ Hb H (.d (.bool (true != occS i j))) (Step.refl st) (by rw [Bool.true_bne]; exact Dq.bl _) trivial q⟩
  · exact q.elim
end
end Pu

end

section
set_option maxHeartbeats 1000000
/-! PuX8: repr of all data; data without members by == and !=; range as a place; texts times numbers, texts by <, text of a number, dict of one pair. -/
namespace Pu
open PySem L2 PySem.Spec PyProof.Rows RZ
section
variable {X : Cx} {pins : List (Addr × Obj)} {σ : L2.St} {H : Hp} {s : Shared}
theorem Dq.readsO (I : Inv X pins σ H s) {d : PyData} {v : V} (h : Dq X.K H v d) : ∀ u, RelV v u → ∃ as, Reads s.heap u d as := by
  refine Dq.rec (motive_1 := fun v d _ => ∀ u, RelV v u → ∃ as, Reads s.heap u d as) (motive_2 := fun vs ds _ => ∀ us, Vals vs us → ∃ as, ReadsAll s.heap us ds as) ?_ ?_ ?_ ?_ ?_ ?_ ?_ ?_ ?_ h
  · intro u r; cases r; exact ⟨_, Reads.none⟩
  · intro b u r; cases r; exact ⟨_, Reads.bool b⟩
  · intro i u r; obtain ⟨t, rfl⟩ := r; exact ⟨_, Reads.int i t⟩
  · intro x u r; obtain ⟨t, rfl⟩ := r; exact ⟨_, Reads.str x t⟩
  · intro a xs ds h1 _ i u r
    cases r
    obtain ⟨its, rv, ⟨o, n, ho, hc, _, hdat⟩, _⟩ := I.list (SqL.of h1)
    obtain ⟨as, hr⟩ := i its rv
    exact ⟨_, Reads.list ho hc hdat hr⟩
  · intro a xs ds h1 _ i u r
    cases r
    obtain ⟨its, rv, ⟨o, ho, hc, n, hdat⟩, _⟩ := I.tuple h1
    obtain ⟨as, hr⟩ := i its rv
    exact ⟨_, Reads.tuple ho hc hdat hr⟩
  · intro a kvs ds h1 h2 _ i u r
    cases r
    obtain ⟨z, hs, vs, rel, o, es, ep, ho, hx, hdat, _, hp, _⟩ := dk_of I.hok h1
    obtain ⟨bs, hr⟩ := i _ (kv_vals rel)
    have hk : ReadsAll s.heap (es.toList.map (·.key)) (ds.map (·.1)) [] := by rw [h2, kv_keys rel]; exact reads_keys hp
    have hv : ReadsAll s.heap (es.toList.map (·.val)) (ds.map (·.2)) bs := by rw [pairs_vals hp]; exact hr
    exact ⟨_, Reads.dict ho hx.1 hdat hk hv⟩
  · intro us r; cases r; exact ⟨_, ReadsAll.nil⟩
  · intro v vs d ds _ _ i1 i2 us r
    cases r with
    | cons r1 r2 =>
      obtain ⟨as, q1⟩ := i1 _ r1
      obtain ⟨bs, q2⟩ := i2 _ r2
      exact ⟨_, ReadsAll.cons q1 q2⟩
theorem DqAll.readsO (I : Inv X pins σ H s) : ∀ {ds : List PyData} {vs : List V} {us : List Value}, DqAll X.K H vs ds → Vals vs us → ∃ as, ReadsAll s.heap us ds as
  | [], _, _, .nil, .nil => ⟨_, ReadsAll.nil⟩
  | _ :: _, _, _, .cons h1 h2, .cons r1 r2 => by
    obtain ⟨as, q1⟩ := Dq.readsO I h1 _ r1
    obtain ⟨bs, q2⟩ := DqAll.readsO I h2 r2
    exact ⟨_, ReadsAll.cons q1 q2⟩
/-- how a part is shown; only dicts must lie elsewhere than the modules -/
def Shw (X : Cx) (s : Shared) (u : Value) (d : PyData) : Prop := d.showable = true → d.shown.length ≤ sizeLine → ∃ bs, ReadAtMost s.heap d.depth bs ∧ ReprK X.prog X.w bs s.heap d.depth u d.shown
def Shws (X : Cx) (s : Shared) (us : List Value) (ds : List PyData) : Prop :=
  PyData.showableAll ds = true → (∀ t ∈ PyData.shownAll ds, t.length ≤ sizeLine) → ∃ bs, ReadAtMost s.heap (PyData.depthAll ds) bs ∧ ReprAllK X.prog X.w bs s.heap (PyData.depthAll ds) us (PyData.shownAll ds)
theorem Shw.leaf {u : Value} {d : PyData} (r : ∃ as, Reads s.heap u d as) (n : d.hasDict = false) : Shw X s u d := fun q z => by
  obtain ⟨as, r⟩ := r
  exact ReprK.of_reads r q (PyData.noDict_hsm n) z
theorem shw_list {a : Addr} {o : Obj} {n : Nat} {its : List Value} {ds : List PyData} {as : List Addr} (e1 : s.heap.get? a = some o) (e2 : o.cls = .type "list") (e3 : o.data = .seq its.toArray n) (e4 : ReadsAll s.heap its ds as) (i : Shws X s its ds) (q : (PyData.list ds).showable = true) (z : (PyData.list ds).shown.length ≤ sizeLine) :
    ∃ bs, ReadAtMost s.heap (PyData.depthAll ds) bs ∧ a ∉ bs ∧ ReprAllK X.prog X.w bs s.heap (PyData.depthAll ds) its (PyData.shownAll ds) := by
  simp only [PyData.shown] at z
  obtain ⟨bs, m, k⟩ := i (by simpa [PyData.showable] using q) fun t ht => by have := listText_mem_le ht; omega
  exact ⟨bs, m, not_mem_of_deeper (Reads.list e1 e2 e3 e4) (by simp only [PyData.depth]; omega) m, k⟩
theorem shw_tup {a : Addr} {o : Obj} {n : Nat} {its : List Value} {ds : List PyData} {as : List Addr} (e1 : s.heap.get? a = some o) (e2 : o.cls = .type "tuple") (e3 : o.data = .seq its.toArray n) (e4 : ReadsAll s.heap its ds as) (i : Shws X s its ds) (q : (PyData.tuple ds).showable = true) (z : (PyData.tuple ds).shown.length ≤ sizeLine) :
    ∃ bs, ReadAtMost s.heap (PyData.depthAll ds) bs ∧ a ∉ bs ∧ ReprAllK X.prog X.w bs s.heap (PyData.depthAll ds) its (PyData.shownAll ds) := by
  simp only [PyData.shown] at z
  obtain ⟨bs, m, k⟩ := i (by simpa [PyData.showable] using q) fun t ht => by have := tupleText_mem_le ht; omega
  exact ⟨bs, m, not_mem_of_deeper (Reads.tuple e1 e2 e3 e4) (by simp only [PyData.depth]; omega) m, k⟩
theorem shw_dict {a : Addr} {o : Obj} {n : Nat} {es : Array DictEntry} {ds : List (PyData × PyData)} {bs0 : List Addr} (e1 : s.heap.get? a = some o) (e2 : o.cls = .type "dict") (e3 : o.data = .dict es n) (e4 : ReadsAll s.heap (es.toList.map (·.key)) (ds.map (·.1)) []) (e5 : ReadsAll s.heap (es.toList.map (·.val)) (ds.map (·.2)) bs0)
    (i : Shws X s (es.toList.map (·.val)) (ds.map (·.2))) (q : (PyData.dict ds).showable = true) (z : (PyData.dict ds).shown.length ≤ sizeLine) :
    ∃ bs, ReadAtMost s.heap (PyData.depthKv ds) bs ∧ a ∉ bs ∧ ReprEntriesK X.prog X.w bs s.heap (PyData.depthKv ds) es.toList (PyData.shownKv ds) := by
  simp only [PyData.shown] at z
  obtain ⟨w1, w2⟩ := PyData.showableKv_split ds (by simpa [PyData.showable] using q)
  obtain ⟨c1, m1, k1⟩ := ReprAllK.of_readsAll (prog := X.prog) (w := X.w) e4 w1 (fun _ y => nomatch y) fun t ht => by
    obtain ⟨p, y1, y2⟩ := PyData.shownKv_key_le ds t ht
    have := dictText_mem_le y1; omega
  obtain ⟨c2, m2, k2⟩ := i w2 fun t ht => by
    obtain ⟨p, y1, y2⟩ := PyData.shownKv_val_le ds t ht
    have := dictText_mem_le y1; omega
  have m := (m1.mono (PyData.depthAll_keys_le ds)).append (m2.mono (PyData.depthAll_vals_le ds))
  refine ⟨c1 ++ c2, m, not_mem_of_deeper (Reads.dict e1 e2 e3 e4 e5) (by simp only [PyData.depth]; omega) m, ?_⟩
  rw [PyData.shownKv_eq]
  exact ReprEntriesK.of_two es.toList _ _ (k1.more_le (fun b y => by simp [y]) (PyData.depthAll_keys_le ds)) (k2.more_le (fun b y => by simp [y]) (PyData.depthAll_vals_le ds))
theorem Dq.shw (I : Inv X pins σ H s) {d : PyData} {v : V} (h : Dq X.K H v d) : ∀ u, RelV v u → Shw X s u d := by
  refine Dq.rec (motive_1 := fun v d _ => ∀ u, RelV v u → Shw X s u d) (motive_2 := fun vs ds _ => ∀ us, Vals vs us → Shws X s us ds) ?_ ?_ ?_ ?_ ?_ ?_ ?_ ?_ ?_ h
  · intro u r; exact .leaf (Dq.readsO I (.non) u r) rfl
  · intro b u r; exact .leaf (Dq.readsO I (.bl b) u r) rfl
  · intro j u r; exact .leaf (Dq.readsO I (.int j) u r) rfl
  · intro x u r; exact .leaf (Dq.readsO I (.str x) u r) rfl
  · intro a xs ds h1 h2 i u r q z
    obtain ⟨as, rd⟩ := Dq.readsO I (.lst h1 h2) u r
    cases r
    cases rd with
    | list e1 e2 e3 e4 =>
      rename_i o arr n as1
      obtain ⟨its, rv, ⟨o', n', ho, hc, _, hdat⟩, _⟩ := I.list (SqL.of h1)
      rw [e1] at ho; cases ho
      rw [e3] at hdat; cases hdat
      obtain ⟨bs, m, na, k⟩ := shw_list (X := X) e1 e2 e3 (by simpa using e4) (i its rv) q z
      refine ⟨a :: bs, ReadAtMost.cons (Reads.list e1 e2 e3 e4) (by simp only [PyData.depth]; omega) m, ?_⟩
      simp only [PyData.depth, PyData.shown]
      cases its with
      | nil =>
        cases rv; cases h2
        simp only [PyData.shownAll, listText_nil]
        exact ReprK.listEmpty e1 e2 e3
      | cons y l => exact ReprK.list e1 e2 e3 na (by simpa using k.length_eq) fun j y e => k.item j y (by simpa using e)
  · intro a xs ds h1 h2 i u r q z
    obtain ⟨as, rd⟩ := Dq.readsO I (.tup h1 h2) u r
    cases r
    cases rd with
    | tuple e1 e2 e3 e4 =>
      obtain ⟨its, rv, ⟨o', ho, hc, n', hdat⟩, _⟩ := I.tuple h1
      rw [e1] at ho; cases ho
      rw [e3] at hdat; cases hdat
      obtain ⟨bs, m, na, k⟩ := shw_tup (X := X) e1 e2 e3 (by simpa using e4) (i its rv) q z
      refine ⟨a :: bs, ReadAtMost.cons (Reads.tuple e1 e2 e3 e4) (by simp only [PyData.depth]; omega) m, ?_⟩
      simp only [PyData.depth, PyData.shown]
      exact ReprK.tuple e1 e2 e3 na k
  · intro a kvs ds h1 h2 h3 i u r q z
    cases r
    obtain ⟨_, hs, vs, rel, o, es, ep, ho, hx, hdat, _, hp, _⟩ := dk_of I.hok h1
    obtain ⟨bs0, r0⟩ := DqAll.readsO I h3 (kv_vals rel)
    have hk : ReadsAll s.heap (es.toList.map (·.key)) (ds.map (·.1)) [] := by rw [h2, kv_keys rel]; exact reads_keys hp
    have i' := i _ (kv_vals rel)
    rw [← pairs_vals hp] at r0 i'
    obtain ⟨bs, m, na, k⟩ := shw_dict (X := X) ho hx.1 hdat hk r0 i' q z
    refine ⟨a :: bs, ReadAtMost.cons (Reads.dict ho hx.1 hdat hk r0) (by simp only [PyData.depth]; omega) m, ?_⟩
    simp only [PyData.depth, PyData.shown]
    exact ReprK.dict ho hx.1 hdat hs na k
  · intro us r
    cases r
    exact fun _ _ => ⟨[], (fun _ y => nomatch y), by simp only [PyData.shownAll]; exact .nil⟩
  · intro v vs d ds _ _ i1 i2 us r
    cases r with
    | cons r1 r2 =>
      intro q z
      have q' : d.showable = true ∧ PyData.showableAll ds = true := by simpa [PyData.showableAll] using q
      obtain ⟨b1, m1, k1⟩ := i1 _ r1 q'.1 (z _ (by simp [PyData.shownAll]))
      obtain ⟨b2, m2, k2⟩ := i2 _ r2 q'.2 fun t ht => z t (by simp [PyData.shownAll, ht])
      have l1 : d.depth ≤ PyData.depthAll (d :: ds) := by simp only [PyData.depthAll]; omega
      have l2 : PyData.depthAll ds ≤ PyData.depthAll (d :: ds) := by simp only [PyData.depthAll]; omega
      refine ⟨b1 ++ b2, (m1.mono l1).append (m2.mono l2), ?_⟩
      simp only [PyData.shownAll]
      exact .cons ((k1.more fun b y => by simp [y]).level_le l1) (k2.more_le (fun b y => by simp [y]) l2)
theorem DqAll.shw (I : Inv X pins σ H s) : ∀ {ds : List PyData} {vs : List V} {us : List Value}, DqAll X.K H vs ds → Vals vs us → Shws X s us ds
  | [], _, _, .nil, .nil => fun _ _ => ⟨[], (fun _ y => nomatch y), by simp only [PyData.shownAll]; exact .nil⟩
  | d :: ds, _, _, .cons h1 h2, .cons r1 r2 => fun q z => by
    have q' : d.showable = true ∧ PyData.showableAll ds = true := by simpa [PyData.showableAll] using q
    obtain ⟨b1, m1, k1⟩ := Dq.shw I h1 _ r1 q'.1 (z _ (by simp [PyData.shownAll]))
    obtain ⟨b2, m2, k2⟩ := DqAll.shw I h2 r2 q'.2 fun t ht => z t (by simp [PyData.shownAll, ht])
    have l1 : d.depth ≤ PyData.depthAll (d :: ds) := by simp only [PyData.depthAll]; omega
    have l2 : PyData.depthAll ds ≤ PyData.depthAll (d :: ds) := by simp only [PyData.depthAll]; omega
    refine ⟨b1 ++ b2, (m1.mono l1).append (m2.mono l2), ?_⟩
    simp only [PyData.shownAll]
    exact .cons ((k1.more fun b y => by simp [y]).level_le l1) (k2.more_le (fun b y => by simp [y]) l2)
end
/-- data that can be shown -/
def okY (d : PyData) : Prop := d.showable = true ∧ d.shown.length ≤ sizeLine ∧ d.depth ≤ 60
section
variable {X : Cx} {K : PySem.W.Frag} {hid : Hid}
def rReprY (K : PySem.W.Frag) : List V → Hp → VK → Prop := fun xs H Q => ∃ v d, xs = [v] ∧ Dq K H v d ∧ okY d ∧ Q (.str d.shown) H
theorem call_reprY (hu : X.A.units + 64 < cLine) (hgd : X.A.guards = some []) : CallR X (.builtin "repr") (rReprY X.K) := by
  intro pins s σ H xs us Q I r h
  obtain ⟨v, d, rfl, hd, ⟨h2, h3, h4⟩, q⟩ := h
  obtain ⟨u, rfl, rv⟩ := vals1 r
  have fin : ∀ (h' : Heap) (u : Tok) (tk : Nat), (∀ b o, s.heap.get? b = some o → h'.get? b = some o) → ∃ x H', Inv X pins σ H' { s with heap := h', toks := tk } ∧ RelV x (Value.str d.shown u) ∧ Q x H' := fun h' u tk hk => ⟨.str _, H, I.kept hk, ⟨u, rfl⟩, q⟩
  have room : X.A.in1.units + d.depth < cLine := by show X.A.units + 1 + d.depth < cLine; omega
  have hd' := hd
  have hz := h3
  cases hd with
  | non => cases rv; exact PySem.P.repr_of_none ⟨.str _, H, I.tok _, ⟨_, rfl⟩, q⟩
  | bl b => cases rv; exact PySem.P.repr_of_bool ⟨.str _, H, I.tok _, ⟨_, rfl⟩, q⟩
  | int i =>
    obtain ⟨t, rfl⟩ := rv
    exact PySem.P.repr_of_int (by simpa [PyData.showable] using h2) ⟨.str _, H, I.tok _, ⟨_, rfl⟩, q⟩
  | str x =>
    obtain ⟨t, rfl⟩ := rv
    exact PySem.P.repr_of_str ⟨.str _, H, I.tok _, ⟨_, rfl⟩, q⟩ (by simpa [PyData.shown] using h3)
  | lst h1 g2 =>
    obtain ⟨as, rd⟩ := Dq.readsO I hd' u rv
    cases rv
    cases rd with
    | list e1 e2 e3 e4 =>
      obtain ⟨its, rv, ⟨o', n', ho, hc, _, hdat⟩, _⟩ := I.list (SqL.of h1)
      rw [e1] at ho; cases ho
      rw [e3] at hdat; cases hdat
      obtain ⟨bs, m, na, k⟩ := shw_list (X := X) e1 e2 e3 (by simpa using e4) (DqAll.shw I g2 rv) h2 h3
      simp only [PyData.depth] at room
      simp only [PyData.shown] at fin hz
      refine call_repr_slot (by omega) ⟨_, e1, e2⟩ F.slot_list_repr.toG ?_
      cases its with
      | nil =>
        cases rv; cases g2
        simp only [PyData.shownAll, listText_nil] at fin
        exact call_list_repr_empty ⟨_, e1, e2⟩ e1 e3 ⟨_, _, rfl, fin s.heap _ _ fun _ _ e => e⟩
      | cons y l => exact call_list_reprK e1 e2 e3 na (by simpa using k.length_eq) (fun j y e => k.item j y (by simpa using e)) hgd (fun b _ => Clear.nil b) room (fun _ _ e => e) (fun h' u tk hk => ⟨_, _, rfl, fin h' u tk hk⟩) hz
  | tup h1 g2 =>
    obtain ⟨as, rd⟩ := Dq.readsO I hd' u rv
    cases rv
    cases rd with
    | tuple e1 e2 e3 e4 =>
      obtain ⟨its, rv, ⟨o', ho, hc, n', hdat⟩, _⟩ := I.tuple h1
      rw [e1] at ho; cases ho
      rw [e3] at hdat; cases hdat
      obtain ⟨bs, m, na, k⟩ := shw_tup (X := X) e1 e2 e3 (by simpa using e4) (DqAll.shw I g2 rv) h2 h3
      simp only [PyData.depth] at room
      simp only [PyData.shown] at fin hz
      refine call_repr_slot (by omega) ⟨_, e1, e2⟩ F.slot_tuple_repr ?_
      exact call_tuple_reprK e1 e2 e3 na k hgd (fun b _ => Clear.nil b) room (fun _ _ e => e) (fun h' u tk hk => ⟨_, _, rfl, fin h' u tk hk⟩) hz
  | @dic a kvs ds h1 g1 g2 =>
    cases rv
    obtain ⟨_, hs, vs, rel, o, es, ep, ho, hx, hdat, _, hp, _⟩ := dk_of I.hok h1
    obtain ⟨bs0, r0⟩ := DqAll.readsO I g2 (kv_vals rel)

    have hk : ReadsAll s.heap (es.toList.map (·.key)) (ds.map (·.1)) [] := by rw [g1, kv_keys rel]; exact reads_keys hp
    have i' := DqAll.shw I g2 (kv_vals rel)
    rw [← pairs_vals hp] at r0 i'
    obtain ⟨bs, m, na, k⟩ := shw_dict (X := X) ho hx.1 hdat hk r0 i' h2 h3
    simp only [PyData.depth] at room
    simp only [PyData.shown] at fin hz
    refine call_repr_slot (by omega) ⟨_, ho, hx.1⟩ F.slot_dict_repr ?_
    exact call_dict_reprK ho hx.1 hdat hs na k hgd (fun b _ => Clear.nil b) room (fun _ _ e => e) (fun h' u tk hk => ⟨_, _, rfl, fin h' u tk hk⟩) hz
def fReprY : FN := fun ss Q => match ss with
  | [.d x] => okY x ∧ Q (.d (.str x.shown))
  | _ => False
theorem lc_reprY : LC K hid (rReprY K) fReprY := by
  intro Hb H xs ss Q k st r q c
  unfold fReprY at q
  split at q
  · rename_i x
    obtain ⟨v, rfl, h⟩ := rep1 r
    exact ⟨v, x, rfl, Dq.mono st.ex h, q.1, c _ Hb H (.d (.str _)) (Step.refl st) (Dq.str _) trivial q.2⟩
  · exact q.elim
theorem k_reprY (e : X.K = K) (hu : X.A.units + 64 < cLine) (hgd : X.A.guards = some []) : CallR X (.builtin "repr") (rReprY K) := by
  subst e; exact call_reprY hu hgd
end
/-! ### lists and tuples, and such without members -/
section
variable {X : Cx} {K : PySem.W.Frag} {hid : Hid}
def Emp (K : PySem.W.Frag) (H : Hp) (x y : V) (b : Bool) : Prop := ∃ xs : List PyData, b = xs.isEmpty ∧ ((Dq K H x (.list xs) ∧ Dq K H y (.list [])) ∨ (Dq K H x (.tuple xs) ∧ Dq K H y (.tuple [])))
theorem emp_cases {pins : List (Addr × Obj)} {σ : L2.St} {H : Hp} {s : Shared} {x y : V} {b : Bool} {v u : Value} (I : Inv X pins σ H s) (h : Emp X.K H x y b) (rx : RelV x v) (ry : RelV y u) :
    ∃ l l' its, v = .ref l ∧ u = .ref l' ∧ ((s.heap.IsList l its ∧ s.heap.IsList l' #[]) ∨ (s.heap.IsTuple l its ∧ s.heap.IsTuple l' #[])) ∧ b = its.isEmpty := by
  obtain ⟨xs, rfl, ⟨hd, he⟩ | ⟨hd, he⟩⟩ := h
  · cases hd with
    | lst h1 h2 =>
      cases he with
      | lst k1 k2 =>
        cases rx; cases ry; cases k2
        obtain ⟨its, rv, ⟨o, n, ho, hc, _, hdat⟩, _⟩ := I.list (SqL.of h1)
        obtain ⟨its', rv', ⟨o', n', ho', hc', _, hdat'⟩, _⟩ := I.list (SqL.of k1)
        cases rv'
        refine ⟨_, _, _, rfl, rfl, .inl ⟨⟨o, ho, hc, n, hdat⟩, ⟨o', ho', hc', n', hdat'⟩⟩, ?_⟩
        have e := (DqAll.length h2).symm.trans rv.length
        cases xs <;> cases its <;> simp_all
  · cases hd with
    | tup h1 h2 =>
      cases he with
      | tup k1 k2 =>
        cases rx; cases ry; cases k2
        obtain ⟨its, rv, hT, _⟩ := I.tuple h1
        obtain ⟨its', rv', hT', _⟩ := I.tuple k1
        cases rv'
        refine ⟨_, _, _, rfl, rfl, .inr ⟨hT, hT'⟩, ?_⟩
        have e := (DqAll.length h2).symm.trans rv.length
        cases xs <;> cases its <;> simp_all
def rEqE (K : PySem.W.Frag) : R2 := fun x y H Q => ∃ b, Emp K H x y b ∧ Q (.bl b) H
def rNeE (K : PySem.W.Frag) : R2 := fun x y H Q => ∃ b, Emp K H x y b ∧ Q (.bl (!b)) H
theorem op_eqE (hu : X.A.units + 64 < cLine) : OpR X (compareOp .Eq) (rEqE X.K) := by
  intro pins s σ H x y v u Q I rx ry h
  obtain ⟨b, h, q⟩ := h
  obtain ⟨l, l', its, rfl, rfl, hT, rfl⟩ := emp_cases I h rx ry
  have room : X.A.units < cLine := by omega
  have fin : ∃ x H', Inv X pins σ H' s ∧ RelV x (Value.bool its.isEmpty) ∧ Q x H' := ⟨.bl _, H, I, rfl, q⟩
  rcases hT with ⟨h1, h2⟩ | ⟨h1, h2⟩
  · by_cases c : its = #[]
    · subst c
      exact SeqAt.RcAt.lists (e := fun _ => true) h1 h2 rfl room (fun j j1 _ => absurd j1 (Nat.not_lt_zero _)) _ _ _ _ fin
    · have e : its.isEmpty = false := by simpa using c
      rw [e] at fin
      exact SeqAt.RcAt.lists_lengths h1 h2 (by simpa using c) room _ _ _ _ fin
  · refine SeqAt.RcAt.tuples (e := fun _ => true) h1 h2 room (fun j _ j1 => absurd j1 (Nat.not_lt_zero _)) _ _ _ _ ?_
    have e : ((List.range (min its.size (#[] : Array Value).size)).all (fun _ => true) && its.size == (#[] : Array Value).size) = its.isEmpty := by
      obtain ⟨l⟩ := its
      cases l <;> simp
    rw [e]; exact fin
theorem op_neE (hu : X.A.units + 64 < cLine) : OpR X (compareOp .NotEq) (rNeE X.K) := by
  intro pins s σ H x y v u Q I rx ry h
  obtain ⟨b, h, q⟩ := h
  obtain ⟨l, l', its, rfl, rfl, hT, rfl⟩ := emp_cases I h rx ry
  have room : X.A.units < cLine := by omega
  have fin : ∃ x H', Inv X pins σ H' s ∧ RelV x (Value.bool !its.isEmpty) ∧ Q x H' := ⟨.bl _, H, I, rfl, q⟩
  rcases hT with ⟨h1, h2⟩ | ⟨h1, h2⟩
  · by_cases c : its = #[]
    · subst c
      exact SeqAt.RcNeAt.lists (e := fun _ => true) h1 h2 rfl room (fun j j1 _ => absurd j1 (Nat.not_lt_zero _)) _ _ _ _ fin
    · have e : its.isEmpty = false := by simpa using c
      rw [e] at fin
      exact SeqAt.RcNeAt.lists_lengths h1 h2 (by simpa using c) room _ _ _ _ fin
  · refine SeqAt.RcNeAt.tuples (e := fun _ => true) h1 h2 room (fun j _ j1 => absurd j1 (Nat.not_lt_zero _)) _ _ _ _ ?_
    have e : ((List.range (min its.size (#[] : Array Value).size)).all (fun _ => true) && its.size == (#[] : Array Value).size) = its.isEmpty := by
      obtain ⟨l⟩ := its
      cases l <;> simp
    rw [e]; exact fin

def fEqE (neg : Bool) : F2 := fun s u Q => match s, u with
  | .d (.list xs), .d (.list []) => Q (.d (.bool (neg != xs.isEmpty)))
  | .d (.tuple xs), .d (.tuple []) => Q (.d (.bool (neg != xs.isEmpty)))
  | _, _ => False
theorem lo_eqE : LO K hid (rEqE K) (fEqE false) := by
  intro Hb H x y s u Q k st rx ry q c
  unfold fEqE at q
  split at q
  · rename_i xs
    exact ⟨_, ⟨xs, rfl, .inl ⟨Dq.mono st.ex rx, Dq.mono st.ex ry⟩⟩, c _ Hb H (.d (.bool xs.isEmpty)) (Step.refl st) (Dq.bl _) trivial (by rw [Bool.false_bne] at q; exact q)⟩
  · rename_i xs
    exact ⟨_, ⟨xs, rfl, .inr ⟨Dq.mono st.ex rx, Dq.mono st.ex ry⟩⟩, c _ Hb H (.d (.bool xs.isEmpty)) (Step.refl st) (Dq.bl _) trivial (by rw [Bool.false_bne] at q; exact q)⟩
  · exact q.elim
theorem lo_neE : LO K hid (rNeE K) (fEqE true) := by
  intro Hb H x y s u Q k st rx ry q c
  unfold fEqE at q
  split at q
  · rename_i xs
    exact ⟨_, ⟨xs, rfl, .inl ⟨Dq.mono st.ex rx, Dq.mono st.ex ry⟩⟩, c _ Hb H (.d (.bool !xs.isEmpty)) (Step.refl st) (Dq.bl _) trivial (by rw [Bool.true_bne] at q; exact q)⟩
  · rename_i xs
    exact ⟨_, ⟨xs, rfl, .inr ⟨Dq.mono st.ex rx, Dq.mono st.ex ry⟩⟩, c _ Hb H (.d (.bool !xs.isEmpty)) (Step.refl st) (Dq.bl _) trivial (by rw [Bool.true_bne] at q; exact q)⟩
  · exact q.elim
theorem k_eqE (e : X.K = K) (hu : X.A.units + 64 < cLine) : OpR X (compareOp .Eq) (rEqE K) := by subst e; exact op_eqE hu
theorem k_neE (e : X.K = K) (hu : X.A.units + 64 < cLine) : OpR X (compareOp .NotEq) (rNeE K) := by subst e; exact op_neE hu
/-! ### texts -/
def ltS (i j : Str) : Bool := decide (i.cps.toList < j.cps.toList)
theorem leS_lt (i j : Str) : leS i j = !ltS j i := rfl
def repS (a : Str) (n : Nat) : Str := ⟨(List.replicate n a.cps).foldl (· ++ ·) #[]⟩
def CMulS (a : Str) (n : Int) : Prop := 1 ≤ a.length ∧ a.length ≤ 100 ∧ 0 ≤ n ∧ n ≤ 1000
def rMulS : R2 := fun x y H Q => ∃ a n, x = .str a ∧ y = .int n ∧ CMulS a n ∧ Q (.str (repS a n.toNat)) H
theorem repS_size (a : Str) : ∀ (n : Nat) (z : Array Nat), ((List.replicate n a.cps).foldl (· ++ ·) z).size = z.size + n * a.length
  | 0, z => by simp
  | n + 1, z => by
    rw [List.replicate_succ, List.foldl_cons, repS_size a n, Array.size_append, Nat.add_mul]
    show _ + a.length + _ = _
    omega
theorem op_mulS : OpR X (binaryOp .Mult) rMulS := by
  intro pins s σ H x y v u Q I rx ry h
  obtain ⟨a, n, rfl, rfl, ⟨l1, l2, n0, n1⟩, q⟩ := h
  obtain ⟨t, rfl⟩ := rx
  obtain ⟨t2, rfl⟩ := ry
  have fits : a.length * n.toNat ≤ 100000 := Nat.le_trans (Nat.mul_le_mul l2 (show n.toNat ≤ 1000 by omega)) (by decide)
  have fin : ∀ s' : Shared, Inv X pins σ H s' → ∀ t', ∃ x H', Inv X pins σ H' s' ∧ RelV x (.str (repS a n.toNat) t') ∧ Q x H' := fun s' J t' => ⟨.str _, H, J, ⟨t', rfl⟩, q⟩
  refine PySem.P.mul_str (by simp; omega) (fun h0 _ => ?_) (fun _ _ => ?_) ?_
  · rw [Int.not_gt_eq, Int.le_ediv_iff_mul_le (by omega)]
    have e : (a.length : Int) * n = ((a.length * n.toNat : Nat) : Int) := by rw [Int.natCast_mul, Int.toNat_of_nonneg n0]
    rw [e]; omega
  · simp only [Builtin.Str.tooLong, decide_eq_false_iff_not, sizeLine_eq]; omega
  · by_cases c : n < 1
    · rw [if_pos c]
      have e : n.toNat = 0 := by omega
      rw [e] at fin
      exact ⟨by decide, fin _ (I.tok _) _⟩
    · rw [if_neg c]
      by_cases c1 : (n == 1 || a.length == 0) = true
      · rw [if_pos c1]
        have e : n = 1 := by
          rcases (Bool.or_eq_true _ _).mp c1 with z | z
          · exact eq_of_beq z
          · have := eq_of_beq z; omega
        subst e
        have e : repS a (1 : Int).toNat = a := by
          unfold repS
          show (⟨#[] ++ a.cps⟩ : Str) = a
          rw [Array.empty_append]
        rw [e] at fin
        exact fin _ (I.tok _) _
      · rw [if_neg c1]
        refine ⟨?_, fin _ (I.tok _) _⟩
        show (repS a n.toNat).cps.size ≤ sizeLine
        unfold repS
        rw [repS_size, sizeLine_eq, Nat.mul_comm]
        have : (#[] : Array Nat).size = 0 := rfl
        omega
def fMulS : F2 := fun s u Q => match s, u with
  | .d (.str a), .d (.int n) => CMulS a n ∧ Q (.d (.str (repS a n.toNat)))
  | _, _ => False
theorem lo_mulS : LO K hid rMulS fMulS := by
  intro Hb H x y s u Q k st rx ry q c
  unfold fMulS at q
  split at q
  · rename_i i j
    exact ⟨i, j, str_of rx, int_of ry, q.1, c _ Hb H (.d (.str (repS i j.toNat))) (Step.refl st) (Dq.str _) trivial q.2⟩
  · exact q.elim
def fStrI : FN := fun ss Q => match ss with
  | [.d (.int i)] => i.natAbs.log2 < 1920 ∧ Q (.d (.str (toString i)))
  | _ => False
theorem lc_strI : LC K hid (fun xs H Q => ∃ i, xs = [.int i] ∧ i.natAbs.log2 < 1920 ∧ Q (.str (toString i)) H) fStrI := by
  intro Hb H xs ss Q k st r q c
  unfold fStrI at q
  split at q
  · rename_i i
    obtain ⟨v, rfl, h⟩ := rep1 r
    obtain rfl := int_of h
    exact ⟨i, rfl, q.1, c _ Hb H (.d (.str _)) (Step.refl st) (Dq.str _) trivial q.2⟩
  · exact q.elim
/-! ### list of a text -/
def rListS : List V → Hp → VK → Prop := fun xs H Q => ∃ z : Str, xs = [.str z] ∧ z.length ≤ sizeLine ∧ ∀ l, H l = none → Q (.ref l) (upd H l (.lst (z.cps.toList.map fun c => V.str ⟨#[c]⟩)))
theorem call_listS (hc : X.calm = true) : CallR X (.type "list") rListS := by
  intro pins s σ H xs us Q I r h
  obtain ⟨z, rfl, hz, q⟩ := h
  obtain ⟨u, rfl, t, rfl⟩ := vals1 r
  refine call_list_str (I.ok.hd hc) z t (fun h' tk acc c' hk hS ⟨n, g⟩ => ?_) hz
  have e : (z.cps.toList.map fun c => V.str ⟨#[c]⟩).length = acc.toList.length := by rw [List.length_map, Array.length_toList, Array.length_toList, n]
  have rv : Vals (z.cps.toList.map fun c => V.str ⟨#[c]⟩) acc.toList := vals_of_at e fun j x u hx hu => by
    obtain ⟨c, t, h1, rfl⟩ := g j u (by simpa using hu)
    have h2 : z.cps.toList[j]? = some c := by simpa using h1
    rw [List.getElem?_map, h2] at hx
    cases hx
    exact ⟨t, rfl⟩
  have lz : (z.cps.toList.map fun c => V.str ⟨#[c]⟩).length ≤ sizeLine := by rw [List.length_map, Array.length_toList]; exact hz
  exact ⟨.ref s.heap.objs.size, _, I.laid (t' := tk) hk (Nat.le_refl _) (show ObjOk X.prog X.w _ h' _ (.lst _) from ⟨lz, acc.toList, c', rv, by simpa using hS⟩), rfl, q _ (I.hok.fresh (Nat.le_refl _))⟩
def fListS : FN := fun ss Q => match ss with
  | [.d (.str z)] => z.length ≤ sizeLine ∧ Q (.own (z.cps.toList.map fun c => PyData.str ⟨#[c]⟩))
  | _ => False
theorem all_strs {H : Hp} : ∀ l : List Nat, DqAll K H (l.map fun c => V.str ⟨#[c]⟩) (l.map fun c => PyData.str ⟨#[c]⟩)
  | [] => .nil
  | c :: l => .cons (.str _) (all_strs l)
theorem lc_listS : LC K hid rListS fListS := by
  intro Hb H xs ss Q k st r q c
  unfold fListS at q
  split at q
  · rename_i z
    obtain ⟨v, rfl, h⟩ := rep1 r
    obtain rfl := str_of h
    refine ⟨z, rfl, q.1, fun p hp => ?_⟩
    obtain ⟨s2, r2, f2⟩ := own_new (K := K) st hp (all_strs (K := K) (H := Hb) z.cps.toList)
    exact c _ _ _ (.own _) s2 r2 f2 q.2
  · exact q.elim
/-! ### dict of a list of one pair -/
def rDictP (K : PySem.W.Frag) : List V → Hp → VK → Prop := fun xs H Q => ∃ (a : Addr) (ps : List Addr) (kvs : List (Key × V)), xs = [.ref a] ∧ SqL K H a (ps.map V.ref) ∧ Paired (fun p kv => SqT K H p [kV kv.1, kv.2]) ps kvs ∧
    ∀ p, H p = none → Q (.ref p) (upd H p (.dK (mergeK [] kvs)))
def fDictP : FN := fun ss Q => match ss with
  | [.d (.list [.tuple [.int i, x]])] => Q (.d (.dict [(.int i, x)]))
  | _ => False
theorem lc_dictP : LC K hid (rDictP K) fDictP := by
  intro Hb H xs ss Q k st r q c
  unfold fDictP at q
  split at q
  · rename_i i x
    obtain ⟨v, rfl, h⟩ := rep1 r
    cases (show Dq K Hb v (.list [.tuple [.int i, x]]) from h) with
    | lst h1 h2 =>
      cases h2 with
      | cons h3 h4 =>
        cases h4
        cases h3 with
        | tup k1 k2 =>
          cases k2 with
          | cons k3 k4 =>
            cases k4 with
            | cons k5 k6 =>
              cases k6
              cases k3
              rename_i a b vx
              refine ⟨a, [b], [(.inl i, vx)], rfl, SqL.of (st.ex _ _ h1), .cons (Same.seqT st.ex k1) .nil, fun p hp => ?_⟩
              have s2 := Step.laid (o := .dK (mergeK [] [((.inl i : Key), vx)])) st hp
              refine c _ _ _ (.d (.dict [(.int i, x)])) s2 ?_ trivial q
              exact Dq.dic upd_same rfl (.cons (Dq.mono s2.ex k5) .nil)
  · exact q.elim
end
theorem k_dictP {X : Cx} {K : PySem.W.Frag} (e : X.K = K) (hc : X.calm = true) : CallR X (.type "dict") (rDictP K) := by subst e; exact call_dictP hc
/-! ### a number in a range -/
def rNinRg : R2 := fun x y H Q => ∃ i a lo hi, x = V.int i ∧ y = V.ref a ∧ H a = some (.rng lo hi) ∧ Q (.bl (!decide (lo ≤ i ∧ i < hi))) H
def rRg : List V → Hp → VK → Prop := fun vs H Q => ∃ i j, vs = [V.int i, V.int j] ∧ ∀ p, H p = none → Q (.ref p) (upd H p (.rng i j))
def dNinRg (fe : DTE) (fa : DTA) : DTE := fun env Q => fe env fun s => fa env fun us => ∃ i lo hi : Int, s.fz = .d (.int i) ∧ us = [.d (.int lo), .d (.int hi)] ∧ Q (.d (.bool (!decide (lo ≤ i ∧ i < hi))))
section
variable {X : Cx} {K : PySem.W.Frag} {F : Fr}
theorem op_ninRg : OpR X (compareOp .NotIn) rNinRg := by
  intro pins s σ H x y v u Q I rx ry h
  obtain ⟨i, a, lo, hi, rfl, rfl, ha, q⟩ := h
  obtain ⟨k, rfl⟩ := rx
  cases ry
  obtain ⟨t1, t2, t3, ho⟩ := I.hok a _ ha
  refine wpAny_bind (wpAny_contains_slot (T := "range") ⟨_, ho, rfl⟩ F.slot_range_contains (call_meets F.slot_range_contains ⟨_, ho, rfl⟩ F.entry_range_contains (F.args_range_contains_2 _ _) (q_contains a lo hi i t1 t2 t3 k)
    ⟨ho, wpAny_truthy_bool (wpAny_pure ⟨.bl _, H, I, rfl, ?_⟩)⟩))
  rw [place1]
  exact q
theorem sd_ninRg {te : TE} {ta : TA} {fe : DTE} {fa : DTA} (he : SdE K F te fe) (ha : SdA K F ta fa) : SdE K F (tOp rNinRg te (tCB rRg ta)) (dNinRg fe fa) := by
  intro Hb H σ env Q k r q c
  refine he.go (Q := fun s => fa env fun us => ∃ i lo hi : Int, s = .d (.int i) ∧ us = [.d (.int lo), .d (.int hi)] ∧ Q (.d (.bool (!decide (lo ≤ i ∧ i < hi))))) r q fun v Hb1 H1 s st1 rs1 _ q1 => ?_
  refine ha Hb1 H1 σ env _ _ (r.on st1) q1 fun vs Hb2 H2 us st2 rs2 q2 => ?_
  obtain ⟨i, lo, hi, es, eu, q2⟩ := q2
  subst es
  subst eu
  obtain rfl := int_of rs1
  obtain ⟨v1, v2, rfl, r1, r2⟩ := rep2 rs2
  obtain rfl := int_of r1
  obtain rfl := int_of r2
  refine ⟨lo, hi, rfl, fun p hp => ⟨i, p, lo, hi, rfl, rfl, upd_same, ?_⟩⟩
  have s3 := Step.raw (o := .rng lo hi) st2.st hp
  exact c _ Hb2 _ (.d (.bool _)) ((st1.trans st2).trans s3) (Dq.bl _) trivial q2
theorem de_ninRg {a b e : Expr} {te : TE} {ta : TA} {fe : DTE} {fa : DTA} {p pos pos2 : Pos} (hm : X.mg "range" = none) (he : DE X F e te fe) (ha : DA X F [a, b] ta fa) (hg : Gl X "range" := by rfl) (hs : starEach (a :: [b]) X.env = (false, eval a X.env) :: starEach [b] X.env := by rfl) (hpl : (backTo pos (starEach [b] X.env)).any (·.1) = false := by rfl)
    (hk : behindInMarks .NotIn (.Call (.Name "range" p) [a, b] [] pos) = false := by first | exact nomark _ | rfl) :
    DE X F (.Compare e [.NotIn] [.Call (.Name "range" p) [a, b] [] pos] pos2) (tOp rNinRg te (tCB rRg ta)) (dNinRg fe fa) :=
  ⟨pe_cmpR op_ninRg he.pe (pe_callTy (T := "range") cr_range2 hg hm (by decide +kernel) ha.pe (by decide) (by decide) hs hpl) hk, sd_ninRg he.sd ha.sd⟩
end
section
variable {X : Cx} {F : Fr}
theorem dt_ninRg {a b e : Expr} {te : TE} {ta : TA} {fe : DTE} {fa : DTA} {p pos pos2 : Pos} (hm : X.mg "range" = none) (he : DE X F e te fe) (ha : DA X F [a, b] ta fa) (hg : Gl X "range" := by rfl) (hs : starEach (a :: [b]) X.env = (false, eval a X.env) :: starEach [b] X.env := by rfl) (hpl : (backTo pos (starEach [b] X.env)).any (·.1) = false := by rfl)
    (hk : behindInMarks .NotIn (.Call (.Name "range" p) [a, b] [] pos) = false := by first | exact nomark _ | rfl) :
    DT X F (.Compare e [.NotIn] [.Call (.Name "range" p) [a, b] [] pos] pos2) (tTest (tOp rNinRg te (tCB rRg ta))) (dTest (dNinRg fe fa)) :=
  ⟨pt_cmpR op_ninRg he.pe (pe_callTy (T := "range") cr_range2 hg hm (by decide +kernel) ha.pe (by decide) (by decide) hs hpl) hk, sd_test (sd_ninRg he.sd ha.sd)⟩
end
/-! ### try: return [] if g(e) is None else [z]; except x as n: return [n.f] -/
def tBoR (sp : Sp) (z : Str) (ta : TA) (W : WX) : TS := tRet (tIf (tTest (tOp rIsNo (tCallS sp (WE W) ta) (tC .non))) (tLst tNil) (tLst (tCons (tC (.str z)) tNil)))
def tSuR (C : Addr) (f : Str) (j : Nat) : Addr → Value → Option Addr → TS := fun a cls d => tRet (tLst (tCons (tXf a cls d C f (tVar j)) tNil))
def tTryR (K : PySem.W.Frag) (C : Addr) (f : Str) (sp : Sp) (j : Nat) (z : Str) (ta : TA) : TS := fun D σ H => tBoR sp z ta (wAs K (.ref C) j (tSuR C f j) (fun _ _ _ _ => False) D) D σ H
def dTryR (n : Nat) (m : FN) (j : Nat) (fa : DTA) : DTS := fun E env => j < env.length ∧ fa env fun ss => ss.length = n ∧ m ss fun s => (s = .d .none ∧ E.rt (.own [])) ∨ ∃ ds, s = excS ds ∧ E.rt (.own [.tuple ds])
section
variable {X : Cx} {F : Fr} {k j n : Nat} {m : FN} {g C fI : Addr} {fd : FuncData} {ps : List Str} {cs nm x f z : Str} {e : Expr} {t : TA} {fa : DTA} {jc jz : Nat} {p2 p3 p4 p5 p6 p7 p8 p9 q1 q3 q4 q5 q6 q7 pos pos' : Pos}
theorem sd_tryR {K : PySem.W.Frag} (ha : SdA K F t fa) (te : PySem.W.exmOne K (.ref C) (.ref C) = some true) : SdS K F (tTryR K C f (spXE K n m C f) j z t) (dTryR n m j fa) := by
  intro Hb H σ env D E r q l
  obtain ⟨jl, q⟩ := q
  refine ha Hb H σ env _ _ r q fun vs Hb1 H1 ss st1 rs1 q1 => ?_
  obtain ⟨hl, hm⟩ := q1
  refine ⟨F.hid, Hb1, ss, _, st1.st, rs1, hl, hm, fun v Hb' H' s st2 r2 f2 hR => ?_, fun v Hb' H' d ds st2 hd dq hR => ?_⟩
  · rcases hR with ⟨es, hn⟩ | ⟨ds, es, _⟩
    · subst es
      cases (show Dq K Hb' v .none from r2) with
      | non =>
        refine ⟨rfl, true, rfl, ?_⟩
        refine ⟨Nat.zero_le _, fun p hp => ?_⟩
        obtain ⟨s3, r3, f3⟩ := own_new (K := K) (vs := []) (xs := []) st2.st hp .nil
        have st := (st1.trans st2).trans s3
        exact l.rt _ _ _ _ st.ex (r.step.trans st) r3 (FrSl.back (r.step.trans (st1.trans st2)) f3) hn
    · subst es
      exact (exc_no r2).elim
  · rcases hR with ⟨es, _⟩ | ⟨ds', es, hn⟩
    · cases es
    · obtain rfl : ds = ds' := by
        have e : PyData.dict [(.none, .tuple ds)] = PyData.dict [(.none, .tuple ds')] := Sl.d.inj es
        injection e with e
        injection e with e _
        injection e with _ e
        injection e
      refine ⟨true, te, fun _ a ha => ?_, fun z => by cases z⟩
      have hjl : j < σ.length := by rw [← r.len]; exact jl
      refine ⟨.ref a, List.getElem?_set_self hjl, rfl, rfl, d, [(f, v)], v, rfl, hd, by simp [List.lookup], ?_⟩
      refine ⟨by show 1 ≤ sizeLine; decide, fun p hp => ?_⟩
      obtain ⟨s3, r3, f3⟩ := own_new (K := K) (vs := [v]) (xs := [.tuple ds]) st2.st hp (.cons dq .nil)
      have st := (st1.trans st2).trans s3
      exact l.rt _ _ _ _ st.ex (r.step.trans st) r3 (FrSl.back (r.step.trans (st1.trans st2)) f3) hn
theorem ps_tryR {sp : Sp} (T : ExC X.K X.mg x C fI f) (G : FnG X.prog X.w X.K X.mg X.base (L2.CX X.prog X.w) k g fd ps sp) (room : RoomG k X.A) (at_ : X.mg cs = some (.ref g)) (kp : PySem.W.keepIn X.K (.ref g) = true) (bi : Binds X.K fd ps [])
    (ha : ∀ (pn : List (Addr × Obj)) (xe : Value → Shared → Prop), PA (X.tr pn xe) [e] t) (hN : X.N.Nodup) (hj : X.N[j]? = some nm) (hn : X.env.scope.names.lookup nm = some .local)
    (gl : Gl X cs := by rfl) (glx : Gl X x := by rfl) (hs : X.stack = X.env :: X.outer := by rfl) (hf : X.env.frame = some X.env.locals := by rfl) (hln : X.env.kindOf nm = some .local := by rfl)
    (hdb : (cs == ("__debug__" : Str)) = false := by decide) (hdx : (x == ("__debug__" : Str)) = false := by decide) (hdn : (nm == ("__debug__" : Str)) = false := by decide) (hcn : (nm == ("__classdict__" : Str)) = false := by decide)
    (hse : starEach (e :: []) X.env = (false, eval e X.env) :: starEach [] X.env := by rfl)
    (hat : attributeBase (.Name nm q3) f X.env (eval (.Name nm q3) X.env) = eval (.Name nm q3) X.env := by rfl) :
    PS X (.Try [.Return (some (.IfExp (.Compare (.Call (.Name cs p2) [e] [] p3) [.Is] [.Constant .none jc p4] p5) (.List [] p6) (.List [.Constant (.str z) jz p7] p8) p9)) q1]
      [.ExceptHandler (some (.Name x q7)) (some nm) [.Return (some (.List [.Attribute (.Name nm q3) f q4] q5)) q6] pos'] [] [] pos) (tTryR X.K C f sp j z t) := by
  refine ps_try_as (X := X) (c := .ref C) (i := j) (tb := tBoR sp z t) (ts := tSuR C f j) (Wout := fun _ _ _ _ => False) hs hf hN hj hln ⟨glx, hdx, .inl T.gm⟩ takesNo (fun W pn xe tk _ => ?_) (fun a oe cls d pn hz hd => ?_)
  · exact pss_one (ps_ret (X := X.tr pn xe) (pe_ifExp (pt_cmpR op_isN (pe_callGS (X := X.tr pn xe) G room gl at_ kp bi tk (ha pn xe) hdb hse rfl) pe_non (by first | exact nomark _ | rfl)) (pe_lst pa_nil) (pe_lst (pa_cons pe_str pa_nil))))
  · exact pss_one (ps_ret (X := X.suite a ((a, oe) :: pn)) (pe_lst (pa_cons (pe_xf T.xf T.no hz hd (pe_var hj (.inl hn) hdn hcn) hat) pa_nil)))
theorem ds_tryR (T : ExC X.K X.mg x C fI f) (G : FnG X.prog X.w X.K X.mg X.base (L2.CX X.prog X.w) k g fd ps (spXE X.K n m C f)) (room : RoomG k X.A) (at_ : X.mg cs = some (.ref g)) (kp : PySem.W.keepIn X.K (.ref g) = true) (bi : Binds X.K fd ps [])
    (ha : ∀ (pn : List (Addr × Obj)) (xe : Value → Shared → Prop), DA (X.tr pn xe) F [e] t fa) (hN : X.N.Nodup) (hj : X.N[j]? = some nm := by rfl) (hn : X.env.scope.names.lookup nm = some .local := by rfl)
    (gl : Gl X cs := by rfl) (glx : Gl X x := by rfl) (hs : X.stack = X.env :: X.outer := by rfl) (hf : X.env.frame = some X.env.locals := by rfl) (hln : X.env.kindOf nm = some .local := by rfl)
    (hdb : (cs == ("__debug__" : Str)) = false := by decide) (hdx : (x == ("__debug__" : Str)) = false := by decide) (hdn : (nm == ("__debug__" : Str)) = false := by decide) (hcn : (nm == ("__classdict__" : Str)) = false := by decide)
    (hse : starEach (e :: []) X.env = (false, eval e X.env) :: starEach [] X.env := by rfl)
    (hat : attributeBase (.Name nm q3) f X.env (eval (.Name nm q3) X.env) = eval (.Name nm q3) X.env := by rfl) :
    DS X F (.Try [.Return (some (.IfExp (.Compare (.Call (.Name cs p2) [e] [] p3) [.Is] [.Constant .none jc p4] p5) (.List [] p6) (.List [.Constant (.str z) jz p7] p8) p9)) q1]
      [.ExceptHandler (some (.Name x q7)) (some nm) [.Return (some (.List [.Attribute (.Name nm q3) f q4] q5)) q6] pos'] [] [] pos) (tTryR X.K C f (spXE X.K n m C f) j z t) (dTryR n m j fa) :=
  ⟨ps_tryR T G room at_ kp bi (fun pn xe => (ha pn xe).pe) hN hj hn gl glx hs hf hln hdb hdx hdn hcn hse hat, sd_tryR (ha [] fun _ _ => False).sd T.te⟩
end
end Pu

end

section
set_option maxHeartbeats 2000000
namespace Law
open PySem L2 PyProof.Rows RZ Pu
/-- any order -/
def mMixed : FN := fun ss R => ∃ xs, ss = [.src, .d (.list xs)] ∧ xs.length < 1000000 ∧ ∀ ys : List PyData, ys.Perm xs → R (.own ys)

/-! ### the mirror -/
abbrev lotD (l : List Str) : PyData := .tuple (l.map PyData.str)
abbrev lotsD (ls : List (List Str)) : PyData := .tuple (ls.map lotD)
structure Row where
  first : Int
  left : List (List Str)
  mid : List (List Str)
  right : List (List Str)
abbrev rowD (r : Row) : PyData := .tuple [.int r.first, lotsD r.left, lotsD r.mid, lotsD r.right]
def Row.Good (r : Row) : Prop := r.left ≠ [] ∧ r.right ≠ []
def lotAt (r : Row) (n : Int) : List Str :=
  if n - r.first < 0 then r.left.getD ((n - r.first) % (r.left.length : Int)).toNat []
  else if n - r.first < (r.mid.length : Int) then r.mid.getD (n - r.first).toNat [] else r.right.getD ((n - r.first - (r.mid.length : Int)) % (r.right.length : Int)).toNat []
def Row.lots (r : Row) : List (List Str) := r.left ++ r.mid ++ r.right
/-- what is drawn: small, its lots parts of ws -/
structure Row.Ok (ws : List Str) (r : Row) : Prop where
  l1 : 1 ≤ r.left.length
  l2 : r.left.length ≤ 30
  m : r.mid.length ≤ 60
  r1 : 1 ≤ r.right.length
  r2 : r.right.length ≤ 30
  sub : ∀ lot ∈ r.lots, lot.Sublist ws
  far : r.first.natAbs ≤ 10 ^ 40
def baseW : List Str := ["a", "b", "c", "p", "q", "yes", "not", "until", "since", "left", "x1", "ab", "abcdefghijkl"]
structure Words (n : Nat) (ws : List Str) : Prop where
  so : sortedS ws = true
  nd : ws.Nodup
  len : ws.length = n
  sub : ∀ x ∈ ws, x ∈ baseW
def mLotAt : FN := fun ss R => ∃ r k, ss = [.d (rowD r), .d (.int k)] ∧ r.Good ∧ R (.d (lotD (lotAt r k)))
abbrev m_lot_at : FN := mLotAt
abbrev m__law_lot_at : FN := mLotAt
def m_holds : FN := fun ss R => ∃ r z k, ss = [.d (rowD r), .d (.str z), .d (.int k)] ∧ r.Good ∧ R (.d (.bool (decide (z ∈ lotAt r k))))
def m_letters_of : FN := fun ss R => ∃ r : Row, ss = [.d (rowD r)] ∧ (r.left.length ≤ 1000000 ∧ r.mid.length ≤ 1000000 ∧ r.right.length ≤ 1000000) ∧ r.lots.flatten.length + 1 < 4096 ∧ ∀ ys : List Str, sortedS ys = true → ys.Nodup → (∀ k, k ∈ ys ↔ k ∈ r.lots.flatten) → R (.own (ys.map PyData.str))
def m__law_letters : FN := fun ss R => ∃ (r : Row) (ws : List Str), ss = [.d (rowD r)] ∧ r.Ok ws ∧ ws.Nodup ∧ ws.length < 60 ∧ ∀ ys : List Str, sortedS ys = true → ys.Nodup → (∀ k, k ∈ ys ↔ k ∈ r.lots.flatten) → R (.own (ys.map PyData.str))
def rangeI (lo hi : Int) : List Int := (List.range (hi - lo).toNat).map fun i => lo + (i : Nat)
def m__law_many_lots : FN := fun ss R => ∃ (r : Row) (ws : List Str) (lo hi : Int), ss = [.d (rowD r), .d (.int lo), .d (.int hi)] ∧ r.Ok ws ∧ lo ≤ r.first ∧ r.first - lo ≤ 100 ∧ r.first + r.mid.length < hi ∧ hi - r.first ≤ 300 ∧ R (.own ((rangeI lo hi).map fun n => lotD (lotAt r n)))
def m__law_of : FN := fun ss R => ∃ xs : List PyData, ss = [.src, .d (.list xs)] ∧ xs ≠ [] ∧ xs.length < 1000000 ∧ ∀ x ∈ xs, R (.d x)
abbrev m__law_mixed : FN := mMixed
def m__law_words : FN := fun ss R => ∃ n : Nat, ss = [.src, .d (.int n)] ∧ 1 ≤ n ∧ n ≤ 13 ∧ ∀ ws, Words n ws → R (.own (ws.map PyData.str))
def m__law_lot : FN := fun ss R => ∃ ws : List Str, ss = [.src, .d (.list (ws.map PyData.str))] ∧ ws.length ≤ 100 ∧ ∀ lot : List Str, lot.Sublist ws → R (.d (lotD lot))
def m__law_row : FN := fun ss R => ∃ (ws : List Str) (n : Int), ss = [.src, .d (.list (ws.map PyData.str)), .d (.int n)] ∧ ws.length ≤ 100 ∧ 1 ≤ n ∧ n ≤ 10 ∧ ∀ r : Row, r.Ok ws → R (.d (rowD r))
def m__law_wide_row : FN := fun ss R => ∃ (ws : List Str), ss = [.src, .d (.list (ws.map PyData.str))] ∧ ws.length ≤ 100 ∧ ∀ r : Row, r.Ok ws → R (.d (rowD r))
abbrev m__law_any_row : FN := m__law_wide_row
def m__law_some_moments : FN := fun ss R => ∃ (r : Row) (n : Nat), ss = [.src, .d (rowD r), .d (.int n)] ∧ n ≤ 10 ∧ r.first.natAbs ≤ 10 ^ 40 ∧ ∀ ks : List Int, ks.length ≤ 20 → (∀ k ∈ ks, k.natAbs ≤ 10 ^ 50) → R (.own (ks.map PyData.int))
def unLot : PyData → List Str
  | .tuple xs => xs.map unStr
  | _ => []
theorem unLot_lot (l : List Str) : unLot (lotD l) = l := by
  show (l.map PyData.str).map unStr = l
  rw [List.map_map]
  have e2 : l.map (unStr ∘ PyData.str) = l.map id := List.map_congr_left fun x _ => rfl
  rw [e2, List.map_id]
theorem nodup_len : ∀ (l D : List Str), l.Nodup → (∀ x ∈ l, x ∈ D) → l.length ≤ D.length
  | [], _, _, _ => Nat.zero_le _
  | x :: l, D, n, h => by
    obtain ⟨n1, n2⟩ := List.nodup_cons.mp n
    have hx := h x List.mem_cons_self
    have i := nodup_len l (D.erase x) n2 fun y hy => (List.mem_erase_of_ne (a := y) (b := x) fun (e : y = x) => n1 (e ▸ hy)).mpr (h y (List.mem_cons_of_mem _ hy))
    rw [List.length_erase_of_mem hx] at i
    have := List.length_pos_of_mem hx
    rw [List.length_cons]
    omega
structure PartOk (ws : List Str) (n : Nat) (part : List (List Str)) : Prop where
  len : part.length = n
  sub : ∀ l ∈ part, l.Sublist ws
def unInt : PyData → Int
  | .int i => i
  | _ => 0
theorem ints_of {b : Nat} {zs : List PyData} (h : ∀ z ∈ zs, ∃ v : Int, z = .int v ∧ v.natAbs ≤ b) : ∃ ks : List Int, zs = ks.map PyData.int ∧ ∀ k ∈ ks, k.natAbs ≤ b := by
  refine ⟨zs.map unInt, ?_, fun l hl => ?_⟩
  · rw [List.map_map]
    have e : zs.map (PyData.int ∘ unInt) = zs.map id := List.map_congr_left fun z hz => by
      obtain ⟨l, rfl, _⟩ := h z hz
      rfl
    rw [e, List.map_id]
  · obtain ⟨z, hz, rfl⟩ := List.mem_map.mp hl
    obtain ⟨v, rfl, h1⟩ := h z hz
    exact h1
theorem times_le {x n : Int} {b : Int} (hx : x ≤ b) (hn : 1 ≤ n) (hb : 0 ≤ b := by omega) : 1 ≤ (if x > 0 then x else 0) / n + 1 ∧ (if x > 0 then x else 0) / n + 1 ≤ b + 1 ∧ x ≤ ((if x > 0 then x else 0) / n + 1) * n := by
  have h0 : 0 ≤ (if x > 0 then x else 0) := by split <;> omega
  have h1 : (if x > 0 then x else 0) ≤ b := by split <;> omega
  have h2 : x ≤ (if x > 0 then x else 0) := by split <;> omega
  generalize (if x > 0 then x else 0) = y at *
  have d0 := Int.ediv_nonneg h0 (by omega : 0 ≤ n)
  have d1 := Int.ediv_le_self n h0
  have d2 := Int.lt_ediv_add_one_mul_self y (by omega : 0 < n)
  exact ⟨by omega, by omega, by omega⟩
theorem rngD_length (lo : Int) (n : Nat) : (rngD lo n).length = n := by simp [rngD]
theorem lots_of {ws : List Str} {zs : List PyData} (h : ∀ z ∈ zs, ∃ l : List Str, l.Sublist ws ∧ z = lotD l) : ∃ part : List (List Str), zs = part.map lotD ∧ ∀ l ∈ part, l.Sublist ws := by
  refine ⟨zs.map unLot, ?_, fun l hl => ?_⟩
  · rw [List.map_map]
    have e : zs.map (lotD ∘ unLot) = zs.map id := List.map_congr_left fun z hz => by
      obtain ⟨l, _, rfl⟩ := h z hz
      show lotD (unLot (lotD l)) = lotD l
      rw [unLot_lot]
    rw [e, List.map_id]
  · obtain ⟨z, hz, rfl⟩ := List.mem_map.mp hl
    obtain ⟨l, h1, rfl⟩ := h z hz
    rw [unLot_lot]
    exact h1
theorem rowOk {ws : List Str} {m0 m1 m2 k : Int} {p0 p1 p2 : List (List Str)} (q0 : PartOk ws m0.toNat p0) (q1 : PartOk ws m1.toNat p1) (q2 : PartOk ws m2.toNat p2) (a1 : 1 ≤ m0) (a2 : m0 ≤ 30) (b : m1 ≤ 60) (c1 : 1 ≤ m2) (c2 : m2 ≤ 30) (far : k.natAbs ≤ 10 ^ 40) : Row.Ok ws ⟨k, p0, p1, p2⟩ := by
  refine ⟨?_, ?_, ?_, ?_, ?_, fun l hl => ?_, far⟩
  · show 1 ≤ p0.length; rw [q0.len]; omega
  · show p0.length ≤ 30; rw [q0.len]; omega
  · show p1.length ≤ 60; rw [q1.len]; omega
  · show 1 ≤ p2.length; rw [q2.len]; omega
  · show p2.length ≤ 30; rw [q2.len]; omega
  · unfold Row.lots at hl
    rcases List.mem_append.mp hl with hl | hl
    · rcases List.mem_append.mp hl with hl | hl
      · exact q0.sub l hl
      · exact q1.sub l hl
    · exact q2.sub l hl
/-- found: each of them once -/
structure Fd (ws : List Str) (all found : List Str) : Prop where
  nd : found.Nodup
  me : ∀ k, k ∈ found ↔ k ∈ all
  su : ∀ k ∈ found, k ∈ ws
theorem Fd.len {ws all found : List Str} (h : Fd ws all found) (nd : ws.Nodup) : found.length ≤ ws.length := nodup_len found ws h.nd h.su
theorem Fd.more {ws all found l : List Str} (h : Fd ws all found) (hl : l.Nodup) (hs : ∀ k ∈ l, k ∈ ws) : Fd ws (all ++ l) (found ++ l.filter fun z => !decide (z ∈ found)) := by
  refine ⟨List.nodup_append.mpr ⟨h.nd, hl.sublist List.filter_sublist, fun x hx y hy e => ?_⟩, fun k => ?_, fun k hk => ?_⟩
  · subst e
    simp [hx] at hy
  · by_cases c : k ∈ found
    · have := (h.me k).1 c
      simp [c, this]
    · have : k ∉ all := fun z => c ((h.me k).2 z)
      simp [c, this]
  · rcases List.mem_append.mp hk with hk | hk
    · exact h.su k hk
    · exact hs k (List.mem_filter.mp hk).1
theorem cut_take {xs : List PyData} {n : Nat} : Pu.cutD xs none (some (n : Int)) = xs.take n := by
  unfold Pu.cutD
  rw [HT.sIx_none, HT.sIx_nat, List.drop_zero, Nat.sub_zero]
  rcases Nat.le_total n xs.length with h | h
  · rw [Nat.min_eq_left h]
  · rw [Nat.min_eq_right h, List.take_length, List.take_of_length_le h]
theorem at_lots {l : List (List Str)} {i : Int} (h0 : 0 ≤ i) (h1 : i < (l.length : Int)) : atI (l.map lotD) i = some (lotD (l.getD i.toNat [])) := by
  have hn : i.toNat < l.length := by omega
  unfold atI ixN
  rw [List.length_map, if_pos h0, if_pos h1]
  show (l.map lotD)[i.toNat]? = _
  rw [List.getElem?_map, List.getElem?_eq_getElem hn, List.getD_eq_getElem?_getD, List.getElem?_eq_getElem hn]
  rfl
theorem rep_len {α : Type} (l : List α) : ∀ k : Nat, (List.replicate k l).flatten.length = k * l.length
  | 0 => by simp
  | k + 1 => by rw [List.replicate_succ, List.flatten_cons, List.length_append, rep_len l k, Nat.add_mul, Nat.one_mul, Nat.add_comm]
theorem rep_get {α : Type} (l : List α) : ∀ (k p : Nat), p < k * l.length → (List.replicate k l).flatten[p]? = l[p % l.length]?
  | 0, p, h => by omega
  | k + 1, p, h => by
    rw [List.replicate_succ, List.flatten_cons]
    by_cases c : p < l.length
    · rw [List.getElem?_append_left c, Nat.mod_eq_of_lt c]
    · have c : l.length ≤ p := Nat.le_of_not_lt c
      rw [List.getElem?_append_right c, rep_get l k (p - l.length) (by rw [Nat.add_mul, Nat.one_mul] at h; omega), Nat.mod_eq_sub_mod c]
theorem lots_get {l : List (List Str)} {i : Nat} (h : i < l.length) : (l.map lotD)[i]? = some (lotD (l.getD i [])) := by
  rw [List.getElem?_map, List.getElem?_eq_getElem h, List.getD_eq_getElem?_getD, List.getElem?_eq_getElem h]
  rfl
theorem mul_nat {e : Int} {n : Nat} (h : 0 ≤ e) : e * (n : Int) = ((e.toNat * n : Nat) : Int) := by
  rw [Int.natCast_mul, Int.toNat_of_nonneg h]
/-- the rounds rolled out -/
theorem roll {r : Row} {lo hi e t : Int} (l1 : 1 ≤ r.left.length) (r1 : 1 ≤ r.right.length) (e0 : 0 ≤ e) (t0 : 0 ≤ t) (he : r.first - lo ≤ e * ((r.left.map lotD).length : Int)) (ht : hi - r.first - (r.mid.length : Int) ≤ t * ((r.right.map lotD).length : Int)) (h2 : lo ≤ hi) (h3 : r.first + (r.mid.length : Int) ≤ hi) :
    Pu.cutD ((List.replicate e.toNat (r.left.map lotD)).flatten ++ r.mid.map lotD ++ (List.replicate t.toNat (r.right.map lotD)).flatten) (some (lo - (r.first - e * ((r.left.map lotD).length : Int)))) (some (hi - (r.first - e * ((r.left.map lotD).length : Int)))) = (rangeI lo hi).map fun n => lotD (lotAt r n) := by
  rw [mul_nat e0] at he ⊢
  rw [mul_nat t0] at ht
  generalize hA : e.toNat * (r.left.map lotD).length = A at he ⊢
  generalize hB : t.toNat * (r.right.map lotD).length = B at ht
  have lenA : ((List.replicate e.toNat (r.left.map lotD)).flatten).length = A := by rw [rep_len, hA]
  have lenB : ((List.replicate t.toNat (r.right.map lotD)).flatten).length = B := by rw [rep_len, hB]
  obtain ⟨a, ea⟩ : ∃ a : Nat, lo - (r.first - (A : Int)) = a := ⟨(lo - (r.first - (A : Int))).toNat, by omega⟩
  obtain ⟨b, eb⟩ : ∃ b : Nat, hi - (r.first - (A : Int)) = b := ⟨(hi - (r.first - (A : Int))).toNat, by omega⟩
  rw [ea, eb]
  unfold Pu.cutD
  have hn : (((List.replicate e.toNat (r.left.map lotD)).flatten ++ r.mid.map lotD ++ (List.replicate t.toNat (r.right.map lotD)).flatten)).length = A + r.mid.length + B := by rw [List.length_append, List.length_append, lenA, lenB, List.length_map]
  rw [HT.sIx_nat, HT.sIx_nat, hn, Nat.min_eq_left (by omega : a ≤ A + r.mid.length + B), Nat.min_eq_left (by omega : b ≤ A + r.mid.length + B)]
  apply List.ext_getElem?
  intro i
  rw [List.getElem?_take, List.getElem?_map]
  unfold rangeI
  rw [List.getElem?_map]
  by_cases c : i < b - a
  · rw [if_pos c, List.getElem?_drop, List.getElem?_range (by omega)]
    show _ = some (lotD (lotAt r (lo + (i : Nat))))
    unfold lotAt
    by_cases c1 : a + i < A
    · rw [List.append_assoc, List.getElem?_append_left (by omega), rep_get _ _ _ (by omega), if_pos (by omega)]
      rw [List.length_map]
      have hm : (a + i) % r.left.length < r.left.length := Nat.mod_lt _ (by omega)
      rw [lots_get hm]
      have e3 : (lo + (i : Int) - r.first) % (r.left.length : Int) = ((a + i) % r.left.length : Nat) := by
        rw [Int.natCast_emod]
        have e4 : lo + (i : Int) - r.first = ((a + i : Nat) : Int) + (r.left.length : Int) * (-(e.toNat : Int)) := by
          have : (A : Int) = (e.toNat : Int) * (r.left.length : Int) := by rw [← hA, List.length_map, Int.natCast_mul]
          rw [Int.mul_neg, Int.mul_comm (r.left.length : Int), ← this]
          omega
        rw [e4, Int.add_mul_emod_self_left]
      rw [e3, Int.toNat_natCast]
    · by_cases c2 : a + i < A + r.mid.length
      · rw [List.getElem?_append_left (by rw [List.length_append, lenA, List.length_map]; omega), List.getElem?_append_right (by rw [lenA]; omega), lenA, lots_get (by omega), if_neg (by omega), if_pos (by omega)]
        rw [show (lo + (i : Int) - r.first).toNat = a + i - A by omega]
      · rw [List.getElem?_append_right (by rw [List.length_append, lenA, List.length_map]; omega), List.length_append, lenA, List.length_map, rep_get _ _ _ (by omega), if_neg (by omega), if_neg (by omega)]
        rw [List.length_map]
        have hm : (a + i - (A + r.mid.length)) % r.right.length < r.right.length := Nat.mod_lt _ (by omega)
        rw [lots_get hm]
        have e3 : (lo + (i : Int) - r.first - (r.mid.length : Int)) % (r.right.length : Int) = ((a + i - (A + r.mid.length)) % r.right.length : Nat) := by
          rw [Int.natCast_emod]
          congr 1
          omega
        rw [e3, Int.toNat_natCast]
  · rw [if_neg c, List.getElem?_eq_none (by rw [List.length_range]; omega)]
    rfl
/-! ### what is shown is small -/
theorem base_small : ∀ x ∈ baseW, tame (.str x) = true ∧ big (.str x) ≤ 150 := by decide +kernel
structure WOk (ws : List Str) : Prop where
  len : ws.length ≤ 13
  sub : ∀ x ∈ ws, x ∈ baseW
theorem strs_small {l : List Str} {n : Nat} (hl : l.length ≤ n) (h : ∀ x ∈ l, tame (.str x) = true ∧ big (.str x) ≤ 150) : tameAll (l.map PyData.str) = true ∧ bigAll (l.map PyData.str) ≤ n * 152 ∧ PyData.depthAll (l.map PyData.str) ≤ 0 := by
  refine ⟨tameAll_iff.mpr fun x hx => ?_, ?_, depthAll_le fun x hx => ?_⟩
  · obtain ⟨y, hy, rfl⟩ := List.mem_map.mp hx
    exact (h y hy).1
  · have := bigAll_le (xs := l.map PyData.str) (n := 150) fun x hx => by
      obtain ⟨y, hy, rfl⟩ := List.mem_map.mp hx
      exact (h y hy).2
    rw [List.length_map] at this
    exact Nat.le_trans this (Nat.mul_le_mul hl (Nat.le_refl _))
  · obtain ⟨y, hy, rfl⟩ := List.mem_map.mp hx
    simp [PyData.depth]
theorem lot_small {ws l : List Str} (hw : WOk ws) (h : l.Sublist ws) : tame (lotD l) = true ∧ big (lotD l) ≤ 2000 ∧ (lotD l).depth ≤ 1 := by
  have hl := h.length_le
  have hw1 := hw.len
  obtain ⟨a, b, c⟩ := strs_small (n := 13) (l := l) (by omega) fun x hx => base_small x (hw.sub x (h.subset hx))
  refine ⟨by simpa [tame] using a, ?_, ?_⟩
  · show bigAll (l.map PyData.str) + 3 ≤ 2000; omega
  · simp only [PyData.depth]; omega
theorem lots_small {ws : List Str} (hw : WOk ws) {n : Nat} {ls : List (List Str)} (hl : ls.length ≤ n) (h : ∀ l ∈ ls, l.Sublist ws) : tameAll (ls.map lotD) = true ∧ bigAll (ls.map lotD) ≤ n * 2002 ∧ PyData.depthAll (ls.map lotD) ≤ 1 := by
  refine ⟨tameAll_iff.mpr fun x hx => ?_, ?_, depthAll_le fun x hx => ?_⟩
  · obtain ⟨y, hy, rfl⟩ := List.mem_map.mp hx
    exact (lot_small hw (h y hy)).1
  · have := bigAll_le (xs := ls.map lotD) (n := 2000) fun x hx => by
      obtain ⟨y, hy, rfl⟩ := List.mem_map.mp hx
      exact (lot_small hw (h y hy)).2.1
    rw [List.length_map] at this
    exact Nat.le_trans this (Nat.mul_le_mul hl (Nat.le_refl _))
  · obtain ⟨y, hy, rfl⟩ := List.mem_map.mp hx
    exact (lot_small hw (h y hy)).2.2
theorem okR_lots {ws : List Str} (hw : WOk ws) {ls : List (List Str)} (hl : ls.length ≤ 1000) (h : ∀ l ∈ ls, l.Sublist ws) : okR (.list (ls.map lotD)) := by
  obtain ⟨a, b, c⟩ := lots_small hw hl h
  refine okR_of (by simpa [tame] using a) ?_ ?_
  · show bigAll (ls.map lotD) + 3 ≤ 16777216; omega
  · simp only [PyData.depth]; omega
theorem okR_row {ws : List Str} (hw : WOk ws) {r : Row} (ok : r.Ok ws) : okR (rowD r) := by
  have s1 : ∀ l ∈ r.left, l.Sublist ws := fun l hl => ok.sub l (by unfold Row.lots; simp [hl])
  have s2 : ∀ l ∈ r.mid, l.Sublist ws := fun l hl => ok.sub l (by unfold Row.lots; simp [hl])
  have s3 : ∀ l ∈ r.right, l.Sublist ws := fun l hl => ok.sub l (by unfold Row.lots; simp [hl])
  obtain ⟨a1, b1, c1⟩ := lots_small hw ok.l2 s1
  obtain ⟨a2, b2, c2⟩ := lots_small hw ok.m s2
  obtain ⟨a3, b3, c3⟩ := lots_small hw ok.r2 s3
  have hf : r.first.natAbs < 10 ^ 100 := Nat.lt_of_le_of_lt ok.far (by decide +kernel)
  refine okR_of ?_ ?_ ?_
  · simp only [tame, tameAll, a1, a2, a3, Bool.and_true, decide_eq_true_eq]; exact hf
  · simp only [big, bigAll]; omega
  · simp only [PyData.depth, PyData.depthAll]; omega
theorem okR_bools {α : Type} {f : α → Bool} {l : List α} (hl : l.length ≤ 1000) : okR (.list (l.map fun x => .bool (f x))) := by
  refine okR_of ?_ ?_ ?_
  · simp only [tame]
    exact tameAll_iff.mpr fun x hx => by
      obtain ⟨y, hy, rfl⟩ := List.mem_map.mp hx
      rfl
  · have := bigAll_le (xs := l.map fun x => PyData.bool (f x)) (n := 5) fun x hx => by
      obtain ⟨y, hy, rfl⟩ := List.mem_map.mp hx
      exact Nat.le_refl _
    rw [List.length_map] at this
    show bigAll _ + 3 ≤ 16777216
    omega
  · have := depthAll_le (xs := l.map fun x => PyData.bool (f x)) (n := 0) fun x hx => by
      obtain ⟨y, hy, rfl⟩ := List.mem_map.mp hx
      simp [PyData.depth]
    simp only [PyData.depth]; omega
theorem okR_strs {l : List Str} (hl : l.length ≤ 1000) (h : ∀ x ∈ l, x ∈ baseW) : okR (.list (l.map PyData.str)) := by
  obtain ⟨a, b, c⟩ := strs_small hl fun x hx => base_small x (h x hx)
  refine okR_of (by simpa [tame] using a) ?_ ?_
  · show bigAll (l.map PyData.str) + 3 ≤ 16777216; omega
  · simp only [PyData.depth]; omega
theorem getD_sub {ws : List Str} {ls : List (List Str)} (h : ∀ l ∈ ls, l.Sublist ws) (i : Nat) : (ls.getD i []).Sublist ws := by
  rw [List.getD_eq_getElem?_getD]
  cases e : ls[i]? with
  | none => exact List.nil_sublist _
  | some l => exact h l (List.mem_of_getElem? e)
theorem lotAt_sub {ws : List Str} {r : Row} (ok : r.Ok ws) (n : Int) : (lotAt r n).Sublist ws := by
  have s1 : ∀ l ∈ r.left, l.Sublist ws := fun l hl => ok.sub l (by unfold Row.lots; simp [hl])
  have s2 : ∀ l ∈ r.mid, l.Sublist ws := fun l hl => ok.sub l (by unfold Row.lots; simp [hl])
  have s3 : ∀ l ∈ r.right, l.Sublist ws := fun l hl => ok.sub l (by unfold Row.lots; simp [hl])
  unfold lotAt
  split
  · exact getD_sub s1 _
  · split
    · exact getD_sub s2 _
    · exact getD_sub s3 _
theorem Row.Ok.good {ws : List Str} {r : Row} (ok : r.Ok ws) : r.Good := ⟨fun e => by have := ok.l1; rw [e] at this; simp at this, fun e => by have := ok.r1; rw [e] at this; simp at this⟩
def mPick : FN := fun ss R => ∃ n, ss = [.src, .d (.int n)] ∧ n < 536870912 ∧ ∀ k : Int, 0 ≤ k → k < (if n > 1 then n else 1) → R (.d (.int k))
abbrev m__law_pick : FN := mPick
theorem slL_pass {xs : List PyData} {lo hi : Option Int} {Q : DK} (h : Q (.own (Pu.cutD xs lo hi))) : fSlL (.d (.list xs)) lo hi Q := h
theorem cut_last {xs : List PyData} {x : PyData} : Pu.cutD (xs ++ [x]) none (some (-1)) = xs := by
  unfold Pu.cutD
  have e : HT.sIx (xs ++ [x]).length (xs ++ [x]).length (some (-1)) = xs.length := by
    show (if (-1 : Int) < 0 then (-1 + ((xs ++ [x]).length : Int)).toNat else min (-1 : Int).toNat (xs ++ [x]).length) = _
    rw [if_pos (by decide), List.length_append]
    show (-1 + ((xs.length + 1 : Nat) : Int)).toNat = _
    omega
  rw [e, HT.sIx_none, List.drop_zero, Nat.sub_zero, List.take_left]
theorem base_lay : ∀ x ∈ baseW, PyData.canLay0 (.str x) = true := by decide +kernel
theorem canLayAll_iff {xs : List PyData} : PyData.canLayAll0 xs = true ↔ ∀ x ∈ xs, x.canLay0 = true := by
  induction xs with
  | nil => simp [PyData.canLayAll0]
  | cons x xs ih => simp [PyData.canLayAll0, ih]
theorem okD1_strs {l : List Str} (h : ∀ x ∈ l, x ∈ baseW) : okD1 (.list (l.map PyData.str)) := by
  obtain ⟨a, _, c⟩ := strs_small (n := l.length) (Nat.le_refl _) fun x hx => base_small x (h x hx)
  refine ⟨tame_noDict _ (by simpa [tame] using a), ?_⟩
  unfold SeqAt.shaped
  refine Bool.and_eq_true_iff.mpr ⟨canLayAll_iff.mpr fun x hx => ?_, decide_eq_true ?_⟩
  · obtain ⟨y, hy, rfl⟩ := List.mem_map.mp hx
    exact base_lay y (h y hy)
  · simp only [PyData.depth]; omega
theorem neS_pass {z : Str} {A B : Prop} (h : B) : fEqS true (.d (.str z)) (.d (.str z)) (fun s => ∃ b, s.fz = .d (.bool b) ∧ (if b = true then A else B)) := ⟨false, by show Sl.d (.bool (!decide (z = z))) = _; rw [decide_eq_true rfl]; rfl, h⟩

end Law

end

section
set_option maxHeartbeats 2000000
namespace Law
open PySem L2 PyProof.Rows RZ Pu
/-! ### sheets -/
def wsK : List Str := ["letter", "yes", "not", "and", "or", "until", "since"]
def tbOpp (z : Str) : Option PyData := if z = "until" then some (.str "since") else if z = "since" then some (.str "until") else none
inductive Ln where
  | lt (w : Str) | yes | un (i : Nat) | bi (o : Str) (i j : Nat)
def ops : List Str := ["and", "or", "until", "since"]
def lnD : Ln → PyData
  | .lt w => .tuple [.str "letter", .str w]
  | .yes => .tuple [.str "yes"]
  | .un i => .tuple [.str "not", .int (i : Nat)]
  | .bi o i j => .tuple [.str o, .int (i : Nat), .int (j : Nat)]
abbrev sheetD (s : List Ln) : PyData := .tuple (s.map lnD)
def Ln.mem : Ln → List Nat
  | .lt _ => []
  | .yes => []
  | .un i => [i]
  | .bi _ i j => [i, j]
def Ln.word : Ln → Str
  | .lt _ => "letter"
  | .yes => "yes"
  | .un _ => "not"
  | .bi o _ _ => o
/-- its word is one -/
def Ln.W : Ln → Prop
  | .bi o _ _ => o ∈ ops
  | _ => True
def Ln.Ok (n : Nat) (l : Ln) : Prop := l.W ∧ (∀ i ∈ l.mem, i < n) ∧ ∀ w, l = .lt w → w ∈ baseW
structure SOk (s : List Ln) : Prop where
  ne : s ≠ []
  ok : ∀ (k : Nat) (l : Ln), s[k]? = some l → l.Ok k
def Ln.shift (n : Nat) : Ln → Ln
  | .lt w => .lt w
  | .yes => .yes
  | .un i => .un (i + n)
  | .bi o i j => .bi o (i + n) (j + n)
def swapW (o : Str) : Str := if o = "until" then "since" else if o = "since" then "until" else o
def Ln.swap : Ln → Ln
  | .bi o i j => .bi (swapW o) i j
  | l => l
def mPut (o : Str) (s t : List Ln) : List Ln := s ++ t.map (·.shift s.length) ++ [.bi o (s.length - 1) (s.length + t.length - 1)]
theorem opW {o : Str} (h : o ∈ ops) : o ≠ "letter" ∧ o ≠ "yes" ∧ o ≠ "not" := by
  simp only [ops, List.mem_cons, List.not_mem_nil, or_false] at h
  rcases h with rfl | rfl | rfl | rfl <;> decide +kernel
def m__shifted_by : FN := fun ss R => ∃ (l : Ln) (n : Nat), ss = [.d (lnD l), .d (.int n)] ∧ l.W ∧ R (.d (lnD (l.shift n)))
abbrev m__law_behind : FN := m__shifted_by
def m_denied : FN := fun ss R => ∃ (s : List Ln), ss = [.d (sheetD s)] ∧ s ≠ [] ∧ s.length < 1000000 ∧ R (.d (sheetD (s ++ [.un (s.length - 1)])))
def m_mirrored_sheet : FN := fun ss R => ∃ (s : List Ln), ss = [.d (sheetD s)] ∧ (∀ l ∈ s, l.W) ∧ s.length < 1000000 ∧ R (.d (sheetD (s.map Ln.swap)))
abbrev m__law_faced_about : FN := m_mirrored_sheet
def m_put : FN := fun ss R => ∃ (o : Str) (s t : List Ln), ss = [.d (.str o), .d (sheetD s), .d (sheetD t)] ∧ (∀ l ∈ t, l.W) ∧ s ≠ [] ∧ t ≠ [] ∧ s.length < 1000000 ∧ t.length < 1000000 ∧ R (.d (sheetD (mPut o s t)))
abbrev m__law_both : FN := m_put
def m__law_members : FN := fun ss R => ∃ (l : Ln), ss = [.d (lnD l)] ∧ l.W ∧ R (.own (l.mem.map fun (i : Nat) => .int i))
/-! tables -/
def maxI (xs : List Int) : Int := xs.foldl (fun a b => if b > a then b else a) 0
def nestOf (w : Str) (acc : List Int) (l : Ln) : Int := maxI (0 :: l.mem.map fun k => acc.getD k 0) + (if l.word = w then 1 else 0)
def nestGo (w : Str) : List Ln → List Int → List Int
  | [], acc => acc
  | l :: r, acc => nestGo w r (acc ++ [nestOf w acc l])
def mNests (w : Str) (s : List Ln) : Int := maxI (nestGo w s [])
def m__law_nests : FN := fun ss R => ∃ (w : Str) (s : List Ln), ss = [.d (sheetD s), .d (.str w)] ∧ SOk s ∧ s.length < 1000000 ∧ R (.d (.int (mNests w s)))
def scanG : List (Bool × Bool) → Bool → List Bool
  | [], _ => []
  | p :: r, g => g :: scanG r (p.1 || (p.2 && g))
def goOn (ps : List (Bool × Bool)) (g : Bool) : Bool := ps.foldl (fun g p => p.1 || (p.2 && g)) g
def mGoing (hs ws : List Bool) (n : Nat) : List Bool := (scanG (hs.zip ws).reverse (goOn ((hs.zip ws).reverse.take n) false)).reverse
abbrev boolsD (bs : List Bool) : PyData := .list (bs.map PyData.bool)
def m__law_going : FN := fun ss R => ∃ (hs ws : List Bool) (n : Nat), ss = [.d (boolsD hs), .d (boolsD ws), .d (.int n)] ∧ hs.length = ws.length ∧ n ≤ hs.length ∧ hs.length < 1000000 ∧ R (.own ((mGoing hs ws n).map PyData.bool))
structure Tab where
  start : Int
  stop : Int
  found : List (List Bool)
def tabOf (lots : List (List Str)) (nl nr : Nat) (acc : List (List Bool)) : Ln → List Bool
  | .lt w => lots.map fun l => decide (w ∈ l)
  | .yes => lots.map fun _ => true
  | .un i => (acc.getD i []).map (!·)
  | .bi o i j => if o = "and" then ((acc.getD i []).zip (acc.getD j [])).map fun p => p.1 && p.2 else if o = "or" then ((acc.getD i []).zip (acc.getD j [])).map fun p => p.1 || p.2
    else if o = "until" then mGoing (acc.getD i []) (acc.getD j []) nr else (mGoing (acc.getD i []).reverse (acc.getD j []).reverse nl).reverse
def tabGo (lots : List (List Str)) (nl nr : Nat) : List Ln → List (List Bool) → List (List Bool)
  | [], acc => acc
  | l :: r, acc => tabGo lots nl nr r (acc ++ [tabOf lots nl nr acc l])
def tStart (s : List Ln) (r : Row) : Int := r.first - r.left.length * (mNests "until" s + 1)
def tStop (s : List Ln) (r : Row) : Int := r.first + r.mid.length + r.right.length * (mNests "since" s + 1)
def mTab (s : List Ln) (r : Row) : Tab := ⟨tStart s r, tStop s r, tabGo ((rangeI (tStart s r) (tStop s r)).map (lotAt r)) r.left.length r.right.length s []⟩
def tabD (t : Tab) (r : Row) : PyData := .dict [(.str "start", .int t.start), (.str "end", .int t.stop), (.str "found", .list (t.found.map boolsD)), (.str "row", rowD r)]
structure RSmall (r : Row) : Prop where
  l1 : 1 ≤ r.left.length
  l2 : r.left.length ≤ 100
  m : r.mid.length ≤ 100
  r1 : 1 ≤ r.right.length
  r2 : r.right.length ≤ 100
def m__law_tables : FN := fun ss R => ∃ (s : List Ln) (r : Row), ss = [.d (sheetD s), .d (rowD r)] ∧ SOk s ∧ s.length ≤ 1000 ∧ RSmall r ∧ R (.d (tabD (mTab s r) r))
def whereT (t : Tab) (r : Row) (n : Int) : Int :=
  let a := if n < t.start then t.start + (n - t.start) % (r.left.length : Int) else n
  let b := if a ≥ t.stop then t.stop - r.right.length + (a - t.stop) % (r.right.length : Int) else a
  b - t.start
def m__law_truths : FN := fun ss R => ∃ (t : Tab) (r : Row) (n : Int), ss = [.d (tabD t r), .d (.int n)] ∧ RSmall r ∧ t.start + r.left.length ≤ t.stop ∧ t.start + r.right.length ≤ t.stop ∧ (∀ b ∈ t.found, b.length = (t.stop - t.start).toNat) ∧ t.found.length ≤ 100000 ∧
  R (.own (t.found.map fun b => .bool (b.getD (whereT t r n).toNat false)))
def m__law_drawn_sheet : FN := fun ss R => ∃ n : Int, ss = [.src, .d (.int n)] ∧ 1 ≤ n ∧ n ≤ 100 ∧ ∀ s, SOk s → (s.length : Int) ≤ n → R (.d (sheetD s))
def m__law_mirrored_right : FN := fun ss R => ∃ (s : List Ln), ss = [.src, .d (sheetD s)] ∧ SOk s ∧ s.length ≤ 100 ∧ R (.d (.bool true))
theorem eqS_yes {z : Str} {A B : Prop} (h : A) : fEqS false (.d (.str z)) (.d (.str z)) (fun s => ∃ b, s.fz = .d (.bool b) ∧ (if b = true then A else B)) := ⟨true, by show Sl.d (.bool (decide (z = z))) = _; rw [decide_eq_true rfl], h⟩
theorem eqS_no {y z : Str} (n : y ≠ z) {A B : Prop} (h : B) : fEqS false (.d (.str y)) (.d (.str z)) (fun s => ∃ b, s.fz = .d (.bool b) ∧ (if b = true then A else B)) := ⟨false, by show Sl.d (.bool (decide (y = z))) = _; rw [decide_eq_false n], h⟩
theorem ix_at {xs : List PyData} {k : Nat} {d : PyData} (h : xs[k]? = some d) : atI xs (k : Int) = some d := by
  have hk := (List.getElem?_eq_some_iff.mp h).1
  unfold atI ixN
  rw [if_pos (by omega), if_pos (by omega)]
  exact h
theorem ix_0 {x : PyData} {xs : List PyData} : atI (x :: xs) 0 = some x := ix_at (k := 0) rfl
theorem ix_1 {x y : PyData} {xs : List PyData} : atI (x :: y :: xs) 1 = some y := ix_at (k := 1) rfl
theorem ix_2 {x y z : PyData} {xs : List PyData} : atI (x :: y :: z :: xs) 2 = some z := ix_at (k := 2) rfl
theorem s16 {n : Nat} (h : n ≤ 16777216) : n ≤ sizeLine := by rw [sizeLine_eq]; exact h
theorem cut_tail {x : PyData} {xs : List PyData} : Pu.cutD (x :: xs) (some 1) none = xs := by
  unfold Pu.cutD
  have e : HT.sIx (x :: xs).length 0 (some 1) = 1 := by
    show (if (1 : Int) < 0 then ((1 : Int) + ((x :: xs).length : Int)).toNat else min (1 : Int).toNat (x :: xs).length) = 1
    rw [if_neg (by decide), List.length_cons]
    show min 1 (xs.length + 1) = 1
    omega
  rw [e, HT.sIx_none, List.drop_one, List.tail_cons, List.length_cons, Nat.add_sub_cancel, List.take_length]
/-- a line that is no letter line -/
structure NoLt (l : Ln) : Prop where
  ne : l.word ≠ "letter"
  d : lnD l = .tuple (.str l.word :: l.mem.map fun (i : Nat) => .int i)
  sh : ∀ n : Nat, lnD (l.shift n) = .tuple (.str l.word :: l.mem.map fun (i : Nat) => .int ((i : Int) + n))
  sw : lnD l.swap = .tuple (.str (swapW l.word) :: l.mem.map fun (i : Nat) => .int i)
theorem ln_split (l : Ln) (h : l.W) : (∃ w, l = .lt w) ∨ NoLt l := by
  cases l with
  | lt w => exact .inl ⟨w, rfl⟩
  | yes => exact .inr ⟨by show ("yes" : Str) ≠ "letter"; decide +kernel, rfl, fun _ => rfl, by show _ = PyData.tuple (.str (swapW "yes") :: []); rw [show swapW "yes" = "yes" by decide +kernel]; rfl⟩
  | un i => exact .inr ⟨by show ("not" : Str) ≠ "letter"; decide +kernel, rfl, fun _ => rfl, by show _ = PyData.tuple (.str (swapW "not") :: _); rw [show swapW "not" = "not" by decide +kernel]; rfl⟩
  | bi o i j => exact .inr ⟨(opW h).1, rfl, fun _ => rfl, rfl⟩
theorem word_in (l : Ln) (h : l.W) : l.word ∈ wsK := by
  cases l with
  | lt w => show ("letter" : Str) ∈ wsK; decide +kernel
  | yes => show ("yes" : Str) ∈ wsK; decide +kernel
  | un i => show ("not" : Str) ∈ wsK; decide +kernel
  | bi o i j =>
    have h : o ∈ ops := h
    simp only [ops, List.mem_cons, List.not_mem_nil, or_false] at h
    show o ∈ wsK
    rcases h with rfl | rfl | rfl | rfl <;> decide +kernel
theorem mem_len (l : Ln) : l.mem.length ≤ 2 := by cases l <;> simp [Ln.mem]
theorem ints_map {l : List Nat} {f : Nat → Int} : (l.map fun i => PyData.int (f i)) = (l.map f).map PyData.int := by rw [List.map_map]; rfl
theorem inT_yes {z : Str} {zs : List Str} (i : z ∈ zs) {A B : Prop} (h : A) : fInQ false (.d (.str z)) (.d (.tuple (zs.map PyData.str))) (fun s => ∃ b, s.fz = .d (.bool b) ∧ (if b = true then A else B)) :=
  ⟨rfl, all_flat_strs, true, by show Sl.d (.bool ((zs.map PyData.str).any fun y => PyData.eqv y (.str z))) = _; rw [any_strs, decide_eq_true i], h⟩
theorem inT_no {z : Str} {zs : List Str} (i : ¬ z ∈ zs) {A B : Prop} (h : B) : fInQ false (.d (.str z)) (.d (.tuple (zs.map PyData.str))) (fun s => ∃ b, s.fz = .d (.bool b) ∧ (if b = true then A else B)) :=
  ⟨rfl, all_flat_strs, false, by show Sl.d (.bool ((zs.map PyData.str).any fun y => PyData.eqv y (.str z))) = _; rw [any_strs, decide_eq_false i], h⟩
theorem map_d (s : List Ln) {f : PyData → PyData} {g : Ln → Ln} (h : ∀ l ∈ s, f (lnD l) = lnD (g l)) : (s.map lnD).map f = (s.map g).map lnD := by
  rw [List.map_map, List.map_map]
  exact List.map_congr_left h
theorem lc_mapGo {α : Type} (enc f : α → PyData) {g : DTG} {te : DTE} {env : EV} {Q : List PyData → Prop} : ∀ (l : List α) (acc : List PyData), (∀ x ∈ l, ∀ k : DK, (∀ s, s.fz = .d (f x) → k s) → g (.d (enc x)) env fun env1 => te env1 k) →
    Q (acc ++ l.map f) → dLcGo g dYes te env (l.map enc) acc Q
  | [], acc, _, q => by rw [List.map_nil, List.append_nil] at q; exact q
  | x :: l, acc, h, q => by
    show g (.d (enc x)) env fun env1 => te env1 fun s => ∃ y, s.fz = .d y ∧ dLcGo g dYes te env (l.map enc) (acc ++ [y]) Q
    refine h x List.mem_cons_self _ fun s e => ⟨f x, e, ?_⟩
    refine lc_mapGo enc f l _ (fun y hy => h y (List.mem_cons_of_mem _ hy)) ?_
    rw [List.append_assoc]
    exact q
theorem lc_mapT {α : Type} (enc f : α → PyData) {l : List α} {g : DTG} {te : DTE} {env : EV} {Q : List PyData → Prop} (h : ∀ x ∈ l, ∀ k : DK, (∀ s, s.fz = .d (f x) → k s) → g (.d (enc x)) env fun env1 => te env1 k)
    (q : Q (l.map f)) : dLcGo g dYes te env (l.map enc) [] Q := lc_mapGo enc f l [] h (by rw [List.nil_append]; exact q)
theorem loop_byT {α : Type} (enc : α → PyData) {l : List α} {g : DTG} {body : DTS} {E : DEnds} {env : EV} (I : Nat → EV → Prop) (h0 : I 0 env)
    (step : ∀ j x env, l[j]? = some x → I j env → ∀ nx : EV → Prop, (∀ env', I (j + 1) env' → nx env') → g (.d (enc x)) env fun env1 => body { nx := nx, ct := nx, bk := E.nx, rt := E.rt } env1) (fin : ∀ env, I l.length env → E.nx env) : dLoop g body E (l.map enc) env := by
  refine loop_by I h0 (fun j y env hy hI nx hn => ?_) (by rw [List.length_map]; exact fin)
  rw [List.getElem?_map] at hy
  obtain ⟨x, hx, rfl⟩ := Option.map_eq_some_iff.mp hy
  exact step j x env hx hI nx hn
theorem tb_eq (z : Str) : orSl (tbOpp z) (Sl.d (.str z)).fz = .d (.str (swapW z)) := by
  unfold tbOpp swapW
  split
  · rfl
  · split <;> rfl
theorem take_snoc {α β : Type} {l : List α} {j : Nat} {x : α} (h : l[j]? = some x) (f : α → β) : (l.take j).map f ++ [f x] = (l.take (j + 1)).map f := by
  rw [List.take_add_one, h, List.map_append]; rfl
theorem sl16 {n : Nat} (h : n < 16777216) : n < sizeLine := by rw [sizeLine_eq]; exact h
theorem swap_no {w : Str} (h : ¬ w ∈ (["until", "since"] : List Str)) : swapW w = w := by
  simp only [List.mem_cons, List.not_mem_nil, or_false, not_or] at h
  unfold swapW
  rw [if_neg h.1, if_neg h.2]
theorem slT_pass {xs : List PyData} {lo hi : Option Int} {Q : DK} (h : Q (.d (.tuple (Pu.cutD xs lo hi)))) : fSlT (.d (.tuple xs)) lo hi Q := h
theorem lf_ln (l : Ln) : lfD (lnD l) = true := by cases l <;> rfl
theorem lf_sheet (s : List Ln) : lfAll (s.map lnD) = true := lfAll_iff.mpr fun x hx => by
  obtain ⟨l, _, rfl⟩ := List.mem_map.mp hx
  exact lf_ln l
theorem lf_sheetD (s : List Ln) : lfD (sheetD s) = true := by show lfAll _ = true; exact lf_sheet s
def lnR : Ln → List PyData
  | .lt w => [.str w]
  | .yes => []
  | .un i => [.int (i : Nat)]
  | .bi _ i j => [.int (i : Nat), .int (j : Nat)]
theorem ln_d (l : Ln) : lnD l = .tuple (.str l.word :: lnR l) := by cases l <;> rfl
theorem ln_sw (l : Ln) : lnD l.swap = .tuple (.str (swapW l.word) :: lnR l) := by
  cases l with
  | lt w => show _ = PyData.tuple (.str (swapW "letter") :: _); rw [show swapW "letter" = "letter" by decide +kernel]; rfl
  | yes => show _ = PyData.tuple (.str (swapW "yes") :: _); rw [show swapW "yes" = "yes" by decide +kernel]; rfl
  | un i => show _ = PyData.tuple (.str (swapW "not") :: _); rw [show swapW "not" = "not" by decide +kernel]; rfl
  | bi o i j => rfl
theorem lnR_len (l : Ln) : (lnR l).length ≤ 2 := by cases l <;> simp [lnR]
theorem scan_snoc : ∀ (xs : List (Bool × Bool)) (x : Bool × Bool) (g : Bool), scanG (xs ++ [x]) g = scanG xs g ++ [goOn xs g]
  | [], _, _ => rfl
  | y :: xs, x, g => by
    show g :: scanG (xs ++ [x]) _ = g :: (scanG xs _ ++ [_])
    rw [scan_snoc xs x]
    rfl
theorem goOn_snoc (xs : List (Bool × Bool)) (x : Bool × Bool) (g : Bool) : goOn (xs ++ [x]) g = (x.1 || (x.2 && goOn xs g)) := by
  unfold goOn
  rw [List.foldl_append]; rfl
theorem zip_back {hs ws : List Bool} (hl : hs.length = ws.length) {j : Nat} (hj : j < hs.length) : ∃ h w, (hs.zip ws).reverse[j]? = some (h, w) ∧ hs[hs.length - 1 - j]? = some h ∧ ws[hs.length - 1 - j]? = some w := by
  have h1 : hs.length - 1 - j < hs.length := by omega
  have h2 : hs.length - 1 - j < ws.length := by omega
  refine ⟨hs[hs.length - 1 - j], ws[hs.length - 1 - j], ?_, List.getElem?_eq_getElem h1, List.getElem?_eq_getElem h2⟩
  have lz : (hs.zip ws).length = hs.length := by rw [List.length_zip, ← hl, Nat.min_self]
  rw [List.getElem?_reverse (by rw [lz]; exact hj), lz]
  rw [List.getElem?_eq_getElem (by rw [lz]; exact h1), List.getElem_zip]
theorem bools_ix {bs : List Bool} {i : Nat} {b : Bool} {k : Int} (h : bs[i]? = some b) (e : k = i) : atI (bs.map PyData.bool) k = some (.bool b) := by
  subst e
  exact ix_at (by rw [List.getElem?_map, h]; rfl)
theorem flat_bools (bs : List Bool) : (bs.map PyData.bool).all flatD = true := by
  rw [List.all_eq_true]
  intro x hx
  obtain ⟨b, _, rfl⟩ := List.mem_map.mp hx
  rfl
/-- h or (w and g) -/
theorem or_and {hs ws g : DTE} {env : EV} {Q : DK} {h w b : Bool} (h1 : ∀ Q : DK, Q (.d (.bool h)) → hs env Q) (h2 : ∀ Q : DK, Q (.d (.bool w)) → ws env Q) (h3 : ∀ Q : DK, Q (.d (.bool b)) → g env Q) (q : Q (.d (.bool (h || (w && b))))) : dOrV hs (dAndV ws g) env Q := by
  refine h1 _ ⟨h, rfl, ?_⟩
  cases h with
  | true => exact q
  | false =>
    refine h2 _ ⟨w, rfl, ?_⟩
    cases w with
    | true => exact h3 _ q
    | false => exact q
theorem foldl_max : ∀ (xs : List Int) (a : Int), a ≤ xs.foldl (fun a b => if b > a then b else a) a ∧ (∀ x ∈ xs, x ≤ xs.foldl (fun a b => if b > a then b else a) a) ∧ (xs.foldl (fun a b => if b > a then b else a) a = a ∨ xs.foldl (fun a b => if b > a then b else a) a ∈ xs)
  | [], a => ⟨Int.le_refl _, fun _ h => (by cases h), .inl rfl⟩
  | x :: xs, a => by
    have e : (x :: xs).foldl (fun a b => if b > a then b else a) a = xs.foldl (fun a b => if b > a then b else a) (if x > a then x else a) := rfl
    rw [e]
    by_cases c : x > a
    · rw [if_pos c]
      obtain ⟨h1, h2, h3⟩ := foldl_max xs x
      refine ⟨by omega, fun y hy => ?_, ?_⟩
      · rcases List.mem_cons.mp hy with rfl | hy
        · omega
        · exact h2 y hy
      · rcases h3 with h3 | h3
        · rw [h3]; exact .inr List.mem_cons_self
        · exact .inr (List.mem_cons_of_mem _ h3)
    · rw [if_neg c]
      obtain ⟨h1, h2, h3⟩ := foldl_max xs a
      refine ⟨h1, fun y hy => ?_, ?_⟩
      · rcases List.mem_cons.mp hy with rfl | hy
        · omega
        · exact h2 y hy
      · rcases h3 with h3 | h3
        · exact .inl h3
        · exact .inr (List.mem_cons_of_mem _ h3)
theorem maxI_spec {xs : List Int} (h0 : ∀ x ∈ xs, 0 ≤ x) {m : Int} (hm : m ∈ xs) (hx : ∀ y ∈ xs, y ≤ m) : m = maxI xs := by
  obtain ⟨h1, h2, h3⟩ := foldl_max xs 0
  have a := h2 m hm
  have b := h0 m hm
  unfold maxI
  rcases h3 with h3 | h3
  · omega
  · have := hx _ h3; omega
theorem maxI_le {xs : List Int} {b : Int} (hb : 0 ≤ b) (h : ∀ x ∈ xs, x ≤ b) : 0 ≤ maxI xs ∧ maxI xs ≤ b := by
  obtain ⟨h1, h2, h3⟩ := foldl_max xs 0
  unfold maxI
  refine ⟨h1, ?_⟩
  rcases h3 with h3 | h3
  · omega
  · exact h _ h3
theorem set_or_and {hs ws g : DTE} {i : Nat} {E : DEnds} {env : EV} {h w b : Bool} (h1 : ∀ Q : DK, Q (.d (.bool h)) → hs env Q) (h2 : ∀ Q : DK, Q (.d (.bool w)) → ws env Q) (h3 : ∀ Q : DK, Q (.d (.bool b)) → g env Q) (q : E.nx (env.set i (some (.d (.bool (h || (w && b))))))) : dSet (dOrV hs (dAndV ws g)) i E env :=
  or_and (Q := fun s => E.nx (env.set i (some s))) h1 h2 h3 q
/-- the nests so far are small -/
def NAcc (acc : List Int) : Prop := ∀ x ∈ acc, 0 ≤ x ∧ x ≤ acc.length
theorem getD_acc {acc : List Int} (h : NAcc acc) (k : Nat) : 0 ≤ acc.getD k 0 ∧ acc.getD k 0 ≤ acc.length := by
  rw [List.getD_eq_getElem?_getD]
  cases e : acc[k]? with
  | none => exact ⟨Int.le_refl _, by show (0 : Int) ≤ _; omega⟩
  | some x => exact h x (List.mem_of_getElem? e)
theorem nestOf_b {w : Str} {acc : List Int} {l : Ln} (h : NAcc acc) : 0 ≤ nestOf w acc l ∧ nestOf w acc l ≤ acc.length + 1 := by
  have := maxI_le (xs := 0 :: l.mem.map fun k => acc.getD k 0) (b := acc.length) (by omega) fun x hx => by
    rcases List.mem_cons.mp hx with rfl | hx
    · omega
    · obtain ⟨k, _, rfl⟩ := List.mem_map.mp hx
      exact (getD_acc h k).2
  unfold nestOf
  split <;> omega
theorem NAcc.snoc {w : Str} {acc : List Int} {l : Ln} (h : NAcc acc) : NAcc (acc ++ [nestOf w acc l]) := fun x hx => by
  rw [List.length_append, List.length_singleton]
  rcases List.mem_append.mp hx with hx | hx
  · have := h x hx; omega
  · rw [List.mem_singleton.mp hx]
    have := nestOf_b (w := w) (l := l) h; omega
theorem nestGo_ok (w : Str) : ∀ (s : List Ln) (acc : List Int), NAcc acc → NAcc (nestGo w s acc) ∧ (nestGo w s acc).length = acc.length + s.length
  | [], acc, h => ⟨h, rfl⟩
  | l :: s, acc, h => by
    obtain ⟨h1, h2⟩ := nestGo_ok w s _ (h.snoc (w := w) (l := l))
    refine ⟨h1, ?_⟩
    show (nestGo w s (acc ++ [nestOf w acc l])).length = _
    rw [h2, List.length_append, List.length_singleton, List.length_cons]; omega
theorem nestGo_snoc (w : Str) (l : Ln) : ∀ (s : List Ln) (acc : List Int), nestGo w (s ++ [l]) acc = nestGo w s acc ++ [nestOf w (nestGo w s acc) l]
  | [], _ => rfl
  | x :: s, acc => nestGo_snoc w l s _
theorem nests_b (w : Str) (s : List Ln) : 0 ≤ mNests w s ∧ mNests w s ≤ s.length := by
  obtain ⟨h1, h2⟩ := nestGo_ok w s [] (fun x hx => by cases hx)
  rw [List.length_nil, Nat.zero_add] at h2
  exact maxI_le (by omega) fun x hx => by rw [← h2]; exact (h1 x hx).2
theorem word_d (l : Ln) : atI (.str l.word :: lnR l) 0 = some (.str l.word) := ix_0
theorem tab_get (t : Tab) (r : Row) : getS [((PyData.str "start" : PyData), PyData.int t.start), (.str "end", .int t.stop), (.str "found", .list (t.found.map boolsD)), (.str "row", rowD r)] "start" = some (.int t.start)
    ∧ getS [((PyData.str "start" : PyData), PyData.int t.start), (.str "end", .int t.stop), (.str "found", .list (t.found.map boolsD)), (.str "row", rowD r)] "end" = some (.int t.stop)
    ∧ getS [((PyData.str "start" : PyData), PyData.int t.start), (.str "end", .int t.stop), (.str "found", .list (t.found.map boolsD)), (.str "row", rowD r)] "found" = some (.list (t.found.map boolsD))
    ∧ getS [((PyData.str "start" : PyData), PyData.int t.start), (.str "end", .int t.stop), (.str "found", .list (t.found.map boolsD)), (.str "row", rowD r)] "row" = some (rowD r) := ⟨rfl, rfl, rfl, rfl⟩
theorem truths_end {t : Tab} {r : Row} {b : Int} {v3 v4 v5 : Option Sl} {Q : DK} (h0 : 0 ≤ b - t.start) (h1 : b < t.stop) (hb : ∀ x ∈ t.found, x.length = (t.stop - t.start).toNat) (hf : t.found.length ≤ 100000)
    (q : Q (.own (t.found.map fun x => .bool (x.getD (b - t.start).toNat false)))) : dLc (dList (dOp fDIx (dVar 0) (dC (.str "found")))) (dgName 5) dYes (dOp fIx (dVar 5) (dOp fSub (dVar 1) (dVar 2))) [5] [some (.d (tabD t r)), some (.d (.int b)), some (.d (.int t.start)), v3, v4, v5] Q := by
  refine ⟨_, (tab_get t r).2.2.1, _, rfl, by rw [List.length_map]; exact s16 (by omega), ?_⟩
  refine lc_mapT boolsD (fun x => .bool (x.getD (b - t.start).toNat false)) (fun x hx k hk => ⟨.bool (x.getD (b - t.start).toNat false), ?_, hk _ rfl⟩) q
  have hl := hb x hx
  refine bools_ix (i := (b - t.start).toNat) ?_ (by omega)
  rw [List.getD_eq_getElem?_getD, List.getElem?_eq_getElem (by rw [hl]; omega)]
  rfl
/-- the lists so far are as long as they should be -/
def TAcc (n : Nat) (acc : List (List Bool)) : Prop := ∀ b ∈ acc, b.length = n
theorem scan_len : ∀ (xs : List (Bool × Bool)) (g : Bool), (scanG xs g).length = xs.length
  | [], _ => rfl
  | x :: xs, g => by show (scanG xs _).length + 1 = _; rw [scan_len]; rfl
theorem going_len {hs ws : List Bool} {n : Nat} (h : hs.length = ws.length) : (mGoing hs ws n).length = hs.length := by
  unfold mGoing
  rw [List.length_reverse, scan_len, List.length_reverse, List.length_zip, ← h, Nat.min_self]
theorem getD_len {n : Nat} {acc : List (List Bool)} (h : TAcc n acc) {i : Nat} (hi : i < acc.length) : (acc.getD i []).length = n ∧ acc[i]? = some (acc.getD i []) := by
  have e : acc[i]? = some (acc.getD i []) := by rw [List.getD_eq_getElem?_getD, List.getElem?_eq_getElem hi]; rfl
  exact ⟨h _ (List.mem_of_getElem? e), e⟩
theorem tabOf_len {lots : List (List Str)} {nl nr : Nat} {acc : List (List Bool)} {l : Ln} (h : TAcc lots.length acc) (hl : ∀ i ∈ l.mem, i < acc.length) : (tabOf lots nl nr acc l).length = lots.length := by
  cases l with
  | lt w => exact List.length_map _
  | yes => exact List.length_map _
  | un i => show ((acc.getD i []).map _).length = _; rw [List.length_map]; exact (getD_len h (hl i (by simp [Ln.mem]))).1
  | bi o i j =>
    have h1 := (getD_len h (hl i (by simp [Ln.mem]))).1
    have h2 := (getD_len h (hl j (by simp [Ln.mem]))).1
    simp only [tabOf]
    split
    · rw [List.length_map, List.length_zip, h1, h2, Nat.min_self]
    · split
      · rw [List.length_map, List.length_zip, h1, h2, Nat.min_self]
      · split
        · rw [going_len (h1.trans h2.symm), h1]
        · rw [List.length_reverse, going_len (by rw [List.length_reverse, List.length_reverse, h1, h2]), List.length_reverse, h1]
theorem TAcc.snoc {n : Nat} {acc : List (List Bool)} {b : List Bool} (h : TAcc n acc) (hb : b.length = n) : TAcc n (acc ++ [b]) := fun x hx => by
  rcases List.mem_append.mp hx with hx | hx
  · exact h x hx
  · rw [List.mem_singleton.mp hx]; exact hb
theorem tabGo_ok (lots : List (List Str)) (nl nr : Nat) : ∀ (s : List Ln) (acc : List (List Bool)), TAcc lots.length acc → (∀ (k : Nat) (l : Ln), s[k]? = some l → ∀ i ∈ l.mem, i < acc.length + k) → TAcc lots.length (tabGo lots nl nr s acc) ∧ (tabGo lots nl nr s acc).length = acc.length + s.length
  | [], acc, h, _ => ⟨h, rfl⟩
  | l :: s, acc, h, hl => by
    have h1 := tabOf_len (nl := nl) (nr := nr) h (fun i hi => by simpa using hl 0 l rfl i hi)
    obtain ⟨a, b⟩ := tabGo_ok lots nl nr s _ (h.snoc h1) (fun k m hk i hi => by
      have := hl (k + 1) m hk i hi
      rw [List.length_append, List.length_singleton]; omega)
    refine ⟨a, ?_⟩
    show (tabGo lots nl nr s (acc ++ [tabOf lots nl nr acc l])).length = _
    rw [b, List.length_append, List.length_singleton, List.length_cons]; omega
theorem tabGo_snoc (lots : List (List Str)) (nl nr : Nat) (l : Ln) : ∀ (s : List Ln) (acc : List (List Bool)), tabGo lots nl nr (s ++ [l]) acc = tabGo lots nl nr s acc ++ [tabOf lots nl nr (tabGo lots nl nr s acc) l]
  | [], _ => rfl
  | x :: s, acc => tabGo_snoc lots nl nr l s _
theorem SOk.nums {s : List Ln} (ok : SOk s) (j : Nat) : ∀ (k : Nat) (l : Ln), (s.take j)[k]? = some l → ∀ i ∈ l.mem, i < ([] : List (List Bool)).length + k := fun k l h i hi => by
  rw [List.getElem?_take] at h
  split at h
  · have := (ok.ok k l h).2.1 i hi
    simpa using this
  · cases h
theorem zipD_bools : ∀ (xs ys : List Bool), zipD (xs.map PyData.bool) (ys.map PyData.bool) = (xs.zip ys).map fun p => PyData.tuple [.bool p.1, .bool p.2]
  | [], _ => by simp [zipD]
  | _ :: _, [] => by simp [zipD]
  | x :: xs, y :: ys => by
    rw [List.map_cons, List.map_cons, List.zip_cons_cons, List.map_cons]
    show _ :: zipD _ _ = _
    rw [zipD_bools xs ys]
theorem rng0 (n : Nat) : rngD 0 n = (List.range n).map fun (i : Nat) => PyData.int i := by
  unfold rngD
  exact List.map_congr_left fun i _ => by rw [Int.zero_add]
theorem perm_pair {α : Type} {x y : α} {ys : List α} (p : ys.Perm [x, y]) : ys = [x, y] ∨ ys = [y, x] := by
  have hl := p.length_eq
  match ys, hl with
  | [a, b], _ =>
    have ha : a ∈ [x, y] := p.mem_iff.mp List.mem_cons_self
    simp only [List.mem_cons, List.not_mem_nil, or_false] at ha
    rcases ha with rfl | rfl
    · have := (List.perm_cons a).mp p
      rw [List.perm_singleton] at this
      injection this with e
      exact .inl (by rw [e])
    · have p2 : [a, b].Perm [a, x] := p.trans (List.Perm.swap _ _ _)
      have := (List.perm_cons a).mp p2
      rw [List.perm_singleton] at this
      injection this with e
      exact .inr (by rw [e])
/-- a line more -/
theorem ok_snoc {s : List Ln} {l : Ln} {j : Nat} (sl : s.length = j) (sok : ∀ (k : Nat) (l : Ln), s[k]? = some l → l.Ok k) (h : l.Ok j) : (s ++ [l]).length = j + 1 ∧ ∀ (k : Nat) (m : Ln), (s ++ [l])[k]? = some m → m.Ok k := by
  refine ⟨by rw [List.length_append, sl]; rfl, fun k m hk => ?_⟩
  rw [List.getElem?_append] at hk
  split at hk
  · exact sok k m hk
  · rename_i c
    have hlt := (List.getElem?_eq_some_iff.mp hk).1
    rw [List.length_singleton] at hlt
    have e : k = j := by omega
    subst e
    rw [show k - s.length = 0 by omega] at hk
    cases hk
    exact h
theorem Ln.Ok.mono {j k : Nat} {l : Ln} (h : l.Ok j) (hjk : j ≤ k) : l.Ok k := ⟨h.1, fun i hi => Nat.lt_of_lt_of_le (h.2.1 i hi) hjk, h.2.2⟩
theorem if_iff {c : DTT} {x y : DTS} {E : DEnds} {env : EV} (p q : Prop) (hc : ∀ Q : Bool → Prop, (p → Q true) → (q → Q false) → c env Q) (hx : p → x E env) (hy : q → y E env) : dIf c x y E env := hc _ hx hy
theorem perm_two {a b : Nat} {zs : List PyData} (p : zs.Perm [.int a, .int b]) : ∃ c d : Nat, zs = [.int c, .int d] ∧ (c = a ∨ c = b) ∧ (d = a ∨ d = b) := by
  rcases perm_pair p with rfl | rfl
  · exact ⟨a, b, rfl, .inl rfl, .inr rfl⟩
  · exact ⟨b, a, rfl, .inr rfl, .inl rfl⟩
theorem neQ_yes {z : Str} {Q : DK} (h : Q (.d (.bool false))) : fEqS true (.d (.str z)) (.d (.str z)) Q := by
  show Q (.d (.bool (!decide (z = z))))
  rw [decide_eq_true rfl]; exact h
theorem neQ_no {y z : Str} (n : y ≠ z) {Q : DK} (h : Q (.d (.bool true))) : fEqS true (.d (.str y)) (.d (.str z)) Q := by
  show Q (.d (.bool (!decide (y = z))))
  rw [decide_eq_false n]; exact h
theorem cut_one {x y : PyData} : Pu.cutD [x, y] none (some (1 + (if false = true then 1 else 0))) = [x] := rfl
theorem cut_two {x y : PyData} : Pu.cutD [x, y] none (some (1 + (if true = true then 1 else 0))) = [x, y] := rfl
theorem dVar_pass {i : Nat} {env : EV} {x : PyData} {Q : DK} (h : env[i]? = some (some (.d x))) (q : Q (.d x)) : dVar i env Q := by
  unfold dVar
  rw [h]
  exact q
theorem if_iffS {c : DTT} {x y z : DTS} {E : DEnds} {env : EV} (p q : Prop) (hc : ∀ Q : Bool → Prop, (p → Q true) → (q → Q false) → c env Q) (hx : p → x { E with nx := z E } env) (hy : q → y { E with nx := z E } env) : dSeq (dIf c x y) z E env := hc _ hx hy

end Law

end

section
set_option maxHeartbeats 2000000
namespace Law
open PySem L2 PyProof.Rows RZ Pu
/-! ### the mirror of a row, of tables -/
def Row.mir (r : Row) : Row := ⟨1 - (r.first + r.mid.length), r.right.reverse, r.mid.reverse, r.left.reverse⟩
theorem back_mod (y n : Int) (h : 0 < n) : (-1 - y) % n = n - 1 - y % n := by
  have h1 := Int.emod_nonneg y (show n ≠ 0 by omega)
  have h2 := Int.emod_lt_of_pos y h
  have h3 := Int.emod_add_mul_ediv y n
  have e : -1 - y = (n - 1 - y % n) + n * (-(y / n) - 1) := by
    rw [Int.mul_sub, Int.mul_neg, Int.mul_one]
    omega
  rw [e, Int.add_mul_emod_self_left]
  exact Int.emod_eq_of_lt (by omega) (by omega)
theorem rev_getD {α : Type} (l : List α) (d : α) {i : Nat} (h : i < l.length) : l.reverse.getD i d = l.getD (l.length - 1 - i) d := by
  rw [List.getD_eq_getElem?_getD, List.getD_eq_getElem?_getD, List.getElem?_reverse h]
theorem lotAt_mir (r : Row) (l1 : 1 ≤ r.left.length) (r1 : 1 ≤ r.right.length) (n : Int) : lotAt r.mir (-n) = lotAt r n := by
  have hf : r.mir.first = 1 - (r.first + r.mid.length) := rfl
  have hl : r.mir.left = r.right.reverse := rfl
  have hm : r.mir.mid = r.mid.reverse := rfl
  have hr : r.mir.right = r.left.reverse := rfl
  unfold lotAt
  rw [hf, hl, hm, hr, List.length_reverse, List.length_reverse, List.length_reverse]
  by_cases c1 : n - r.first < 0
  · rw [if_neg (by omega), if_neg (by omega), if_pos c1]
    have e : -n - (1 - (r.first + r.mid.length)) - r.mid.length = -1 - (n - r.first) := by omega
    rw [e]
    have m1 := Int.emod_nonneg (n - r.first) (show (r.left.length : Int) ≠ 0 by omega)
    have m2 := Int.emod_lt_of_pos (n - r.first) (show 0 < (r.left.length : Int) by omega)
    rw [back_mod _ _ (by omega), rev_getD _ _ (by omega)]
    congr 1
    omega
  · rw [if_neg c1]
    by_cases c2 : n - r.first < r.mid.length
    · rw [if_neg (by omega), if_pos (by omega), if_pos c2, rev_getD _ _ (by omega)]
      congr 1
      omega
    · rw [if_pos (by omega), if_neg c2]
      have e : -n - (1 - (r.first + r.mid.length)) = -1 - (n - r.first - r.mid.length) := by omega
      rw [e]
      have m1 := Int.emod_nonneg (n - r.first - r.mid.length) (show (r.right.length : Int) ≠ 0 by omega)
      have m2 := Int.emod_lt_of_pos (n - r.first - r.mid.length) (show 0 < (r.right.length : Int) by omega)
      rw [back_mod _ _ (by omega), rev_getD _ _ (by omega)]
      congr 1
      omega
theorem range_mir {α : Type} (lo hi : Int) (f g : Int → α) (h : ∀ n, g (-n) = f n) : (rangeI (1 - hi) (1 - lo)).map g = ((rangeI lo hi).map f).reverse := by
  unfold rangeI
  have e : (1 - lo - (1 - hi)).toNat = (hi - lo).toNat := by omega
  rw [e]
  apply List.ext_getElem
  · simp
  · intro i h1 h2
    simp only [List.length_map, List.length_range] at h1
    rw [List.getElem_reverse]
    simp only [List.getElem_map, List.getElem_range, List.length_map, List.length_range]
    rw [← h]
    congr 1
    omega
theorem zip_rev {α β : Type} : ∀ {xs : List α} {ys : List β}, xs.length = ys.length → xs.reverse.zip ys.reverse = (xs.zip ys).reverse
  | [], [], _ => rfl
  | x :: xs, y :: ys, h => by
    have h' : xs.length = ys.length := by simpa using h
    rw [List.reverse_cons, List.reverse_cons, List.zip_cons_cons, List.reverse_cons, List.zip_append (by simp [h']), zip_rev h']
    rfl
  | [], _ :: _, h => by cases h
  | _ :: _, [], h => by cases h
theorem getD_map_rev (acc : List (List Bool)) (i : Nat) : (acc.map List.reverse).getD i [] = (acc.getD i []).reverse := by
  rw [List.getD_eq_getElem?_getD, List.getD_eq_getElem?_getD, List.getElem?_map]
  cases acc[i]? <;> rfl
theorem swap_mem (l : Ln) : l.swap.mem = l.mem := by cases l <;> rfl
theorem tabOf_mir {lots : List (List Str)} {nl nr : Nat} {acc : List (List Bool)} {l : Ln} (h : TAcc lots.length acc) (hl : ∀ i ∈ l.mem, i < acc.length) (hW : l.W) : tabOf lots.reverse nr nl (acc.map List.reverse) l.swap = (tabOf lots nl nr acc l).reverse := by
  cases l with
  | lt w => exact List.map_reverse
  | yes => exact List.map_reverse
  | un i => show ((acc.map List.reverse).getD i []).map _ = _; rw [getD_map_rev, List.map_reverse]; rfl
  | bi o i j =>
    have h1 := (getD_len h (hl i (by simp [Ln.mem]))).1
    have h2 := (getD_len h (hl j (by simp [Ln.mem]))).1
    have z := zip_rev (h1.trans h2.symm)
    have hW : o ∈ ops := hW
    simp only [ops, List.mem_cons, List.not_mem_nil, or_false] at hW
    show tabOf _ _ _ _ (.bi (swapW o) i j) = _
    rcases hW with rfl | rfl | rfl | rfl
    · rw [show swapW "and" = "and" by decide +kernel]
      simp only [tabOf, if_pos, getD_map_rev]
      rw [z, List.map_reverse]
    · rw [show swapW "or" = "or" by decide +kernel]
      simp only [tabOf]
      rw [if_neg (by decide +kernel), if_pos trivial, if_neg (by decide +kernel), if_pos trivial, getD_map_rev, getD_map_rev, z, List.map_reverse]
    · rw [show swapW "until" = "since" by decide +kernel]
      simp only [tabOf]
      rw [if_neg (by decide +kernel), if_neg (by decide +kernel), if_neg (by decide +kernel), if_neg (by decide +kernel), if_neg (by decide +kernel), if_pos trivial, getD_map_rev, getD_map_rev, List.reverse_reverse, List.reverse_reverse]
    · rw [show swapW "since" = "until" by decide +kernel]
      simp only [tabOf]
      rw [if_neg (by decide +kernel), if_neg (by decide +kernel), if_pos trivial, if_neg (by decide +kernel), if_neg (by decide +kernel), if_neg (by decide +kernel), getD_map_rev, getD_map_rev, List.reverse_reverse]
theorem tabGo_mir (lots : List (List Str)) (nl nr : Nat) : ∀ (s : List Ln) (acc : List (List Bool)), TAcc lots.length acc → (∀ (k : Nat) (l : Ln), s[k]? = some l → l.W ∧ ∀ i ∈ l.mem, i < acc.length + k) → tabGo lots.reverse nr nl (s.map Ln.swap) (acc.map List.reverse) = (tabGo lots nl nr s acc).map List.reverse
  | [], acc, _, _ => rfl
  | l :: s, acc, h, hl => by
    have h0 := hl 0 l rfl
    have h1 := tabOf_len (nl := nl) (nr := nr) h (fun i hi => by simpa using h0.2 i hi)
    have e := tabOf_mir (nl := nl) (nr := nr) h (fun i hi => by simpa using h0.2 i hi) h0.1
    show tabGo lots.reverse nr nl (s.map Ln.swap) (acc.map List.reverse ++ [tabOf lots.reverse nr nl (acc.map List.reverse) l.swap]) = (tabGo lots nl nr s (acc ++ [tabOf lots nl nr acc l])).map List.reverse
    rw [e]
    have := tabGo_mir lots nl nr s (acc ++ [tabOf lots nl nr acc l]) (h.snoc h1) (fun k m hk => by
      have := hl (k + 1) m hk
      refine ⟨this.1, fun i hi => ?_⟩
      have := this.2 i hi
      rw [List.length_append, List.length_singleton]; omega)
    rw [List.map_append] at this
    exact this
theorem swap_word (l : Ln) (hW : l.W) : (l.swap.word = "until" ↔ l.word = "since") ∧ (l.swap.word = "since" ↔ l.word = "until") := by
  cases l with
  | lt w => show ((("letter" : Str) = "until" ↔ ("letter" : Str) = "since") ∧ (("letter" : Str) = "since" ↔ ("letter" : Str) = "until")); decide +kernel
  | yes => show ((("yes" : Str) = "until" ↔ ("yes" : Str) = "since") ∧ (("yes" : Str) = "since" ↔ ("yes" : Str) = "until")); decide +kernel
  | un i => show ((("not" : Str) = "until" ↔ ("not" : Str) = "since") ∧ (("not" : Str) = "since" ↔ ("not" : Str) = "until")); decide +kernel
  | bi o i j =>
    have hW : o ∈ ops := hW
    simp only [ops, List.mem_cons, List.not_mem_nil, or_false] at hW
    show ((swapW o = "until" ↔ o = "since") ∧ (swapW o = "since" ↔ o = "until"))
    rcases hW with rfl | rfl | rfl | rfl <;> decide +kernel
theorem nestGo_swap {u v : Str} (huv : ∀ l : Ln, l.W → (l.swap.word = u ↔ l.word = v)) : ∀ (s : List Ln) (acc : List Int), (∀ l ∈ s, l.W) → nestGo u (s.map Ln.swap) acc = nestGo v s acc
  | [], _, _ => rfl
  | l :: s, acc, h => by
    have e : nestOf u acc l.swap = nestOf v acc l := by
      unfold nestOf
      rw [swap_mem]
      have := huv l (h l List.mem_cons_self)
      by_cases c : l.word = v
      · rw [if_pos c, if_pos (this.mpr c)]
      · rw [if_neg c, if_neg (fun z => c (this.mp z))]
    show nestGo u (s.map Ln.swap) (acc ++ [nestOf u acc l.swap]) = nestGo v s (acc ++ [nestOf v acc l])
    rw [e]
    exact nestGo_swap huv s _ fun m hm => h m (List.mem_cons_of_mem _ hm)
theorem nests_swap (s : List Ln) (h : ∀ l ∈ s, l.W) : mNests "until" (s.map Ln.swap) = mNests "since" s ∧ mNests "since" (s.map Ln.swap) = mNests "until" s := by
  unfold mNests
  exact ⟨by rw [nestGo_swap (fun l hl => (swap_word l hl).1) s [] h], by rw [nestGo_swap (fun l hl => (swap_word l hl).2) s [] h]⟩
theorem SOk.W {s : List Ln} (ok : SOk s) : ∀ l ∈ s, l.W := fun l hl => by
  obtain ⟨k, hk⟩ := List.getElem?_of_mem hl
  exact (ok.ok k l hk).1
theorem mTab_mir {s : List Ln} {r : Row} (ok : SOk s) (l1 : 1 ≤ r.left.length) (r1 : 1 ≤ r.right.length) :
    mTab (s.map Ln.swap) r.mir = ⟨1 - tStop s r, 1 - tStart s r, (mTab s r).found.map List.reverse⟩ := by
  have hf : r.mir.first = 1 - (r.first + r.mid.length) := rfl
  have hl : r.mir.left = r.right.reverse := rfl
  have hm : r.mir.mid = r.mid.reverse := rfl
  have hr : r.mir.right = r.left.reverse := rfl
  obtain ⟨n1, n2⟩ := nests_swap s ok.W
  have e1 : tStart (s.map Ln.swap) r.mir = 1 - tStop s r := by
    unfold tStart tStop
    rw [n1, hf, hl, List.length_reverse]; omega
  have e2 : tStop (s.map Ln.swap) r.mir = 1 - tStart s r := by
    unfold tStart tStop
    rw [n2, hf, hm, hr, List.length_reverse, List.length_reverse]; omega
  unfold mTab
  rw [e1, e2, hl, hr, List.length_reverse, List.length_reverse, range_mir _ _ (lotAt r) (lotAt r.mir) (lotAt_mir r l1 r1)]
  congr 1
  exact tabGo_mir _ _ _ s [] (fun b hb => by cases hb) fun k l hk => ⟨(ok.ok k l hk).1, fun i hi => by simpa using (ok.ok k l hk).2.1 i hi⟩
theorem mod_lt' (x : Int) {n : Nat} (h : 1 ≤ n) : 0 ≤ x % (n : Int) ∧ x % (n : Int) < n := ⟨Int.emod_nonneg _ (by omega), Int.emod_lt_of_pos _ (by omega)⟩
theorem where_mir {t : Tab} {r : Row} (l1 : 1 ≤ r.left.length) (r1 : 1 ≤ r.right.length) (h1 : t.start + r.left.length ≤ t.stop) (h2 : t.start + r.right.length ≤ t.stop) (n : Int) {f : List (List Bool)} :
    whereT ⟨1 - t.stop, 1 - t.start, f⟩ r.mir (-n) = t.stop - t.start - 1 - whereT t r n ∧ 0 ≤ whereT t r n ∧ whereT t r n < t.stop - t.start := by
  have hl : r.mir.left.length = r.right.length := List.length_reverse
  have hr : r.mir.right.length = r.left.length := List.length_reverse
  unfold whereT
  dsimp only
  rw [hl, hr]
  obtain ⟨a1, a2⟩ := mod_lt' (n - t.start) l1
  obtain ⟨b1, b2⟩ := mod_lt' (n - t.stop) r1
  have e1 : -n - (1 - t.stop) = -1 - (n - t.stop) := by omega
  have e2 : -n - (1 - t.start) = -1 - (n - t.start) := by omega
  by_cases c1 : n < t.start
  · rw [if_pos c1, if_neg (show ¬ (-n < 1 - t.stop) by omega), if_pos (show -n ≥ 1 - t.start by omega), if_neg (by omega), e2, back_mod _ _ (by omega)]
    omega
  · rw [if_neg c1]
    by_cases c2 : n ≥ t.stop
    · rw [if_pos c2, if_pos (show -n < 1 - t.stop by omega), e1, back_mod _ _ (by omega), if_neg (by omega)]
      omega
    · rw [if_neg c2, if_neg (show ¬ (-n < 1 - t.stop) by omega), if_neg (by omega)]
      omega
theorem mTab_ok {s : List Ln} {r : Row} (ok : SOk s) (l1 : 1 ≤ r.left.length) (r1 : 1 ≤ r.right.length) :
    tStart s r + r.left.length ≤ tStop s r ∧ tStart s r + r.right.length ≤ tStop s r ∧ (∀ b ∈ (mTab s r).found, b.length = (tStop s r - tStart s r).toNat) ∧ (mTab s r).found.length = s.length := by
  obtain ⟨nu1, nu2⟩ := nests_b "until" s
  obtain ⟨ns1, ns2⟩ := nests_b "since" s
  have bU : (r.left.length : Int) ≤ (r.left.length : Int) * (mNests "until" s + 1) := by
    have := Int.mul_le_mul_of_nonneg_left (show (1 : Int) ≤ mNests "until" s + 1 by omega) (show (0 : Int) ≤ r.left.length by omega)
    rwa [Int.mul_one] at this
  have bS : (r.right.length : Int) ≤ (r.right.length : Int) * (mNests "since" s + 1) := by
    have := Int.mul_le_mul_of_nonneg_left (show (1 : Int) ≤ mNests "since" s + 1 by omega) (show (0 : Int) ≤ r.right.length by omega)
    rwa [Int.mul_one] at this
  have ll : ((rangeI (tStart s r) (tStop s r)).map (lotAt r)).length = (tStop s r - tStart s r).toNat := by unfold rangeI; rw [List.length_map, List.length_map, List.length_range]
  obtain ⟨t1, t2⟩ := tabGo_ok ((rangeI (tStart s r) (tStop s r)).map (lotAt r)) r.left.length r.right.length s [] (fun b hb => by cases hb) (fun k l hk i hi => by simpa using (ok.ok k l hk).2.1 i hi)
  rw [List.length_nil, Nat.zero_add] at t2
  refine ⟨by unfold tStart tStop; omega, by unfold tStart tStop; omega, fun b hb => (t1 b hb).trans ll, t2⟩
/-- the same truths -/
theorem truths_mir {s : List Ln} {r : Row} (ok : SOk s) (l1 : 1 ≤ r.left.length) (r1 : 1 ≤ r.right.length) (n : Int) :
    ((mTab (s.map Ln.swap) r.mir).found.map fun b => PyData.bool (b.getD (whereT (mTab (s.map Ln.swap) r.mir) r.mir (-n)).toNat false)) = (mTab s r).found.map fun b => PyData.bool (b.getD (whereT (mTab s r) r n).toNat false) := by
  obtain ⟨h1, h2, h3, h4⟩ := mTab_ok ok l1 r1
  rw [mTab_mir ok l1 r1]
  obtain ⟨w1, w2, w3⟩ := where_mir (t := mTab s r) l1 r1 h1 h2 n (f := (mTab s r).found.map List.reverse)
  have w1 : whereT ⟨1 - tStop s r, 1 - tStart s r, (mTab s r).found.map List.reverse⟩ r.mir (-n) = tStop s r - tStart s r - 1 - whereT (mTab s r) r n := w1
  have w3 : whereT (mTab s r) r n < tStop s r - tStart s r := w3
  rw [w1]
  dsimp only
  rw [List.map_map]
  refine List.map_congr_left fun b hb => ?_
  show PyData.bool (b.reverse.getD _ false) = _
  have hl := h3 b hb
  rw [rev_getD _ _ (by rw [hl]; omega), hl]
  congr 2
  omega
/-! ### sheets are small -/
theorem ops_small : ∀ o ∈ ops, tame (.str o) = true ∧ big (.str o) ≤ 150 ∧ PyData.canLay0 (.str o) = true := by decide +kernel
theorem key_small : ∀ o ∈ (["letter", "yes", "not"] : List Str), tame (.str o) = true ∧ big (.str o) ≤ 150 ∧ PyData.canLay0 (.str o) = true := by decide +kernel
/-- a line with small numbers -/
theorem ln_small {l : Ln} {n : Nat} (h : l.Ok n) (hn : n ≤ 1000000) : tame (lnD l) = true ∧ big (lnD l) ≤ 400 ∧ (lnD l).depth ≤ 1 ∧ (lnD l).canLay0 = true := by
  have p : (1000000 : Nat) < 10 ^ 100 := by decide +kernel
  cases l with
  | lt w =>
    obtain ⟨a1, a2⟩ := base_small w (h.2.2 w rfl)
    have a3 := base_lay w (h.2.2 w rfl)
    obtain ⟨b1, b2, b3⟩ := key_small "letter" (by decide +kernel)
    refine ⟨?_, ?_, ?_, ?_⟩
    · simp only [lnD, tame, tameAll, Bool.and_true, Bool.and_eq_true]
      exact ⟨b1, a1⟩
    · simp only [lnD, big, bigAll] at a2 b2 ⊢; omega
    · simp [lnD, PyData.depth, PyData.depthAll]
    · simp only [lnD, PyData.canLay0, PyData.canLayAll0, Bool.and_true, Bool.and_eq_true]
      exact ⟨b3, a3⟩
  | yes =>
    obtain ⟨b1, b2, b3⟩ := key_small "yes" (by decide +kernel)
    refine ⟨?_, ?_, ?_, ?_⟩
    · simp only [lnD, tame, tameAll, Bool.and_true]
      exact b1
    · simp only [lnD, big, bigAll] at b2 ⊢; omega
    · simp [lnD, PyData.depth, PyData.depthAll]
    · simp only [lnD, PyData.canLay0, PyData.canLayAll0, Bool.and_true]
      exact b3
  | un i =>
    have hi := h.2.1 i (by simp [Ln.mem])
    obtain ⟨b1, b2, b3⟩ := key_small "not" (by decide +kernel)
    refine ⟨?_, ?_, ?_, ?_⟩
    · simp only [lnD, tame, tameAll, Bool.and_true, Bool.and_eq_true, decide_eq_true_eq]
      exact ⟨b1, by omega⟩
    · simp only [lnD, big, bigAll] at b2 ⊢; omega
    · simp [lnD, PyData.depth, PyData.depthAll]
    · simp only [lnD, PyData.canLay0, PyData.canLayAll0, Bool.and_true]
      exact b3
  | bi o i j =>
    have hi := h.2.1 i (by simp [Ln.mem])
    have hj := h.2.1 j (by simp [Ln.mem])
    obtain ⟨b1, b2, b3⟩ := ops_small o h.1
    refine ⟨?_, ?_, ?_, ?_⟩
    · simp only [lnD, tame, tameAll, Bool.and_true, Bool.and_eq_true, decide_eq_true_eq]
      exact ⟨b1, by omega, by omega⟩
    · simp only [lnD, big, bigAll] at b2 ⊢; omega
    · simp [lnD, PyData.depth, PyData.depthAll]
    · simp only [lnD, PyData.canLay0, PyData.canLayAll0, Bool.and_true]
      exact b3
theorem sheet_small {s : List Ln} (ok : SOk s) (hl : s.length ≤ 5000) : tame (sheetD s) = true ∧ big (sheetD s) ≤ 2100000 ∧ (sheetD s).depth ≤ 2 ∧ (sheetD s).canLay0 = true := by
  have each : ∀ x ∈ s.map lnD, tame x = true ∧ big x ≤ 400 ∧ x.depth ≤ 1 ∧ x.canLay0 = true := fun x hx => by
    obtain ⟨l, hl2, rfl⟩ := List.mem_map.mp hx
    obtain ⟨k, hk⟩ := List.getElem?_of_mem hl2
    have := (List.getElem?_eq_some_iff.mp hk).1
    exact ln_small (ok.ok k l hk) (by omega)
  refine ⟨?_, ?_, ?_, ?_⟩
  · show tameAll _ = true
    exact tameAll_iff.mpr fun x hx => (each x hx).1
  · have := bigAll_le (xs := s.map lnD) (n := 400) fun x hx => (each x hx).2.1
    rw [List.length_map] at this
    show bigAll _ + 3 ≤ _
    omega
  · have := depthAll_le (xs := s.map lnD) (n := 1) fun x hx => (each x hx).2.2.1
    simp only [PyData.depth]; omega
  · show PyData.canLayAll0 _ = true
    exact canLayAll_iff.mpr fun x hx => (each x hx).2.2.2
theorem okR_sheet {s : List Ln} (ok : SOk s) (hl : s.length ≤ 5000) : okR (sheetD s) := by
  obtain ⟨a, b, c, _⟩ := sheet_small ok hl
  exact okR_of a (by omega) (by omega)
theorem okD1_of {d : PyData} (h1 : tame d = true) (h2 : d.depth ≤ 60) (h3 : d.canLay0 = true) : okD1 d := by
  refine ⟨tame_noDict d h1, ?_⟩
  unfold SeqAt.shaped
  exact Bool.and_eq_true_iff.mpr ⟨h3, decide_eq_true (by omega)⟩
theorem okD1_sheet {s : List Ln} (ok : SOk s) (hl : s.length ≤ 5000) : okD1 (sheetD s) := by
  obtain ⟨a, b, c, d⟩ := sheet_small ok hl
  exact okD1_of a (by omega) d
theorem ne_same {d : PyData} (h : okD1 d) {Q : DK} (q : Q (.d (.bool false))) : fNe (.d d) (.d d) Q := by
  refine ⟨h, h, ?_⟩
  rw [PySem.SeqAt.eqv_refl _ (Bool.and_eq_true_iff.mp h.2).1]
  exact q
theorem eq_same {d : PyData} (h : okD1 d) {Q : DK} (q : Q (.d (.bool true))) : fEq (.d d) (.d d) Q := by
  refine ⟨h, h, ?_⟩
  rw [PySem.SeqAt.eqv_refl _ (Bool.and_eq_true_iff.mp h.2).1]
  exact q
theorem swap_swap (l : Ln) (hW : l.W) : l.swap.swap = l := by
  cases l with
  | bi o i j =>
    have hW : o ∈ ops := hW
    simp only [ops, List.mem_cons, List.not_mem_nil, or_false] at hW
    show Ln.bi (swapW (swapW o)) i j = _
    have e : swapW (swapW o) = o := by rcases hW with rfl | rfl | rfl | rfl <;> decide +kernel
    rw [e]
  | _ => rfl
theorem swap_W (l : Ln) (hW : l.W) : l.swap.W := by
  cases l with
  | bi o i j =>
    have hW : o ∈ ops := hW
    simp only [ops, List.mem_cons, List.not_mem_nil, or_false] at hW
    show swapW o ∈ ops
    rcases hW with rfl | rfl | rfl | rfl <;> decide +kernel
  | _ => trivial
theorem SOk.swap {s : List Ln} (ok : SOk s) : SOk (s.map Ln.swap) := by
  refine ⟨fun e => ok.ne (List.map_eq_nil_iff.mp e), fun k l hk => ?_⟩
  rw [List.getElem?_map] at hk
  obtain ⟨m, hm, rfl⟩ := Option.map_eq_some_iff.mp hk
  have := ok.ok k m hm
  refine ⟨swap_W m this.1, fun i hi => this.2.1 i (by rwa [swap_mem] at hi), fun w e => ?_⟩
  cases m with
  | lt z => exact this.2.2 w e
  | yes => cases e
  | un i => cases e
  | bi o i j => cases e
theorem map_swap_swap {s : List Ln} (h : ∀ l ∈ s, l.W) : (s.map Ln.swap).map Ln.swap = s := by
  rw [List.map_map]
  have : s.map (Ln.swap ∘ Ln.swap) = s.map id := List.map_congr_left fun l hl => swap_swap l (h l hl)
  rw [this, List.map_id]
def ltOf : Ln → Option Str
  | .lt w => some w
  | _ => none
theorem lc_fmGo {α : Type} (enc : α → PyData) (f : α → Option PyData) {g : DTG} {tt : DTT} {te : DTE} {env : EV} {Q : List PyData → Prop} : ∀ (l : List α) (acc : List PyData), (∀ x ∈ l, ∀ k : List PyData → Prop, k (f x).toList → dTurn g tt te env (enc x) k) →
    Q (acc ++ l.filterMap f) → dLcGo g tt te env (l.map enc) acc Q := fun l acc h q => by
  refine lcGo_by (l.map enc) (fun j a => a = acc ++ (l.take j).filterMap f) 0 acc Q (by rw [List.take_zero, List.filterMap_nil, List.append_nil]) (fun j y a hy e k hk => ?_) (fun a e => ?_)
  · rw [List.getElem?_map] at hy
    obtain ⟨x, hx, rfl⟩ := Option.map_eq_some_iff.mp hy
    refine h x (List.mem_of_getElem? hx) k (hk _ ?_)
    subst e
    rw [Nat.zero_add] at *
    rw [List.take_add_one, hx, List.filterMap_append, List.append_assoc]
    congr 2
  · subst e
    rw [List.length_map, Nat.zero_add, List.take_length]
    exact q
theorem rowOk_small {ws : List Str} {r : Row} (ok : r.Ok ws) : RSmall r ∧ RSmall r.mir := by
  have l1 := ok.l1
  have l2 := ok.l2
  have m := ok.m
  have r1 := ok.r1
  have r2 := ok.r2
  refine ⟨⟨l1, by omega, by omega, r1, by omega⟩, ⟨?_, ?_, ?_, ?_, ?_⟩⟩
  · show 1 ≤ r.right.reverse.length; rw [List.length_reverse]; exact r1
  · show r.right.reverse.length ≤ 100; rw [List.length_reverse]; omega
  · show r.mid.reverse.length ≤ 100; rw [List.length_reverse]; omega
  · show 1 ≤ r.left.reverse.length; rw [List.length_reverse]; exact l1
  · show r.left.reverse.length ≤ 100; rw [List.length_reverse]; omega
theorem bools_ok {α : Type} {f : α → List PyData} {l : List α} {n : Nat} (hl : l.length ≤ 100) (h : ∀ x ∈ l, (f x).length ≤ n ∧ ∀ y ∈ f x, ∃ b, y = .bool b) (hn : n ≤ 10000) : okD1 (.list (l.map fun x => .list (f x))) := by
  have each : ∀ y ∈ (l.map fun x => PyData.list (f x)), tame y = true ∧ y.depth ≤ 1 ∧ y.canLay0 = true := fun y hy => by
    obtain ⟨x, hx, rfl⟩ := List.mem_map.mp hy
    obtain ⟨_, hb⟩ := h x hx
    refine ⟨?_, ?_, ?_⟩
    · show tameAll _ = true
      exact tameAll_iff.mpr fun z hz => by obtain ⟨b, rfl⟩ := hb z hz; rfl
    · have := depthAll_le (xs := f x) (n := 0) fun z hz => by obtain ⟨b, rfl⟩ := hb z hz; simp [PyData.depth]
      simp only [PyData.depth]; omega
    · show PyData.canLayAll0 _ = true
      exact canLayAll_iff.mpr fun z hz => by obtain ⟨b, rfl⟩ := hb z hz; rfl
  refine okD1_of ?_ ?_ ?_
  · show tameAll _ = true
    exact tameAll_iff.mpr fun y hy => (each y hy).1
  · have := depthAll_le (xs := l.map fun x => PyData.list (f x)) (n := 1) fun y hy => (each y hy).2.1
    simp only [PyData.depth]; omega
  · show PyData.canLayAll0 _ = true
    exact canLayAll_iff.mpr fun y hy => (each y hy).2.2
theorem SOk.den {s : List Ln} (ok : SOk s) : SOk (s ++ [.un (s.length - 1)]) := by
  have hp : 0 < s.length := List.length_pos_iff.mpr ok.ne
  obtain ⟨_, a⟩ := ok_snoc (l := .un (s.length - 1)) rfl ok.ok ⟨trivial, fun i hi => by simp [Ln.mem] at hi; omega, fun w e => by cases e⟩
  exact ⟨by simp, a⟩
theorem shift_ok {l : Ln} {k n : Nat} (h : l.Ok k) : (l.shift n).Ok (n + k) := by
  cases l with
  | lt w => exact ⟨trivial, fun i hi => (by cases hi), fun z e => h.2.2 z e⟩
  | yes => exact ⟨trivial, fun i hi => (by cases hi), fun z e => by cases e⟩
  | un i =>
    have hi := h.2.1 i (by simp [Ln.mem])
    exact ⟨trivial, fun j hj => by simp [Ln.mem, Ln.shift] at hj; omega, fun z e => by cases e⟩
  | bi o i j =>
    have hi := h.2.1 i (by simp [Ln.mem])
    have hj := h.2.1 j (by simp [Ln.mem])
    exact ⟨h.1, fun k hk => by simp [Ln.mem, Ln.shift] at hk; omega, fun z e => by cases e⟩
theorem SOk.put {o : Str} {s t : List Ln} (ho : o ∈ ops) (ok1 : SOk s) (ok2 : SOk t) : SOk (mPut o s t) ∧ (mPut o s t).length = s.length + t.length + 1 := by
  have hs : 0 < s.length := List.length_pos_iff.mpr ok1.ne
  have ht : 0 < t.length := List.length_pos_iff.mpr ok2.ne
  have len : (mPut o s t).length = s.length + t.length + 1 := by unfold mPut; simp; omega
  refine ⟨⟨fun e => by rw [e] at len; simp at len, fun k l hk => ?_⟩, len⟩
  unfold mPut at hk
  have both : ∀ (k : Nat) (l : Ln), (s ++ t.map (·.shift s.length))[k]? = some l → l.Ok k := fun k l hk => by
    rw [List.getElem?_append] at hk
    split at hk
    · exact ok1.ok k l hk
    · rename_i c
      rw [List.getElem?_map] at hk
      obtain ⟨m, hm, rfl⟩ := Option.map_eq_some_iff.mp hk
      have := shift_ok (n := s.length) (ok2.ok _ m hm)
      rwa [show s.length + (k - s.length) = k by omega] at this
  have l1 : (s ++ t.map (·.shift s.length)).length = s.length + t.length := by simp
  exact (ok_snoc (l := .bi o (s.length - 1) (s.length + t.length - 1)) l1 both ⟨ho, fun i hi => by simp [Ln.mem] at hi; omega, fun w e => by cases e⟩).2 k l hk
theorem okR_sheets {ss : List (List Ln)} (h : ∀ s ∈ ss, SOk s ∧ s.length ≤ 5000) (hl : ss.length ≤ 3) : okR (.list (ss.map sheetD)) := by
  have each : ∀ x ∈ ss.map sheetD, tame x = true ∧ big x ≤ 2100000 ∧ x.depth ≤ 2 := fun x hx => by
    obtain ⟨s, hs, rfl⟩ := List.mem_map.mp hx
    obtain ⟨a, b, c, _⟩ := sheet_small (h s hs).1 (h s hs).2
    exact ⟨a, b, c⟩
  refine okR_of ?_ ?_ ?_
  · show tameAll _ = true
    exact tameAll_iff.mpr fun x hx => (each x hx).1
  · have := bigAll_le (xs := ss.map sheetD) (n := 2100000) fun x hx => (each x hx).2.1
    rw [List.length_map] at this
    have t : ss.length * (2100000 + 2) ≤ 3 * (2100000 + 2) := Nat.mul_le_mul hl (Nat.le_refl _)
    show bigAll _ + 3 ≤ _
    omega
  · have := depthAll_le (xs := ss.map sheetD) (n := 2) fun x hx => (each x hx).2.2
    simp only [PyData.depth]; omega
theorem den_d {s : List Ln} (hne : s ≠ []) : s.map lnD ++ [PyData.tuple [.str "not", .int (((s.map lnD).length : Int) - 1)]] = (s ++ [Ln.un (s.length - 1)]).map lnD := by
  have hp : 0 < s.length := List.length_pos_iff.mpr hne
  rw [List.map_append, List.length_map]
  show _ = s.map lnD ++ [PyData.tuple [.str "not", .int ((s.length - 1 : Nat) : Int)]]
  rw [show ((s.length - 1 : Nat) : Int) = (s.length : Int) - 1 by omega]
end Law

end

section
set_option maxHeartbeats 1000000
/-! Mf01: rows judged: what the defs answer. -/
namespace Law
open PySem L2 PyProof.Rows RZ Pu
/-! ### words -/
def chS (w : Str) : List Str := w.cps.toList.map fun c => (⟨#[c]⟩ : Str)
def smallP (z : Str) : Bool := leS "a" z && leS z "z"
def digitP (z : Str) : Bool := leS "0" z && leS z "9"
def wdP (w : Str) : Bool := decide (1 ≤ w.length) && decide (w.length ≤ 12) && smallP ((chS w).headD "") && (chS w).all fun z => smallP z || digitP z
def ascii (w : Str) : Bool := w.cps.toList.all fun c => decide (c < 128)
/-- a known text -/
def okT (w : Str) : Bool := ascii w && decide (w.length ≤ 40)
theorem small_occ : ∀ c < 128, occS ⟨#[c]⟩ "abcdefghijklmnopqrstuvwxyz" = smallP ⟨#[c]⟩ := by decide +kernel
theorem both_occ : ∀ c < 128, occS ⟨#[c]⟩ ("abcdefghijklmnopqrstuvwxyz" ++ "0123456789") = (smallP ⟨#[c]⟩ || digitP ⟨#[c]⟩) := by decide +kernel
theorem ascii_iff {w : Str} : ascii w = true ↔ ∀ c ∈ w.cps.toList, c < 128 := ⟨fun h c hc => of_decide_eq_true (List.all_eq_true.mp h c hc), fun h => List.all_eq_true.mpr fun c hc => decide_eq_true (h c hc)⟩
theorem okT_iff {w : Str} : okT w = true ↔ (∀ c ∈ w.cps.toList, c < 128) ∧ w.length ≤ 40 := by unfold okT; rw [Bool.and_eq_true, ascii_iff, decide_eq_true_iff]
/-! ### data -/
def isW : PyData → Bool | .str w => wdP w | _ => false
def isN : PyData → Bool | .int i => decide (0 ≤ i) | _ => false
def isI : PyData → Bool | .int _ => true | _ => false
def asc : List Str → Bool
  | a :: b :: l => ltS a b && asc (b :: l)
  | _ => true
def isLot : PyData → Bool
  | .tuple xs => xs.all isW && asc (xs.map unStr)
  | _ => false
def firstBad (p : PyData → Bool) : Nat → List PyData → Option Nat
  | _, [] => none
  | j, x :: xs => if p x then some j else firstBad p (j + 1) xs
/-- what stands in the path of a member that should be lots -/
def wrongL (k : Nat) : PyData → Option (List PyData)
  | .tuple xs => if xs.isEmpty && decide (k ≠ 2) then some [.int (k : Nat)] else (firstBad (fun x => !isLot x) 0 xs).map fun j => [.int (k : Nat), .int (j : Nat)]
  | _ => some [.int (k : Nat)]
def firstL : Nat → List PyData → List PyData
  | _, [] => []
  | k, x :: xs => match wrongL k x with
    | some p => [.tuple p]
    | none => firstL (k + 1) xs
def pathR : PyData → List PyData
  | .tuple [a, x, y, z] => if isI a then firstL 1 [x, y, z] else [.tuple [.int 0]]
  | _ => [.tuple []]
mutual
/-- all texts are known, nothing is long -/
def allA : PyData → Bool
  | .str w => okT w
  | .tuple xs => decide (xs.length ≤ 1000) && allAs xs
  | .list xs => decide (xs.length ≤ 1000) && allAs xs
  | _ => true
def allAs : List PyData → Bool
  | [] => true
  | x :: xs => allA x && allAs xs
end
theorem allAs_iff {xs : List PyData} : allAs xs = true ↔ ∀ x ∈ xs, allA x = true := by
  induction xs with
  | nil => simp [allAs]
  | cons x xs ih => simp [allAs, ih]
theorem allA_tup {xs : List PyData} : allA (.tuple xs) = true ↔ xs.length ≤ 1000 ∧ ∀ x ∈ xs, allA x = true := by simp [allA, allAs_iff]
theorem allA_lst {xs : List PyData} : allA (.list xs) = true ↔ xs.length ≤ 1000 ∧ ∀ x ∈ xs, allA x = true := by simp [allA, allAs_iff]
/-- a list in a tuple in a list -/
def deepD : Nat → PyData
  | 0 => .str "a"
  | n + 1 => if n % 2 = 0 then .list [deepD n] else .tuple [deepD n]
/-! ### what the defs answer -/
def m_is_small_letter : FN := fun ss R => ∃ z : Str, ss = [.d (.str z)] ∧ R (.d (.bool (smallP z)))
def m_is_digit : FN := fun ss R => ∃ z : Str, ss = [.d (.str z)] ∧ R (.d (.bool (digitP z)))
def m_is_integer : FN := fun ss R => ∃ d, ss = [.d d] ∧ R (.d (.bool (isI d)))
def m_is_number : FN := fun ss R => ∃ d, ss = [.d d] ∧ R (.d (.bool (isN d)))
def m_is_word : FN := fun ss R => ∃ d, ss = [.d d] ∧ allA d = true ∧ R (.d (.bool (isW d)))
def m_is_lot : FN := fun ss R => ∃ d, ss = [.d d] ∧ allA d = true ∧ R (.d (.bool (isLot d)))
def m__wrong_lots : FN := fun ss R => ∃ d, ∃ k : Nat, ss = [.d d, .d (.int (k : Nat))] ∧ allA d = true ∧ R (match wrongL k d with | none => .d .none | some p => .d (.tuple p))
def m__wrong_part : FN := fun ss R => ∃ d, ss = [.d d] ∧ allA d = true ∧ (pathR d = [] → R (.d .none)) ∧ ∀ p, pathR d = [.tuple p] → R (.d (.tuple p))
def m_check_row : FN := fun ss R => ∃ d, ss = [.d d] ∧ allA d = true ∧ (pathR d = [] → R (.d .none)) ∧ ∀ p, pathR d = [.tuple p] → R (excS p)
def m__law_told_path : FN := fun ss R => ∃ d, ss = [.d d] ∧ allA d = true ∧ R (.own (pathR d))
def m__law_path : FN := fun ss R => ∃ d, ss = [.d d] ∧ allA d = true ∧ R (.own (pathR d))
def m__law_is_word : FN := fun ss R => ∃ d, ss = [.d d] ∧ allA d = true ∧ R (.d (.bool (isW d)))
def m__law_is_integer : FN := fun ss R => ∃ d, ss = [.d d] ∧ R (.d (.bool (isI d)))
def m__law_right_lot : FN := fun ss R => ∃ d, ss = [.d d] ∧ allA d = true ∧ R (.d (.bool (isLot d)))
def m__law_any_word : FN := fun ss R => ss = [.src] ∧ ∀ w : Str, okT w = true → 1 ≤ w.length → w.length ≤ 12 → R (.d (.str w))
def m__law_deep : FN := fun ss R => ∃ n : Nat, ss = [.d (.int (n : Nat))] ∧ n ≤ 60 ∧ R (.d (deepD n))
theorem ifb {b : Bool} {A B : Prop} (h1 : b = true → A) (h2 : b = false → B) : if b = true then A else B := by
  cases b with
  | true => rw [if_pos rfl]; exact h1 rfl
  | false => rw [if_neg (by decide)]; exact h2 rfl
theorem chS_ne {w : Str} (h : 1 ≤ w.length) : ∃ c cs, w.cps.toList = c :: cs := by
  cases e : w.cps.toList with
  | nil =>
    have : w.cps.toList.length = 0 := by rw [e]; rfl
    have h2 : 1 ≤ w.cps.size := h
    simp at this
    rw [this] at h2; simp at h2
  | cons c cs => exact ⟨c, cs, rfl⟩
theorem at_0 {α : Type} {c : α} {cs : List α} : atI (c :: cs) 0 = some c := by
  unfold atI ixN
  rw [if_pos (by omega), if_pos (by simp)]
  rfl
theorem chars_len {w : Str} (h : w.length ≤ 100) {f : Nat → PyData} : (w.cps.toList.map f).length ≤ sizeLine := by
  rw [List.length_map, sizeLine_eq]
  have e : w.cps.toList.length = w.length := by simp [Str.length]
  omega
theorem eqvD_nil (xs : List PyData) : PyData.eqv (.list xs) (.list []) = xs.isEmpty := by
  cases xs with
  | nil => rfl
  | cons x l => rfl
theorem tame_ascii : ∀ c < 128, tame (.str ⟨#[c]⟩) = true ∧ PyData.canLay0 (.str ⟨#[c]⟩) = true := by decide +kernel
theorem depthAll_le {n : Nat} : ∀ {xs : List PyData}, (∀ x ∈ xs, x.depth ≤ n) → PyData.depthAll xs ≤ n
  | [], _ => Nat.zero_le _
  | x :: xs, h => by
    have := depthAll_le (xs := xs) fun y hy => h y (List.mem_cons_of_mem _ hy)
    have := h x (List.mem_cons_self ..)
    simp only [PyData.depthAll]
    omega
theorem canAll : ∀ {xs : List PyData}, (∀ x ∈ xs, x.canLay0 = true) → PyData.canLayAll0 xs = true := fun h => canLayAll_iff.mpr h
theorem okD1_lst {xs : List PyData} (h : ∀ x ∈ xs, tame x = true ∧ x.canLay0 = true ∧ x.depth ≤ 10) : okD1 (.list xs) := by
  refine okD1_of (by simp only [tame]; exact tameAll_iff.mpr fun x hx => (h x hx).1) ?_ ?_
  · have := depthAll_le fun x hx => (h x hx).2.2
    simp only [PyData.depth]; omega
  · show PyData.canLayAll0 xs = true
    exact canAll fun x hx => (h x hx).2.1
theorem okD1_chars {zs : List Nat} (h : ∀ c ∈ zs, c < 128) : okD1 (.list (zs.map fun c => PyData.str ⟨#[c]⟩)) := okD1_lst fun x hx => by
  obtain ⟨c, hc, rfl⟩ := List.mem_map.mp hx
  exact ⟨(tame_ascii c (h c hc)).1, (tame_ascii c (h c hc)).2, Nat.zero_le _⟩
theorem okD1_nil : okD1 (.list []) := okD1_lst fun x hx => absurd hx (by simp)
theorem fm_filter {p : Nat → Bool} {f : Nat → PyData} : ∀ l : List Nat, (l.filterMap fun c => if p c = true then none else some (f c)) = (l.filter fun c => !p c).map f
  | [] => rfl
  | c :: l => by
    have ih := fm_filter (p := p) (f := f) l
    cases e : p c <;> simp [List.filterMap_cons, List.filter_cons, e, ih]
theorem filter_empty {p : Nat → Bool} {f : Nat → PyData} (l : List Nat) : ((l.filter fun c => !p c).map f).isEmpty = l.all p := by
  induction l with
  | nil => rfl
  | cons c l ih => cases e : p c <;> simp_all [List.filter_cons]
theorem lc_mapD (f : PyData → PyData) {l : List PyData} {g : DTG} {te : DTE} {env : EV} {Q : List PyData → Prop} (h : ∀ x ∈ l, ∀ k : DK, (∀ s, s.fz = .d (f x) → k s) → g (.d x) env fun env1 => te env1 k) (q : Q (l.map f)) : dLcGo g dYes te env l [] Q := by
  have := lc_mapT (fun x => x) f (Q := Q) h q
  rwa [List.map_id'] at this
theorem zip_str : ∀ (a b : List Str), zipD (a.map PyData.str) (b.map PyData.str) = (a.zip b).map fun p => .tuple [.str p.1, .str p.2]
  | [], _ => rfl
  | _ :: _, [] => rfl
  | x :: a, y :: b => by simp [zipD, zip_str a b]
theorem asc_zip : ∀ ws : List Str, asc ws = (ws.zip ws.tail).all fun p => ltS p.1 p.2
  | [] => rfl
  | [_] => rfl
  | x :: y :: l => by
    have := asc_zip (y :: l)
    simp only [asc, List.tail_cons, List.zip_cons_cons, List.all_cons] at this ⊢
    rw [this]
theorem cut_1 (xs : List PyData) : Pu.cutD xs (some 1) none = xs.tail := by
  cases xs with
  | nil => rfl
  | cons x l => exact cut_tail
theorem words_of {xs : List PyData} (h : xs.all isW = true) : xs = (xs.map unStr).map PyData.str := by
  induction xs with
  | nil => rfl
  | cons x l ih =>
    simp only [List.all_cons, Bool.and_eq_true] at h
    have e : x = .str (unStr x) := by
      cases x <;> first | rfl | exact absurd h.1 (by simp [isW])
    rw [List.map_cons, List.map_cons, ← e, ← ih h.2]
/-- those members that are none -/
theorem lc_fmD (p : PyData → Bool) {l : List PyData} {g : DTG} {tt : DTT} {te : DTE} {env : EV} {Q : List PyData → Prop} (h : ∀ x ∈ l, ∀ k : List PyData → Prop, k (if p x = true then [] else [x]) → dTurn g tt te env x k) (q : Q (l.filter fun x => !p x)) : dLcGo g tt te env l [] Q := by
  have := lc_fmGo (fun x => x) (fun x => if p x = true then none else some x) (g := g) (tt := tt) (te := te) (env := env) (Q := Q) l [] (fun x hx k hk => h x hx k (by
    cases e : p x with
    | true => rw [e] at hk; exact hk
    | false => rw [e] at hk; exact hk)) (by
    rw [List.nil_append]
    have e : l.filterMap (fun x => if p x = true then none else some x) = l.filter fun x => !p x := by
      clear h q
      induction l with
      | nil => rfl
      | cons x l ih => cases e : p x <;> simp [List.filterMap_cons, List.filter_cons, e, ih]
    rw [e]; exact q)
  rwa [List.map_id'] at this
theorem filterD_empty (p : PyData → Bool) (l : List PyData) : (l.filter fun x => !p x).isEmpty = l.all p := by
  induction l with
  | nil => rfl
  | cons c l ih => cases e : p c <;> simp_all [List.filter_cons]
theorem at_n {α : Type} {xs : List α} {i : Int} {j : Nat} (e : i = (j : Nat)) (h : j < xs.length) : atI xs i = some xs[j] := by
  subst e
  unfold atI ixN
  rw [if_pos (by omega), if_pos (by omega)]
  show xs[((j : Nat) : Int).toNat]? = _
  rw [Int.toNat_natCast]
  exact List.getElem?_eq_getElem h
theorem asc_idx : ∀ ws : List Str, asc ws = (List.range (ws.length - 1)).all fun i => ltS (ws.getD i "") (ws.getD (i + 1) "")
  | [] => rfl
  | [_] => rfl
  | x :: y :: l => by
    have ih := asc_idx (y :: l)
    show (ltS x y && asc (y :: l)) = (List.range (l.length + 1)).all _
    rw [ih, List.range_succ_eq_map, List.all_cons, List.all_map]
    rfl
theorem okD1_nums {l : List Int} (h : ∀ i ∈ l, i.natAbs < 10 ^ 100) : okD1 (.list (l.map PyData.int)) := okD1_lst fun x hx => by
  obtain ⟨i, hi, rfl⟩ := List.mem_map.mp hx
  exact ⟨by simp only [tame]; exact decide_eq_true (h i hi), rfl, Nat.zero_le _⟩
theorem p100 : 100000 ≤ 10 ^ 100 := by decide +kernel
theorem firstBad_head (p : PyData → Bool) : ∀ (j : Nat) (us : List PyData), firstBad p j us = ((List.range us.length).filter fun i => p (us.getD i .none)).head?.map (j + ·)
  | _, [] => rfl
  | j, x :: us => by
    have ih := firstBad_head p (j + 1) us
    rw [List.length_cons, List.range_succ_eq_map, List.filter_cons, List.filter_map]
    show (if p x then some j else firstBad p (j + 1) us) = _
    have e0 : (x :: us).getD 0 .none = x := rfl
    have e1 : ((fun i => p ((x :: us).getD i .none)) ∘ Nat.succ) = fun i => p (us.getD i .none) := rfl
    rw [e0, e1]
    cases g : p x with
    | true => rfl
    | false =>
      rw [if_neg (by decide), if_neg (by decide), ih, List.head?_map, Option.map_map]
      congr 1
      funext i
      show j + 1 + i = j + (i + 1)
      omega
theorem sq_byL {t u : DTS} {E : DEnds} {env : EV} (P : EV → Prop) (h : ∀ nx : EV → Prop, (∀ e, P e → nx e) → t { E with nx := nx } env) (k : ∀ e, P e → u E e) : dSeq t u E env := h _ k
end Law

end

section
set_option maxHeartbeats 1000000
/-! Mg01: rows that are bent. -/
namespace Law
open PySem L2 PyProof.Rows RZ Pu
theorem sq_set {t : DTE} {i : Nat} {u : DTS} {E : DEnds} {env : EV} (P : Sl → Prop) (h : ∀ Q : DK, (∀ s, P s → Q s) → t env Q) (k : ∀ s, P s → u E (env.set i (some s))) : dSeq (dSet t i) u E env := h _ k
/-- short when shown, not deep -/
def d8 (n m : Nat) (d : PyData) : Bool := allA d && d.showable && decide (d.shown.length ≤ n) && decide (d.depth ≤ m)
def oddL : List PyData := [.none, .bool true, .bool false, .int (-1), .int 7, .int (10 ^ 30), .str "", .str "A", .str "a b", .str "root", .tuple [], .list [], .dict [], .tuple [.none], .list [.tuple []], .tuple [.str "a"], .dict [(.str "a", .int 1)]]
def strL : List PyData := [.none, .bool true, .int 0, .str "a", .str "", .list [], .list [.str "a"], .dict [], .tuple [.str "b", .str "a"], .tuple [.str "a", .str "a"], .tuple [.str "A"], .tuple [.str "abcdefghijklm"], .tuple [.str "a", .none],
  .tuple [.tuple [.str "a"]], .tuple [.str "a b"], .tuple [.str "1a"], .tuple [.str ""], .tuple [.tuple []], .dict [(.str "a", .int 1)], .int (10 ^ 39), .tuple [], .tuple [.str "a"], .tuple [.str "a", .str "b"], .tuple [.int 0],
  deepD 36, .tuple [.str "a", .str "a1", .str "b"], .tuple [.str "a1", .str "a"], .tuple [.str "z9", .str "z10"], .tuple [.str "ab", .str "a"], .tuple [.str "a", .list []]]
theorem d8_iff {n m : Nat} {d : PyData} : d8 n m d = true ↔ allA d = true ∧ d.showable = true ∧ d.shown.length ≤ n ∧ d.depth ≤ m := by
  unfold d8
  simp [and_assoc]
theorem d8_mono {n m n' m' : Nat} {d : PyData} (h : d8 n m d = true) (hn : n ≤ n') (hm : m ≤ m') : d8 n' m' d = true := by
  obtain ⟨a, b, c, e⟩ := d8_iff.mp h
  exact d8_iff.mpr ⟨a, b, by omega, by omega⟩
theorem d8_okY {n m : Nat} {d : PyData} (h : d8 n m d = true) (hn : n ≤ 16777216) (hm : m ≤ 60) : okY d := by
  obtain ⟨a, b, c, e⟩ := d8_iff.mp h
  exact ⟨b, s16 (by omega), by omega⟩
theorem showAll {xs : List PyData} (h : ∀ x ∈ xs, x.showable = true) : PyData.showableAll xs = true := by
  induction xs with
  | nil => rfl
  | cons x xs ih => simp only [PyData.showableAll, h x (List.mem_cons_self ..), ih fun y hy => h y (List.mem_cons_of_mem _ hy), Bool.and_self]
theorem piledAll {n : Nat} {xs : List PyData} (h : ∀ x ∈ xs, x.shown.length ≤ n) : piled (PyData.shownAll xs) ≤ xs.length * (n + 2) := by
  induction xs with
  | nil => simp [PyData.shownAll, Pu.piled_nil]
  | cons x xs ih =>
    have := ih fun y hy => h y (List.mem_cons_of_mem _ hy)
    have := h x (List.mem_cons_self ..)
    simp only [PyData.shownAll, piled_cons, List.length_cons]
    rw [Nat.add_mul]
    omega
theorem d8_tup {n m : Nat} {xs : List PyData} (h : ∀ x ∈ xs, d8 n m x = true) (l : xs.length ≤ 1000) : d8 (xs.length * (n + 2) + 3) (m + 1) (.tuple xs) = true := by
  refine d8_iff.mpr ⟨allA_tup.mpr ⟨l, fun x hx => (d8_iff.mp (h x hx)).1⟩, ?_, ?_, ?_⟩
  · simp only [PyData.showable]; exact showAll fun x hx => (d8_iff.mp (h x hx)).2.1
  · simp only [PyData.shown]
    have := tupleText_le (PyData.shownAll xs)
    have := piledAll fun x hx => (d8_iff.mp (h x hx)).2.2.1
    omega
  · have := depthAll_le fun x hx => (d8_iff.mp (h x hx)).2.2.2
    simp only [PyData.depth]; omega
theorem d8_lst {n m : Nat} {xs : List PyData} (h : ∀ x ∈ xs, d8 n m x = true) (l : xs.length ≤ 1000) : d8 (xs.length * (n + 2) + 3) (m + 1) (.list xs) = true := by
  refine d8_iff.mpr ⟨allA_lst.mpr ⟨l, fun x hx => (d8_iff.mp (h x hx)).1⟩, ?_, ?_, ?_⟩
  · simp only [PyData.showable]; exact showAll fun x hx => (d8_iff.mp (h x hx)).2.1
  · simp only [PyData.shown]
    have := listText_le (PyData.shownAll xs)
    have := piledAll fun x hx => (d8_iff.mp (h x hx)).2.2.1
    omega
  · have := depthAll_le fun x hx => (d8_iff.mp (h x hx)).2.2.2
    simp only [PyData.depth]; omega
theorem d8_dict {n m : Nat} {x : PyData} (h : d8 n m x = true) : d8 (n + 20) (m + 1) (.dict [(.int 0, x)]) = true := by
  obtain ⟨a, b, c, e⟩ := d8_iff.mp h
  refine d8_iff.mpr ⟨rfl, ?_, ?_, ?_⟩
  · simp only [PyData.showable, PyData.showableKv, b, Bool.and_true]
    decide
  · have g : (PyData.dict [(.int 0, x)]).shown = dictText [(PyData.int 0).shown ++ ": " ++ x.shown] := by simp only [PyData.shown, PyData.shownKv]
    rw [g]
    have := dictText_len_le [(PyData.int 0).shown ++ ": " ++ x.shown]
    simp only [List.map_cons, List.map_nil, List.sum_cons, List.sum_nil, List.length_cons, List.length_nil, strLen_append] at this
    have e1 : (PyData.int 0).shown.length = 1 := by decide +kernel
    have e2 : (": " : Str).length = 2 := rfl
    omega
  · have g : (PyData.dict [(.int 0, x)]).depth = max (max (PyData.int 0).depth x.depth) 0 + 1 := by simp only [PyData.depth, PyData.depthKv]
    rw [g]
    have : (PyData.int 0).depth = 0 := rfl
    omega
theorem mul_b {l q b : Nat} (n : Nat) (hl : l ≤ q) (h : q * (n + 2) + 3 ≤ b) : l * (n + 2) + 3 ≤ b := by
  have := Nat.mul_le_mul_right (n + 2) hl
  omega
/-- what stands in the place of a lot -/
def El (d : PyData) : Prop := d8 3000 38 d = true
def partB (n : Nat) (d : PyData) : Bool := match d with
  | .tuple zs => decide (zs.length ≤ 60 + n) && zs.all (d8 3000 38)
  | d => d8 300000 39 d
theorem part_tup {n : Nat} {zs : List PyData} : partB n (.tuple zs) = true ↔ zs.length ≤ 60 + n ∧ ∀ z ∈ zs, El z := by
  show (decide (zs.length ≤ 60 + n) && zs.all (d8 3000 38)) = true ↔ _
  rw [Bool.and_eq_true, decide_eq_true_iff, List.all_eq_true]
  rfl
theorem part_mono {n m : Nat} {d : PyData} (h : partB n d = true) (l : n ≤ m) : partB m d = true := by
  cases d
  case tuple zs =>
    obtain ⟨a, b⟩ := part_tup.mp h
    exact part_tup.mpr ⟨by omega, b⟩
  all_goals exact h
theorem part_d8 {n : Nat} {d : PyData} (h : partB n d = true) (l : n ≤ 30) : d8 300000 39 d = true := by
  cases d
  case tuple zs =>
    obtain ⟨a, b⟩ := part_tup.mp h
    exact d8_mono (d8_tup b (by omega)) (mul_b (q := 90) 3000 (by omega) (by omega)) (by omega)
  all_goals exact h
theorem part_list {n : Nat} {zs : List PyData} (h : partB n (.tuple zs) = true) (l : n ≤ 30) : partB n (.list zs) = true := by
  obtain ⟨a, b⟩ := part_tup.mp h
  exact d8_mono (d8_lst b (by omega)) (mul_b (q := 90) 3000 (by omega) (by omega)) (by omega)
def VB (n : Nat) (v : PyData) : Prop := (∃ xs, v = .tuple xs ∧ xs.length ≤ 5 ∧ ∀ x ∈ xs, partB n x = true) ∨ (d8 10000000 50 v = true ∧ ∀ xs, v = .tuple xs → xs.length ≠ 4)
theorem VB.mono {n m : Nat} {v : PyData} (h : VB n v) (l : n ≤ m) : VB m v := by
  rcases h with ⟨xs, e, a, b⟩ | h
  · exact .inl ⟨xs, e, a, fun x hx => part_mono (b x hx) l⟩
  · exact .inr h
theorem parts_d8 {n : Nat} {xs : List PyData} (a : xs.length ≤ 5) (b : ∀ x ∈ xs, partB n x = true) (l : n ≤ 30) : d8 2000000 40 (.tuple xs) = true ∧ d8 2000000 40 (.list xs) = true := by
  have b' : ∀ x ∈ xs, d8 300000 39 x = true := fun x hx => part_d8 (b x hx) l
  exact ⟨d8_mono (d8_tup b' (by omega)) (mul_b (q := 5) 300000 a (by omega)) (by omega), d8_mono (d8_lst b' (by omega)) (mul_b (q := 5) 300000 a (by omega)) (by omega)⟩
theorem VB.d {n : Nat} {v : PyData} (h : VB n v) (l : n ≤ 30) : d8 10000000 50 v = true := by
  rcases h with ⟨xs, rfl, a, b⟩ | h
  · exact d8_mono (parts_d8 a b l).1 (by omega) (by omega)
  · exact h.1
theorem VB.four {n : Nat} {a x y z : PyData} (h : VB n (.tuple [a, x, y, z])) : ∀ u ∈ [a, x, y, z], partB n u = true := by
  rcases h with ⟨xs, e, _, b⟩ | h
  · obtain rfl := PyData.tuple.inj e
    exact b
  · exact absurd rfl (h.2 _ rfl)
def way0 : List PyData := [.none, .bool true, .bool false, .str "0", .tuple [], .list [], .dict [], .int (10 ^ 39), .int (-(10 ^ 39)), .tuple [.int 0], .int (-1), .str "row"]
theorem way0_ok : ∀ d ∈ way0, partB 0 d = true := by decide +kernel
theorem way1_ok : ∀ d ∈ [PyData.none, .tuple [], .list [], .str "a", .int 0, .dict [], .tuple [.tuple []], .bool true, deepD 37], partB 0 d = true := by decide +kernel
theorem way6_ok : ∀ d ∈ [PyData.tuple [], .none, .tuple [.tuple []]], partB 0 d = true := by decide +kernel
theorem part_in {n k : Nat} {zs : List PyData} {s : PyData} (h : partB n (.tuple zs) = true) (hs : El s) {q : Nat} (hq : k ≤ q) : partB (n + 1) (.tuple (zs.take k ++ [s] ++ zs.drop q)) = true := by
  obtain ⟨a, b⟩ := part_tup.mp h
  refine part_tup.mpr ⟨?_, fun z hz => ?_⟩
  · simp only [List.length_append, List.length_take, List.length_drop, List.length_cons, List.length_nil]
    omega
  · rcases List.mem_append.mp hz with hz | hz
    · rcases List.mem_append.mp hz with hz | hz
      · exact b z (List.mem_of_mem_take hz)
      · rw [List.mem_singleton.mp hz]; exact hs
    · exact b z (List.mem_of_mem_drop hz)
theorem part_out {n k : Nat} {zs : List PyData} (h : partB n (.tuple zs) = true) {q : Nat} (hq : k ≤ q) : partB (n + 1) (.tuple (zs.take k ++ zs.drop q)) = true := by
  obtain ⟨a, b⟩ := part_tup.mp h
  refine part_tup.mpr ⟨?_, fun z hz => ?_⟩
  · simp only [List.length_append, List.length_take, List.length_drop]
    omega
  · rcases List.mem_append.mp hz with hz | hz
    · exact b z (List.mem_of_mem_take hz)
    · exact b z (List.mem_of_mem_drop hz)
def way8 (fs : List PyData) : List PyData := [.list fs, .dict [(.int 0, .list fs)], .none, .tuple [], .str "row", .list [.tuple fs], .tuple [.tuple fs]]
theorem way8_ok {n : Nat} {fs : List PyData} (a : fs.length ≤ 5) (b : ∀ x ∈ fs, partB n x = true) (l : n ≤ 30) : ∀ v ∈ way8 fs, VB n v := by
  obtain ⟨t, u⟩ := parts_d8 a b l
  have one : ∀ x ∈ [PyData.tuple fs], d8 2000000 40 x = true := fun x hx => by rw [List.mem_singleton.mp hx]; exact t
  have k : d8 100 3 PyData.none = true ∧ d8 100 3 (.tuple []) = true ∧ d8 100 3 (.str "row") = true := by decide +kernel
  intro v hv
  refine .inr ?_
  rcases (by simpa [way8] using hv : v = .list fs ∨ v = .dict [(.int 0, .list fs)] ∨ v = .none ∨ v = .tuple [] ∨ v = .str "row" ∨ v = .list [.tuple fs] ∨ v = .tuple [.tuple fs]) with rfl | rfl | rfl | rfl | rfl | rfl | rfl
  · exact ⟨d8_mono u (by omega) (by omega), fun xs e => by cases e⟩
  · exact ⟨d8_mono (d8_dict u) (by omega) (by omega), fun xs e => by cases e⟩
  · exact ⟨d8_mono k.1 (by omega) (by omega), fun xs e => by cases e⟩
  · exact ⟨d8_mono k.2.1 (by omega) (by omega), fun xs e => by cases e; decide⟩
  · exact ⟨d8_mono k.2.2 (by omega) (by omega), fun xs e => by cases e⟩
  · exact ⟨d8_mono (d8_lst one (by simp)) (by simp) (by omega), fun xs e => by cases e⟩
  · exact ⟨d8_mono (d8_tup one (by simp)) (by simp) (by omega), fun xs e => by cases e; simp⟩
theorem cut_from {xs : List PyData} {n : Nat} : Pu.cutD xs (some (n : Int)) none = xs.drop n := by
  unfold Pu.cutD
  rw [HT.sIx_nat, HT.sIx_none]
  refine List.ext_getElem? fun i => ?_
  rw [List.getElem?_take, List.getElem?_drop, List.getElem?_drop]
  split
  · rcases Nat.le_total n xs.length with c | c
    · rw [Nat.min_eq_left c]
    · rw [Nat.min_eq_right c, List.getElem?_eq_none (by omega), List.getElem?_eq_none (by omega)]
  · rw [List.getElem?_eq_none (by omega)]
def ezD (f : Int → List Str) (a : Int) (p : Nat) (i : Nat) : PyData := .tuple [.int (i : Nat), .tuple [lotD (f (a + i)), lotD (f (a + p + i))]]
def m__law_odd : FN := fun ss R => ss = [.src] ∧ ∀ d ∈ oddL, R (.d d)
def m__law_strange : FN := fun ss R => ss = [.src] ∧ ∀ d ∈ strL, R (.d d)
def m__law_bent : FN := fun ss R => ∃ v, ∃ m : Nat, ss = [.src, .d v] ∧ VB m v ∧ m ≤ 10 ∧ ∀ v', VB (m + 1) v' → R (.d v')
def m__law_words_right : FN := fun ss R => ss = [.src] ∧ R (.d (.bool true))
theorem odd_ok : ∀ d ∈ oddL, d8 200 3 d = true := by decide +kernel
theorem str_ok : ∀ d ∈ strL, d8 300 38 d = true := by decide +kernel
theorem deep_ok : d8 300 38 (deepD 38) = true ∧ d8 300 38 (deepD 37) = true ∧ d8 300 38 (deepD 36) = true := by decide +kernel
theorem set_part {n : Nat} {fs : List PyData} (lf : fs.length = 4) (pf : ∀ u ∈ fs, partB n u = true) {d : PyData} (hd : partB n d = true) (j : Nat) : (fs.set j d).length = 4 ∧ ∀ u ∈ fs.set j d, partB n u = true := by
  refine ⟨by rw [List.length_set]; exact lf, fun u hu => ?_⟩
  rcases List.mem_or_eq_of_mem_set hu with h | h
  · exact pf u h
  · rw [h]; exact hd
theorem ix4 {fs : List PyData} {j : Nat} (lf : fs.length = 4) (hj : j < 3) : ixN fs.length (1 + (j : Nat)) = some (j + 1) := by
  unfold ixN
  rw [if_pos (by omega), if_pos (by omega)]
  congr 1
  omega
theorem ix0 {fs : List PyData} (lf : fs.length = 4) : ixN fs.length 0 = some 0 := by rw [lf]; rfl
/-! ### texts put together -/
theorem okT_cat {a b : Str} (ha : ∀ c ∈ a.cps.toList, c < 128) (hb : ∀ c ∈ b.cps.toList, c < 128) : ∀ c ∈ (a ++ b).cps.toList, c < 128 := fun c hc => by
  have e : (a ++ b).cps.toList = a.cps.toList ++ b.cps.toList := Array.toList_append
  rw [e] at hc
  rcases List.mem_append.mp hc with h | h
  · exact ha c h
  · exact hb c h
theorem len_cat (a b : Str) : (a ++ b).length = a.length + b.length := strLen_append a b
theorem cutS_mem {z : Str} {lo hi : Option Int} : ∀ c ∈ (cutS z lo hi).cps.toList, c ∈ z.cps.toList := fun c hc => by
  unfold cutS at hc
  simp only [Array.toList_extract] at hc
  exact List.mem_of_mem_drop (List.mem_of_mem_take hc)
theorem rep_ascii (n : Nat) : ∀ c ∈ (repS "a" n).cps.toList, c < 128 := by
  have key : ∀ (n : Nat) (z : Array Nat), (∀ c ∈ z.toList, c < 128) → ∀ c ∈ ((List.replicate n ("a" : Str).cps).foldl (· ++ ·) z).toList, c < 128 := by
    intro n
    induction n with
    | zero => intro z h; exact h
    | succ n ih =>
      intro z h
      rw [List.replicate_succ, List.foldl_cons]
      refine ih _ fun c hc => ?_
      rw [Array.toList_append] at hc
      rcases List.mem_append.mp hc with h1 | h1
      · exact h c h1
      · exact ascii_iff.mp (by decide +kernel : ascii "a" = true) c h1
  exact key n #[] (fun c hc => by simp at hc)
theorem repS_len (n : Nat) : (repS "a" n).length = n := by
  show (repS "a" n).cps.size = n
  unfold repS
  rw [repS_size]
  show 0 + n * 1 = n
  omega
theorem bool_d8 (b : Bool) : d8 10 3 (.bool b) = true := by cases b <;> decide +kernel
theorem four_okY (a b c d : Bool) : okY (.list [.bool a, .bool b, .bool c, .bool d]) := by
  refine d8_okY (n := 100) (m := 4) (d8_mono (d8_lst (n := 10) (m := 3) (fun x hx => ?_) (by simp)) (by simp) (by omega)) (by omega) (by omega)
  rcases (by simpa using hx : x = .bool a ∨ x = .bool b ∨ x = .bool c ∨ x = .bool d) with rfl | rfl | rfl | rfl <;> exact bool_d8 _
theorem neS_same {z : Str} {Q : DK} (h : Q (.d (.bool false))) : fEqS true (.d (.str z)) (.d (.str z)) Q := by
  show Q (.d (.bool (!decide (z = z))))
  rw [decide_eq_true rfl]; exact h
theorem signs_ok : ∀ d ∈ ((("AZ_ -.;(){}~!" : Str).cps.toList.map fun c => PyData.str ⟨#[c]⟩) ++ [.str "\n", .str "\t", .str ""]), ∃ z : Str, d = .str z ∧ okT z = true ∧ z.length ≤ 1 := by
  have h : ∀ z ∈ ((("AZ_ -.;(){}~!" : Str).cps.toList.map fun c => (⟨#[c]⟩ : Str)) ++ (["\n", "\t", ""] : List Str)), okT z = true ∧ z.length ≤ 1 := by decide +kernel
  have e : ((("AZ_ -.;(){}~!" : Str).cps.toList.map fun c => PyData.str ⟨#[c]⟩) ++ [.str "\n", .str "\t", .str ""]) = ((("AZ_ -.;(){}~!" : Str).cps.toList.map fun c => (⟨#[c]⟩ : Str)) ++ (["\n", "\t", ""] : List Str)).map PyData.str := by
    rw [List.map_append, List.map_map]; rfl
  intro d hd
  rw [e] at hd
  obtain ⟨z, hz, rfl⟩ := List.mem_map.mp hd
  exact ⟨z, rfl, h z hz⟩
end Law

end

section
set_option maxHeartbeats 1000000
/-! PuX9: a def that may raise, called where it does not. -/
namespace Pu
open PySem L2 PyProof.Rows RZ
theorem FnXE.fn {P : Program} {w : World} {K : PySem.W.Frag} {mg : Str → Option Value} {base : Heap} {cs x f : Str} {k n : Nat} {ps : List Str} {m m' : FN} (F : FnXE P w K mg base cs k ps n m x f) (h : ∀ ss R, m' ss R → m ss fun s => R s ∧ ∀ ds, s ≠ excS ds) :
    Fn P w K mg base cs k ps (spX K n m') := by
  obtain ⟨C, fI, T, g, fd, hm, kp, bi, G⟩ := F.ex
  have tr : ∀ vs H Q E, spX K n m' vs H Q E → spXE K n m C f vs H Q (fun _ _ _ => False) := by
    rintro vs H Q E ⟨hid, Hb, ss, R, st, rep, hl, hm, c⟩
    exact ⟨hid, Hb, ss, _, st, rep, hl, h _ _ hm, fun v Hb' H' s st2 r2 f2 hR => c v Hb' H' s st2 r2 f2 hR.1, fun v Hb' H' d ds _ _ _ hR => hR.2 ds rfl⟩
  refine ⟨g, fd, hm, kp, bi, ⟨fun vs H Q E q => G.many _ _ _ _ (tr vs H Q E q), fun B above s H as us vs Q E hr he hb hv hs => ?_⟩⟩
  refine codeAny_mono (G.goes B above s H as us vs Q _ hr he hb hv (tr vs H Q E hs)) fun r s2 done => ?_
  match r, done with
  | .error ex, done =>
    obtain ⟨_, _, _, _, _, _, _, _, _, _, _, _, z⟩ := done
    exact z.elim
  | .ok (.ret u), done => exact done
  | .ok .next, done => exact done
  | .ok .brk, done => exact done
  | .ok .cont, done => exact done
end Pu

end

section
set_option maxHeartbeats 1000000
/-! Mh01: what the law draws, and what it tells at its end. -/
namespace Law
open PySem L2 PyProof.Rows RZ Pu
theorem word_d8 : ∀ w ∈ baseW, d8 100 0 (.str w) = true := by decide +kernel
theorem int_d8 {i : Int} (h : i.natAbs ≤ 10 ^ 50) : d8 150 2 (.int i) = true := by
  have t : tame (.int i) = true := by
    have p : (10 : Nat) ^ 50 < 10 ^ 100 := by decide +kernel
    simp only [tame, decide_eq_true_eq]; omega
  have := shown_le _ t
  simp only [big] at this
  exact d8_iff.mpr ⟨rfl, tame_showable _ t, by omega, Nat.zero_le _⟩
theorem lot_El {ws l : List Str} (hw : ∀ x ∈ ws, x ∈ baseW) (hl : ws.length ≤ 20) (h : l.Sublist ws) : El (lotD l) := by
  have ll := h.length_le
  refine d8_mono (d8_tup (n := 100) (m := 0) (fun x hx => ?_) (by rw [List.length_map]; omega)) (mul_b (q := 20) 100 (by rw [List.length_map]; omega) (by omega)) (by omega)
  obtain ⟨w, hm, rfl⟩ := List.mem_map.mp hx
  exact word_d8 w (hw w (h.subset hm))
theorem row_VB {n : Nat} {ws : List Str} {r : Row} (W : Words n ws) (hn : n ≤ 13) (ok : r.Ok ws) : VB 0 (rowD r) := by
  have el : ∀ l ∈ r.lots, El (lotD l) := fun l h => lot_El W.sub (by rw [W.len]; omega) (ok.sub l h)
  have pt : ∀ ls : List (List Str), ls.length ≤ 60 → (∀ l ∈ ls, l ∈ r.lots) → partB 0 (lotsD ls) = true := fun ls h1 h2 => part_tup.mpr ⟨by rw [List.length_map]; omega, fun z hz => by
    obtain ⟨l, hl, rfl⟩ := List.mem_map.mp hz
    exact el l (h2 l hl)⟩
  refine .inl ⟨_, rfl, by simp, fun x hx => ?_⟩
  have p : (10 : Nat) ^ 40 ≤ 10 ^ 50 := by decide +kernel
  rcases (by simpa using hx : x = .int r.first ∨ x = lotsD r.left ∨ x = lotsD r.mid ∨ x = lotsD r.right) with rfl | rfl | rfl | rfl
  · exact d8_mono (int_d8 (Nat.le_trans ok.far p)) (by omega) (by omega)
  · exact pt _ (by have := ok.l2; omega) fun l h => by simp [Row.lots, h]
  · exact pt _ ok.m fun l h => by simp [Row.lots, h]
  · exact pt _ (by have := ok.r2; omega) fun l h => by simp [Row.lots, h]
/-! ### paths -/
theorem firstBad_le {p : PyData → Bool} : ∀ (j0 : Nat) {r : List PyData} {j : Nat}, firstBad p j0 r = some j → j ≤ j0 + r.length
  | _, [], _, e => by cases e
  | j0, a :: r, j, e => by
    unfold firstBad at e
    split at e
    · obtain rfl := Option.some.inj e; omega
    · have := firstBad_le (j0 + 1) e
      rw [List.length_cons]; omega
/-- few small numbers -/
def Few (p : List PyData) : Prop := p.length ≤ 2 ∧ ∀ x ∈ p, ∃ i : Nat, x = .int (i : Nat) ∧ i ≤ 2000
theorem few_1 {k : Nat} (hk : k ≤ 2000) : Few [.int (k : Nat)] := ⟨by simp, fun x hx => ⟨k, List.mem_singleton.mp hx, hk⟩⟩
theorem wrongL_few {k : Nat} {d : PyData} {p : List PyData} (hk : k ≤ 5) (ha : allA d = true) (h : wrongL k d = some p) : Few p := by
  unfold wrongL at h
  split at h
  · split at h
    · obtain rfl := Option.some.inj h
      exact few_1 (by omega)
    · rename_i xs _
      cases e : firstBad (fun x => !isLot x) 0 xs with
      | none => rw [e] at h; cases h
      | some j =>
        rw [e] at h
        obtain rfl := Option.some.inj h
        have := firstBad_le 0 e
        have := (allA_tup.mp ha).1
        refine ⟨by simp, fun x hx => ?_⟩
        rcases (by simpa using hx : x = .int (k : Nat) ∨ x = .int (j : Nat)) with rfl | rfl
        · exact ⟨k, rfl, by omega⟩
        · exact ⟨j, rfl, by omega⟩
  · obtain rfl := Option.some.inj h
    exact few_1 (by omega)
theorem firstL_few : ∀ (k : Nat) (xs : List PyData), k + xs.length ≤ 5 → (∀ x ∈ xs, allA x = true) → firstL k xs = [] ∨ ∃ p, firstL k xs = [.tuple p] ∧ Few p
  | _, [], _, _ => .inl rfl
  | k, x :: xs, h, ha => by
    rw [List.length_cons] at h
    unfold firstL
    cases e : wrongL k x with
    | none => exact firstL_few (k + 1) xs (by omega) fun y hy => ha y (List.mem_cons_of_mem _ hy)
    | some p => exact .inr ⟨p, rfl, wrongL_few (by omega) (ha x (List.mem_cons_self ..)) e⟩
theorem path_few {d : PyData} (ha : allA d = true) : pathR d = [] ∨ ∃ p, pathR d = [.tuple p] ∧ Few p := by
  unfold pathR
  split
  · split
    · exact firstL_few 1 _ (by simp) fun y hy => (allA_tup.mp ha).2 y (List.mem_cons_of_mem _ hy)
    · exact .inr ⟨_, rfl, few_1 (k := 0) (by omega)⟩
  · exact .inr ⟨_, rfl, by simp, fun x hx => absurd hx (by simp)⟩
theorem few_d8 {p : List PyData} (h : Few p) : d8 400 3 (.tuple p) = true ∧ okD1 (.list [.tuple p]) := by
  obtain ⟨l, h⟩ := h
  have q := p100
  refine ⟨d8_mono (d8_tup (n := 150) (m := 2) (fun x hx => ?_) (by omega)) (mul_b (q := 2) 150 l (by omega)) (by omega), okD1_lst fun x hx => ?_⟩
  · obtain ⟨i, rfl, hi⟩ := h x hx
    have : (10 : Nat) ^ 4 ≤ 10 ^ 50 := by decide +kernel
    exact int_d8 (by omega)
  · rw [List.mem_singleton.mp hx]
    have one : ∀ x ∈ p, tame x = true ∧ x.canLay0 = true ∧ x.depth = 0 := fun x hx => by
      obtain ⟨i, rfl, hi⟩ := h x hx
      exact ⟨by simp only [tame]; exact decide_eq_true (by omega), rfl, rfl⟩
    refine ⟨by simp only [tame]; exact tameAll_iff.mpr fun x hx => (one x hx).1, canAll fun x hx => (one x hx).2.1, ?_⟩
    have := depthAll_le (n := 0) fun x hx => Nat.le_of_eq (one x hx).2.2
    simp only [PyData.depth]; omega
theorem path_d8 {d : PyData} (ha : allA d = true) : d8 500 4 (.list (pathR d)) = true ∧ okD1 (.list (pathR d)) := by
  rcases path_few ha with e | ⟨p, e, f⟩
  · rw [e]; exact ⟨by decide +kernel, okD1_nil⟩
  · rw [e]
    obtain ⟨a, b⟩ := few_d8 f
    exact ⟨d8_mono (d8_lst (n := 400) (m := 3) (fun x hx => by rw [List.mem_singleton.mp hx]; exact a) (by simp)) (by simp) (by omega), b⟩
theorem told_okY {d : PyData} (ha : allA d = true) : okY (.list [.list (pathR d), .list (pathR d)]) := by
  have a := (path_d8 ha).1
  refine d8_okY (n := 1100) (m := 5) (d8_mono (d8_lst (n := 500) (m := 4) (fun x hx => ?_) (by simp)) (by simp) (by omega)) (by omega) (by omega)
  rcases (by simpa using hx : x = .list (pathR d)) with rfl
  exact a
/-! ### the end -/
theorem firstBad_all {p : PyData → Bool} : ∀ (j : Nat) {xs : List PyData}, (∀ x ∈ xs, p x = false) → firstBad p j xs = none
  | _, [], _ => rfl
  | j, x :: xs, h => by
    show (if p x then _ else _) = _
    rw [h x (List.mem_cons_self ..), if_neg (by decide)]
    exact firstBad_all (j + 1) fun y hy => h y (List.mem_cons_of_mem _ hy)
theorem wrongL_all {k : Nat} {us : List PyData} (ne : us ≠ []) (h : ∀ u ∈ us, isLot u = true) : wrongL k (.tuple us) = none := by
  show (if us.isEmpty && decide (k ≠ 2) then _ else _) = _
  have e : us.isEmpty = false := by cases us <;> first | rfl | exact absurd rfl ne
  rw [e, Bool.false_and, if_neg (by decide), firstBad_all 0 fun u hu => by rw [h u hu]; rfl]
  rfl
def manyL : List PyData := (List.range 40).map fun (i : Nat) => PyData.str ("a" ++ toString ((10 : Int) + (i : Nat)))
def wideL : List PyData := [.int (10 ^ 39), .tuple (List.replicate 30 [PyData.tuple manyL]).flatten, .tuple (List.replicate 30 [PyData.tuple [], PyData.tuple manyL]).flatten, .tuple (List.replicate 30 [PyData.tuple manyL]).flatten]
theorem many_ok : isLot (.tuple manyL) = true ∧ allA (.tuple manyL) = true ∧ isLot (.tuple []) = true ∧ allA (.tuple []) = true := by decide +kernel
theorem in_rep {x : PyData} {n : Nat} {l : List PyData} (h : x ∈ (List.replicate n l).flatten) : x ∈ l := by
  obtain ⟨a, ha, hx⟩ := List.mem_flatten.mp h
  rw [List.eq_of_mem_replicate ha] at hx
  exact hx
theorem rep_ok {n : Nat} {l : List PyData} (hn : n = 30) (hl : l.length ≤ 2) (h : ∀ x ∈ l, isLot x = true ∧ allA x = true) : allA (.tuple (List.replicate n l).flatten) = true := by
  subst hn
  refine allA_tup.mpr ⟨?_, fun x hx => (h x (in_rep hx)).2⟩
  rw [List.length_flatten, List.map_replicate, List.sum_replicate_nat]
  omega
theorem wide_ok : pathR (.tuple wideL) = [] ∧ allA (.tuple wideL) = true := by
  obtain ⟨m1, m2, m3, m4⟩ := many_ok
  have h1 : ∀ x ∈ [PyData.tuple manyL], isLot x = true ∧ allA x = true := fun x hx => by rw [List.mem_singleton.mp hx]; exact ⟨m1, m2⟩
  have h2 : ∀ x ∈ [PyData.tuple [], PyData.tuple manyL], isLot x = true ∧ allA x = true := fun x hx => by
    rcases (by simpa using hx : x = .tuple [] ∨ x = .tuple manyL) with rfl | rfl
    · exact ⟨m3, m4⟩
    · exact ⟨m1, m2⟩
  refine ⟨?_, ?_⟩
  · show firstL 1 [PyData.tuple (List.replicate 30 [PyData.tuple manyL]).flatten, PyData.tuple (List.replicate 30 [PyData.tuple [], PyData.tuple manyL]).flatten, PyData.tuple (List.replicate 30 [PyData.tuple manyL]).flatten] = []
    unfold firstL
    rw [wrongL_all (by simp [List.replicate_succ]) fun u hu => (h1 u (in_rep hu)).1]
    unfold firstL
    rw [wrongL_all (by simp [List.replicate_succ]) fun u hu => (h2 u (in_rep hu)).1]
    unfold firstL
    rw [wrongL_all (by simp [List.replicate_succ]) fun u hu => (h1 u (in_rep hu)).1]
    rfl
  · refine allA_tup.mpr ⟨by simp [wideL], fun x hx => ?_⟩
    rcases (by simpa [wideL] using hx : x = .int (10 ^ 39) ∨ _ ∨ _ ∨ _) with rfl | rfl | rfl | rfl
    · rfl
    · exact rep_ok rfl (by simp) h1
    · exact rep_ok rfl (by simp) h2
    · exact rep_ok rfl (by simp) h1
def nilT : PyData := .tuple []
def pairs : List (PyData × List PyData) := [(.tuple [.int 0, nilT, nilT, nilT], [.int 1]), (.tuple [.int 0, .tuple [nilT], .list [], nilT], [.int 2]), (.tuple [.bool true, nilT, nilT, nilT], [.int 0]),
  (.tuple [.int 0, .tuple [nilT, .tuple [.str "b", .str "a"]], .none, nilT], [.int 1, .int 1]), (.tuple [.int 0, .tuple [nilT], .tuple [nilT, nilT], nilT], [.int 3]), (.tuple [.int 0, .tuple [nilT], .tuple [.tuple [.str "a", .str "a"]], nilT], [.int 2, .int 0])]
def pairsA : List (PyData × List PyData) := (.tuple (Pu.cutD wideL none (some 3)), []) :: pairs
theorem pairs_ok : ∀ p ∈ pairs, allA p.1 = true ∧ PyData.eqv (.list (pathR p.1)) (.list [.tuple p.2]) = true ∧ p.2.length ≤ 2 ∧ (p.2.all fun x => match x with | .int i => decide (0 ≤ i ∧ i ≤ 2000) | _ => false) = true := by decide +kernel
theorem cut_wide : Pu.cutD wideL none (some 3) = wideL.take 3 := cut_take (n := 3)
theorem pairsA_ok : ∀ p ∈ pairsA, allA p.1 = true ∧ okD1 (.list (pathR p.1)) ∧ okD1 (.list [.tuple p.2]) ∧ PyData.eqv (.list (pathR p.1)) (.list [.tuple p.2]) = true := by
  intro p hp
  rcases List.mem_cons.mp hp with rfl | hp
  · have ha : allA (.tuple (Pu.cutD wideL none (some 3))) = true := by
      rw [cut_wide]
      refine allA_tup.mpr ⟨by rw [List.length_take]; omega, fun x hx => (allA_tup.mp wide_ok.2).2 x (List.mem_of_mem_take hx)⟩
    have e : pathR (.tuple (Pu.cutD wideL none (some 3))) = [.tuple []] := by rw [cut_wide]; rfl
    refine ⟨ha, ?_, (few_d8 ⟨by simp, by simp⟩).2, ?_⟩
    · exact (path_d8 ha).2
    · show PyData.eqv (.list (pathR (.tuple (Pu.cutD wideL none (some 3))))) _ = true
      rw [e]; rfl
  · obtain ⟨ha, he, hl, hq⟩ := pairs_ok p hp
    refine ⟨ha, (path_d8 ha).2, (few_d8 ⟨hl, fun x hx => ?_⟩).2, he⟩
    have := List.all_eq_true.mp hq x hx
    cases x
    case int i =>
      have h := of_decide_eq_true this
      exact ⟨i.toNat, by rw [Int.toNat_of_nonneg h.1], by omega⟩
    all_goals cases this
theorem strs_of {zs : List PyData} (h : ∀ z ∈ zs, ∃ w : Str, z = .str w ∧ okT w = true) : ∃ ws : List Str, zs = ws.map PyData.str ∧ strsD zs = some ws ∧ ∀ w ∈ ws, okT w = true := by
  induction zs with
  | nil => exact ⟨[], rfl, rfl, by simp⟩
  | cons z zs ih =>
    obtain ⟨w, rfl, hw⟩ := h z (List.mem_cons_self ..)
    obtain ⟨ws, rfl, e, hs⟩ := ih fun y hy => h y (List.mem_cons_of_mem _ hy)
    refine ⟨w :: ws, rfl, by simp [strsD, e], fun y hy => ?_⟩
    rcases List.mem_cons.mp hy with rfl | hy
    · exact hw
    · exact hs y hy
theorem bool_okY (b : Bool) : okY (.bool b) := d8_okY (bool_d8 b) (by omega) (by omega)
theorem num_ok : ∀ i < 40, ((10 : Int) + (i : Nat)).natAbs.log2 < 1920 ∧ (toString ((10 : Int) + (i : Nat)) : Str).length ≤ 10 := by decide +kernel
theorem row0_ok : (pathR (.tuple [.int 0, .tuple [.tuple []], .tuple [], .tuple [.tuple []]])).isEmpty = true ∧ allA (.tuple [.int 0, .tuple [.tuple []], .tuple [], .tuple [.tuple []]]) = true := by decide +kernel
theorem empty_nil {xs : List PyData} (h : xs.isEmpty = true) : xs = [] := by cases xs <;> first | rfl | cases h
def encP (p : PyData × List PyData) : PyData := .tuple [p.1, .tuple p.2]
/-- check_row of a row -/
def m_check_row_in : FN := fun ss R => ∃ d, ss = [.d d] ∧ allA d = true ∧ pathR d = [] ∧ R (.d .none)
theorem check_in : ∀ (ss : List Sl) (R : DK), m_check_row_in ss R → m_check_row ss fun s => R s ∧ ∀ ds, s ≠ excS ds := by
  rintro ss R ⟨d, rfl, ha, e, hR⟩
  exact ⟨d, rfl, ha, fun _ => ⟨hR, fun ds z => by cases z⟩, fun p z => by rw [e] at z; cases z⟩
end Law

end

section
set_option maxHeartbeats 4000000
namespace Law
open PySem L2 PyProof.Rows RZ Pu
def top (i : Nat) : Stmt := PySem.Challenge.pw_splitsays_k01_whole_rows_judged.main.body.getD i (.Pass ⟨0, 0, 0, 0⟩)
abbrev sSource : Stmt := top 16
abbrev sPick : Stmt := top 17
abbrev s_is_small_letter : Stmt := top 5
abbrev s_is_digit : Stmt := top 6
abbrev s_is_word : Stmt := top 7
abbrev s_is_integer : Stmt := top 8
abbrev s_is_number : Stmt := top 9
abbrev s_is_lot : Stmt := top 11
abbrev s_check_row : Stmt := top 12
abbrev s__wrong_part : Stmt := top 13
abbrev s__wrong_lots : Stmt := top 14
abbrev s__law_source : Stmt := top 16
abbrev s__law_pick : Stmt := top 17
abbrev s__law_of : Stmt := top 18
abbrev s__law_mixed : Stmt := top 19
abbrev s__law_odd : Stmt := top 20
abbrev s__law_words : Stmt := top 21
abbrev s__law_lot : Stmt := top 22
abbrev s__law_row : Stmt := top 23
abbrev s__law_wide_row : Stmt := top 24
abbrev s__law_is_word : Stmt := top 25
abbrev s__law_is_integer : Stmt := top 26
abbrev s__law_right_lot : Stmt := top 27
abbrev s__law_path : Stmt := top 28
abbrev s__law_any_word : Stmt := top 29
abbrev s__law_any_row : Stmt := top 30
abbrev s__law_told_path : Stmt := top 31
abbrev s__law_deep : Stmt := top 32
abbrev s__law_strange : Stmt := top 33
abbrev s__law_bent : Stmt := top 34
abbrev s__law_words_right : Stmt := top 35
abbrev s_law : Stmt := top 36
abbrev s_BadRow_init : Stmt := inClass (top 2) 0
/-- what the top has written -/
structure Blt (w : World) (K : PySem.W.Frag) (mg : Str → Option Value) : Prop where
  m_abs : mg "abs" = none
  m_all : mg "all" = none
  m_bool : mg "bool" = none
  m_dict : mg "dict" = none
  m_enumerate : mg "enumerate" = none
  m_int : mg "int" = none
  m_isinstance : mg "isinstance" = none
  m_len : mg "len" = none
  m_list : mg "list" = none
  m_max : mg "max" = none
  m_range : mg "range" = none
  m_repr : mg "repr" = none
  m_set : mg "set" = none
  m_sorted : mg "sorted" = none
  m_str : mg "str" = none
  m_tuple : mg "tuple" = none
  m_zip : mg "zip" = none
  c_LONGEST_WORD : ∃ u, mg "LONGEST_WORD" = some (.int 12 u)
  e_BadRow : ∃ C fI fd, ExC K mg "BadRow" C fI "path" ∧ Fun K "__init__" "BadRow.__init__" s_BadRow_init fI fd ∧ Binds K fd ["self", "path"] []
section
variable {P : Program} {w : World} {K : PySem.W.Frag} {mg : Str → Option Value} {base : Heap}
theorem scSource : FnScope ["script", "mixed", "cell"] ["script"] (defScope sSource) := ⟨rfl, rfl, rfl, by decide +kernel, rfl, by decide +kernel, by decide +kernel⟩
/-- the source: a new dict with its cells in a new list -/
def spSource (K : PySem.W.Frag) : Sp := fun vs H Q _ => ∃ (a : Addr) (ns : List Int), vs = [.ref a] ∧ SqL K H a (ns.map V.int) ∧ ns.length ≤ 100 ∧ ∀ H' p c, Same H H' → H p = none → H c = none → SrcAt H' p c → Q (.ref p) H'
theorem ok_source {f : Addr} {fd : FuncData} (F : Fun K "_law_source" "_law_source" sSource f fd) (T : Blt w K mg) : FnOk P w K mg base CX0 1 f fd ["script"] (spSource K) := by
  refine F.ok scSource (fun vs H Q E h => ?_) (fun cdv A outer s H vs Q E hr h => ?_)
  · obtain ⟨a, ns, rfl, _⟩ := h
    rfl
  · obtain ⟨a, ns, rfl, hS, hlen, k⟩ := h
    refine ⟨_, pss_cons (ps_set (i := 1) scSource.nd rfl (Or.inl rfl) pe_int)
      (pss_cons (ps_for PassesOwn.never rfl (pi_list (pv 0)) (pg_name (i := 2) scSource.nd rfl (Or.inl rfl))
        (pss_one (ps_set (i := 1) scSource.nd rfl (Or.inl rfl) (pe_op op_mod (pe_callTy call_int1 (by rfl) T.m_int (by decide +kernel) (pa_cons (pe_op op_add (pe_op op_add (pe_op op_mul (pv 1) pe_int) (pe_op op_mul (pv 2) pe_int)) pe_int) pa_nil)) pe_int))))
      (pss_one (ps_ret (pe_disp (pps_cons pe_str (pe_revL (pe_lc (own := [("cell", 2)]) (g := gName 2) (tt := tYes) rfl scSource.nd (pi_list (pv 0)) (blkOk_by (N := ["script", "mixed", "cell"]) (sc := defScope sSource) (by decide +kernel)) (fun _ _ _ _ _ => pg_name (i := 2) scSource.nd rfl (Or.inl rfl)) (fun _ _ _ _ _ => pts_nil)
          (fun _ _ _ _ _ => pe_callB call_abs (by rfl) T.m_abs (by decide +kernel) (pa_cons (pv 2) pa_nil))))
        (pps_cons pe_str pe_int (pps_cons pe_str (pv 1) (pps_cons pe_str pe_int pps_nil)))) (by rfl) (by rfl) (fun z => by cases z) (by decide))))), ?_⟩
    refine ⟨_, rfl, a, rfl, ⟨_, hS⟩, for_list (K := K) (a := a) (xs := ns.map V.int) (fun i σ H' => ∃ (m : Int) (v : Option V), σ = [some (.ref a), some (.int m), v] ∧ H' = H) ⟨11, none, rfl, rfl⟩ (fun i σ H' _ ⟨_, _, _, e⟩ => e ▸ hS) ?_ ?_⟩
    · rintro i y σ H' hi ⟨m, v, rfl, rfl⟩
      obtain ⟨u, rfl⟩ : ∃ u, y = V.int u := by
        rw [List.getElem?_map] at hi
        cases e : ns[i]? with
        | none => rw [e] at hi; cases hi
        | some u => rw [e] at hi; exact ⟨u, (Option.some.inj hi).symm⟩
      refine ⟨_, rfl, _, _, rfl, rfl, .inr ⟨by decide, by decide⟩, _, rfl, _, _, rfl, rfl, .inr ⟨by decide, by decide⟩, _, _, rfl, rfl, _, _, rfl, rfl, .inl ⟨_, rfl, _, _, rfl, rfl, ?_, ?_⟩⟩
      · show (0 : Int) < 2147483629
        decide
      · exact ⟨_, _, rfl, rfl⟩
    · rintro σ H' ⟨m, v, rfl, rfl⟩
      intro p hp
      have s1 : Same H' (upd H' p (.dK [])) := fun b o e => by rw [upd_ne (ne_of_none e hp)]; exact e
      refine ⟨_, rfl, a, rfl, ⟨_, s1.seq hS⟩, fun D hD => ?_⟩
      have npD : p ≠ D := fun e => by rw [← e, upd_same] at hD; cases hD
      have hD0 : H' D = none := none_back (fun o e => s1 D o e) hD
      refine lc_list (K := K) (a := a) (xs := ns.map V.int) (fun i H2 => ∃ acc : List Int, acc.length = i ∧ H2 = upd (upd H' p (.dK [])) D (.lst (acc.map V.int))) ⟨[], rfl, rfl⟩ ?_ ?_ ?_
      · rintro i H2 _ ⟨acc, _, rfl⟩
        exact Same.seq (fun b o e => by rw [upd_ne (ne_of_none e hD)]; exact e) (s1.seq hS)
      · rintro i y H2 hi ⟨acc, hl, rfl⟩
        have hi63 : i < ns.length := by
          have q := (List.getElem?_eq_some_iff.mp hi).1
          rw [List.length_map] at q
          exact q
        obtain ⟨u, rfl⟩ : ∃ u, y = V.int u := by
          rw [List.getElem?_map] at hi
          cases e : ns[i]? with
          | none => rw [e] at hi; cases hi
          | some u => rw [e] at hi; exact ⟨u, (Option.some.inj hi).symm⟩
        refine ⟨rfl, ?_⟩
        simp only [tYes, ↓reduceIte]
        refine ⟨_, rfl, u, rfl, acc.map V.int, upd_same, ?_, acc ++ [if u < 0 then -u else u], by simp [hl], ?_⟩
        · rw [List.length_map, hl]
          exact small1000 (by omega)
        · rw [upd_upd]
          simp
      · rintro H2 ⟨acc, hl, rfl⟩
        refine ⟨D, _, rfl, SqL.of upd_same, fun c hc => ?_⟩
        have npc : p ≠ c := fun e => by rw [← e, upd_ne npD, upd_same] at hc; cases hc
        have nDc : D ≠ c := fun e => by rw [← e, upd_same] at hc; cases hc
        have hc0 : H' c = none := by
          rw [upd_ne (Ne.symm nDc), upd_ne (Ne.symm npc)] at hc
          exact hc
        refine ⟨_, rfl, ?_⟩
        refine ⟨by rw [upd_ne npc, upd_ne npD, upd_same], [(Sum.inr "cells", .ref c), (Sum.inr "left", .int 1), (Sum.inr "mixed", .int m), (Sum.inr "turn", .int 0)], rfl, by show 4 ≤ 15; decide, ?_⟩
        refine k _ p c (fun b o e => ?_) hp hc0 ⟨acc.reverse, 1, m, 0, ?_, ?_⟩
        · rw [upd_ne (ne_of_none e hp), upd_ne (ne_of_none e hc0), upd_ne (ne_of_none e hD0), upd_ne (ne_of_none e hp)]
          exact e
        · rw [upd_same]
          rfl
        · rw [upd_ne (Ne.symm npc), upd_same]
          simp
theorem scPick : FnScope ["source", "many", "left", "mixed"] ["source", "many"] (defScope sPick) := ⟨rfl, rfl, rfl, by decide +kernel, rfl, by decide +kernel, by decide +kernel⟩
/-- a number below many (0 where many is less than 1) -/
def SrcIs (H : Hp) (a c : Addr) (ns : List Int) (l m t : Int) : Prop := H a = some (.dK (srcD c l m t)) ∧ H c = some (.lst (ns.map V.int))
theorem SrcIs.ne {H : Hp} {a c : Addr} {ns : List Int} {l m t : Int} (h : SrcIs H a c ns l m t) : a ≠ c := ne_of h.1 h.2 (by intro z; cases z)
theorem get_left {c : Addr} {l m t : Int} : valV (srcD c l m t) (Sum.inr "left") = some (.int l) := rfl
theorem get_cells {c : Addr} {l m t : Int} : valV (srcD c l m t) (Sum.inr "cells") = some (.ref c) := rfl
theorem get_mixed {c : Addr} {l m t : Int} : valV (srcD c l m t) (Sum.inr "mixed") = some (.int m) := rfl
theorem get_turn {c : Addr} {l m t : Int} : valV (srcD c l m t) (Sum.inr "turn") = some (.int t) := rfl
theorem srcput_left {c : Addr} {l m t x : Int} : putK (srcD c l m t) (Sum.inr "left") (.int x) = srcD c x m t := rfl
theorem put_mixed {c : Addr} {l m t x : Int} : putK (srcD c l m t) (Sum.inr "mixed") (.int x) = srcD c l x t := rfl
theorem put_turn {c : Addr} {l m t x : Int} : putK (srcD c l m t) (Sum.inr "turn") (.int x) = srcD c l m x := rfl
theorem SrcIs.put {H : Hp} {a c : Addr} {ns : List Int} {l m t l' m' t' : Int} (h : SrcIs H a c ns l m t) : SrcIs (upd H a (.dK (srcD c l' m' t'))) a c ns l' m' t' := ⟨upd_same, by rw [upd_ne (Ne.symm h.ne)]; exact h.2⟩
/-- all else as it was -/
def But (a c : Addr) (H H' : Hp) : Prop := ∀ b o, b ≠ a → b ≠ c → H b = some o → H' b = some o
theorem But.put {a c : Addr} {H H' : Hp} {o : HO} (h : But a c H H') : But a c H (upd H' a o) := fun b u h1 h2 e => by rw [upd_ne h1]; exact h b u h1 h2 e
theorem small15 {n : Nat} (h : n ≤ 15) : n < sizeLine := small1000 (by omega)
theorem ok_pick {f : Addr} {fd : FuncData} (F : Fun K "_law_pick" "_law_pick" sPick f fd) (T : Blt w K mg) : FnOk P w K mg base CX0 1 f fd ["source", "many"] (spX K 2 mPick) := by
  refine F.ok scPick (fun vs H Q E h => ?_) (fun cdv A outer s H vs Q E hr h => ?_)
  · obtain ⟨hid, Hb, ss, R, st, r, hl, _⟩ := h
    rw [r.length]; exact hl
  · have hu := hu_of hr
    obtain ⟨hid, Hb, ss, R, st, r, hl, ⟨n, rfl, hn, hR⟩, k⟩ := h
    obtain ⟨v1, v2, rfl, e1, e2⟩ := rep2 r
    obtain ⟨a, c, rfl, rfl⟩ := (show ∃ a c, hid = some (a, c) ∧ v1 = .ref a from e1)
    cases int_of e2
    obtain ⟨ns, l, m, t, h1, h2⟩ := st.ok
    have nhb : ∀ b, Hid.has (some (a, c)) b → Hb b = none := st.out
    -- the end: what is asked of the value and the heap
    have fin : ∀ (x : Int) (H' : Hp) (ns' : List Int) (l' m' t' : Int), SrcIs H' a c ns' l' m' t' → But a c H H' → 0 ≤ x → x < (if n > 1 then n else 1) → Q (.int x) H' := fun x H' ns' l' m' t' hs hb h0 h1 => by
      have k1 : ∀ b o, H b = some o → ¬ Hid.has (some (a, c)) b → H' b = some o := fun b o e hb' => hb b o (fun z => hb' (.inl z)) (fun z => hb' (.inr z)) e
      refine k (.int x) Hb H' (.d (.int x)) ⟨⟨fun b o e => k1 b o (st.ex b o e) (fun z => by rw [nhb b z] at e; cases e), ⟨ns', l', m', t', hs.1, hs.2⟩, st.out⟩, Same.refl _, fun b o e q => (by rw [q] at e; cases e), k1⟩ (Dq.int x) trivial (hR x h0 h1)
    refine ⟨_, Evl.pss_cut (ps_while PassesOwn.never (PW.pt (pw_and (pt_cmpR op_gt (pv 1) pe_int (nomark _)) (pw_and (pt_cmpR op_lt (pe_dget hu (pv 0) pe_str (fun _ _ => rfl)) pe_int (nomark _))
          (pw_and1 (pt_cmpR op_gt (pe_callB call_len_seq (by rfl) T.m_len PySem.boot_len (pa_cons (pe_dget hu (pv 0) pe_str (fun _ _ => rfl)) pa_nil)) pe_int (nomark _))))))
        (pss_one (ps_dput hu (pv 0) pe_str (pe_bm0 PySem.F.plainAttrs_list PySem.F.slot_list_pop PySem.F.type_list_pop mt_pop (pe_dget hu (pv 0) pe_str (fun _ _ => rfl))) rfl)))
      (pss_cons (ps_set (i := 2) scPick.nd rfl (Or.inl rfl) (pe_dget hu (pv 0) pe_str (fun _ _ => rfl)))
      (pss_cons (ps_if (PW.pt (pw_or (pt_cmpR op_lt (pv 1) pe_int (nomark _)) (pw_or1 (pt_cmpR op_gt (pv 2) pe_int (nomark _)))))
        (pss_cons (ps_dput hu (pv 0) pe_str (pe_op op_fdiv (pv 2) (pe_callB (call_max2 rfl) (by rfl) T.m_max (by decide +kernel) (pa_cons pe_int (pa_cons (pv 1) pa_nil)))) rfl)
        (pss_one (ps_ret (pe_op op_mod (pe_callTy call_int1 (by rfl) T.m_int (by decide +kernel) (pa_cons (pv 2) pa_nil)) (pe_callB (call_max2 rfl) (by rfl) T.m_max (by decide +kernel) (pa_cons pe_int (pa_cons (pv 1) pa_nil)))))))
        pss_nil)
      (pss_cons (ps_dput hu (pv 0) pe_str (pe_op op_add (pe_dget hu (pv 0) pe_str (fun _ _ => rfl)) pe_int) rfl)
      (pss_cons (ps_set (i := 3) scPick.nd rfl (Or.inl rfl) (pe_op op_mod (pe_callTy call_int1 (by rfl) T.m_int (by decide +kernel) (pa_cons (pe_op op_add (pe_dget hu (pv 0) pe_str (fun _ _ => rfl)) (pe_op op_mul (pe_dget hu (pv 0) pe_str (fun _ _ => rfl)) pe_int)) pa_nil)) pe_int))
      (pss_cons (ps_set (i := 3) scPick.nd rfl (Or.inl rfl) (pe_op op_mod (pe_callTy call_int1 (by rfl) T.m_int (by decide +kernel) (pa_cons (pe_op op_add (pe_op op_mul (pv 3) (pv 3)) (pe_op op_mul (pe_dget hu (pv 0) pe_str (fun _ _ => rfl)) pe_int)) pa_nil)) pe_int))
      (pss_cons (ps_dput hu (pv 0) pe_str (pv 3) rfl)
      (pss_one (ps_ret (pe_op op_mod (pe_callTy call_int1 (by rfl) T.m_int (by decide +kernel) (pa_cons (pe_op op_fdiv (pv 3) pe_int) pa_nil)) (pv 1)))))))))), ?_⟩
    refine ⟨fun σ H' => ∃ (ns' : List Int) (l' m' t' : Int), σ = [some (.ref a), some (.int n), none, none] ∧ SrcIs H' a c ns' l' m' t' ∧ But a c H H', ?_, ?_⟩
    · -- the while: the cells fall
      refine ⟨fun z σ H' => ∃ (ns' : List Int) (l' m' t' : Int), z = ns'.length ∧ σ = [some (.ref a), some (.int n), none, none] ∧ SrcIs H' a c ns' l' m' t' ∧ But a c H H', ⟨_, ns, l, m, t, rfl, rfl, ⟨h1, h2⟩, fun _ _ _ _ e => e⟩, ?_⟩
      rintro z σ H' ⟨ns', l', m', t', rfl, rfl, hs, hb⟩
      refine ⟨_, rfl, _, _, rfl, rfl, _, rfl, ?_⟩
      refine ite2 (fun _ => ?_) (fun _ => ⟨ns', l', m', t', rfl, hs, hb⟩)
      refine ⟨_, rfl, a, _, rfl, DGet.k (k := Sum.inr "left") hs.1, _, _, rfl, rfl, _, rfl, ?_⟩
      refine ite2 (fun _ => ?_) (fun _ => ⟨ns', l', m', t', rfl, hs, hb⟩)
      refine ⟨_, rfl, a, _, rfl, DGet.k (k := Sum.inr "cells") hs.1, c, _, rfl, .inl (SqL.of hs.2), _, _, rfl, rfl, _, rfl, ?_⟩
      rw [List.length_map]
      refine ite2 (fun hlen => ?_) (fun _ => ⟨ns', l', m', t', rfl, hs, hb⟩)
      have hpos : 0 < ns'.length := by
        have := of_decide_eq_true hlen
        omega
      refine ⟨fun σ2 H2 => ∃ (ns2 : List Int) (l2 m2 t2 : Int), ns2.length < ns'.length ∧ σ2 = [some (.ref a), some (.int n), none, none] ∧ SrcIs H2 a c ns2 l2 m2 t2 ∧ But a c H H2, fun σ2 H2 ⟨ns2, l2, m2, t2, q1, q2, q3, q4⟩ => ⟨_, q1, ns2, l2, m2, t2, rfl, q2, q3, q4⟩, ?_⟩
      have hlast : (ns'.map V.int)[(ns'.map V.int).length - 1]? = some (.int (ns'.getLast (List.ne_nil_of_length_pos hpos))) := by
        rw [List.length_map, List.getElem?_map, ← List.getLast?_eq_getElem?, List.getLast?_eq_some_getLast (List.ne_nil_of_length_pos hpos)]
        rfl
      refine ⟨_, rfl, a, _, rfl, DGet.k (k := Sum.inr "cells") hs.1, .inl ⟨rfl, _, SqL.of hs.2⟩, c, _, _, rfl, rfl, hs.2, hlast, ?_⟩
      have nac := hs.ne
      refine ⟨_, rfl, a, _, rfl, DPut.k (k := Sum.inr "left") (kvs := srcD c l' m' t') (by rw [upd_ne nac]; exact hs.1) (small15 (by show 4 ≤ 15; decide)), ?_⟩
      refine ⟨ns'.dropLast, _, m', t', by rw [List.length_dropLast]; omega, rfl, ⟨by rw [srcput_left]; exact upd_same, by rw [upd_ne (Ne.symm nac), upd_same, List.map_dropLast]⟩, fun b o g1 g2 e => ?_⟩
      rw [upd_ne g1, upd_ne g2]
      exact hb b o g1 g2 e
    · rintro σ H' ⟨ns', l', m', t', rfl, hs, hb⟩
      -- left = source['left']
      refine ⟨_, rfl, a, _, rfl, DGet.k (k := Sum.inr "left") hs.1, ?_⟩
      have way : 0 < (if n > 1 then n else 1 : Int) ∧ (if n > 1 then n else 1 : Int) < 1073741824 := by split <;> omega
      have out : ∀ (H1 : Hp), H1 = H' → tSeq (sDPut (tVar 0) (tC (.str "left")) (tOp (rI CDiv fun i j => .int (i / j)) (tVar 2) (tCB (fun xs H Q => ∃ i j, xs = [.int i, .int j] ∧ Q (.int (if j > i then j else i)) H) (tCons (tC (.int 1)) (tCons (tVar 1) tNil)))))
          (tRet (tOp (rI (fun _ j => 0 < j) fun i j => .int (i % j)) (tCB (fun xs H Q => (∃ i, xs = [.int i] ∧ Q (.int i) H) ∨ ∃ k, xs = [.bl k] ∧ Q (.int (if k then 1 else 0)) H) (tCons (tVar 2) tNil)) (tCB (fun xs H Q => ∃ i j, xs = [.int i, .int j] ∧ Q (.int (if j > i then j else i)) H) (tCons (tC (.int 1)) (tCons (tVar 1) tNil)))))
          { nx := fun _ _ => False, rt := Q } [some (.ref a), some (.int n), some (.int l'), none] H1 := by
        rintro H1 rfl
        refine ⟨_, rfl, _, rfl, _, _, rfl, _, _, rfl, rfl, way, _, rfl, a, _, rfl, DPut.k (k := Sum.inr "left") hs.1 (small15 (by show 4 ≤ 15; decide)), ?_⟩
        refine ⟨_, rfl, .inl ⟨_, rfl, _, rfl, _, _, rfl, _, _, rfl, rfl, way.1, ?_⟩⟩
        rw [srcput_left]
        exact fin _ _ ns' _ m' t' hs.put hb.put (Int.emod_nonneg _ (by omega)) (Int.emod_lt_of_pos _ way.1)
      -- if many < 2 or left > 1
      refine ⟨_, rfl, _, _, rfl, rfl, _, rfl, ?_⟩
      refine ite2 (fun _ => ?_) (fun hn2 => ?_)
      · exact out H' rfl
      · refine ⟨_, rfl, _, _, rfl, rfl, _, rfl, ?_⟩
        refine ite2 (fun _ => ?_) (fun _ => ?_)
        · exact out H' rfl
        · have hn2' : 2 ≤ n := by
            have : ¬ n < 2 := fun z => hn2 (decide_eq_true z)
            omega
          -- source['turn'] = source['turn'] + 1
          refine ⟨_, rfl, a, _, rfl, DGet.k (k := Sum.inr "turn") hs.1, _, _, rfl, rfl, _, rfl, a, _, rfl, DPut.k (k := Sum.inr "turn") hs.1 (small15 (by show 4 ≤ 15; decide)), ?_⟩
          rw [put_turn]
          have hs1 : SrcIs (upd H' a (.dK (srcD c l' m' (t' + 1)))) a c ns' l' m' (t' + 1) := hs.put
          have hb1 : But a c H (upd H' a (.dK (srcD c l' m' (t' + 1)))) := hb.put
          refine ⟨_, rfl, a, _, rfl, DGet.k (k := Sum.inr "mixed") hs1.1, _, rfl, a, _, rfl, DGet.k (k := Sum.inr "turn") hs1.1, _, _, rfl, rfl, .inr ⟨by decide, by decide⟩, _, _, rfl, rfl, .inl ⟨_, rfl, _, _, rfl, rfl, ?_, ?_⟩⟩
          · show (0 : Int) < 998244353
            decide
          have p1 := Int.emod_nonneg (m' + (t' + 1) * 104729) (show (998244353 : Int) ≠ 0 by decide)
          have p2 := Int.emod_lt_of_pos (m' + (t' + 1) * 104729) (show (0 : Int) < 998244353 by decide)
          refine ⟨_, rfl, _, rfl, _, _, rfl, rfl, .inl ⟨by omega, by omega⟩, _, rfl, a, _, rfl, DGet.k (k := Sum.inr "turn") hs1.1, _, _, rfl, rfl, .inr ⟨by decide, by decide⟩, _, _, rfl, rfl, .inl ⟨_, rfl, _, _, rfl, rfl, ?_, ?_⟩⟩
          · show (0 : Int) < 2147483647
            decide
          refine ⟨_, rfl, _, rfl, a, _, rfl, DPut.k (k := Sum.inr "mixed") hs1.1 (small15 (by show 4 ≤ 15; decide)), ?_⟩
          rw [put_mixed]
          refine ⟨_, rfl, _, _, rfl, rfl, ⟨by decide, by decide⟩, .inl ⟨_, rfl, _, rfl, _, _, rfl, rfl, by omega, ?_⟩⟩
          exact fin _ _ ns' l' _ _ hs1.put hb1.put (Int.emod_nonneg _ (by omega)) (by rw [if_pos (by omega)]; exact Int.emod_lt_of_pos _ (by omega))

theorem sc_mixed : FnScope ["source", "things", "rest", "lap"] ["source", "things"] (defScope s__law_mixed) := ⟨rfl, rfl, rfl, by decide +kernel, rfl, by decide +kernel, by decide +kernel⟩
theorem DqAll.eraseIdx {H : Hp} : ∀ {ds : List PyData} {vs : List V} (n : Nat), DqAll K H vs ds → DqAll K H (vs.eraseIdx n) (ds.eraseIdx n)
  | _, _, _, .nil => .nil
  | _, _, 0, .cons _ t => t
  | _, _, n + 1, .cons h t => .cons h (DqAll.eraseIdx n t)
theorem small1000000 {n : Nat} (h : n ≤ 1000000) : n < sizeLine := by rw [sizeLine_eq]; omega
theorem perm_pop {α : Type} {as rs : List α} {k : Nat} {y : α} (h : rs[k]? = some y) : ((as ++ [y]) ++ rs.eraseIdx k).Perm (as ++ rs) := by
  rw [List.append_assoc]
  exact List.Perm.append_left as (erase_perm rs k y h)
theorem fn_mixed (A : At K mg "_law_mixed" s__law_mixed ["source", "things"]) (T : Blt w K mg) (G_pick : Fn P w K mg base "_law_pick" 1 ["source", "many"] (spX K 2 mPick)) : Fn P w K mg base "_law_mixed" 2 ["source", "things"] (spX K 2 mMixed) := by
  obtain ⟨gf, gfd, gm, gk, gb, GP⟩ := G_pick.ex
  refine .mk' A fun f fd Fu => goes_of0 Fu sc_mixed (fun vs H Q E h => ?_) (fun cdv B above s H vs Q E hr hsp => ?_)
  · obtain ⟨hid, Hb, ss, R, st, r, hl, _⟩ := h
    rw [r.length]; exact hl
  · obtain ⟨hid, Hb, ss, R, st, r, hl, ⟨xs, rfl, hx, hm⟩, c⟩ := hsp
    refine ⟨_, pss_cons (ps_set (i := 2) sc_mixed.nd rfl (by first | exact Or.inl rfl | exact Or.inr rfl) (pe_callTy (k_list (K := K) rfl) (by rfl) T.m_list (by decide +kernel) (pa_cons (pe_var (i := 1) rfl (by first | exact Or.inl rfl | exact Or.inr (Or.inl rfl)) (by decide) (by decide)) pa_nil)))
      (pss_one (ps_ret (pe_lc (own := [("lap", 3)]) (g := gName 3) (tt := tYes) (te := tBM K "list" rPopAt (tVar 2) (tCons (tFn (spX K 2 mPick) (tCons (tVar 0) (tCons (tCB (fun xs H Q => ∃ x n, xs = [x] ∧ LenV K x H n ∧ Q (.int n) H) (tCons (tVar 2) tNil)) tNil))) tNil)) rfl sc_mixed.nd
        (pi_range1 (by rfl) T.m_range (pa_cons (pe_callB (k_len (K := K) rfl) (by rfl) T.m_len (by decide +kernel) (pa_cons (pe_var (i := 2) rfl (by first | exact Or.inl rfl | exact Or.inr (Or.inl rfl)) (by decide) (by decide)) pa_nil)) pa_nil))
        (blkOk_by (N := ["source", "things", "rest", "lap"]) (sc := defScope s__law_mixed) (by decide +kernel)) (fun _ _ _ _ _ => pg_name (i := 3) sc_mixed.nd rfl (by first | exact Or.inl rfl | exact Or.inr rfl)) (fun _ _ _ _ _ => pts_nil)
        (fun _ _ _ _ _ => pe_bm PySem.F.plainAttrs_list PySem.F.slot_list_pop PySem.F.type_list_pop mt_popAt (pe_var (i := 2) rfl (by first | exact Or.inl rfl | exact Or.inr (Or.inl rfl) | exact Or.inr (Or.inr rfl)) (by decide) (by decide))
          (pa_cons (pe_callG GP (hr.mono (by decide)) (by rfl) gm gk gb pass0 (pa_cons (pe_var (i := 0) rfl (by first | exact Or.inl rfl | exact Or.inr (Or.inl rfl) | exact Or.inr (Or.inr rfl)) (by decide) (by decide)) (pa_cons (pe_callB (k_len (K := K) rfl) (by rfl) T.m_len (by decide +kernel) (pa_cons (pe_var (i := 2) rfl (by first | exact Or.inl rfl | exact Or.inr (Or.inl rfl) | exact Or.inr (Or.inr rfl)) (by decide) (by decide)) pa_nil)) pa_nil))) pa_nil))))), ?_⟩
    cases r with
    | @cons v0 vs0 s0 ss0 r0 e0 r1 =>
    obtain ⟨v1, rfl, rT⟩ := rep1 r1
    obtain ⟨sa, sc', ehid, rfl⟩ := (show RepSl K hid Hb H v0 .src from r0)
    cases (show Dq K Hb v1 (.list xs) from rT) with
    | @lst th vs _ h1 h2 =>
    have hlen := DqAll.length h2
    refine ⟨.ref th, rfl, th, vs, rfl, .inl (SqL.of (st.ex _ _ h1)), fun l hl0 => ?_⟩
    have nl : ¬ hid.has l := fun z => by obtain ⟨o, e⟩ := st.ok.there z; rw [hl0] at e; cases e
    have bl : Hb l = none := none_back (fun o e => st.ex l o e) hl0
    have s1 : Step hid Hb H Hb (upd H l (.lst vs)) := Step.raw st hl0
    refine ⟨.ref l, rfl, .ref l, vs.length, rfl, .inl ⟨_, SqL.of upd_same, rfl⟩, (vs.length : Int), rfl, by omega, by omega, fun D hD => ?_⟩
    have ne : l ≠ D := fun z => by rw [← z, upd_same] at hD; cases hD
    have hD0 : H D = none := by rw [upd_ne (Ne.symm ne)] at hD; exact hD
    have nD : ¬ hid.has D := fun z => by obtain ⟨o, e⟩ := st.ok.there z; rw [hD0] at e; cases e
    have bD : Hb D = none := none_back (fun o e => st.ex D o e) hD0
    have wr : ∀ {Hb' H' : Hp} (a : Addr) (o : HO), Step hid Hb H Hb' H' → H a = none → Hb' a = none → ¬ hid.has a → Step hid Hb H Hb' (upd H' a o) := fun {Hb' H'} a o z h0 hb hn =>
      ⟨⟨fun b u e => by rw [upd_ne (fun q : b = a => by rw [q, hb] at e; cases e)]; exact z.st.ex b u e, z.st.ok.keeps fun b u hb' e => by rw [upd_ne (fun q : b = a => hn (q ▸ hb'))]; exact e, z.st.out⟩, z.ex, z.new,
        fun b u e hb' => by rw [upd_ne (ne_of_none e h0)]; exact z.keep b u e hb'⟩
    refine lc_range (fun i H' => ∃ Hb' rest acc rs as, Step hid Hb H Hb' H' ∧ H' l = some (.lst rest) ∧ H' D = some (.lst acc) ∧ Hb' l = none ∧ Hb' D = none ∧ DqAll K Hb' rest rs ∧ DqAll K Hb' acc as ∧ (as ++ rs).Perm xs ∧ as.length = i)
      ⟨Hb, vs, [], xs, [], wr D _ s1 hD0 bD nD, by rw [upd_ne ne]; exact upd_same, upd_same, bl, bD, h2, .nil, List.Perm.refl _, rfl⟩ ?_ ?_
    · rintro i H' hi ⟨Hb', rest, acc, rs, as, z, gl, gD, bl', bD', q1, q2, pm, hal⟩
      refine ⟨rfl, ?_⟩
      show tBM K "list" rPopAt (tVar 2) _ _ H' _
      have lr := DqAll.length q1
      have la := DqAll.length q2
      have lp := pm.length_eq
      rw [List.length_append] at lp
      refine ⟨.ref l, rfl, .inl ⟨rfl, _, SqL.of gl⟩, .ref sa, rfl, .ref l, rfl, _, rest.length, rfl, .inl ⟨_, SqL.of gl, rfl⟩, hid, Hb', [.src, .d (.int rest.length)], (fun u => ∃ k : Int, u = .d (.int k) ∧ 0 ≤ k ∧ k < rest.length), z.st, .cons ⟨sa, sc', ehid, rfl⟩ rfl (.cons (Dq.int _) rfl .nil), rfl, ⟨rest.length, rfl, by omega, fun k k0 k1 => ⟨k, rfl, k0, ?_⟩⟩, ?_⟩
      · have hpos : 0 < rest.length := by omega
        split at k1 <;> omega
      · rintro v Hb2 H2 u z2 ru fu ⟨k, rfl, k0, k1⟩
        obtain rfl := int_of ru
        have gl2 : H2 l = some (.lst rest) := z2.keep l _ gl nl
        have gD2 : H2 D = some (.lst acc) := z2.keep D _ gD nD
        have keepN : ∀ a o, H' a = some o → Hb' a = none → Hb2 a = none := fun a o e1 e2 => by
          cases q : Hb2 a with
          | none => rfl
          | some u => have := z2.new a u q e2; rw [e1] at this; cases this
        have hk : k.toNat < rest.length := by omega
        obtain ⟨y, hy⟩ : ∃ y, rest[k.toNat]? = some y := ⟨_, List.getElem?_eq_getElem hk⟩
        obtain ⟨d, hd, qd⟩ := DqAll.get (DqAll.mono z2.ex q1) hy
        refine ⟨l, rest, k, k.toNat, y, rfl, rfl, gl2, by omega, by omega, ?_, hy, ?_⟩
        · unfold seqIndex?
          first | (simp; omega) | (split <;> simp <;> omega)
        · have gD3 : (upd H2 l (.lst (rest.eraseIdx k.toNat))) D = some (.lst acc) := by rw [upd_ne (Ne.symm ne)]; exact gD2
          refine ⟨acc, gD3, by rw [la]; exact small1000000 (by omega), Hb2, rest.eraseIdx k.toNat, acc ++ [y], rs.eraseIdx k.toNat, as ++ [d], ?_, ?_, upd_same, keepN l _ gl bl', keepN D _ gD bD', ?_, DqAll.append (DqAll.mono z2.ex q2) (.cons qd .nil), (perm_pop hd).trans pm, by simp [hal]⟩
          · exact wr D _ (wr l _ (z.trans z2) hl0 (keepN l _ gl bl') nl) hD0 (keepN D _ gD bD') nD
          · rw [upd_ne ne]; exact upd_same
          · exact DqAll.eraseIdx _ (DqAll.mono z2.ex q1)
    · rintro H' ⟨Hb', rest, acc, rs, as, z, gl, gD, bl', bD', q1, q2, pm, hal⟩
      have lp := pm.length_eq
      rw [List.length_append] at lp
      have e0 : rs = [] := List.eq_nil_of_length_eq_zero (by omega)
      subst e0
      rw [List.append_nil] at pm
      exact c (.ref D) Hb' H' (.own as) z ⟨D, acc, rfl, gD, q2, bD', nD⟩ (fun p e => by cases e; exact hD0) (hm as pm)
theorem sc_is_small_letter : FnScope ["sign"] ["sign"] (defScope s_is_small_letter) := ⟨rfl, rfl, rfl, by decide +kernel, rfl, by decide +kernel, by decide +kernel⟩
theorem fn_is_small_letter (A : At K mg "is_small_letter" s_is_small_letter ["sign"]) (T : Blt w K mg) : Fn P w K mg base "is_small_letter" 1 ["sign"] (spX K 1 m_is_small_letter) := by
  refine fnD (k := 0) (m := m_is_small_letter) A sc_is_small_letter (fun G f cdv A outer s H E hr ss R hl hm => ?_)
  refine ⟨_, _, (dss_one (ds_ret (de_chain op_le_str (fun _ => lo_leS) op_le_str (fun _ => lo_leS) de_str (de_v 0) de_str))), ?_⟩
  obtain ⟨z, rfl, hR⟩ := hm
  refine ⟨_, rfl, ?_⟩
  cases e : leS "a" z with
  | true =>
    refine (show (if true = true then _ else _) from ?_); rw [if_pos rfl]
    have q : smallP z = leS z "z" := by unfold smallP; rw [e, Bool.true_and]
    rw [q] at hR
    exact hR
  | false =>
    refine (show (if false = true then _ else _) from ?_); rw [if_neg (by decide)]
    have q : smallP z = false := by unfold smallP; rw [e, Bool.false_and]
    rw [q] at hR
    exact hR

theorem sc_is_digit : FnScope ["sign"] ["sign"] (defScope s_is_digit) := ⟨rfl, rfl, rfl, by decide +kernel, rfl, by decide +kernel, by decide +kernel⟩
theorem fn_is_digit (A : At K mg "is_digit" s_is_digit ["sign"]) (T : Blt w K mg) : Fn P w K mg base "is_digit" 1 ["sign"] (spX K 1 m_is_digit) := by
  refine fnD (k := 0) (m := m_is_digit) A sc_is_digit (fun G f cdv A outer s H E hr ss R hl hm => ?_)
  refine ⟨_, _, (dss_one (ds_ret (de_chain op_le_str (fun _ => lo_leS) op_le_str (fun _ => lo_leS) de_str (de_v 0) de_str))), ?_⟩
  obtain ⟨z, rfl, hR⟩ := hm
  refine ⟨_, rfl, ?_⟩
  cases e : leS "0" z with
  | true =>
    refine (show (if true = true then _ else _) from ?_); rw [if_pos rfl]
    have q : digitP z = leS z "9" := by unfold digitP; rw [e, Bool.true_and]
    rw [q] at hR
    exact hR
  | false =>
    refine (show (if false = true then _ else _) from ?_); rw [if_neg (by decide)]
    have q : digitP z = false := by unfold digitP; rw [e, Bool.false_and]
    rw [q] at hR
    exact hR

theorem sc_is_integer : FnScope ["value"] ["value"] (defScope s_is_integer) := ⟨rfl, rfl, rfl, by decide +kernel, rfl, by decide +kernel, by decide +kernel⟩
theorem fn_is_integer (A : At K mg "is_integer" s_is_integer ["value"]) (T : Blt w K mg) : Fn P w K mg base "is_integer" 1 ["value"] (spX K 1 m_is_integer) := by
  refine fnD (k := 0) (m := m_is_integer) A sc_is_integer (fun G f cdv A outer s H E hr ss R hl hm => ?_)
  refine ⟨_, _, (dss_one (ds_ret (de_and (de_callB (k_isi (K := K) rfl) (fun _ => lc_isi) T.m_isinstance (da_cons (de_v 0) (da_cons (de_bltn (x := "int") (n := "int") T.m_int) da_nil))) (de_one (de_not (de_callB (k_isi (K := K) rfl) (fun _ => lc_isi) T.m_isinstance (da_cons (de_v 0) (da_cons (de_bltn (x := "bool") (n := "bool") T.m_bool) da_nil)))))))), ?_⟩
  obtain ⟨d, rfl, hR⟩ := hm
  cases d
  case int i => exact ⟨_, rfl, _, rfl, _, rfl, _, rfl, hR⟩
  case bool b => exact ⟨_, rfl, _, rfl, _, rfl, _, rfl, hR⟩
  all_goals exact ⟨_, rfl, _, rfl, hR⟩

theorem sc__law_is_word : FnScope ["value", "letters", "sign"] ["value"] (defScope s__law_is_word) := ⟨rfl, rfl, rfl, by decide +kernel, rfl, by decide +kernel, by decide +kernel⟩
theorem fn__law_is_word (A : At K mg "_law_is_word" s__law_is_word ["value"]) (T : Blt w K mg) : Fn P w K mg base "_law_is_word" 1 ["value"] (spX K 1 m__law_is_word) := by
  refine fnD (k := 0) (m := m__law_is_word) A sc__law_is_word (fun G f cdv A outer s H E hr ss R hl hm => ?_)
  refine ⟨_, _, (dss_cons (ds_if (DW.dt (dw_or (dt_not (dt_val (de_callB (k_isi (K := K) rfl) (fun _ => lc_isi) T.m_isinstance (da_cons (de_v 0) (da_cons (de_bltn (x := "str") (n := "str") T.m_str) da_nil))))) (dw_or1 (dt_ninRg T.m_range (de_callB (k_len (K := K) rfl) (fun _ => lc_len) T.m_len (da_cons (de_v 0) da_nil)) (da_cons de_int (da_cons de_int da_nil)))))) (dss_one (ds_ret de_bl)) dss_nil)
      (dss_cons (ds_set 1 sc__law_is_word.nd de_str)
      (dss_one (ds_ret (de_and (de_cmp op_in_str (fun _ => lo_inS) (de_ix (k_ix (K := K) rfl) (fun _ => lo_ix) (de_v 0) de_int) (de_v 1)) (de_one (de_cmp (k_eq (K := K) rfl hr.units) (fun _ => lo_eq) (de_lc (own := [("sign", 2)]) sc__law_is_word.nd (di_str (de_v 0)) (blkOk_by (N := ["value", "letters", "sign"]) (sc := defScope s__law_is_word) (by decide +kernel)) (fun _ _ _ _ _ => by exact (dg_name 2 (by decide) sc__law_is_word.nd)) (fun _ _ _ _ _ => by exact (dp_one (by exact (dt_cmp op_notIn_str (fun _ => lo_ninS) (de_v 2) (de_op op_add_str (fun _ => lo_catS) (de_v 1) de_str))))) (fun _ _ _ _ _ => by exact (de_v 2))) (de_lst da_nil)))))))), ?_⟩
  obtain ⟨d, rfl, ha, hR⟩ := hm
  cases d
  case str w =>
    obtain ⟨hc, hl40⟩ := okT_iff.mp ha
    have hl : w.length ≤ 100 := Nat.le_trans hl40 (by decide)
    have hz : w.length ≤ sizeLine := by rw [sizeLine_eq]; omega
    have hRw : R (.d (.bool (wdP w))) := hR
    refine if_iffS (¬ (1 ≤ w.length ∧ w.length ≤ 12)) (1 ≤ w.length ∧ w.length ≤ 12) (fun Q hp hq => ?_) (fun h => ?_) (fun h => ?_)
    · refine ⟨_, rfl, _, rfl, ?_⟩
      refine ifb (fun h => absurd h (by decide)) (fun _ => ?_)
      refine ⟨hz, w.length, 1, 13, rfl, rfl, _, rfl, ?_⟩
      by_cases c : (1 : Int) ≤ (w.length : Int) ∧ (w.length : Int) < 13
      · rw [decide_eq_true c]
        exact hq ⟨by omega, by omega⟩
      · rw [decide_eq_false c]
        exact hp fun z => c ⟨by omega, by omega⟩
    · have e : wdP w = false := by
        unfold wdP
        by_cases c : 1 ≤ w.length
        · have c2 : ¬ w.length ≤ 12 := fun z => h ⟨c, z⟩
          rw [decide_eq_false c2, Bool.and_false, Bool.false_and, Bool.false_and]
        · rw [decide_eq_false c, Bool.false_and, Bool.false_and, Bool.false_and]
      rw [e] at hRw
      exact hRw
    · obtain ⟨c, cs, ec⟩ := chS_ne h.1
      have e1 : wdP w = (smallP ⟨#[c]⟩ && (chS w).all fun z => smallP z || digitP z) := by
        unfold wdP chS
        rw [ec, decide_eq_true h.1, decide_eq_true h.2, Bool.true_and, Bool.true_and]
        rfl
      have c1 : c < 128 := hc c (by rw [ec]; exact List.mem_cons_self ..)
      dsimp only [dNext]
      refine ⟨c, hz, by rw [ec]; exact at_0, _, rfl, ?_⟩
      rw [Bool.false_bne, small_occ c c1]
      refine ifb (fun h2 => ?_) (fun h2 => ?_)
      · rw [e1, h2, Bool.true_and] at hRw
        refine ⟨w, rfl, ?_⟩
        refine ⟨chars_len hl, ?_⟩
        refine lc_fmGo (fun c => PyData.str ⟨#[c]⟩) (fun c => if (smallP ⟨#[c]⟩ || digitP ⟨#[c]⟩) = true then none else some (PyData.str ⟨#[c]⟩)) w.cps.toList [] (fun x hx k hk => ?_) ?_
        · unfold dTurn
          refine ⟨s16 (by decide), _, rfl, ?_⟩
          rw [Bool.true_bne, both_occ x (hc x hx)]
          cases g : (smallP ⟨#[x]⟩ || digitP ⟨#[x]⟩) with
          | true =>
            rw [g, if_pos rfl] at hk
            exact hk
          | false =>
            rw [g, if_neg (by decide)] at hk
            exact ⟨_, rfl, hk⟩
        · rw [List.nil_append, fm_filter]
          refine ⟨_, rfl, s16 (by show 0 ≤ 16777216; omega), okD1_chars fun c hcm => hc c (List.mem_filter.mp hcm).1, okD1_nil, ?_⟩
          rw [eqvD_nil, filter_empty]
          have e2 : (w.cps.toList.all fun c => smallP ⟨#[c]⟩ || digitP ⟨#[c]⟩) = (chS w).all fun z => smallP z || digitP z := by
            unfold chS
            rw [List.all_map]
            rfl
          rw [e2]
          exact hRw
      · rw [e1, h2, Bool.false_and] at hRw
        exact hRw
  all_goals exact ⟨_, rfl, _, rfl, hR⟩

theorem sc__law_is_integer : FnScope ["value"] ["value"] (defScope s__law_is_integer) := ⟨rfl, rfl, rfl, by decide +kernel, rfl, by decide +kernel, by decide +kernel⟩
theorem fn__law_is_integer (A : At K mg "_law_is_integer" s__law_is_integer ["value"]) (T : Blt w K mg) : Fn P w K mg base "_law_is_integer" 1 ["value"] (spX K 1 m__law_is_integer) := by
  refine fnD (k := 0) (m := m__law_is_integer) A sc__law_is_integer (fun G f cdv A outer s H E hr ss R hl hm => ?_)
  refine ⟨_, _, (dss_one (ds_ret (de_and (de_callB (k_isi (K := K) rfl) (fun _ => lc_isi) T.m_isinstance (da_cons (de_v 0) (da_cons (de_bltn (x := "int") (n := "int") T.m_int) da_nil))) (de_one (de_not (de_callB (k_isi (K := K) rfl) (fun _ => lc_isi) T.m_isinstance (da_cons (de_v 0) (da_cons (de_bltn (x := "bool") (n := "bool") T.m_bool) da_nil)))))))), ?_⟩
  obtain ⟨d, rfl, hR⟩ := hm
  cases d
  case int i => exact ⟨_, rfl, _, rfl, _, rfl, _, rfl, hR⟩
  case bool b => exact ⟨_, rfl, _, rfl, _, rfl, _, rfl, hR⟩
  all_goals exact ⟨_, rfl, _, rfl, hR⟩

theorem sc__law_deep : FnScope ["many", "found", "lap"] ["many"] (defScope s__law_deep) := ⟨rfl, rfl, rfl, by decide +kernel, rfl, by decide +kernel, by decide +kernel⟩
theorem fn__law_deep (A : At K mg "_law_deep" s__law_deep ["many"]) (T : Blt w K mg) : Fn P w K mg base "_law_deep" 1 ["many"] (spX K 1 m__law_deep) := by
  refine fnD (k := 0) (m := m__law_deep) A sc__law_deep (fun G f cdv A outer s H E hr ss R hl hm => ?_)
  refine ⟨_, _, (dss_cons (ds_set 1 sc__law_deep.nd de_str)
      (dss_cons (ds_for (js := [2]) (di_rng1 T.m_range (da_cons (de_v 0) da_nil)) (by exact (dg_name 2 (by decide) sc__law_deep.nd)) (dss_one (ds_set 1 sc__law_deep.nd (DE.fz (de_ifE (dt_cmp op_eq (fun _ => lo_eqS) (de_op op_mod (fun _ => lo_mod) (de_callTy call_int1 (fun _ => lc_intA) T.m_int (da_cons (de_v 2) da_nil)) de_int) de_int) (de_lst (da_cons (de_v 1) da_nil)) (de_tup (da_cons (de_v 1) da_nil)))))))
      (dss_one (ds_ret (de_v 1))))), ?_⟩
  obtain ⟨n, rfl, hn, hR⟩ := hm
  refine ⟨n, rfl, ⟨by omega, by omega⟩, ?_⟩
  dsimp only
  unfold rngD
  refine loop_byT (fun (i : Nat) => PyData.int (0 + (i : Nat))) (fun j env => ∃ v, env = [some (.d (.int (n : Nat))), some (.d (deepD j)), v]) ⟨none, rfl⟩ ?_ ?_
  · rintro j i env hi ⟨v, rfl⟩ nx hx
    have hj : j < n := by simpa using (List.getElem?_eq_some_iff.mp hi).1
    obtain rfl : j = i := by simpa [List.getElem?_range hj] using hi
    refine ⟨(by decide : (0 : Int) < 2), _, rfl, ?_⟩
    have em : decide ((0 + (j : Nat) : Int) % 2 = 0) = decide (j % 2 = 0) := by
      by_cases c : j % 2 = 0
      · rw [decide_eq_true c, decide_eq_true (by omega)]
      · rw [decide_eq_false c, decide_eq_false (by omega)]
    refine ifb (fun h => ?_) (fun h => ?_)
    · have c : j % 2 = 0 := of_decide_eq_true (em ▸ h)
      have ed : deepD (j + 1) = .list [deepD j] := by
        show (if _ then _ else _) = _
        rw [if_pos c]
      exact ⟨_, rfl, s16 (by show 1 ≤ 16777216; omega), hx _ ⟨_, by rw [ed]; rfl⟩⟩
    · have c : ¬ j % 2 = 0 := of_decide_eq_false (em ▸ h)
      have ed : deepD (j + 1) = .tuple [deepD j] := by
        show (if _ then _ else _) = _
        rw [if_neg c]
      exact ⟨_, rfl, s16 (by show 1 ≤ 16777216; omega), hx _ ⟨_, by rw [ed]; rfl⟩⟩
  · rintro env ⟨v, rfl⟩
    rw [List.length_range]
    exact hR

theorem sc_is_word : FnScope ["value", "sign"] ["value"] (defScope s_is_word) := ⟨rfl, rfl, rfl, by decide +kernel, rfl, by decide +kernel, by decide +kernel⟩
theorem fn_is_word (A : At K mg "is_word" s_is_word ["value"]) (T : Blt w K mg) (G_is_digit : Fn P w K mg base "is_digit" 1 ["sign"] (spX K 1 m_is_digit)) (G_is_small_letter : Fn P w K mg base "is_small_letter" 1 ["sign"] (spX K 1 m_is_small_letter)) : Fn P w K mg base "is_word" 2 ["value"] (spX K 1 m_is_word) := by
  obtain ⟨u_LONGEST_WORD, hc_LONGEST_WORD⟩ := T.c_LONGEST_WORD
  refine fnD (k := 1) (m := m_is_word) A sc_is_word (fun G f cdv A outer s H E hr ss R hl hm => ?_)
  refine ⟨_, _, (dss_cons (ds_if (DW.dt (dw_or (dt_not (dt_val (de_callB (k_isi (K := K) rfl) (fun _ => lc_isi) T.m_isinstance (da_cons (de_v 0) (da_cons (de_bltn (x := "str") (n := "str") T.m_str) da_nil))))) (dw_or1 (dt_not (dt_chain op_le (fun _ => lo_le) op_le (fun _ => lo_le) de_int (de_callB (k_len (K := K) rfl) (fun _ => lc_len) T.m_len (da_cons (de_v 0) da_nil)) (de_globI hc_LONGEST_WORD)))))) (dss_one (ds_ret de_bl)) dss_nil)
      (dss_cons (ds_if (dt_not (dt_val (k_fn (K := K) rfl G_is_small_letter (hr.mono (by decide)) (da_cons (de_ix (k_ix (K := K) rfl) (fun _ => lo_ix) (de_v 0) de_int) da_nil)))) (dss_one (ds_ret de_bl)) dss_nil)
      (dss_one (ds_ret (de_callB (k_all (K := K) rfl rfl) (fun _ => lc_allB) T.m_all (da_cons (de_lc (own := [("sign", 1)]) sc_is_word.nd (di_str (de_v 0)) (blkOk_by (N := ["value", "sign"]) (sc := defScope s_is_word) (by decide +kernel)) (fun _ _ _ _ _ => by exact (dg_name 1 (by decide) sc_is_word.nd)) (fun _ _ _ _ _ => by exact dp_nil) (fun _ _ _ _ _ => by exact (de_or (k_fn (K := K) rfl G_is_small_letter (hr.mono (by decide)) (da_cons (de_v 1) da_nil)) (de_one (k_fn (K := K) rfl G_is_digit (hr.mono (by decide)) (da_cons (de_v 1) da_nil)))))) da_nil)))))), ?_⟩
  obtain ⟨d, rfl, ha, hR⟩ := hm
  cases d
  case str w =>
    have hl : w.length ≤ 100 := Nat.le_trans (okT_iff.mp ha).2 (by decide)
    have hz : w.length ≤ sizeLine := by rw [sizeLine_eq]; omega
    have hRw : R (.d (.bool (wdP w))) := hR
    refine if_iffS (¬ (1 ≤ w.length ∧ w.length ≤ 12)) (1 ≤ w.length ∧ w.length ≤ 12) (fun Q hp hq => ?_) (fun h => ?_) (fun h => ?_)
    · refine ⟨_, rfl, _, rfl, ?_⟩
      refine ifb (fun h => absurd h (by decide)) (fun _ => ?_)
      refine ⟨hz, _, rfl, ?_⟩
      refine ifb (fun h => ?_) (fun h => ?_)
      · refine ⟨_, rfl, ?_⟩
        have h1 : (1 : Int) ≤ (w.length : Int) := of_decide_eq_true h
        by_cases c : w.length ≤ 12
        · have c2 : decide ((w.length : Int) ≤ 12) = true := decide_eq_true (by omega)
          show Q (!decide ((w.length : Int) ≤ 12))
          rw [c2]
          exact hq ⟨by omega, c⟩
        · have c2 : decide ((w.length : Int) ≤ 12) = false := decide_eq_false (by omega)
          show Q (!decide ((w.length : Int) ≤ 12))
          rw [c2]
          exact hp fun z => c z.2
      · refine ⟨false, rfl, ?_⟩
        have h1 : ¬ (1 : Int) ≤ (w.length : Int) := of_decide_eq_false h
        exact hp fun z => h1 (by omega)
    · have e : wdP w = false := by
        unfold wdP
        by_cases c : 1 ≤ w.length
        · have c2 : ¬ w.length ≤ 12 := fun z => h ⟨c, z⟩
          rw [decide_eq_false c2, Bool.and_false, Bool.false_and, Bool.false_and]
        · rw [decide_eq_false c, Bool.false_and, Bool.false_and, Bool.false_and]
      rw [e] at hRw
      exact hRw
    · obtain ⟨c, cs, ec⟩ := chS_ne h.1
      have e1 : wdP w = (smallP ⟨#[c]⟩ && (chS w).all fun z => smallP z || digitP z) := by
        unfold wdP chS
        rw [ec, decide_eq_true h.1, decide_eq_true h.2, Bool.true_and, Bool.true_and]
        rfl
      dsimp only [dNext]
      refine if_iffS (smallP ⟨#[c]⟩ = false) (smallP ⟨#[c]⟩ = true) (fun Q hp hq => ?_) (fun h => ?_) (fun h => ?_)
      · refine ⟨c, hz, by rw [ec]; exact at_0, rfl, _, rfl, _, rfl, ?_⟩
        cases g : smallP ⟨#[c]⟩ with
        | true => exact hq g
        | false => exact hp g
      · rw [e1, h, Bool.false_and] at hRw
        exact hRw
      · rw [e1, h, Bool.true_and] at hRw
        dsimp only [dNext]
        refine ⟨w, rfl, ?_⟩
        refine ⟨chars_len hl, ?_⟩
        refine lc_mapT (fun c => PyData.str ⟨#[c]⟩) (fun c => PyData.bool (smallP ⟨#[c]⟩ || digitP ⟨#[c]⟩)) (fun x hx k hk => ?_) ?_
        · refine ⟨rfl, _, rfl, _, rfl, ?_⟩
          refine ifb (fun h => ?_) (fun h => ?_)
          · refine hk _ ?_
            show Sl.d (.bool true) = .d (.bool (smallP ⟨#[x]⟩ || digitP ⟨#[x]⟩))
            rw [h, Bool.true_or]
          · refine ⟨rfl, _, rfl, hk _ ?_⟩
            show Sl.d (.bool (digitP ⟨#[x]⟩)) = .d (.bool (smallP ⟨#[x]⟩ || digitP ⟨#[x]⟩))
            rw [h, Bool.false_or]
        · refine ⟨w.cps.toList.map fun x => smallP ⟨#[x]⟩ || digitP ⟨#[x]⟩, by rw [List.map_map]; rfl, ?_⟩
          have e2 : ((w.cps.toList.map fun x => smallP ⟨#[x]⟩ || digitP ⟨#[x]⟩).all id) = (chS w).all fun z => smallP z || digitP z := by
            unfold chS
            rw [List.all_map, List.all_map]
            rfl
          show R (.d (.bool ((w.cps.toList.map fun x => smallP ⟨#[x]⟩ || digitP ⟨#[x]⟩).all id)))
          rw [e2]
          exact hRw
  all_goals exact ⟨_, rfl, _, rfl, hR⟩

theorem sc_is_number : FnScope ["value"] ["value"] (defScope s_is_number) := ⟨rfl, rfl, rfl, by decide +kernel, rfl, by decide +kernel, by decide +kernel⟩
theorem fn_is_number (A : At K mg "is_number" s_is_number ["value"]) (T : Blt w K mg) (G_is_integer : Fn P w K mg base "is_integer" 1 ["value"] (spX K 1 m_is_integer)) : Fn P w K mg base "is_number" 2 ["value"] (spX K 1 m_is_number) := by
  refine fnD (k := 1) (m := m_is_number) A sc_is_number (fun G f cdv A outer s H E hr ss R hl hm => ?_)
  refine ⟨_, _, (dss_one (ds_ret (de_and (k_fn (K := K) rfl G_is_integer (hr.mono (by decide)) (da_cons (de_v 0) da_nil)) (de_one (de_cmp op_ge (fun _ => lo_ge) (de_v 0) de_int))))), ?_⟩
  obtain ⟨d, rfl, hR⟩ := hm
  refine ⟨rfl, _, rfl, _, rfl, ?_⟩
  cases d
  case int i => exact hR
  all_goals exact hR

theorem sc__law_of : FnScope ["source", "some"] ["source", "some"] (defScope s__law_of) := ⟨rfl, rfl, rfl, by decide +kernel, rfl, by decide +kernel, by decide +kernel⟩
theorem fn__law_of (A : At K mg "_law_of" s__law_of ["source", "some"]) (T : Blt w K mg) (G__law_pick : Fn P w K mg base "_law_pick" 1 ["source", "many"] (spX K 2 m__law_pick)) : Fn P w K mg base "_law_of" 2 ["source", "some"] (spX K 2 m__law_of) := by
  refine fnD (k := 1) (m := m__law_of) A sc__law_of (fun G f cdv A outer s H E hr ss R hl hm => ?_)
  refine ⟨_, _, (dss_one (ds_ret (de_ix (k_ix (K := K) rfl) (fun _ => lo_ix) (de_v 1) (k_fn (K := K) rfl G__law_pick (hr.mono (by decide)) (da_cons (de_v 0) (da_cons (de_callB (k_len (K := K) rfl) (fun _ => lc_len) T.m_len (da_cons (de_v 1) da_nil)) da_nil)))))), ?_⟩
  obtain ⟨xs, rfl, hne, hl, hR⟩ := hm
  have hpos : 0 < xs.length := List.length_pos_iff.mpr hne
  refine ⟨rfl, xs.length, rfl, by omega, fun k h0 h1 => ?_⟩
  have hk : k.toNat < xs.length := by split at h1 <;> omega
  refine ⟨xs[k.toNat], ?_, hR _ (List.getElem_mem hk)⟩
  unfold atI ixN
  rw [if_pos h0, if_pos (by omega : k < (xs.length : Int))]
  exact List.getElem?_eq_getElem hk

theorem sc__law_lot : FnScope ["source", "words", "word"] ["source", "words"] (defScope s__law_lot) := ⟨rfl, rfl, rfl, by decide +kernel, rfl, by decide +kernel, by decide +kernel⟩
theorem fn__law_lot (A : At K mg "_law_lot" s__law_lot ["source", "words"]) (T : Blt w K mg) (G__law_pick : Fn P w K mg base "_law_pick" 1 ["source", "many"] (spX K 2 m__law_pick)) : Fn P w K mg base "_law_lot" 2 ["source", "words"] (spX K 2 m__law_lot) := by
  refine fnD (k := 1) (m := m__law_lot) A sc__law_lot (fun G f cdv A outer s H E hr ss R hl hm => ?_)
  refine ⟨_, _, (dss_one (ds_ret (de_callTy (k_tuple (K := K) rfl) (fun _ => lc_tuple) T.m_tuple (da_cons (de_lc (own := [("word", 2)]) sc__law_lot.nd (ki_list (K := K) rfl (de_v 1)) (blkOk_by (N := ["source", "words", "word"]) (sc := defScope s__law_lot) (by decide +kernel)) (fun _ _ _ _ _ => by exact (dg_name 2 (by decide) sc__law_lot.nd)) (fun _ _ _ _ _ => by exact (dp_one (by exact (dt_cmp op_eq (fun _ => lo_eqS) (k_fn (K := K) rfl G__law_pick (hr.mono (by decide)) (da_cons (de_v 0) (da_cons de_int da_nil))) de_int)))) (fun _ _ _ _ _ => by exact (de_v 2))) da_nil)))), ?_⟩
  obtain ⟨ws, rfl, hl, hR⟩ := hm
  refine ⟨ws.map PyData.str, rfl, by rw [List.length_map, sizeLine_eq]; omega, ?_⟩
  refine lc_some (fun y hy k k1 k2 => ?_) (fun zs hz => ?_)
  · refine ⟨rfl, 2, rfl, by decide, fun i h0 h1 => ⟨_, rfl, ?_⟩⟩
    refine ite2 (fun c => ?_) (fun c => ?_)
    · exact ⟨y, rfl, k1⟩
    · exact k2
  · obtain ⟨lot, h, rfl⟩ := sub_map hz
    exact hR lot h

theorem sc__law_right_lot : FnScope ["value", "k", "one"] ["value"] (defScope s__law_right_lot) := ⟨rfl, rfl, rfl, by decide +kernel, rfl, by decide +kernel, by decide +kernel⟩
theorem fn__law_right_lot (A : At K mg "_law_right_lot" s__law_right_lot ["value"]) (T : Blt w K mg) (G__law_is_word : Fn P w K mg base "_law_is_word" 1 ["value"] (spX K 1 m__law_is_word)) : Fn P w K mg base "_law_right_lot" 2 ["value"] (spX K 1 m__law_right_lot) := by
  refine fnD (k := 1) (m := m__law_right_lot) A sc__law_right_lot (fun G f cdv A outer s H E hr ss R hl hm => ?_)
  refine ⟨_, _, (dss_cons (ds_if (DW.dt (dw_or (dt_not (dt_val (de_callB (k_isi (K := K) rfl) (fun _ => lc_isi) T.m_isinstance (da_cons (de_v 0) (da_cons (de_bltn (x := "tuple") (n := "tuple") T.m_tuple) da_nil))))) (dw_or1 (dt_cmp (k_neE (K := K) rfl hr.units) (fun _ => lo_neE) (de_lc (own := [("one", 2)]) sc__law_right_lot.nd (ki_tup (K := K) rfl (de_v 0)) (blkOk_by (N := ["value", "k", "one"]) (sc := defScope s__law_right_lot) (by decide +kernel)) (fun _ _ _ _ _ => by exact (dg_name 2 (by decide) sc__law_right_lot.nd)) (fun _ _ _ _ _ => by exact (dp_one (by exact (dt_not (dt_val (k_fn (K := K) rfl G__law_is_word (hr.mono (by decide)) (da_cons (de_v 2) da_nil))))))) (fun _ _ _ _ _ => by exact (de_v 2))) (de_lst da_nil))))) (dss_one (ds_ret de_bl)) dss_nil)
      (dss_one (ds_ret (de_cmp (k_eq (K := K) rfl hr.units) (fun _ => lo_eq) (de_lc (own := [("k", 1)]) sc__law_right_lot.nd (di_rngA T.m_range (da_cons de_int (da_cons (de_callB (k_len (K := K) rfl) (fun _ => lc_len) T.m_len (da_cons (de_v 0) da_nil)) da_nil))) (blkOk_by (N := ["value", "k", "one"]) (sc := defScope s__law_right_lot) (by decide +kernel)) (fun _ _ _ _ _ => by exact (dg_name 1 (by decide) sc__law_right_lot.nd)) (fun _ _ _ _ _ => by exact (dp_one (by exact (dt_cmp op_le_str (fun _ => lo_leS) (de_ix (k_ix (K := K) rfl) (fun _ => lo_ix) (de_v 0) (de_v 1)) (de_ix (k_ix (K := K) rfl) (fun _ => lo_ix) (de_v 0) (de_op op_sub (fun _ => lo_sub) (de_v 1) de_int)))))) (fun _ _ _ _ _ => by exact (de_v 1))) (de_lst da_nil))))), ?_⟩
  obtain ⟨d, rfl, ha, hR⟩ := hm
  cases d
  case tuple xs =>
    obtain ⟨hl, hx⟩ := allA_tup.mp ha
    have hz : xs.length ≤ sizeLine := by rw [sizeLine_eq]; omega
    have hR' : R (.d (.bool (xs.all isW && asc (xs.map unStr)))) := hR
    refine if_iffS (xs.all isW = false) (xs.all isW = true) (fun Q hp hq => ?_) (fun h => ?_) (fun h => ?_)
    · refine ⟨_, rfl, _, rfl, ?_⟩
      refine ifb (fun h => absurd h (by decide)) (fun _ => ?_)
      refine ⟨_, rfl, hz, ?_⟩
      refine lc_fmD isW (fun x hm k hk => ?_) ?_
      · refine ⟨rfl, x, rfl, hx x hm, _, rfl, ?_⟩
        cases g : isW x with
        | true =>
          rw [g, if_pos rfl] at hk
          exact hk
        | false =>
          rw [g, if_neg (by decide)] at hk
          exact ⟨_, rfl, hk⟩
      · refine ⟨[], rfl, s16 (by decide), ?_⟩
        refine ⟨_, rfl, ?_⟩
        rw [filterD_empty, Bool.true_bne]
        cases g : xs.all isW with
        | true => exact hq g
        | false => exact hp g
    · rw [h, Bool.false_and] at hR'
      exact hR'
    · rw [h, Bool.true_and] at hR'
      dsimp only [dNext]
      have w := words_of h
      generalize xs.map unStr = ws at w hR'
      subst w
      rw [List.length_map] at hl
      refine ⟨1, _, rfl, ?_⟩
      have en : (((((ws.map PyData.str).length : Nat) : Int)) - 1).toNat = ws.length - 1 := by rw [List.length_map]; omega
      rw [en]
      refine ⟨by rw [rngD_length]; exact s16 (by omega), ?_⟩
      refine lc_fmGo (fun (i : Nat) => PyData.int (1 + (i : Nat))) (fun i => if ltS (ws.getD i "") (ws.getD (i + 1) "") = true then none else some (PyData.int (1 + (i : Nat)))) (List.range (ws.length - 1)) [] (fun i hi k hk => ?_) ?_
      · have hi := List.mem_range.mp hi
        have el : ∀ j, j < ws.length → ∀ z : Int, z = (j : Nat) → atI (ws.map PyData.str) z = some (.str (ws.getD j "")) := fun j hj z e => by
          rw [at_n e (by rw [List.length_map]; exact hj), List.getElem_map, List.getD_eq_getElem?_getD, List.getElem?_eq_getElem hj]
          rfl
        refine ⟨.str (ws.getD (i + 1) ""), el _ (by omega) _ (by omega), .str (ws.getD i ""), el _ (by omega) _ (by omega), _, rfl, ?_⟩
        rw [leS_lt]
        cases g : ltS (ws.getD i "") (ws.getD (i + 1) "") with
        | true =>
          rw [g, if_pos rfl] at hk
          exact hk
        | false =>
          rw [g, if_neg (by decide)] at hk
          exact ⟨_, rfl, hk⟩
      · rw [List.nil_append, fm_filter]
        have o : okD1 (.list (((List.range (ws.length - 1)).filter fun c => !ltS (ws.getD c "") (ws.getD (c + 1) "")).map fun (i : Nat) => PyData.int (1 + (i : Nat)))) := okD1_lst fun x hx => by
          obtain ⟨i, hi, rfl⟩ := List.mem_map.mp hx
          have hi := List.mem_range.mp (List.mem_filter.mp hi).1
          have := p100
          exact ⟨by simp only [tame]; exact decide_eq_true (by omega), rfl, Nat.zero_le _⟩
        refine ⟨[], rfl, s16 (by decide), o, okD1_nil, ?_⟩
        rw [eqvD_nil, filter_empty, ← asc_idx]
        exact hR'
  all_goals exact ⟨_, rfl, _, rfl, hR⟩

theorem sc__law_any_word : FnScope ["source", "lap", "letters", "word"] ["source"] (defScope s__law_any_word) := ⟨rfl, rfl, rfl, by decide +kernel, rfl, by decide +kernel, by decide +kernel⟩
theorem fn__law_any_word (A : At K mg "_law_any_word" s__law_any_word ["source"]) (T : Blt w K mg) (G__law_pick : Fn P w K mg base "_law_pick" 1 ["source", "many"] (spX K 2 m__law_pick)) : Fn P w K mg base "_law_any_word" 2 ["source"] (spX K 1 m__law_any_word) := by
  refine fnD (k := 1) (m := m__law_any_word) A sc__law_any_word (fun G f cdv A outer s H E hr ss R hl hm => ?_)
  refine ⟨_, _, (dss_cons (ds_asg (js := [2, 3]) (de_tup (da_cons de_str (da_cons de_str da_nil))) (by exact (kg_tup (K := K) (n := 2) rfl rfl (dgs_cons (dg_name 2 (by decide) sc__law_any_word.nd) (dgs_cons (dg_name 3 (by decide) sc__law_any_word.nd) dgs_nil)))))
      (dss_cons (ds_for (js := [1]) (di_rng1 T.m_range (da_cons (de_op op_add (fun _ => lo_add) de_int (k_fn (K := K) rfl G__law_pick (hr.mono (by decide)) (da_cons (de_v 0) (da_cons de_int da_nil)))) da_nil)) (by exact (dg_name 1 (by decide) sc__law_any_word.nd)) (dss_one (ds_set 3 sc__law_any_word.nd (de_op op_add_str (fun _ => lo_catS) (de_v 3) (de_ix (k_ix (K := K) rfl) (fun _ => lo_ix) (de_ifE (dt_cmp op_gt (fun _ => lo_gt) (de_v 1) de_int) (de_op op_add_str (fun _ => lo_catS) (de_v 2) de_str) (de_v 2)) (k_fn (K := K) rfl G__law_pick (hr.mono (by decide)) (da_cons (de_v 0) (da_cons (de_ifE (dt_cmp op_gt (fun _ => lo_gt) (de_v 1) de_int) de_int de_int) da_nil))))))))
      (dss_one (ds_ret (de_v 3))))), ?_⟩
  obtain ⟨rfl, hR⟩ := hm
  refine ⟨_, rfl, s16 (by decide), ?_⟩
  refine ⟨_, rfl, rfl, _, _, rfl, _, _, rfl, rfl, ?_⟩
  dsimp only
  refine ⟨rfl, 12, rfl, by decide, fun n n0 n1 => ?_⟩
  have n0 : 0 ≤ n := n0
  have n1 : n < 12 := n1
  refine ⟨1 + n, rfl, ⟨by omega, by omega⟩, ?_⟩
  unfold rngD
  refine loop_byT (fun (i : Nat) => PyData.int (0 + (i : Nat))) (fun j env => ∃ v w, env = [some .src, v, some (.d (.str "abcdefghijklmnopqrstuvwxyz")), some (.d (.str w))] ∧ (∀ c ∈ w.cps.toList, c < 128) ∧ w.length = j) ⟨none, "", rfl, ascii_iff.mp (by decide +kernel), rfl⟩ ?_ ?_
  · rintro j i env hi ⟨v, w, rfl, hc, hl⟩ nx hx
    have hj : j < (1 + n).toNat := by simpa using (List.getElem?_eq_some_iff.mp hi).1
    obtain rfl : j = i := by simpa [List.getElem?_range hj] using hi
    have grow : ∀ (z : Str) (m : Int), (∀ c ∈ z.cps.toList, c < 128) → z.length ≤ 100 → m = (z.length : Nat) → ∀ i : Int, 0 ≤ i → i < m → ∃ c, z.length ≤ sizeLine ∧ atI z.cps.toList i = some c ∧ c < 128 := fun z m hz hl _ i i0 i1 => by
      have e : z.cps.toList.length = z.length := by simp [Str.length]
      have hi : i.toNat < z.cps.toList.length := by omega
      exact ⟨_, s16 (by omega), at_n (j := i.toNat) (by omega) hi, hz _ (List.getElem_mem hi)⟩
    have put : ∀ c, c < 128 → (∀ x ∈ (w ++ (⟨#[c]⟩ : Str)).cps.toList, x < 128) ∧ (w ++ (⟨#[c]⟩ : Str)).length = j + 1 := fun c h => by
      refine ⟨fun x hx => ?_, ?_⟩
      · have e : (w ++ (⟨#[c]⟩ : Str)).cps.toList = w.cps.toList ++ [c] := Array.toList_append
        rw [e] at hx
        rcases List.mem_append.mp hx with hx | hx
        · exact hc x hx
        · rw [List.mem_singleton.mp hx]; exact h
      · show (w.cps ++ #[c]).size = _
        rw [Array.size_append]
        show w.length + 1 = _
        rw [hl]
    refine ⟨_, rfl, ?_⟩
    refine ifb (fun h => ?_) (fun h => ?_)
    · refine ⟨s16 (by decide), ?_⟩
      refine ⟨_, rfl, ?_⟩
      refine ifb (fun _ => ?_) (fun h2 => absurd (h.symm.trans h2) (by decide))
      refine ⟨rfl, 36, rfl, by decide, fun i i0 i1 => ?_⟩
      obtain ⟨c, z1, z2, z3⟩ := grow ("abcdefghijklmnopqrstuvwxyz" ++ "0123456789") 36 (ascii_iff.mp (by decide +kernel)) (by decide) (by decide) i i0 i1
      refine ⟨c, z1, z2, ?_⟩
      refine ⟨s16 (by show w.length + 1 ≤ _; omega), hx _ ⟨_, _, rfl, (put c z3).1, (put c z3).2⟩⟩
    · refine ⟨_, rfl, ?_⟩
      refine ifb (fun h2 => absurd (h.symm.trans h2) (by decide)) (fun _ => ?_)
      refine ⟨rfl, 26, rfl, by decide, fun i i0 i1 => ?_⟩
      obtain ⟨c, z1, z2, z3⟩ := grow "abcdefghijklmnopqrstuvwxyz" 26 (ascii_iff.mp (by decide +kernel)) (by decide) (by decide) i i0 i1
      refine ⟨c, z1, z2, ?_⟩
      refine ⟨s16 (by show w.length + 1 ≤ _; omega), hx _ ⟨_, _, rfl, (put c z3).1, (put c z3).2⟩⟩
  · rintro env ⟨v, w, rfl, hc, hl⟩
    rw [List.length_range] at hl
    exact hR w (okT_iff.mpr ⟨hc, by omega⟩) (by omega) (by omega)

theorem sc_is_lot : FnScope ["value", "one", "other", "letter"] ["value"] (defScope s_is_lot) := ⟨rfl, rfl, rfl, by decide +kernel, rfl, by decide +kernel, by decide +kernel⟩
theorem fn_is_lot (A : At K mg "is_lot" s_is_lot ["value"]) (T : Blt w K mg) (G_is_word : Fn P w K mg base "is_word" 2 ["value"] (spX K 1 m_is_word)) : Fn P w K mg base "is_lot" 3 ["value"] (spX K 1 m_is_lot) := by
  refine fnD (k := 2) (m := m_is_lot) A sc_is_lot (fun G f cdv A outer s H E hr ss R hl hm => ?_)
  refine ⟨_, _, (dss_cons (ds_if (DW.dt (dw_or (dt_not (dt_val (de_callB (k_isi (K := K) rfl) (fun _ => lc_isi) T.m_isinstance (da_cons (de_v 0) (da_cons (de_bltn (x := "tuple") (n := "tuple") T.m_tuple) da_nil))))) (dw_or1 (dt_not (dt_val (de_callB (k_all (K := K) rfl rfl) (fun _ => lc_allB) T.m_all (da_cons (de_lc (own := [("letter", 3)]) sc_is_lot.nd (ki_tup (K := K) rfl (de_v 0)) (blkOk_by (N := ["value", "one", "other", "letter"]) (sc := defScope s_is_lot) (by decide +kernel)) (fun _ _ _ _ _ => by exact (dg_name 3 (by decide) sc_is_lot.nd)) (fun _ _ _ _ _ => by exact dp_nil) (fun _ _ _ _ _ => by exact (k_fn (K := K) rfl G_is_word (hr.mono (by decide)) (da_cons (de_v 3) da_nil)))) da_nil))))))) (dss_one (ds_ret de_bl)) dss_nil)
      (dss_one (ds_ret (de_callB (k_all (K := K) rfl rfl) (fun _ => lc_allB) T.m_all (da_cons (de_lc (own := [("one", 1), ("other", 2)]) sc_is_lot.nd (ki_zip (K := K) rfl T.m_zip (da_cons (de_v 0) (da_cons (de_slice (k_slT (K := K) rfl) (fun _ => ls_tup) (de_v 0) (do_some de_int) do_none) da_nil))) (blkOk_by (N := ["value", "one", "other", "letter"]) (sc := defScope s_is_lot) (by decide +kernel)) (fun _ _ _ _ _ => by exact (kg_tup (K := K) (n := 2) rfl rfl (dgs_cons (dg_name 1 (by decide) sc_is_lot.nd) (dgs_cons (dg_name 2 (by decide) sc_is_lot.nd) dgs_nil)))) (fun _ _ _ _ _ => by exact dp_nil) (fun _ _ _ _ _ => by exact (de_cmp op_lt_str (fun _ => lo_ltS) (de_v 1) (de_v 2)))) da_nil))))), ?_⟩
  obtain ⟨d, rfl, ha, hR⟩ := hm
  cases d
  case tuple xs =>
    obtain ⟨hl, hx⟩ := allA_tup.mp ha
    have hz : xs.length ≤ sizeLine := by rw [sizeLine_eq]; omega
    have hR' : R (.d (.bool (xs.all isW && asc (xs.map unStr)))) := hR
    refine if_iffS (xs.all isW = false) (xs.all isW = true) (fun Q hp hq => ?_) (fun h => ?_) (fun h => ?_)
    · refine ⟨_, rfl, _, rfl, ?_⟩
      refine ifb (fun h => absurd h (by decide)) (fun _ => ?_)
      refine ⟨_, rfl, hz, ?_⟩
      refine lc_mapD (fun x => .bool (isW x)) (fun x hm k hk => ?_) ?_
      · exact ⟨rfl, x, rfl, hx x hm, hk _ rfl⟩
      · refine ⟨xs.map isW, by rw [List.map_map]; rfl, _, rfl, ?_⟩
        rw [List.all_map]
        show Q (!xs.all isW)
        cases g : xs.all isW with
        | true => exact hq g
        | false => exact hp g
    · rw [h, Bool.false_and] at hR'
      exact hR'
    · rw [h, Bool.true_and] at hR'
      dsimp only [dNext]
      refine ⟨1, rfl, ?_⟩
      refine Or.inr ?_
      refine ⟨xs, xs.tail, ?_, ?_⟩
      · show [Sl.d (.tuple xs), Sl.d (.tuple (Pu.cutD xs (some 1) none))] = _
        rw [cut_1]
      · have e : zipD xs xs.tail = ((xs.map unStr).zip (xs.map unStr).tail).map fun p => .tuple [.str p.1, .str p.2] := by
          have w := words_of h
          generalize xs.map unStr = ws at w
          subst w
          rw [← List.map_tail, zip_str]
        rw [e]
        refine ⟨by rw [List.length_map, List.length_zip, List.length_map]; exact Nat.le_trans (Nat.min_le_left _ _) hz, ?_⟩
        refine lc_mapT (fun p : Str × Str => PyData.tuple [.str p.1, .str p.2]) (fun p => PyData.bool (ltS p.1 p.2)) (fun p _ k hk => ?_) ?_
        · refine ⟨_, rfl, rfl, _, _, rfl, _, _, rfl, rfl, ?_⟩
          exact hk _ rfl
        · refine ⟨((xs.map unStr).zip (xs.map unStr).tail).map fun p => ltS p.1 p.2, by rw [List.map_map]; rfl, ?_⟩
          rw [List.all_map]
          rw [asc_zip] at hR'
          exact hR'
  all_goals exact ⟨_, rfl, _, rfl, hR⟩

theorem sc__law_odd : FnScope ["source", "some"] ["source"] (defScope s__law_odd) := ⟨rfl, rfl, rfl, by decide +kernel, rfl, by decide +kernel, by decide +kernel⟩
theorem fn__law_odd (A : At K mg "_law_odd" s__law_odd ["source"]) (T : Blt w K mg) (G__law_of : Fn P w K mg base "_law_of" 2 ["source", "some"] (spX K 2 m__law_of)) : Fn P w K mg base "_law_odd" 3 ["source"] (spX K 1 m__law_odd) := by
  refine fnD (k := 2) (m := m__law_odd) A sc__law_odd (fun G f cdv A outer s H E hr ss R hl hm => ?_)
  refine ⟨_, _, (dss_cons (ds_set 1 sc__law_odd.nd (DE.fz (de_lst (da_cons de_non (da_cons de_bl (da_cons de_bl (da_cons (de_un un_neg (fun _ => lu_neg) de_int) (da_cons de_int (da_cons (de_op op_pow (fun _ => lo_pow) de_int de_int) (da_cons de_str (da_cons de_str (da_cons de_str (da_cons de_str (da_cons (de_tup da_nil) (da_cons (de_lst da_nil) (da_cons de_newD (da_cons (de_tup (da_cons de_non da_nil)) (da_cons (de_lst (da_cons (de_tup da_nil) da_nil)) (da_cons (de_tup (da_cons de_str da_nil)) da_nil)))))))))))))))))))
      (dss_one (ds_ret (k_fn (K := K) rfl G__law_of (hr.mono (by decide)) (da_cons (de_v 0) (da_cons (de_op op_cat (fun _ => lo_cat) (de_v 1) (de_lst (da_cons (de_disp (dps_cons de_int dps_nil)) da_nil))) da_nil)))))), ?_⟩
  obtain ⟨rfl, hR⟩ := hm
  refine ⟨⟨by decide, by decide, by decide⟩, [], rfl, s16 (by decide), [], rfl, s16 (by decide), _, rfl, s16 (by decide), [], rfl, s16 (by decide), _, rfl, s16 (by decide), _, rfl, s16 (by decide), ?_⟩
  refine ⟨_, rfl, s16 (by decide), ?_⟩
  dsimp only
  refine ⟨_, rfl, _, rfl, s16 (by decide), ?_⟩
  exact ⟨s16 (by decide), rfl, oddL, rfl, by simp [oddL], by show 17 < 1000000; omega, hR⟩

theorem sc__law_words : FnScope ["source", "many", "some"] ["source", "many"] (defScope s__law_words) := ⟨rfl, rfl, rfl, by decide +kernel, rfl, by decide +kernel, by decide +kernel⟩
theorem fn__law_words (A : At K mg "_law_words" s__law_words ["source", "many"]) (T : Blt w K mg) (G__law_mixed : Fn P w K mg base "_law_mixed" 2 ["source", "things"] (spX K 2 m__law_mixed)) : Fn P w K mg base "_law_words" 3 ["source", "many"] (spX K 2 m__law_words) := by
  refine fnD (k := 2) (m := m__law_words) A sc__law_words (fun G f cdv A outer s H E hr ss R hl hm => ?_)
  refine ⟨_, _, (dss_cons (ds_set 2 sc__law_words.nd (DE.fz (de_lst (da_cons de_str (da_cons de_str (da_cons de_str (da_cons de_str (da_cons de_str (da_cons de_str (da_cons de_str (da_cons de_str (da_cons de_str (da_cons de_str (da_cons de_str (da_cons de_str (da_cons de_str da_nil))))))))))))))))
      (dss_one (ds_ret (de_callB (k_sortedS (K := K) rfl) (fun _ => lc_sortedS) T.m_sorted (da_cons (de_slice (k_slL (K := K) rfl) (fun _ => ls_list) (k_fn (K := K) rfl G__law_mixed (hr.mono (by decide)) (da_cons (de_v 0) (da_cons (de_v 2) da_nil))) do_none (do_some (de_v 1))) da_nil))))), ?_⟩
  obtain ⟨n, rfl, h1, h13, hR⟩ := hm
  refine ⟨baseW.map PyData.str, rfl, by show 13 ≤ sizeLine; rw [sizeLine_eq]; decide, ?_⟩
  refine ⟨rfl, baseW.map PyData.str, rfl, by decide, fun ys p => ?_⟩
  refine ⟨(n : Int), rfl, ?_⟩
  obtain ⟨zs, pz, rfl⟩ := perm_map (g := unStr) (fun _ => rfl) p
  show fSortedS [.d (.list (Pu.cutD (zs.map PyData.str) none (some (n : Int))))] _
  rw [cut_take, ← List.map_take]
  have hz : zs.length = 13 := pz.length_eq
  have nd : zs.Nodup := pz.nodup_iff.mpr (by decide)
  refine ⟨zs.take n, strsD_map _, by rw [List.length_take]; omega, fun ys pm hs => hR ys ⟨hs, pm.nodup_iff.mpr (nd.sublist (List.take_sublist _ _)), ?_, fun x hx => pz.mem_iff.mp (List.take_subset _ _ (pm.mem_iff.mp hx))⟩⟩
  rw [pm.length_eq, List.length_take]; omega

theorem sc__law_row : FnScope ["source", "words", "most", "sizes", "parts", "far", "size", "lap"] ["source", "words", "most"] (defScope s__law_row) := ⟨rfl, rfl, rfl, by decide +kernel, rfl, by decide +kernel, by decide +kernel⟩
theorem fn__law_row (A : At K mg "_law_row" s__law_row ["source", "words", "most"]) (T : Blt w K mg) (G__law_lot : Fn P w K mg base "_law_lot" 2 ["source", "words"] (spX K 2 m__law_lot)) (G__law_of : Fn P w K mg base "_law_of" 2 ["source", "some"] (spX K 2 m__law_of)) (G__law_pick : Fn P w K mg base "_law_pick" 1 ["source", "many"] (spX K 2 m__law_pick)) : Fn P w K mg base "_law_row" 3 ["source", "words", "most"] (spX K 3 m__law_row) := by
  refine fnD (k := 2) (m := m__law_row) A sc__law_row (fun G f cdv A outer s H E hr ss R hl hm => ?_)
  refine ⟨_, _, (dss_cons (ds_set 3 sc__law_row.nd (DE.fz (de_lst (da_cons (de_op op_add (fun _ => lo_add) de_int (k_fn (K := K) rfl G__law_pick (hr.mono (by decide)) (da_cons (de_v 0) (da_cons (de_v 2) da_nil)))) (da_cons (k_fn (K := K) rfl G__law_pick (hr.mono (by decide)) (da_cons (de_v 0) (da_cons (de_op op_add (fun _ => lo_add) (de_v 2) de_int) da_nil))) (da_cons (de_op op_add (fun _ => lo_add) de_int (k_fn (K := K) rfl G__law_pick (hr.mono (by decide)) (da_cons (de_v 0) (da_cons (de_v 2) da_nil)))) da_nil))))))
      (dss_cons (ds_setLcF 4 (own := [("size", 6)]) sc__law_row.nd (ki_list (K := K) rfl (de_v 3)) (blkOk_by (N := ["source", "words", "most", "sizes", "parts", "far", "size", "lap"]) (sc := defScope s__law_row) (by decide +kernel)) (fun _ _ _ _ _ => by exact (dg_name 6 (by decide) sc__law_row.nd)) (fun _ _ _ _ _ => by exact dp_nil) (fun _ _ _ _ _ => by exact (de_callTy (k_tuple (K := K) rfl) (fun _ => lc_tuple) T.m_tuple (da_cons (de_lc (own := [("lap", 7)]) sc__law_row.nd (di_rng1 T.m_range (da_cons (de_v 6) da_nil)) (blkOk_by (N := ["source", "words", "most", "sizes", "parts", "far", "size", "lap"]) (sc := relS _ (defScope s__law_row)) (by decide +kernel)) (fun _ _ _ _ _ => by exact (dg_name 7 (by decide) sc__law_row.nd)) (fun _ _ _ _ _ => by exact dp_nil) (fun _ _ _ _ _ => by exact (k_fn (K := K) rfl G__law_lot (hr.mono (by decide)) (da_cons (de_v 0) (da_cons (de_v 1) da_nil))))) da_nil))) (sw_true rfl rfl rfl (by decide +kernel)))
      (dss_cons (ds_set 5 sc__law_row.nd (k_fn (K := K) rfl G__law_of (hr.mono (by decide)) (da_cons (de_v 0) (da_cons (de_lst (da_cons de_int (da_cons de_int (da_cons de_int (da_cons de_int (da_cons (de_op op_sub (fun _ => lo_sub) (de_op op_pow (fun _ => lo_pow) de_int de_int) de_int) (da_cons (de_op op_sub (fun _ => lo_sub) de_int (de_op op_pow (fun _ => lo_pow) de_int de_int)) da_nil))))))) da_nil))))
      (dss_one (ds_ret (de_tup (da_cons (de_op op_sub (fun _ => lo_sub) (de_op op_add (fun _ => lo_add) (de_v 5) (k_fn (K := K) rfl G__law_pick (hr.mono (by decide)) (da_cons (de_v 0) (da_cons de_int da_nil)))) de_int) (da_cons (de_ix (k_ix (K := K) rfl) (fun _ => lo_ix) (de_v 4) de_int) (da_cons (de_ix (k_ix (K := K) rfl) (fun _ => lo_ix) (de_v 4) de_int) (da_cons (de_ix (k_ix (K := K) rfl) (fun _ => lo_ix) (de_v 4) de_int) da_nil)))))))))), ?_⟩
  obtain ⟨ws, n, rfl, hw, h1, h2, hR⟩ := hm
  refine ⟨rfl, n, rfl, by omega, fun a a0 a1 => ⟨rfl, n + 2, rfl, by omega, fun b b0 b1 => ⟨rfl, n, rfl, by omega, fun c c0 c1 => ?_⟩⟩⟩
  have a2 : a ≤ 10 := by split at a1 <;> omega
  have b2 : b ≤ 12 := by split at b1 <;> omega
  have c2 : c ≤ 10 := by split at c1 <;> omega
  refine ⟨[.int (1 + a), .int b, .int (1 + c)], rfl, by rw [sizeLine_eq]; show 3 ≤ 16777216; decide, ?_⟩
  have hsz : ∀ y ∈ ([.int (1 + a), .int b, .int (1 + c)] : List PyData), ∃ n : Int, y = .int n ∧ 0 ≤ n ∧ n ≤ 60 := fun y hy => by
    simp only [List.mem_cons, List.not_mem_nil, or_false] at hy
    rcases hy with rfl | rfl | rfl <;> exact ⟨_, rfl, by omega, by omega⟩
  refine ⟨_, rfl, by rw [sizeLine_eq]; show 3 ≤ 16777216; decide, ?_⟩
  refine lc_by (fun i acc => ∃ parts : List (List (List Str)), acc = parts.map lotsD ∧ parts.length = i ∧ ∀ (j : Nat) (part : List (List Str)), parts[j]? = some part → ∃ n : Int, ([.int (1 + a), .int b, .int (1 + c)] : List PyData)[j]? = some (PyData.int n) ∧ PartOk ws n.toNat part) ⟨[], rfl, rfl, fun j part h => by simp at h⟩ (fun j y acc hy hI k hk => ?_) (fun acc ha => ?_)
  · obtain ⟨parts, rfl, hl, hp⟩ := hI
    obtain ⟨n, rfl, n0, n1⟩ := hsz y (List.mem_of_getElem? hy)
    refine ⟨n, rfl, ⟨by omega, by omega⟩, by rw [rngD_length, sizeLine_eq]; omega, ?_⟩
    refine lc_all (fun x => ∃ l : List Str, l.Sublist ws ∧ x = lotD l) (fun y hy k2 hk2 => ⟨rfl, ws, rfl, by omega, fun lot hlot => hk2 _ _ rfl ⟨lot, hlot, rfl⟩⟩) (fun zs hz hP => ?_)
    obtain ⟨part, rfl, hsub⟩ := lots_of hP
    rw [List.length_map, rngD_length] at hz
    refine ⟨_, rfl, hk _ ⟨parts ++ [part], by rw [List.map_append]; rfl, by simp [hl], fun i q hq => ?_⟩⟩
    rw [List.getElem?_append] at hq
    split at hq
    · exact hp i q hq
    · rename_i hi
      have e : i = j := by
        have : i - parts.length < 1 := by
          have := (List.getElem?_eq_some_iff.mp hq).1
          simpa using this
        omega
      subst e
      rw [hl, Nat.sub_self] at hq
      cases hq
      exact ⟨n, hy, hz, hsub⟩
  obtain ⟨parts, rfl, hl, hp⟩ := ha
  obtain ⟨p0, p1, p2, rfl⟩ : ∃ p0 p1 p2, parts = [p0, p1, p2] := by
    match parts, hl with
    | [a, b, c], _ => exact ⟨a, b, c, rfl⟩
  obtain ⟨m0, e0, q0⟩ := hp 0 p0 rfl
  obtain ⟨m1, e1, q1⟩ := hp 1 p1 rfl
  obtain ⟨m2, e2, q2⟩ := hp 2 p2 rfl
  cases e0
  cases e1
  cases e2
  
  refine ⟨⟨by decide, by decide, by decide⟩, ⟨by decide, by decide, by decide⟩, ([.int 0, .int 0, .int 0, .int 0, .int (10 ^ 30 - 300), .int (300 - 10 ^ 30)] : List PyData), rfl, by rw [sizeLine_eq]; decide, rfl, _, rfl, by decide, by decide, fun x hx => ?_⟩
  obtain ⟨v, rfl, hv⟩ : ∃ v : Int, x = .int v ∧ v.natAbs ≤ 10 ^ 30 := by
    simp only [List.mem_cons, List.not_mem_nil, or_false] at hx
    rcases hx with rfl | rfl | rfl | rfl | rfl | rfl <;> exact ⟨_, rfl, by decide⟩
  refine ⟨rfl, 9, rfl, by decide, fun k k0 k1 => ?_⟩
  have k1 : k < 9 := k1
  refine ⟨_, rfl, _, rfl, _, rfl, _, rfl, by rw [sizeLine_eq]; show 4 ≤ 16777216; decide, ?_⟩
  have hfar : (v + k - 4).natAbs ≤ 10 ^ 40 := by
    have : (10 : Nat) ^ 40 ≥ 10 ^ 30 + 100 := by decide
    omega
  exact hR ⟨v + k - 4, p0, p1, p2⟩ (rowOk q0 q1 q2 (by omega) (by omega) (by omega) (by omega) (by omega) hfar)

theorem sc__law_wide_row : FnScope ["source", "words", "parts", "size", "lap"] ["source", "words"] (defScope s__law_wide_row) := ⟨rfl, rfl, rfl, by decide +kernel, rfl, by decide +kernel, by decide +kernel⟩
theorem fn__law_wide_row (A : At K mg "_law_wide_row" s__law_wide_row ["source", "words"]) (T : Blt w K mg) (G__law_lot : Fn P w K mg base "_law_lot" 2 ["source", "words"] (spX K 2 m__law_lot)) (G__law_pick : Fn P w K mg base "_law_pick" 1 ["source", "many"] (spX K 2 m__law_pick)) : Fn P w K mg base "_law_wide_row" 3 ["source", "words"] (spX K 2 m__law_wide_row) := by
  refine fnD (k := 2) (m := m__law_wide_row) A sc__law_wide_row (fun G f cdv A outer s H E hr ss R hl hm => ?_)
  refine ⟨_, _, (dss_cons (ds_setLcF 2 (own := [("size", 3)]) sc__law_wide_row.nd (ki_tup (K := K) rfl (de_tup (da_cons de_int (da_cons de_int (da_cons de_int da_nil))))) (blkOk_by (N := ["source", "words", "parts", "size", "lap"]) (sc := defScope s__law_wide_row) (by decide +kernel)) (fun _ _ _ _ _ => by exact (dg_name 3 (by decide) sc__law_wide_row.nd)) (fun _ _ _ _ _ => by exact dp_nil) (fun _ _ _ _ _ => by exact (de_callTy (k_tuple (K := K) rfl) (fun _ => lc_tuple) T.m_tuple (da_cons (de_lc (own := [("lap", 4)]) sc__law_wide_row.nd (di_rng1 T.m_range (da_cons (de_v 3) da_nil)) (blkOk_by (N := ["source", "words", "parts", "size", "lap"]) (sc := relS _ (defScope s__law_wide_row)) (by decide +kernel)) (fun _ _ _ _ _ => by exact (dg_name 4 (by decide) sc__law_wide_row.nd)) (fun _ _ _ _ _ => by exact dp_nil) (fun _ _ _ _ _ => by exact (k_fn (K := K) rfl G__law_lot (hr.mono (by decide)) (da_cons (de_v 0) (da_cons (de_v 1) da_nil))))) da_nil))) (sw_true rfl rfl rfl (by decide +kernel)))
      (dss_one (ds_ret (de_tup (da_cons (de_op op_sub (fun _ => lo_sub) (k_fn (K := K) rfl G__law_pick (hr.mono (by decide)) (da_cons (de_v 0) (da_cons de_int da_nil))) de_int) (da_cons (de_ix (k_ix (K := K) rfl) (fun _ => lo_ix) (de_v 2) de_int) (da_cons (de_ix (k_ix (K := K) rfl) (fun _ => lo_ix) (de_v 2) de_int) (da_cons (de_ix (k_ix (K := K) rfl) (fun _ => lo_ix) (de_v 2) de_int) da_nil)))))))), ?_⟩
  obtain ⟨ws, rfl, hw, hR⟩ := hm
  have hsz : ∀ y ∈ ([.int 12, .int 24, .int 12] : List PyData), ∃ n : Int, y = .int n ∧ 0 ≤ n ∧ n ≤ 60 := fun y hy => by
    simp only [List.mem_cons, List.not_mem_nil, or_false] at hy
    rcases hy with rfl | rfl | rfl <;> exact ⟨_, rfl, by decide, by decide⟩
  refine ⟨[.int 12, .int 24, .int 12], rfl, by rw [sizeLine_eq]; decide, ?_⟩
  refine ⟨_, rfl, by rw [sizeLine_eq]; decide, ?_⟩
  refine lc_by (fun i acc => ∃ parts : List (List (List Str)), acc = parts.map lotsD ∧ parts.length = i ∧ ∀ (j : Nat) (part : List (List Str)), parts[j]? = some part → ∃ n : Int, ([.int 12, .int 24, .int 12] : List PyData)[j]? = some (PyData.int n) ∧ PartOk ws n.toNat part) ⟨[], rfl, rfl, fun j part h => by simp at h⟩ (fun j y acc hy hI k hk => ?_) (fun acc ha => ?_)
  · obtain ⟨parts, rfl, hl, hp⟩ := hI
    obtain ⟨n, rfl, n0, n1⟩ := hsz y (List.mem_of_getElem? hy)
    refine ⟨n, rfl, ⟨by omega, by omega⟩, by rw [rngD_length, sizeLine_eq]; omega, ?_⟩
    refine lc_all (fun x => ∃ l : List Str, l.Sublist ws ∧ x = lotD l) (fun y hy k2 hk2 => ⟨rfl, ws, rfl, by omega, fun lot hlot => hk2 _ _ rfl ⟨lot, hlot, rfl⟩⟩) (fun zs hz hP => ?_)
    obtain ⟨part, rfl, hsub⟩ := lots_of hP
    rw [List.length_map, rngD_length] at hz
    refine ⟨_, rfl, hk _ ⟨parts ++ [part], by rw [List.map_append]; rfl, by simp [hl], fun i q hq => ?_⟩⟩
    rw [List.getElem?_append] at hq
    split at hq
    · exact hp i q hq
    · rename_i hi
      have e : i = j := by
        have : i - parts.length < 1 := by
          have := (List.getElem?_eq_some_iff.mp hq).1
          simpa using this
        omega
      subst e
      rw [hl, Nat.sub_self] at hq
      cases hq
      exact ⟨n, hy, hz, hsub⟩
  obtain ⟨parts, rfl, hl, hp⟩ := ha
  obtain ⟨p0, p1, p2, rfl⟩ : ∃ p0 p1 p2, parts = [p0, p1, p2] := by
    match parts, hl with
    | [a, b, c], _ => exact ⟨a, b, c, rfl⟩
  obtain ⟨m0, e0, q0⟩ := hp 0 p0 rfl
  obtain ⟨m1, e1, q1⟩ := hp 1 p1 rfl
  obtain ⟨m2, e2, q2⟩ := hp 2 p2 rfl
  cases e0
  cases e1
  cases e2
  refine ⟨rfl, 9, rfl, by decide, fun k k0 k1 => ?_⟩
  have k1 : k < 9 := k1
  refine ⟨_, rfl, _, rfl, _, rfl, _, rfl, by rw [sizeLine_eq]; show 4 ≤ 16777216; decide, ?_⟩
  have hfar : (k - 4).natAbs ≤ 10 ^ 40 := by
    have : (10 : Nat) ^ 40 ≥ 100 := by decide
    omega
  exact hR ⟨k - 4, p0, p1, p2⟩ (rowOk q0 q1 q2 (by decide) (by decide) (by decide) (by decide) (by decide) hfar)

theorem sc__law_path : FnScope ["value", "n", "wrong", "k"] ["value"] (defScope s__law_path) := ⟨rfl, rfl, rfl, by decide +kernel, rfl, by decide +kernel, by decide +kernel⟩
theorem fn__law_path (A : At K mg "_law_path" s__law_path ["value"]) (T : Blt w K mg) (G__law_is_integer : Fn P w K mg base "_law_is_integer" 1 ["value"] (spX K 1 m__law_is_integer)) (G__law_right_lot : Fn P w K mg base "_law_right_lot" 2 ["value"] (spX K 1 m__law_right_lot)) : Fn P w K mg base "_law_path" 3 ["value"] (spX K 1 m__law_path) := by
  refine fnD (k := 2) (m := m__law_path) A sc__law_path (fun G f cdv A outer s H E hr ss R hl hm => ?_)
  refine ⟨_, _, (dss_cons (ds_if (DW.dt (dw_or (dt_not (dt_val (de_callB (k_isi (K := K) rfl) (fun _ => lc_isi) T.m_isinstance (da_cons (de_v 0) (da_cons (de_bltn (x := "tuple") (n := "tuple") T.m_tuple) da_nil))))) (dw_or1 (dt_cmp op_ne (fun _ => lo_neS) (de_callB (k_len (K := K) rfl) (fun _ => lc_len) T.m_len (da_cons (de_v 0) da_nil)) de_int)))) (dss_one (ds_ret (de_lst (da_cons (de_tup da_nil) da_nil)))) dss_nil)
      (dss_cons (ds_if (dt_not (dt_val (k_fn (K := K) rfl G__law_is_integer (hr.mono (by decide)) (da_cons (de_ix (k_ix (K := K) rfl) (fun _ => lo_ix) (de_v 0) de_int) da_nil)))) (dss_one (ds_ret (de_lst (da_cons (de_tup (da_cons de_int da_nil)) da_nil)))) dss_nil)
      (dss_cons (ds_for (js := [1]) (ki_list (K := K) rfl (de_lst (da_cons de_int (da_cons de_int (da_cons de_int da_nil))))) (by exact (dg_name 1 (by decide) sc__law_path.nd)) (dss_cons (ds_if (DW.dt (dw_or (dt_not (dt_val (de_callB (k_isi (K := K) rfl) (fun _ => lc_isi) T.m_isinstance (da_cons (de_ix (k_ix (K := K) rfl) (fun _ => lo_ix) (de_v 0) (de_v 1)) (da_cons (de_bltn (x := "tuple") (n := "tuple") T.m_tuple) da_nil))))) (dw_or1 (DW.dt (dw_and (dt_cmp op_ne (fun _ => lo_neS) (de_v 1) de_int) (dw_and1 (dt_cmp (k_eqE (K := K) rfl hr.units) (fun _ => lo_eqE) (de_ix (k_ix (K := K) rfl) (fun _ => lo_ix) (de_v 0) (de_v 1)) (de_tup da_nil)))))))) (dss_one (ds_ret (de_lst (da_cons (de_tup (da_cons (de_v 1) da_nil)) da_nil)))) dss_nil)
      (dss_cons (ds_setLcF 2 (own := [("k", 3)]) sc__law_path.nd (di_rng1 T.m_range (da_cons (de_callB (k_len (K := K) rfl) (fun _ => lc_len) T.m_len (da_cons (de_ix (k_ix (K := K) rfl) (fun _ => lo_ix) (de_v 0) (de_v 1)) da_nil)) da_nil)) (blkOk_by (N := ["value", "n", "wrong", "k"]) (sc := defScope s__law_path) (by decide +kernel)) (fun _ _ _ _ _ => by exact (dg_name 3 (by decide) sc__law_path.nd)) (fun _ _ _ _ _ => by exact (dp_one (by exact (dt_not (dt_val (k_fn (K := K) rfl G__law_right_lot (hr.mono (by decide)) (da_cons (de_ix (k_ix (K := K) rfl) (fun _ => lo_ix) (de_ix (k_ix (K := K) rfl) (fun _ => lo_ix) (de_v 0) (de_v 1)) (de_v 3)) da_nil))))))) (fun _ _ _ _ _ => by exact (de_v 3)) (sw_true rfl rfl rfl (by decide +kernel)))
      (dss_one (ds_if (dt_cmp (k_ne (K := K) rfl hr.units) (fun _ => lo_ne) (de_v 2) (de_lst da_nil)) (dss_one (ds_ret (de_lst (da_cons (de_tup (da_cons (de_v 1) (da_cons (de_ix (k_ix (K := K) rfl) (fun _ => lo_ix) (de_v 2) de_int) da_nil))) da_nil)))) dss_nil)))))
      (dss_one (ds_ret (de_lst da_nil)))))), ?_⟩
  obtain ⟨d, rfl, ha, hR⟩ := hm
  refine if_iffS (∀ a x y z, d ≠ .tuple [a, x, y, z]) (∃ a x y z, d = .tuple [a, x, y, z]) (fun Q hp hq => ?_) (fun h => ?_) (fun h => ?_)
  · cases d
    case tuple xs =>
      refine ⟨_, rfl, _, rfl, ?_⟩
      refine ifb (fun h => absurd h (by decide)) (fun _ => ?_)
      refine ⟨_, rfl, ?_⟩
      by_cases c : xs.length = 4
      · have e : (!decide (((xs.length : Nat) : Int) = 4)) = false := by rw [decide_eq_true (by omega)]; rfl
        show Q (!decide (((xs.length : Nat) : Int) = 4))
        rw [e]
        match xs, c with
        | [a, x, y, z], _ => exact hq ⟨a, x, y, z, rfl⟩
      · have e : (!decide (((xs.length : Nat) : Int) = 4)) = true := by rw [decide_eq_false (by omega)]; rfl
        show Q (!decide (((xs.length : Nat) : Int) = 4))
        rw [e]
        exact hp fun a x y z q => c (by cases q; rfl)
    all_goals exact ⟨_, rfl, _, rfl, hp fun a x y z e => by cases e⟩
  · have e : pathR d = [.tuple []] := by
      unfold pathR
      split
      · exact absurd rfl (h _ _ _ _)
      · rfl
    rw [e] at hR
    exact ⟨_, rfl, s16 (by decide), _, rfl, s16 (by decide), hR⟩
  · obtain ⟨a, x, y, z, rfl⟩ := h
    obtain ⟨_, hx⟩ := allA_tup.mp ha
    have hp0 : pathR (.tuple [a, x, y, z]) = if isI a then firstL 1 [x, y, z] else [.tuple [.int 0]] := rfl
    rw [hp0] at hR
    dsimp only [dNext]
    refine if_iffS (isI a = false) (isI a = true) (fun Q hp hq => ?_) (fun h => ?_) (fun h => ?_)
    · refine ⟨a, at_0, rfl, a, rfl, _, rfl, ?_⟩
      cases g : isI a with
      | true => exact hq g
      | false => exact hp g
    · rw [h, if_neg (by decide)] at hR
      exact ⟨_, rfl, s16 (by decide), _, rfl, s16 (by decide), hR⟩
    · rw [h, if_pos rfl] at hR
      dsimp only [dNext]
      refine ⟨_, rfl, s16 (by decide), ?_⟩
      refine ⟨_, rfl, ?_⟩
      refine loop_byT (fun (i : Nat) => PyData.int (1 + (i : Nat))) (l := List.range 3) (fun j env => ∃ v1 v2 v3, env = [some (.d (.tuple [a, x, y, z])), v1, v2, v3] ∧ firstL 1 [x, y, z] = firstL (1 + j) ([x, y, z].drop j)) ⟨none, none, none, rfl, rfl⟩ ?_ ?_
      · rintro j i env hi ⟨v1, v2, v3, rfl, hf⟩ nx hn
        have hj : j < 3 := by simpa using (List.getElem?_eq_some_iff.mp hi).1
        obtain rfl : j = i := by simpa [List.getElem?_range hj] using hi
        have hd : [x, y, z].drop j = [x, y, z][j] :: [x, y, z].drop (j + 1) := List.drop_eq_getElem_cons hj
        rw [hd] at hf
        have hf2 : firstL 1 [x, y, z] = match wrongL (1 + j) [x, y, z][j] with | some p => [.tuple p] | none => firstL (1 + j + 1) ([x, y, z].drop (j + 1)) := hf
        have hm4 : atI [a, x, y, z] (1 + (j : Nat)) = some [x, y, z][j] := by
          rw [at_n (j := j + 1) (by omega) (by simp; omega)]
          rfl
        have hy2 : allA [x, y, z][j] = true := hx _ (List.mem_cons_of_mem _ (List.getElem_mem hj))
        have e1 : ((1 : Int) + (j : Nat)) = ((1 + j : Nat) : Int) := by omega
        generalize [x, y, z][j] = u at *
        generalize firstL (1 + j + 1) ([x, y, z].drop (j + 1)) = rest at *
        refine if_iffS (wrongL (1 + j) u = some [.int (1 + (j : Nat))]) (∃ us, u = .tuple us ∧ wrongL (1 + j) u = (firstBad (fun x => !isLot x) 0 us).map fun i => [.int (1 + (j : Nat)), .int (i : Nat)]) (fun Q hp hq => ?_) (fun h => ?_) (fun h => ?_)
        · cases u
          case tuple us =>
            have w : wrongL (1 + j) (.tuple us) = if us.isEmpty && decide (1 + j ≠ 2) then some [.int ((1 + j : Nat) : Int)] else (firstBad (fun x => !isLot x) 0 us).map fun i => [.int ((1 + j : Nat) : Int), .int (i : Nat)] := rfl
            rw [← e1] at w
            refine ⟨_, hm4, _, rfl, _, rfl, ?_⟩
            refine ifb (fun h => absurd h (by decide)) (fun _ => ?_)
            refine ⟨_, rfl, ?_⟩
            refine ifb (fun h => ?_) (fun h => ?_)
            · refine ⟨_, hm4, [], rfl, s16 (by decide), ?_⟩
              refine ⟨_, rfl, ?_⟩
              have nz : decide (1 + j ≠ 2) = true := decide_eq_true fun z => absurd h (by rw [show (1 : Int) + (j : Nat) = 2 by omega]; decide)
              rw [nz, Bool.and_true] at w
              rw [Bool.false_bne]
              cases g : us.isEmpty with
              | true =>
                rw [g, if_pos rfl] at w
                exact hp w
              | false =>
                rw [g, if_neg (by decide)] at w
                exact hq ⟨us, rfl, w⟩
            · have nz : decide (1 + j ≠ 2) = false := decide_eq_false fun z => z (by
                have := of_decide_eq_true (show decide ((1 : Int) + (j : Nat) = 2) = true by simpa using h)
                omega)
              rw [nz, Bool.and_false, if_neg (by decide)] at w
              exact hq ⟨us, rfl, w⟩
          all_goals
            refine ⟨_, hm4, _, rfl, _, rfl, ?_⟩
            exact hp rfl
        · rw [h] at hf2
          rw [hf2] at hR
          exact ⟨_, rfl, s16 (by show 1 ≤ 16777216; omega), _, rfl, s16 (by show 1 ≤ 16777216; omega), hR⟩
        · obtain ⟨us, rfl, w⟩ := h
          obtain ⟨ul, ux⟩ := allA_tup.mp hy2
          dsimp only [dNext]
          rw [firstBad_head] at w
          refine sq_set (fun s => s = .d (.list (((List.range us.length).filter fun i => !isLot (us.getD i .none)).map fun (i : Nat) => PyData.int (0 + (i : Nat))))) (fun Q hQ => ?_) ?_
          · refine ⟨_, hm4, us.length, rfl, ⟨by omega, by omega⟩, by rw [rngD_length]; exact s16 (by omega), ?_⟩
            refine lc_fmGo (fun (i : Nat) => PyData.int (0 + (i : Nat))) (fun i => if isLot (us.getD i .none) = true then none else some (PyData.int (0 + (i : Nat)))) (List.range us.length) [] (fun i hi k hk => ?_) ?_
            · have hi := List.mem_range.mp hi
              have el : atI us (0 + (i : Nat)) = some (us.getD i .none) := by
                rw [at_n (j := i) (by omega) hi, List.getD_eq_getElem?_getD, List.getElem?_eq_getElem hi]
                rfl
              refine ⟨_, hm4, _, el, rfl, us.getD i .none, rfl, ?_, _, rfl, ?_⟩
              · rw [List.getD_eq_getElem?_getD, List.getElem?_eq_getElem hi]
                exact ux _ (List.getElem_mem hi)
              cases g : isLot (us.getD i .none) with
              | true =>
                rw [g, if_pos rfl] at hk
                exact hk
              | false =>
                rw [g, if_neg (by decide)] at hk
                exact ⟨_, rfl, hk⟩
            · rw [List.nil_append, fm_filter]
              exact hQ _ rfl
          · rintro _ rfl
            have hb : ∀ i ∈ (List.range us.length).filter (fun i => !isLot (us.getD i .none)), i < 1000 := fun i hi => by
              have := List.mem_range.mp (List.mem_filter.mp hi).1
              omega
            generalize ((List.range us.length).filter fun i => !isLot (us.getD i .none)) = ks at w hb ⊢
            have o : okD1 (.list (ks.map fun (i : Nat) => PyData.int (0 + (i : Nat)))) := okD1_lst fun x hx => by
              obtain ⟨i, hi, rfl⟩ := List.mem_map.mp hx
              have := hb i hi
              have := p100
              exact ⟨by simp only [tame]; exact decide_eq_true (by omega), rfl, Nat.zero_le _⟩
            cases ks with
            | nil =>
              have w' : wrongL (1 + j) (.tuple us) = none := w
              rw [w'] at hf2
              refine ⟨[], rfl, s16 (by decide), o, okD1_nil, _, rfl, ?_⟩
              exact hn _ ⟨_, _, _, rfl, hf2⟩
            | cons k ks =>
              have w' : wrongL (1 + j) (.tuple us) = some [.int (1 + (j : Nat)), .int ((0 + k : Nat) : Int)] := w
              rw [w'] at hf2
              refine ⟨[], rfl, s16 (by decide), o, okD1_nil, _, rfl, ?_⟩
              rw [eqvD_nil]
              refine ⟨.int (0 + (k : Nat)), at_0, ?_⟩
              rw [hf2] at hR
              refine ⟨_, rfl, s16 (by show 2 ≤ 16777216; omega), _, rfl, s16 (by show 1 ≤ 16777216; omega), ?_⟩
              have e0 : ((0 + k : Nat) : Int) = 0 + (k : Nat) := by omega
              rw [e0] at hR
              exact hR
      · rintro env ⟨v1, v2, v3, rfl, hf⟩
        have hf2 : firstL 1 [x, y, z] = [] := hf
        rw [hf2] at hR
        exact ⟨_, rfl, s16 (by decide), hR⟩

theorem sc__law_strange : FnScope ["source", "some"] ["source"] (defScope s__law_strange) := ⟨rfl, rfl, rfl, by decide +kernel, rfl, by decide +kernel, by decide +kernel⟩
theorem fn__law_strange (A : At K mg "_law_strange" s__law_strange ["source"]) (T : Blt w K mg) (G__law_deep : Fn P w K mg base "_law_deep" 1 ["many"] (spX K 1 m__law_deep)) (G__law_of : Fn P w K mg base "_law_of" 2 ["source", "some"] (spX K 2 m__law_of)) : Fn P w K mg base "_law_strange" 3 ["source"] (spX K 1 m__law_strange) := by
  refine fnD (k := 2) (m := m__law_strange) A sc__law_strange (fun G f cdv A outer s H E hr ss R hl hm => ?_)
  refine ⟨_, _, (dss_cons (ds_set 1 sc__law_strange.nd (DE.fz (de_lst (da_cons de_non (da_cons de_bl (da_cons de_int (da_cons de_str (da_cons de_str (da_cons (de_lst da_nil) (da_cons (de_lst (da_cons de_str da_nil)) (da_cons de_newD (da_cons (de_tup (da_cons de_str (da_cons de_str da_nil))) (da_cons (de_tup (da_cons de_str (da_cons de_str da_nil))) (da_cons (de_tup (da_cons de_str da_nil)) (da_cons (de_tup (da_cons de_str da_nil)) (da_cons (de_tup (da_cons de_str (da_cons de_non da_nil))) da_nil))))))))))))))))
      (dss_cons (ds_set 1 sc__law_strange.nd (DE.fz (de_op op_cat (fun _ => lo_cat) (de_v 1) (de_lst (da_cons (de_tup (da_cons (de_tup (da_cons de_str da_nil)) da_nil)) (da_cons (de_tup (da_cons de_str da_nil)) (da_cons (de_tup (da_cons de_str da_nil)) (da_cons (de_tup (da_cons de_str da_nil)) (da_cons (de_tup (da_cons (de_tup da_nil) da_nil)) (da_cons (de_disp (dps_cons de_int dps_nil)) (da_cons (de_op op_pow (fun _ => lo_pow) de_int de_int) (da_cons (de_tup da_nil) (da_cons (de_tup (da_cons de_str da_nil)) (da_cons (de_tup (da_cons de_str (da_cons de_str da_nil))) (da_cons (de_tup (da_cons de_int da_nil)) da_nil)))))))))))))))
      (dss_one (ds_ret (k_fn (K := K) rfl G__law_of (hr.mono (by decide)) (da_cons (de_v 0) (da_cons (de_op op_cat (fun _ => lo_cat) (de_v 1) (de_lst (da_cons (k_fn (K := K) rfl G__law_deep (hr.mono (by decide)) (da_cons de_int da_nil)) (da_cons (de_tup (da_cons de_str (da_cons de_str (da_cons de_str da_nil)))) (da_cons (de_tup (da_cons de_str (da_cons de_str da_nil))) (da_cons (de_tup (da_cons de_str (da_cons de_str da_nil))) (da_cons (de_tup (da_cons de_str (da_cons de_str da_nil))) (da_cons (de_tup (da_cons de_str (da_cons (de_lst da_nil) da_nil))) da_nil)))))))) da_nil))))))), ?_⟩
  obtain ⟨rfl, hR⟩ := hm
  have z1 : ∀ n : Nat, n ≤ 100 → n ≤ sizeLine := fun n h => s16 (by omega)
  refine ⟨[], rfl, z1 _ (by decide), _, rfl, z1 _ (by decide), _, rfl, z1 _ (by decide), _, rfl, z1 _ (by decide), _, rfl, z1 _ (by decide), _, rfl, z1 _ (by decide), _, rfl, z1 _ (by decide), _, rfl, z1 _ (by decide), ?_⟩
  dsimp only
  refine ⟨_, rfl, z1 _ (by decide), _, rfl, z1 _ (by decide), _, rfl, z1 _ (by decide), _, rfl, z1 _ (by decide), _, rfl, z1 _ (by decide), [], rfl, z1 _ (by decide), _, rfl, z1 _ (by decide), _, rfl, ⟨by decide, by decide, by decide⟩, [], rfl, z1 _ (by decide), _, rfl, z1 _ (by decide), _, rfl, z1 _ (by decide), _, rfl, z1 _ (by decide), _, rfl, z1 _ (by decide), z1 _ (by decide), ?_⟩
  dsimp only
  refine ⟨rfl, 36, rfl, by decide, ?_⟩
  refine ⟨_, rfl, z1 _ (by decide), _, rfl, z1 _ (by decide), _, rfl, z1 _ (by decide), _, rfl, z1 _ (by decide), [], rfl, z1 _ (by decide), _, rfl, z1 _ (by decide), _, rfl, z1 _ (by decide), z1 _ (by decide), ?_⟩
  exact ⟨rfl, strL, rfl, by simp [strL], by show 30 < 1000000; omega, hR⟩

theorem sc__wrong_lots : FnScope ["value", "number", "at", "lot"] ["value", "number"] (defScope s__wrong_lots) := ⟨rfl, rfl, rfl, by decide +kernel, rfl, by decide +kernel, by decide +kernel⟩
theorem fn__wrong_lots (A : At K mg "_wrong_lots" s__wrong_lots ["value", "number"]) (T : Blt w K mg) (G_is_lot : Fn P w K mg base "is_lot" 3 ["value"] (spX K 1 m_is_lot)) : Fn P w K mg base "_wrong_lots" 4 ["value", "number"] (spX K 2 m__wrong_lots) := by
  refine fnD (k := 3) (m := m__wrong_lots) A sc__wrong_lots (fun G f cdv A outer s H E hr ss R hl hm => ?_)
  refine ⟨_, _, (dss_cons (ds_if (dt_not (dt_val (de_callB (k_isi (K := K) rfl) (fun _ => lc_isi) T.m_isinstance (da_cons (de_v 0) (da_cons (de_bltn (x := "tuple") (n := "tuple") T.m_tuple) da_nil))))) (dss_one (ds_ret (de_tup (da_cons (de_v 1) da_nil)))) dss_nil)
      (dss_cons (ds_if (DW.dt (dw_and (dt_cmp op_eq (fun _ => lo_eqS) (de_callB (k_len (K := K) rfl) (fun _ => lc_len) T.m_len (da_cons (de_v 0) da_nil)) de_int) (dw_and1 (dt_cmp op_ne (fun _ => lo_neS) (de_v 1) de_int)))) (dss_one (ds_ret (de_tup (da_cons (de_v 1) da_nil)))) dss_nil)
      (dss_cons (ds_for (js := [2, 3]) (ki_enumT (K := K) rfl T.m_enumerate (da_cons (de_v 0) da_nil)) (by exact (kg_tup (K := K) (n := 2) rfl rfl (dgs_cons (dg_name 2 (by decide) sc__wrong_lots.nd) (dgs_cons (dg_name 3 (by decide) sc__wrong_lots.nd) dgs_nil)))) (dss_one (ds_if (dt_not (dt_val (k_fn (K := K) rfl G_is_lot (hr.mono (by decide)) (da_cons (de_v 3) da_nil)))) (dss_one (ds_ret (de_tup (da_cons (de_v 1) (da_cons (de_v 2) da_nil))))) dss_nil)))
      (dss_one (ds_ret de_non))))), ?_⟩
  obtain ⟨d, k, rfl, ha, hR⟩ := hm
  cases d
  case tuple xs =>
    obtain ⟨hl, hx⟩ := allA_tup.mp ha
    have hz : xs.length ≤ sizeLine := by rw [sizeLine_eq]; omega
    refine if_iffS False True (fun Q hp hq => ?_) (fun h => h.elim) (fun _ => ?_)
    · refine ⟨_, rfl, _, rfl, ?_⟩
      exact hq trivial
    dsimp only [dNext]
    refine if_iffS ((xs.isEmpty && decide (k ≠ 2)) = true) ((xs.isEmpty && decide (k ≠ 2)) = false) (fun Q hp hq => ?_) (fun h => ?_) (fun h => ?_)
    · refine ⟨_, rfl, ?_⟩
      refine ifb (fun h => ?_) (fun h => ?_)
      · have h0 : xs = [] := List.length_eq_zero_iff.mp (by have := of_decide_eq_true h; omega)
        subst h0
        refine ⟨_, rfl, ?_⟩
        by_cases c : k = 2
        · subst c
          exact hq rfl
        · have e : (!decide (((k : Nat) : Int) = 2)) = true := by rw [decide_eq_false (by omega)]; rfl
          show Q (!decide (((k : Nat) : Int) = 2))
          rw [e]
          exact hp (by rw [decide_eq_true c]; rfl)
      · refine hq ?_
        cases xs with
        | nil => exact absurd (of_decide_eq_false (show decide (((([] : List PyData).length : Nat) : Int) = 0) = false from h)) (fun z => z rfl)
        | cons y l => rfl
    · have e : wrongL k (.tuple xs) = some [.int (k : Nat)] := by
        show (if _ then _ else _) = _
        rw [if_pos h]
      rw [e] at hR
      exact ⟨_, rfl, s16 (by show 1 ≤ 16777216; omega), hR⟩
    · have e : wrongL k (.tuple xs) = (firstBad (fun x => !isLot x) 0 xs).map fun j => [.int (k : Nat), .int (j : Nat)] := by
        show (if _ then _ else _) = _
        rw [if_neg (by rw [h]; decide)]
      rw [e] at hR
      dsimp only [dNext]
      refine ⟨xs, rfl, ?_⟩
      dsimp only
      refine loop_by (fun j env => ∃ v1 v2, env = [some (.d (.tuple xs)), some (.d (.int (k : Nat))), v1, v2] ∧ firstBad (fun x => !isLot x) 0 xs = firstBad (fun x => !isLot x) j (xs.drop j)) ⟨none, none, rfl, by rw [List.drop_zero]⟩ ?_ ?_
      · rintro j y env hy ⟨v1, v2, rfl, hf⟩ nx hn
        have hj : j < xs.length := by
          have := (List.getElem?_eq_some_iff.mp hy).1
          rwa [enumD_length] at this
        have hg := enumD_get 0 j xs xs[j] (List.getElem?_eq_getElem hj)
        rw [Nat.zero_add] at hg
        rw [hg] at hy
        obtain rfl := Option.some.inj hy
        have hd : xs.drop j = xs[j] :: xs.drop (j + 1) := List.drop_eq_getElem_cons hj
        rw [hd] at hf
        refine ⟨_, rfl, rfl, _, _, rfl, _, _, rfl, rfl, ?_⟩
        refine ⟨rfl, xs[j], rfl, hx _ (List.getElem_mem hj), _, rfl, ?_⟩
        cases g : isLot xs[j] with
        | true =>
          have hf2 : firstBad (fun x => !isLot x) 0 xs = firstBad (fun x => !isLot x) (j + 1) (xs.drop (j + 1)) := by
            rw [hf]
            show (if (!isLot xs[j]) = true then _ else _) = _
            rw [g, if_neg (by decide)]
          exact hn _ ⟨_, _, rfl, hf2⟩
        | false =>
          have hf2 : firstBad (fun x => !isLot x) 0 xs = some j := by
            rw [hf]
            show (if (!isLot xs[j]) = true then _ else _) = _
            rw [g, if_pos (by decide)]
          rw [hf2] at hR
          exact ⟨_, rfl, s16 (by show 2 ≤ 16777216; omega), hR⟩
      · rintro env ⟨v1, v2, rfl, hf⟩
        rw [enumD_length, List.drop_length] at hf
        rw [hf] at hR
        exact hR
  all_goals
    refine if_iffS True False (fun Q hp hq => ?_) (fun h => ?_) (fun h => h.elim)
    · refine ⟨_, rfl, _, rfl, ?_⟩
      exact hp trivial
    · exact ⟨_, rfl, s16 (by show 1 ≤ 16777216; omega), hR⟩

theorem sc__law_any_row : FnScope ["source", "words"] ["source", "words"] (defScope s__law_any_row) := ⟨rfl, rfl, rfl, by decide +kernel, rfl, by decide +kernel, by decide +kernel⟩
theorem fn__law_any_row (A : At K mg "_law_any_row" s__law_any_row ["source", "words"]) (T : Blt w K mg) (G__law_of : Fn P w K mg base "_law_of" 2 ["source", "some"] (spX K 2 m__law_of)) (G__law_pick : Fn P w K mg base "_law_pick" 1 ["source", "many"] (spX K 2 m__law_pick)) (G__law_row : Fn P w K mg base "_law_row" 3 ["source", "words", "most"] (spX K 3 m__law_row)) (G__law_wide_row : Fn P w K mg base "_law_wide_row" 3 ["source", "words"] (spX K 2 m__law_wide_row)) : Fn P w K mg base "_law_any_row" 4 ["source", "words"] (spX K 2 m__law_any_row) := by
  refine fnD (k := 3) (m := m__law_any_row) A sc__law_any_row (fun G f cdv A outer s H E hr ss R hl hm => ?_)
  refine ⟨_, _, (dss_cons (ds_if (dt_cmp op_eq (fun _ => lo_eqS) (k_fn (K := K) rfl G__law_pick (hr.mono (by decide)) (da_cons (de_v 0) (da_cons de_int da_nil))) de_int) (dss_one (ds_ret (k_fn (K := K) rfl G__law_wide_row (hr.mono (by decide)) (da_cons (de_v 0) (da_cons (de_v 1) da_nil))))) dss_nil)
      (dss_one (ds_ret (k_fn (K := K) rfl G__law_row (hr.mono (by decide)) (da_cons (de_v 0) (da_cons (de_v 1) (da_cons (k_fn (K := K) rfl G__law_of (hr.mono (by decide)) (da_cons (de_v 0) (da_cons (de_lst (da_cons de_int (da_cons de_int (da_cons de_int (da_cons de_int (da_cons de_int da_nil)))))) da_nil))) da_nil))))))), ?_⟩
  obtain ⟨ws, rfl, hw, hR⟩ := hm
  refine ⟨rfl, 8, rfl, by decide, fun i h0 h1 => ⟨_, rfl, ?_⟩⟩
  refine ite2 (fun c => ?_) (fun c => ?_)
  · exact ⟨rfl, ws, rfl, hw, hR⟩
  · refine ⟨[.int 1, .int 2, .int 3, .int 4, .int 6], rfl, by rw [sizeLine_eq]; decide, rfl, _, rfl, by decide, by decide, fun x hx => ?_⟩
    have : ∃ n : Int, x = .int n ∧ 1 ≤ n ∧ n ≤ 6 := by
      simp only [List.mem_cons, List.not_mem_nil, or_false] at hx
      rcases hx with rfl | rfl | rfl | rfl | rfl <;> exact ⟨_, rfl, by decide, by decide⟩
    obtain ⟨n, rfl, n1, n2⟩ := this
    exact ⟨rfl, ws, n, rfl, hw, n1, by omega, hR⟩

theorem sc__law_bent : FnScope ["source", "value", "part", "k", "found", "way", "n"] ["source", "value"] (defScope s__law_bent) := ⟨rfl, rfl, rfl, by decide +kernel, rfl, by decide +kernel, by decide +kernel⟩
theorem fn__law_bent (A : At K mg "_law_bent" s__law_bent ["source", "value"]) (T : Blt w K mg) (G__law_deep : Fn P w K mg base "_law_deep" 1 ["many"] (spX K 1 m__law_deep)) (G__law_of : Fn P w K mg base "_law_of" 2 ["source", "some"] (spX K 2 m__law_of)) (G__law_pick : Fn P w K mg base "_law_pick" 1 ["source", "many"] (spX K 2 m__law_pick)) (G__law_strange : Fn P w K mg base "_law_strange" 3 ["source"] (spX K 1 m__law_strange)) : Fn P w K mg base "_law_bent" 4 ["source", "value"] (spX K 2 m__law_bent) := by
  refine fnD (k := 3) (m := m__law_bent) A sc__law_bent (fun G f cdv A outer s H E hr ss R hl hm => ?_)
  refine ⟨_, _, (dss_cons (ds_if (DW.dt (dw_or (dt_not (dt_val (de_callB (k_isi (K := K) rfl) (fun _ => lc_isi) T.m_isinstance (da_cons (de_v 1) (da_cons (de_bltn (x := "tuple") (n := "tuple") T.m_tuple) da_nil))))) (dw_or1 (dt_cmp op_ne (fun _ => lo_neS) (de_callB (k_len (K := K) rfl) (fun _ => lc_len) T.m_len (da_cons (de_v 1) da_nil)) de_int)))) (dss_one (ds_ret (de_v 1))) dss_nil)
      (dss_cons (ds_par3G 4 5 6 sc__law_bent.nd (de_callTy (k_list (K := K) rfl) (fun _ => lc_list) T.m_list (da_cons (de_v 1) da_nil)) (k_fn (K := K) rfl G__law_pick (hr.mono (by decide)) (da_cons (de_v 0) (da_cons de_int da_nil))) (de_op op_add (fun _ => lo_add) de_int (k_fn (K := K) rfl G__law_pick (hr.mono (by decide)) (da_cons (de_v 0) (da_cons de_int da_nil)))) (pa_cons (DE.pe (F := G) (de_callTy (k_list (K := K) rfl) (fun _ => lc_list) T.m_list (da_cons (de_v 1) da_nil))) (pa_cons (DE.pe (F := G) (k_fn (K := K) rfl G__law_pick (hr.mono (by decide)) (da_cons (de_v 0) (da_cons de_int da_nil)))) (pa_cons (DE.pe (F := G) (de_op op_add (fun _ => lo_add) de_int (k_fn (K := K) rfl G__law_pick (hr.mono (by decide)) (da_cons (de_v 0) (da_cons de_int da_nil))))) pa_nil))))
      (dss_cons (ds_set 2 sc__law_bent.nd (de_ifE (dt_val (de_callB (k_isi (K := K) rfl) (fun _ => lc_isi) T.m_isinstance (da_cons (k_ixOwn (K := K) rfl (i := 4) (de_v 6)) (da_cons (de_bltn (x := "tuple") (n := "tuple") T.m_tuple) da_nil)))) (k_ixOwn (K := K) rfl (i := 4) (de_v 6)) (de_tup da_nil)))
      (dss_cons (ds_set 3 sc__law_bent.nd (k_fn (K := K) rfl G__law_pick (hr.mono (by decide)) (da_cons (de_v 0) (da_cons (de_op op_add (fun _ => lo_add) (de_callB (k_len (K := K) rfl) (fun _ => lc_len) T.m_len (da_cons (de_v 2) da_nil)) de_int) da_nil))))
      (dss_cons (ds_if (dt_cmp op_eq (fun _ => lo_eqS) (de_v 5) de_int) (dss_one (ds_putL 4 (k_fn (K := K) rfl G__law_of (hr.mono (by decide)) (da_cons (de_v 0) (da_cons (de_lst (da_cons de_non (da_cons de_bl (da_cons de_bl (da_cons de_str (da_cons (de_tup da_nil) (da_cons (de_lst da_nil) (da_cons de_newD (da_cons (de_op op_pow (fun _ => lo_pow) de_int de_int) (da_cons (de_un un_neg (fun _ => lu_neg) (de_op op_pow (fun _ => lo_pow) de_int de_int)) (da_cons (de_tup (da_cons de_int da_nil)) (da_cons (de_un un_neg (fun _ => lu_neg) de_int) (da_cons de_str da_nil))))))))))))) da_nil))) de_int)) dss_nil)
      (dss_cons (ds_if (dt_cmp op_eq (fun _ => lo_eqS) (de_v 5) de_int) (dss_one (ds_putL 4 (k_fn (K := K) rfl G__law_of (hr.mono (by decide)) (da_cons (de_v 0) (da_cons (de_lst (da_cons de_non (da_cons (de_tup da_nil) (da_cons (de_lst da_nil) (da_cons (de_callTy (k_list (K := K) rfl) (fun _ => lc_list) T.m_list (da_cons (de_v 2) da_nil)) (da_cons de_str (da_cons de_int (da_cons de_newD (da_cons (de_tup (da_cons (de_tup da_nil) da_nil)) (da_cons de_bl (da_cons (k_fn (K := K) rfl G__law_deep (hr.mono (by decide)) (da_cons de_int da_nil)) da_nil))))))))))) da_nil))) (de_v 6))) dss_nil)
      (dss_cons (ds_if (dt_cmp (k_in (K := K) rfl) (fun _ => lo_in false) (de_v 5) (de_lst (da_cons de_int (da_cons de_int (da_cons de_int da_nil))))) (dss_one (ds_putL 4 (de_op (k_catT (K := K) rfl) (fun _ => lo_catT) (de_op (k_catT (K := K) rfl) (fun _ => lo_catT) (de_slice (k_slT (K := K) rfl) (fun _ => ls_tup) (de_v 2) do_none (do_some (de_v 3))) (de_tup (da_cons (k_fn (K := K) rfl G__law_strange (hr.mono (by decide)) (da_cons (de_v 0) da_nil)) da_nil))) (de_slice (k_slT (K := K) rfl) (fun _ => ls_tup) (de_v 2) (do_some (de_op op_add (fun _ => lo_add) (de_v 3) (de_callTy call_int1 (fun _ => lc_intA) T.m_int (da_cons (de_cmp op_gt (fun _ => lo_gt) (de_v 5) de_int) da_nil)))) do_none)) (de_v 6))) dss_nil)
      (dss_cons (ds_if (dt_cmp op_eq (fun _ => lo_eqS) (de_v 5) de_int) (dss_frz [4] (dss_one (ds_set 4 sc__law_bent.nd (de_op op_cat (fun _ => lo_cat) (de_slice (k_slL (K := K) rfl) (fun _ => ls_list) (de_v 4) do_none (do_some (de_v 6))) (de_slice (k_slL (K := K) rfl) (fun _ => ls_list) (de_v 4) (do_some (de_op op_add (fun _ => lo_add) (de_v 6) de_int)) do_none))))) dss_nil)
      (dss_cons (ds_if (dt_cmp op_eq (fun _ => lo_eqS) (de_v 5) de_int) (dss_frz [4] (dss_one (ds_set 4 sc__law_bent.nd (de_op op_cat (fun _ => lo_cat) (de_v 4) (de_lst (da_cons (k_fn (K := K) rfl G__law_of (hr.mono (by decide)) (da_cons (de_v 0) (da_cons (de_lst (da_cons (de_tup da_nil) (da_cons de_non (da_cons (de_tup (da_cons (de_tup da_nil) da_nil)) da_nil)))) da_nil))) da_nil)))))) dss_nil)
      (dss_cons (ds_if (dt_cmp op_eq (fun _ => lo_eqS) (de_v 5) de_int) (dss_one (ds_putL 4 (de_op (k_catT (K := K) rfl) (fun _ => lo_catT) (de_slice (k_slT (K := K) rfl) (fun _ => ls_tup) (de_v 2) do_none (do_some (de_v 3))) (de_slice (k_slT (K := K) rfl) (fun _ => ls_tup) (de_v 2) (do_some (de_op op_add (fun _ => lo_add) (de_v 3) de_int)) do_none)) (de_v 6))) dss_nil)
      (dss_cons (ds_if (DW.dt (dw_and (dt_cmp op_eq (fun _ => lo_eqS) (de_v 5) de_int) (dw_and1 (dt_cmp op_eq (fun _ => lo_eqS) (k_fn (K := K) rfl G__law_pick (hr.mono (by decide)) (da_cons (de_v 0) (da_cons de_int da_nil))) de_int)))) (dss_frz [4] (dss_one (ds_ret (k_fn (K := K) rfl G__law_of (hr.mono (by decide)) (da_cons (de_v 0) (da_cons (de_lst (da_cons (de_v 4) (da_cons (de_callTy (k_dictP (K := K) rfl rfl) (fun _ => lc_dictP) T.m_dict (da_cons (de_lst (da_cons (de_tup (da_cons de_int (da_cons (de_v 4) da_nil))) da_nil)) da_nil)) (da_cons de_non (da_cons (de_tup da_nil) (da_cons de_str (da_cons (de_lst (da_cons (de_callTy (k_tuple (K := K) rfl) (fun _ => lc_tuple) T.m_tuple (da_cons (de_v 4) da_nil)) da_nil)) (da_cons (de_tup (da_cons (de_callTy (k_tuple (K := K) rfl) (fun _ => lc_tuple) T.m_tuple (da_cons (de_v 4) da_nil)) da_nil)) da_nil)))))))) da_nil)))))) dss_nil)
      (dss_frz [4] (dss_one (ds_ret (de_callTy (k_tuple (K := K) rfl) (fun _ => lc_tuple) T.m_tuple (da_cons (de_v 4) da_nil)))))))))))))))), ?_⟩
  obtain ⟨v, m, rfl, hv, hm, hR⟩ := hm
  refine if_iffS (∀ a x y z, v ≠ .tuple [a, x, y, z]) (∃ a x y z, v = .tuple [a, x, y, z]) (fun Q hp hq => ?_) (fun h => ?_) (fun h => ?_)
  · cases v
    case tuple xs =>
      refine ⟨_, rfl, _, rfl, ?_⟩
      refine ifb (fun h => absurd h (by decide)) (fun _ => ?_)
      refine ⟨_, rfl, ?_⟩
      by_cases c : xs.length = 4
      · have e : (!decide (((xs.length : Nat) : Int) = 4)) = false := by rw [decide_eq_true (by omega)]; rfl
        show Q (!decide (((xs.length : Nat) : Int) = 4))
        rw [e]
        match xs, c with
        | [a, x, y, z], _ => exact hq ⟨a, x, y, z, rfl⟩
      · have e : (!decide (((xs.length : Nat) : Int) = 4)) = true := by rw [decide_eq_false (by omega)]; rfl
        show Q (!decide (((xs.length : Nat) : Int) = 4))
        rw [e]
        exact hp fun a x y z q => c (by cases q; rfl)
    all_goals exact ⟨_, rfl, _, rfl, hp fun a x y z e => by cases e⟩
  · exact hR _ (hv.mono (Nat.le_succ _))
  obtain ⟨a, x, y, z, rfl⟩ := h
  have hf := hv.four
  dsimp only [dNext]
  refine ⟨rfl, 9, rfl, by decide, fun w w0 w1 => ⟨rfl, 3, rfl, by decide, fun i i0 i1 => ?_⟩⟩
  have w1 : w < 9 := w1
  have i1 : i < 3 := i1
  obtain ⟨j, rfl⟩ : ∃ j : Nat, i = j := ⟨i.toNat, by omega⟩
  have hj : j < 3 := by omega
  have hm4 : atI [a, x, y, z] (1 + (j : Nat)) = some [x, y, z][j] := by
    rw [at_n (j := j + 1) (by omega) (by simp; omega)]
    rfl
  have hu : partB m [x, y, z][j] = true := hf _ (List.mem_cons_of_mem _ (List.getElem_mem hj))
  generalize [x, y, z][j] = u at hm4 hu
  dsimp only [Sl.fz]
  refine sq_set (fun s => ∃ zs, s = .d (.tuple zs) ∧ partB m (.tuple zs) = true) (fun Q hQ => ?_) ?_
  · cases u
    case tuple us => exact ⟨_, rfl, _, _, rfl, hm4, _, rfl, _, rfl, _, rfl, _, _, rfl, hm4, hQ _ ⟨us, rfl, hu⟩⟩
    all_goals exact ⟨_, rfl, _, _, rfl, hm4, _, rfl, _, rfl, [], rfl, s16 (by decide), hQ _ ⟨[], rfl, part_tup.mpr ⟨by simp, by simp⟩⟩⟩
  rintro _ ⟨zs, rfl, hz⟩
  have lz : zs.length ≤ 100 := by have := (part_tup.mp hz).1; omega
  refine ⟨rfl, zs.length + 1, rfl, by omega, fun k k0 k1 => ?_⟩
  obtain ⟨k, rfl⟩ : ∃ q : Nat, k = q := ⟨k.toNat, by omega⟩
  dsimp only [Sl.fz]
  refine sq_byL (fun env => ∃ fs, env = [some .src, some (.d (.tuple [a, x, y, z])), some (.d (.tuple zs)), some (.d (.int (k : Nat))), some (.own fs), some (.d (.int w)), some (.d (.int (1 + (j : Nat))))] ∧ fs.length = 4 ∧ ∀ u ∈ fs, partB (m + 1) u = true) (fun nx hn => ?_) ?_
  · refine ⟨_, rfl, ?_⟩
    refine ifb (fun h => ?_) (fun h => ?_)
    · refine ⟨[], rfl, s16 (by decide), [], rfl, s16 (by decide), ⟨by decide, by decide, by decide⟩, ⟨by decide, by decide, by decide⟩, _, rfl, s16 (by decide), _, rfl, s16 (by decide), ?_⟩
      refine ⟨rfl, way0, rfl, by simp [way0], by decide, fun d hd => ?_⟩
      have s := set_part (n := m + 1) (fs := [a, x, y, z]) rfl (fun u hu => part_mono (hf u hu) (Nat.le_succ _)) (part_mono (way0_ok d hd) (Nat.zero_le _)) 0
      exact ⟨d, rfl, _, rfl, 0, 0, rfl, rfl, hn _ ⟨_, rfl, s.1, s.2⟩⟩
    · exact hn _ ⟨_, rfl, rfl, fun u hu => part_mono (hf u hu) (Nat.le_succ _)⟩
  rintro _ ⟨fs, rfl, lf, pf⟩
  refine sq_byL (fun env => ∃ fs, env = [some .src, some (.d (.tuple [a, x, y, z])), some (.d (.tuple zs)), some (.d (.int (k : Nat))), some (.own fs), some (.d (.int w)), some (.d (.int (1 + (j : Nat))))] ∧ fs.length = 4 ∧ ∀ u ∈ fs, partB (m + 1) u = true) (fun nx hn => ?_) ?_
  · refine ⟨_, rfl, ?_⟩
    refine ifb (fun h => ?_) (fun h => hn _ ⟨_, rfl, lf, pf⟩)
    refine ⟨[], rfl, s16 (by decide), [], rfl, s16 (by decide), [], rfl, s16 (by decide), _, rfl, s16 (by decide), rfl, 37, rfl, by decide, _, rfl, s16 (by show 10 ≤ 16777216; omega), ?_⟩
    refine ⟨rfl, [.none, .tuple [], .list [], .list zs, .str "a", .int 0, .dict [], .tuple [.tuple []], .bool true, deepD 37], rfl, by simp, by show 10 < 1000000; omega, fun d hd => ?_⟩
    have pd : partB (m + 1) d = true := by
      by_cases c : d = .list zs
      · rw [c]; exact part_mono (part_list hz (by omega)) (Nat.le_succ _)
      · refine part_mono (way1_ok d ?_) (Nat.zero_le _)
        simp only [List.mem_cons, List.not_mem_nil, or_false] at hd ⊢
        rcases hd with h | h | h | h | h | h | h | h | h | h
        · exact .inl h
        · exact .inr (.inl h)
        · exact .inr (.inr (.inl h))
        · exact absurd h c
        · exact .inr (.inr (.inr (.inl h)))
        · exact .inr (.inr (.inr (.inr (.inl h))))
        · exact .inr (.inr (.inr (.inr (.inr (.inl h)))))
        · exact .inr (.inr (.inr (.inr (.inr (.inr (.inl h))))))
        · exact .inr (.inr (.inr (.inr (.inr (.inr (.inr (.inl h)))))))
        · exact .inr (.inr (.inr (.inr (.inr (.inr (.inr (.inr h)))))))
    have s := set_part lf pf pd (j + 1)
    exact ⟨d, rfl, _, rfl, _, _, rfl, ix4 lf hj, hn _ ⟨_, rfl, s.1, s.2⟩⟩
  clear lf pf
  rintro _ ⟨fs, rfl, lf, pf⟩
  refine sq_byL (fun env => ∃ fs, env = [some .src, some (.d (.tuple [a, x, y, z])), some (.d (.tuple zs)), some (.d (.int (k : Nat))), some (.own fs), some (.d (.int w)), some (.d (.int (1 + (j : Nat))))] ∧ fs.length = 4 ∧ ∀ u ∈ fs, partB (m + 1) u = true) (fun nx hn => ?_) ?_
  · refine ⟨_, rfl, s16 (by decide), rfl, rfl, _, rfl, ?_⟩
    refine ifb (fun _ => ?_) (fun _ => hn _ ⟨_, rfl, lf, pf⟩)
    refine ⟨(k : Nat), rfl, rfl, rfl, fun d hd => ?_⟩
    refine ⟨_, rfl, s16 (by show 1 ≤ 16777216; omega), ?_⟩
    have pd : El d := d8_mono (str_ok d hd) (by omega) (by omega)
    dsimp only [Sl.fz]
    rw [cut_take]
    refine ⟨s16 (by rw [List.length_take]; show _ + 1 ≤ _; omega), _, rfl, ?_⟩
    obtain ⟨q, hq, eq⟩ : ∃ q : Nat, k ≤ q ∧ (((k : Nat) : Int) + (if decide ((2 : Int) < w) = true then 1 else 0)) = (q : Nat) := by
      cases decide ((2 : Int) < w)
      · exact ⟨k, by omega, by rw [if_neg (by decide)]; omega⟩
      · exact ⟨k + 1, by omega, by rw [if_pos rfl]; omega⟩
    rw [eq]
    have hb := part_in hz pd hq
    have lb := (part_tup.mp hb).1
    refine ⟨s16 ?_, ?_⟩
    · rw [cut_from, ← List.length_append]; exact Nat.le_trans lb (by omega)
    · rw [cut_from]
      have s := set_part lf pf hb (j + 1)
      exact ⟨_, rfl, _, rfl, _, _, rfl, ix4 lf hj, hn _ ⟨_, rfl, s.1, s.2⟩⟩
  clear lf pf
  rintro _ ⟨fs, rfl, lf, pf⟩
  refine sq_byL (fun env => ∃ fs, env = [some .src, some (.d (.tuple [a, x, y, z])), some (.d (.tuple zs)), some (.d (.int (k : Nat))), some (.own fs), some (.d (.int w)), some (.d (.int (1 + (j : Nat))))] ∧ (fs.length = 4 ∨ w = 5) ∧ fs.length ≤ 5 ∧ ∀ u ∈ fs, partB (m + 1) u = true) (fun nx hn => ?_) ?_
  · refine ⟨_, rfl, ?_⟩
    refine ifb (fun h => ?_) (fun h => hn _ ⟨_, rfl, .inl lf, by omega, pf⟩)
    have hw : w = 5 := of_decide_eq_true h
    have c1 : Pu.cutD fs none (some (1 + (j : Nat))) = fs.take (1 + j) := by
      rw [show (1 : Int) + (j : Nat) = ((1 + j : Nat) : Int) by omega]
      exact cut_take
    have c2 : Pu.cutD fs (some (1 + (j : Nat) + 1)) none = fs.drop (1 + j + 1) := by
      rw [show (1 : Int) + (j : Nat) + 1 = ((1 + j + 1 : Nat) : Int) by omega]
      exact cut_from
    refine ⟨_, rfl, _, rfl, ?_, hn _ ⟨Pu.cutD fs none (some (1 + (j : Nat))) ++ Pu.cutD fs (some (1 + (j : Nat) + 1)) none, rfl, .inr hw, ?_, ?_⟩⟩
    · show (Pu.cutD fs none (some (1 + (j : Nat)))).length + (Pu.cutD fs (some (1 + (j : Nat) + 1)) none).length ≤ _
      rw [c1, c2, List.length_take, List.length_drop]
      exact s16 (by omega)
    · rw [c1, c2, List.length_append, List.length_take, List.length_drop]
      omega
    · rw [c1, c2]
      intro u hu
      rcases List.mem_append.mp hu with hu | hu
      · exact pf u (List.mem_of_mem_take hu)
      · exact pf u (List.mem_of_mem_drop hu)
  clear lf pf
  rintro _ ⟨fs, rfl, lf, l5, pf⟩
  refine sq_byL (fun env => ∃ fs, env = [some .src, some (.d (.tuple [a, x, y, z])), some (.d (.tuple zs)), some (.d (.int (k : Nat))), some (.own fs), some (.d (.int w)), some (.d (.int (1 + (j : Nat))))] ∧ (fs.length = 4 ∨ w = 5 ∨ w = 6) ∧ fs.length ≤ 5 ∧ ∀ u ∈ fs, partB (m + 1) u = true) (fun nx hn => ?_) ?_
  · refine ⟨_, rfl, ?_⟩
    refine ifb (fun h => ?_) (fun h => hn _ ⟨_, rfl, by omega, l5, pf⟩)
    have hw : w = 6 := of_decide_eq_true h
    have lf4 : fs.length = 4 ∨ w = 5 := by omega
    refine ⟨[], rfl, s16 (by decide), [], rfl, s16 (by decide), _, rfl, s16 (by decide), _, rfl, s16 (by decide), ?_⟩
    refine ⟨rfl, [.tuple [], .none, .tuple [.tuple []]], rfl, by simp, by decide, fun d hd => ?_⟩
    refine ⟨_, rfl, s16 (by show 1 ≤ 16777216; omega), ?_⟩
    refine ⟨s16 (by show fs.length + 1 ≤ _; omega), hn _ ⟨fs ++ [d], rfl, .inr (.inr hw), ?_, ?_⟩⟩
    · rw [List.length_append]
      show fs.length + 1 ≤ 5
      omega
    · intro u hu
      rcases List.mem_append.mp hu with hu | hu
      · exact pf u hu
      · rw [List.mem_singleton.mp hu]; exact part_mono (way6_ok d hd) (Nat.zero_le _)
  clear lf l5 pf
  rintro _ ⟨fs, rfl, lf, l5, pf⟩
  refine sq_byL (fun env => ∃ fs, env = [some .src, some (.d (.tuple [a, x, y, z])), some (.d (.tuple zs)), some (.d (.int (k : Nat))), some (.own fs), some (.d (.int w)), some (.d (.int (1 + (j : Nat))))] ∧ (fs.length = 4 ∨ w = 5 ∨ w = 6) ∧ fs.length ≤ 5 ∧ ∀ u ∈ fs, partB (m + 1) u = true) (fun nx hn => ?_) ?_
  · refine ⟨_, rfl, ?_⟩
    refine ifb (fun h => ?_) (fun h => hn _ ⟨_, rfl, lf, l5, pf⟩)
    have hw : w = 7 := of_decide_eq_true h
    have lf4 : fs.length = 4 := by omega
    have hb := part_out (k := k) hz (Nat.le_succ k)
    have lb := (part_tup.mp hb).1
    have c2 : Pu.cutD zs (some ((k : Nat) + 1)) none = zs.drop (k + 1) := by
      rw [show ((k : Nat) : Int) + 1 = ((k + 1 : Nat) : Int) by omega]
      exact cut_from
    have st := set_part lf4 pf hb (j + 1)
    refine ⟨(k : Nat), rfl, _, rfl, ?_, .tuple (Pu.cutD zs none (some (k : Nat)) ++ Pu.cutD zs (some ((k : Nat) + 1)) none), rfl, _, rfl, _, _, rfl, ix4 lf4 hj, hn _ ⟨_, rfl, ?_⟩⟩
    · show (Pu.cutD zs none (some (k : Nat))).length + (Pu.cutD zs (some ((k : Nat) + 1)) none).length ≤ _
      rw [cut_take, c2, ← List.length_append]
      exact s16 (Nat.le_trans lb (by omega))
    · rw [cut_take, c2]
      exact ⟨.inl st.1, by rw [st.1]; omega, st.2⟩
  clear lf l5 pf
  rintro _ ⟨fs, rfl, lf, l5, pf⟩
  refine if_iffS True True (fun Q hp hq => ?_) (fun _ => ?_) (fun _ => ?_)
  · refine ⟨_, rfl, ?_⟩
    refine ifb (fun h => ?_) (fun h => hq trivial)
    refine ⟨rfl, 3, rfl, by decide, fun i _ _ => ⟨_, rfl, ?_⟩⟩
    cases (if false = true then !decide (i = 0) else decide (i = 0))
    · exact hq trivial
    · exact hp trivial
  · refine ⟨_, rfl, s16 (by show 2 ≤ 16777216; omega), _, rfl, s16 (by show 1 ≤ 16777216; omega), [], rfl, s16 (by decide), _, rfl, s16 (by show 1 ≤ 16777216; omega), _, rfl, s16 (by show 1 ≤ 16777216; omega), _, rfl, s16 (by show 7 ≤ 16777216; omega), ?_⟩
    exact ⟨rfl, way8 fs, rfl, by simp [way8], by show 7 < 1000000; omega, fun v hv => hR v (way8_ok l5 pf (by omega) v hv)⟩
  · exact hR _ (.inl ⟨fs, rfl, l5, pf⟩)

theorem sc__law_words_right : FnScope ["source", "word", "some", "value", "k", "sign", "is_integral", "due"] ["source"] (defScope s__law_words_right) := ⟨rfl, rfl, rfl, by decide +kernel, rfl, by decide +kernel, by decide +kernel⟩
theorem fn__law_words_right (A : At K mg "_law_words_right" s__law_words_right ["source"]) (T : Blt w K mg) (G__law_any_word : Fn P w K mg base "_law_any_word" 2 ["source"] (spX K 1 m__law_any_word)) (G__law_deep : Fn P w K mg base "_law_deep" 1 ["many"] (spX K 1 m__law_deep)) (G__law_is_integer : Fn P w K mg base "_law_is_integer" 1 ["value"] (spX K 1 m__law_is_integer)) (G__law_is_word : Fn P w K mg base "_law_is_word" 1 ["value"] (spX K 1 m__law_is_word)) (G__law_odd : Fn P w K mg base "_law_odd" 3 ["source"] (spX K 1 m__law_odd)) (G__law_of : Fn P w K mg base "_law_of" 2 ["source", "some"] (spX K 2 m__law_of)) (G__law_pick : Fn P w K mg base "_law_pick" 1 ["source", "many"] (spX K 2 m__law_pick)) (G__law_right_lot : Fn P w K mg base "_law_right_lot" 2 ["value"] (spX K 1 m__law_right_lot)) (G__law_strange : Fn P w K mg base "_law_strange" 3 ["source"] (spX K 1 m__law_strange)) (G_is_integer : Fn P w K mg base "is_integer" 1 ["value"] (spX K 1 m_is_integer)) (G_is_lot : Fn P w K mg base "is_lot" 3 ["value"] (spX K 1 m_is_lot)) (G_is_number : Fn P w K mg base "is_number" 2 ["value"] (spX K 1 m_is_number)) (G_is_word : Fn P w K mg base "is_word" 2 ["value"] (spX K 1 m_is_word)) : Fn P w K mg base "_law_words_right" 4 ["source"] (spX K 1 m__law_words_right) := by
  refine fnD (k := 3) (m := m__law_words_right) A sc__law_words_right (fun G f cdv A outer s H E hr ss R hl hm => ?_)
  refine ⟨_, _, (dss_cons (ds_set 1 sc__law_words_right.nd (k_fn (K := K) rfl G__law_any_word (hr.mono (by decide)) (da_cons (de_v 0) da_nil)))
      (dss_cons (ds_par 4 5 sc__law_words_right.nd (da_cons (k_fn (K := K) rfl G__law_pick (hr.mono (by decide)) (da_cons (de_v 0) (da_cons (de_op op_add (fun _ => lo_add) (de_callB (k_len (K := K) rfl) (fun _ => lc_len) T.m_len (da_cons (de_v 1) da_nil)) de_int) da_nil))) (da_cons (k_fn (K := K) rfl G__law_of (hr.mono (by decide)) (da_cons (de_v 0) (da_cons (de_op op_cat (fun _ => lo_cat) (de_callTy (call_listS rfl) (fun _ => lc_listS) T.m_list (da_cons de_str da_nil)) (de_lst (da_cons de_str (da_cons de_str (da_cons de_str da_nil))))) da_nil))) da_nil)))
      (dss_cons (ds_set 2 sc__law_words_right.nd (DE.fz (de_lst (da_cons (de_v 1) (da_cons (de_op op_add_str (fun _ => lo_catS) (de_op op_add_str (fun _ => lo_catS) (de_slice sl_str (fun _ => ls_str) (de_v 1) do_none (do_some (de_v 4))) (de_v 5)) (de_slice sl_str (fun _ => ls_str) (de_v 1) (do_some (de_v 4)) do_none)) (da_cons (de_op op_add_str (fun _ => lo_catS) (de_v 1) (de_op op_mulS (fun _ => lo_mulS) de_str (de_op op_sub (fun _ => lo_sub) de_int (de_callB (k_len (K := K) rfl) (fun _ => lc_len) T.m_len (da_cons (de_v 1) da_nil))))) (da_cons (de_op op_add_str (fun _ => lo_catS) (de_v 1) (de_op op_mulS (fun _ => lo_mulS) de_str (de_op op_sub (fun _ => lo_sub) de_int (de_callB (k_len (K := K) rfl) (fun _ => lc_len) T.m_len (da_cons (de_v 1) da_nil))))) (da_cons de_str (da_cons de_str da_nil)))))))))
      (dss_cons (ds_set 2 sc__law_words_right.nd (DE.fz (de_op op_cat (fun _ => lo_cat) (de_v 2) (de_lst (da_cons de_str (da_cons de_str (da_cons de_str (da_cons de_str (da_cons de_str (da_cons de_non (da_cons de_bl (da_cons de_bl (da_cons de_int (da_cons de_int (da_cons (de_un un_neg (fun _ => lu_neg) de_int) (da_cons (de_op op_pow (fun _ => lo_pow) de_int de_int) (da_cons (de_un un_neg (fun _ => lu_neg) (de_op op_pow (fun _ => lo_pow) de_int de_int)) (da_cons de_str (da_cons (de_tup da_nil) (da_cons (de_lst da_nil) (da_cons de_newD da_nil)))))))))))))))))))))
      (dss_cons (ds_for (js := [3]) (ki_list (K := K) rfl (de_op op_cat (fun _ => lo_cat) (de_v 2) (de_lst (da_cons (de_lst (da_cons de_str da_nil)) (da_cons (de_disp (dps_cons de_str dps_nil)) (da_cons (de_tup (da_cons de_str da_nil)) (da_cons (k_fn (K := K) rfl G__law_odd (hr.mono (by decide)) (da_cons (de_v 0) da_nil)) (da_cons (k_fn (K := K) rfl G__law_deep (hr.mono (by decide)) (da_cons de_int da_nil)) (da_cons (k_fn (K := K) rfl G__law_strange (hr.mono (by decide)) (da_cons (de_v 0) da_nil)) da_nil))))))))) (by exact (dg_name 3 (by decide) sc__law_words_right.nd)) (dss_cons (ds_set 6 sc__law_words_right.nd (k_fn (K := K) rfl G__law_is_integer (hr.mono (by decide)) (da_cons (de_v 3) da_nil)))
      (dss_cons (ds_set 7 sc__law_words_right.nd (DE.fz (de_lst (da_cons (k_fn (K := K) rfl G__law_is_word (hr.mono (by decide)) (da_cons (de_v 3) da_nil)) (da_cons (de_v 6) (da_cons (de_and (de_v 6) (de_one (de_cmp op_ge (fun _ => lo_ge) (de_v 3) de_int))) (da_cons (k_fn (K := K) rfl G__law_right_lot (hr.mono (by decide)) (da_cons (de_v 3) da_nil)) da_nil)))))))
      (dss_one (ds_if (dt_cmp op_ne (fun _ => lo_neS) (de_callB (k_reprY (K := K) rfl hr.units hr.guards) (fun _ => lc_reprY) T.m_repr (da_cons (de_lst (da_cons (k_fn (K := K) rfl G_is_word (hr.mono (by decide)) (da_cons (de_v 3) da_nil)) (da_cons (k_fn (K := K) rfl G_is_integer (hr.mono (by decide)) (da_cons (de_v 3) da_nil)) (da_cons (k_fn (K := K) rfl G_is_number (hr.mono (by decide)) (da_cons (de_v 3) da_nil)) (da_cons (k_fn (K := K) rfl G_is_lot (hr.mono (by decide)) (da_cons (de_v 3) da_nil)) da_nil))))) da_nil)) (de_callB (k_reprY (K := K) rfl hr.units hr.guards) (fun _ => lc_reprY) T.m_repr (da_cons (de_v 7) da_nil))) (dss_one (ds_ret de_bl)) dss_nil)))))
      (dss_one (ds_ret de_bl))))))), ?_⟩
  obtain ⟨rfl, hR⟩ := hm
  refine ⟨rfl, rfl, fun w hw w1 w12 => ?_⟩
  obtain ⟨wa, _⟩ := okT_iff.mp hw
  have wz : w.length ≤ sizeLine := s16 (by omega)
  dsimp only [Sl.fz]
  refine ⟨wz, rfl, w.length + 1, rfl, by omega, fun k k0 k1 => ?_⟩
  refine ⟨s16 (by decide), _, rfl, s16 (by decide), s16 (by decide +kernel), rfl, _, rfl, by simp, by decide +kernel, fun d hd => ?_⟩
  obtain ⟨z, rfl, hz, z1⟩ := signs_ok d hd
  obtain ⟨za, _⟩ := okT_iff.mp hz
  refine ⟨_, _, rfl, ?_⟩
  dsimp only
  refine sq_set (fun s => ∃ ys : List PyData, s = .d (.list ys) ∧ ys.length = 6 ∧ ∀ y ∈ ys, allA y = true) (fun Q hQ => ?_) ?_
  · have a1 := fun c h => wa c (cutS_mem (z := w) (lo := none) (hi := some k) c h)
    have a2 := fun c h => wa c (cutS_mem (z := w) (lo := some k) (hi := none) c h)
    have l1 := cutS_length w none (some k)
    have l2 := cutS_length w (some k) none
    have n12 : (((12 : Int) - (w.length : Int)).toNat) ≤ 13 := by omega
    have n13 : (((13 : Int) - (w.length : Int)).toNat) ≤ 13 := by omega
    have r12 := repS_len ((12 : Int) - (w.length : Int)).toNat
    have r13 := repS_len ((13 : Int) - (w.length : Int)).toNat
    have A1 : ("a" : Str).length = 1 := rfl
    refine ⟨_, rfl, wz, s16 (by omega), _, rfl, wz, s16 (by rw [len_cat]; omega), ?_⟩
    refine ⟨wz, ⟨by omega, by omega, by omega, by omega⟩, s16 (by omega), ?_⟩
    refine ⟨wz, ⟨by omega, by omega, by omega, by omega⟩, s16 (by omega), ?_⟩
    refine ⟨_, rfl, s16 (by show 6 ≤ 16777216; omega), hQ _ ⟨_, rfl, rfl, ?_⟩⟩
    intro y hy
    have t : ∀ u : Str, (∀ c ∈ u.cps.toList, c < 128) → u.length ≤ 40 → allA (.str u) = true := fun u h1 h2 => okT_iff.mpr ⟨h1, h2⟩
    have fix : allA (.str "7a") = true ∧ allA (.str "a7") = true := by decide +kernel
    simp only [List.mem_cons, List.not_mem_nil, or_false] at hy
    rcases hy with rfl | rfl | rfl | rfl | rfl | rfl
    · exact hw
    · exact t _ (okT_cat (okT_cat a1 za) a2) (by rw [len_cat, len_cat]; omega)
    · exact t _ (okT_cat wa (rep_ascii _)) (by rw [len_cat]; omega)
    · exact t _ (okT_cat wa (rep_ascii _)) (by rw [len_cat]; omega)
    · exact fix.1
    · exact fix.2
  rintro _ ⟨ys, rfl, ly, hy⟩
  refine sq_set (fun s => ∃ ys : List PyData, s = .d (.list ys) ∧ ys.length = 23 ∧ ∀ y ∈ ys, allA y = true) (fun Q hQ => ?_) ?_
  · refine ⟨⟨by decide, by decide, by decide⟩, ⟨by decide, by decide, by decide⟩, [], rfl, s16 (by decide), [], rfl, s16 (by decide), _, rfl, s16 (by decide), ?_⟩
    refine ⟨s16 (by show ys.length + 17 ≤ _; omega), hQ _ ⟨_, rfl, ?_, ?_⟩⟩
    · rw [List.length_append, ly]; rfl
    · intro y h
      rcases List.mem_append.mp h with h | h
      · exact hy y h
      · have fix : ∀ y ∈ [PyData.str "", .str "a", .str "A", .str "row", .str "aB", .none, .bool true, .bool false, .int 0, .int 1, .int (-1), .int (10 ^ 39), .int (-(10 ^ 39)), .str "0", .tuple [], .list [], .dict []], allA y = true := by decide +kernel
        exact fix y h
  rintro _ ⟨vs, rfl, lv, hv⟩
  refine ⟨_, rfl, s16 (by decide), _, rfl, _, rfl, s16 (by decide), rfl, rfl, fun o ho => ?_⟩
  refine ⟨rfl, 38, rfl, by decide, rfl, rfl, fun u hu => ?_⟩
  refine ⟨_, rfl, s16 (by show 6 ≤ 16777216; omega), s16 (by show vs.length + 6 ≤ _; omega), _, rfl, ?_⟩
  have hall : ∀ y ∈ vs ++ [.list [.str "a"], .dict [(.str "a", .str "a")], .tuple [.str "a"], o, deepD 38, u], allA y = true := by
    intro y h
    rcases List.mem_append.mp h with h | h
    · exact hv y h
    have fix : allA (.list [.str "a"]) = true ∧ allA (.dict [(.str "a", .str "a")]) = true ∧ allA (.tuple [.str "a"]) = true := by decide +kernel
    simp only [List.mem_cons, List.not_mem_nil, or_false] at h
    rcases h with rfl | rfl | rfl | rfl | rfl | rfl
    · exact fix.1
    · exact fix.2.1
    · exact fix.2.2
    · exact (d8_iff.mp (odd_ok _ ho)).1
    · exact (d8_iff.mp deep_ok.1).1
    · exact (d8_iff.mp (str_ok _ hu)).1
  refine loop_by (fun _ env => ∃ v3 v4 v5 v6 v7, env = [some .src, some (.d (.str w)), some (.d (.list vs)), v3, v4, v5, v6, v7]) ⟨_, _, _, _, _, rfl⟩ ?_ ?_
  · rintro j y env hy ⟨v3, v4, v5, v6, v7, rfl⟩ nx hn
    have ha : allA y = true := hall y (List.mem_of_getElem? hy)
    clear hall hy
    have o4 := four_okY (isW y) (isI y) (isN y) (isLot y)
    cases y
    all_goals
      refine ⟨rfl, _, rfl, ?_⟩
      refine ⟨rfl, _, rfl, ha, ?_⟩
      refine ⟨_, rfl, ?_⟩
      refine ⟨rfl, _, rfl, ha, ?_⟩
      refine ⟨_, rfl, s16 (by show 4 ≤ 16777216; omega), ?_⟩
      refine ⟨rfl, _, rfl, ha, rfl, _, rfl, rfl, _, rfl, rfl, _, rfl, ha, _, rfl, s16 (by show 4 ≤ 16777216; omega), ?_⟩
      refine ⟨o4, o4, ?_⟩
      refine neS_same ?_
      refine ⟨_, rfl, ?_⟩
      exact hn _ ⟨_, _, _, _, _, rfl⟩
  · rintro env ⟨v3, v4, v5, v6, v7, rfl⟩
    exact hR

theorem sc__wrong_part : FnScope ["value", "number", "path"] ["value"] (defScope s__wrong_part) := ⟨rfl, rfl, rfl, by decide +kernel, rfl, by decide +kernel, by decide +kernel⟩
theorem fn__wrong_part (A : At K mg "_wrong_part" s__wrong_part ["value"]) (T : Blt w K mg) (G__wrong_lots : Fn P w K mg base "_wrong_lots" 4 ["value", "number"] (spX K 2 m__wrong_lots)) (G_is_integer : Fn P w K mg base "is_integer" 1 ["value"] (spX K 1 m_is_integer)) : Fn P w K mg base "_wrong_part" 5 ["value"] (spX K 1 m__wrong_part) := by
  refine fnD (k := 4) (m := m__wrong_part) A sc__wrong_part (fun G f cdv A outer s H E hr ss R hl hm => ?_)
  refine ⟨_, _, (dss_cons (ds_if (DW.dt (dw_or (dt_not (dt_val (de_callB (k_isi (K := K) rfl) (fun _ => lc_isi) T.m_isinstance (da_cons (de_v 0) (da_cons (de_bltn (x := "tuple") (n := "tuple") T.m_tuple) da_nil))))) (dw_or1 (dt_cmp op_ne (fun _ => lo_neS) (de_callB (k_len (K := K) rfl) (fun _ => lc_len) T.m_len (da_cons (de_v 0) da_nil)) de_int)))) (dss_one (ds_ret (de_tup da_nil))) dss_nil)
      (dss_cons (ds_if (dt_not (dt_val (k_fn (K := K) rfl G_is_integer (hr.mono (by decide)) (da_cons (de_ix (k_ix (K := K) rfl) (fun _ => lo_ix) (de_v 0) de_int) da_nil)))) (dss_one (ds_ret (de_tup (da_cons de_int da_nil)))) dss_nil)
      (dss_cons (ds_for (js := [1]) (di_rngA T.m_range (da_cons de_int (da_cons de_int da_nil))) (by exact (dg_name 1 (by decide) sc__wrong_part.nd)) (dss_cons (ds_set 2 sc__wrong_part.nd (k_fn (K := K) rfl G__wrong_lots (hr.mono (by decide)) (da_cons (de_ix (k_ix (K := K) rfl) (fun _ => lo_ix) (de_v 0) (de_v 1)) (da_cons (de_v 1) da_nil))))
      (dss_one (ds_if (dt_cmp op_notN (fun _ => lo_notN) (de_v 2) de_non) (dss_one (ds_ret (de_v 2))) dss_nil))))
      (dss_one (ds_ret de_non))))), ?_⟩
  obtain ⟨d, rfl, ha, h0, h1⟩ := hm
  refine if_iffS (∀ a x y z, d ≠ .tuple [a, x, y, z]) (∃ a x y z, d = .tuple [a, x, y, z]) (fun Q hp hq => ?_) (fun h => ?_) (fun h => ?_)
  · cases d
    case tuple xs =>
      obtain ⟨hl, hx⟩ := allA_tup.mp ha
      have hz : xs.length ≤ sizeLine := by rw [sizeLine_eq]; omega
      refine ⟨_, rfl, _, rfl, ?_⟩
      refine ifb (fun h => absurd h (by decide)) (fun _ => ?_)
      refine ⟨_, rfl, ?_⟩
      by_cases c : xs.length = 4
      · have e : (!decide (((xs.length : Nat) : Int) = 4)) = false := by rw [decide_eq_true (by omega)]; rfl
        show Q (!decide (((xs.length : Nat) : Int) = 4))
        rw [e]
        match xs, c with
        | [a, x, y, z], _ => exact hq ⟨a, x, y, z, rfl⟩
      · have e : (!decide (((xs.length : Nat) : Int) = 4)) = true := by rw [decide_eq_false (by omega)]; rfl
        show Q (!decide (((xs.length : Nat) : Int) = 4))
        rw [e]
        exact hp fun a x y z q => c (by cases q; rfl)
    all_goals exact ⟨_, rfl, _, rfl, hp fun a x y z e => by cases e⟩
  · have e : pathR d = [.tuple []] := by
      unfold pathR
      split
      · exact absurd rfl (h _ _ _ _)
      · rfl
    exact ⟨_, rfl, s16 (by decide), h1 _ e⟩
  · obtain ⟨a, x, y, z, rfl⟩ := h
    obtain ⟨_, hx⟩ := allA_tup.mp ha
    have hp0 : pathR (.tuple [a, x, y, z]) = if isI a then firstL 1 [x, y, z] else [.tuple [.int 0]] := rfl
    rw [hp0] at h0 h1
    dsimp only [dNext]
    refine if_iffS (isI a = false) (isI a = true) (fun Q hp hq => ?_) (fun h => ?_) (fun h => ?_)
    · refine ⟨a, at_0, rfl, a, rfl, _, rfl, ?_⟩
      cases g : isI a with
      | true => exact hq g
      | false => exact hp g
    · rw [h, if_neg (by decide)] at h1
      exact ⟨_, rfl, s16 (by decide), h1 _ rfl⟩
    · rw [h, if_pos rfl] at h0 h1
      dsimp only [dNext]
      refine ⟨1, 4, rfl, ?_⟩
      dsimp only
      refine loop_byT (fun (i : Nat) => PyData.int (1 + (i : Nat))) (l := List.range 3) (fun j env => ∃ v1 v2, env = [some (.d (.tuple [a, x, y, z])), v1, v2] ∧ firstL 1 [x, y, z] = firstL (1 + j) ([x, y, z].drop j)) ⟨none, none, rfl, rfl⟩ ?_ ?_
      · rintro j i env hi ⟨v1, v2, rfl, hf⟩ nx hn
        have hj : j < 3 := by simpa using (List.getElem?_eq_some_iff.mp hi).1
        obtain rfl : j = i := by simpa [List.getElem?_range hj] using hi
        have hd : [x, y, z].drop j = [x, y, z][j] :: [x, y, z].drop (j + 1) := List.drop_eq_getElem_cons hj
        rw [hd] at hf
        have hm4 : atI [a, x, y, z] (1 + (j : Nat)) = some [x, y, z][j] := by
          rw [at_n (j := j + 1) (by omega) (by simp; omega)]
          rfl
        have hy2 : allA [x, y, z][j] = true := hx _ (List.mem_cons_of_mem _ (List.getElem_mem hj))
        have e1 : ((1 : Int) + (j : Nat)) = ((1 + j : Nat) : Int) := by omega
        refine sq_set (fun s => s = (match wrongL (1 + j) [x, y, z][j] with | none => .d .none | some p => .d (.tuple p))) (fun Q hQ => ?_) ?_
        · refine ⟨_, hm4, rfl, [x, y, z][j], 1 + j, by rw [← e1]; rfl, hy2, hQ _ rfl⟩
        · rintro _ rfl
          have hf2 : firstL 1 [x, y, z] = match wrongL (1 + j) [x, y, z][j] with | some p => [.tuple p] | none => firstL (1 + j + 1) ([x, y, z].drop (j + 1)) := hf
          cases g : wrongL (1 + j) [x, y, z][j] with
          | none =>
            rw [g] at hf2
            refine ⟨_, rfl, ?_⟩
            exact hn _ ⟨_, _, rfl, hf2⟩
          | some p =>
            rw [g] at hf2
            refine ⟨_, rfl, ?_⟩
            exact h1 p hf2
      · rintro env ⟨v1, v2, rfl, hf⟩
        have hf2 : firstL 1 [x, y, z] = [] := hf
        exact h0 hf2

theorem sc_BadRow_init : FnScope ["self", "path"] ["self", "path"] (defScope s_BadRow_init) := ⟨rfl, rfl, rfl, by decide +kernel, rfl, by decide +kernel, by decide +kernel⟩
theorem init_BadRow {fI : Addr} (T : Blt w K mg) (cdv : Value) (A : Around) (outer : List Env) (s : Shared) (H : Hp) (E : XK) : PSs (cxOf CX0 P w K mg base ["self", "path"] "BadRow.__init__" (defScope s_BadRow_init) fI cdv A outer s H E).nox (defBody s_BadRow_init)
    (tOst K "path" (tVar 0) (tCB (fun xs H Q => ∃ p ys, xs = [.ref p] ∧ ((SqL K H p ys ∧ ∀ l, H l = none → Q (.ref l) (upd H l (.tup ys))) ∨ (SqT K H p ys ∧ Q (.ref p) H))) (tCons (tVar 1) tNil))) :=
  pss_one (ps_ost (pv 0) (pe_callTy (k_tuple (K := K) rfl) rfl T.m_tuple rfl (pa_cons (pv 1) pa_nil)))
theorem sc_check_row : FnScope ["value", "path"] ["value"] (defScope s_check_row) := ⟨rfl, rfl, rfl, by decide +kernel, rfl, by decide +kernel, by decide +kernel⟩
theorem fn_check_row (A : At K mg "check_row" s_check_row ["value"]) (T : Blt w K mg) (G__wrong_part : Fn P w K mg base "_wrong_part" 5 ["value"] (spX K 1 m__wrong_part)) : FnXE P w K mg base "check_row" 6 ["value"] 1 m_check_row "BadRow" "path" := by
  obtain ⟨C_, fI_, fdI_, exT, exF, exB⟩ := T.e_BadRow
  refine fnDX (k := 5) (m := m_check_row) A sc_check_row exT (fun G f cdv A outer s H E hr ss R hl hm hE => ?_)
  refine ⟨_, _, (dss_cons (ds_set 1 sc_check_row.nd (k_fn (K := K) rfl G__wrong_part (hr.mono (by decide)) (da_cons (de_v 0) da_nil)))
      (dss_one (ds_if (dt_cmp op_notN (fun _ => lo_notN) (de_v 1) de_non) (dss_one (ds_raise rfl exT (ok_init exF sc_BadRow_init rfl exT T.m_tuple (init_BadRow (P := P) (base := base) T)) (hr.r.mono (by decide)) exB (takes_of rfl rfl rfl rfl) hE (de_v 1))) dss_nil))), ?_⟩
  obtain ⟨d, rfl, ha, h0, h1⟩ := hm
  refine sq_set (fun s => (s = .d .none ∧ pathR d = []) ∨ ∃ p, s = .d (.tuple p) ∧ pathR d = [.tuple p]) (fun Q hQ => ⟨rfl, d, rfl, ha, fun e => hQ _ (.inl ⟨rfl, e⟩), fun p e => hQ _ (.inr ⟨p, rfl, e⟩)⟩) ?_
  rintro _ (⟨rfl, e⟩ | ⟨p, rfl, e⟩)
  · refine ⟨_, rfl, ?_⟩
    exact h0 e
  · refine ⟨_, rfl, ?_⟩
    exact ⟨p, rfl, h1 p e⟩

theorem sc__law_told_path : FnScope ["value", "error"] ["value"] (defScope s__law_told_path) := ⟨rfl, rfl, rfl, by decide +kernel, rfl, by decide +kernel, by decide +kernel⟩
theorem fn__law_told_path (A : At K mg "_law_told_path" s__law_told_path ["value"]) (T : Blt w K mg) (G_check_row : FnXE P w K mg base "check_row" 6 ["value"] 1 m_check_row "BadRow" "path") : Fn P w K mg base "_law_told_path" 7 ["value"] (spX K 1 m__law_told_path) := by
  obtain ⟨C_, fI_, exT, g_, gfd_, gm_, gk_, gb_, gG_⟩ := G_check_row.ex
  refine fnD (k := 6) (m := m__law_told_path) A sc__law_told_path (fun G f cdv A outer s H E hr ss R hl hm => ?_)
  refine ⟨_, _, (dss_one (ds_tryR (j := 1) exT gG_ (hr.mono (by decide)) gm_ gk_ gb_ (fun pn xe => (da_cons (de_v 0) da_nil)) sc__law_told_path.nd)), ?_⟩
  obtain ⟨d, rfl, ha, hR⟩ := hm
  refine ⟨by show 1 < 2; omega, rfl, d, rfl, ha, fun e => ?_, fun p e => ?_⟩
  · rw [e] at hR
    exact .inl ⟨rfl, hR⟩
  · rw [e] at hR
    exact .inr ⟨p, rfl, hR⟩

theorem sc_law : FnScope ["script", "source", "turn", "many", "wide", "some", "value", "lap", "lot", "kept", "told", "k", "path"] ["script"] (defScope s_law) := ⟨rfl, rfl, rfl, by decide +kernel, rfl, by decide +kernel, by decide +kernel⟩
theorem fn_law {f : Addr} {fd : FuncData} (F : Fun K "law" "law" s_law f fd) (T : Blt w K mg) (G_src : Fn P w K mg base "_law_source" 1 ["script"] (spSource K)) (G__law_any_row : Fn P w K mg base "_law_any_row" 4 ["source", "words"] (spX K 2 m__law_any_row)) (G__law_any_word : Fn P w K mg base "_law_any_word" 2 ["source"] (spX K 1 m__law_any_word)) (G__law_bent : Fn P w K mg base "_law_bent" 4 ["source", "value"] (spX K 2 m__law_bent)) (G__law_odd : Fn P w K mg base "_law_odd" 3 ["source"] (spX K 1 m__law_odd)) (G__law_path : Fn P w K mg base "_law_path" 3 ["value"] (spX K 1 m__law_path)) (G__law_pick : Fn P w K mg base "_law_pick" 1 ["source", "many"] (spX K 2 m__law_pick)) (G__law_right_lot : Fn P w K mg base "_law_right_lot" 2 ["value"] (spX K 1 m__law_right_lot)) (G__law_strange : Fn P w K mg base "_law_strange" 3 ["source"] (spX K 1 m__law_strange)) (G__law_told_path : Fn P w K mg base "_law_told_path" 7 ["value"] (spX K 1 m__law_told_path)) (G__law_words : Fn P w K mg base "_law_words" 3 ["source", "many"] (spX K 2 m__law_words)) (G__law_words_right : Fn P w K mg base "_law_words_right" 4 ["source"] (spX K 1 m__law_words_right)) (G_check_row : Fn P w K mg base "check_row" 6 ["value"] (spX K 1 m_check_row_in)) (G_is_lot : Fn P w K mg base "is_lot" 3 ["value"] (spX K 1 m_is_lot)) : FnG P w K mg base CX0 8 f fd ["script"] (spLaw K) := by
  refine okLaw (N := ["turn", "many", "wide", "some", "value", "lap", "lot", "kept", "told", "k", "path"]) (k := 6) F sc_law rfl G_src (fun cdv A outer s H E hr => ?_) (fun cdv A outer s H E hr => ps_first (K := K) rfl G_src (hr.mono (by decide)) sc_law.nd)
  refine ⟨_, _, fun G => (dss_cons (ds_for (js := [2]) (di_rng1 T.m_range (da_cons de_int da_nil)) (by exact (dg_name 2 (by decide) sc_law.nd)) (dss_cons (ds_set 6 sc_law.nd (k_fn (K := K) rfl G__law_any_row (hr.mono (by decide)) (da_cons (de_v 1) (da_cons (k_fn (K := K) rfl G__law_words (hr.mono (by decide)) (da_cons (de_v 1) (da_cons (de_op op_add (fun _ => lo_add) de_int (k_fn (K := K) rfl G__law_pick (hr.mono (by decide)) (da_cons (de_v 1) (da_cons de_int da_nil)))) da_nil))) da_nil))))
      (dss_cons (ds_for (js := [7]) (di_rng1 T.m_range (da_cons de_int da_nil)) (by exact (dg_name 7 (by decide) sc_law.nd)) (dss_cons (ds_set 9 sc_law.nd (de_callB (k_reprY (K := K) rfl hr.units hr.guards) (fun _ => lc_reprY) T.m_repr (da_cons (de_v 6) da_nil)))
      (dss_cons (ds_set 10 sc_law.nd (DE.fz (de_lst (da_cons (k_fn (K := K) rfl G__law_told_path (hr.mono (by decide)) (da_cons (de_v 6) da_nil)) (da_cons (k_fn (K := K) rfl G__law_told_path (hr.mono (by decide)) (da_cons (de_v 6) da_nil)) da_nil)))))
      (dss_cons (ds_if (DW.dt (dw_or (dt_cmp op_ne (fun _ => lo_neS) (de_callB (k_reprY (K := K) rfl hr.units hr.guards) (fun _ => lc_reprY) T.m_repr (da_cons (de_v 10) da_nil)) (de_callB (k_reprY (K := K) rfl hr.units hr.guards) (fun _ => lc_reprY) T.m_repr (da_cons (de_op op_rep (fun _ => lo_rep) (de_lst (da_cons (k_fn (K := K) rfl G__law_path (hr.mono (by decide)) (da_cons (de_v 6) da_nil)) da_nil)) de_int) da_nil))) (dw_or1 (dt_cmp op_ne (fun _ => lo_neS) (de_callB (k_reprY (K := K) rfl hr.units hr.guards) (fun _ => lc_reprY) T.m_repr (da_cons (de_v 6) da_nil)) (de_v 9))))) (dss_one (ds_ret de_bl)) dss_nil)
      (dss_one (ds_set 6 sc_law.nd (k_fn (K := K) rfl G__law_bent (hr.mono (by decide)) (da_cons (de_v 1) (da_cons (de_v 6) da_nil)))))))))
      (dss_cons (ds_set 8 sc_law.nd (de_callTy (k_tuple (K := K) rfl) (fun _ => lc_tuple) T.m_tuple (da_cons (k_sortSet (K := K) rfl T.m_sorted T.m_set (da_cons (de_lc (own := [("lap", 7)]) sc_law.nd (di_rng1 T.m_range (da_cons (k_fn (K := K) rfl G__law_pick (hr.mono (by decide)) (da_cons (de_v 1) (da_cons de_int da_nil))) da_nil)) (blkOk_by (N := ["script", "source", "turn", "many", "wide", "some", "value", "lap", "lot", "kept", "told", "k", "path"]) (sc := defScope s_law) (by decide +kernel)) (fun _ _ _ _ _ => by exact (dg_name 7 (by decide) sc_law.nd)) (fun _ _ _ _ _ => by exact dp_nil) (fun _ _ _ _ _ => by exact (k_fn (K := K) rfl G__law_any_word (hr.mono (by decide)) (da_cons (de_v 1) da_nil)))) da_nil)) da_nil)))
      (dss_cons (ds_for (js := [5]) (ki_list (K := K) rfl (de_lst (da_cons (de_v 8) (da_cons (k_revT (K := K) rfl (de_v 8)) (da_cons (de_op (k_catT (K := K) rfl) (fun _ => lo_catT) (de_v 8) (de_slice (k_slT (K := K) rfl) (fun _ => ls_tup) (de_v 8) do_none (do_some de_int))) (da_cons (de_callTy (k_list (K := K) rfl) (fun _ => lc_list) T.m_list (da_cons (de_v 8) da_nil)) (da_cons (de_op (k_catT (K := K) rfl) (fun _ => lo_catT) (de_v 8) (de_tup (da_cons (k_fn (K := K) rfl G__law_odd (hr.mono (by decide)) (da_cons (de_v 1) da_nil)) da_nil))) (da_cons (k_fn (K := K) rfl G__law_strange (hr.mono (by decide)) (da_cons (de_v 1) da_nil)) da_nil)))))))) (by exact (dg_name 5 (by decide) sc_law.nd)) (dss_one (ds_if (dt_cmp op_ne (fun _ => lo_neS) (de_callB (k_reprY (K := K) rfl hr.units hr.guards) (fun _ => lc_reprY) T.m_repr (da_cons (k_fn (K := K) rfl G_is_lot (hr.mono (by decide)) (da_cons (de_v 5) da_nil)) da_nil)) (de_callB (k_reprY (K := K) rfl hr.units hr.guards) (fun _ => lc_reprY) T.m_repr (da_cons (k_fn (K := K) rfl G__law_right_lot (hr.mono (by decide)) (da_cons (de_v 5) da_nil)) da_nil))) (dss_one (ds_ret de_bl)) dss_nil)))
      (dss_one (ds_if (dt_not (dt_val (k_fn (K := K) rfl G__law_words_right (hr.mono (by decide)) (da_cons (de_v 1) da_nil)))) (dss_one (ds_ret de_bl)) dss_nil)))))))
      (dss_cons (ds_set 3 sc_law.nd (de_callTy (k_tuple (K := K) rfl) (fun _ => lc_tuple) T.m_tuple (da_cons (de_lc (own := [("k", 11)]) sc_law.nd (di_rngA T.m_range (da_cons de_int (da_cons de_int da_nil))) (blkOk_by (N := ["script", "source", "turn", "many", "wide", "some", "value", "lap", "lot", "kept", "told", "k", "path"]) (sc := defScope s_law) (by decide +kernel)) (fun _ _ _ _ _ => by exact (dg_name 11 (by decide) sc_law.nd)) (fun _ _ _ _ _ => by exact dp_nil) (fun _ _ _ _ _ => by exact (de_op op_add_str (fun _ => lo_catS) de_str (de_callTy call_str_int (fun _ => lc_strI) T.m_str (da_cons (de_v 11) da_nil))))) da_nil)))
      (dss_cons (ds_set 4 sc_law.nd (de_tup (da_cons (de_op op_pow (fun _ => lo_pow) de_int de_int) (da_cons (de_op (k_repT (K := K) rfl) (fun _ => lo_repT) (de_tup (da_cons (de_v 3) da_nil)) de_int) (da_cons (de_op (k_repT (K := K) rfl) (fun _ => lo_repT) (de_tup (da_cons (de_tup da_nil) (da_cons (de_v 3) da_nil))) de_int) (da_cons (de_op (k_repT (K := K) rfl) (fun _ => lo_repT) (de_tup (da_cons (de_v 3) da_nil)) de_int) da_nil))))))
      (dss_cons (ds_if (DW.dt (dw_or (dt_cmp op_notN (fun _ => lo_notN) (k_fn (K := K) rfl G_check_row (hr.mono (by decide)) (da_cons (de_v 4) da_nil)) de_non) (dw_or1 (dt_cmp op_notN (fun _ => lo_notN) (k_fn (K := K) rfl G_check_row (hr.mono (by decide)) (da_cons (de_tup (da_cons de_int (da_cons (de_tup (da_cons (de_tup da_nil) da_nil)) (da_cons (de_tup da_nil) (da_cons (de_tup (da_cons (de_tup da_nil) da_nil)) da_nil))))) da_nil)) de_non)))) (dss_one (ds_ret de_bl)) dss_nil)
      (dss_cons (ds_set 5 sc_law.nd (de_lst (da_cons (de_tup (da_cons (de_slice (k_slT (K := K) rfl) (fun _ => ls_tup) (de_v 4) do_none (do_some de_int)) (da_cons (de_tup da_nil) da_nil))) (da_cons (de_tup (da_cons (de_tup (da_cons de_int (da_cons (de_tup da_nil) (da_cons (de_tup da_nil) (da_cons (de_tup da_nil) da_nil))))) (da_cons (de_tup (da_cons de_int da_nil)) da_nil))) (da_cons (de_tup (da_cons (de_tup (da_cons de_int (da_cons (de_tup (da_cons (de_tup da_nil) da_nil)) (da_cons (de_lst da_nil) (da_cons (de_tup da_nil) da_nil))))) (da_cons (de_tup (da_cons de_int da_nil)) da_nil))) (da_cons (de_tup (da_cons (de_tup (da_cons de_bl (da_cons (de_tup da_nil) (da_cons (de_tup da_nil) (da_cons (de_tup da_nil) da_nil))))) (da_cons (de_tup (da_cons de_int da_nil)) da_nil))) da_nil))))))
      (dss_frz [5] (dss_cons (ds_set 5 sc_law.nd (de_op op_cat (fun _ => lo_cat) (de_v 5) (de_lst (da_cons (de_tup (da_cons (de_tup (da_cons de_int (da_cons (de_tup (da_cons (de_tup da_nil) (da_cons (de_tup (da_cons de_str (da_cons de_str da_nil))) da_nil))) (da_cons de_non (da_cons (de_tup da_nil) da_nil))))) (da_cons (de_tup (da_cons de_int (da_cons de_int da_nil))) da_nil))) (da_cons (de_tup (da_cons (de_tup (da_cons de_int (da_cons (de_tup (da_cons (de_tup da_nil) da_nil)) (da_cons (de_tup (da_cons (de_tup da_nil) (da_cons (de_tup da_nil) da_nil))) (da_cons (de_tup da_nil) da_nil))))) (da_cons (de_tup (da_cons de_int da_nil)) da_nil))) da_nil)))))
      (dss_cons (ds_app 5 (de_tup (da_cons (de_tup (da_cons de_int (da_cons (de_tup (da_cons (de_tup da_nil) da_nil)) (da_cons (de_tup (da_cons (de_tup (da_cons de_str (da_cons de_str da_nil))) da_nil)) (da_cons (de_tup da_nil) da_nil))))) (da_cons (de_tup (da_cons de_int (da_cons de_int da_nil))) da_nil))) (h := pe_bm PySem.F.plainAttrs_list PySem.F.slot_list_append PySem.F.type_list_append mt_append (pv 5) (pa_cons (DE.pe (F := G) ((de_tup (da_cons (de_tup (da_cons de_int (da_cons (de_tup (da_cons (de_tup da_nil) da_nil)) (da_cons (de_tup (da_cons (de_tup (da_cons de_str (da_cons de_str da_nil))) da_nil)) (da_cons (de_tup da_nil) da_nil))))) (da_cons (de_tup (da_cons de_int (da_cons de_int da_nil))) da_nil))))) pa_nil)))
      (dss_one (ds_ret (de_peek [5] (de_cmp (k_eq (K := K) rfl hr.units) (fun _ => lo_eq) (de_lc (own := [("value", 6), ("path", 12)]) sc_law.nd (ki_list (K := K) rfl (de_v 5)) (blkOk_by (N := ["script", "source", "turn", "many", "wide", "some", "value", "lap", "lot", "kept", "told", "k", "path"]) (sc := defScope s_law) (by decide +kernel)) (fun _ _ _ _ _ => by exact (kg_tup (K := K) (n := 2) rfl rfl (dgs_cons (dg_name 6 (by decide) sc_law.nd) (dgs_cons (dg_name 12 (by decide) sc_law.nd) dgs_nil)))) (fun _ _ _ _ _ => by exact (dp_one (by exact (dt_cmp (k_ne (K := K) rfl hr.units) (fun _ => lo_ne) (k_fn (K := K) rfl G__law_told_path (hr.mono (by decide)) (da_cons (de_v 6) da_nil)) (de_lst (da_cons (de_v 12) da_nil)))))) (fun _ _ _ _ _ => by exact de_int)) (de_lst da_nil))))))))))))), ?_⟩
  refine ⟨8, rfl, ⟨by decide, by decide⟩, ?_⟩
  unfold rngD
  refine loop_byT (fun (i : Nat) => PyData.int (0 + (i : Nat))) (fun _ env => ∃ v2 v5 v6 v7 v8 v9 v10, env = [none, some .src, v2, none, none, v5, v6, v7, v8, v9, v10, none, none]) ⟨_, _, _, _, _, _, _, rfl⟩ ?_ ?_
  · rintro _ turn env _ ⟨v2, v5, v6, v7, v8, v9, v10, rfl⟩ nx hn
    unfold dgName
    dsimp only
    refine sq_set (fun s => ∃ v, s = .d v ∧ VB 0 v) (fun Q hQ => ?_) ?_
    · refine ⟨rfl, 4, rfl, by decide, fun i i0 i1 => ?_⟩
      have i1 : i < 4 := i1
      obtain ⟨j, rfl⟩ : ∃ j : Nat, i = j := ⟨i.toNat, by omega⟩
      have e1 : ((1 : Int) + (j : Nat)) = ((1 + j : Nat) : Int) := by omega
      refine ⟨rfl, 1 + j, by rw [← e1]; rfl, by omega, by omega, fun ws W => ?_⟩
      exact ⟨rfl, ws, rfl, by rw [W.len]; omega, fun r ok => hQ _ ⟨_, rfl, row_VB W (by omega) ok⟩⟩
    rintro _ ⟨v, rfl, hv⟩
    refine sq_byL (fun env => ∃ v2 v5 v6 v7 v8 v9 v10, env = [none, some .src, v2, none, none, v5, v6, v7, v8, v9, v10, none, none]) (fun nx2 hn2 => ?_) ?_
    · refine ⟨4, rfl, ⟨by decide, by decide⟩, ?_⟩
      unfold rngD
      refine loop_byT (fun (i : Nat) => PyData.int (0 + (i : Nat))) (l := List.range 4) (fun lap env => ∃ v v7 v9 v10, env = [none, some .src, some (.d (.int (0 + (turn : Nat)))), none, none, v5, some (.d v), v7, v8, v9, v10, none, none] ∧ VB lap v) ⟨v, _, _, _, rfl, hv⟩ ?_ ?_
      · rintro lap _ env hl ⟨v, v7, v9, v10, rfl, hv⟩ nx3 hn3
        have hlap : lap < 4 := by simpa using (List.getElem?_eq_some_iff.mp hl).1
        have d := hv.d (by omega)
        have ok := d8_okY d (by omega) (by omega)
        have ha := (d8_iff.mp d).1
        dsimp only
        refine ⟨ok, ?_⟩
        dsimp only
        refine ⟨rfl, v, rfl, ha, rfl, v, rfl, ha, _, rfl, s16 (by show 2 ≤ 16777216; omega), ?_⟩
        dsimp only
        refine if_iffS False True (fun Q hp hq => ?_) (fun h => h.elim) (fun _ => ?_)
        · refine ⟨told_okY ha, rfl, v, rfl, ha, _, rfl, s16 (by show 1 ≤ 16777216; omega), by decide, by decide, s16 (by show 1 * 2 ≤ 16777216; omega), told_okY ha, ?_⟩
          refine neS_same ?_
          refine ⟨_, rfl, ?_⟩
          refine ifb (fun h => absurd h (by decide)) (fun _ => ?_)
          refine ⟨ok, ?_⟩
          refine (show fEqS true (.d (.str v.shown)) (.d (.str v.shown)) (fun s => ∃ b, s.fz = Sl.d (.bool b) ∧ Q b) from ?_)
          refine neS_same ?_
          exact ⟨_, rfl, hq trivial⟩
        · dsimp only [dNext]
          exact ⟨rfl, v, lap, rfl, hv, by omega, fun v' hv' => hn3 _ ⟨v', _, _, _, rfl, hv'⟩⟩
      · rintro env ⟨v, v7, v9, v10, rfl, _⟩
        exact hn2 _ ⟨_, _, _, _, _, _, _, rfl⟩
    clear hv
    rintro _ ⟨v2, v5, v6, v7, v8, v9, v10, rfl⟩
    refine sq_set (fun s => ∃ ws : List Str, s = .d (.tuple (ws.map PyData.str)) ∧ ws.length ≤ 12 ∧ ∀ w ∈ ws, okT w = true) (fun Q hQ => ?_) ?_
    · refine ⟨rfl, 12, rfl, by decide, fun i i0 i1 => ?_⟩
      have i1 : i < 12 := i1
      refine ⟨i, rfl, ⟨by omega, by omega⟩, by rw [rngD_length]; exact s16 (by omega), ?_⟩
      refine lc_all (fun x => ∃ w : Str, x = .str w ∧ okT w = true) (fun y _ k hk => ?_) (fun zs hz hP => ?_)
      · exact ⟨rfl, rfl, fun w hw _ _ => hk _ _ rfl ⟨w, rfl, hw⟩⟩
      · obtain ⟨ws, rfl, e, hs⟩ := strs_of hP
        rw [List.length_map, rngD_length] at hz
        refine ⟨ws, e, by show ws.length + 1 < scanBound; rw [hz]; unfold scanBound; omega, fun ys so nd iff => ?_⟩
        have ly := nodup_len ys ws nd fun x hx => (iff x).mp hx
        exact hQ _ ⟨ys, rfl, by omega, fun w hw => hs w ((iff w).mp hw)⟩
    rintro _ ⟨ws, rfl, lw, hw⟩
    have hx : ∀ x ∈ ws.map PyData.str, allA x = true := fun x hx => by
      obtain ⟨w, hm, rfl⟩ := List.mem_map.mp hx
      exact hw w hm
    have lx : (ws.map PyData.str).length ≤ 12 := by rw [List.length_map]; exact lw
    generalize ws.map PyData.str = xs at hx lx
    refine sq_byL (fun env => ∃ v2 v5 v6 v7 v8 v9 v10, env = [none, some .src, v2, none, none, v5, v6, v7, v8, v9, v10, none, none]) (fun nx2 hn2 => ?_) ?_
    · have c1 : Pu.cutD xs none (some 1) = xs.take 1 := cut_take (n := 1)
      have lc : (Pu.cutD xs none (some 1)).length ≤ 1 := by rw [c1, List.length_take]; omega
      refine ⟨xs, rfl, 1, rfl, s16 (by omega), rfl, rfl, fun o ho => ?_⟩
      refine ⟨_, rfl, s16 (by show 1 ≤ 16777216; omega), s16 (by show xs.length + 1 ≤ _; omega), rfl, rfl, fun u hu => ?_⟩
      refine ⟨_, rfl, s16 (by show 6 ≤ 16777216; omega), ?_⟩
      refine ⟨_, rfl, ?_⟩
      have hall : ∀ y ∈ [PyData.tuple xs, .tuple xs.reverse, .tuple (xs ++ Pu.cutD xs none (some 1)), .list xs, .tuple (xs ++ [o]), u], allA y = true := by
        intro y hy
        simp only [List.mem_cons, List.not_mem_nil, or_false] at hy
        rcases hy with rfl | rfl | rfl | rfl | rfl | rfl
        · exact allA_tup.mpr ⟨by omega, hx⟩
        · exact allA_tup.mpr ⟨by rw [List.length_reverse]; omega, fun x h => hx x (List.mem_reverse.mp h)⟩
        · refine allA_tup.mpr ⟨by rw [List.length_append]; omega, fun x h => ?_⟩
          rw [c1] at h
          rcases List.mem_append.mp h with h | h
          · exact hx x h
          · exact hx x (List.mem_of_mem_take h)
        · exact allA_lst.mpr ⟨by omega, hx⟩
        · refine allA_tup.mpr ⟨by rw [List.length_append]; show _ + 1 ≤ _; omega, fun x h => ?_⟩
          rcases List.mem_append.mp h with h | h
          · exact hx x h
          · rw [List.mem_singleton.mp h]; exact (d8_iff.mp (odd_ok _ ho)).1
        · exact (d8_iff.mp (str_ok _ hu)).1
      refine loop_by (fun _ env => ∃ v2 v5 v6 v7 v8 v9 v10, env = [none, some .src, v2, none, none, v5, v6, v7, v8, v9, v10, none, none]) ⟨_, _, _, _, _, _, _, rfl⟩ ?_ ?_
      · rintro j y env hy ⟨v2, v5, v6, v7, v8, v9, v10, rfl⟩ nx3 hn3
        have ha : allA y = true := hall y (List.mem_of_getElem? hy)
        dsimp only
        refine if_iff False True (fun Q hp hq => ?_) (fun h => h.elim) (fun _ => hn3 _ ⟨_, _, _, _, _, _, _, rfl⟩)
        refine ⟨rfl, y, rfl, ha, bool_okY _, rfl, y, rfl, ha, bool_okY _, ?_⟩
        refine neS_same ?_
        exact ⟨_, rfl, hq trivial⟩
      · rintro env ⟨v2, v5, v6, v7, v8, v9, v10, rfl⟩
        exact hn2 _ ⟨_, _, _, _, _, _, _, rfl⟩
    rintro _ ⟨v2, v5, v6, v7, v8, v9, v10, rfl⟩
    refine if_iff False True (fun Q hp hq => ?_) (fun h => h.elim) (fun _ => hn _ ⟨_, _, _, _, _, _, _, rfl⟩)
    exact ⟨rfl, rfl, _, rfl, hq trivial⟩
  rintro env ⟨v2, v5, v6, v7, v8, v9, v10, rfl⟩
  have z1 : ∀ n : Nat, n ≤ 100 → n ≤ sizeLine := fun n h => s16 (by omega)
  dsimp only
  refine sq_set (fun s => s = .d (.tuple manyL)) (fun Q hQ => ?_) ?_
  · refine ⟨10, 50, rfl, by rw [rngD_length]; exact z1 _ (by decide), ?_⟩
    refine lc_mapT (fun (i : Nat) => PyData.int (10 + (i : Nat))) (fun (i : Nat) => PyData.str ("a" ++ toString ((10 : Int) + (i : Nat)))) (l := List.range 40) (fun i hi k hk => ?_) ?_
    · have hi := List.mem_range.mp hi
      obtain ⟨n1, n2⟩ := num_ok i hi
      exact ⟨n1, s16 (by show 1 + _ ≤ _; omega), hk _ rfl⟩
    · exact hQ _ rfl
  rintro _ rfl
  refine sq_set (fun s => s = .d (.tuple wideL)) (fun Q hQ => ?_) ?_
  · refine ⟨⟨by decide, by decide, by decide⟩, _, rfl, z1 _ (by decide), by decide, by decide, .inr (by decide), [], rfl, z1 _ (by decide), _, rfl, z1 _ (by decide), by decide, by decide, .inr (by decide), _, rfl, z1 _ (by decide), by decide, by decide, .inr (by decide), _, rfl, z1 _ (by decide), hQ _ rfl⟩
  rintro _ rfl
  refine if_iffS False True (fun Q hp hq => ?_) (fun h => h.elim) (fun _ => ?_)
  · refine ⟨rfl, _, rfl, wide_ok.2, wide_ok.1, ?_⟩
    refine ⟨_, rfl, ?_⟩
    refine ifb (fun h => absurd h (by decide)) (fun _ => ?_)
    refine ⟨[], rfl, z1 _ (by decide), _, rfl, z1 _ (by decide), [], rfl, z1 _ (by decide), [], rfl, z1 _ (by decide), _, rfl, z1 _ (by decide), _, rfl, z1 _ (by decide), rfl, _, rfl, row0_ok.2, empty_nil row0_ok.1, ?_⟩
    exact ⟨_, rfl, hq trivial⟩
  dsimp only [dNext]
  refine sq_set (fun s => s = .own ((pairsA.take 4).map encP)) (fun Q hQ => ?_) ?_
  · refine ⟨3, rfl, [], rfl, z1 _ (by decide), _, rfl, z1 _ (by decide), [], rfl, z1 _ (by decide), [], rfl, z1 _ (by decide), [], rfl, z1 _ (by decide), _, rfl, z1 _ (by decide), _, rfl, z1 _ (by decide), _, rfl, z1 _ (by decide), [], rfl, z1 _ (by decide), _, rfl, z1 _ (by decide), [], rfl, z1 _ (by decide), [], rfl, z1 _ (by decide), _, rfl, z1 _ (by decide), _, rfl, z1 _ (by decide), _, rfl, z1 _ (by decide), [], rfl, z1 _ (by decide), [], rfl, z1 _ (by decide), [], rfl, z1 _ (by decide), _, rfl, z1 _ (by decide), _, rfl, z1 _ (by decide), _, rfl, z1 _ (by decide), _, rfl, z1 _ (by decide), hQ _ rfl⟩
  rintro _ rfl
  refine (show dSeq (dSet _ 5) _ _ _ from ?_)
  refine sq_set (fun s => s = .own ((pairsA.take 6).map encP)) (fun Q hQ => ?_) ?_
  · refine ⟨[], rfl, z1 _ (by decide), _, rfl, z1 _ (by decide), _, rfl, z1 _ (by decide), [], rfl, z1 _ (by decide), _, rfl, z1 _ (by decide), _, rfl, z1 _ (by decide), _, rfl, z1 _ (by decide), [], rfl, z1 _ (by decide), _, rfl, z1 _ (by decide), [], rfl, z1 _ (by decide), [], rfl, z1 _ (by decide), _, rfl, z1 _ (by decide), [], rfl, z1 _ (by decide), _, rfl, z1 _ (by decide), _, rfl, z1 _ (by decide), _, rfl, z1 _ (by decide), _, rfl, z1 _ (by decide), z1 _ (by decide), hQ _ rfl⟩
  rintro _ rfl
  refine ⟨[], rfl, z1 _ (by decide), _, rfl, z1 _ (by decide), _, rfl, z1 _ (by decide), _, rfl, z1 _ (by decide), [], rfl, z1 _ (by decide), _, rfl, z1 _ (by decide), _, rfl, z1 _ (by decide), _, rfl, z1 _ (by decide), _, rfl, by rw [sizeLine_eq]; decide, ?_⟩
  refine ⟨_, rfl, z1 _ (by decide), ?_⟩
  refine (show dLcGo _ _ _ _ (pairsA.map encP) [] _ from ?_)
  refine lc_fmGo encP (fun _ => none) pairsA [] (fun p hp k hk => ?_) ?_
  · obtain ⟨ha, o1, o2, he⟩ := pairsA_ok p hp
    obtain ⟨v, q⟩ := p
    unfold dTurn
    refine ⟨_, rfl, rfl, _, _, rfl, _, _, rfl, rfl, ?_⟩
    refine ⟨rfl, v, rfl, ha, _, rfl, s16 (by show 1 ≤ 16777216; omega), o1, o2, _, rfl, ?_⟩
    rw [he]
    exact hk
  · have e : pairsA.filterMap (fun _ => (none : Option PyData)) = [] := rfl
    rw [List.nil_append, e]
    refine ⟨[], rfl, z1 _ (by decide), okD1_nil, okD1_nil, ?_⟩
    exact ⟨rfl, rfl⟩

end
end Law

end

namespace Law
open PySem L2 PyProof.Rows RZ Pu
set_option maxHeartbeats 4000000
theorem at_mk {K : PySem.W.Frag} {h : Heap} {mg : Str → Option Value} {x : Str} {st : Stmt} {ps : List Str} {f : Addr} {oc kV dc pm cd ct : Value} {od an : Option Addr} {sl : Array (Option Value)} (X : K.In h) (G : h.Ns mainGlobals mg)
    (a : PySem.W.nsIn K mainGlobals x = some (some (.ref f))) (l : K.lookup f = some ⟨oc, od, .func (PySem.W.fnOf x x (defArgs st) (defBody st) (defScope st) .none kV dc pm an cd ct), sl⟩) (c : PySem.W.codeIn K cd x = true) (k : PySem.W.keepIn K (.ref f) = true)
    (b : ∀ fd, Fun K x x st f fd → Binds K fd ps []) : At K mg x st ps := ⟨_, _, fun_mk (st := st) l c k, PySem.W.mg_of X G a, b _ (fun_mk (st := st) l c k)⟩

/-- what the top has written -/
structure Txt (w : World) (K : PySem.W.Frag) (mg : Str → Option Value) : Prop where
  at_is_small_letter : At K mg "is_small_letter" s_is_small_letter ["sign"]
  at_is_digit : At K mg "is_digit" s_is_digit ["sign"]
  at_is_word : At K mg "is_word" s_is_word ["value"]
  at_is_integer : At K mg "is_integer" s_is_integer ["value"]
  at_is_number : At K mg "is_number" s_is_number ["value"]
  at_is_lot : At K mg "is_lot" s_is_lot ["value"]
  at_check_row : At K mg "check_row" s_check_row ["value"]
  at__wrong_part : At K mg "_wrong_part" s__wrong_part ["value"]
  at__wrong_lots : At K mg "_wrong_lots" s__wrong_lots ["value", "number"]
  at__law_source : At K mg "_law_source" s__law_source ["script"]
  at__law_pick : At K mg "_law_pick" s__law_pick ["source", "many"]
  at__law_of : At K mg "_law_of" s__law_of ["source", "some"]
  at__law_mixed : At K mg "_law_mixed" s__law_mixed ["source", "things"]
  at__law_odd : At K mg "_law_odd" s__law_odd ["source"]
  at__law_words : At K mg "_law_words" s__law_words ["source", "many"]
  at__law_lot : At K mg "_law_lot" s__law_lot ["source", "words"]
  at__law_row : At K mg "_law_row" s__law_row ["source", "words", "most"]
  at__law_wide_row : At K mg "_law_wide_row" s__law_wide_row ["source", "words"]
  at__law_is_word : At K mg "_law_is_word" s__law_is_word ["value"]
  at__law_is_integer : At K mg "_law_is_integer" s__law_is_integer ["value"]
  at__law_right_lot : At K mg "_law_right_lot" s__law_right_lot ["value"]
  at__law_path : At K mg "_law_path" s__law_path ["value"]
  at__law_any_word : At K mg "_law_any_word" s__law_any_word ["source"]
  at__law_any_row : At K mg "_law_any_row" s__law_any_row ["source", "words"]
  at__law_told_path : At K mg "_law_told_path" s__law_told_path ["value"]
  at__law_deep : At K mg "_law_deep" s__law_deep ["many"]
  at__law_strange : At K mg "_law_strange" s__law_strange ["source"]
  at__law_bent : At K mg "_law_bent" s__law_bent ["source", "value"]
  at__law_words_right : At K mg "_law_words_right" s__law_words_right ["source"]
  bl : Blt w K mg

theorem fn_all {P : Program} {w : World} {K : PySem.W.Frag} {mg : Str → Option Value} {base : Heap} {f : Addr} {fd : FuncData} (F : Fun K "law" "law" s_law f fd) (T : Txt w K mg) : FnG P w K mg base CX0 8 f fd ["script"] (spLaw K) := by
  have B := T.bl
  have G_src : Fn P w K mg base "_law_source" 1 ["script"] (spSource K) := Fn.mk' T.at__law_source fun f fd F => FnG.of (ok_source F B)
  have G__law_pick : Fn P w K mg base "_law_pick" 1 ["source", "many"] (spX K 2 mPick) := Fn.mk' T.at__law_pick fun f fd F => FnG.of (ok_pick F B)
  have G__law_mixed := fn_mixed T.at__law_mixed B G__law_pick
  have G_is_small_letter := fn_is_small_letter (P := P) (w := w) (base := base) T.at_is_small_letter B
  have G_is_digit := fn_is_digit (P := P) (w := w) (base := base) T.at_is_digit B
  have G_is_integer := fn_is_integer (P := P) (w := w) (base := base) T.at_is_integer B
  have G__law_is_word := fn__law_is_word (P := P) (w := w) (base := base) T.at__law_is_word B
  have G__law_is_integer := fn__law_is_integer (P := P) (w := w) (base := base) T.at__law_is_integer B
  have G__law_deep := fn__law_deep (P := P) (w := w) (base := base) T.at__law_deep B
  have G_is_word := fn_is_word (P := P) (w := w) (base := base) T.at_is_word B G_is_digit G_is_small_letter
  have G_is_number := fn_is_number (P := P) (w := w) (base := base) T.at_is_number B G_is_integer
  have G__law_of := fn__law_of (P := P) (w := w) (base := base) T.at__law_of B G__law_pick
  have G__law_lot := fn__law_lot (P := P) (w := w) (base := base) T.at__law_lot B G__law_pick
  have G__law_right_lot := fn__law_right_lot (P := P) (w := w) (base := base) T.at__law_right_lot B G__law_is_word
  have G__law_any_word := fn__law_any_word (P := P) (w := w) (base := base) T.at__law_any_word B G__law_pick
  have G_is_lot := fn_is_lot (P := P) (w := w) (base := base) T.at_is_lot B G_is_word
  have G__law_odd := fn__law_odd (P := P) (w := w) (base := base) T.at__law_odd B G__law_of
  have G__law_words := fn__law_words (P := P) (w := w) (base := base) T.at__law_words B G__law_mixed
  have G__law_row := fn__law_row (P := P) (w := w) (base := base) T.at__law_row B G__law_lot G__law_of G__law_pick
  have G__law_wide_row := fn__law_wide_row (P := P) (w := w) (base := base) T.at__law_wide_row B G__law_lot G__law_pick
  have G__law_path := fn__law_path (P := P) (w := w) (base := base) T.at__law_path B G__law_is_integer G__law_right_lot
  have G__law_strange := fn__law_strange (P := P) (w := w) (base := base) T.at__law_strange B G__law_deep G__law_of
  have G__wrong_lots := fn__wrong_lots (P := P) (w := w) (base := base) T.at__wrong_lots B G_is_lot
  have G__law_any_row := fn__law_any_row (P := P) (w := w) (base := base) T.at__law_any_row B G__law_of G__law_pick G__law_row G__law_wide_row
  have G__law_bent := fn__law_bent (P := P) (w := w) (base := base) T.at__law_bent B G__law_deep G__law_of G__law_pick G__law_strange
  have G__law_words_right := fn__law_words_right (P := P) (w := w) (base := base) T.at__law_words_right B G__law_any_word G__law_deep G__law_is_integer G__law_is_word G__law_odd G__law_of G__law_pick G__law_right_lot G__law_strange G_is_integer G_is_lot G_is_number G_is_word
  have G__wrong_part := fn__wrong_part (P := P) (w := w) (base := base) T.at__wrong_part B G__wrong_lots G_is_integer
  have G_check_row := fn_check_row (P := P) (w := w) (base := base) T.at_check_row B G__wrong_part
  have G__law_told_path := fn__law_told_path (P := P) (w := w) (base := base) T.at__law_told_path B G_check_row
  exact fn_law F B G_src G__law_any_row G__law_any_word G__law_bent G__law_odd G__law_path G__law_pick G__law_right_lot G__law_strange G__law_told_path G__law_words G__law_words_right (FnXE.fn G_check_row check_in) G_is_lot

theorem all_at {l : PySem.W.OpenLaw} {w : World} {K : PySem.W.Frag} {h : Heap} {mg : Str → Option Value} {fa : Addr} (X : K.In h) (G : h.Ns mainGlobals mg) (hfa : mg "law" = some (.ref fa))
    {f0 : Addr} {oc0 kV0 dc0 pm0 cd0 ct0 : Value} {od0 an0 : Option Addr} {sl0 : Array (Option Value)}
    {f1 : Addr} {oc1 kV1 dc1 pm1 cd1 ct1 : Value} {od1 an1 : Option Addr} {sl1 : Array (Option Value)}
    {f2 : Addr} {oc2 kV2 dc2 pm2 cd2 ct2 : Value} {od2 an2 : Option Addr} {sl2 : Array (Option Value)}
    {f3 : Addr} {oc3 kV3 dc3 pm3 cd3 ct3 : Value} {od3 an3 : Option Addr} {sl3 : Array (Option Value)}
    {f4 : Addr} {oc4 kV4 dc4 pm4 cd4 ct4 : Value} {od4 an4 : Option Addr} {sl4 : Array (Option Value)}
    {f5 : Addr} {oc5 kV5 dc5 pm5 cd5 ct5 : Value} {od5 an5 : Option Addr} {sl5 : Array (Option Value)}
    {f6 : Addr} {oc6 kV6 dc6 pm6 cd6 ct6 : Value} {od6 an6 : Option Addr} {sl6 : Array (Option Value)}
    {f7 : Addr} {oc7 kV7 dc7 pm7 cd7 ct7 : Value} {od7 an7 : Option Addr} {sl7 : Array (Option Value)}
    {f8 : Addr} {oc8 kV8 dc8 pm8 cd8 ct8 : Value} {od8 an8 : Option Addr} {sl8 : Array (Option Value)}
    {f9 : Addr} {oc9 kV9 dc9 pm9 cd9 ct9 : Value} {od9 an9 : Option Addr} {sl9 : Array (Option Value)}
    {f10 : Addr} {oc10 kV10 dc10 pm10 cd10 ct10 : Value} {od10 an10 : Option Addr} {sl10 : Array (Option Value)}
    {f11 : Addr} {oc11 kV11 dc11 pm11 cd11 ct11 : Value} {od11 an11 : Option Addr} {sl11 : Array (Option Value)}
    {f12 : Addr} {oc12 kV12 dc12 pm12 cd12 ct12 : Value} {od12 an12 : Option Addr} {sl12 : Array (Option Value)}
    {f13 : Addr} {oc13 kV13 dc13 pm13 cd13 ct13 : Value} {od13 an13 : Option Addr} {sl13 : Array (Option Value)}
    {f14 : Addr} {oc14 kV14 dc14 pm14 cd14 ct14 : Value} {od14 an14 : Option Addr} {sl14 : Array (Option Value)}
    {f15 : Addr} {oc15 kV15 dc15 pm15 cd15 ct15 : Value} {od15 an15 : Option Addr} {sl15 : Array (Option Value)}
    {f16 : Addr} {oc16 kV16 dc16 pm16 cd16 ct16 : Value} {od16 an16 : Option Addr} {sl16 : Array (Option Value)}
    {f17 : Addr} {oc17 kV17 dc17 pm17 cd17 ct17 : Value} {od17 an17 : Option Addr} {sl17 : Array (Option Value)}
    {f18 : Addr} {oc18 kV18 dc18 pm18 cd18 ct18 : Value} {od18 an18 : Option Addr} {sl18 : Array (Option Value)}
    {f19 : Addr} {oc19 kV19 dc19 pm19 cd19 ct19 : Value} {od19 an19 : Option Addr} {sl19 : Array (Option Value)}
    {f20 : Addr} {oc20 kV20 dc20 pm20 cd20 ct20 : Value} {od20 an20 : Option Addr} {sl20 : Array (Option Value)}
    {f21 : Addr} {oc21 kV21 dc21 pm21 cd21 ct21 : Value} {od21 an21 : Option Addr} {sl21 : Array (Option Value)}
    {f22 : Addr} {oc22 kV22 dc22 pm22 cd22 ct22 : Value} {od22 an22 : Option Addr} {sl22 : Array (Option Value)}
    {f23 : Addr} {oc23 kV23 dc23 pm23 cd23 ct23 : Value} {od23 an23 : Option Addr} {sl23 : Array (Option Value)}
    {f24 : Addr} {oc24 kV24 dc24 pm24 cd24 ct24 : Value} {od24 an24 : Option Addr} {sl24 : Array (Option Value)}
    {f25 : Addr} {oc25 kV25 dc25 pm25 cd25 ct25 : Value} {od25 an25 : Option Addr} {sl25 : Array (Option Value)}
    {f26 : Addr} {oc26 kV26 dc26 pm26 cd26 ct26 : Value} {od26 an26 : Option Addr} {sl26 : Array (Option Value)}
    {f27 : Addr} {oc27 kV27 dc27 pm27 cd27 ct27 : Value} {od27 an27 : Option Addr} {sl27 : Array (Option Value)}
    {f28 : Addr} {oc28 kV28 dc28 pm28 cd28 ct28 : Value} {od28 an28 : Option Addr} {sl28 : Array (Option Value)}
    {f29 : Addr} {oc29 kV29 dc29 pm29 cd29 ct29 : Value} {od29 an29 : Option Addr} {sl29 : Array (Option Value)}
    {tLONGEST_WORD : Tok}
    {xBadRow_C xBadRow_F xBadRow_N xBadRow_S : Addr} {xBadRow_nm xBadRow_q : Str} {xBadRow_bs : List Value} {xBadRow_sn : List Str} {xBadRow_sub : List Value} {xBadRow_ab : Bool} {xBadRow_col : Option Bool} {xBadRow_dd : Option Addr} {xBadRow_m0 xBadRow_m1 xBadRow_m2 xBadRow_m3 xBadRow_m5 : Option Value} {xBadRow_oc xBadRow_kV xBadRow_dc xBadRow_pm xBadRow_cd xBadRow_ct : Value} {xBadRow_od xBadRow_an : Option Addr} {xBadRow_sl : Array (Option Value)}
    (a0 : PySem.W.nsIn K mainGlobals "is_small_letter" = some (some (.ref f0))) (l0 : K.lookup f0 = some ⟨oc0, od0, .func (PySem.W.fnOf "is_small_letter" "is_small_letter" (defArgs s_is_small_letter) (defBody s_is_small_letter) (defScope s_is_small_letter) .none kV0 dc0 pm0 an0 cd0 ct0), sl0⟩) (c0 : PySem.W.codeIn K cd0 "is_small_letter" = true) (k0 : PySem.W.keepIn K (.ref f0) = true)
    (a1 : PySem.W.nsIn K mainGlobals "is_digit" = some (some (.ref f1))) (l1 : K.lookup f1 = some ⟨oc1, od1, .func (PySem.W.fnOf "is_digit" "is_digit" (defArgs s_is_digit) (defBody s_is_digit) (defScope s_is_digit) .none kV1 dc1 pm1 an1 cd1 ct1), sl1⟩) (c1 : PySem.W.codeIn K cd1 "is_digit" = true) (k1 : PySem.W.keepIn K (.ref f1) = true)
    (a2 : PySem.W.nsIn K mainGlobals "is_word" = some (some (.ref f2))) (l2 : K.lookup f2 = some ⟨oc2, od2, .func (PySem.W.fnOf "is_word" "is_word" (defArgs s_is_word) (defBody s_is_word) (defScope s_is_word) .none kV2 dc2 pm2 an2 cd2 ct2), sl2⟩) (c2 : PySem.W.codeIn K cd2 "is_word" = true) (k2 : PySem.W.keepIn K (.ref f2) = true)
    (a3 : PySem.W.nsIn K mainGlobals "is_integer" = some (some (.ref f3))) (l3 : K.lookup f3 = some ⟨oc3, od3, .func (PySem.W.fnOf "is_integer" "is_integer" (defArgs s_is_integer) (defBody s_is_integer) (defScope s_is_integer) .none kV3 dc3 pm3 an3 cd3 ct3), sl3⟩) (c3 : PySem.W.codeIn K cd3 "is_integer" = true) (k3 : PySem.W.keepIn K (.ref f3) = true)
    (a4 : PySem.W.nsIn K mainGlobals "is_number" = some (some (.ref f4))) (l4 : K.lookup f4 = some ⟨oc4, od4, .func (PySem.W.fnOf "is_number" "is_number" (defArgs s_is_number) (defBody s_is_number) (defScope s_is_number) .none kV4 dc4 pm4 an4 cd4 ct4), sl4⟩) (c4 : PySem.W.codeIn K cd4 "is_number" = true) (k4 : PySem.W.keepIn K (.ref f4) = true)
    (a5 : PySem.W.nsIn K mainGlobals "is_lot" = some (some (.ref f5))) (l5 : K.lookup f5 = some ⟨oc5, od5, .func (PySem.W.fnOf "is_lot" "is_lot" (defArgs s_is_lot) (defBody s_is_lot) (defScope s_is_lot) .none kV5 dc5 pm5 an5 cd5 ct5), sl5⟩) (c5 : PySem.W.codeIn K cd5 "is_lot" = true) (k5 : PySem.W.keepIn K (.ref f5) = true)
    (a6 : PySem.W.nsIn K mainGlobals "check_row" = some (some (.ref f6))) (l6 : K.lookup f6 = some ⟨oc6, od6, .func (PySem.W.fnOf "check_row" "check_row" (defArgs s_check_row) (defBody s_check_row) (defScope s_check_row) .none kV6 dc6 pm6 an6 cd6 ct6), sl6⟩) (c6 : PySem.W.codeIn K cd6 "check_row" = true) (k6 : PySem.W.keepIn K (.ref f6) = true)
    (a7 : PySem.W.nsIn K mainGlobals "_wrong_part" = some (some (.ref f7))) (l7 : K.lookup f7 = some ⟨oc7, od7, .func (PySem.W.fnOf "_wrong_part" "_wrong_part" (defArgs s__wrong_part) (defBody s__wrong_part) (defScope s__wrong_part) .none kV7 dc7 pm7 an7 cd7 ct7), sl7⟩) (c7 : PySem.W.codeIn K cd7 "_wrong_part" = true) (k7 : PySem.W.keepIn K (.ref f7) = true)
    (a8 : PySem.W.nsIn K mainGlobals "_wrong_lots" = some (some (.ref f8))) (l8 : K.lookup f8 = some ⟨oc8, od8, .func (PySem.W.fnOf "_wrong_lots" "_wrong_lots" (defArgs s__wrong_lots) (defBody s__wrong_lots) (defScope s__wrong_lots) .none kV8 dc8 pm8 an8 cd8 ct8), sl8⟩) (c8 : PySem.W.codeIn K cd8 "_wrong_lots" = true) (k8 : PySem.W.keepIn K (.ref f8) = true)
    (a9 : PySem.W.nsIn K mainGlobals "_law_source" = some (some (.ref f9))) (l9 : K.lookup f9 = some ⟨oc9, od9, .func (PySem.W.fnOf "_law_source" "_law_source" (defArgs s__law_source) (defBody s__law_source) (defScope s__law_source) .none kV9 dc9 pm9 an9 cd9 ct9), sl9⟩) (c9 : PySem.W.codeIn K cd9 "_law_source" = true) (k9 : PySem.W.keepIn K (.ref f9) = true)
    (a10 : PySem.W.nsIn K mainGlobals "_law_pick" = some (some (.ref f10))) (l10 : K.lookup f10 = some ⟨oc10, od10, .func (PySem.W.fnOf "_law_pick" "_law_pick" (defArgs s__law_pick) (defBody s__law_pick) (defScope s__law_pick) .none kV10 dc10 pm10 an10 cd10 ct10), sl10⟩) (c10 : PySem.W.codeIn K cd10 "_law_pick" = true) (k10 : PySem.W.keepIn K (.ref f10) = true)
    (a11 : PySem.W.nsIn K mainGlobals "_law_of" = some (some (.ref f11))) (l11 : K.lookup f11 = some ⟨oc11, od11, .func (PySem.W.fnOf "_law_of" "_law_of" (defArgs s__law_of) (defBody s__law_of) (defScope s__law_of) .none kV11 dc11 pm11 an11 cd11 ct11), sl11⟩) (c11 : PySem.W.codeIn K cd11 "_law_of" = true) (k11 : PySem.W.keepIn K (.ref f11) = true)
    (a12 : PySem.W.nsIn K mainGlobals "_law_mixed" = some (some (.ref f12))) (l12 : K.lookup f12 = some ⟨oc12, od12, .func (PySem.W.fnOf "_law_mixed" "_law_mixed" (defArgs s__law_mixed) (defBody s__law_mixed) (defScope s__law_mixed) .none kV12 dc12 pm12 an12 cd12 ct12), sl12⟩) (c12 : PySem.W.codeIn K cd12 "_law_mixed" = true) (k12 : PySem.W.keepIn K (.ref f12) = true)
    (a13 : PySem.W.nsIn K mainGlobals "_law_odd" = some (some (.ref f13))) (l13 : K.lookup f13 = some ⟨oc13, od13, .func (PySem.W.fnOf "_law_odd" "_law_odd" (defArgs s__law_odd) (defBody s__law_odd) (defScope s__law_odd) .none kV13 dc13 pm13 an13 cd13 ct13), sl13⟩) (c13 : PySem.W.codeIn K cd13 "_law_odd" = true) (k13 : PySem.W.keepIn K (.ref f13) = true)
    (a14 : PySem.W.nsIn K mainGlobals "_law_words" = some (some (.ref f14))) (l14 : K.lookup f14 = some ⟨oc14, od14, .func (PySem.W.fnOf "_law_words" "_law_words" (defArgs s__law_words) (defBody s__law_words) (defScope s__law_words) .none kV14 dc14 pm14 an14 cd14 ct14), sl14⟩) (c14 : PySem.W.codeIn K cd14 "_law_words" = true) (k14 : PySem.W.keepIn K (.ref f14) = true)
    (a15 : PySem.W.nsIn K mainGlobals "_law_lot" = some (some (.ref f15))) (l15 : K.lookup f15 = some ⟨oc15, od15, .func (PySem.W.fnOf "_law_lot" "_law_lot" (defArgs s__law_lot) (defBody s__law_lot) (defScope s__law_lot) .none kV15 dc15 pm15 an15 cd15 ct15), sl15⟩) (c15 : PySem.W.codeIn K cd15 "_law_lot" = true) (k15 : PySem.W.keepIn K (.ref f15) = true)
    (a16 : PySem.W.nsIn K mainGlobals "_law_row" = some (some (.ref f16))) (l16 : K.lookup f16 = some ⟨oc16, od16, .func (PySem.W.fnOf "_law_row" "_law_row" (defArgs s__law_row) (defBody s__law_row) (defScope s__law_row) .none kV16 dc16 pm16 an16 cd16 ct16), sl16⟩) (c16 : PySem.W.codeIn K cd16 "_law_row" = true) (k16 : PySem.W.keepIn K (.ref f16) = true)
    (a17 : PySem.W.nsIn K mainGlobals "_law_wide_row" = some (some (.ref f17))) (l17 : K.lookup f17 = some ⟨oc17, od17, .func (PySem.W.fnOf "_law_wide_row" "_law_wide_row" (defArgs s__law_wide_row) (defBody s__law_wide_row) (defScope s__law_wide_row) .none kV17 dc17 pm17 an17 cd17 ct17), sl17⟩) (c17 : PySem.W.codeIn K cd17 "_law_wide_row" = true) (k17 : PySem.W.keepIn K (.ref f17) = true)
    (a18 : PySem.W.nsIn K mainGlobals "_law_is_word" = some (some (.ref f18))) (l18 : K.lookup f18 = some ⟨oc18, od18, .func (PySem.W.fnOf "_law_is_word" "_law_is_word" (defArgs s__law_is_word) (defBody s__law_is_word) (defScope s__law_is_word) .none kV18 dc18 pm18 an18 cd18 ct18), sl18⟩) (c18 : PySem.W.codeIn K cd18 "_law_is_word" = true) (k18 : PySem.W.keepIn K (.ref f18) = true)
    (a19 : PySem.W.nsIn K mainGlobals "_law_is_integer" = some (some (.ref f19))) (l19 : K.lookup f19 = some ⟨oc19, od19, .func (PySem.W.fnOf "_law_is_integer" "_law_is_integer" (defArgs s__law_is_integer) (defBody s__law_is_integer) (defScope s__law_is_integer) .none kV19 dc19 pm19 an19 cd19 ct19), sl19⟩) (c19 : PySem.W.codeIn K cd19 "_law_is_integer" = true) (k19 : PySem.W.keepIn K (.ref f19) = true)
    (a20 : PySem.W.nsIn K mainGlobals "_law_right_lot" = some (some (.ref f20))) (l20 : K.lookup f20 = some ⟨oc20, od20, .func (PySem.W.fnOf "_law_right_lot" "_law_right_lot" (defArgs s__law_right_lot) (defBody s__law_right_lot) (defScope s__law_right_lot) .none kV20 dc20 pm20 an20 cd20 ct20), sl20⟩) (c20 : PySem.W.codeIn K cd20 "_law_right_lot" = true) (k20 : PySem.W.keepIn K (.ref f20) = true)
    (a21 : PySem.W.nsIn K mainGlobals "_law_path" = some (some (.ref f21))) (l21 : K.lookup f21 = some ⟨oc21, od21, .func (PySem.W.fnOf "_law_path" "_law_path" (defArgs s__law_path) (defBody s__law_path) (defScope s__law_path) .none kV21 dc21 pm21 an21 cd21 ct21), sl21⟩) (c21 : PySem.W.codeIn K cd21 "_law_path" = true) (k21 : PySem.W.keepIn K (.ref f21) = true)
    (a22 : PySem.W.nsIn K mainGlobals "_law_any_word" = some (some (.ref f22))) (l22 : K.lookup f22 = some ⟨oc22, od22, .func (PySem.W.fnOf "_law_any_word" "_law_any_word" (defArgs s__law_any_word) (defBody s__law_any_word) (defScope s__law_any_word) .none kV22 dc22 pm22 an22 cd22 ct22), sl22⟩) (c22 : PySem.W.codeIn K cd22 "_law_any_word" = true) (k22 : PySem.W.keepIn K (.ref f22) = true)
    (a23 : PySem.W.nsIn K mainGlobals "_law_any_row" = some (some (.ref f23))) (l23 : K.lookup f23 = some ⟨oc23, od23, .func (PySem.W.fnOf "_law_any_row" "_law_any_row" (defArgs s__law_any_row) (defBody s__law_any_row) (defScope s__law_any_row) .none kV23 dc23 pm23 an23 cd23 ct23), sl23⟩) (c23 : PySem.W.codeIn K cd23 "_law_any_row" = true) (k23 : PySem.W.keepIn K (.ref f23) = true)
    (a24 : PySem.W.nsIn K mainGlobals "_law_told_path" = some (some (.ref f24))) (l24 : K.lookup f24 = some ⟨oc24, od24, .func (PySem.W.fnOf "_law_told_path" "_law_told_path" (defArgs s__law_told_path) (defBody s__law_told_path) (defScope s__law_told_path) .none kV24 dc24 pm24 an24 cd24 ct24), sl24⟩) (c24 : PySem.W.codeIn K cd24 "_law_told_path" = true) (k24 : PySem.W.keepIn K (.ref f24) = true)
    (a25 : PySem.W.nsIn K mainGlobals "_law_deep" = some (some (.ref f25))) (l25 : K.lookup f25 = some ⟨oc25, od25, .func (PySem.W.fnOf "_law_deep" "_law_deep" (defArgs s__law_deep) (defBody s__law_deep) (defScope s__law_deep) .none kV25 dc25 pm25 an25 cd25 ct25), sl25⟩) (c25 : PySem.W.codeIn K cd25 "_law_deep" = true) (k25 : PySem.W.keepIn K (.ref f25) = true)
    (a26 : PySem.W.nsIn K mainGlobals "_law_strange" = some (some (.ref f26))) (l26 : K.lookup f26 = some ⟨oc26, od26, .func (PySem.W.fnOf "_law_strange" "_law_strange" (defArgs s__law_strange) (defBody s__law_strange) (defScope s__law_strange) .none kV26 dc26 pm26 an26 cd26 ct26), sl26⟩) (c26 : PySem.W.codeIn K cd26 "_law_strange" = true) (k26 : PySem.W.keepIn K (.ref f26) = true)
    (a27 : PySem.W.nsIn K mainGlobals "_law_bent" = some (some (.ref f27))) (l27 : K.lookup f27 = some ⟨oc27, od27, .func (PySem.W.fnOf "_law_bent" "_law_bent" (defArgs s__law_bent) (defBody s__law_bent) (defScope s__law_bent) .none kV27 dc27 pm27 an27 cd27 ct27), sl27⟩) (c27 : PySem.W.codeIn K cd27 "_law_bent" = true) (k27 : PySem.W.keepIn K (.ref f27) = true)
    (a28 : PySem.W.nsIn K mainGlobals "_law_words_right" = some (some (.ref f28))) (l28 : K.lookup f28 = some ⟨oc28, od28, .func (PySem.W.fnOf "_law_words_right" "_law_words_right" (defArgs s__law_words_right) (defBody s__law_words_right) (defScope s__law_words_right) .none kV28 dc28 pm28 an28 cd28 ct28), sl28⟩) (c28 : PySem.W.codeIn K cd28 "_law_words_right" = true) (k28 : PySem.W.keepIn K (.ref f28) = true)
    (a29 : PySem.W.nsIn K mainGlobals "law" = some (some (.ref f29))) (l29 : K.lookup f29 = some ⟨oc29, od29, .func (PySem.W.fnOf "law" "law" (defArgs s_law) (defBody s_law) (defScope s_law) .none kV29 dc29 pm29 an29 cd29 ct29), sl29⟩) (c29 : PySem.W.codeIn K cd29 "law" = true) (k29 : PySem.W.keepIn K (.ref f29) = true)
    (z_abs : PySem.W.nsIn K mainGlobals "abs" = some none)
    (z_all : PySem.W.nsIn K mainGlobals "all" = some none)
    (z_bool : PySem.W.nsIn K mainGlobals "bool" = some none)
    (z_dict : PySem.W.nsIn K mainGlobals "dict" = some none)
    (z_enumerate : PySem.W.nsIn K mainGlobals "enumerate" = some none)
    (z_int : PySem.W.nsIn K mainGlobals "int" = some none)
    (z_isinstance : PySem.W.nsIn K mainGlobals "isinstance" = some none)
    (z_len : PySem.W.nsIn K mainGlobals "len" = some none)
    (z_list : PySem.W.nsIn K mainGlobals "list" = some none)
    (z_max : PySem.W.nsIn K mainGlobals "max" = some none)
    (z_range : PySem.W.nsIn K mainGlobals "range" = some none)
    (z_repr : PySem.W.nsIn K mainGlobals "repr" = some none)
    (z_set : PySem.W.nsIn K mainGlobals "set" = some none)
    (z_sorted : PySem.W.nsIn K mainGlobals "sorted" = some none)
    (z_str : PySem.W.nsIn K mainGlobals "str" = some none)
    (z_tuple : PySem.W.nsIn K mainGlobals "tuple" = some none)
    (z_zip : PySem.W.nsIn K mainGlobals "zip" = some none)
    (aLONGEST_WORD : PySem.W.nsIn K mainGlobals "LONGEST_WORD" = some (some (.int 12 tLONGEST_WORD)))
    (xBadRow_aC : PySem.W.nsIn K mainGlobals "BadRow" = some (some (.ref xBadRow_C))) (xBadRow_xL : K.lookup xBadRow_C = some (excClassObj xBadRow_nm xBadRow_q xBadRow_C xBadRow_N xBadRow_bs [.ref xBadRow_S, .type "ValueError", .type "Exception", .type "BaseException", .type "object"] true xBadRow_sn xBadRow_sub xBadRow_ab xBadRow_col xBadRow_dd xBadRow_m0 xBadRow_m1 xBadRow_m2 xBadRow_m3 xBadRow_m5 "ValueError.__new__")) (xBadRow_sa : PySem.W.findIn K (.ref xBadRow_C) "__setattr__" = some (some (.builtin "object.__setattr__"))) (xBadRow_ga : PySem.W.findIn K (.ref xBadRow_C) "__getattribute__" = some (some (.builtin "BaseException.__getattribute__"))) (xBadRow_gg : PySem.W.findIn K (.ref xBadRow_C) "__getattr__" = some none) (xBadRow_no : PySem.W.findIn K (.ref xBadRow_C) "path" = some none) (xBadRow_iC : PySem.W.findIn K (.ref xBadRow_C) "__init__" = some (some (.ref xBadRow_F))) (xBadRow_tI : PySem.W.typeIn K (.ref xBadRow_F) = some (.type "function")) (xBadRow_l : K.lookup xBadRow_F = some ⟨xBadRow_oc, xBadRow_od, .func (PySem.W.fnOf "__init__" "BadRow.__init__" (defArgs s_BadRow_init) (defBody s_BadRow_init) (defScope s_BadRow_init) .none xBadRow_kV xBadRow_dc xBadRow_pm xBadRow_an xBadRow_cd xBadRow_ct), xBadRow_sl⟩) (xBadRow_c : PySem.W.codeIn K xBadRow_cd "BadRow.__init__" = true) (xBadRow_k : PySem.W.keepIn K (.ref xBadRow_F) = true) (xBadRow_kC : PySem.W.keepIn K (.ref xBadRow_C) = true) (xBadRow_eC : PySem.W.subIn K (.ref xBadRow_C) (.type "BaseException") = some true) (xBadRow_tC : PySem.W.typeIn K (.ref xBadRow_C) = some (.type "type")) (xBadRow_hC : PySem.W.hasDictIn K xBadRow_C = true) (xBadRow_cC : PySem.W.isClsIn K xBadRow_C = true) (xBadRow_sC : PySem.W.subIn K (.ref xBadRow_C) (.ref xBadRow_C) = some true) :
    ∃ fd : FuncData, (∀ (s : Shared) (v : Value), BindsTo s fd ⟨[v], []⟩ [("script", v)]) ∧ ∀ base : Heap, K.In base → base.Ns mainGlobals mg → FnG l.prog w K mg base CX0 8 fa fd ["script"] (spLaw K) := by
  have e := hfa.symm.trans (PySem.W.mg_of X G a29)
  cases e
  have F := fun_mk (st := s_law) l29 c29 k29
  have T : Txt w K mg := ⟨at_mk X G a0 l0 c0 k0 (fun fd F => F.binds fun _ _ _ _ _ _ us hl => match us, hl with | [_], _ => rfl), at_mk X G a1 l1 c1 k1 (fun fd F => F.binds fun _ _ _ _ _ _ us hl => match us, hl with | [_], _ => rfl), at_mk X G a2 l2 c2 k2 (fun fd F => F.binds fun _ _ _ _ _ _ us hl => match us, hl with | [_], _ => rfl), at_mk X G a3 l3 c3 k3 (fun fd F => F.binds fun _ _ _ _ _ _ us hl => match us, hl with | [_], _ => rfl), at_mk X G a4 l4 c4 k4 (fun fd F => F.binds fun _ _ _ _ _ _ us hl => match us, hl with | [_], _ => rfl), at_mk X G a5 l5 c5 k5 (fun fd F => F.binds fun _ _ _ _ _ _ us hl => match us, hl with | [_], _ => rfl), at_mk X G a6 l6 c6 k6 (fun fd F => F.binds fun _ _ _ _ _ _ us hl => match us, hl with | [_], _ => rfl), at_mk X G a7 l7 c7 k7 (fun fd F => F.binds fun _ _ _ _ _ _ us hl => match us, hl with | [_], _ => rfl), at_mk X G a8 l8 c8 k8 (fun fd F => F.binds fun _ _ _ _ _ _ us hl => match us, hl with | [_, _], _ => rfl), at_mk X G a9 l9 c9 k9 (fun fd F => F.binds fun _ _ _ _ _ _ us hl => match us, hl with | [_], _ => rfl), at_mk X G a10 l10 c10 k10 (fun fd F => F.binds fun _ _ _ _ _ _ us hl => match us, hl with | [_, _], _ => rfl), at_mk X G a11 l11 c11 k11 (fun fd F => F.binds fun _ _ _ _ _ _ us hl => match us, hl with | [_, _], _ => rfl), at_mk X G a12 l12 c12 k12 (fun fd F => F.binds fun _ _ _ _ _ _ us hl => match us, hl with | [_, _], _ => rfl), at_mk X G a13 l13 c13 k13 (fun fd F => F.binds fun _ _ _ _ _ _ us hl => match us, hl with | [_], _ => rfl), at_mk X G a14 l14 c14 k14 (fun fd F => F.binds fun _ _ _ _ _ _ us hl => match us, hl with | [_, _], _ => rfl), at_mk X G a15 l15 c15 k15 (fun fd F => F.binds fun _ _ _ _ _ _ us hl => match us, hl with | [_, _], _ => rfl), at_mk X G a16 l16 c16 k16 (fun fd F => F.binds fun _ _ _ _ _ _ us hl => match us, hl with | [_, _, _], _ => rfl), at_mk X G a17 l17 c17 k17 (fun fd F => F.binds fun _ _ _ _ _ _ us hl => match us, hl with | [_, _], _ => rfl), at_mk X G a18 l18 c18 k18 (fun fd F => F.binds fun _ _ _ _ _ _ us hl => match us, hl with | [_], _ => rfl), at_mk X G a19 l19 c19 k19 (fun fd F => F.binds fun _ _ _ _ _ _ us hl => match us, hl with | [_], _ => rfl), at_mk X G a20 l20 c20 k20 (fun fd F => F.binds fun _ _ _ _ _ _ us hl => match us, hl with | [_], _ => rfl), at_mk X G a21 l21 c21 k21 (fun fd F => F.binds fun _ _ _ _ _ _ us hl => match us, hl with | [_], _ => rfl), at_mk X G a22 l22 c22 k22 (fun fd F => F.binds fun _ _ _ _ _ _ us hl => match us, hl with | [_], _ => rfl), at_mk X G a23 l23 c23 k23 (fun fd F => F.binds fun _ _ _ _ _ _ us hl => match us, hl with | [_, _], _ => rfl), at_mk X G a24 l24 c24 k24 (fun fd F => F.binds fun _ _ _ _ _ _ us hl => match us, hl with | [_], _ => rfl), at_mk X G a25 l25 c25 k25 (fun fd F => F.binds fun _ _ _ _ _ _ us hl => match us, hl with | [_], _ => rfl), at_mk X G a26 l26 c26 k26 (fun fd F => F.binds fun _ _ _ _ _ _ us hl => match us, hl with | [_], _ => rfl), at_mk X G a27 l27 c27 k27 (fun fd F => F.binds fun _ _ _ _ _ _ us hl => match us, hl with | [_, _], _ => rfl), at_mk X G a28 l28 c28 k28 (fun fd F => F.binds fun _ _ _ _ _ _ us hl => match us, hl with | [_], _ => rfl), ⟨PySem.W.mg_none_of X G z_abs, PySem.W.mg_none_of X G z_all, PySem.W.mg_none_of X G z_bool, PySem.W.mg_none_of X G z_dict, PySem.W.mg_none_of X G z_enumerate, PySem.W.mg_none_of X G z_int, PySem.W.mg_none_of X G z_isinstance, PySem.W.mg_none_of X G z_len, PySem.W.mg_none_of X G z_list, PySem.W.mg_none_of X G z_max, PySem.W.mg_none_of X G z_range, PySem.W.mg_none_of X G z_repr, PySem.W.mg_none_of X G z_set, PySem.W.mg_none_of X G z_sorted, PySem.W.mg_none_of X G z_str, PySem.W.mg_none_of X G z_tuple, PySem.W.mg_none_of X G z_zip, ⟨_, PySem.W.mg_of X G aLONGEST_WORD⟩, ⟨_, _, _, ⟨⟨⟨_, _, _, _, _, _, _, _, _, _, _, _, _, _, _, xBadRow_xL, rfl⟩, xBadRow_sa, xBadRow_eC, xBadRow_tC, xBadRow_kC⟩, ⟨xBadRow_ga, xBadRow_gg, xBadRow_eC, xBadRow_hC⟩, xBadRow_no, xBadRow_iC, xBadRow_tI, Pu.exm_own xBadRow_eC xBadRow_cC xBadRow_tC xBadRow_sC, PySem.W.mg_of X G xBadRow_aC⟩, fun_mk (st := s_BadRow_init) xBadRow_l xBadRow_c xBadRow_k, (fun_mk (st := s_BadRow_init) xBadRow_l xBadRow_c xBadRow_k).binds fun _ _ _ _ _ _ us hl => match us, hl with | [_, _], _ => rfl⟩⟩⟩
  exact ⟨_, fun s v => .of_eq rfl, fun base _ _ => fn_all F T⟩

end Law
open PySem PySem.W PyProof.Rows
set_option maxRecDepth 100000 in
set_option maxHeartbeats 0 in
theorem PySem.Challenge.cw_splitsays_k01_whole_rows_judged_holds : PySem.Challenge.rw_splitsays_k01_whole_rows_judged.Holds := by
  w_on; o_law; k_head; (case hw => w_witness2)
  k_fill
  refine Pu.walkG (l := PySem.Challenge.rw_splitsays_k01_whole_rows_judged) (k := 8) (sp := Pu.spLaw) (x := "script") rfl rfl ⟨⟨rfl, by decide, by decide⟩, rfl⟩ (fun w h Y => PySem.W.kIn_of Y) ?F (fun K H a ns hl hS => ⟨a, ns, rfl, hS, hl, fun _ => rfl⟩)
  case F =>
    intro w mg fa h KX G hmg
    refine' Law.all_at KX G hmg ?a0 ?l0 ?c0 ?k0 ?a1 ?l1 ?c1 ?k1 ?a2 ?l2 ?c2 ?k2 ?a3 ?l3 ?c3 ?k3 ?a4 ?l4 ?c4 ?k4 ?a5 ?l5 ?c5 ?k5 ?a6 ?l6 ?c6 ?k6 ?a7 ?l7 ?c7 ?k7 ?a8 ?l8 ?c8 ?k8 ?a9 ?l9 ?c9 ?k9 ?a10 ?l10 ?c10 ?k10 ?a11 ?l11 ?c11 ?k11 ?a12 ?l12 ?c12 ?k12 ?a13 ?l13 ?c13 ?k13 ?a14 ?l14 ?c14 ?k14 ?a15 ?l15 ?c15 ?k15 ?a16 ?l16 ?c16 ?k16 ?a17 ?l17 ?c17 ?k17 ?a18 ?l18 ?c18 ?k18 ?a19 ?l19 ?c19 ?k19 ?a20 ?l20 ?c20 ?k20 ?a21 ?l21 ?c21 ?k21 ?a22 ?l22 ?c22 ?k22 ?a23 ?l23 ?c23 ?k23 ?a24 ?l24 ?c24 ?k24 ?a25 ?l25 ?c25 ?k25 ?a26 ?l26 ?c26 ?k26 ?a27 ?l27 ?c27 ?k27 ?a28 ?l28 ?c28 ?k28 ?a29 ?l29 ?c29 ?k29 ?z_abs ?z_all ?z_bool ?z_dict ?z_enumerate ?z_int ?z_isinstance ?z_len ?z_list ?z_max ?z_range ?z_repr ?z_set ?z_sorted ?z_str ?z_tuple ?z_zip ?aLONGEST_WORD ?xBadRow_aC ?xBadRow_xL ?xBadRow_sa ?xBadRow_ga ?xBadRow_gg ?xBadRow_no ?xBadRow_iC ?xBadRow_tI ?xBadRow_l ?xBadRow_c ?xBadRow_k ?xBadRow_kC ?xBadRow_eC ?xBadRow_tC ?xBadRow_hC ?xBadRow_cC ?xBadRow_sC
    (case a0 => k_is)
    (case l0 => k_is)
    (case c0 => k_is)
    (case k0 => k_is)
    (case a1 => k_is)
    (case l1 => k_is)
    (case c1 => k_is)
    (case k1 => k_is)
    (case a2 => k_is)
    (case l2 => k_is)
    (case c2 => k_is)
    (case k2 => k_is)
    (case a3 => k_is)
    (case l3 => k_is)
    (case c3 => k_is)
    (case k3 => k_is)
    (case a4 => k_is)
    (case l4 => k_is)
    (case c4 => k_is)
    (case k4 => k_is)
    (case a5 => k_is)
    (case l5 => k_is)
    (case c5 => k_is)
    (case k5 => k_is)
    (case a6 => k_is)
    (case l6 => k_is)
    (case c6 => k_is)
    (case k6 => k_is)
    (case a7 => k_is)
    (case l7 => k_is)
    (case c7 => k_is)
    (case k7 => k_is)
    (case a8 => k_is)
    (case l8 => k_is)
    (case c8 => k_is)
    (case k8 => k_is)
    (case a9 => k_is)
    (case l9 => k_is)
    (case c9 => k_is)
    (case k9 => k_is)
    (case a10 => k_is)
    (case l10 => k_is)
    (case c10 => k_is)
    (case k10 => k_is)
    (case a11 => k_is)
    (case l11 => k_is)
    (case c11 => k_is)
    (case k11 => k_is)
    (case a12 => k_is)
    (case l12 => k_is)
    (case c12 => k_is)
    (case k12 => k_is)
    (case a13 => k_is)
    (case l13 => k_is)
    (case c13 => k_is)
    (case k13 => k_is)
    (case a14 => k_is)
    (case l14 => k_is)
    (case c14 => k_is)
    (case k14 => k_is)
    (case a15 => k_is)
    (case l15 => k_is)
    (case c15 => k_is)
    (case k15 => k_is)
    (case a16 => k_is)
    (case l16 => k_is)
    (case c16 => k_is)
    (case k16 => k_is)
    (case a17 => k_is)
    (case l17 => k_is)
    (case c17 => k_is)
    (case k17 => k_is)
    (case a18 => k_is)
    (case l18 => k_is)
    (case c18 => k_is)
    (case k18 => k_is)
    (case a19 => k_is)
    (case l19 => k_is)
    (case c19 => k_is)
    (case k19 => k_is)
    (case a20 => k_is)
    (case l20 => k_is)
    (case c20 => k_is)
    (case k20 => k_is)
    (case a21 => k_is)
    (case l21 => k_is)
    (case c21 => k_is)
    (case k21 => k_is)
    (case a22 => k_is)
    (case l22 => k_is)
    (case c22 => k_is)
    (case k22 => k_is)
    (case a23 => k_is)
    (case l23 => k_is)
    (case c23 => k_is)
    (case k23 => k_is)
    (case a24 => k_is)
    (case l24 => k_is)
    (case c24 => k_is)
    (case k24 => k_is)
    (case a25 => k_is)
    (case l25 => k_is)
    (case c25 => k_is)
    (case k25 => k_is)
    (case a26 => k_is)
    (case l26 => k_is)
    (case c26 => k_is)
    (case k26 => k_is)
    (case a27 => k_is)
    (case l27 => k_is)
    (case c27 => k_is)
    (case k27 => k_is)
    (case a28 => k_is)
    (case l28 => k_is)
    (case c28 => k_is)
    (case k28 => k_is)
    (case a29 => k_is)
    (case l29 => k_is)
    (case c29 => k_is)
    (case k29 => k_is)
    (case z_abs => k_is)
    (case z_all => k_is)
    (case z_bool => k_is)
    (case z_dict => k_is)
    (case z_enumerate => k_is)
    (case z_int => k_is)
    (case z_isinstance => k_is)
    (case z_len => k_is)
    (case z_list => k_is)
    (case z_max => k_is)
    (case z_range => k_is)
    (case z_repr => k_is)
    (case z_set => k_is)
    (case z_sorted => k_is)
    (case z_str => k_is)
    (case z_tuple => k_is)
    (case z_zip => k_is)
    (case aLONGEST_WORD => k_is)
    (case xBadRow_aC => k_is)
    (case xBadRow_xL => k_is)
    (case xBadRow_sa => k_is)
    (case xBadRow_ga => k_is)
    (case xBadRow_gg => k_is)
    (case xBadRow_no => k_is)
    (case xBadRow_iC => k_is)
    (case xBadRow_tI => k_is)
    (case xBadRow_l => k_is)
    (case xBadRow_c => k_is)
    (case xBadRow_k => k_is)
    (case xBadRow_kC => k_is)
    (case xBadRow_eC => k_is)
    (case xBadRow_tC => k_is)
    (case xBadRow_hC => k_is)
    (case xBadRow_cC => k_is)
    (case xBadRow_sC => first | rfl | k_is)
