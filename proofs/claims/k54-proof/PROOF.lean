import PyProof.Rows.All
import Wide.All
import OpenK.AllK
import Wide.FinOn
import HandS.ForMost
import HandS.Walk
import PyProof.ReprRoads
import PyProof.Rows.NestShow
import HandS.TupAny
import HandS.RaiseMore
import HandS.Zip
import HandS.IsInst
import HandS.Style
import HandS.Evl
import HandS.Strs
import HandS.SetFor
import HandS.SetBool
import PyProof.Rows.SortShellAny
import HandS.Comp
import HandS.TupMul
import HandS.Set
import PyProof.StrLawsRepr
import PyProof.FitsInt
import PyProof.Rows.StrMeet
import HandS.Iter
import HandS.More
import HandS.Dict
import HandS.SortInts
import HandS.DictComp
import HandS.Conv
import HandS.SortKw
import KE.DataMinMax
import KE.KDictList
import HandS.ListItems
import HandS.Deep
import HandS.Flow
import HandS.Zip0
import KE.KItemsList
import HandS.Exc
import HandS.ExcOwn
import HandS.ExcInit
import HandS.ExcField
import KE.KDictZip
import PyProof.ListStr
import KE.GoesEnumKw
import HandS.ExcIs
import PySem.Challenge.RW_splitsays_k54_claims_judged
set_option Elab.async false
set_option linter.all false
set_option maxRecDepth 100000
section
/-! Pu: readings over plain data. A name's slot holds data (d), a raw value (v) or a list that nobody else holds (own). -/
namespace Pu
open PySem L2

/-! ### hidden objects: the law's source, a dict at a with its cells' list at c -/
abbrev Hid := Option (Addr × Addr)
def Hid.has (h : Hid) (b : Addr) : Prop := match h with
  | none => False
  | some p => b = p.1 ∨ b = p.2
def srcD (c : Addr) (l m t : Int) : List (Key × V) := [(Sum.inr "cells", .ref c), (Sum.inr "left", .int l), (Sum.inr "mixed", .int m), (Sum.inr "turn", .int t)]
def SrcAt (H : Hp) (a c : Addr) : Prop := ∃ (ns : List Int) (l m t : Int), H a = some (.dK (srcD c l m t)) ∧ H c = some (.lst (ns.map V.int))
def Hid.Ok (h : Hid) (H : Hp) : Prop := match h with
  | none => True
  | some p => SrcAt H p.1 p.2
theorem Hid.Ok.there {h : Hid} {H : Hp} {b : Addr} (k : h.Ok H) (hb : h.has b) : ∃ o, H b = some o := by
  cases h with
  | none => exact hb.elim
  | some p =>
    obtain ⟨ns, l, m, t, e1, e2⟩ := k
    rcases hb with rfl | rfl
    · exact ⟨_, e1⟩
    · exact ⟨_, e2⟩
theorem Hid.Ok.keeps {h : Hid} {H H' : Hp} (k : h.Ok H) (e : ∀ b o, h.has b → H b = some o → H' b = some o) : h.Ok H' := by
  cases h with
  | none => trivial
  | some p =>
    obtain ⟨ns, l, m, t, e1, e2⟩ := k
    exact ⟨ns, l, m, t, e _ _ (.inl rfl) e1, e _ _ (.inr rfl) e2⟩

/-! ### heaps: Hb what is known and stays, H what stands -/
structure St0 (hid : Hid) (Hb H : Hp) : Prop where
  ex : Same Hb H
  ok : hid.Ok H
  out : ∀ b, hid.has b → Hb b = none
structure Step (hid : Hid) (Hb H Hb' H' : Hp) : Prop where
  st : St0 hid Hb' H'
  ex : Same Hb Hb'
  new : ∀ b o, Hb' b = some o → Hb b = none → H b = none
  keep : ∀ b o, H b = some o → ¬ hid.has b → H' b = some o
section
variable {hid : Hid} {Hb H Hb1 H1 Hb2 H2 : Hp}
theorem Step.refl (s : St0 hid Hb H) : Step hid Hb H Hb H := ⟨s, Same.refl _, fun b o e n => (by rw [n] at e; cases e), fun _ _ e _ => e⟩
theorem none_back {H H' : Hp} {b : Addr} (k : ∀ o, H b = some o → H' b = some o) (n : H' b = none) : H b = none := by
  cases e : H b with
  | none => rfl
  | some o => rw [k o e] at n; cases n
theorem Step.back (a : Step hid Hb H Hb1 H1) {b : Addr} (n : H1 b = none) : H b = none := by
  by_cases hb : hid.has b
  · obtain ⟨o, e⟩ := a.st.ok.there hb
    rw [e] at n; cases n
  · exact none_back (fun o e => a.keep b o e hb) n
theorem Step.trans (a : Step hid Hb H Hb1 H1) (c : Step hid Hb1 H1 Hb2 H2) : Step hid Hb H Hb2 H2 where
  st := c.st
  ex := a.ex.trans c.ex
  new := fun b o e n => by
    cases q : Hb1 b with
    | some u => exact a.new b u q n
    | none => exact a.back (c.new b o e q)
  keep := fun b o e hb => c.keep b o (a.keep b o e hb) hb
/-- a new object: known from now on -/
theorem Step.laid {p : Addr} {o : HO} (s : St0 hid Hb H) (hp : H p = none) : Step hid Hb H (upd Hb p o) (upd H p o) := by
  have nb : Hb p = none := none_back (fun o e => s.ex p o e) hp
  have np : ¬ hid.has p := fun z => by obtain ⟨o, e⟩ := s.ok.there z; rw [e] at hp; cases hp
  refine ⟨⟨fun b u e => ?_, s.ok.keeps fun b u hb e => ?_, fun b hb => ?_⟩, fun b u e => ?_, fun b u e n => ?_, fun b u e _ => ?_⟩
  · by_cases q : b = p
    · subst q; rw [upd_same] at e ⊢; exact e
    · rw [upd_ne q] at e ⊢; exact s.ex b u e
  · rw [upd_ne (fun q : b = p => np (q ▸ hb))]; exact e
  · rw [upd_ne (fun q : b = p => np (q ▸ hb))]; exact s.out b hb
  · rw [upd_ne (ne_of_none e nb)]; exact e
  · by_cases q : b = p
    · rw [q]; exact hp
    · rw [upd_ne q, n] at e; cases e
  · rw [upd_ne (ne_of_none e hp)]; exact e
/-- a new object, not known: a list of one's own -/
theorem Step.raw {p : Addr} {o : HO} (s : St0 hid Hb H) (hp : H p = none) : Step hid Hb H Hb (upd H p o) := by
  have np : ¬ hid.has p := fun z => by obtain ⟨o, e⟩ := s.ok.there z; rw [e] at hp; cases hp
  refine ⟨⟨fun b u e => ?_, s.ok.keeps fun b u hb e => ?_, s.out⟩, Same.refl _, fun b u e n => (by rw [n] at e; cases e), fun b u e _ => ?_⟩
  · rw [upd_ne (ne_of_none (s.ex b u e) hp)]; exact s.ex b u e
  · rw [upd_ne (fun q : b = p => np (q ▸ hb))]; exact e
  · rw [upd_ne (ne_of_none e hp)]; exact e
end

/-! ### data -/
section
variable {K : PySem.W.Frag} {H H' : Hp}
theorem Same.seqT {a : Addr} {xs : List V} (e : Same H H') (h : SqT K H a xs) : SqT K H' a xs := by
  rcases h with (h | ⟨o, h⟩) | h
  · exact .inl (.inl (e _ _ h))
  · exact .inl (.inr ⟨o, e _ _ h⟩)
  · exact .inr h
def keyD : Key → PyData
  | .inl i => .int i
  | .inr x => .str x
mutual
/-- v stands for the data d: all of it is known in H -/
inductive Dq (K : PySem.W.Frag) (H : Hp) : V → PyData → Prop
  | non : Dq K H .non .none
  | bl (b : Bool) : Dq K H (.bl b) (.bool b)
  | int (i : Int) : Dq K H (.int i) (.int i)
  | str (x : Str) : Dq K H (.str x) (.str x)
  | lst {a : Addr} {xs : List V} {ds : List PyData} : H a = some (.lst xs) → DqAll K H xs ds → Dq K H (.ref a) (.list ds)
  | tup {a : Addr} {xs : List V} {ds : List PyData} : SqT K H a xs → DqAll K H xs ds → Dq K H (.ref a) (.tuple ds)
  | dic {a : Addr} {kvs : List (Key × V)} {ds : List (PyData × PyData)} : H a = some (.dK kvs) → ds.map Prod.fst = kvs.map (fun p => keyD p.1) → DqAll K H (kvs.map Prod.snd) (ds.map Prod.snd) → Dq K H (.ref a) (.dict ds)
inductive DqAll (K : PySem.W.Frag) (H : Hp) : List V → List PyData → Prop
  | nil : DqAll K H [] []
  | cons {v : V} {vs : List V} {d : PyData} {ds : List PyData} : Dq K H v d → DqAll K H vs ds → DqAll K H (v :: vs) (d :: ds)
end
theorem Dq.mono (e : Same H H') {d : PyData} {v : V} (h : Dq K H v d) : Dq K H' v d :=
  Dq.rec (motive_1 := fun v d _ => Dq K H' v d) (motive_2 := fun vs ds _ => DqAll K H' vs ds) .non .bl .int .str (fun h1 _ i => .lst (e _ _ h1) i) (fun h1 _ i => .tup (Same.seqT e h1) i)
    (fun h1 h2 _ i => .dic (e _ _ h1) h2 i) .nil (fun _ _ i1 i2 => .cons i1 i2) h
theorem DqAll.mono (e : Same H H') {ds : List PyData} {vs : List V} (h : DqAll K H vs ds) : DqAll K H' vs ds :=
  DqAll.rec (motive_1 := fun v d _ => Dq K H' v d) (motive_2 := fun vs ds _ => DqAll K H' vs ds) .non .bl .int .str (fun h1 _ i => .lst (e _ _ h1) i) (fun h1 _ i => .tup (Same.seqT e h1) i)
    (fun h1 h2 _ i => .dic (e _ _ h1) h2 i) .nil (fun _ _ i1 i2 => .cons i1 i2) h
theorem DqAll.length : ∀ {ds : List PyData} {vs : List V}, DqAll K H vs ds → vs.length = ds.length
  | [], _, .nil => rfl
  | _ :: _, _, .cons _ h2 => congrArg (· + 1) (DqAll.length h2)
theorem DqAll.get : ∀ {ds : List PyData} {vs : List V} {i : Nat} {v : V}, DqAll K H vs ds → vs[i]? = some v → ∃ d, ds[i]? = some d ∧ Dq K H v d
  | _, _, _, _, .nil, e => by simp at e
  | _, _, 0, _, .cons h _, e => by simp at e; subst e; exact ⟨_, rfl, h⟩
  | _, _, i + 1, _, .cons _ h, e => by
    obtain ⟨d, h1, h2⟩ := DqAll.get (i := i) h (by simpa using e)
    exact ⟨d, by simpa using h1, h2⟩
theorem DqAll.get' : ∀ {ds : List PyData} {vs : List V} {i : Nat} {d : PyData}, DqAll K H vs ds → ds[i]? = some d → ∃ v, vs[i]? = some v ∧ Dq K H v d
  | _, _, _, _, .nil, e => by simp at e
  | _, _, 0, _, .cons h _, e => by simp at e; subst e; exact ⟨_, rfl, h⟩
  | _, _, i + 1, _, .cons _ h, e => by
    obtain ⟨d, h1, h2⟩ := DqAll.get' (i := i) h (by simpa using e)
    exact ⟨d, by simpa using h1, h2⟩
theorem DqAll.append : ∀ {ds es : List PyData} {vs us : List V}, DqAll K H vs ds → DqAll K H us es → DqAll K H (vs ++ us) (ds ++ es)
  | [], _, _, _, .nil, h => h
  | _ :: _, _, _, _, .cons h1 h2, h => .cons h1 (DqAll.append h2 h)
theorem DqAll.take : ∀ {ds : List PyData} {vs : List V} (n : Nat), DqAll K H vs ds → DqAll K H (vs.take n) (ds.take n)
  | _, _, 0, _ => .nil
  | _, _, _ + 1, .nil => .nil
  | _, _, n + 1, .cons h t => .cons h (DqAll.take n t)
theorem DqAll.drop : ∀ {ds : List PyData} {vs : List V} (n : Nat), DqAll K H vs ds → DqAll K H (vs.drop n) (ds.drop n)
  | _, _, 0, h => h
  | _, _, _ + 1, .nil => .nil
  | _, _, n + 1, .cons _ t => DqAll.drop n t
end

/-! ### slots -/
/-- no tuple -/
def NoT (o : HO) : Prop := (∀ xs, o ≠ .tup xs) ∧ ∀ ob xs, o ≠ .frz ob xs
inductive Sl where
  | d (x : PyData) | v (x : V) | own (xs : List PyData) | src | ownD (kvs : List (PyData × PyData)) | ownX (T : Addr → HO → Hp → Prop) | imm (T : Addr → HO → Hp → Prop)
/-- an object of one's own -/
def Sl.isOwn : Sl → Prop
  | .own _ => True
  | .ownD _ => True
  | .ownX _ => True
  | _ => False
/-- a value that everybody may hold -/
def Sl.fz : Sl → Sl
  | .own xs => .d (.list xs)
  | .ownD kvs => .d (.dict kvs)
  | .ownX T => .imm T
  | s => s
abbrev EV := List (Option Sl)
/-- a dict's keys and values -/
def DRel (K : PySem.W.Frag) (H : Hp) (kvs : List (Key × V)) (ds : List (PyData × PyData)) : Prop := ds.map Prod.fst = kvs.map (fun p => keyD p.1) ∧ DqAll K H (kvs.map Prod.snd) (ds.map Prod.snd)
def RepSl (K : PySem.W.Frag) (hid : Hid) (Hb H : Hp) (v : V) : Sl → Prop
  | .d x => Dq K Hb v x
  | .v y => v = y
  | .src => ∃ a c, hid = some (a, c) ∧ v = .ref a
  | .own xs => ∃ p vs, v = .ref p ∧ H p = some (.lst vs) ∧ DqAll K Hb vs xs ∧ Hb p = none ∧ ¬ hid.has p
  | .ownD ds => ∃ p kvs, v = .ref p ∧ H p = some (.dK kvs) ∧ DRel K Hb kvs ds ∧ Hb p = none ∧ ¬ hid.has p
  | .ownX T => ∃ p o, v = .ref p ∧ H p = some o ∧ (NoT o ∧ ∀ Hc, Same Hb Hc → T p o Hc) ∧ Hb p = none ∧ ¬ hid.has p
  | .imm T => ∃ p o, v = .ref p ∧ Hb p = some o ∧ ∀ Hc, Same Hb Hc → T p o Hc
/-- ahead of H a list of one's own was not there -/
def FrSl (H : Hp) (v : V) : Sl → Prop
  | .own _ => ∀ p, v = .ref p → H p = none
  | .ownD _ => ∀ p, v = .ref p → H p = none
  | .ownX _ => ∀ p, v = .ref p → H p = none
  | _ => True
theorem FrSl.back {hid : Hid} {Hb H Hb1 H1 : Hp} {v : V} (a : Step hid Hb H Hb1 H1) : ∀ {s : Sl}, FrSl H1 v s → FrSl H v s
  | .d _, _ => trivial
  | .v _, _ => trivial
  | .src, _ => trivial
  | .own _, h => fun p e => a.back (h p e)
  | .ownD _, h => fun p e => a.back (h p e)
  | .ownX _, h => fun p e => a.back (h p e)
  | .imm _, _ => trivial
section
variable {K : PySem.W.Frag} {hid : Hid} {Hb H Hb1 H1 H0 : Hp} {v : V}
theorem RepSl.step (a : Step hid Hb H Hb1 H1) : ∀ {s : Sl}, RepSl K hid Hb H v s → RepSl K hid Hb1 H1 v s
  | .d _, h => Dq.mono a.ex h
  | .v _, h => h
  | .src, h => h
  | .own xs, ⟨p, vs, e1, e2, e3, e4, e5⟩ => ⟨p, vs, e1, a.keep p _ e2 e5, DqAll.mono a.ex e3, (by
      cases q : Hb1 p with
      | none => rfl
      | some o =>
        have z := a.new p o q e4
        rw [e2] at z; cases z), e5⟩
  | .ownD ds, ⟨p, vs, e1, e2, e3, e4, e5⟩ => ⟨p, vs, e1, a.keep p _ e2 e5, ⟨e3.1, DqAll.mono a.ex e3.2⟩, (by
      cases q : Hb1 p with
      | none => rfl
      | some o =>
        have z := a.new p o q e4
        rw [e2] at z; cases z), e5⟩
  | .ownX T, ⟨p, o, e1, e2, e3, e4, e5⟩ => ⟨p, o, e1, a.keep p _ e2 e5, ⟨e3.1, fun Hc ex => e3.2 Hc (a.ex.trans ex)⟩, (by
      cases q : Hb1 p with
      | none => rfl
      | some o =>
        have z := a.new p o q e4
        rw [e2] at z; cases z), e5⟩
  | .imm T, ⟨p, o, e1, e2, e3⟩ => ⟨p, o, e1, a.ex p o e2, fun Hc ex => e3 Hc (a.ex.trans ex)⟩
/-- a list of one's own becomes everybody's -/
theorem RepSl.fz (st : St0 hid Hb H) : ∀ {s : Sl}, RepSl K hid Hb H v s → FrSl H0 v s → (∀ b, H b = none → H0 b = none) → ∃ Hb1, St0 hid Hb1 H ∧ Same Hb Hb1 ∧ (∀ b o, Hb1 b = some o → Hb b = none → H0 b = none) ∧ RepSl K hid Hb1 H v s.fz
  | .d _, h, _, _ => ⟨Hb, st, Same.refl _, fun b o e n => (by rw [n] at e; cases e), h⟩
  | .v _, h, _, _ => ⟨Hb, st, Same.refl _, fun b o e n => (by rw [n] at e; cases e), h⟩
  | .src, h, _, _ => ⟨Hb, st, Same.refl _, fun b o e n => (by rw [n] at e; cases e), h⟩
  | .imm _, h, _, _ => ⟨Hb, st, Same.refl _, fun b o e n => (by rw [n] at e; cases e), h⟩
  | .ownX T, ⟨p, o, e1, e2, e3, e4, e5⟩, f, _ => by
      have ex : Same Hb (upd Hb p o) := fun b u e => by rw [upd_ne (ne_of_none e e4)]; exact e
      refine ⟨upd Hb p o, ⟨fun b u e => ?_, st.ok, fun b hb => ?_⟩, ex, fun b o e n => ?_, ?_⟩
      · by_cases q : b = p
        · subst q; rw [upd_same] at e; cases e; exact e2
        · rw [upd_ne q] at e; exact st.ex b u e
      · rw [upd_ne (fun q : b = p => e5 (q ▸ hb))]; exact st.out b hb
      · by_cases q : b = p
        · rw [q]; exact f p e1
        · rw [upd_ne q, n] at e; cases e
      · exact ⟨p, o, e1, upd_same, fun Hc x => e3.2 Hc (ex.trans x)⟩
  | .own xs, ⟨p, vs, e1, e2, e3, e4, e5⟩, f, _ => by
      have ex : Same Hb (upd Hb p (.lst vs)) := fun b u e => by rw [upd_ne (ne_of_none e e4)]; exact e
      refine ⟨upd Hb p (.lst vs), ⟨fun b u e => ?_, st.ok, fun b hb => ?_⟩, ex, fun b o e n => ?_, ?_⟩
      · by_cases q : b = p
        · subst q; rw [upd_same] at e; cases e; exact e2
        · rw [upd_ne q] at e; exact st.ex b u e
      · rw [upd_ne (fun q : b = p => e5 (q ▸ hb))]; exact st.out b hb
      · by_cases q : b = p
        · rw [q]; exact f p e1
        · rw [upd_ne q, n] at e; cases e
      · subst e1
        exact .lst upd_same (DqAll.mono ex e3)
  | .ownD ds, ⟨p, vs, e1, e2, e3, e4, e5⟩, f, _ => by
      have ex : Same Hb (upd Hb p (.dK vs)) := fun b u e => by rw [upd_ne (ne_of_none e e4)]; exact e
      refine ⟨upd Hb p (.dK vs), ⟨fun b u e => ?_, st.ok, fun b hb => ?_⟩, ex, fun b o e n => ?_, ?_⟩
      · by_cases q : b = p
        · subst q; rw [upd_same] at e; cases e; exact e2
        · rw [upd_ne q] at e; exact st.ex b u e
      · rw [upd_ne (fun q : b = p => e5 (q ▸ hb))]; exact st.out b hb
      · by_cases q : b = p
        · rw [q]; exact f p e1
        · rw [upd_ne q, n] at e; cases e
      · subst e1
        exact .dic upd_same e3.1 (DqAll.mono ex e3.2)
end

/-! ### a def's state: from the entry (B0, H0) to here; its slots -/
structure Fr where
  hid : Hid
  B0 : Hp
  H0 : Hp
  M0 : Hp
structure Rep (K : PySem.W.Frag) (F : Fr) (Hb H : Hp) (σ : L2.St) (env : EV) : Prop where
  step : Step F.hid F.B0 F.H0 Hb H
  mid : Same F.M0 Hb
  len : env.length = σ.length
  sl : ∀ (i : Nat) (s : Sl), env[i]? = some (some s) → ∃ v, σ[i]? = some (some v) ∧ RepSl K F.hid Hb H v s ∧ FrSl F.H0 v s
  dis : ∀ (i j : Nat) (s u : Sl) (p : Addr), i ≠ j → env[i]? = some (some s) → env[j]? = some (some u) → s.isOwn → u.isOwn → σ[i]? = some (some (.ref p)) → σ[j]? ≠ some (some (.ref p))
section
variable {K : PySem.W.Frag} {F : Fr} {Hb H Hb1 H1 : Hp} {σ : L2.St} {env : EV}
theorem Rep.st (r : Rep K F Hb H σ env) : St0 F.hid Hb H := r.step.st
theorem Rep.on (r : Rep K F Hb H σ env) (a : Step F.hid Hb H Hb1 H1) : Rep K F Hb1 H1 σ env :=
  ⟨r.step.trans a, r.mid.trans a.ex, r.len, fun i s e => let ⟨v, e1, e2, e3⟩ := r.sl i s e; ⟨v, e1, e2.step a, e3⟩, r.dis⟩
/-- a name is stored -/
theorem Rep.set (r : Rep K F Hb H σ env) (a : Step F.hid Hb H Hb1 H1) {v : V} {s : Sl} (h : RepSl K F.hid Hb1 H1 v s) (f : FrSl H v s) (i : Nat) : Rep K F Hb1 H1 (σ.set i (some v)) (env.set i (some s)) := by
  have r1 := r.on a
  refine ⟨r1.step, r1.mid, by simpa using r.len, fun j u e => ?_, fun j k t1 t2 p hjk ej ek o1 o2 sj sk => ?_⟩
  · by_cases hij : i = j
    · subst hij
      have hi : i < env.length := by
        cases Nat.lt_or_ge i env.length with
        | inl h => exact h
        | inr h => rw [List.getElem?_eq_none (by simpa using h)] at e; cases e
      rw [List.getElem?_set_self hi] at e
      cases e
      exact ⟨v, List.getElem?_set_self (by rw [← r.len]; exact hi), h, FrSl.back r.step f⟩
    · rw [List.getElem?_set_ne hij] at e
      obtain ⟨w, e1, e2, e3⟩ := r1.sl j u e
      exact ⟨w, by rw [List.getElem?_set_ne hij]; exact e1, e2, e3⟩
  · -- an own list in slot i is new
    have old : ∀ (m : Nat) (z : Sl) (q : Addr), i ≠ m → env[m]? = some (some z) → z.isOwn → σ[m]? = some (some (.ref q)) → ∃ o, H q = some o := fun m z q hm em oz sm => by
      obtain ⟨w, e1, e2, _⟩ := r.sl m _ em
      rw [sm] at e1; cases e1
      cases z with
      | own zs =>
        obtain ⟨p', vs, e2, e3, _⟩ := e2
        cases e2
        exact ⟨_, e3⟩
      | ownD zs =>
        obtain ⟨p', vs, e2, e3, _⟩ := e2
        cases e2
        exact ⟨_, e3⟩
      | ownX T =>
        obtain ⟨p', vs, e2, e3, _⟩ := e2
        cases e2
        exact ⟨_, e3⟩
      | imm _ => exact oz.elim
      | d x => exact oz.elim
      | v x => exact oz.elim
      | src => exact oz.elim
    have new : ∀ (m : Nat) (z : Sl) (q : Addr), i = m → (env.set i (some s))[m]? = some (some z) → z.isOwn → (σ.set i (some v))[m]? = some (some (.ref q)) → H q = none := fun m z q hm em oz sm => by
      subst hm
      have hi : i < env.length := by
        cases Nat.lt_or_ge i env.length with
        | inl h => exact h
        | inr h => rw [List.getElem?_eq_none (by simpa using h)] at em; cases em
      rw [List.getElem?_set_self hi] at em
      rw [List.getElem?_set_self (by rw [← r.len]; exact hi)] at sm
      cases em; cases sm
      cases s with
      | own zs => exact f q rfl
      | ownD zs => exact f q rfl
      | ownX zs => exact f q rfl
      | imm _ => exact oz.elim
      | d x => exact oz.elim
      | v x => exact oz.elim
      | src => exact oz.elim
    by_cases hij : i = j
    · have hik : i ≠ k := fun z => hjk (hij.symm.trans z)
      have z1 := new j t1 p hij ej o1 sj
      rw [List.getElem?_set_ne hik] at ek sk
      obtain ⟨o, z2⟩ := old k t2 p hik ek o2 sk
      rw [z1] at z2; cases z2
    · by_cases hik : i = k
      · have z1 := new k t2 p hik ek o2 sk
        rw [List.getElem?_set_ne hij] at ej sj
        obtain ⟨o, z2⟩ := old j t1 p hij ej o1 sj
        rw [z1] at z2; cases z2
      · rw [List.getElem?_set_ne hij] at ej sj
        rw [List.getElem?_set_ne hik] at ek sk
        exact r.dis j k t1 t2 p hjk ej ek o1 o2 sj sk
/-- a name forgotten -/
theorem Rep.forget (r : Rep K F Hb H σ env) (i : Nat) (o : Option V) : Rep K F Hb H (σ.set i o) (env.set i none) := by
  have look : ∀ (j : Nat) (s : Sl), (env.set i none)[j]? = some (some s) → i ≠ j ∧ env[j]? = some (some s) := fun j s e => by
    by_cases hij : i = j
    · subst hij
      rw [List.getElem?_set] at e
      split at e
      · split at e <;> cases e
      · rename_i h; exact (h rfl).elim
    · rw [List.getElem?_set_ne hij] at e
      exact ⟨hij, e⟩
  refine ⟨r.step, r.mid, by simpa using r.len, fun j u e => ?_, fun j k t1 t2 p hjk ej ek o1 o2 sj sk => ?_⟩
  · obtain ⟨h1, h2⟩ := look j u e
    obtain ⟨w, e1, e2⟩ := r.sl j u h2
    exact ⟨w, by rw [List.getElem?_set_ne h1]; exact e1, e2⟩
  · obtain ⟨h1, h2⟩ := look j _ ej
    obtain ⟨h3, h4⟩ := look k _ ek
    rw [List.getElem?_set_ne h1] at sj
    rw [List.getElem?_set_ne h3] at sk
    exact r.dis j k t1 t2 p hjk h2 h4 o1 o2 sj sk
end
end Pu

end

section
/-! Pu1: the judgements. A reading te of the hand layer is followed by a plain one t. -/
namespace Pu
open PySem L2

abbrev DK := Sl → Prop
abbrev DTE := EV → DK → Prop
abbrev DTT := EV → (Bool → Prop) → Prop
abbrev DTA := EV → (List Sl → Prop) → Prop
/-- values that everybody may hold -/
inductive RepAll (K : PySem.W.Frag) (hid : Hid) (Hb H : Hp) : List V → List Sl → Prop
  | nil : RepAll K hid Hb H [] []
  | cons {v : V} {vs : List V} {s : Sl} {ss : List Sl} : RepSl K hid Hb H v s → s.fz = s → RepAll K hid Hb H vs ss → RepAll K hid Hb H (v :: vs) (s :: ss)
section
variable (K : PySem.W.Frag) (F : Fr)
def SdE (te : TE) (t : DTE) : Prop := ∀ (Hb H : Hp) (σ : L2.St) (env : EV) (Q : DK) (k : VK), Rep K F Hb H σ env → t env Q →
  (∀ v Hb' H' s, Step F.hid Hb H Hb' H' → RepSl K F.hid Hb' H' v s → FrSl H v s → Q s → k v H') → te σ H k
def SdT (tt : TT) (t : DTT) : Prop := ∀ (Hb H : Hp) (σ : L2.St) (env : EV) (Q : Bool → Prop) (k : Bool → Hp → Prop), Rep K F Hb H σ env → t env Q →
  (∀ b Hb' H', Step F.hid Hb H Hb' H' → Q b → k b H') → tt σ H k
def SdA (ta : TA) (t : DTA) : Prop := ∀ (Hb H : Hp) (σ : L2.St) (env : EV) (Q : List Sl → Prop) (k : List V → Hp → Prop), Rep K F Hb H σ env → t env Q →
  (∀ vs Hb' H' ss, Step F.hid Hb H Hb' H' → RepAll K F.hid Hb' H' vs ss → Q ss → k vs H') → ta σ H k
end
structure DE (X : Cx) (F : Fr) (e : Expr) (te : TE) (t : DTE) : Prop where
  pe : PE X e te
  sd : SdE X.K F te t
structure DT (X : Cx) (F : Fr) (e : Expr) (te : TT) (t : DTT) : Prop where
  pe : PT X e te
  sd : SdT X.K F te t
structure DW (X : Cx) (F : Fr) (e : Expr) (te : TT) (t : DTT) : Prop where
  pe : PW X e te
  sd : SdT X.K F te t
structure DA (X : Cx) (F : Fr) (es : List Expr) (te : TA) (t : DTA) : Prop where
  pe : PA X es te
  sd : SdA X.K F te t
theorem fz_fz (s : Sl) : s.fz.fz = s.fz := by cases s <;> rfl
theorem fr_fz {H : Hp} {v : V} (s : Sl) : FrSl H v s.fz := by cases s <;> trivial
theorem fr_of {H : Hp} {v : V} {s : Sl} (e : s.fz = s) : FrSl H v s := e ▸ fr_fz s
section
variable {K : PySem.W.Frag} {F : Fr} {hid : Hid} {te ta tb : TE} {t fa fb : DTE}
theorem RepAll.step {Hb H Hb1 H1 : Hp} (a : Step hid Hb H Hb1 H1) : ∀ {vs : List V} {ss : List Sl}, RepAll K hid Hb H vs ss → RepAll K hid Hb1 H1 vs ss
  | _, _, .nil => .nil
  | _, _, .cons h e t => .cons (h.step a) e (RepAll.step a t)
theorem SdE.go (h : SdE K F te t) {Hb H : Hp} {σ : L2.St} {env : EV} {Q : DK} {k : VK} (r : Rep K F Hb H σ env) (q : t env fun s => Q s.fz)
    (c : ∀ v Hb' H' s, Step F.hid Hb H Hb' H' → RepSl K F.hid Hb' H' v s → s.fz = s → Q s → k v H') : te σ H k := by
  refine h Hb H σ env _ k r q fun v Hb' H' s st rs f q => ?_
  obtain ⟨Hb1, st1, ex, new, rep⟩ := RepSl.fz st.st rs f fun b n => st.back n
  refine c v Hb1 H' s.fz ⟨st1, st.ex.trans ex, fun b o e n => ?_, st.keep⟩ rep (fz_fz s) q
  cases z : Hb' b with
  | some u => exact st.new b u z n
  | none => exact new b o e z
theorem SdE.fz (h : SdE K F te t) : SdE K F te (fun env Q => t env fun s => Q s.fz) := fun Hb H σ env Q k r q c =>
  h.go r q fun v Hb' H' s st rs e q => c v Hb' H' s st rs (fr_of e) q
theorem DE.fz {X : Cx} {e : Expr} (h : DE X F e te t) : DE X F e te (fun env Q => t env fun s => Q s.fz) := ⟨h.pe, (h.sd).fz⟩

/-! ### names, constants -/
def dVar (i : Nat) : DTE := fun env Q => match env[i]? with
  | some (some (.d x)) => Q (.d x)
  | some (some (.v y)) => Q (.v y)
  | some (some .src) => Q .src
  | _ => False
theorem sd_var (i : Nat) : SdE K F (tVar i) (dVar i) := by
  intro Hb H σ env Q k r q c
  unfold dVar at q
  split at q
  · rename_i x e
    obtain ⟨v, e1, e2, e3⟩ := r.sl i _ e
    exact ⟨v, e1, c v Hb H _ (Step.refl r.st) e2 trivial q⟩
  · rename_i y e
    obtain ⟨v, e1, e2, e3⟩ := r.sl i _ e
    exact ⟨v, e1, c v Hb H _ (Step.refl r.st) e2 trivial q⟩
  · rename_i e
    obtain ⟨v, e1, e2, e3⟩ := r.sl i _ e
    exact ⟨v, e1, c v Hb H .src (Step.refl r.st) e2 trivial q⟩
  · exact q.elim
def dC (x : PyData) : DTE := fun _ Q => Q (.d x)
def dV (y : V) : DTE := fun _ Q => Q (.v y)
theorem sd_c {v : V} {x : PyData} (h : ∀ Hb : Hp, Dq K Hb v x) : SdE K F (tC v) (dC x) := by
  intro Hb H σ env Q k r q c
  exact c v Hb H (.d x) (Step.refl r.st) (h Hb) trivial q
theorem sd_v {v : V} : SdE K F (tC v) (dV v) := by
  intro Hb H σ env Q k r q c
  exact c v Hb H (.v v) (Step.refl r.st) rfl trivial q
end
section
variable {X : Cx} {F : Fr}
theorem de_v (i : Nat) {x : Str} {pos : Pos} (hN : X.N[i]? = some x := by rfl) (hv : Vis X.env.scope x := by first | exact Or.inl rfl | exact Or.inr (Or.inl rfl) | exact Or.inr (Or.inr rfl)) (hd : (x == ("__debug__" : Str)) = false := by decide)
    (hcd : (x == ("__classdict__" : Str)) = false := by decide) : DE X F (.Name x pos) (tVar i) (dVar i) := ⟨pe_var hN hv hd hcd, sd_var i⟩
theorem de_int {i j pos} : DE X F (.Constant (.int i) j pos) (tC (.int i)) (dC (.int i)) := ⟨pe_int, sd_c fun _ => .int i⟩
theorem de_bl {b j pos} : DE X F (.Constant (.bool b) j pos) (tC (.bl b)) (dC (.bool b)) := ⟨pe_bl, sd_c fun _ => .bl b⟩
theorem de_non {j pos} : DE X F (.Constant .none j pos) (tC .non) (dC .none) := ⟨pe_non, sd_c fun _ => .non⟩
theorem de_str {x j pos} : DE X F (.Constant (.str x) j pos) (tC (.str x)) (dC (.str x)) := ⟨pe_str, sd_c fun _ => .str x⟩
/-- a module's constant that is an int or a text; a class, a def -/
theorem de_globI {x : Str} {i : Int} {u : Tok} {pos : Pos} (hm : X.mg x = some (.int i u)) (hg : Gl X x := by rfl) (hd : (x == ("__debug__" : Str)) = false := by decide) : DE X F (.Name x pos) (tC (.int i)) (dC (.int i)) := ⟨pe_glob hg hm ⟨u, rfl⟩ hd, sd_c fun _ => .int i⟩
theorem de_bltn {x : Str} {n : String} {pos : Pos} (hm : X.mg x = none) (hv : bootBuiltins x = some (.type n) := by decide +kernel) (hg : Gl X x := by rfl) (hn : x ≠ "__name__" := by decide) (hd : (x == ("__debug__" : Str)) = false := by decide) : DE X F (.Name x pos) (tC (.ty n)) (dV (.ty n)) := ⟨pe_bltn hg hm hv rfl hn hd, sd_v⟩
end

/-! ### operators by values -/
section
variable (K : PySem.W.Frag) (hid : Hid)
abbrev F2 := Sl → Sl → DK → Prop
abbrev F1 := Sl → DK → Prop
abbrev FN := List Sl → DK → Prop
def LO (r : R2) (f : F2) : Prop := ∀ (Hb H : Hp) (x y : V) (s u : Sl) (Q : DK) (k : VK), St0 hid Hb H → RepSl K hid Hb H x s → RepSl K hid Hb H y u → f s u Q →
  (∀ v Hb' H' s', Step hid Hb H Hb' H' → RepSl K hid Hb' H' v s' → FrSl H v s' → Q s' → k v H') → r x y H k
def LU (r : V → Hp → VK → Prop) (f : F1) : Prop := ∀ (Hb H : Hp) (x : V) (s : Sl) (Q : DK) (k : VK), St0 hid Hb H → RepSl K hid Hb H x s → f s Q →
  (∀ v Hb' H' s', Step hid Hb H Hb' H' → RepSl K hid Hb' H' v s' → FrSl H v s' → Q s' → k v H') → r x H k
def LC (r : List V → Hp → VK → Prop) (f : FN) : Prop := ∀ (Hb H : Hp) (xs : List V) (ss : List Sl) (Q : DK) (k : VK), St0 hid Hb H → RepAll K hid Hb H xs ss → f ss Q →
  (∀ v Hb' H' s', Step hid Hb H Hb' H' → RepSl K hid Hb' H' v s' → FrSl H v s' → Q s' → k v H') → r xs H k
end
def dOp (f : F2) (fa fb : DTE) : DTE := fun env Q => fa env fun s => fb env fun u => f s.fz u.fz Q
def dUn (f : F1) (fa : DTE) : DTE := fun env Q => fa env fun s => f s.fz Q
def dCall (f : FN) (fa : DTA) : DTE := fun env Q => fa env fun ss => f ss Q
section
variable {K : PySem.W.Frag} {F : Fr} {ta tb tc : TE} {fa fb fc : DTE} {r r' : R2} {f f' : F2}
theorem sd_op (lo : LO K F.hid r f) (ha : SdE K F ta fa) (hb : SdE K F tb fb) : SdE K F (tOp r ta tb) (dOp f fa fb) := by
  intro Hb H σ env Q k rp q c
  refine ha.go (Q := fun s => fb env fun u => f s u.fz Q) rp q fun x Hb1 H1 s st1 rs1 _ q1 => ?_
  refine hb.go (Q := fun u => f s u Q) (rp.on st1) q1 fun y Hb2 H2 u st2 rs2 _ q2 => ?_
  exact lo Hb2 H2 x y s u Q k st2.st (rs1.step st2) rs2 q2 fun v Hb' H' s' st3 r3 f3 q3 => c v Hb' H' s' ((st1.trans st2).trans st3) r3 (FrSl.back (st1.trans st2) f3) q3
theorem sd_un {r : V → Hp → VK → Prop} {f : F1} (lo : LU K F.hid r f) (ha : SdE K F ta fa) : SdE K F (tUn r ta) (dUn f fa) := by
  intro Hb H σ env Q k rp q c
  refine ha.go (Q := fun s => f s Q) rp q fun x Hb1 H1 s st1 rs1 _ q1 => ?_
  exact lo Hb1 H1 x s Q k st1.st rs1 q1 fun v Hb' H' s' st3 r3 f3 q3 => c v Hb' H' s' (st1.trans st3) r3 (FrSl.back st1 f3) q3
theorem sd_nil : SdA K F tNil (fun _ Q => Q []) := by
  intro Hb H σ env Q k r q c
  exact c [] Hb H [] (Step.refl r.st) .nil q
def dCons (fa : DTE) (fr : DTA) : DTA := fun env Q => fa env fun s => fr env fun ss => Q (s.fz :: ss)
theorem sd_cons {tr : TA} {fr : DTA} (ha : SdE K F ta fa) (hr : SdA K F tr fr) : SdA K F (tCons ta tr) (dCons fa fr) := by
  intro Hb H σ env Q k rp q c
  refine ha.go (Q := fun s => fr env fun ss => Q (s :: ss)) rp q fun x Hb1 H1 s st1 rs1 e1 q1 => ?_
  refine hr Hb1 H1 σ env (fun ss => Q (s :: ss)) _ (rp.on st1) q1 fun vs Hb2 H2 ss st2 rs2 q2 => ?_
  exact c _ Hb2 H2 (s :: ss) (st1.trans st2) (.cons (rs1.step st2) e1 rs2) q2
theorem sd_call {r : List V → Hp → VK → Prop} {f : FN} {tr : TA} {fr : DTA} (lo : LC K F.hid r f) (hr : SdA K F tr fr) : SdE K F (tCB r tr) (dCall f fr) := by
  intro Hb H σ env Q k rp q c
  refine hr Hb H σ env _ _ rp q fun vs Hb1 H1 ss st1 rs1 q1 => ?_
  exact lo Hb1 H1 vs ss Q k st1.st rs1 q1 fun v Hb' H' s' st3 r3 f3 q3 => c v Hb' H' s' (st1.trans st3) r3 (FrSl.back st1 f3) q3
end
end Pu

end

section
/-! Pu2: tests, statements, targets, loops. -/
namespace Pu
open PySem L2

/-! ### tests -/
def dTest (f : DTE) : DTT := fun env Q => f env fun s => ∃ b, s.fz = .d (.bool b) ∧ Q b
def dAnd (t u : DTT) : DTT := fun env Q => t env fun c => if c = true then u env Q else Q false
def dOr (t u : DTT) : DTT := fun env Q => t env fun c => if c = true then Q true else u env Q
def dNot (t : DTT) : DTT := fun env Q => t env fun c => Q (!c)
def dOrV (fa fb : DTE) : DTE := fun env Q => fa env fun s => ∃ b, s.fz = .d (.bool b) ∧ if b = true then Q (.d (.bool true)) else fb env Q
def dIfE (t : DTT) (fa fb : DTE) : DTE := fun env Q => t env fun c => if c = true then fa env Q else fb env Q
section
variable {K : PySem.W.Frag} {F : Fr} {hid : Hid} {ta tb : TE} {fa fb : DTE} {t u : TT} {ft fu : DTT}
theorem bool_of {Hb H : Hp} {x : V} {s : Sl} {b : Bool} (h : RepSl K hid Hb H x s) (e : s = .d (.bool b)) : x = .bl b := by
  subst e
  cases (show Dq K Hb x (.bool b) from h)
  rfl
theorem sd_test (h : SdE K F ta fa) : SdT K F (tTest ta) (dTest fa) := by
  intro Hb H σ env Q k rp q c
  refine h.go (Q := fun s => ∃ b, s = .d (.bool b) ∧ Q b) rp q fun x Hb1 H1 s st1 rs1 _ q1 => ?_
  obtain ⟨b, e, q1⟩ := q1
  exact ⟨b, bool_of rs1 e, c b Hb1 H1 st1 q1⟩
theorem sd_B (h : SdE K F ta fa) : SdT K F (tB ta) (dTest fa) := sd_test h
theorem sd_and (h1 : SdT K F t ft) (h2 : SdT K F u fu) : SdT K F (tAnd t u) (dAnd ft fu) := by
  intro Hb H σ env Q k rp q c
  refine h1 Hb H σ env _ _ rp q fun b Hb1 H1 st1 q1 => ?_
  cases b with
  | true => exact h2 Hb1 H1 σ env Q k (rp.on st1) q1 fun b2 Hb2 H2 st2 q2 => c b2 Hb2 H2 (st1.trans st2) q2
  | false => exact c false Hb1 H1 st1 q1
theorem sd_or (h1 : SdT K F t ft) (h2 : SdT K F u fu) : SdT K F (tOr t u) (dOr ft fu) := by
  intro Hb H σ env Q k rp q c
  refine h1 Hb H σ env _ _ rp q fun b Hb1 H1 st1 q1 => ?_
  cases b with
  | true => exact c true Hb1 H1 st1 q1
  | false => exact h2 Hb1 H1 σ env Q k (rp.on st1) q1 fun b2 Hb2 H2 st2 q2 => c b2 Hb2 H2 (st1.trans st2) q2
theorem sd_not (h1 : SdT K F t ft) : SdT K F (tNot t) (dNot ft) := by
  intro Hb H σ env Q k rp q c
  exact h1 Hb H σ env _ _ rp q fun b Hb1 H1 st1 q1 => c (!b) Hb1 H1 st1 q1
theorem sd_orV (h1 : SdE K F ta fa) (h2 : SdE K F tb fb) : SdE K F (tOrV ta tb) (dOrV fa fb) := by
  intro Hb H σ env Q k rp q c
  refine h1.go (Q := fun s => ∃ b, s = .d (.bool b) ∧ if b = true then Q (.d (.bool true)) else fb env Q) rp q fun x Hb1 H1 s st1 rs1 _ q1 => ?_
  obtain ⟨b, e, q1⟩ := q1
  refine ⟨b, bool_of rs1 e, ?_⟩
  cases b with
  | false => exact h2 Hb1 H1 σ env Q k (rp.on st1) q1 fun v Hb2 H2 s2 st2 r2 f2 q2 => c v Hb2 H2 s2 (st1.trans st2) r2 (FrSl.back st1 f2) q2
  | true => exact c (.bl true) Hb1 H1 (.d (.bool true)) st1 (Dq.bl true) trivial q1
theorem sd_ifE (h : SdT K F t ft) (h1 : SdE K F ta fa) (h2 : SdE K F tb fb) : SdE K F (tIf t ta tb) (dIfE ft fa fb) := by
  intro Hb H σ env Q k rp q c
  refine h Hb H σ env _ _ rp q fun b Hb1 H1 st1 q1 => ?_
  cases b with
  | true => exact h1 Hb1 H1 σ env Q k (rp.on st1) q1 fun v Hb2 H2 s2 st2 r2 f2 q2 => c v Hb2 H2 s2 (st1.trans st2) r2 (FrSl.back st1 f2) q2
  | false => exact h2 Hb1 H1 σ env Q k (rp.on st1) q1 fun v Hb2 H2 s2 st2 r2 f2 q2 => c v Hb2 H2 s2 (st1.trans st2) r2 (FrSl.back st1 f2) q2
end

/-! ### statements -/
structure DEnds where
  nx : EV → Prop
  rt : Sl → Prop
  bk : EV → Prop := fun _ => False
  ct : EV → Prop := fun _ => False
abbrev DTS := DEnds → EV → Prop
section
variable (K : PySem.W.Frag) (F : Fr)
structure Lk (Hb : Hp) (D : Ends) (E : DEnds) : Prop where
  nx : ∀ Hb' H σ env, Same Hb Hb' → Rep K F Hb' H σ env → E.nx env → D.nx σ H
  bk : ∀ Hb' H σ env, Same Hb Hb' → Rep K F Hb' H σ env → E.bk env → D.bk σ H
  ct : ∀ Hb' H σ env, Same Hb Hb' → Rep K F Hb' H σ env → E.ct env → D.ct σ H
  rt : ∀ v Hb' H s, Same Hb Hb' → Step F.hid F.B0 F.H0 Hb' H → RepSl K F.hid Hb' H v s → FrSl F.H0 v s → E.rt s → D.rt v H
def SdS (ts : TS) (t : DTS) : Prop := ∀ (Hb H : Hp) (σ : L2.St) (env : EV) (D : Ends) (E : DEnds), Rep K F Hb H σ env → t E env → Lk K F Hb D E → ts D σ H
end
structure DS (X : Cx) (F : Fr) (st : Stmt) (ts : TS) (t : DTS) : Prop where
  pe : PS X st ts
  sd : SdS X.K F ts t
structure DSs (X : Cx) (F : Fr) (st : List Stmt) (ts : TS) (t : DTS) : Prop where
  pe : PSs X st ts
  sd : SdS X.K F ts t
def dNext : DTS := fun E env => E.nx env
def dSeq (t u : DTS) : DTS := fun E env => t { E with nx := u E } env
def dRet (t : DTE) : DTS := fun E env => t env E.rt
def dIf (c : DTT) (t u : DTS) : DTS := fun E env => c env fun b => if b = true then t E env else u E env
def dSet (t : DTE) (i : Nat) : DTS := fun E env => t env fun s => E.nx (env.set i (some s))
section
variable {K : PySem.W.Frag} {F : Fr} {hid : Hid} {te ta : TE} {fa : DTE} {t u : TS} {ft fu : DTS} {c : TT} {fc : DTT}
theorem Lk.on {Hb Hb1 : Hp} {D : Ends} {E : DEnds} (l : Lk K F Hb D E) (e : Same Hb Hb1) : Lk K F Hb1 D E :=
  ⟨fun Hb' H σ env s => l.nx Hb' H σ env (e.trans s), fun Hb' H σ env s => l.bk Hb' H σ env (e.trans s), fun Hb' H σ env s => l.ct Hb' H σ env (e.trans s), fun v Hb' H s z => l.rt v Hb' H s (e.trans z)⟩
theorem sd_next : SdS K F tNext dNext := fun Hb H σ env D E r q l => l.nx Hb H σ env (Same.refl _) r q
theorem sd_seq (h1 : SdS K F t ft) (h2 : SdS K F u fu) : SdS K F (tSeq t u) (dSeq ft fu) := by
  intro Hb H σ env D E r q l
  exact h1 Hb H σ env { D with nx := u D } { E with nx := fu E } r q ⟨fun Hb' H σ env s r q => h2 Hb' H σ env D E r q (l.on s), l.bk, l.ct, l.rt⟩
theorem sd_ret (h : SdE K F te fa) : SdS K F (tRet te) (dRet fa) := by
  intro Hb H σ env D E r q l
  exact h Hb H σ env E.rt D.rt r q fun v Hb' H' s st rs f q => l.rt v Hb' H' s st.ex (r.step.trans st) rs (FrSl.back r.step f) q
theorem sd_if (hc : SdT K F c fc) (h1 : SdS K F t ft) (h2 : SdS K F u fu) : SdS K F (tIfS c t u) (dIf fc ft fu) := by
  intro Hb H σ env D E r q l
  refine hc Hb H σ env _ _ r q fun b Hb1 H1 st1 q1 => ?_
  cases b with
  | true => exact h1 Hb1 H1 σ env D E (r.on st1) q1 (l.on st1.ex)
  | false => exact h2 Hb1 H1 σ env D E (r.on st1) q1 (l.on st1.ex)
theorem sd_set (i : Nat) (h : SdE K F te fa) : SdS K F (tAsg te (gName i)) (dSet fa i) := by
  intro Hb H σ env D E r q l
  exact h Hb H σ env _ _ r q fun v Hb' H' s st rs f q => l.nx Hb' H' _ _ st.ex (r.set st rs f i) q
end

/-! ### targets -/
abbrev DTG := Sl → EV → (EV → Prop) → Prop
abbrev DTGs := List PyData → EV → (EV → Prop) → Prop
/-- what a target may change: the names js -/
def Off (js : List Nat) (σ σ' : L2.St) : Prop := σ'.length = σ.length ∧ ∀ i, i ∉ js → σ'[i]? = σ[i]?
section
variable (K : PySem.W.Frag) (F : Fr)
def SdG (js : List Nat) (g : TG) (t : DTG) : Prop := ∀ (Hb H : Hp) (σ : L2.St) (env : EV) (v : V) (s : Sl) (Q : EV → Prop) (k : L2.St → Hp → Prop), Rep K F Hb H σ env → RepSl K F.hid Hb H v s → s.fz = s → t s env Q →
  (∀ σ' env', Off js σ σ' → Rep K F Hb H σ' env' → Q env' → k σ' H) → g v σ H k
def SdGs (js : List Nat) (g : TGs) (t : DTGs) : Prop := ∀ (Hb H : Hp) (σ : L2.St) (env : EV) (vs : List V) (ds : List PyData) (Q : EV → Prop) (k : L2.St → Hp → Prop), Rep K F Hb H σ env → DqAll K Hb vs ds → t ds env Q →
  (∀ σ' env', Off js σ σ' → Rep K F Hb H σ' env' → Q env' → k σ' H) → g vs σ H k
end
theorem Off.refl (js : List Nat) (σ : L2.St) : Off js σ σ := ⟨rfl, fun _ _ => rfl⟩
theorem Off.set {js : List Nat} {σ : L2.St} {i : Nat} (h : i ∈ js) (o : Option V) : Off js σ (σ.set i o) := ⟨by simp, fun j hj => List.getElem?_set_ne fun e : i = j => hj (e ▸ h)⟩
theorem Off.trans {js : List Nat} {a b c : L2.St} (x : Off js a b) (y : Off js b c) : Off js a c := ⟨y.1.trans x.1, fun i hi => (y.2 i hi).trans (x.2 i hi)⟩
def dgName (i : Nat) : DTG := fun s env Q => Q (env.set i (some s))
def dgNil : DTGs := fun ds env Q => ds = [] ∧ Q env
def dgCons (t : DTG) (u : DTGs) : DTGs := fun ds env Q => ∃ d r, ds = d :: r ∧ t (.d d) env fun env' => u r env' Q
def dgTup (n : Nat) (t : DTGs) : DTG := fun s env Q => ∃ ds, s = .d (.tuple ds) ∧ ds.length = n ∧ t ds env Q
section
variable {K : PySem.W.Frag} {F : Fr} {hid : Hid} {js : List Nat}
theorem sg_name (i : Nat) (hi : i ∈ js) : SdG K F js (gName i) (dgName i) := fun Hb H σ env v s Q k r rs e q c =>
  c _ _ (Off.set hi _) (r.set (Step.refl r.st) rs (fr_of e) i) q
theorem sg_nil : SdGs K F js gNil dgNil := fun Hb H σ env vs ds Q k r rs q c => by
  obtain ⟨e, q⟩ := q
  subst e
  cases rs
  exact ⟨rfl, c σ env (Off.refl _ _) r q⟩
theorem sg_cons {g : TG} {gs : TGs} {t : DTG} {u : DTGs} (h1 : SdG K F js g t) (h2 : SdGs K F js gs u) : SdGs K F js (gCons g gs) (dgCons t u) := fun Hb H σ env vs ds Q k r rs q c => by
  obtain ⟨d, rr, e, q⟩ := q
  subst e
  cases rs with
  | cons h t' =>
    refine ⟨_, _, rfl, ?_⟩
    refine h1 Hb H σ env _ (.d d) _ _ r h rfl q fun σ1 env1 o1 r1 q1 => ?_
    exact h2 Hb H σ1 env1 _ rr Q _ r1 t' q1 fun σ2 env2 o2 r2 q2 => c σ2 env2 (o1.trans o2) r2 q2
theorem sg_tup {n : Nat} {gs : TGs} {u : DTGs} (h : SdGs K F js gs u) : SdG K F js (gTup K n gs) (dgTup n u) := fun Hb H σ env v s Q k r rs e q c => by
  obtain ⟨ds, e1, hl, q⟩ := q
  subst e1
  cases (show Dq K Hb v (.tuple ds) from rs) with
  | tup h1 h2 => exact ⟨_, _, rfl, Same.seqT r.st.ex h1, by rw [DqAll.length h2]; exact hl, h Hb H σ env _ ds Q k r h2 q c⟩
end

/-! ### what is walked -/
abbrev DTI := EV → (List PyData → Prop) → Prop
section
variable (K : PySem.W.Frag) (hid : Hid) (F : Fr)
/-- from Hb on the walk J gives the data ys -/
structure Gives (Hb : Hp) (J : It) (ys : List PyData) : Prop where
  ex : ∃ (G : Hp → Prop) (Y : Nat → Hp → V → Hp → Prop), Walk J ys.length G Y ∧ (∀ H, Same Hb H → G H) ∧
    ∀ i Hb' H x H', i < ys.length → St0 hid Hb' H → Same Hb Hb' → Y i H x H' → ∃ Hb2 d, ys[i]? = some d ∧ Step hid Hb' H Hb2 H' ∧ Dq K Hb2 x d
def SdI (wi : TI) (t : DTI) : Prop := ∀ (Hb H : Hp) (σ : L2.St) (env : EV) (Q : List PyData → Prop) (R : It → Hp → Prop), Rep K F Hb H σ env → t env Q →
  (∀ J Hb' H' ys, Step F.hid Hb H Hb' H' → Gives K F.hid Hb' J ys → Q ys → R J H') → wi σ H R
end
structure DI (X : Cx) (F : Fr) (tg e : Expr) (wi : TI) (t : DTI) : Prop where
  pe : PI X tg e wi
  sd : SdI X.K F wi t
/-- a list, a tuple -/
def dList (f : DTE) : DTI := fun env Q => f env fun s => ∃ xs, s.fz = .d (.list xs) ∧ Q xs
def dTup (f : DTE) : DTI := fun env Q => f env fun s => ∃ xs, s.fz = .d (.tuple xs) ∧ Q xs
def rngD (lo : Int) (n : Nat) : List PyData := (List.range n).map fun i => .int (lo + (i : Nat))
def dRng1 (f : DTA) : DTI := fun env Q => f env fun ss => ∃ j : Int, ss = [.d (.int j)] ∧ (-(2 ^ 62) ≤ j ∧ j < 2 ^ 62) ∧ Q (rngD 0 j.toNat)
def dStrI (f : DTE) : DTI := fun env Q => f env fun s => ∃ z : Str, s.fz = .d (.str z) ∧ Q (z.cps.toList.map fun c => .str ⟨#[c]⟩)
section
variable {K : PySem.W.Frag} {F : Fr} {hid : Hid} {ta : TE} {fa : DTE} {tr : TA} {fr : DTA}
theorem gives_at {Hb : Hp} {J : It} {vs : List V} {ys : List PyData} {G : Hp → Prop} (w : Walk J vs.length G (YAt vs)) (hG : ∀ H, Same Hb H → G H) (h : DqAll K Hb vs ys) : Gives K hid Hb J ys := by
  refine ⟨G, YAt vs, by rw [← DqAll.length h]; exact w, hG, fun i Hb' H x H' hi st ex y => ?_⟩
  obtain ⟨e1, e2⟩ := y
  subst e1
  obtain ⟨d, h1, h2⟩ := DqAll.get h e2
  exact ⟨Hb', d, h1, Step.refl st, Dq.mono ex h2⟩
theorem si_list (h : SdE K F ta fa) : SdI K F (iList K ta) (dList fa) := by
  intro Hb H σ env Q R rp q c
  refine h.go (Q := fun s => ∃ xs, s = .d (.list xs) ∧ Q xs) rp q fun x Hb1 H1 s st1 rs1 _ q1 => ?_
  obtain ⟨xs, e, q1⟩ := q1
  subst e
  cases (show Dq K Hb1 x (.list xs) from rs1) with
  | lst h1 h2 => exact ⟨_, rfl, ⟨_, SqL.of (st1.st.ex _ _ h1)⟩, c _ Hb1 H1 xs st1 (gives_at walk_list (fun H' s => SqL.of (s _ _ h1)) h2) q1⟩
theorem si_tup (h : SdE K F ta fa) : SdI K F (iTup K ta) (dTup fa) := by
  intro Hb H σ env Q R rp q c
  refine h.go (Q := fun s => ∃ xs, s = .d (.tuple xs) ∧ Q xs) rp q fun x Hb1 H1 s st1 rs1 _ q1 => ?_
  obtain ⟨xs, e, q1⟩ := q1
  subst e
  cases (show Dq K Hb1 x (.tuple xs) from rs1) with
  | tup h1 h2 => exact ⟨_, rfl, ⟨_, Same.seqT st1.st.ex h1⟩, c _ Hb1 H1 xs st1 (gives_at walk_tup (fun H' s => Same.seqT s h1) h2) q1⟩
theorem gives_rng {Hb : Hp} (lo : Int) (n : Nat) : Gives K hid Hb (Itr lo n) (rngD lo n) := by
  have hl : (rngD lo n).length = n := by simp [rngD]
  refine ⟨fun _ => True, _, by rw [hl]; exact walk_range, fun _ _ => trivial, fun i Hb' H x H' hi st ex y => ?_⟩
  obtain ⟨e1, e2⟩ := y
  subst e1 e2
  exact ⟨Hb', .int (lo + (i : Nat)), by rw [hl] at hi; simp [rngD, hi], Step.refl st, .int _⟩
theorem int_of {Hb H : Hp} {x : V} {i : Int} (h : RepSl K hid Hb H x (.d (.int i))) : x = .int i := by
  cases (show Dq K Hb x (.int i) from h)
  rfl
theorem str_of {Hb H : Hp} {x : V} {i : Str} (h : RepSl K hid Hb H x (.d (.str i))) : x = .str i := by
  cases (show Dq K Hb x (.str i) from h)
  rfl
theorem si_rng1 (h : SdA K F tr fr) : SdI K F (iRng1 tr) (dRng1 fr) := by
  intro Hb H σ env Q R rp q c
  refine h Hb H σ env _ _ rp q fun vs Hb1 H1 ss st1 rs1 q1 => ?_
  obtain ⟨j, e, ⟨h1, h2⟩, q1⟩ := q1
  subst e
  cases rs1 with
  | cons a _ t =>
    cases t
    exact ⟨j, by rw [int_of a], h1, h2, c _ Hb1 H1 _ st1 (gives_rng _ _) q1⟩
theorem si_str (h : SdE K F ta fa) : SdI K F (iStr ta) (dStrI fa) := by
  intro Hb H σ env Q R rp q c
  refine h.go (Q := fun s => ∃ z : Str, s = .d (.str z) ∧ Q (z.cps.toList.map fun c => .str ⟨#[c]⟩)) rp q fun x Hb1 H1 s st1 rs1 _ q1 => ?_
  obtain ⟨z, e, q1⟩ := q1
  subst e
  refine ⟨z, str_of rs1, c _ Hb1 H1 _ st1 ⟨⟨fun _ => True, fun i H v H' => H' = H ∧ ∃ c, z.cps[i]? = some c ∧ v = .str ⟨#[c]⟩, ?_, fun _ _ => trivial, fun i Hb' H x H' hi st ex y => ?_⟩⟩ q1⟩
  · have e : (z.cps.toList.map fun c => PyData.str ⟨#[c]⟩).length = z.cps.size := by simp
    rw [e]
    exact walk_str
  · obtain ⟨e1, c, h1, h2⟩ := y
    subst e1 h2
    exact ⟨Hb', .str ⟨#[c]⟩, by simp [h1], Step.refl st, .str _⟩
/-- a new pair -/
theorem pair_new {Hb Hb' H : Hp} {T : Addr} {x y : V} {dx dy : PyData} (st : St0 hid Hb' H) (n : H T = none) (hx : Dq K Hb' x dx) (hy : Dq K Hb' y dy) : Step hid Hb' H (upd Hb' T (.tup [x, y])) (upd H T (.tup [x, y])) ∧ Dq K (upd Hb' T (.tup [x, y])) (.ref T) (.tuple [dx, dy]) := by
  have s := Step.laid (o := .tup [x, y]) st n
  exact ⟨s, .tup (SqT.of upd_same) (.cons (Dq.mono s.ex hx) (.cons (Dq.mono s.ex hy) .nil))⟩
end

/-! ### for -/
/-- the walked data, one behind the other -/
def dLoop (g : DTG) (body : DTS) (E : DEnds) : List PyData → EV → Prop
  | [], env => E.nx env
  | y :: ys, env => g (.d y) env fun env1 => body { nx := dLoop g body E ys, ct := dLoop g body E ys, bk := E.nx, rt := E.rt } env1
def dFor (i : DTI) (g : DTG) (body : DTS) : DTS := fun E env => i env fun ys => dLoop g body E ys env
section
variable {K : PySem.W.Frag} {F : Fr} {hid : Hid} {js : List Nat}
theorem sd_for {wi : TI} {g : TG} {tb : TS} {fi : DTI} {fg : DTG} {fb : DTS} (hi : SdI K F wi fi) (hg : SdG K F js g fg) (hb : SdS K F tb fb) : SdS K F (tFor wi g tb) (dFor fi fg fb) := by
  intro Hb H σ env D E r q l
  refine hi Hb H σ env _ _ r q fun J Hb1 H1 ys st1 gv q1 => ?_
  obtain ⟨G, Y, w, hG, hY⟩ := gv.ex
  refine for_it w (fun i σ' H' => ∃ Hb' env', Same Hb1 Hb' ∧ Rep K F Hb' H' σ' env' ∧ dLoop fg fb E (ys.drop i) env') ⟨Hb1, env, Same.refl _, r.on st1, q1⟩ ?_ ?_ ?_
  · rintro i σ' H' _ ⟨Hb', env', s, r', _⟩
    exact hG H' (s.trans r'.st.ex)
  · rintro i x σ' H' H2 hlt ⟨Hb', env', s, r', q'⟩ y
    obtain ⟨Hb2, d, hd, st2, hx⟩ := hY i Hb' H' x H2 hlt r'.st s y
    have e : ys.drop i = d :: ys.drop (i + 1) := by
      obtain ⟨h1, h2⟩ := List.getElem?_eq_some_iff.mp hd
      rw [List.drop_eq_getElem_cons h1, h2]
    rw [e] at q'
    refine hg Hb2 H2 σ' env' x (.d d) _ _ (r'.on st2) hx rfl q' fun σ3 env3 _ r3 q3 => ?_
    have ex2 : Same Hb1 Hb2 := s.trans st2.ex
    refine hb Hb2 H2 σ3 env3 _ _ r3 q3 ⟨fun Hb4 H4 σ4 env4 s4 r4 q4 => ⟨Hb4, env4, ex2.trans s4, r4, q4⟩, fun Hb4 H4 σ4 env4 s4 r4 q4 => l.nx Hb4 H4 σ4 env4 (st1.ex.trans (ex2.trans s4)) r4 q4, fun Hb4 H4 σ4 env4 s4 r4 q4 => ⟨Hb4, env4, ex2.trans s4, r4, q4⟩, fun v Hb4 H4 s' s4 => l.rt v Hb4 H4 s' (st1.ex.trans (ex2.trans s4))⟩
  · rintro σ' H' ⟨Hb', env', s, r', q'⟩
    rw [List.drop_length] at q'
    exact l.nx Hb' H' σ' env' (st1.ex.trans s) r' q'
end
end Pu

end

section
/-! Pu3: displays, comprehensions, own lists, calls of defs. -/
namespace Pu
open PySem L2

/-! ### displays -/
def allD : List Sl → Option (List PyData)
  | [] => some []
  | .d x :: ss => (allD ss).map (x :: ·)
  | _ :: _ => none
def dTupE (t : DTA) : DTE := fun env Q => t env fun ss => ∃ xs, allD ss = some xs ∧ xs.length ≤ sizeLine ∧ Q (.d (.tuple xs))
def dLstE (t : DTA) : DTE := fun env Q => t env fun ss => ∃ xs, allD ss = some xs ∧ xs.length ≤ sizeLine ∧ Q (.own xs)
section
variable {K : PySem.W.Frag} {hid : Hid} {F : Fr} {Hb H : Hp}
theorem allD_rep : ∀ {ss : List Sl} {vs : List V} {xs : List PyData}, RepAll K hid Hb H vs ss → allD ss = some xs → DqAll K Hb vs xs
  | [], _, xs, .nil, e => by
    cases e
    exact .nil
  | .d x :: ss, _, xs, .cons h _ t, e => by
    unfold allD at e
    cases q : allD ss with
    | none => rw [q] at e; cases e
    | some ys =>
      rw [q] at e
      cases e
      exact .cons h (allD_rep t q)
  | .v _ :: _, _, _, _, e => by cases e
  | .src :: _, _, _, _, e => by cases e
  | .own _ :: _, _, _, _, e => by cases e
  | .ownD _ :: _, _, _, _, e => by cases e
  | .ownX _ :: _, _, _, _, e => by cases e
  | .imm _ :: _, _, _, _, e => by cases e
/-- a new list of one's own -/
theorem own_new {vs : List V} {xs : List PyData} {p : Addr} (st : St0 hid Hb H) (n : H p = none) (h : DqAll K Hb vs xs) : Step hid Hb H Hb (upd H p (.lst vs)) ∧ RepSl K hid Hb (upd H p (.lst vs)) (.ref p) (.own xs) ∧ FrSl H (.ref p) (.own xs) := by
  have s := Step.raw (o := .lst vs) st n
  refine ⟨s, ⟨p, vs, rfl, upd_same, h, none_back (fun o e => st.ex p o e) n, fun z => ?_⟩, fun q e => ?_⟩
  · obtain ⟨o, e⟩ := st.ok.there z
    rw [n] at e; cases e
  · cases e; exact n
theorem tup_new {vs : List V} {xs : List PyData} {p : Addr} (st : St0 hid Hb H) (n : H p = none) (h : DqAll K Hb vs xs) : Step hid Hb H (upd Hb p (.tup vs)) (upd H p (.tup vs)) ∧ Dq K (upd Hb p (.tup vs)) (.ref p) (.tuple xs) := by
  have s := Step.laid (o := .tup vs) st n
  exact ⟨s, .tup (SqT.of upd_same) (DqAll.mono s.ex h)⟩
variable {ta : TA} {fa : DTA}
theorem sd_tup (h : SdA K F ta fa) : SdE K F (tTup ta) (dTupE fa) := by
  intro Hb H σ env Q k rp q c
  refine h Hb H σ env _ _ rp q fun vs Hb1 H1 ss st1 rs1 q1 => ?_
  obtain ⟨xs, e, hl, q1⟩ := q1
  have hd := allD_rep rs1 e
  refine ⟨by rw [DqAll.length hd]; exact hl, fun p hp => ?_⟩
  obtain ⟨s2, r2⟩ := tup_new (K := K) st1.st hp hd
  exact c _ _ _ (.d (.tuple xs)) (st1.trans s2) r2 trivial q1
theorem sd_lst (h : SdA K F ta fa) : SdE K F (tLst ta) (dLstE fa) := by
  intro Hb H σ env Q k rp q c
  refine h Hb H σ env _ _ rp q fun vs Hb1 H1 ss st1 rs1 q1 => ?_
  obtain ⟨xs, e, hl, q1⟩ := q1
  have hd := allD_rep rs1 e
  refine ⟨by rw [DqAll.length hd]; exact hl, fun p hp => ?_⟩
  obtain ⟨s2, r2, f2⟩ := own_new (K := K) st1.st hp hd
  exact c _ _ _ (.own xs) (st1.trans s2) r2 (FrSl.back st1 f2) q1
end

/-! ### comprehensions -/
def wipeE (env : EV) : List Nat → EV
  | [] => env
  | v :: vs => (wipeE env vs).set v none
def dLcGo (g : DTG) (tt : DTT) (te : DTE) (env : EV) : List PyData → List PyData → (List PyData → Prop) → Prop
  | [], acc, Q => Q acc
  | y :: ys, acc, Q => g (.d y) env fun env1 => tt env1 fun b => if b = true then te env1 fun s => ∃ x, s.fz = .d x ∧ dLcGo g tt te env ys (acc ++ [x]) Q else dLcGo g tt te env ys acc Q
def dLc (ti : DTI) (g : DTG) (tt : DTT) (te : DTE) (js : List Nat) : DTE := fun env Q => ti env fun ys => ys.length ≤ sizeLine ∧ dLcGo g tt te (wipeE env js) ys [] fun zs => Q (.own zs)
section
variable {K : PySem.W.Frag} {F : Fr} {Hb H : Hp} {σ : L2.St} {env : EV}
theorem Rep.wipe (r : Rep K F Hb H σ env) : ∀ js : List Nat, Rep K F Hb H (L2.wipe σ js) (wipeE env js)
  | [] => r
  | j :: js => (Rep.wipe r js).forget j none
theorem wipe_get (σ : L2.St) : ∀ (js : List Nat) (i : Nat), (L2.wipe σ js)[i]? = if i ∈ js ∧ i < σ.length then some none else σ[i]?
  | [], i => by simp [L2.wipe]
  | j :: js, i => by
    show ((L2.wipe σ js).set j none)[i]? = _
    rw [List.getElem?_set, wipe_get σ js i]
    have hl := wipe_length σ js
    by_cases hj : j = i
    · subst hj
      by_cases h : j < σ.length
      · simp [hl, h]
      · simp [hl, h]
    · have hij : ¬ i = j := fun e => hj e.symm
      simp [hj, hij]
theorem wipe_off {σ σ' : L2.St} {js : List Nat} (o : Off js σ σ') : L2.wipe σ' js = L2.wipe σ js := by
  apply List.ext_getElem?
  intro i
  rw [wipe_get, wipe_get, o.1]
  by_cases hi : i ∈ js
  · by_cases h : i < σ.length
    · simp [hi, h]
    · have h1 : σ'[i]? = none := List.getElem?_eq_none (by rw [o.1]; omega)
      have h2 : σ[i]? = none := List.getElem?_eq_none (by omega)
      simp [h, h1, h2]
  · simp [hi, o.2 i hi]
theorem wipe_idem (σ : L2.St) (js : List Nat) : L2.wipe (L2.wipe σ js) js = L2.wipe σ js := by
  apply List.ext_getElem?
  intro i
  rw [wipe_get, wipe_get, wipe_length]
  split
  · rename_i h
    simp [h]
  · rename_i h
    simp [h]
theorem sd_lc {js : List Nat} {wi : TI} {g : TG} {tt : TT} {te : TE} {fi : DTI} {fg : DTG} {ft : DTT} {fe : DTE} (hi : SdI K F wi fi) (hg : SdG K F js g fg) (ht : SdT K F tt ft) (he : SdE K F te fe) :
    SdE K F (tLc wi g tt te js) (dLc fi fg ft fe js) := by
  intro Hb H σ env Q k r q c
  refine hi Hb H σ env _ _ r q fun J Hb1 H1 ys st1 gv q1 => ?_
  obtain ⟨hlen, q1⟩ := q1
  obtain ⟨G, Y, w, hG, hY⟩ := gv.ex
  intro D hD
  have r1 := r.on st1
  have nD : ¬ F.hid.has D := fun z => by obtain ⟨o, e⟩ := st1.st.ok.there z; rw [hD] at e; cases e
  have s0 := Step.raw (o := .lst []) st1.st hD
  have bD : Hb1 D = none := none_back (fun o e => st1.st.ex D o e) hD
  -- what holds between the turns: the new list's items so far
  refine lc_it w (fun i H' => ∃ Hb' acc xs, Step F.hid Hb1 H1 Hb' H' ∧ H' D = some (.lst acc) ∧ Hb' D = none ∧ DqAll K Hb' acc xs ∧ acc.length ≤ i ∧ dLcGo fg ft fe (wipeE env js) (ys.drop i) xs fun zs => Q (.own zs)) ⟨Hb1, [], [], s0, upd_same, bD, .nil, Nat.zero_le _, q1⟩ ?_ ?_ ?_
  · rintro i H' _ ⟨Hb', acc, xs, s, _⟩
    exact hG H' (s.ex.trans s.st.ex)
  · rintro i x H' H2 hlt ⟨Hb', acc, xs, s, hA, hN, hq, hl, q'⟩ y
    obtain ⟨Hb2, d, hd, st2, hx⟩ := hY i Hb' H' x H2 hlt s.st s.ex y
    have e : ys.drop i = d :: ys.drop (i + 1) := by
      obtain ⟨h1, h2⟩ := List.getElem?_eq_some_iff.mp hd
      rw [List.drop_eq_getElem_cons h1, h2]
    rw [e] at q'
    have keepD : ∀ {Ha Hc Hbb Hbc : Hp}, Step F.hid Hbb Ha Hbc Hc → Ha D = some (.lst acc) → Hbb D = none → Hc D = some (.lst acc) ∧ Hbc D = none := fun {Ha Hc Hbb Hbc} t h1 h2 => by
      refine ⟨t.keep D _ h1 nD, ?_⟩
      cases z : Hbc D with
      | none => rfl
      | some o =>
        have := t.new D o z h2
        rw [h1] at this; cases this
    obtain ⟨hA2, hN2⟩ := keepD st2 hA hN
    have rw2 : Rep K F Hb2 H2 (L2.wipe σ js) (wipeE env js) := (r1.on (s.trans st2)).wipe js
    refine hg Hb2 H2 _ _ x (.d d) _ _ rw2 hx rfl q' fun σ3 env3 o3 r3 q3 => ⟨?_, ?_⟩
    · rw [wipe_off o3, wipe_idem]
    · refine ht Hb2 H2 σ3 env3 _ _ r3 q3 fun b Hb3 H3 st3 q4 => ?_
      obtain ⟨hA3, hN3⟩ := keepD st3 hA2 hN2
      cases b with
      | false =>
        have q4 : dLcGo fg ft fe (wipeE env js) (ys.drop (i + 1)) xs fun zs => Q (.own zs) := q4
        exact ⟨Hb3, acc, xs, (s.trans st2).trans st3, hA3, hN3, DqAll.mono st3.ex (DqAll.mono st2.ex hq), by omega, q4⟩
      | true =>
        have q4 : fe env3 fun s => ∃ x, s.fz = .d x ∧ dLcGo fg ft fe (wipeE env js) (ys.drop (i + 1)) (xs ++ [x]) fun zs => Q (.own zs) := q4
        show te σ3 H3 _
        refine he.go (Q := fun s => ∃ x, s = .d x ∧ dLcGo fg ft fe (wipeE env js) (ys.drop (i + 1)) (xs ++ [x]) fun zs => Q (.own zs)) (r3.on st3) q4 fun v Hb4 H4 u st4 ru _ q5 => ?_
        obtain ⟨z, e5, q5⟩ := q5
        subst e5
        obtain ⟨hA4, hN4⟩ := keepD st4 hA3 hN3
        have all := ((s.trans st2).trans st3).trans st4
        refine ⟨acc, hA4, ?_, Hb4, acc ++ [v], xs ++ [z], ⟨⟨fun b o e => ?_, all.st.ok.keeps fun b o hb e => ?_, all.st.out⟩, all.ex, all.new, fun b o e hb => ?_⟩, upd_same, hN4, DqAll.append (DqAll.mono ((st2.trans st3).trans st4).ex hq) (.cons ru .nil), by simp; omega, q5⟩
        · omega
        · rw [upd_ne (fun z : b = D => by rw [z, hN4] at e; cases e)]; exact all.st.ex b o e
        · rw [upd_ne (fun z : b = D => nD (z ▸ hb))]; exact e
        · rw [upd_ne (ne_of_none e hD)]; exact all.keep b o e hb
  · rintro H' ⟨Hb', acc, xs, s, hA, hN, hq, hl, q'⟩
    rw [List.drop_length] at q'
    refine c (.ref D) Hb' H' (.own xs) (st1.trans s) ⟨D, acc, rfl, hA, hq, hN, nD⟩ (fun p e => ?_) q'
    cases e
    exact st1.back hD
end

/-! ### own lists in slots -/
section
variable {K : PySem.W.Frag} {F : Fr} {Hb H : Hp} {σ : L2.St} {env : EV}
/-- an own object as everybody's -/
def frzAt (env : EV) (i : Nat) : EV := match env[i]? with
  | some (some (.own xs)) => env.set i (some (.d (.list xs)))
  | some (some (.ownD ds)) => env.set i (some (.d (.dict ds)))
  | some (some (.ownX T)) => env.set i (some (.imm T))
  | _ => env
/-- but for lists and dicts all of H stands in H' -/
def Butl (H H' : Hp) : Prop := ∀ b o, H b = some o → NoT o ∨ H' b = some o
/-- what is new is lists and dicts -/
def NewL (H H' : Hp) : Prop := ∀ b o, H' b = some o → H b = none → NoT o
theorem Rep.frz1 (r : Rep K F Hb H σ env) {i : Nat} {s : Sl} (e : env[i]? = some (some s)) (hs : s.isOwn) : ∃ (p : Addr) (o : HO), σ[i]? = some (some (.ref p)) ∧ Hb p = none ∧ NoT o ∧ Rep K F (upd Hb p o) H σ (env.set i (some s.fz)) := by
  obtain ⟨v, e1, rs, fr⟩ := r.sl i _ e
  obtain ⟨p, o, ev, hH, hB, hh, ho, hd⟩ : ∃ (p : Addr) (o : HO), v = .ref p ∧ H p = some o ∧ Hb p = none ∧ ¬ F.hid.has p ∧ NoT o ∧ ∀ Hc : Hp, Same Hb Hc → Hc p = some o → RepSl K F.hid Hc H (.ref p) s.fz := by
    cases s with
    | own xs =>
      obtain ⟨p, vs, e2, e3, e4, e5, e6⟩ := rs
      exact ⟨p, _, e2, e3, e5, e6, ⟨fun _ z => (by cases z), fun _ _ z => (by cases z)⟩, fun Hc ex hc => Dq.lst hc (DqAll.mono ex e4)⟩
    | ownD xs =>
      obtain ⟨p, vs, e2, e3, e4, e5, e6⟩ := rs
      exact ⟨p, _, e2, e3, e5, e6, ⟨fun _ z => (by cases z), fun _ _ z => (by cases z)⟩, fun Hc ex hc => Dq.dic hc e4.1 (DqAll.mono ex e4.2)⟩
    | ownX T =>
      obtain ⟨p, o, e2, e3, e4, e5, e6⟩ := rs
      exact ⟨p, o, e2, e3, e5, e6, e4.1, fun Hc ex hc => ⟨p, o, rfl, hc, fun Hd x => e4.2 Hd (ex.trans x)⟩⟩
    | imm _ => exact hs.elim
    | d x => exact hs.elim
    | v x => exact hs.elim
    | src => exact hs.elim
  subst ev
  have frp : F.H0 p = none := by
    cases s with
    | own xs => exact fr p rfl
    | ownD xs => exact fr p rfl
    | ownX T => exact fr p rfl
    | imm _ => exact hs.elim
    | d x => exact hs.elim
    | v x => exact hs.elim
    | src => exact hs.elim
  have hi : i < env.length := (List.getElem?_eq_some_iff.mp e).1
  have ex : Same Hb (upd Hb p o) := fun b u e => by rw [upd_ne (ne_of_none e hB)]; exact e
  have notO : ∀ t : Sl, ¬ (t.fz).isOwn := fun t h => by cases t <;> exact h.elim
  refine ⟨p, o, e1, hB, ho, ⟨⟨⟨fun b u e => ?_, r.st.ok, fun b hb => ?_⟩, r.step.ex.trans ex, fun b u e n => ?_, r.step.keep⟩, r.mid.trans ex, by simpa using r.len, fun j u ej => ?_, fun j k t1 t2 q hjk ej ek o1 o2 sj sk => ?_⟩⟩
  · by_cases q : b = p
    · subst q; rw [upd_same] at e; cases e; exact hH
    · rw [upd_ne q] at e; exact r.st.ex b u e
  · rw [upd_ne (fun q : b = p => hh (q ▸ hb))]; exact r.st.out b hb
  · by_cases q : b = p
    · rw [q]; exact frp
    · rw [upd_ne q] at e; exact r.step.new b u e n
  · by_cases hij : i = j
    · subst hij
      rw [List.getElem?_set_self hi] at ej
      cases ej
      exact ⟨.ref p, e1, hd _ ex upd_same, fr_fz s⟩
    · rw [List.getElem?_set_ne hij] at ej
      obtain ⟨w, w1, w2, w3⟩ := r.sl j u ej
      refine ⟨w, w1, ?_, w3⟩
      cases u with
      | d x => exact Dq.mono ex w2
      | v y => exact w2
      | src => exact w2
      | own ys =>
        obtain ⟨q, us, q1, q2, q3, q4, q5⟩ := w2
        subst q1
        refine ⟨q, us, rfl, q2, DqAll.mono ex q3, ?_, q5⟩
        rw [upd_ne (fun z : q = p => r.dis i j s (.own ys) p hij e ej hs trivial e1 (z ▸ w1))]
        exact q4
      | ownD ys =>
        obtain ⟨q, us, q1, q2, q3, q4, q5⟩ := w2
        subst q1
        refine ⟨q, us, rfl, q2, ⟨q3.1, DqAll.mono ex q3.2⟩, ?_, q5⟩
        rw [upd_ne (fun z : q = p => r.dis i j s (.ownD ys) p hij e ej hs trivial e1 (z ▸ w1))]
        exact q4
      | ownX T =>
        obtain ⟨q, us, q1, q2, q3, q4, q5⟩ := w2
        subst q1
        refine ⟨q, us, rfl, q2, ⟨q3.1, fun Hc x => q3.2 Hc (ex.trans x)⟩, ?_, q5⟩
        rw [upd_ne (fun z : q = p => r.dis i j s (.ownX T) p hij e ej hs trivial e1 (z ▸ w1))]
        exact q4
      | imm T =>
        obtain ⟨q, us, q1, q2, q3⟩ := w2
        exact ⟨q, us, q1, ex q us q2, fun Hc x => q3 Hc (ex.trans x)⟩
  · have look : ∀ (m : Nat) (z : Sl), (env.set i (some s.fz))[m]? = some (some z) → z.isOwn → env[m]? = some (some z) := fun m z em oz => by
      by_cases him : i = m
      · subst him; rw [List.getElem?_set_self hi] at em; cases em; exact (notO s oz).elim
      · rw [List.getElem?_set_ne him] at em; exact em
    exact r.dis j k t1 t2 q hjk (look _ _ ej o1) (look _ _ ek o2) o1 o2 sj sk
theorem Rep.frz2 (r : Rep K F Hb H σ env) (i : Nat) : ∃ Hb1, Same Hb Hb1 ∧ NewL Hb Hb1 ∧ Rep K F Hb1 H σ (frzAt env i) := by
  have none_ : frzAt env i = env → ∃ Hb1, Same Hb Hb1 ∧ NewL Hb Hb1 ∧ Rep K F Hb1 H σ (frzAt env i) := fun h => by
    rw [h]
    exact ⟨Hb, Same.refl _, fun b o e n => (by rw [n] at e; cases e), r⟩
  have some_ : ∀ s : Sl, env[i]? = some (some s) → s.isOwn → frzAt env i = env.set i (some s.fz) → ∃ Hb1, Same Hb Hb1 ∧ NewL Hb Hb1 ∧ Rep K F Hb1 H σ (frzAt env i) := fun s e hs h => by
    rw [h]
    obtain ⟨p, o, _, hB, ho, r1⟩ := r.frz1 e hs
    refine ⟨_, fun b u e => by rw [upd_ne (ne_of_none e hB)]; exact e, fun b u e n => ?_, r1⟩
    by_cases q : b = p
    · subst q; rw [upd_same] at e; cases e; exact ho
    · rw [upd_ne q, n] at e; cases e
  cases e : env[i]? with
  | none => exact none_ (by unfold frzAt; rw [e])
  | some m =>
    cases m with
    | none => exact none_ (by unfold frzAt; rw [e])
    | some s =>
      cases s with
      | own xs => exact some_ _ e trivial (by unfold frzAt; rw [e]; rfl)
      | ownD xs => exact some_ _ e trivial (by unfold frzAt; rw [e]; rfl)
      | ownX T => exact some_ _ e trivial (by unfold frzAt; rw [e]; rfl)
      | imm _ => exact none_ (by unfold frzAt; rw [e])
      | d x => exact none_ (by unfold frzAt; rw [e])
      | v x => exact none_ (by unfold frzAt; rw [e])
      | src => exact none_ (by unfold frzAt; rw [e])
theorem Rep.frz (r : Rep K F Hb H σ env) (i : Nat) : ∃ Hb1, Same Hb Hb1 ∧ Rep K F Hb1 H σ (frzAt env i) := by
  obtain ⟨Hb1, a, _, b⟩ := r.frz2 i
  exact ⟨Hb1, a, b⟩
def frzL (env : EV) : List Nat → EV
  | [] => env
  | j :: js => frzL (frzAt env j) js
theorem Rep.frzL : ∀ (js : List Nat) {Hb : Hp} {env : EV}, Rep K F Hb H σ env → ∃ Hb1, Same Hb Hb1 ∧ Rep K F Hb1 H σ (Pu.frzL env js)
  | [], Hb, env, r => ⟨Hb, Same.refl _, r⟩
  | j :: js, Hb, env, r => by
    obtain ⟨Hb1, e1, r1⟩ := r.frz j
    obtain ⟨Hb2, e2, r2⟩ := Rep.frzL js r1
    exact ⟨Hb2, e1.trans e2, r2⟩
def flatD : PyData → Bool
  | .none => true
  | .bool _ => true
  | .int _ => true
  | .str _ => true
  | _ => false
theorem back_to {Hb1 Hb2 H' : Hp} (r : Rep K F Hb H σ env) (ex : Same Hb Hb1) (s : Step F.hid Hb1 H Hb2 H') : Step F.hid Hb H Hb H' :=
  ⟨⟨ex.trans (s.ex.trans s.st.ex), s.st.ok, r.st.out⟩, Same.refl _, fun b o e n => (by rw [n] at e; cases e), s.keep⟩
def dPeekT (js : List Nat) (t : DTT) : DTT := fun env Q => t (frzL env js) Q
theorem sd_peekT (js : List Nat) {te : TT} {t : DTT} (h : SdT K F te t) : SdT K F te (dPeekT js t) := by
  intro Hb H σ env Q k r q c
  obtain ⟨Hb1, e1, r1⟩ := r.frzL js
  exact h Hb1 H σ _ Q k r1 q fun b Hb2 H2 st q => c b Hb H2 (back_to r e1 st) q
/-- one's own object, changed -/
theorem Rep.put1 (r : Rep K F Hb H σ env) {i : Nat} {s s' : Sl} {p : Addr} {o o' : HO} (e : env[i]? = some (some s)) (hs : s.isOwn) (hσ : σ[i]? = some (some (.ref p))) (hH : H p = some o) (hB : Hb p = none) (hh : ¬ F.hid.has p)
    (hs' : s'.isOwn) (rep : RepSl K F.hid Hb (upd H p o') (.ref p) s') : Rep K F Hb (upd H p o') σ (env.set i (some s')) := by
  have hi : i < env.length := (List.getElem?_eq_some_iff.mp e).1
  obtain ⟨v, e1, _, fr⟩ := r.sl i _ e
  rw [hσ] at e1
  cases e1
  have frp : F.H0 p = none := by
    cases s with
    | own xs => exact fr p rfl
    | ownD xs => exact fr p rfl
    | ownX T => exact fr p rfl
    | imm _ => exact hs.elim
    | d x => exact hs.elim
    | v x => exact hs.elim
    | src => exact hs.elim
  have ne : ∀ {b : Addr} {u : HO}, Hb b = some u → b ≠ p := fun e z => by rw [z, hB] at e; cases e
  refine ⟨⟨⟨fun b u e => ?_, r.st.ok.keeps fun b u hb e => ?_, r.st.out⟩, r.step.ex, r.step.new, fun b u e hb => ?_⟩, r.mid, by simpa using r.len, fun j u ej => ?_, fun j m t1 t2 q hjm ej em o1 o2 sj sm => ?_⟩
  · rw [upd_ne (ne e)]; exact r.st.ex b u e
  · rw [upd_ne (fun z : b = p => hh (z ▸ hb))]; exact e
  · rw [upd_ne (fun z : b = p => by rw [z, frp] at e; cases e)]; exact r.step.keep b u e hb
  · by_cases hij : i = j
    · subst hij
      rw [List.getElem?_set_self hi] at ej
      cases ej
      refine ⟨.ref p, hσ, rep, ?_⟩
      cases s' with
      | own xs => exact fun q eq => by cases eq; exact frp
      | ownD xs => exact fun q eq => by cases eq; exact frp
      | ownX T => exact fun q eq => by cases eq; exact frp
      | imm _ => exact hs'.elim
      | d x => exact hs'.elim
      | v x => exact hs'.elim
      | src => exact hs'.elim
    · rw [List.getElem?_set_ne hij] at ej
      obtain ⟨w, w1, w2, w3⟩ := r.sl j u ej
      refine ⟨w, w1, ?_, w3⟩
      cases u with
      | d x => exact w2
      | v y => exact w2
      | src => exact w2
      | own ys =>
        obtain ⟨q, us, q1, q2, q3⟩ := w2
        subst q1
        exact ⟨q, us, rfl, by rw [upd_ne (fun z : q = p => r.dis i j s (.own ys) p hij e ej hs trivial hσ (z ▸ w1))]; exact q2, q3⟩
      | ownD ys =>
        obtain ⟨q, us, q1, q2, q3⟩ := w2
        subst q1
        exact ⟨q, us, rfl, by rw [upd_ne (fun z : q = p => r.dis i j s (.ownD ys) p hij e ej hs trivial hσ (z ▸ w1))]; exact q2, q3⟩
      | ownX T =>
        obtain ⟨q, us, q1, q2, q3⟩ := w2
        subst q1
        exact ⟨q, us, rfl, by rw [upd_ne (fun z : q = p => r.dis i j s (.ownX T) p hij e ej hs trivial hσ (z ▸ w1))]; exact q2, q3⟩
      | imm _ => exact w2
  · have look : ∀ (m : Nat) (z : Sl), (env.set i (some s'))[m]? = some (some z) → z.isOwn → ∃ z', env[m]? = some (some z') ∧ z'.isOwn := fun m z em oz => by
      by_cases him : i = m
      · subst him; exact ⟨_, e, hs⟩
      · rw [List.getElem?_set_ne him] at em; exact ⟨_, em, oz⟩
    obtain ⟨z1, w1, x1⟩ := look _ _ ej o1
    obtain ⟨z2, w2, x2⟩ := look _ _ em o2
    exact r.dis j m z1 z2 q hjm w1 w2 x1 x2 sj sm
/-- an own object's slot after a step -/
theorem Step.keepOwn {hid : Hid} {Hb H Hb1 H1 : Hp} (st : Step hid Hb H Hb1 H1) {p : Addr} {o : HO} (hH : H p = some o) (hB : Hb p = none) (hh : ¬ hid.has p) : H1 p = some o ∧ Hb1 p = none := by
  refine ⟨st.keep p _ hH hh, ?_⟩
  cases z : Hb1 p with
  | none => rfl
  | some u =>
    have := st.new p u z hB
    rw [hH] at this; cases this
end
end Pu

end

section
/-! PuG: promises of defs that are called where no repr runs (the guards are empty). -/
namespace Pu
open PySem L2 PyProof.Rows

structure RoomG (k : Nat) (A : Around) : Prop where
  r : Room k A
  guards : A.guards = some []
theorem RoomG.mono {j k : Nat} {A : Around} (r : RoomG k A) (h : j ≤ k) : RoomG j A := ⟨r.r.mono h, r.guards⟩
theorem RoomG.units {k : Nat} {A : Around} (r : RoomG k A) : A.units + 64 < cLine := r.r.units
structure FnG (P : Program) (w : World) (K : PySem.W.Frag) (mg : Str → Option Value) (base : Heap) (CX : CXT) (k : Nat) (f : Addr) (fd : FuncData) (ps : List Str) (sp : Sp) : Prop where
  many : ∀ vs H Q E, sp vs H Q E → vs.length = ps.length
  goes : ∀ (B : Around) (above : List Env) (s : Shared) (H : Hp) (as : Args) (us : List Value) (vs : List V) (Q : VK) (E : XK), RoomG k B → Env0 P w K mg base B above s H → BindsTo s fd as (ps.zip us) → Vals vs us →
    sp vs H Q E → codeAny (model P w) B (.call (.ref f) as) (CR CX above P w H s Q E) s
theorem FnG.of {P : Program} {w : World} {K : PySem.W.Frag} {mg : Str → Option Value} {base : Heap} {CX : CXT} {k : Nat} {f : Addr} {fd : FuncData} {ps : List Str} {sp : Sp} (F : FnOk P w K mg base CX k f fd ps sp) : FnG P w K mg base CX k f fd ps sp :=
  ⟨F.len, fun B above s H as us vs Q E hr => F.run B above s H as us vs Q E hr.r⟩
section
variable {X : Cx} {CX : CXT} {k : Nat} {f : Addr} {fd : FuncData} {ps : List Str} {sp : Sp} {E : XK} {x : Str} {p pos : Pos} {e : Expr} {es : List Expr} {t : TA}
theorem goes_fn {pins : List (Addr × Obj)} {σ : L2.St} {H : Hp} {s : Shared} {Q : VK} {us : List Value} {vs : List V} (F : FnG X.prog X.w X.K X.mg X.base CX k f fd ps sp) (room : RoomG k X.A) (bi : Binds X.K fd ps []) (out : Passes CX X E)
    (I : Inv X pins σ H s) (rel : Vals vs us) (q : sp vs H Q E) : wpAny (model X.prog X.w) X.A (call (.ref f) us) (EP X pins σ Q) X.xe s := by
  have many : us.length = ps.length := rel.length ▸ F.many _ _ _ _ q
  have bound := bi s us I.kIn (by rw [List.append_nil]; exact many)
  rw [List.append_nil] at bound
  have go := F.goes X.A X.stack s H ⟨us, []⟩ us vs Q E room I.env0 bound rel q
  refine wpAny_call (codeAny_mono go fun r s2 done => ?_)
  match r, done with
  | .error ex, done => exact out pins σ H s ex s2 I done
  | .ok (.ret u), done => exact I.after done
  | .ok .next, done => exact done.elim
  | .ok .brk, done => exact done.elim
  | .ok .cont, done => exact done.elim
theorem pe_callG (F : FnG X.prog X.w X.K X.mg X.base CX k f fd ps sp) (room : RoomG k X.A) (gl : Gl X x) (at_ : X.mg x = some (.ref f)) (kp : PySem.W.keepIn X.K (.ref f) = true) (bi : Binds X.K fd ps []) (out : Passes CX X E) (args : PA X (e :: es) t)
    (hdb : (x == ("__debug__" : Str)) = false := by decide) (hs : starEach (e :: es) X.env = (false, eval e X.env) :: starEach es X.env := by rfl) (plain : (backTo pos (starEach es X.env)).any (·.1) = false := by rfl) :
    PE X (.Call (.Name x p) (e :: es) [] pos) (fun σ H Q => t σ H fun vs H1 => sp vs H1 Q E) := by
  constructor
  intro pins s σ H Q I q
  refine wpAny_Call_Name_kw (ld_glob I gl at_ (PySem.W.callWith_K (h₀ := X.base) I.ok.mod.kin kp ?_ hs plain) hdb)
  refine thn (args.run pos pins s σ H _ I q) fun us s1 ⟨vs, H1, I1, rel, q1⟩ => ?_
  exact ⟨I1.kIn, goes_fn F room bi out I1 rel q1⟩
end
section
variable {P : Program} {w : World} {K : PySem.W.Frag} {mg : Str → Option Value} {base : Heap}
/-- a def's body keeps its promise -/
theorem goes_of {CX : CXT} {k : Nat} {x qual : Str} {st : Stmt} {f : Addr} {fd : FuncData} {N ps : List Str} {sp : Sp} (F : Fun K x qual st f fd) (S : FnScope N ps (defScope st)) (many : ∀ vs H Q E, sp vs H Q E → vs.length = ps.length)
    (body : ∀ (cdv : Value) (B : Around) (above : List Env) (s : Shared) (H : Hp) (vs : List V) (Q : VK) (E : XK), RoomG k (B.deeper (envOfC qual (defScope st) s.heap.objs.size f cdv)) → sp vs H Q E →
      ∃ t, PSs (cxOf CX P w K mg base N qual (defScope st) f cdv B above s H E) (defBody st) t ∧ t { nx := fun _ H' => Q .non H', rt := Q } (L2.start N vs) H) : FnG P w K mg base CX (k + 1) f fd ps sp := by
  obtain ⟨oc, od, kV, doc, pm, an, cdv, ct, osl, rfl, lk, code⟩ := F.ex
  refine ⟨many, fun B above s H as us vs Q E room e0 bi rel q => ?_⟩
  have cnt : vs.length = ps.length := many _ _ _ _ q
  have old : ∀ b o, base.get? b = some o → s.heap.get? b = some o := fun b o e => (e0.bs b o e).1
  have inK : K.In s.heap := e0.mod.kin.keeps old
  have nolim : s.heap.NoLimit := e0.mod.nolimit.keeps old
  have kinds : ∀ y ∈ ps.zip us, (defScope st).names.lookup y.1 = some .local ∨ ((defScope st).names.lookup y.1 = some .cell ∧ ((cellsFrom (s.heap.objs.size + 1) (defScope st).names []).lookup y.1).isSome = true) := by
    intro y hy
    obtain ⟨n, v⟩ := y
    cases S.par n (List.of_mem_zip hy).1 with
    | inl z => exact .inl z
    | inr z => exact .inr ⟨z, PySem.W.cellsFrom_some _ _ _ (.inl z)⟩
  refine codeAny_call_function room.r.depth (inK _ _ lk) rfl S.co S.gen rfl (PySem.W.codeRec_of inK code) (bi _ _ _ _ (wpAny_newFunctionEnv_cells S.kind kinds fun env he s1 made => ?_))
  cases he
  refine ⟨nolim.keeps made.toInCall.keep, codeAny_func ?_⟩
  have room' : RoomG k (B.deeper (envOfC qual (defScope st) s.heap.objs.size f cdv)) := ⟨room.r.deeper _, room.guards⟩
  obtain ⟨t, walk, q'⟩ := body cdv B above s H vs Q E room' q
  have I := inv_start (CX := CX) (E := E) S room.r.hd e0 cnt rel made
  refine wpAny_mono (walk.run [] s1 (L2.start N vs) H _ I q') (fun fl s' done => ?_) fun ex s' done => done
  match fl, done with
  | .ret u, ⟨v, σ', H', J, rv, qq⟩ => exact ⟨v, H', J.os, J.bare, J.base, J.hok, rv, qq⟩
  | .next, ⟨σ', H', J, qq⟩ => exact ⟨.non, H', J.os, J.bare, J.base, J.hok, rfl, qq⟩
  | .brk, ⟨_, _, _, qq⟩ => exact qq.elim
  | .cont, ⟨_, _, _, qq⟩ => exact qq.elim
/-- no exception leaves -/
theorem goes_of0 {k : Nat} {x qual : Str} {st : Stmt} {f : Addr} {fd : FuncData} {N ps : List Str} {sp : Sp} (F : Fun K x qual st f fd) (S : FnScope N ps (defScope st)) (many : ∀ vs H Q E, sp vs H Q E → vs.length = ps.length)
    (body : ∀ (cdv : Value) (B : Around) (above : List Env) (s : Shared) (H : Hp) (vs : List V) (Q : VK) (E : XK), RoomG k (B.deeper (envOfC qual (defScope st) s.heap.objs.size f cdv)) → sp vs H Q E →
      ∃ t, PSs (cxOf CX0 P w K mg base N qual (defScope st) f cdv B above s H E).nox (defBody st) t ∧ t { nx := fun _ H' => Q .non H', rt := Q } (L2.start N vs) H) : FnG P w K mg base CX0 (k + 1) f fd ps sp :=
  goes_of F S many fun cdv B above s H vs Q E room q => let ⟨t, h1, h2⟩ := body cdv B above s H vs Q E room q; ⟨t, h1.nox, h2⟩
end
/-! ### the end: the law is called at the heap behind the top -/
def scriptObj (vs : List Value) : Obj := { cls := .type "list", data := .seq vs.toArray }
/-- the abstract heap ahead of the law: the script alone, and that only where the module does not hold it -/
def ahead (held : Bool) (a : Addr) (vs : List Value) (ns : List Int) : Hp := fun b => if held = false ∧ b = a then some (.frz (scriptObj vs) (.lst (ns.map V.int))) else none
theorem law_end {P : Program} {w : World} {K : PySem.W.Frag} {mg mb : Str → Option Value} {k : Nat} {fa a : Addr} {fd : FuncData} {x : Str} {sp : Sp} {s : Shared} {vs : List Value} {ns : List Int}
    (inK : K.In s.heap) (glob : s.heap.Ns mainGlobals mg) (blt : s.heap.Ns builtinsNs mb) (boot : ∀ x : Str, x ≠ "__name__" → mb x = bootBuiltins x) (nolim : s.heap.NoLimit) (gens : s.gens = #[]) (ha : s.heap.get? a = some (scriptObj vs)) (isI : IntsAre vs ns)
    (short : ns.length ≤ sizeLine) (room : RoomG k callerA) (F : ∀ base : Heap, K.In base → base.Ns mainGlobals mg → FnG P w K mg base CX0 k fa fd [x] sp) (bi : ∀ (s : Shared) (u : Value), BindsTo s fd ⟨[u], []⟩ [(x, u)])
    (promise : ∀ H : Hp, SqL K H a (ns.map V.int) → sp [.ref a] H (fun v _ => v = .bl true) fun _ _ _ => False) :
    codeAny (model P w) callerA (.call (.ref fa) ⟨[.ref a], []⟩) (fun r s' => r = .ok (.ret (.bool true)) ∧ OldK s.heap s'.heap ∧ s'.os = s.os ∧ AllBare s'.gens) s := by
  have rel : Vals (ns.map V.int) vs := vals_of_ints isI
  have many : vs.length = ns.length := isI.length
  let held := (K.lookup a).isSome
  let H := ahead held a vs ns
  have Hc : ∀ b u, H b = some u → b = a ∧ held = false ∧ u = .frz (scriptObj vs) (.lst (ns.map V.int)) := fun b u e => by
    have e' : (if held = false ∧ b = a then some (HO.frz (scriptObj vs) (.lst (ns.map V.int))) else none) = some u := e
    by_cases c : held = false ∧ b = a
    · rw [if_pos c] at e'; cases e'; exact ⟨c.2, c.1, rfl⟩
    · rw [if_neg c] at e'; cases e'
  have notA : ∀ b, b ≠ a → H b = none := fun b hb => by
    cases e : H b with
    | none => rfl
    | some u => exact absurd (Hc b u e).1 hb
  have seen : SqL K H a (ns.map V.int) := by
    cases e : K.lookup a with
    | none =>
      have hh : held = false := by show (K.lookup a).isSome = false; rw [e]; rfl
      exact .inl (.inr ⟨scriptObj vs, if_pos ⟨hh, rfl⟩⟩)
    | some o =>
      have e2 := inK a o e
      rw [ha] at e2
      cases e2
      exact .inr ⟨scriptObj vs, vs.toArray, _, e, rfl, rfl, rfl, by rw [List.size_toArray, many]; exact short, by simpa using rel⟩
  have hok : HOk P w H s.heap := fun b u e => by
    obtain ⟨h1, _, h3⟩ := Hc b u e
    subst h1 h3
    exact ⟨ha, by rw [List.length_map]; exact short, vs, _, rel, ha⟩
  have down : ∀ {b : Addr} {o : Obj}, s.heap.get? b = some o → H b = none → (hidT s.heap H).get? b = some o := fun e n => hidT_get e n
  have dicts : ∀ {b : Addr} {m : Str → Option Value}, s.heap.Ns b m → (hidT s.heap H).Ns b m := fun {b m} ⟨o, es, ep, e, d, r⟩ => by
    refine ⟨o, es, ep, down e (notA b fun z => ?_), d, r⟩
    subst z
    rw [ha] at e
    cases e
    cases d
  have baseK : K.In (hidT s.heap H) := fun b o e => down (inK b o e) (by
    cases q : H b with
    | none => rfl
    | some u =>
      obtain ⟨h1, h2, _⟩ := Hc b u q
      subst h1
      have h2' : (K.lookup b).isSome = false := h2
      rw [e] at h2'; cases h2')
  have md : Mod K mg (hidT s.heap H) := by
    obtain ⟨mc, c1, c2⟩ := nolim
    exact ⟨baseK, dicts glob, ⟨mb, dicts blt, boot⟩, ⟨mc, dicts c1, c2⟩⟩
  have none_in : ∀ b, b ∉ ([] : List Addr) := fun b z => by cases z
  have e0 : Env0 P w K mg (hidT s.heap H) callerA [] s H := ⟨rfl, md, fun b o e => of_hidT e, Nat.le_of_eq (hidT_size _ _), trivial, fun b hb => absurd hb (none_in b), hok, .of_eq gens⟩
  have go := (F _ baseK (dicts glob)).goes callerA [] s H ⟨[.ref a], []⟩ [.ref a] [.ref a] (fun v _ => v = .bl true) (fun _ _ _ => False) room e0 (bi s (.ref a)) (.cons rfl .nil) (promise H seen)
  refine codeAny_mono go fun r s' done => ?_
  match r, done with
  | .error _, done => exact False.elim done
  | .ok .next, done => exact False.elim done
  | .ok .brk, done => exact False.elim done
  | .ok .cont, done => exact False.elim done
  | .ok (.ret u), ⟨v, H2, os, bare, un, ok2, rv, q⟩ =>
    cases q
    cases rv
    refine ⟨rfl, OldK.of_keep fun b o e => ?_, os, bare⟩
    cases q : H b with
    | none => exact un.keep b o e q (none_in b) (none_in b)
    | some u =>
      obtain ⟨h1, _, h3⟩ := Hc b u q
      subst h1 h3
      obtain ⟨g1, _⟩ := ok2 _ _ (un.frzs _ _ _ q)
      rw [ha] at e
      cases e
      exact g1
theorem walkG {l : PySem.W.OpenLaw} {k : Nat} {q : Program} {loose : List Str} {XP : (Str → Option Value) → Heap → Prop} {YP : World → Heap → Prop} {d : DefRec} {K : Params → PySem.W.Frag} {sp : PySem.W.Frag → Sp} {x : Str}
    (most : l.most = some 63) (nodef : d.params.defaults = []) (room : RoomG k callerA) (hY : ∀ (w : World) (h : Heap), YP w h → (K w.params).In h)
    (F : ∀ (w : World) (mg : Str → Option Value) (fa : Addr) (h : Heap), (K w.params).In h → h.Ns mainGlobals mg → mg d.name = some (.ref fa) →
      ∃ fd : FuncData, (∀ (s : Shared) (u : Value), BindsTo s fd ⟨[u], []⟩ [(x, u)]) ∧ ∀ base : Heap, (K w.params).In base → base.Ns mainGlobals mg → FnG l.prog w (K w.params) mg base CX0 k fa fd [x] (sp (K w.params)))
    (promise : ∀ (K : PySem.W.Frag) (H : Hp) (a : Addr) (ns : List Int), ns.length ≤ 63 → SqL K H a (ns.map V.int) → sp K [.ref a] H (fun v _ => v = .bl true) fun _ _ _ => False) :
    PySem.W.WalkO q loose XP YP l.row.toRowW d [] (fun f vs => PySem.call f vs) := by
  refine Att.attach_call most nodef fun w s0 s mg mb fa o pm cd doc a vs ns G Y ho hd hcd hmg hobj hints hlen hg => ?_
  have inK := hY w _ Y
  obtain ⟨fd, bi, hF⟩ := F w mg fa _ inK G.T.g hmg
  exact law_end inK G.T.g G.T.b G.T.builtins G.T.nolimit hg hobj hints (Nat.le_trans hlen (by decide)) room hF bi fun H hS => promise _ H a ns hlen hS
end Pu

end

section
/-! Pu4: calls of defs; a def's promise by its body. -/
namespace Pu
open PySem L2 PyProof.Rows

/-! ### promises -/
def spD (K : PySem.W.Frag) (n : Nat) (hid : Hid) (m : FN) : Sp := fun vs H Q _ => ∃ Hb ss R, St0 hid Hb H ∧ RepAll K hid Hb H vs ss ∧ ss.length = n ∧ m ss R ∧
  ∀ v Hb' H' s, Step hid Hb H Hb' H' → RepSl K hid Hb' H' v s → FrSl H v s → R s → Q v H'
/-- whatever the hidden objects are -/
def spX (K : PySem.W.Frag) (n : Nat) (m : FN) : Sp := fun vs H Q E => ∃ hid, spD K n hid m vs H Q E
theorem RepAll.length {K : PySem.W.Frag} {hid : Hid} {Hb H : Hp} : ∀ {vs : List V} {ss : List Sl}, RepAll K hid Hb H vs ss → vs.length = ss.length
  | _, _, .nil => rfl
  | _, _, .cons _ _ t => congrArg (· + 1) (RepAll.length t)
theorem RepAll.get {K : PySem.W.Frag} {hid : Hid} {Hb H : Hp} : ∀ {vs : List V} {ss : List Sl} {i : Nat} {s : Sl}, RepAll K hid Hb H vs ss → ss[i]? = some s → ∃ v, vs[i]? = some v ∧ RepSl K hid Hb H v s ∧ s.fz = s
  | _, _, _, _, .nil, e => by simp at e
  | _, _, 0, _, .cons h k _, e => by simp at e; subst e; exact ⟨_, rfl, h, k⟩
  | _, _, i + 1, _, .cons _ _ t, e => by
    obtain ⟨v, h1, h2⟩ := RepAll.get (i := i) t (by simpa using e)
    exact ⟨v, by simpa using h1, h2⟩
def startE (N : List Str) (ss : List Sl) : EV := ss.map some ++ List.replicate (N.length - ss.length) none
theorem rep_start {K : PySem.W.Frag} {hid : Hid} {Hb H : Hp} {N : List Str} {vs : List V} {ss : List Sl} (st : St0 hid Hb H) (r : RepAll K hid Hb H vs ss) : Rep K ⟨hid, Hb, H, Hb⟩ Hb H (start N vs) (startE N ss) := by
  have hl := r.length
  have look : ∀ (i : Nat) (s : Sl), (startE N ss)[i]? = some (some s) → ss[i]? = some s := fun i s e => by
    unfold startE at e
    rw [List.getElem?_append] at e
    split at e
    · rename_i h
      rw [List.getElem?_map] at e
      cases q : ss[i]? with
      | none => rw [q] at e; cases e
      | some u => rw [q] at e; cases e; rfl
    · rw [List.getElem?_replicate] at e
      split at e <;> cases e
  refine ⟨Step.refl st, Same.refl _, by simp [startE, L2.start, hl], fun i s e => ?_, fun i j t1 t2 p hij e _ o1 _ _ => ?_⟩
  · obtain ⟨v, h1, h2, h3⟩ := RepAll.get r (look i s e)
    refine ⟨v, ?_, h2, fr_of h3⟩
    unfold L2.start
    rw [List.getElem?_append_left (by rw [List.length_map]; exact (List.getElem?_eq_some_iff.mp h1).1), List.getElem?_map, h1]
    rfl
  · obtain ⟨v, h1, h2, h3⟩ := RepAll.get r (look i _ e)
    cases t1 with
    | own xs => cases h3
    | ownD xs => cases h3
    | ownX T => cases h3
    | imm _ => exact o1.elim
    | d x => exact o1.elim
    | v x => exact o1.elim
    | src => exact o1.elim
section
variable {P : Program} {w : World} {K : PySem.W.Frag} {mg : Str → Option Value} {base : Heap}
/-- THE RULE for a def: its body as a term of rules, and the plain reading of that term -/
theorem okD {x qual : Str} {st : Stmt} {f : Addr} {fd : FuncData} {N ps : List Str} {k : Nat} {m : FN} (F : Fun K x qual st f fd) (S : FnScope N ps (defScope st))
    (body : ∀ (G : Fr) (cdv : Value) (A : Around) (outer : List Env) (s : Shared) (H : Hp) (E : XK), RoomG k (A.deeper (envOfC qual (defScope st) s.heap.objs.size f cdv)) → ∀ (ss : List Sl) (R : DK), ss.length = ps.length → m ss R →
      ∃ ts t, DSs (cxOf CX0 P w K mg base N qual (defScope st) f cdv A outer s H E).nox G (defBody st) ts t ∧ t { nx := fun _ => R (.d .none), rt := R } (startE N ss)) :
    FnG P w K mg base CX0 (k + 1) f fd ps (spX K ps.length m) := by
  refine goes_of0 F S (fun vs H Q E h => ?_) (fun cdv A outer s H vs Q E hr hsp => ?_)
  · obtain ⟨hid, Hb, ss, R, st, r, hl, _⟩ := h
    rw [r.length]; exact hl
  · obtain ⟨hid, Hb, ss, R, st, r, hl, hm, c⟩ := hsp
    obtain ⟨ts, t, B, q⟩ := body ⟨hid, Hb, H, Hb⟩ cdv A outer s H E hr ss R hl hm
    refine ⟨ts, B.pe, B.sd Hb H _ _ _ { nx := fun _ => R (.d .none), rt := R } (rep_start st r) q ⟨fun Hb' H' σ env _ r' q => ?_, fun _ _ _ _ _ _ q => q.elim, fun _ _ _ _ _ _ q => q.elim, fun v Hb' H' s' _ st' rs fr q => ?_⟩⟩
    · exact c .non Hb' H' (.d .none) r'.step Dq.non trivial q
    · exact c v Hb' H' s' st' rs fr q
end
section
variable {X : Cx} {F : Fr} {k n : Nat} {f : Addr} {fd : FuncData} {ps : List Str} {m : FN} {x : Str} {p pos : Pos} {e : Expr} {es : List Expr} {ta : TA} {fa : DTA}
def dFn (n : Nat) (m : FN) (fa : DTA) : DTE := fun env Q => fa env fun ss => ss.length = n ∧ m ss Q
def tFn (sp : Sp) (t : TA) : TE := fun σ H Q => t σ H fun vs H1 => sp vs H1 Q E0
theorem sd_fn {K : PySem.W.Frag} (h : SdA K F ta fa) : SdE K F (tFn (spX K n m) ta) (dFn n m fa) := by
  intro Hb H σ env Q k r q c
  refine h Hb H σ env _ _ r q fun vs Hb1 H1 ss st1 rs1 q1 => ?_
  obtain ⟨hl, hm⟩ := q1
  exact ⟨F.hid, Hb1, ss, Q, st1.st, rs1, hl, hm, fun v Hb' H' s st2 r2 f2 q2 => c v Hb' H' s (st1.trans st2) r2 (FrSl.back st1 f2) q2⟩
theorem de_call (G : FnG X.prog X.w X.K X.mg X.base CX0 k f fd ps (spX X.K n m)) (hr : RoomG k X.A) (hm : X.mg x = some (.ref f)) (hk : PySem.W.keepIn X.K (.ref f) = true) (hb : Binds X.K fd ps []) (ha : DA X F (e :: es) ta fa)
    (hg : Gl X x := by rfl) (hdb : (x == ("__debug__" : Str)) = false := by decide) (he : starEach (e :: es) X.env = (false, eval e X.env) :: starEach es X.env := by rfl) (hpl : (backTo pos (starEach es X.env)).any (·.1) = false := by rfl) :
    DE X F (.Call (.Name x p) (e :: es) [] pos) (tFn (spX X.K n m) ta) (dFn n m fa) := ⟨pe_callG G hr hg hm hk hb pass0 ha.pe hdb he hpl, sd_fn (ha.sd)⟩
end

/-! ### the terms: hand layer and plain layer at once -/
section
variable {X : Cx} {F : Fr} {a b c e : Expr} {es : List Expr} {ta tb tc te : TE} {fa fb fc fe : DTE} {pos : Pos} {tt tu : TT} {ft fu : DTT} {tr : TA} {fr : DTA}
theorem da_nil : DA X F [] tNil (fun _ Q => Q []) := ⟨pa_nil, sd_nil⟩
theorem da_cons (ha : DE X F e te fe) (hr : DA X F es tr fr) (hs : starEach (e :: es) X.env = (false, eval e X.env) :: starEach es X.env := by rfl) : DA X F (e :: es) (tCons te tr) (dCons fe fr) := ⟨pa_cons ha.pe hr.pe hs, sd_cons (ha.sd) (hr.sd)⟩
theorem de_tup {x1} (h : DA X F es tr fr) : DE X F (.Tuple es x1 pos) (tTup tr) (dTupE fr) := ⟨pe_tup h.pe, sd_tup (h.sd)⟩
theorem de_lst (h : DA X F es tr fr) : DE X F (.List es pos) (tLst tr) (dLstE fr) := ⟨pe_lst h.pe, sd_lst (h.sd)⟩
theorem de_op {op : Operator} {r : R2} {f : F2} (ho : OpR X (binaryOp op) r) (lo : ∀ hid, LO X.K hid r f) (ha : DE X F a ta fa) (hb : DE X F b tb fb) : DE X F (.BinOp a op b pos) (tOp r ta tb) (dOp f fa fb) := ⟨pe_op ho ha.pe hb.pe, sd_op (lo F.hid) (ha.sd) (hb.sd)⟩
theorem de_un {op : UnaryOp} {r : V → Hp → VK → Prop} {f : F1} (ho : UnR X (unaryOp op) r) (lo : ∀ hid, LU X.K hid r f) (ha : DE X F a ta fa) : DE X F (.UnaryOp op a pos) (tUn r ta) (dUn f fa) := ⟨pe_un ho ha.pe, sd_un (lo F.hid) (ha.sd)⟩
theorem de_cmp {op : CmpOp} {r : R2} {f : F2} (ho : OpR X (compareOp op) r) (lo : ∀ hid, LO X.K hid r f) (ha : DE X F a ta fa) (hb : DE X F b tb fb) (hm : behindInMarks op b = false := by first | exact nomark _ | rfl) : DE X F (.Compare a [op] [b] pos) (tOp r ta tb) (dOp f fa fb) :=
  ⟨pe_cmpR ho ha.pe hb.pe hm, sd_op (lo F.hid) (ha.sd) (hb.sd)⟩
theorem dt_cmp {op : CmpOp} {r : R2} {f : F2} (ho : OpR X (compareOp op) r) (lo : ∀ hid, LO X.K hid r f) (ha : DE X F a ta fa) (hb : DE X F b tb fb) (hm : behindInMarks op b = false := by first | exact nomark _ | rfl) : DT X F (.Compare a [op] [b] pos) (tTest (tOp r ta tb)) (dTest (dOp f fa fb)) :=
  ⟨pt_cmpR ho ha.pe hb.pe hm, sd_test (sd_op (lo F.hid) (ha.sd) (hb.sd))⟩
theorem dt_val (h : DE X F e te fe) (he : ∀ whole, isTrue e X.env whole = (do let v ← whole; standAt e.pos; holding [v] (truthy v)) := by intro _; rfl) : DT X F e (tB te) (dTest fe) := ⟨pt_val h.pe he, sd_B (h.sd)⟩
theorem dw_and1 (ha : DT X F a tt ft) : DW X F (.BoolOp .And [a] pos) tt ft := ⟨pw_and1 ha.pe, (ha.sd)⟩
theorem dw_or1 (ha : DT X F a tt ft) : DW X F (.BoolOp .Or [a] pos) tt ft := ⟨pw_or1 ha.pe, (ha.sd)⟩
theorem dw_and (ha : DT X F a tt ft) (hb : DW X F (.BoolOp .And (b :: es) pos) tu fu) : DW X F (.BoolOp .And (a :: b :: es) pos) (tAnd tt tu) (dAnd ft fu) := ⟨pw_and ha.pe hb.pe, sd_and (ha.sd) (hb.sd)⟩
theorem dw_or (ha : DT X F a tt ft) (hb : DW X F (.BoolOp .Or (b :: es) pos) tu fu) : DW X F (.BoolOp .Or (a :: b :: es) pos) (tOr tt tu) (dOr ft fu) := ⟨pw_or ha.pe hb.pe, sd_or (ha.sd) (hb.sd)⟩
theorem DW.dt (h : DW X F e tt ft) : DT X F e tt ft := ⟨h.pe.pt, (h.sd)⟩
theorem dt_not (ha : DT X F a tt ft) : DT X F (.UnaryOp .Not a pos) (tNot tt) (dNot ft) := ⟨pt_not ha.pe, sd_not (ha.sd)⟩
theorem de_one {op} (h : DE X F a te fe) : DE X F (.BoolOp op [a] pos) te fe := ⟨pe_one h.pe, (h.sd)⟩
theorem de_or (ha : DE X F a ta fa) (hb : DE X F (.BoolOp .Or (b :: es) pos) tb fb) : DE X F (.BoolOp .Or (a :: b :: es) pos) (tOrV ta tb) (dOrV fa fb) := ⟨pe_or ha.pe hb.pe, sd_orV (ha.sd) (hb.sd)⟩
theorem de_ifE (hc : DT X F c tt ft) (ha : DE X F a ta fa) (hb : DE X F b tb fb) : DE X F (.IfExp c a b pos) (tIf tt ta tb) (dIfE ft fa fb) := ⟨pe_ifExp hc.pe ha.pe hb.pe, sd_ifE (hc.sd) (ha.sd) (hb.sd)⟩
theorem dt_peek (js : List Nat) (h : DT X F e tt ft) : DT X F e tt (dPeekT js ft) := ⟨h.pe, sd_peekT js (h.sd)⟩
/-- a built-in function, a built-in type called -/
theorem de_callB {id : String} {r : List V → Hp → VK → Prop} {f : FN} {x : Str} {p : Pos} (hc : CallR X (.builtin id) r) (lo : ∀ hid, LC X.K hid r f) (hm : X.mg x = none) (ha : DA X F (e :: es) tr fr) (hv : bootBuiltins x = some (.builtin id) := by decide +kernel) (hg : Gl X x := by rfl) (hn : x ≠ "__name__" := by decide)
    (hdb : (x == ("__debug__" : Str)) = false := by decide) (he : starEach (e :: es) X.env = (false, eval e X.env) :: starEach es X.env := by rfl) (hpl : (backTo pos (starEach es X.env)).any (·.1) = false := by rfl) : DE X F (.Call (.Name x p) (e :: es) [] pos) (tCB r tr) (dCall f fr) :=
  ⟨pe_callB hc hg hm hv ha.pe hn hdb he hpl, sd_call (lo F.hid) (ha.sd)⟩
theorem de_callTy {T : String} {r : List V → Hp → VK → Prop} {f : FN} {x : Str} {p : Pos} (hc : CallR X (.type T) r) (lo : ∀ hid, LC X.K hid r f) (hm : X.mg x = none) (ha : DA X F (e :: es) tr fr) (hv : bootBuiltins x = some (.type T) := by decide +kernel) (hg : Gl X x := by rfl) (hn : x ≠ "__name__" := by decide)
    (hdb : (x == ("__debug__" : Str)) = false := by decide) (he : starEach (e :: es) X.env = (false, eval e X.env) :: starEach es X.env := by rfl) (hpl : (backTo pos (starEach es X.env)).any (·.1) = false := by rfl) : DE X F (.Call (.Name x p) (e :: es) [] pos) (tCB r tr) (dCall f fr) :=
  ⟨pe_callTy hc hg hm hv ha.pe hn hdb he hpl, sd_call (lo F.hid) (ha.sd)⟩
theorem de_ix {r : R2} {f : F2} (hr : IxR X r) (lo : ∀ hid, LO X.K hid r f) (ha : DE X F a ta fa) (hb : DE X F b tb fb) (hs : PlainIx b := by exact fun _ _ => rfl) : DE X F (.Subscript a b pos) (tOp r ta tb) (dOp f fa fb) := ⟨pe_ix hr ha.pe hb.pe hs, sd_op (lo F.hid) (ha.sd) (hb.sd)⟩

/-! statements -/
variable {st : Stmt} {sts rest : List Stmt} {ts tv : TS} {fs fv : DTS}
theorem dss_nil : DSs X F [] tNext dNext := ⟨pss_nil, sd_next⟩
theorem dss_cons (h1 : DS X F st ts fs) (h2 : DSs X F rest tv fv) : DSs X F (st :: rest) (tSeq ts tv) (dSeq fs fv) := ⟨pss_cons h1.pe h2.pe, sd_seq (h1.sd) (h2.sd)⟩
theorem dss_one (h1 : DS X F st ts fs) : DSs X F [st] ts fs := ⟨pss_one h1.pe, (h1.sd)⟩
theorem ds_ret (he : DE X F e te fe) : DS X F (.Return (some e) pos) (tRet te) (dRet fe) := ⟨ps_ret he.pe, sd_ret (he.sd)⟩
theorem ds_if {as bs : List Stmt} (hc : DT X F c tt ft) (h1 : DSs X F as ts fs) (h2 : DSs X F bs tv fv) : DS X F (.If c as bs pos) (tIfS tt ts tv) (dIf ft fs fv) := ⟨ps_if hc.pe h1.pe h2.pe, sd_if (hc.sd) (h1.sd) (h2.sd)⟩
theorem ds_set (i : Nat) {x : Str} {pos' : Pos} (hN : X.N.Nodup) (he : DE X F e te fe) (hi : X.N[i]? = some x := by rfl) (hx : Loc X.env.scope x := by first | exact Or.inl rfl | exact Or.inr rfl) (hs : swapsWith e (some (.Name x pos')) pos.line X.env = pure false := by rfl) (hf : X.fn x = true ∨ X.env.scope.names.lookup x = some .local := by first | exact .inl rfl | exact .inr rfl) :
    DS X F (.Assign [.Name x pos'] e pos) (tAsg te (gName i)) (dSet fe i) := ⟨ps_set hN hi hx he.pe hs hf, sd_set i (he.sd)⟩
end
end Pu

end

section
/-! Pu5: rules by values. -/
namespace Pu
open PySem L2 PyProof.Rows

/-! ### ints -/
def dII (g : Int → Int → PyData) : F2 := fun s u Q => match s, u with
  | .d (.int i), .d (.int j) => Q (.d (g i j))
  | _, _ => False
def dIC (C : Int → Int → Prop) (g : Int → Int → PyData) : F2 := fun s u Q => match s, u with
  | .d (.int i), .d (.int j) => C i j ∧ Q (.d (g i j))
  | _, _ => False
section
variable {K : PySem.W.Frag} {hid : Hid}
theorem lo_I0 {g : Int → Int → V} {g' : Int → Int → PyData} (hg : ∀ (i j : Int) (Hb : Hp), Dq K Hb (g i j) (g' i j)) : LO K hid (rI0 g) (dII g') := by
  intro Hb H x y s u Q k st rx ry q c
  unfold dII at q
  split at q
  · rename_i i j
    exact ⟨i, j, int_of rx, int_of ry, c _ Hb H (.d (g' i j)) (Step.refl st) (hg i j Hb) trivial q⟩
  · exact q.elim
theorem lo_I {C : Int → Int → Prop} {g : Int → Int → V} {g' : Int → Int → PyData} (hg : ∀ (i j : Int) (Hb : Hp), Dq K Hb (g i j) (g' i j)) : LO K hid (rI C g) (dIC C g') := by
  intro Hb H x y s u Q k st rx ry q c
  unfold dIC at q
  split at q
  · rename_i i j
    exact ⟨i, j, int_of rx, int_of ry, q.1, c _ Hb H (.d (g' i j)) (Step.refl st) (hg i j Hb) trivial q.2⟩
  · exact q.elim
abbrev fAdd : F2 := dII fun i j => .int (i + j)
abbrev fSub : F2 := dII fun i j => .int (i - j)
abbrev fPow : F2 := dIC CPow fun i j => .int (i ^ j.toNat)
abbrev fLt : F2 := dII fun i j => .bool (decide (i < j))
abbrev fLe : F2 := dII fun i j => .bool (decide (i ≤ j))
abbrev fGt : F2 := dII fun i j => .bool (decide (j < i))
theorem lo_add : LO K hid (rI0 fun i j => .int (i + j)) fAdd := lo_I0 fun _ _ _ => .int _
theorem lo_sub : LO K hid (rI0 fun i j => .int (i - j)) fSub := lo_I0 fun _ _ _ => .int _
theorem lo_pow : LO K hid (rI CPow fun i j => .int (i ^ j.toNat)) fPow := lo_I fun _ _ _ => .int _
theorem lo_lt : LO K hid (rI0 fun i j => .bl (decide (i < j))) fLt := lo_I0 fun _ _ _ => .bl _
theorem lo_le : LO K hid (rI0 fun i j => .bl (decide (i ≤ j))) fLe := lo_I0 fun _ _ _ => .bl _
theorem lo_gt : LO K hid (rI0 fun i j => .bl (decide (j < i))) fGt := lo_I0 fun _ _ _ => .bl _
def fNeg : F1 := fun s Q => match s with
  | .d (.int i) => Q (.d (.int (-i)))
  | _ => False
theorem lu_neg : LU K hid (rU fun i => .int (-i)) fNeg := by
  intro Hb H x s Q k st rx q c
  unfold fNeg at q
  split at q
  · rename_i i
    exact ⟨i, int_of rx, c _ Hb H (.d (.int (-i))) (Step.refl st) (Dq.int _) trivial q⟩
  · exact q.elim
end

/-! ### data is read -/
section
variable {X : Cx} {pins : List (Addr × Obj)} {σ : L2.St} {H : Hp} {s : Shared}
theorem Dq.readsP (I : Inv X pins σ H s) {d : PyData} {v : V} (h : Dq X.K H v d) : d.hasDict = false → ∀ u, RelV v u → ∃ as, Reads s.heap u d as := by
  refine Dq.rec (motive_1 := fun v d _ => d.hasDict = false → ∀ u, RelV v u → ∃ as, Reads s.heap u d as) (motive_2 := fun vs ds _ => PyData.hasDictAll ds = false → ∀ us, Vals vs us → ∃ as, ReadsAll s.heap us ds as) ?_ ?_ ?_ ?_ ?_ ?_ ?_ ?_ ?_ h
  · intro _ u r; cases r; exact ⟨_, Reads.none⟩
  · intro b _ u r; cases r; exact ⟨_, Reads.bool b⟩
  · intro i _ u r; obtain ⟨t, rfl⟩ := r; exact ⟨_, Reads.int i t⟩
  · intro x _ u r; obtain ⟨t, rfl⟩ := r; exact ⟨_, Reads.str x t⟩
  · intro a xs ds h1 _ i hd u r
    cases r
    obtain ⟨its, rv, ⟨o, n, ho, hc, _, hdat⟩, _⟩ := I.list (SqL.of h1)
    obtain ⟨as, hr⟩ := i (by simpa [PyData.hasDict] using hd) its rv
    exact ⟨_, Reads.list ho hc hdat hr⟩
  · intro a xs ds h1 _ i hd u r
    cases r
    obtain ⟨its, rv, ⟨o, ho, hc, n, hdat⟩, _⟩ := I.tuple h1
    obtain ⟨as, hr⟩ := i (by simpa [PyData.hasDict] using hd) its rv
    exact ⟨_, Reads.tuple ho hc hdat hr⟩
  · intro a kvs ds h1 h2 _ i hd u r
    simp [PyData.hasDict] at hd
  · intro _ us r; cases r; exact ⟨_, ReadsAll.nil⟩
  · intro v vs d ds _ _ i1 i2 hd us r
    cases r with
    | cons r1 r2 =>
      have hd' : d.hasDict = false ∧ PyData.hasDictAll ds = false := by simpa [PyData.hasDictAll] using hd
      obtain ⟨as, q1⟩ := i1 hd'.1 _ r1
      obtain ⟨bs, q2⟩ := i2 hd'.2 _ r2
      exact ⟨_, ReadsAll.cons q1 q2⟩
end
section
variable {X : Cx}
/-- data that is compared: without dicts, not too deep -/
def okD1 (d : PyData) : Prop := d.hasDict = false ∧ SeqAt.shaped d = true
def rEqQ (K : PySem.W.Frag) : R2 := fun x y H Q => ∃ d e, Dq K H x d ∧ Dq K H y e ∧ okD1 d ∧ okD1 e ∧ Q (.bl (PyData.eqv d e)) H
def rNeQ (K : PySem.W.Frag) : R2 := fun x y H Q => ∃ d e, Dq K H x d ∧ Dq K H y e ∧ okD1 d ∧ okD1 e ∧ Q (.bl (!PyData.eqv d e)) H
theorem op_eqQ (hu : X.A.units + 64 < cLine) : OpR X (compareOp .Eq) (rEqQ X.K) := by
  intro pins s σ H x y v u Q I rx ry h
  obtain ⟨d, e, hd, he, sd, se, q⟩ := h
  obtain ⟨as, r1⟩ := Dq.readsP I hd sd.1 v rx
  obtain ⟨bs, r2⟩ := Dq.readsP I he se.1 u ry
  exact SeqAt.compareEq_shaped r1 r2 sd.2 se.2 hu ⟨.bl _, H, I, rfl, q⟩
theorem op_neQ (hu : X.A.units + 64 < cLine) : OpR X (compareOp .NotEq) (rNeQ X.K) := by
  intro pins s σ H x y v u Q I rx ry h
  obtain ⟨d, e, hd, he, sd, se, q⟩ := h
  obtain ⟨as, r1⟩ := Dq.readsP I hd sd.1 v rx
  obtain ⟨bs, r2⟩ := Dq.readsP I he se.1 u ry
  exact SeqAt.compareNe_shaped r1 r2 sd.2 se.2 hu ⟨.bl _, H, I, rfl, q⟩
def fEq : F2 := fun s u Q => match s, u with
  | .d x, .d y => okD1 x ∧ okD1 y ∧ Q (.d (.bool (PyData.eqv x y)))
  | _, _ => False
def fNe : F2 := fun s u Q => match s, u with
  | .d x, .d y => okD1 x ∧ okD1 y ∧ Q (.d (.bool (!PyData.eqv x y)))
  | _, _ => False
variable {K : PySem.W.Frag} {hid : Hid}
theorem lo_eq : LO K hid (rEqQ K) fEq := by
  intro Hb H x y s u Q k st rx ry q c
  unfold fEq at q
  split at q
  · rename_i d e
    exact ⟨d, e, Dq.mono st.ex rx, Dq.mono st.ex ry, q.1, q.2.1, c _ Hb H (.d (.bool _)) (Step.refl st) (Dq.bl _) trivial q.2.2⟩
  · exact q.elim
theorem lo_ne : LO K hid (rNeQ K) fNe := by
  intro Hb H x y s u Q k st rx ry q c
  unfold fNe at q
  split at q
  · rename_i d e
    exact ⟨d, e, Dq.mono st.ex rx, Dq.mono st.ex ry, q.1, q.2.1, c _ Hb H (.d (.bool _)) (Step.refl st) (Dq.bl _) trivial q.2.2⟩
  · exact q.elim
/-- is None, is not None -/
def isNoneD : PyData → Bool
  | .none => true
  | _ => false
def fIsN : F2 := fun s u Q => match s, u with
  | .d x, .d .none => Q (.d (.bool (isNoneD x)))
  | _, _ => False
def fNotN : F2 := fun s u Q => match s, u with
  | .d x, .d .none => Q (.d (.bool (!isNoneD x)))
  | _, _ => False
theorem dq_non {Hb : Hp} {v : V} {x : PyData} (h : Dq K Hb v x) : decide (v = .non) = isNoneD x := by
  cases h <;> rfl
theorem lo_isN : LO K hid (fun x y H Q => y = .non ∧ Q (.bl (decide (x = .non))) H) fIsN := by
  intro Hb H x y s u Q k st rx ry q c
  unfold fIsN at q
  split at q
  · rename_i d
    cases (show Dq K Hb y .none from ry)
    exact ⟨rfl, c _ Hb H (.d (.bool _)) (Step.refl st) (show Dq K Hb _ _ by rw [dq_non (K := K) rx]; exact Dq.bl _) trivial q⟩
  · exact q.elim
theorem lo_notN : LO K hid (fun x y H Q => y = .non ∧ Q (.bl (!decide (x = .non))) H) fNotN := by
  intro Hb H x y s u Q k st rx ry q c
  unfold fNotN at q
  split at q
  · rename_i d
    cases (show Dq K Hb y .none from ry)
    exact ⟨rfl, c _ Hb H (.d (.bool _)) (Step.refl st) (show Dq K Hb _ _ by rw [dq_non (K := K) rx]; exact Dq.bl _) trivial q⟩
  · exact q.elim
/-- texts in order -/
def fLtS : F2 := fun s u Q => match s, u with
  | .d (.str i), .d (.str j) => Q (.d (.bool (decide (i.cps.toList < j.cps.toList))))
  | _, _ => False
/-! ### in -/
def fInQ (neg : Bool) : F2 := fun s u Q => match s, u with
  | .d x, .d (.list ys) => flatD x = true ∧ ys.all flatD = true ∧ Q (.d (.bool (if neg then !(ys.any fun y => PyData.eqv y x) else ys.any fun y => PyData.eqv y x)))
  | .d x, .d (.tuple ys) => flatD x = true ∧ ys.all flatD = true ∧ Q (.d (.bool (if neg then !(ys.any fun y => PyData.eqv y x) else ys.any fun y => PyData.eqv y x)))
  | _, _ => False
theorem flat_v {Hb : Hp} {v : V} {x : PyData} (h : Dq K Hb v x) (f : flatD x = true) : flatV v = true := by
  cases h <;> first | rfl | exact absurd f Bool.false_ne_true
theorem eqv_v {Hb Hc : Hp} {v u : V} {x y : PyData} (h : Dq K Hb v x) (g : Dq K Hc u y) (f : flatD x = true) (f' : flatD y = true) : eqV v u = PyData.eqv x y := by
  cases h <;> first | exact absurd f Bool.false_ne_true | (cases g <;> first | exact absurd f' Bool.false_ne_true | (simp only [eqV, PyData.eqv]))
theorem flats_v {Hb : Hp} : ∀ {ys : List PyData} {vs : List V}, DqAll K Hb vs ys → ys.all flatD = true → vs.all flatV = true
  | [], _, .nil, _ => rfl
  | _ :: _, _, .cons h t, f => by
    simp only [List.all_cons, Bool.and_eq_true] at f ⊢
    exact ⟨flat_v h f.1, flats_v t f.2⟩
theorem inV_d {Hb Hc : Hp} {v : V} {x : PyData} (h : Dq K Hb v x) (f : flatD x = true) : ∀ {ys : List PyData} {vs : List V}, DqAll K Hc vs ys → ys.all flatD = true → inV v vs = ys.any fun y => PyData.eqv y x
  | [], _, .nil, _ => rfl
  | y :: ys, _, .cons (v := u) (vs := us) g t, f' => by
    simp only [List.all_cons, Bool.and_eq_true] at f'
    have i := inV_d h f t f'.2
    unfold inV at i ⊢
    rw [List.any_cons, List.any_cons, i, eqv_v g h f'.1 f]
theorem lo_in (neg : Bool) : LO K hid (rIn K neg) (fInQ neg) := by
  intro Hb H x y s u Q k st rx ry q c
  unfold fInQ at q
  split at q
  · rename_i d ys
    cases (show Dq K Hb y (.list ys) from ry) with
    | lst h1 h2 =>
      refine ⟨_, _, rfl, .inl (SqL.of (st.ex _ _ h1)), flat_v rx q.1, flats_v h2 q.2.1, ?_⟩
      rw [inV_d (K := K) rx q.1 h2 q.2.1]
      exact c _ Hb H (.d (.bool _)) (Step.refl st) (Dq.bl _) trivial q.2.2
  · rename_i d ys
    cases (show Dq K Hb y (.tuple ys) from ry) with
    | tup h1 h2 =>
      refine ⟨_, _, rfl, .inr (Same.seqT st.ex h1), flat_v rx q.1, flats_v h2 q.2.1, ?_⟩
      rw [inV_d (K := K) rx q.1 h2 q.2.1]
      exact c _ Hb H (.d (.bool _)) (Step.refl st) (Dq.bl _) trivial q.2.2
  · exact q.elim
end

/-! ### items, slices, lengths -/
section
variable {K : PySem.W.Frag} {hid : Hid}
def fIx : F2 := fun s u Q => match s, u with
  | .d (.list xs), .d (.int i) => ∃ d, atI xs i = some d ∧ Q (.d d)
  | .d (.tuple xs), .d (.int i) => ∃ d, atI xs i = some d ∧ Q (.d d)
  | .d (.str z), .d (.int i) => ∃ c, z.length ≤ sizeLine ∧ atI z.cps.toList i = some c ∧ Q (.d (.str ⟨#[c]⟩))
  | _, _ => False
theorem at_d {Hb : Hp} {ds : List PyData} {vs : List V} {i : Int} {d : PyData} (h : DqAll K Hb vs ds) (e : atI ds i = some d) : ∃ v, atI vs i = some v ∧ Dq K Hb v d := by
  unfold atI at e ⊢
  rw [DqAll.length h]
  cases q : ixN ds.length i with
  | none => rw [q] at e; cases e
  | some j =>
    rw [q] at e
    obtain ⟨v, h1, h2⟩ := DqAll.get' h (show ds[j]? = some d from e)
    exact ⟨v, h1, h2⟩
theorem lo_ix : LO K hid (rIx K) fIx := by
  intro Hb H x y s u Q k st rx ry q c
  unfold fIx at q
  split at q
  · rename_i xs i
    obtain ⟨d, e, q⟩ := q
    cases (show Dq K Hb x (.list xs) from rx) with
    | lst h1 h2 =>
      obtain ⟨v, h3, h4⟩ := at_d h2 e
      exact .inl ⟨_, _, i, v, rfl, int_of ry, SqL.of (st.ex _ _ h1), h3, c v Hb H (.d d) (Step.refl st) h4 trivial q⟩
  · rename_i xs i
    obtain ⟨d, e, q⟩ := q
    cases (show Dq K Hb x (.tuple xs) from rx) with
    | tup h1 h2 =>
      obtain ⟨v, h3, h4⟩ := at_d h2 e
      exact .inr (.inl ⟨_, _, i, v, rfl, int_of ry, Same.seqT st.ex h1, h3, c v Hb H (.d d) (Step.refl st) h4 trivial q⟩)
  · rename_i z i
    obtain ⟨ch, hz, e, q⟩ := q
    exact .inr (.inr ⟨z, i, ch, str_of rx, int_of ry, hz, e, c _ Hb H (.d (.str _)) (Step.refl st) (Dq.str _) trivial q⟩)
  · exact q.elim
def fLen : FN := fun ss Q => match ss with
  | [.d (.list xs)] => Q (.d (.int xs.length))
  | [.d (.tuple xs)] => Q (.d (.int xs.length))
  | [.d (.str z)] => z.length ≤ sizeLine ∧ Q (.d (.int z.length))
  | _ => False
theorem rep1 {Hb H : Hp} {xs : List V} {s : Sl} (r : RepAll K hid Hb H xs [s]) : ∃ v, xs = [v] ∧ RepSl K hid Hb H v s := by
  cases r with
  | cons h _ t => cases t; exact ⟨_, rfl, h⟩
theorem rep2 {Hb H : Hp} {xs : List V} {s u : Sl} (r : RepAll K hid Hb H xs [s, u]) : ∃ v w, xs = [v, w] ∧ RepSl K hid Hb H v s ∧ RepSl K hid Hb H w u := by
  cases r with
  | cons h _ t => obtain ⟨w, e, h2⟩ := rep1 t; subst e; exact ⟨_, _, rfl, h, h2⟩
theorem lc_len : LC K hid (fun xs H Q => ∃ x n, xs = [x] ∧ LenV K x H n ∧ Q (.int n) H) fLen := by
  intro Hb H xs ss Q k st r q c
  unfold fLen at q
  split at q
  · rename_i ys
    obtain ⟨v, rfl, h⟩ := rep1 r
    cases (show Dq K Hb v (.list ys) from h) with
    | lst h1 h2 => exact ⟨_, _, rfl, .inl ⟨_, SqL.of (st.ex _ _ h1), DqAll.length h2 ▸ rfl⟩, c _ Hb H (.d (.int _)) (Step.refl st) (Dq.int _) trivial q⟩
  · rename_i ys
    obtain ⟨v, rfl, h⟩ := rep1 r
    cases (show Dq K Hb v (.tuple ys) from h) with
    | tup h1 h2 => exact ⟨_, _, rfl, .inr ⟨_, Same.seqT st.ex h1, DqAll.length h2 ▸ rfl⟩, c _ Hb H (.d (.int _)) (Step.refl st) (Dq.int _) trivial q⟩
  · rename_i z
    obtain ⟨v, rfl, h⟩ := rep1 r
    rw [str_of h]
    exact ⟨_, _, rfl, ⟨q.1, rfl⟩, c _ Hb H (.d (.int _)) (Step.refl st) (Dq.int _) trivial q.2⟩
  · exact q.elim
/-- list(xs), tuple(xs): new ones -/
def fListOf : FN := fun ss Q => match ss with
  | [.d (.list xs)] => Q (.own xs)
  | [.d (.tuple xs)] => Q (.own xs)
  | _ => False
theorem lc_list : LC K hid (fun xs H Q => ∃ p ys, xs = [.ref p] ∧ (SqL K H p ys ∨ SqT K H p ys) ∧ ∀ l, H l = none → Q (.ref l) (upd H l (.lst ys))) fListOf := by
  intro Hb H xs ss Q k st r q c
  unfold fListOf at q
  split at q
  · rename_i ys
    obtain ⟨v, rfl, h⟩ := rep1 r
    cases (show Dq K Hb v (.list ys) from h) with
    | lst h1 h2 =>
      refine ⟨_, _, rfl, .inl (SqL.of (st.ex _ _ h1)), fun l hl => ?_⟩
      obtain ⟨s2, r2, f2⟩ := own_new (K := K) st hl h2
      exact c _ Hb _ (.own ys) s2 r2 f2 q
  · rename_i ys
    obtain ⟨v, rfl, h⟩ := rep1 r
    cases (show Dq K Hb v (.tuple ys) from h) with
    | tup h1 h2 =>
      refine ⟨_, _, rfl, .inr (Same.seqT st.ex h1), fun l hl => ?_⟩
      obtain ⟨s2, r2, f2⟩ := own_new (K := K) st hl h2
      exact c _ Hb _ (.own ys) s2 r2 f2 q
  · exact q.elim
/-- xs + ys -/
def fCat : F2 := fun s u Q => match s, u with
  | .d (.list xs), .d (.list ys) => xs.length + ys.length ≤ sizeLine ∧ Q (.own (xs ++ ys))
  | _, _ => False
theorem lo_cat : LO K hid rCat fCat := by
  intro Hb H x y s u Q k st rx ry q c
  unfold fCat at q
  split at q
  · rename_i xs ys
    cases (show Dq K Hb x (.list xs) from rx) with
    | lst h1 h2 =>
      cases (show Dq K Hb y (.list ys) from ry) with
      | lst g1 g2 =>
        refine ⟨_, _, _, _, rfl, rfl, st.ex _ _ h1, st.ex _ _ g1, by rw [DqAll.length h2, DqAll.length g2]; exact q.1, fun p hp => ?_⟩
        obtain ⟨s2, r2, f2⟩ := own_new (K := K) st hp (DqAll.append h2 g2)
        exact c _ Hb _ (.own _) s2 r2 f2 q.2
  · exact q.elim
def fCatT : F2 := fun s u Q => match s, u with
  | .d (.tuple xs), .d (.tuple ys) => xs.length + ys.length ≤ sizeLine ∧ Q (.d (.tuple (xs ++ ys)))
  | _, _ => False
theorem lo_catT : LO K hid (rCatA K) fCatT := by
  intro Hb H x y s u Q k st rx ry q c
  unfold fCatT at q
  split at q
  · rename_i xs ys
    cases (show Dq K Hb x (.tuple xs) from rx) with
    | tup h1 h2 =>
      cases (show Dq K Hb y (.tuple ys) from ry) with
      | tup g1 g2 =>
        refine ⟨_, _, _, _, rfl, rfl, Same.seqT st.ex h1, Same.seqT st.ex g1, by rw [DqAll.length h2, DqAll.length g2]; exact q.1, fun e => ?_, fun _ e => ?_, fun _ _ p hp => ?_⟩
        · subst e
          cases h2
          exact c _ Hb H (.d (.tuple _)) (Step.refl st) (Dq.tup g1 g2) trivial q.2
        · subst e
          cases g2
          refine c _ Hb H (.d (.tuple _)) (Step.refl st) (Dq.tup h1 h2) trivial ?_
          have := q.2
          rw [List.append_nil] at this
          exact this
        · obtain ⟨s2, r2⟩ := tup_new (K := K) st hp (DqAll.append h2 g2)
          exact c _ _ _ (.d (.tuple _)) s2 r2 trivial q.2
  · exact q.elim
/-- xs * k -/
def fRep : F2 := fun s u Q => match s, u with
  | .d (.list xs), .d (.int k) => -(2 ^ 63) ≤ k ∧ k < 2 ^ 63 ∧ xs.length * k.toNat ≤ sizeLine ∧ Q (.own (List.replicate k.toNat xs).flatten)
  | _, _ => False
theorem DqAll.rep {Hb : Hp} {ds : List PyData} {vs : List V} (h : DqAll K Hb vs ds) : ∀ k : Nat, DqAll K Hb (List.replicate k vs).flatten (List.replicate k ds).flatten
  | 0 => .nil
  | k + 1 => by
    rw [List.replicate_succ, List.replicate_succ, List.flatten_cons, List.flatten_cons]
    exact DqAll.append h (DqAll.rep h k)
theorem lo_rep : LO K hid rRep fRep := by
  intro Hb H x y s u Q k st rx ry q c
  unfold fRep at q
  split at q
  · rename_i xs j
    cases (show Dq K Hb x (.list xs) from rx) with
    | lst h1 h2 =>
      refine ⟨_, j, _, rfl, int_of ry, st.ex _ _ h1, q.1, q.2.1, by rw [DqAll.length h2]; exact q.2.2.1, fun p hp => ?_⟩
      obtain ⟨s2, r2, f2⟩ := own_new (K := K) st hp (DqAll.rep h2 _)
      exact c _ Hb _ (.own _) s2 r2 f2 q.2.2.2
  · exact q.elim
def fCatS : F2 := fun s u Q => match s, u with
  | .d (.str i), .d (.str j) => i.length + j.length ≤ sizeLine ∧ Q (.d (.str (i ++ j)))
  | _, _ => False
theorem lo_catS : LO K hid (fun x y H Q => ∃ i j, x = .str i ∧ y = .str j ∧ i.length + j.length ≤ sizeLine ∧ Q (.str (i ++ j)) H) fCatS := by
  intro Hb H x y s u Q k st rx ry q c
  unfold fCatS at q
  split at q
  · rename_i i j
    exact ⟨i, j, str_of rx, str_of ry, q.1, c _ Hb H (.d (.str _)) (Step.refl st) (Dq.str _) trivial q.2⟩
  · exact q.elim
end
end Pu

end

section
/-! Pu6: slices, what is walked, loops and comprehensions as terms, repr, sorted, isinstance. -/
namespace Pu
open PySem L2 PyProof.Rows RZ

/-! ### slices -/
abbrev DTO := EV → (Option Int → Prop) → Prop
def dNoPart : DTO := fun _ Q => Q none
def dPart (f : DTE) : DTO := fun env Q => f env fun s => ∃ i, s.fz = .d (.int i) ∧ Q (some i)
abbrev FS := Sl → Option Int → Option Int → DK → Prop
def dSl (f : FS) (fe : DTE) (fl fh : DTO) : DTE := fun env Q => fe env fun s => fl env fun l => fh env fun h => f s.fz l h Q
section
variable (K : PySem.W.Frag) (F : Fr) (hid : Hid)
def SdO (to : TO) (t : DTO) : Prop := ∀ (Hb H : Hp) (σ : L2.St) (env : EV) (Q : Option Int → Prop) (k : Option Int → Hp → Prop), Rep K F Hb H σ env → t env Q →
  (∀ o Hb' H', Step F.hid Hb H Hb' H' → Q o → k o H') → to σ H k
def LS (r : V → Option Int → Option Int → Hp → VK → Prop) (f : FS) : Prop := ∀ (Hb H : Hp) (x : V) (s : Sl) (lo hi : Option Int) (Q : DK) (k : VK), St0 hid Hb H → RepSl K hid Hb H x s → f s lo hi Q →
  (∀ v Hb' H' s', Step hid Hb H Hb' H' → RepSl K hid Hb' H' v s' → FrSl H v s' → Q s' → k v H') → r x lo hi H k
end
structure DO (X : Cx) (F : Fr) (e : Option Expr) (to : TO) (t : DTO) : Prop where
  pe : PO X e to
  sd : SdO X.K F to t
section
variable {K : PySem.W.Frag} {F : Fr} {hid : Hid} {te : TE} {fe : DTE} {tl th : TO} {fl fh : DTO}
theorem so_none : SdO K F tNoPart dNoPart := fun Hb H σ env Q k r q c => c none Hb H (Step.refl r.st) q
theorem so_some (h : SdE K F te fe) : SdO K F (tPart te) (dPart fe) := by
  intro Hb H σ env Q k r q c
  refine h.go (Q := fun s => ∃ i, s = .d (.int i) ∧ Q (some i)) r q fun x Hb1 H1 s st1 rs1 _ q1 => ?_
  obtain ⟨i, e, q1⟩ := q1
  subst e
  exact ⟨i, int_of rs1, c _ Hb1 H1 st1 q1⟩
theorem sd_slice {r : V → Option Int → Option Int → Hp → VK → Prop} {f : FS} (ls : LS K F.hid r f) (he : SdE K F te fe) (hl : SdO K F tl fl) (hh : SdO K F th fh) : SdE K F (tSl r te tl th) (dSl f fe fl fh) := by
  intro Hb H σ env Q k rp q c
  refine he.go (Q := fun s => fl env fun l => fh env fun h => f s l h Q) rp q fun x Hb1 H1 s st1 rs1 _ q1 => ?_
  refine hl Hb1 H1 σ env _ _ (rp.on st1) q1 fun l Hb2 H2 st2 q2 => ?_
  refine hh Hb2 H2 σ env _ _ (rp.on (st1.trans st2)) q2 fun h Hb3 H3 st3 q3 => ?_
  have all := (st1.trans st2).trans st3
  exact ls Hb3 H3 x s l h Q k st3.st (rs1.step (st2.trans st3)) q3 fun v Hb' H' s' st4 r4 f4 q4 => c v Hb' H' s' (all.trans st4) r4 (FrSl.back all f4) q4
def cutD (xs : List PyData) (lo hi : Option Int) : List PyData := (xs.drop (HT.sIx xs.length 0 lo)).take (HT.sIx xs.length xs.length hi - HT.sIx xs.length 0 lo)
theorem cut_all {Hb : Hp} {vs : List V} {xs : List PyData} (h : DqAll K Hb vs xs) (lo hi : Option Int) : DqAll K Hb (cutV vs lo hi) (cutD xs lo hi) := by
  unfold cutV cutD
  rw [DqAll.length h]
  exact DqAll.take _ (DqAll.drop _ h)
def fSlL : FS := fun s lo hi Q => match s with
  | .d (.list xs) => Q (.own (cutD xs lo hi))
  | _ => False
def fSlT : FS := fun s lo hi Q => match s with
  | .d (.tuple xs) => Q (.d (.tuple (cutD xs lo hi)))
  | _ => False
def fSlS : FS := fun s lo hi Q => match s with
  | .d (.str z) => z.length ≤ sizeLine ∧ Q (.d (.str (cutS z lo hi)))
  | _ => False
theorem ls_list : LS K hid (rSlL K) fSlL := by
  intro Hb H x s lo hi Q k st rx q c
  unfold fSlL at q
  split at q
  · rename_i xs
    cases (show Dq K Hb x (.list xs) from rx) with
    | lst h1 h2 =>
      refine ⟨_, _, rfl, SqL.of (st.ex _ _ h1), fun p hp => ?_⟩
      obtain ⟨s2, r2, f2⟩ := own_new (K := K) st hp (cut_all h2 lo hi)
      exact c _ Hb _ (.own _) s2 r2 f2 q
  · exact q.elim
theorem cut_whole {α : Type} {xs : List α} {lo hi : Option Int} (h : HT.sIx xs.length 0 lo = 0 ∧ HT.sIx xs.length xs.length hi = xs.length) : (xs.drop (HT.sIx xs.length 0 lo)).take (HT.sIx xs.length xs.length hi - HT.sIx xs.length 0 lo) = xs := by
  rw [h.1, h.2]
  simp
theorem ls_tup : LS K hid (rSlA K) fSlT := by
  intro Hb H x s lo hi Q k st rx q c
  unfold fSlT at q
  split at q
  · rename_i xs
    cases (show Dq K Hb x (.tuple xs) from rx) with
    | tup h1 h2 =>
      refine ⟨_, _, rfl, Same.seqT st.ex h1, fun hw => ?_, fun _ p hp => ?_⟩
      · rw [DqAll.length h2] at hw
        refine c _ Hb H (.d (.tuple (cutD xs lo hi))) (Step.refl st) ?_ trivial q
        unfold cutD
        rw [cut_whole hw]
        exact Dq.tup h1 h2
      · obtain ⟨s2, r2⟩ := tup_new (K := K) st hp (cut_all h2 lo hi)
        exact c _ _ _ (.d (.tuple _)) s2 r2 trivial q
  · exact q.elim
end

/-! ### zip, enumerate -/
section
variable {K : PySem.W.Frag} {F : Fr} {hid : Hid} {tr : TA} {fr : DTA} {a b : Addr} {xs ys : List V}
end

/-! ### terms -/
structure DG (X : Cx) (F : Fr) (js : List Nat) (tg : Expr) (g : TG) (t : DTG) : Prop where
  pe : PG X tg g
  sd : SdG X.K F js g t
structure DGs (X : Cx) (F : Fr) (js : List Nat) (tg : List Expr) (g : TGs) (t : DTGs) : Prop where
  pe : PGs X tg g
  sd : SdGs X.K F js g t
structure DP (X : Cx) (F : Fr) (es : List Expr) (te : TT) (t : DTT) : Prop where
  pe : PTs X es te
  sd : SdT X.K F te t
def dYes : DTT := fun _ Q => Q true
section
variable {X : Cx} {F : Fr} {js : List Nat} {e tg iter elt c : Expr} {es : List Expr} {te : TE} {fe : DTE} {tr : TA} {fr : DTA} {wi : TI} {fi : DTI} {g : TG} {fg : DTG} {gs : TGs} {fgs : DTGs} {tt : TT} {ft : DTT} {ts : TS} {fs : DTS} {p pos : Pos}
theorem do_none : DO X F none tNoPart dNoPart := ⟨po_none, so_none⟩
theorem do_some (h : DE X F e te fe) : DO X F (some e) (tPart te) (dPart fe) := ⟨po_some h.pe, so_some (h.sd)⟩
theorem de_slice {r : V → Option Int → Option Int → Hp → VK → Prop} {f : FS} {lo hi : Option Expr} {tl th : TO} {fl fh : DTO} {p2 : Pos} (hr : SlR X r) (ls : ∀ hid, LS X.K hid r f) (he : DE X F e te fe) (hl : DO X F lo tl fl) (hh : DO X F hi th fh) :
    DE X F (.Subscript e (.Slice lo hi none p2) pos) (tSl r te tl th) (dSl f fe fl fh) := ⟨pe_slice hr he.pe hl.pe hh.pe, sd_slice (ls F.hid) (he.sd) (hl.sd) (hh.sd)⟩
theorem di_list (h : DE X F e te fe) : DI X F tg e (iList X.K te) (dList fe) := ⟨pi_list h.pe, si_list (h.sd)⟩
theorem di_tup (h : DE X F e te fe) : DI X F tg e (iTup X.K te) (dTup fe) := ⟨pi_tup h.pe, si_tup (h.sd)⟩
theorem di_str (h : DE X F e te fe) : DI X F tg e (iStr te) (dStrI fe) := ⟨pi_str h.pe, si_str (h.sd)⟩
theorem di_rng1 {a : Expr} (hm : X.mg "range" = none) (ha : DA X F [a] tr fr) (hg : Gl X "range" := by rfl) (hs : starEach [a] X.env = [(false, eval a X.env)] := by rfl) : DI X F tg (.Call (.Name "range" p) [a] [] pos) (iRng1 tr) (dRng1 fr) := ⟨pi_range1 hg hm ha.pe hs, si_rng1 (ha.sd)⟩
theorem dg_name (i : Nat) (hj : i ∈ js) {x : Str} (hN : X.N.Nodup) (hi : X.N[i]? = some x := by rfl) (hx : Loc X.env.scope x := by first | exact Or.inl rfl | exact Or.inr rfl) (hf : X.fn x = true ∨ X.env.scope.names.lookup x = some .local := by first | exact .inl rfl | exact .inr rfl) : DG X F js (.Name x pos) (gName i) (dgName i) := ⟨pg_name hN hi hx hf, sg_name i hj⟩
theorem dgs_nil : DGs X F js [] gNil dgNil := ⟨pgs_nil, sg_nil⟩
theorem dgs_cons (h1 : DG X F js e g fg) (h2 : DGs X F js es gs fgs) (hs : (assignEach (e :: es) X.env).map (·.2) = assign e X.env :: (assignEach es X.env).map (·.2) := by rfl) : DGs X F js (e :: es) (gCons g gs) (dgCons fg fgs) := ⟨pgs_cons h1.pe h2.pe hs, sg_cons (h1.sd) (h2.sd)⟩
theorem dg_tup {k n : Nat} (hc : X.calm = true) (h : DGs X F js es gs fgs) (hn : (assignEach es X.env).length = n := by rfl) (hst : (assignEach es X.env).findIdx? (·.1) = none := by rfl) : DG X F js (.Tuple es k pos) (gTup X.K n gs) (dgTup n fgs) := ⟨pg_tup hc h.pe hn hst, sg_tup (h.sd)⟩
theorem dp_nil : DP X F [] tYes dYes := ⟨pts_nil, fun Hb H σ env Q k r q c => c true Hb H (Step.refl r.st) q⟩
theorem dp_one (h : DT X F c tt ft) : DP X F [c] tt ft := ⟨pts_one h.pe, (h.sd)⟩
theorem ds_for {body : List Stmt} (hi : DI X F tg iter wi fi) (hg : DG X F js tg g fg) (hb : DSs X F body ts fs) (hp : PassesOwn (model X.prog X.w) X.A X.env X.xe := by exact PassesOwn.never) (hc : X.calm = true := by rfl) (hs : ∀ x, foldedSetIterable iter X.env x = pure x := by intro _; rfl) :
    DS X F (.For tg iter body [] pos) (tFor wi g ts) (dFor fi fg fs) := ⟨ps_for hp hc hi.pe hg.pe hb.pe hs, sd_for (hi.sd) (hg.sd) (hb.sd)⟩
theorem de_lc {ifs : List Expr} {scope : Scope} {own : List (Str × Nat)} (hN : X.N.Nodup) (hi : DI X F tg iter wi fi) (ok : BlkOk X.N X.env.scope scope own)
    (hg : ∀ (s : Shared) (H : Hp) (C : Addr) (cl : List (Str × Addr)) (fp : List Addr), DG (X.blk s H scope (compEnvC scope cl C X.env) fp) F (own.map (·.2)) tg g fg) (ht : ∀ (s : Shared) (H : Hp) (C : Addr) (cl : List (Str × Addr)) (fp : List Addr), DP (X.blk s H scope (compEnvC scope cl C X.env) fp) F ifs tt ft)
    (he : ∀ (s : Shared) (H : Hp) (C : Addr) (cl : List (Str × Addr)) (fp : List Addr), DE (X.blk s H scope (compEnvC scope cl C X.env) fp) F elt te fe) (hc : X.calm = true := by rfl) (hs : ∀ x, foldedSetIterable iter X.env x = pure x := by intro _; rfl) :
    DE X F (.ListComp elt [⟨tg, iter, ifs, 0⟩] scope pos) (tLc wi g tt te (own.map (·.2))) (dLc fi fg ft fe (own.map (·.2))) :=
  ⟨pe_lc hc hN hi.pe ok (fun s H C cl fp => (hg s H C cl fp).pe) (fun s H C cl fp => (ht s H C cl fp).pe) (fun s H C cl fp => (he s H C cl fp).pe) hs,
    sd_lc (hi.sd) ((hg {} (fun _ => none) 0 [] []).sd) ((ht {} (fun _ => none) 0 [] []).sd) ((he {} (fun _ => none) 0 [] []).sd)⟩
end

/-! ### repr -/
section
variable {X : Cx} {K : PySem.W.Frag} {hid : Hid}
/-! ### sorted texts -/
def strsD : List PyData → Option (List Str)
  | [] => some []
  | .str x :: ds => (strsD ds).map (x :: ·)
  | _ :: _ => none
theorem strs_rep {Hb : Hp} : ∀ {ds : List PyData} {vs : List V} {xs : List Str}, DqAll K Hb vs ds → strsD ds = some xs → vs = xs.map V.str
  | [], _, _, .nil, e => by cases e; rfl
  | .str x :: ds, _, xs, .cons h t, e => by
    unfold strsD at e
    cases q : strsD ds with
    | none => rw [q] at e; cases e
    | some ys =>
      rw [q] at e
      cases e
      cases h
      rw [strs_rep t q]
      rfl
  | .none :: _, _, _, _, e => by cases e
  | .bool _ :: _, _, _, _, e => by cases e
  | .int _ :: _, _, _, _, e => by cases e
  | .list _ :: _, _, _, _, e => by cases e
  | .tuple _ :: _, _, _, _, e => by cases e
  | .dict _ :: _, _, _, _, e => by cases e
theorem strs_all {Hb : Hp} : ∀ xs : List Str, DqAll K Hb (xs.map V.str) (xs.map PyData.str)
  | [] => .nil
  | x :: xs => .cons (.str x) (strs_all xs)
end
end Pu

end

section
/-! Pu7: defs bundled, the law's own def. -/
namespace Pu
open PySem L2 PyProof.Rows RZ

/-- a def of the text as it stands: its object, its name, its promise -/
structure At (K : PySem.W.Frag) (mg : Str → Option Value) (x : Str) (st : Stmt) (ps : List Str) : Prop where
  ex : ∃ f fd, Fun K x x st f fd ∧ mg x = some (.ref f) ∧ Binds K fd ps []
structure Fn (P : Program) (w : World) (K : PySem.W.Frag) (mg : Str → Option Value) (base : Heap) (x : Str) (k : Nat) (ps : List Str) (sp : Sp) : Prop where
  ex : ∃ f fd, mg x = some (.ref f) ∧ PySem.W.keepIn K (.ref f) = true ∧ Binds K fd ps [] ∧ FnG P w K mg base CX0 k f fd ps sp
section
variable {P : Program} {w : World} {K : PySem.W.Frag} {mg : Str → Option Value} {base : Heap}
theorem Fn.mk' {x : Str} {st : Stmt} {ps : List Str} {k : Nat} {sp : Sp} (A : At K mg x st ps) (h : ∀ f fd, Fun K x x st f fd → FnG P w K mg base CX0 k f fd ps sp) : Fn P w K mg base x k ps sp := by
  obtain ⟨f, fd, F, hm, hb⟩ := A.ex
  exact ⟨f, fd, hm, F.kp, hb, h f fd F⟩
theorem fnD {x : Str} {st : Stmt} {N ps : List Str} {k : Nat} {m : FN} (A : At K mg x st ps) (S : FnScope N ps (defScope st))
    (body : ∀ (G : Fr) (f : Addr) (cdv : Value) (A : Around) (outer : List Env) (s : Shared) (H : Hp) (E : XK), RoomG k (A.deeper (envOfC x (defScope st) s.heap.objs.size f cdv)) → ∀ (ss : List Sl) (R : DK), ss.length = ps.length → m ss R →
      ∃ ts t, DSs (cxOf CX0 P w K mg base N x (defScope st) f cdv A outer s H E).nox G (defBody st) ts t ∧ t { nx := fun _ => R (.d .none), rt := R } (startE N ss)) :
    Fn P w K mg base x (k + 1) ps (spX K ps.length m) :=
  .mk' A fun f fd F => okD F S (fun G cdv A outer s H E hr => body G f cdv A outer s H E hr)
end
section
variable {X : Cx} {F : Fr} {k n : Nat} {ps : List Str} {m : FN} {x : Str} {p pos : Pos} {e : Expr} {es : List Expr} {ta : TA} {fa : DTA}
theorem de_fn (G : Fn X.prog X.w X.K X.mg X.base x k ps (spX X.K n m)) (hr : RoomG k X.A) (ha : DA X F (e :: es) ta fa)
    (hg : Gl X x := by rfl) (hdb : (x == ("__debug__" : Str)) = false := by decide) (he : starEach (e :: es) X.env = (false, eval e X.env) :: starEach es X.env := by rfl) (hpl : (backTo pos (starEach es X.env)).any (·.1) = false := by rfl) :
    DE X F (.Call (.Name x p) (e :: es) [] pos) (tFn (spX X.K n m) ta) (dFn n m fa) := by
  obtain ⟨f, fd, hm, hk, hb, J⟩ := G.ex
  exact de_call J hr hm hk hb ha hg hdb he hpl
end
/-! ### the law's def -/
def spSource (K : PySem.W.Frag) : Sp := fun vs H Q _ => ∃ (a : Addr) (ns : List Int), vs = [.ref a] ∧ SqL K H a (ns.map V.int) ∧ ns.length ≤ 100 ∧ ∀ H' p c, Same H H' → H p = none → H c = none → SrcAt H' p c → Q (.ref p) H'
def spLaw (K : PySem.W.Frag) : Sp := fun vs H Q _ => ∃ (a : Addr) (ns : List Int), vs = [.ref a] ∧ SqL K H a (ns.map V.int) ∧ ns.length ≤ 63 ∧ ∀ H', Q (.bl true) H'
section
variable {P : Program} {w : World} {K : PySem.W.Frag} {mg : Str → Option Value} {base : Heap}
theorem okLaw {st : Stmt} {f : Addr} {fd : FuncData} {N : List Str} {k : Nat} {rest : List Stmt} {px p1 p2 p3 pos : Pos} (F : Fun K "law" "law" st f fd) (S : FnScope ("script" :: "source" :: N) ["script"] (defScope st))
    (hb : defBody st = .Assign [.Name "source" px] (.Call (.Name "_law_source" p1) [.Name "script" p2] [] p3) pos :: rest) (G : Fn P w K mg base "_law_source" 1 ["script"] (spSource K))
    (body : ∀ (cdv : Value) (A : Around) (outer : List Env) (s : Shared) (H : Hp) (E : XK), RoomG (k + 1) (A.deeper (envOfC "law" (defScope st) s.heap.objs.size f cdv)) →
      ∃ ts t, (∀ G : Fr, DSs (cxOf CX0 P w K mg base ("script" :: "source" :: N) "law" (defScope st) f cdv A outer s H E).nox G rest ts t) ∧ t { nx := fun _ => False, rt := fun s => s = .d (.bool true) } (none :: some .src :: List.replicate N.length none))
    (first : ∀ (cdv : Value) (A : Around) (outer : List Env) (s : Shared) (H : Hp) (E : XK), RoomG (k + 1) (A.deeper (envOfC "law" (defScope st) s.heap.objs.size f cdv)) →
      PS (cxOf CX0 P w K mg base ("script" :: "source" :: N) "law" (defScope st) f cdv A outer s H E).nox (.Assign [.Name "source" px] (.Call (.Name "_law_source" p1) [.Name "script" p2] [] p3) pos) (tAsg (tFn (spSource K) (tCons (tVar 0) tNil)) (gName 1))) :
    FnG P w K mg base CX0 (k + 2) f fd ["script"] (spLaw K) := by
  refine goes_of0 F S (fun vs H Q E h => ?_) (fun cdv A outer s H vs Q E hr hsp => ?_)
  · obtain ⟨a, ns, rfl, _⟩ := h
    rfl
  · obtain ⟨a, ns, rfl, hS, hlen, q⟩ := hsp
    rw [hb]
    obtain ⟨ts, t, B0, h⟩ := body cdv A outer s H E hr
    refine ⟨_, pss_cons (first cdv A outer s H E hr) (B0 ⟨none, fun _ => none, fun _ => none, fun _ => none⟩).pe, ?_⟩
    refine ⟨_, rfl, a, ns, rfl, hS, by omega, fun H' p c sm hp hc src => ?_⟩
    have st0 : St0 (some (p, c)) (fun _ => none) H' := ⟨fun b o e => (by cases e), src, fun _ _ => rfl⟩
    have B := (B0 ⟨some (p, c), fun _ => none, H', fun _ => none⟩).sd (fun _ => none) H' (some (.ref a) :: some (.ref p) :: List.replicate N.length none) (none :: some .src :: List.replicate N.length none)
      { nx := fun _ H' => Q .non H', rt := Q } { nx := fun _ => False, rt := fun s => s = .d (.bool true) }
    refine B ⟨Step.refl st0, Same.refl _, by simp, fun i s e => ?_, fun i j t1 t2 p hij e _ o1 _ _ => ?_⟩ h ⟨fun _ _ _ _ _ _ z => z.elim, fun _ _ _ _ _ _ z => z.elim, fun _ _ _ _ _ _ z => z.elim, fun v Hb' H2 s' _ _ rs _ e => ?_⟩
    · match i with
      | 0 => cases e
      | 1 => cases e; exact ⟨.ref p, rfl, ⟨p, c, rfl, rfl⟩, trivial⟩
      | i + 2 =>
        have e' : (List.replicate N.length (none : Option Sl))[i]? = some (some s) := e
        rw [List.getElem?_replicate] at e'
        split at e' <;> cases e'
    · match i with
      | 0 => cases e
      | 1 => cases e; exact o1.elim
      | i + 2 =>
        have e' : (List.replicate N.length (none : Option Sl))[i]? = some (some t1) := e
        rw [List.getElem?_replicate] at e'
        split at e' <;> cases e'
    · subst e
      have e2 := bool_of rs rfl
      subst e2
      exact q H2
end
end Pu
namespace Pu
open PySem L2 PyProof.Rows RZ
section
variable {X : Cx} {F : Fr} {tg iter elt : Expr} {te : TE} {fe : DTE} {wi : TI} {fi : DTI} {g : TG} {fg : DTG} {tt : TT} {ft : DTT} {pos : Pos}
theorem ds_setLcF (i : Nat) {y : Str} {py : Pos} {spos : Pos} {ifs : List Expr} {scope : Scope} {own : List (Str × Nat)} (hN : X.N.Nodup) (hi : DI X F tg iter wi fi) (ok : BlkOk X.N X.env.scope scope own)
    (hg : ∀ (s : Shared) (H : Hp) (C : Addr) (cl : List (Str × Addr)) (fp : List Addr), DG (X.blk s H scope (compEnvC scope cl C X.env) fp) F (own.map (·.2)) tg g fg) (ht : ∀ (s : Shared) (H : Hp) (C : Addr) (cl : List (Str × Addr)) (fp : List Addr), DP (X.blk s H scope (compEnvC scope cl C X.env) fp) F ifs tt ft)
    (he : ∀ (s : Shared) (H : Hp) (C : Addr) (cl : List (Str × Addr)) (fp : List Addr), DE (X.blk s H scope (compEnvC scope cl C X.env) fp) F elt te fe) (hsw : swapsWith (.ListComp elt [⟨tg, iter, ifs, 0⟩] scope pos) (some (.Name y py)) spos.line X.env = pure true) (hc : X.calm = true := by rfl) (hs : ∀ x, foldedSetIterable iter X.env x = pure x := by intro _; rfl)
    (hy : X.N[i]? = some y := by rfl) (hyl : X.env.scope.names.lookup y = some .local := by rfl) :
    DS X F (.Assign [.Name y py] (.ListComp elt [⟨tg, iter, ifs, 0⟩] scope pos) spos) (tAsg (tLc wi g tt te (own.map (·.2))) (gName i)) (dSet (fun env Q => dLc fi fg ft fe (own.map (·.2)) env fun s => Q s.fz) i) :=
  ⟨ps_setLc hc hN hy hyl hsw hi.pe ok (fun s H C cl fp => (hg s H C cl fp).pe) (fun s H C cl fp => (ht s H C cl fp).pe) (fun s H C cl fp => (he s H C cl fp).pe) hs,
    sd_set i (sd_lc (hi.sd) ((hg {} (fun _ => none) 0 [] []).sd) ((ht {} (fun _ => none) 0 [] []).sd) ((he {} (fun _ => none) 0 [] []).sd)).fz⟩
end
end Pu
/-! The rules that name the written part, with it by name. -/
namespace Pu
open PySem L2 PyProof.Rows RZ
section
variable {X : Cx} {F : Fr} {K : PySem.W.Frag}
theorem k_eq (e : X.K = K) (hu : X.A.units + 64 < cLine) : OpR X (compareOp .Eq) (rEqQ K) := e ▸ op_eqQ hu
theorem k_ne (e : X.K = K) (hu : X.A.units + 64 < cLine) : OpR X (compareOp .NotEq) (rNeQ K) := e ▸ op_neQ hu
theorem k_in (e : X.K = K) : OpR X (compareOp .In) (rIn K false) := e ▸ op_in_seq
theorem k_notIn (e : X.K = K) : OpR X (compareOp .NotIn) (rIn K true) := e ▸ op_notIn_seq
theorem k_ix (e : X.K = K) : IxR X (rIx K) := e ▸ ix_seq
theorem k_slL (e : X.K = K) : SlR X (rSlL K) := e ▸ sl_list
theorem k_slT (e : X.K = K) : SlR X (rSlA K) := e ▸ sl_tupA
theorem k_catT (e : X.K = K) : OpR X (binaryOp .Add) (rCatA K) := e ▸ op_catA
theorem k_len (e : X.K = K) : CallR X (.builtin "len") (fun xs H Q => ∃ x n, xs = [x] ∧ LenV K x H n ∧ Q (.int n) H) := e ▸ call_len
theorem k_list (e : X.K = K) : CallR X (.type "list") (fun xs H Q => ∃ p ys, xs = [.ref p] ∧ (SqL K H p ys ∨ SqT K H p ys) ∧ ∀ l, H l = none → Q (.ref l) (upd H l (.lst ys))) := e ▸ call_list_of
theorem k_tuple (e : X.K = K) : CallR X (.type "tuple") (fun xs H Q => ∃ p ys, xs = [.ref p] ∧ ((SqL K H p ys ∧ ∀ l, H l = none → Q (.ref l) (upd H l (.tup ys))) ∨ (SqT K H p ys ∧ Q (.ref p) H))) := e ▸ call_tuple_of
variable {tg e : Expr} {te : TE} {fe : DTE} {tr : TA} {fr : DTA} {es : List Expr} {js : List Nat} {gs : TGs} {fgs : DTGs} {p pos : Pos}
theorem ki_list (q : X.K = K) (h : DE X F e te fe) : DI X F tg e (iList K te) (dList fe) := q ▸ di_list h
theorem ki_tup (q : X.K = K) (h : DE X F e te fe) : DI X F tg e (iTup K te) (dTup fe) := q ▸ di_tup h
theorem kg_tup (q : X.K = K) {k n : Nat} (hc : X.calm = true) (h : DGs X F js es gs fgs) (hn : (assignEach es X.env).length = n := by rfl) (hst : (assignEach es X.env).findIdx? (·.1) = none := by rfl) : DG X F js (.Tuple es k pos) (gTup K n gs) (dgTup n fgs) := q ▸ dg_tup hc h hn hst
theorem k_fn (q : X.K = K) {k n : Nat} {ps : List Str} {m : FN} {x : Str} {ta : TA} {fa : DTA} (G : Fn X.prog X.w K X.mg X.base x k ps (spX K n m)) (hr : RoomG k X.A) (ha : DA X F (e :: es) ta fa)
    (hg : Gl X x := by rfl) (hdb : (x == ("__debug__" : Str)) = false := by decide) (he : starEach (e :: es) X.env = (false, eval e X.env) :: starEach es X.env := by rfl) (hpl : (backTo pos (starEach es X.env)).any (·.1) = false := by rfl) :
    DE X F (.Call (.Name x p) (e :: es) [] pos) (tFn (spX K n m) ta) (dFn n m fa) := by
  subst q
  exact de_fn G hr ha hg hdb he hpl
end
end Pu

end

section
/-! PuT: sets of texts, whose order nobody knows. -/
namespace Pu
open PySem L2 PySem.Spec PyProof.Rows

section
variable {P : Program} {w : World} {κ : Type} [DecidableEq κ] (kd : PySem.KeyKind P w κ)
/-- no two rows hold the same key -/
def Apart (l : List (Int × Value)) : Prop := l.Pairwise fun x y => ∀ k, kd.is k x.2 = true → kd.is k y.2 = true → False
structure SG0 (o : Obj) (es : Array (Int × Value)) (ep : Nat) (t : SetTable) (S : κ → Bool) (n : Nat) : Prop where
  ex : o.ExactSet
  da : o.data = .set es ep t
  el : ElemsOf kd es.toList
  ap : Apart kd es.toList
  me : ∀ k, S k = true ↔ ∃ e ∈ es.toList, kd.is k e.2 = true
  lt : es.size < scanBound
  fi : t.fits es.size = true
  sz : es.size = n
  ri : Ris t.place.toList
  le : w.params.followText "set-order" = true ∨ t.led = true
/-- at a stands a set with the members S, n of them -/
def SG (h : Heap) (a : Addr) (S : κ → Bool) (n : Nat) : Prop := ∃ o es ep t, h.get? a = some o ∧ SG0 kd o es ep t S n
end
section
variable {P : Program} {w : World} {κ : Type} [DecidableEq κ] {kd : PySem.KeyKind P w κ} {h h' : Heap} {a : Addr} {S S' : κ → Bool} {n : Nat}
theorem SG.at (R : SG kd h a S n) (k : ∀ o, h.get? a = some o → h'.get? a = some o) : SG kd h' a S n := let ⟨o, es, ep, t, ho, r⟩ := R; ⟨o, es, ep, t, k o ho, r⟩
theorem SG.congr (R : SG kd h a S n) (e : ∀ k, S' k = S k) : SG kd h a S' n := (funext e : S' = S) ▸ R
theorem apart_perm {l l' : List (Int × Value)} (p : l'.Perm l) (q : Apart kd l) : Apart kd l' :=
  (p.pairwise_iff (R := fun x y : Int × Value => ∀ k, kd.is k x.2 = true → kd.is k y.2 = true → False) fun h k i j => h k j i).mpr q
theorem mem_perm {l l' : List (Int × Value)} (p : l'.Perm l) (k : κ) : (∃ e ∈ l', kd.is k e.2 = true) ↔ ∃ e ∈ l, kd.is k e.2 = true :=
  ⟨fun ⟨e, i, j⟩ => ⟨e, p.mem_iff.mp i, j⟩, fun ⟨e, i, j⟩ => ⟨e, p.mem_iff.mpr i, j⟩⟩
end

/-! ### a member put in -/
section
variable {P : Program} {w : World} {κ : Type} [DecidableEq κ] {kd : PySem.KeyKind P w κ} {A : Around} {E : Value → Shared → Prop} {s : Shared} {a : Addr} {S S' : κ → Bool} {n : Nat}
theorem sg_tail {g : Bool → Sem Unit} (hg : ∀ (b : Bool) (s₁ : Shared) (Q' : Unit → Shared → Prop), Q' () s₁ → wpAny (model P w) A (g b) Q' E s₁)
    {o : Obj} {es es1 : Array (Int × Value)} {ep : Nat} {t t2 : SetTable} (ho : s.heap.get? a = some o) (hex : o.ExactSet) (hd : o.data = .set es ep t)
    (g1 : ElemsOf kd es1.toList) (ap : Apart kd es1.toList) (me : ∀ k, S' k = true ↔ ∃ e ∈ es1.toList, kd.is k e.2 = true) (lt : es1.size < scanBound) (fi : t2.fits es1.size = true) (ri : Ris t2.place.toList)
    (le : w.params.followText "set-order" = true ∨ t2.led = true) {dum : Bool} {R : Option Bool → Shared → Prop}
    (hR : ∀ h', Heap.SameBut a s.heap h' → SG kd h' a S' es1.size → R (some true) { s with heap := h' }) :
    wpAny (model P w) A (do
        storeSet a es1 t2
        if (!dum && t2.tooFull) = true then do
            g (relayAll t2 es1 (SetTable.grown es1.size)).2.2
            storeSet a (relayAll t2 es1 (SetTable.grown es1.size)).1 (relayAll t2 es1 (SetTable.grown es1.size)).2.1
            pure (some true)
          else pure (some true)) R E s := by
  refine wpAny_bind (wpAny_storeSet_of ho hd ?_ (fits_of_scanBound lt))
  have at1 := store_at (es' := es1) (t' := t2) ho hd
  have but1 := Heap.SameBut.update s.heap a (Obj.putSet es1 t2)
  split
  · have p1 := relayAll_perm t2 es1 (SetTable.grown es1.size)
    have p2 := relayAll_fits t2 es1 (SetTable.grown es1.size)
    have p3 := relayAll_ris t2 es1 (SetTable.grown es1.size)
    have p4 := relayAll_led t2 es1 (SetTable.grown es1.size)
    generalize relayAll t2 es1 (SetTable.grown es1.size) = Z at p1 p2 p3 p4 ⊢
    obtain ⟨es2, t3, gv⟩ := Z
    dsimp only at p1 p2 p3 p4 ⊢
    have z2 : es2.size = es1.size := by rw [← Array.length_toList, p1.length_eq, Array.length_toList]
    refine wpAny_bind (hg _ _ _ ?_)
    refine wpAny_bind (wpAny_storeSet_of at1 rfl ?_ (fits_of_scanBound (z2 ▸ lt)))
    have at2 := store_at (es' := es2) (t' := t3) at1 rfl
    exact wpAny_pure (hR _ (but1.trans (Heap.SameBut.update _ a _)) ⟨_, es2, _, t3, at2, hex, rfl, g1.perm p1, apart_perm p1 ap, fun k => (me k).trans (mem_perm p1 k).symm, z2 ▸ lt, p2, z2, p3, le.imp id fun q => p4 ▸ q⟩)
  · exact wpAny_pure (hR _ but1 ⟨_, es1, _, t2, at1, hex, rfl, g1, ap, me, lt, fi, rfl, ri, le⟩)
theorem sg_put {k : κ} {v : Value} {Q : Bool → Shared → Prop} (kv : kd.is k v = true) (sc : v.scannable = true) (R : SG kd s.heap a S n) (room : n + 1 < scanBound)
    (hQ : ∀ h', Heap.SameBut a s.heap h' → SG kd h' a (fun j => S j || decide (j = k)) (if S k = true then n else n + 1) → Q (!S k) { s with heap := h' }) :
    wpAny (model P w) A (setAddHashed a v (kd.hash k)) Q E s := by
  obtain ⟨o, es, ep, t, ho, r⟩ := R
  unfold setAddHashed setAddHashedIn
  refine wpAny_holding (wpAny_bind (wpAny_setState_of ho r.da r.fi ?_))
  dsimp only
  rw [byScan_of sc r.lt r.el]
  simp only [↓reduceIte]
  unfold setAddByScan
  refine wpAny_bind (wpAny_bind (wpAny_rule (wpAny_bind (wpAny_setScan_of kv ho r.da r.fi r.el ?_))))
  cases fnd : List.findIdx? (fun e => kd.is k e.2) es.toList with
  | some j =>
    dsimp only
    obtain ⟨hj, pj, _⟩ := List.findIdx?_eq_some_iff_getElem.mp fnd
    have inS : S k = true := (r.me k).2 ⟨es.toList[j], List.getElem_mem hj, pj⟩
    have q := hQ s.heap (Heap.SameBut.refl a s.heap) ⟨o, es, ep, t, ho, r.ex, r.da, r.el, r.ap, fun i => by
      rw [Bool.or_eq_true, decide_eq_true_eq, ← r.me i]
      exact ⟨fun z => z.elim id (fun e => e ▸ inS), .inl⟩, r.lt, r.fi, (by rw [if_pos inS]; exact r.sz), r.ri, r.le⟩
    rw [inS] at q
    exact wpAny_pure (wpAny_pure q)
  | none =>
    dsimp only
    have away : ∀ e ∈ es.toList, kd.is k e.2 = true → False := fun e he z => by
      have c := List.findIdx?_eq_none_iff.mp fnd e he
      rw [z] at c; cases c
    have notS : S k = false := by
      cases q : S k with
      | false => rfl
      | true =>
        obtain ⟨e, he, z⟩ := (r.me k).1 q
        exact (away e he z).elim
    have told : ∀ (b : Bool) {s₁ : Shared} {Q' : Unit → Shared → Prop}, Q' () s₁ → wpAny (model P w) A (match b with | true => rule "set.scan.the-table-gave-way" | false => pure ()) Q' E s₁ :=
      fun b s₁ Q' q => by cases b <;> first | exact wpAny_pure q | exact wpAny_rule q
    have p1 := layNew_perm t es (kd.hash k) v
    have p2 := layNew_fits t es (kd.hash k) v
    have p3 := layNew_ris t es (kd.hash k) v r.ri
    have p4 := layNew_led t es (kd.hash k) v
    generalize layNew t es (kd.hash k) v = Z at p1 p2 p3 p4 ⊢
    obtain ⟨es1, t1, dum, gv⟩ := Z
    dsimp only at p1 p2 p3 p4 ⊢
    rw [Array.toList_push] at p1
    have pc : es1.toList.Perm ((kd.hash k, v) :: es.toList) := p1.trans (List.perm_append_singleton _ _)
    have e1 : ElemsOf kd es1.toList := fun e he => by
      rcases List.mem_cons.mp (pc.mem_iff.mp he) with z | z
      · rw [z]; exact ⟨⟨k, kv, rfl⟩, sc⟩
      · exact r.el e z
    have a1 : Apart kd es1.toList := apart_perm pc (List.pairwise_cons.mpr ⟨fun e he j i1 i2 => by
      have ej : j = k := kd.inj v j k i1 kv
      rw [ej] at i2
      exact away e he i2, r.ap⟩)
    have m1 : ∀ i, (S i || decide (i = k)) = true ↔ ∃ e ∈ es1.toList, kd.is i e.2 = true := fun i => by
      rw [Bool.or_eq_true, decide_eq_true_eq, r.me i, mem_perm pc i]
      constructor
      · rintro (⟨e, i1, i2⟩ | e)
        · exact ⟨e, List.mem_cons_of_mem _ i1, i2⟩
        · exact ⟨_, List.mem_cons_self, e ▸ kv⟩
      · rintro ⟨e, i1, i2⟩
        rcases List.mem_cons.mp i1 with z | z
        · subst z
          exact .inr (kd.inj v i k i2 kv)
        · exact .inl ⟨e, z, i2⟩
    have z1 : es1.size = n + 1 := by rw [← Array.length_toList, pc.length_eq, List.length_cons, Array.length_toList, r.sz]
    have b1 : es1.size < scanBound := by rw [z1]; exact room
    have l1 : w.params.followText "set-order" = true ∨ t1.led = true := r.le.imp id fun q => p4 ▸ q
    have fin : ∀ h', Heap.SameBut a s.heap h' → SG kd h' a (fun j => S j || decide (j = k)) es1.size → Q true { s with heap := h' } := fun h' sb r' => by
      have q := hQ h' sb
      rw [notS] at q
      rw [z1] at r'
      exact q r'
    refine wpAny_bind (told _ ?_)
    split
    · refine wpAny_bind ?_
      rw [hashByValue_scannable 8 sc]
      refine wpAny_pure (sg_tail (kd := kd) ?_ ho r.ex r.da e1 a1 m1 b1 ?_ ?_ ?_ ?_)
      · intro b s₁ Q' q; cases b <;> first | exact wpAny_pure q | exact wpAny_rule q
      · first | (split <;> first | exact p2 | exact SetTable.fits_plain_off p2) | exact p2
      · first | (split <;> exact p3) | exact p3
      · first | (split <;> exact l1) | exact l1
      · intro h' sb r'; dsimp only; exact wpAny_pure (fin h' sb r')
    · refine wpAny_bind (wpAny_pure ?_)
      simp only [↓reduceIte]
      refine sg_tail (kd := kd) ?_ ho r.ex r.da e1 a1 m1 b1 p2 p3 l1 ?_
      · intro b s₁ Q' q; cases b <;> first | exact wpAny_pure q | exact wpAny_rule q
      · intro h' sb r'; dsimp only; exact wpAny_pure (fin h' sb r')
theorem sg_fresh {h : Heap} {b : Addr} (ho : h.get? b = some { cls := .type "set", dict := none, data := .set #[] 0 (.fresh 0 0 (!w.params.followText "set-order")) }) : SG kd h b (fun _ => false) 0 :=
  ⟨_, #[], 0, _, ho, ⟨rfl, rfl, rfl⟩, rfl, (fun e he => by simp at he), .nil, (fun k => by simp), (by decide), (by rfl), rfl, List.Pairwise.nil, by
    show _ ∨ (!w.params.followText "set-order") = true
    cases w.params.followText "set-order"
    · exact .inr rfl
    · exact .inl rfl⟩
end
end Pu
/-!KEEP-/
namespace Pu
open PySem L2 PySem.Spec PyProof.Rows
section
variable {P : Program} {w : World} {κ : Type} [DecidableEq κ] {kd : PySem.KeyKind P w κ} {A : Around} {E : Value → Shared → Prop} {s : Shared}
/-- the empty set that stands at the heap's end -/
abbrev hot0 (w : World) (h : Heap) : Heap := h.push { cls := .type "set", dict := none, data := .set #[] 0 (.fresh 0 0 (!w.params.followText "set-order")) }
def memB (ks : List κ) (k : κ) : Bool := decide (k ∈ ks)
theorem sg_loop {I : Addr} {fp wr : List Addr} {G : Array GenState → Array GenState → Prop} {n : Nat} {Pv : Nat → Value → Prop} {St : Nat → Shared → Prop} {R : Result → Shared → Prop}
    (W : WalksS P w A.in1 I fp wr G n Pv St) (z : Addr) (zf : z ∉ fp) (ks : List κ) (hn : n = ks.length) (hb : ks.length + 1 < scanBound) (val : ∀ i v, Pv i v → ∃ k, ks[i]? = some k ∧ kd.is k v = true ∧ v.scannable = true) :
    ∀ (m i : Nat) (s : Shared), n - i = m → i ≤ n → St i s → (∃ c, c ≤ i ∧ SG kd s.heap z (memB (ks.take i)) c) →
      (∀ s' c, Moved (z :: wr) G s s' → c ≤ n → SG kd s'.heap z (memB ks) c → R (.ok (.ret .none)) s') →
      codeAny (model P w) A (.builtin "set.update.loop" ⟨[.ref z, .ref I], []⟩) R s
  | 0, i, s, hm, hi, st, ⟨c, hc, R0⟩, fin => by
    refine codeAny_builtin F.entry_set_update_loop ?_
    rw [Around.under_plainId F.plain_set_update_loop _]
    show wpAny _ A.in1 (pyNext (.ref I) >>= _) _ _ s
    refine wpAny_bind (W.done s _ _ ((by omega : i = n) ▸ st) fun s' mv => ?_)
    show wpAny _ A.in1 (ret Value.none) _ _ s'
    rw [List.take_of_length_le (by omega)] at R0
    exact wpAny_pure (fin s' c (mv.mono fun b hb => List.mem_cons_of_mem _ hb) (by omega) (R0.at fun o e => mv.heap z o (fun h => zf (W.sub _ h)) e))
  | m + 1, i, s, hm, hi, st, ⟨c, hc, R0⟩, fin => by
    refine codeAny_builtin F.entry_set_update_loop ?_
    rw [Around.under_plainId F.plain_set_update_loop _]
    show wpAny _ A.in1 (pyNext (.ref I) >>= _) _ _ s
    refine wpAny_bind (W.item i s _ _ (by omega) st fun v s' hP st' mv => ?_)
    obtain ⟨k, hk, kv, sc⟩ := val i v hP
    have R1 : SG kd s'.heap z (memB (ks.take i)) c := R0.at fun o e => mv.heap z o (fun h => zf (W.sub _ h)) e
    show wpAny _ A.in1 (holding [v] (setAdd z v) >>= _) _ _ s'
    refine wpAny_bind (wpAny_holding ?_)
    unfold setAdd
    refine wpAny_holding (wpAny_bind (kd.pyHash kv (sg_put (s := { s' with toks := s'.toks + 1 }) kv sc R1 (by omega) fun h' but R2 => ?_)))
    have R3 : SG kd h' z (memB (ks.take (i + 1))) (if memB (ks.take i) k = true then c else c + 1) := R2.congr fun j => by
      unfold memB
      rw [List.take_add_one, hk]
      simp [List.mem_append]
    have c3 : (if memB (ks.take i) k = true then c else c + 1) ≤ i + 1 := by split <;> omega
    refine wpAny_pure ⟨plainId_quiet F.plain_set_update_loop _, sg_loop W z zf ks hn hb val m (i + 1) _ (by omega) (by omega) (W.frame _ s' _ _ st' (Nat.le_succ _) fun b hb o e => ?_) ⟨_, c3, R3⟩ fun s'' c2 mv2 hc2 R4 => ?_⟩
    · rw [but.2 b (fun h : b = z => zf (h ▸ hb))]; exact e
    · refine fin s'' c2 (Moved.trans W.gtrans ((mv.mono fun b hb => List.mem_cons_of_mem _ hb).then_heap (Nat.le_succ _) fun b o hb e => ?_) mv2) hc2 R4
      rw [but.2 b (fun h : b = z => hb (h ▸ List.mem_cons_self))]; exact e

set_option maxHeartbeats 3200000 in
/-- set(a list) -/
theorem sg_of_list {l : Addr} {items : Array Value} {ks : List κ} {Q : Value → Shared → Prop} (hh : A.handled = none) (hl : s.heap.IsList l items) (len : items.size = ks.length) (hb : ks.length + 1 < scanBound)
    (val : ∀ (i : Nat) (v : Value), items[i]? = some v → ∃ k, ks[i]? = some k ∧ kd.is k v = true ∧ v.scannable = true)
    (hQ : ∀ (h' : Heap) (tk c : Nat), SG kd h' s.heap.objs.size (memB ks) c → c ≤ ks.length → (∀ b o, s.heap.get? b = some o → h'.get? b = some o) → Q (.ref s.heap.objs.size) { s with heap := h', toks := tk }) :
    wpAny (model P w) A (call (.type "set") [.ref l]) Q E s := by
  have ⟨c, tl, hmro⟩ := F.called_set.mro
  have i1 := F.called_set.made
  have i2 := F.called_set.sub
  refine wpAny_call (codeAny_of_tree ?_)
  show wpAny _ _ (callAny (.type "set") _) _ _ _
  refine wpAny_pure ⟨Code.quiet_builtin _ (by decide +kernel), codeAny_builtin F.entry_type_call ?_⟩
  rw [Around.under_plain (weight_type_call_type "set" [.ref l] []) rfl]
  have i3 := F.called_set.notType
  have i4 := F.called_set.canCreate
  have i5 := F.typeCall_set_1 (.ref l)
  repeat (any_goals (first | assumption | wp_step))
  refine codeAny_mono (code_set_led1 (.ref l) (E := E) (Q₁ := fun v t => v = .ref s.heap.objs.size ∧ t = { s with heap := hot0 w s.heap }) ⟨rfl, rfl⟩) fun r t hr => ?_
  match r, hr with
  | .error e, hr => exact hr
  | .ok (.ret obj), hr =>
    obtain ⟨rfl, rfl⟩ := hr
    have own : (hot0 w s.heap).get? s.heap.objs.size = some { cls := .type "set", dict := none, data := .set #[] 0 (.fresh 0 0 (!w.params.followText "set-order")) } := Heap.get?_push_size _ rfl
    have ty : Shared.TypeIs { s with heap := hot0 w s.heap } (.ref s.heap.objs.size) "set" := ⟨_, own, rfl⟩
    have i6 := F.called_set.init.lookup
    have i7 := F.called_set.init.bind (.ref s.heap.objs.size)
    repeat (any_goals (first | assumption | wp_step))
    refine codeAny_mono (codeAny_call_builtin (R := wants (fun r t => r = .none ∧ ∃ h' tk c, t = { s with heap := h', toks := tk } ∧ SG kd h' s.heap.objs.size (memB ks) c ∧ c ≤ ks.length ∧ (∀ b o, s.heap.get? b = some o → h'.get? b = some o)) E) F.called_set.init.plain F.entry_set_init (check_set_init_1 ty ?_)) fun r t hr => ?_
    · have ⟨⟨ocls, odict, odata, oslots⟩, at0, j1, nl, j2⟩ := hl
      simp only at j1 j2
      subst j1; subst j2
      have at1 : (hot0 w s.heap).get? l = some { cls := .type "list", dict := odict, data := .seq items nl, slots := oslots } := Heap.get?_push_of_some _ at0
      have j3 := F.sub_list_set
      have j4 := F.sub_list_frozenset
      have j5 : (Value.type "list" == Value.type "dict") = false := by decide
      have l1 : (hot0 w s.heap).IsList l items := ⟨_, at1, rfl, nl, rfl⟩
      unfold Builtin.«set.__init__» noKeywords Builtin.Frozenset.updateFrom
      generalize hPI : pyIter = PI
      wp_walk
      subst hPI
      refine wpAny_pyIter_list l1 (wpAny_bind (wpAny_runValue ?_))
      have lt0 : l < s.heap.objs.size := Heap.lt_size at0
      have hd3 : A.in1.in1.in1.handled = none := by simp [hh]
      have z1 : (hot0 w s.heap).objs.size = s.heap.objs.size + 1 := Heap.size_push ..
      refine sg_loop (kd := kd) ((Walks.list hd3 _ l (by rw [z1]; exact Nat.ne_of_lt (Nat.lt_succ_of_lt lt0)) items).toS) s.heap.objs.size (fun m => by
        rcases List.mem_cons.mp m with e | m
        · exact Nat.ne_of_lt (Nat.lt_succ_self _) (z1 ▸ e)
        · exact Nat.ne_of_gt lt0 (List.mem_singleton.mp m)) ks len hb val (items.size - 0) 0 _ (by omega) (Nat.zero_le _) ⟨⟨_, Heap.get?_push_size _ rfl, rfl, rfl⟩, (l1.push _)⟩ ⟨0, Nat.le_refl 0, (sg_fresh (Heap.get?_push_of_some _ own)).congr fun j => by simp [memB]⟩ fun t c2 mv hc2 R4 => ?_
      obtain ⟨h', g2, d', tk', os'⟩ := t
      obtain rfl : g2 = s.gens := mv.gens
      obtain rfl : d' = s.drawn := mv.drawn
      obtain rfl : os' = s.os := mv.os
      show wpAny _ _ _ _ _ _
      refine wpAny_pure ?_
      show wpAny _ _ (ret Value.none) _ _ _
      refine wpAny_pure ⟨rfl, h', tk', c2, rfl, R4, len ▸ hc2, fun b o e => ?_⟩
      have lt1 : b < s.heap.objs.size := Heap.lt_size e
      refine mv.heap b o (fun m => ?_) (Heap.get?_push_of_some _ (Heap.get?_push_of_some _ e))
      rcases List.mem_cons.mp m with q | m
      · exact Nat.ne_of_lt lt1 q
      · exact Nat.ne_of_lt (Nat.lt_succ_of_lt lt1) ((List.mem_singleton.mp m).trans z1)
    · match r, hr with
      | .error e, hr => exact hr
      | .ok (.ret _), hr =>
        obtain ⟨rfl, h', tk, c2, rfl, R4, hc2, kp⟩ := hr
        repeat (any_goals (first | assumption | wp_step))
        exact hQ _ _ _ R4 hc2 kp
end
end Pu

end

section
/-! PuU: sets of texts as objects of the heap; set(..), sorted(..), set comprehensions of two clauses. -/
namespace Pu
open PySem L2 PySem.Spec PyProof.Rows

/-- the set of texts at a -/
def SSo (P : Program) (w : World) (a : Addr) (S : Str → Bool) (n : Nat) : HO := .ext fun h => SG (PySem.strKind P w) h a S n
section
variable {X : Cx} {P : Program} {w : World} {H : Hp} {h : Heap} {a : Addr} {S : Str → Bool} {n : Nat} {pins : List (Addr × Obj)} {σ : L2.St} {s : Shared}
theorem sso_new (R : SG (PySem.strKind P w) h a S n) : ObjOk P w H h a (SSo P w a S n) := ⟨R, (let ⟨o, _, _, _, ho, _⟩ := R; ⟨o, ho⟩), fun _ _ p k => SG.at p k⟩
theorem sso_get (I : Inv X pins σ H s) (e : H a = some (SSo X.prog X.w a S n)) : SG (PySem.strKind X.prog X.w) s.heap a S n := (I.hok a _ e).1
theorem str_is (x : Str) (t : Tok) : (PySem.strKind P w).is x (.str x t) = true := by show Value.isStrOf x (.str x t) = true; simp [Value.isStrOf, Value.isStr]
theorem strs_get : ∀ {us : List Value} {xs : List Str} (i : Nat) (v : Value), StrsAre us xs → us[i]? = some v → ∃ x t, xs[i]? = some x ∧ v = .str x t
  | _, _, i, v, .nil, e => by simp at e
  | _, _, 0, v, .cons y t r, e => by simp at e; exact ⟨y, t, rfl, e.symm⟩
  | _, _, i + 1, v, .cons y t r, e => by
    obtain ⟨x, u, h1, h2⟩ := strs_get i v r (by simpa using e)
    exact ⟨x, u, by simpa using h1, h2⟩
/-- set(xs), xs a list of texts -/
def rSetS (K : PySem.W.Frag) (P : Program) (w : World) : List V → Hp → VK → Prop := fun vs H Q => ∃ (l : Addr) (ks : List Str), vs = [V.ref l] ∧ SqL K H l (ks.map V.str) ∧ ks.length + 1 < scanBound ∧ ∀ p c, H p = none → c ≤ ks.length → Q (.ref p) (upd H p (SSo P w p (memB ks) c))
theorem cr_setS (hc : X.calm = true) : CallR X (.type "set") (rSetS X.K X.prog X.w) := by
  intro pins s σ H vs us Q I r q
  obtain ⟨l, ks, rfl, hl, hb, q⟩ := q
  obtain ⟨its, rv, pl, hz⟩ := I.list hl
  have rs := rv.strs
  rw [Vals.ref1 r]
  refine sg_of_list (P := X.prog) (w := X.w) (kd := PySem.strKind X.prog X.w) (ks := ks) (I.ok.hd hc) pl.isList (by rw [List.size_toArray]; exact rs.length) hb (fun i v hv => ?_) fun h' tk c R hc kp => ?_
  · obtain ⟨x, t, h1, rfl⟩ := strs_get i v rs (by simpa using hv)
    exact ⟨x, h1, str_is x t, rfl⟩
  · exact ⟨.ref s.heap.objs.size, upd H s.heap.objs.size (SSo X.prog X.w s.heap.objs.size (memB ks) c), I.laid (t' := tk) kp (Nat.le_refl _) (sso_new R), rfl, q _ c (I.hok.fresh (Nat.le_refl _)) hc⟩
/-! ### sorted -/
def strV : Value → Str
  | .str x _ => x
  | _ => Str.empty
theorem strs_by : ∀ l : List Value, (∀ v ∈ l, ∃ x t, v = Value.str x t) → StrsAre l (l.map strV)
  | [], _ => .nil
  | v :: l, h => by
    obtain ⟨x, t, rfl⟩ := h v List.mem_cons_self
    exact .cons x t (strs_by l fun u hu => h u (List.mem_cons_of_mem _ hu))
theorem sorted_sg {A : Around} {E : Value → Shared → Prop} {Q : Value → Shared → Prop} (R : SG (PySem.strKind P w) s.heap a S n) (hh : A.handled = none)
    (hQ : ∀ s' p (out : Array Value) (c : Nat) (ys : List Str), (∀ b o, s.heap.get? b = some o → s'.heap.get? b = some o) → s'.gens = s.gens → s'.os = s.os → s.heap.objs.size ≤ p →
      s'.heap.get? p = some (seqObj "list" out c) → StrsAre out.toList ys → sortedS ys = true → ys.Nodup → (∀ k, k ∈ ys ↔ S k = true) → ys.length = n → n < scanBound → Q (.ref p) s') :
    wpAny (model P w) A (call (.builtin "sorted") [.ref a]) Q E s := by
  obtain ⟨o, es, ep, t, ho, r⟩ := R
  have shape : ∀ e ∈ es.toList, ∃ x u, e.2 = Value.str x u := fun e he => by
    obtain ⟨⟨k, h1, _⟩, _⟩ := r.el e he
    obtain ⟨u, h2⟩ := Value.isStrOf_shape h1
    exact ⟨k, u, h2⟩
  refine Calls.call_function_entry kind_sorted plain_sorted entry_sorted (args_sorted1 _) ?_
  unfold Builtin.«sorted»
  refine wpAny_bind (m := checkCount "sorted" 1 1 _) (wpAny_pure (wpAny_bind (collect_set (A := A.in1) hh ⟨o, ho, r.ex.1, r.da⟩ r.fi r.lt r.ri r.le fun s1 vs k1 z1 g1 o1 pm => ?_)))
  have sV : ∀ v ∈ vs, ∃ x u, v = Value.str x u := fun v hv => by
    obtain ⟨e, he, q⟩ := List.mem_map.mp (pm.mem_iff.mp hv)
    obtain ⟨x, u, h⟩ := shape e he
    exact ⟨x, u, q ▸ h⟩
  have many : vs.length = n := by rw [pm.length_eq, List.length_map, Array.length_toList]; exact r.sz
  have few : vs.length ≤ sizeLine := by rw [many, ← r.sz]; exact fits_of_scanBound r.lt
  have hS := strs_by vs sV
  have pk : (vs.map strV).Perm (es.toList.map fun e => strV e.2) := by
    have q := pm.map strV
    rw [List.map_map] at q
    exact q
  have isK : ∀ e ∈ es.toList, ∀ k, (PySem.strKind P w).is k e.2 = true ↔ strV e.2 = k := fun e he k => by
    obtain ⟨x, u, h⟩ := shape e he
    rw [h]
    exact ⟨fun z => (PySem.strKind P w).inj _ _ _ (str_is x u) z, fun z => by
      have z' : x = k := z
      rw [← z']; exact str_is x u⟩
  have nd : (es.toList.map fun e => strV e.2).Nodup := by
    have q : ∀ l : List (Int × Value), (∀ e ∈ l, e ∈ es.toList) → Apart (PySem.strKind P w) l → (l.map fun e => strV e.2).Nodup := fun l => by
      induction l with
      | nil => intro _ _; exact List.nodup_nil
      | cons e l ih =>
        intro hm ha
        obtain ⟨h1, h2⟩ := List.pairwise_cons.mp ha
        refine List.nodup_cons.mpr ⟨fun z => ?_, ih (fun f hf => hm f (List.mem_cons_of_mem _ hf)) h2⟩
        obtain ⟨f, hf, ef⟩ := List.mem_map.mp z
        exact h1 f hf (strV e.2) ((isK e (hm e List.mem_cons_self) _).2 rfl) ((isK f (hm f (List.mem_cons_of_mem _ hf)) _).2 ef)
    exact q _ (fun _ h => h) r.ap
  have mem : ∀ k, k ∈ (es.toList.map fun e => strV e.2) ↔ S k = true := fun k => by
    rw [r.me k, List.mem_map]
    exact ⟨fun ⟨e, he, q⟩ => ⟨e, he, (isK e he k).2 q⟩, fun ⟨e, he, q⟩ => ⟨e, he, (isK e he k).1 q⟩⟩
  refine wpAny_bind (wpAny_newList ?_ few)
  have own : (s1.heap.push (seqObj "list" vs.toArray 0)).get? s1.heap.objs.size = some (seqObj "list" vs.toArray 0) := Heap.get?_push_size _ rfl
  refine wpAny_bind (wpAny_holding (wpAny_call_entry slot_list_sort ⟨_, own, rfl⟩ entry_list_sort (list_sort_treeKAny strKind_oneLt own hS.keysOf (fun v₁ v₂ rest e => keyKind_strs (by rw [← e]; exact hS)) few fun st' hp hs => ⟨_, rfl, ?_⟩) (args_list_sort _)))
  obtain ⟨ys, y1, y2, y3⟩ := sorted_out_str hS hp hs
  obtain ⟨c, hc⟩ := sortedHeap_at (vs := vs) (out := (arrOf st').map (·.2)) own
  have pn := y2.trans pk
  refine wpAny_pure ⟨_, rfl, hQ _ s1.heap.objs.size _ c ys (fun b u e => ?_) g1 o1 z1 hc y1 y3 (pn.nodup_iff.mpr nd) (fun k => by rw [pn.mem_iff, mem k]) ?_ (r.sz ▸ r.lt)⟩
  · have q := k1 b u e
    have l1 := Heap.lt_size q
    show (sortedHeap (s1.heap.push (seqObj "list" vs.toArray 0)) s1.heap.objs.size vs _).get? b = some u
    rw [sortedHeap_old (Nat.ne_of_lt l1) (by rw [size_push']; exact Nat.lt_succ_of_lt l1)]
    exact Heap.get?_push_of_some _ q
  · rw [pn.length_eq, List.length_map, Array.length_toList]; exact r.sz
def rSortSS (P : Program) (w : World) : List V → Hp → VK → Prop := fun vs H Q => ∃ (a : Addr) (S : Str → Bool) (n : Nat), vs = [V.ref a] ∧ H a = some (SSo P w a S n) ∧
  ∀ (ys : List Str) (p : Addr), sortedS ys = true → ys.Nodup → (∀ k, k ∈ ys ↔ S k = true) → ys.length = n → n < scanBound → H p = none → Q (.ref p) (upd H p (.lst (ys.map V.str)))
theorem cr_sortSS (hc : X.calm = true) : CallR X (.builtin "sorted") (rSortSS X.prog X.w) := by
  intro pins s σ H vs us Q I r q
  obtain ⟨a, S, n, rfl, ha, q⟩ := q
  rw [Vals.ref1 r]
  refine sorted_sg (sso_get I ha) (I.ok.hd hc) fun s' p out c ys kp g o hp hg hi hs nd hm hl hb => ?_
  have len : (ys.map V.str).length ≤ sizeLine := by rw [List.length_map, hl]; exact fits_of_scanBound hb
  have free : H p = none := I.hok.fresh hp
  have J : Inv X pins σ (upd H p (.lst (ys.map V.str))) { s with heap := s'.heap, gens := s'.gens, drawn := s'.drawn, toks := s'.toks } :=
    I.call (ch := []) (Un.laid kp hp free) (I.hok.laid kp hp ⟨len, out.toList, c, vals_of_strs hi, hg⟩) (g.symm ▸ I.bare) (fun _ z => nomatch z)
  have e : s' = { s with heap := s'.heap, gens := s'.gens, drawn := s'.drawn, toks := s'.toks } := by
    obtain ⟨_, _, _, _, _⟩ := s'
    obtain ⟨_, _, _, _, _⟩ := s
    obtain rfl := o
    rfl
  rw [e]
  exact ⟨.ref p, _, J, rfl, q ys p hs nd hm hl hb free⟩
end
end Pu

end

section
/-! PuV: {e for x in a for y in b} of texts. -/
namespace Pu
open PySem L2 PySem.Spec PyProof.Rows

section
variable {prog : Program} {w : World} {A : Around} {R : Result → Shared → Prop} {s : Shared} {elt t0 i0 t1 i1 : Expr} {f0 f1 : List Expr} {scope : Scope} {pos : Pos} {it acc : Value} {env : Env}
/-- what a raised error meets -/
abbrev nb (prog : Program) (w : World) (A : Around) (env : Env) (R : Result → Shared → Prop) : Value → Shared → Prop := notedBy (model prog w) A env fun e s' => R (.error e) s'
abbrev tests (f : List Expr) (env : Env) : Sem Bool := forIn f true fun c r => if r = true then do let ok ← isTrue c env (eval c env); pure (ForInStep.yield ok) else pure (ForInStep.yield r)
end
section
variable {X : Cx}
variable {elt tg iter tg1 iter1 : Expr} {f0 f1 : List Expr} {scope : Scope} {own : List (Str × Nat)} {vs1 : List Nat} {pos : Pos} {wi wi1 : TI} {g g1 : TG} {tt tt1 : TT} {te : TE}
end
end Pu

end

section
/-! PuW: sets of texts, comprehensions of two clauses, in the plain layer. -/
namespace Pu
open PySem L2 PyProof.Rows RZ

/-! ### no own lists -/
section
variable {K : PySem.W.Frag} {F : Fr} {Hb H : Hp} {σ : L2.St} {env : EV}
end
/-! ### sorted(set(xs)) -/
def sortedOf (xs : List Str) (Q : DK) : Prop := ∀ ys : List Str, sortedS ys = true → ys.Nodup → (∀ k, k ∈ ys ↔ k ∈ xs) → Q (.own (ys.map PyData.str))
def fSortSet : FN := fun ss Q => match ss with
  | [.d (.list ds)] => ∃ xs, strsD ds = some xs ∧ xs.length + 1 < scanBound ∧ sortedOf xs Q
  | _ => False
section
variable {K : PySem.W.Frag} {F : Fr} {hid : Hid} {P : Program} {w : World}
theorem memB_iff {xs : List Str} {k : Str} : memB xs k = true ↔ k ∈ xs := by unfold memB; exact decide_eq_true_iff
theorem sort_end {Hb Hb1 H H1 : Hp} {D : Addr} {xs : List Str} {n : Nat} {Q : DK} {k : VK} (st : Step hid Hb H Hb1 H1) (hD : H1 D = some (SSo P w D (memB xs) n)) (q : sortedOf xs Q)
    (c : ∀ v Hb' H' s', Step hid Hb H Hb' H' → RepSl K hid Hb' H' v s' → FrSl H v s' → Q s' → k v H') : rSortSS P w [V.ref D] H1 k := by
  refine ⟨D, memB xs, n, rfl, hD, fun ys p h1 h2 h3 _ _ hp => ?_⟩
  obtain ⟨s2, r2, f2⟩ := own_new (K := K) st.st hp (strs_all (K := K) (Hb := Hb1) ys)
  exact c _ Hb1 _ (.own _) (st.trans s2) r2 (FrSl.back st f2) (q ys h1 h2 fun k => (h3 k).trans memB_iff)
theorem sd_sortSet {ta : TA} {fa : DTA} (h : SdA K F ta fa) : SdE K F (tCB (rSortSS P w) (tCons (tCB (rSetS K P w) ta) tNil)) (dCall fSortSet fa) := by
  intro Hb H σ env Q k rp q c
  refine h Hb H σ env _ _ rp q fun vs Hb1 H1 ss st1 rs1 q1 => ?_
  unfold fSortSet at q1
  split at q1
  · rename_i ds
    obtain ⟨xs, e, hb, q1⟩ := q1
    obtain ⟨v, rfl, h⟩ := rep1 rs1
    cases (show Dq K Hb1 v (.list ds) from h) with
    | lst h1 h2 =>
      have ev := strs_rep h2 e
      subst ev
      refine ⟨_, xs, rfl, SqL.of (st1.st.ex _ _ h1), hb, fun p n hp hn => ?_⟩
      exact sort_end (K := K) (st1.trans (Step.raw st1.st hp)) upd_same q1 c
  · exact q1.elim
end
section
variable {X : Cx} {F : Fr} {K : PySem.W.Frag} {e : Expr} {ta : TA} {fa : DTA} {p p2 pos pos2 : Pos}
theorem k_sortSet (q : X.K = K) (h1 : X.mg "sorted" = none) (h2 : X.mg "set" = none) (ha : DA X F [e] ta fa) (hc : X.calm = true := by rfl) (hg : Gl X "sorted" := by rfl) (hg2 : Gl X "set" := by rfl)
    (hs : starEach [e] X.env = (false, eval e X.env) :: starEach [] X.env := by rfl) (hs2 : starEach [.Call (.Name "set" p2) [e] [] pos2] X.env = (false, eval (.Call (.Name "set" p2) [e] [] pos2) X.env) :: starEach [] X.env := by rfl) :
    DE X F (.Call (.Name "sorted" p) [.Call (.Name "set" p2) [e] [] pos2] [] pos) (tCB (rSortSS X.prog X.w) (tCons (tCB (rSetS K X.prog X.w) ta) tNil)) (dCall fSortSet fa) := by
  subst q
  exact ⟨pe_callB (cr_sortSS hc) hg h1 (by decide +kernel) (pa_cons (pe_callTy (cr_setS hc) hg2 h2 (by decide +kernel) ha.pe (by decide) (by decide) hs) pa_nil hs2) (by decide) (by decide) hs2, sd_sortSet ha.sd⟩
end

/-! ### sorted({z for .. for ..}) of texts -/
section
variable {K : PySem.W.Frag} {F : Fr} {P : Program} {w : World}
end

/-! ### [e for .. for ..] -/
section
variable {K : PySem.W.Frag} {F : Fr} {P : Program} {w : World}
end

/-! ### the rules -/
section
variable {X : Cx} {F : Fr} {K : PySem.W.Frag} {tg iter tg1 iter1 elt : Expr} {te : TE} {fe : DTE} {wi wi1 : TI} {fi fi1 : DTI} {g g1 : TG} {fg fg1 : DTG} {tt tt1 : TT} {ft ft1 : DTT} {pos p2 p3 : Pos} {ifs ifs1 : List Expr} {scope : Scope} {own : List (Str × Nat)} {vs1 : List Nat}
end
end Pu

end

section
/-! PuX: tuple * int, chains of comparisons. -/
namespace Pu
open PySem L2 PySem.Spec PyProof.Rows

section
variable {X : Cx}
end
section
variable {K : PySem.W.Frag} {hid : Hid}
end
/-! ### a < b < c -/
def dChain (f f' : F2) (fa fb fc : DTE) : DTE := fun env Q => fa env fun s => fb env fun u => f s.fz u.fz fun z => ∃ b, z.fz = .d (.bool b) ∧ if b = true then fc env fun t => f' u.fz t.fz Q else Q (.d (.bool false))
section
variable {K : PySem.W.Frag} {F : Fr} {ta tb tc : TE} {fa fb fc : DTE} {r r' : R2} {f f' : F2}
theorem sd_chain (lo : LO K F.hid r f) (lo' : LO K F.hid r' f') (ha : SdE K F ta fa) (hb : SdE K F tb fb) (hc : SdE K F tc fc) : SdE K F (tChain r r' ta tb tc) (dChain f f' fa fb fc) := by
  intro Hb H σ env Q k rp q c
  refine ha.go (Q := fun s => fb env fun u => f s u.fz fun z => ∃ b, z.fz = .d (.bool b) ∧ if b = true then fc env fun t => f' u.fz t.fz Q else Q (.d (.bool false))) rp q fun x Hb1 H1 s st1 rs1 _ q1 => ?_
  refine hb.go (Q := fun u => f s u fun z => ∃ b, z.fz = .d (.bool b) ∧ if b = true then fc env fun t => f' u t.fz Q else Q (.d (.bool false))) (rp.on st1) q1 fun y Hb2 H2 u st2 rs2 _ q2 => ?_
  refine lo Hb2 H2 x y s u _ _ st2.st (rs1.step st2) rs2 q2 fun v Hb3 H3 z st3 r3 f3 q3 => ?_
  obtain ⟨b, e, q3⟩ := q3
  have ez : z = .d (.bool b) := by cases z <;> first | exact e | cases e
  have all := (st1.trans st2).trans st3
  refine ⟨b, bool_of r3 ez, ?_⟩
  match b, q3 with
  | false, q3 => exact c (.bl false) Hb3 H3 (.d (.bool false)) all (Dq.bl false) trivial q3
  | true, q3 =>
    show tc σ H3 _
    refine hc.go (Q := fun t => f' u t Q) (rp.on all) q3 fun w Hb4 H4 t st4 rt _ q4 => ?_
    exact lo' Hb4 H4 y w u t Q k st4.st ((rs2.step st3).step st4) rt q4 fun v Hb' H' s' st5 r5 f5 q5 => c v Hb' H' s' ((all.trans st4).trans st5) r5 (FrSl.back (all.trans st4) f5) q5
end
section
variable {X : Cx} {F : Fr} {a b c : Expr} {ta tb tc : TE} {fa fb fc : DTE} {r r' : R2} {f f' : F2} {op op' : CmpOp} {pos : Pos} {K : PySem.W.Frag}
theorem de_chain (ho : OpR X (compareOp op) r) (lo : ∀ hid, LO X.K hid r f) (ho' : OpR X (compareOp op') r') (lo' : ∀ hid, LO X.K hid r' f') (ha : DE X F a ta fa) (hb : DE X F b tb fb) (hc : DE X F c tc fc)
    (hm : lastMarks [op, op'] [b, c] = false := by with_unfolding_all rfl) : DE X F (.Compare a [op, op'] [b, c] pos) (tChain r r' ta tb tc) (dChain f f' fa fb fc) :=
  ⟨pe_chain ho ho' ha.pe hb.pe hc.pe hm, sd_chain (lo F.hid) (lo' F.hid) ha.sd hb.sd hc.sd⟩
theorem dt_chain (ho : OpR X (compareOp op) r) (lo : ∀ hid, LO X.K hid r f) (ho' : OpR X (compareOp op') r') (lo' : ∀ hid, LO X.K hid r' f') (ha : DE X F a ta fa) (hb : DE X F b tb fb) (hc : DE X F c tc fc)
    (hm : lastMarks [op, op'] [b, c] = false := by with_unfolding_all rfl) : DT X F (.Compare a [op, op'] [b, c] pos) (tTest (tChain r r' ta tb tc)) (dTest (dChain f f' fa fb fc)) :=
  ⟨pt_chain ho ho' ha.pe hb.pe hc.pe hm, sd_test (sd_chain (lo F.hid) (lo' F.hid) ha.sd hb.sd hc.sd)⟩
end

/-! ### a, b = x, y -/
def dPar (i j : Nat) (fa : DTA) : DTS := fun E env => fa env fun ss => ∃ s u, ss = [s, u] ∧ E.nx ((env.set i (some s)).set j (some u))
section
variable {K : PySem.W.Frag} {F : Fr} {ta : TA} {fa : DTA}
theorem sd_par (i j : Nat) (h : SdA K F ta fa) : SdS K F (tPar i j ta) (dPar i j fa) := by
  intro Hb H σ env D E r q l
  refine h Hb H σ env _ _ r q fun vs Hb1 H1 ss st rs q1 => ?_
  obtain ⟨s, u, e, q1⟩ := q1
  subst e
  cases rs with
  | cons a1 e1 t =>
    cases t with
    | cons a2 e2 t =>
      cases t
      exact ⟨_, _, rfl, l.nx Hb1 H1 _ _ st.ex (((r.on st).set (Step.refl st.st) a1 (fr_of e1) i).set (Step.refl st.st) a2 (fr_of e2) j) q1⟩
end
section
variable {X : Cx} {F : Fr} {a b c : Expr} {ta : TA} {fa : DTA} {px py pz pt pos : Pos} {kt k2 : Nat} {pt2 : Pos}
theorem ds_par (i j : Nat) {x y : Str} (hN : X.N.Nodup) (ha : DA X F [a, b] ta fa) (hi : X.N[i]? = some x := by rfl) (hj : X.N[j]? = some y := by rfl) (hij : i ≠ j := by decide) (hx : X.env.scope.names.lookup x = some .local := by rfl) (hy : X.env.scope.names.lookup y = some .local := by rfl) (hc : X.calm = true := by rfl)
    (hw : swappedStores [.Tuple [.Name x px, .Name y py] kt pt] (.Tuple [a, b] k2 pt2) X.env = pure (some [x, y]) := by rfl) (hs : swapsWithSole [.Tuple [.Name x px, .Name y py] kt pt] (.Tuple [a, b] k2 pt2) pos.line X.env = pure false := by rfl) :
    DS X F (.Assign [.Tuple [.Name x px, .Name y py] kt pt] (.Tuple [a, b] k2 pt2) pos) (tPar i j ta) (dPar i j fa) := ⟨ps_par hc hN hi hj hij hx hy ha.pe hw hs, sd_par i j ha.sd⟩
end

/-! ### source = _law_source(script) -/
section
variable {X : Cx} {px p1 p2 p3 pos : Pos} {K : PySem.W.Frag}
theorem ps_first (q : X.K = K) (G : Fn X.prog X.w K X.mg X.base "_law_source" 1 ["script"] (spSource K)) (hr : RoomG 1 X.A) (hN : X.N.Nodup) (h0 : X.N[0]? = some ("script" : Str) := by rfl) (h1 : X.N[1]? = some ("source" : Str) := by rfl) (v0 : Vis X.env.scope "script" := by first | exact Or.inl rfl | exact Or.inr (Or.inl rfl) | exact Or.inr (Or.inr rfl))
    (hx : Loc X.env.scope "source" := by first | exact Or.inl rfl | exact Or.inr rfl) (hg : Gl X "_law_source" := by rfl) (he : starEach [Expr.Name "script" p2] X.env = (false, eval (Expr.Name "script" p2) X.env) :: starEach [] X.env := by rfl)
    (hs : swapsWith (.Call (.Name "_law_source" p1) [.Name "script" p2] [] p3) (some (.Name "source" px)) pos.line X.env = pure false := by rfl) (hf : X.fn "source" = true ∨ X.env.scope.names.lookup ("source" : Str) = some .local := by first | exact .inl rfl | exact .inr rfl) :
    PS X (.Assign [.Name "source" px] (.Call (.Name "_law_source" p1) [.Name "script" p2] [] p3) pos) (tAsg (tFn (spSource K) (tCons (tVar 0) tNil)) (gName 1)) := by
  subst q
  obtain ⟨f, fd, hm, hk, hb, J⟩ := G.ex
  exact ps_set (i := 1) hN h1 hx (pe_callG J hr hg hm hk hb pass0 (pa_cons (pe_var h0 v0 (by decide) (by decide)) pa_nil) (by decide) he) hs hf
end
end Pu

end

section
/-! PuM: pure facts: equal scalars, the length of shown data, sorted lists, walks. -/
namespace Pu
open PySem L2 PyProof.Rows

/-! ### scalars -/
def fEqS (neg : Bool) : F2 := fun s u Q => match s, u with
  | .d (.str a), .d (.str b) => Q (.d (.bool (if neg then !decide (a = b) else decide (a = b))))
  | .d (.int a), .d (.int b) => Q (.d (.bool (if neg then !decide (a = b) else decide (a = b))))
  | .d (.bool a), .d (.bool b) => Q (.d (.bool (if neg then !decide (a = b) else decide (a = b))))
  | .d (.none), .d (.int _) => Q (.d (.bool neg))
  | .d (.int _), .d (.none) => Q (.d (.bool neg))
  | .d (.none), .d (.str _) => Q (.d (.bool neg))
  | .d (.str _), .d (.none) => Q (.d (.bool neg))
  | .d (.int _), .d (.str _) => Q (.d (.bool neg))
  | .d (.str _), .d (.int _) => Q (.d (.bool neg))
  | .d (.none), .d (.none) => Q (.d (.bool (!neg)))
  | _, _ => False
section
variable {K : PySem.W.Frag} {hid : Hid} {Hb H : Hp}
theorem bool_of' {x : V} {b : Bool} (h : RepSl K hid Hb H x (.d (.bool b))) : x = .bl b := bool_of h rfl
theorem non_of {x : V} (h : RepSl K hid Hb H x (.d .none)) : x = .non := by
  cases (show Dq K Hb x .none from h)
  rfl
theorem lo_eqS : LO K hid rEq (fEqS false) := by
  intro Hb H x y s u Q k st rx ry q c
  unfold fEqS at q
  split at q
  · rename_i a b; rw [str_of rx, str_of ry]; exact ⟨rfl, c _ Hb H (.d (.bool (decide (a = b)))) (Step.refl st) (by rw [show decide (V.str a = V.str b) = decide (a = b) by simp]; exact Dq.bl _) trivial q⟩
  · rename_i a b; rw [int_of rx, int_of ry]; exact ⟨rfl, c _ Hb H (.d (.bool (decide (a = b)))) (Step.refl st) (by rw [show decide (V.int a = V.int b) = decide (a = b) by simp]; exact Dq.bl _) trivial q⟩
  · rename_i a b; rw [bool_of' rx, bool_of' ry]; exact ⟨rfl, c _ Hb H (.d (.bool (decide (a = b)))) (Step.refl st) (by rw [show decide (V.bl a = V.bl b) = decide (a = b) by simp]; exact Dq.bl _) trivial q⟩
  · rw [non_of rx, int_of ry]; exact ⟨rfl, c _ Hb H (.d (.bool false)) (Step.refl st) (Dq.bl _) trivial q⟩
  · rw [non_of ry, int_of rx]; exact ⟨rfl, c _ Hb H (.d (.bool false)) (Step.refl st) (Dq.bl _) trivial q⟩
  · rw [non_of rx, str_of ry]; exact ⟨rfl, c _ Hb H (.d (.bool false)) (Step.refl st) (Dq.bl _) trivial q⟩
  · rw [non_of ry, str_of rx]; exact ⟨rfl, c _ Hb H (.d (.bool false)) (Step.refl st) (Dq.bl _) trivial q⟩
  · rw [int_of rx, str_of ry]; exact ⟨rfl, c _ Hb H (.d (.bool false)) (Step.refl st) (Dq.bl _) trivial q⟩
  · rw [str_of rx, int_of ry]; exact ⟨rfl, c _ Hb H (.d (.bool false)) (Step.refl st) (Dq.bl _) trivial q⟩
  · rw [non_of rx, non_of ry]; exact ⟨rfl, c _ Hb H (.d (.bool true)) (Step.refl st) (Dq.bl _) trivial q⟩
  · exact q.elim
theorem lo_neS : LO K hid rNe (fEqS true) := by
  intro Hb H x y s u Q k st rx ry q c
  unfold fEqS at q
  split at q
  · rename_i a b; rw [str_of rx, str_of ry]; exact ⟨rfl, c _ Hb H (.d (.bool (!decide (a = b)))) (Step.refl st) (by rw [show decide (V.str a = V.str b) = decide (a = b) by simp]; exact Dq.bl _) trivial q⟩
  · rename_i a b; rw [int_of rx, int_of ry]; exact ⟨rfl, c _ Hb H (.d (.bool (!decide (a = b)))) (Step.refl st) (by rw [show decide (V.int a = V.int b) = decide (a = b) by simp]; exact Dq.bl _) trivial q⟩
  · rename_i a b; rw [bool_of' rx, bool_of' ry]; exact ⟨rfl, c _ Hb H (.d (.bool (!decide (a = b)))) (Step.refl st) (by rw [show decide (V.bl a = V.bl b) = decide (a = b) by simp]; exact Dq.bl _) trivial q⟩
  · rw [non_of rx, int_of ry]; exact ⟨rfl, c _ Hb H (.d (.bool true)) (Step.refl st) (Dq.bl _) trivial q⟩
  · rw [non_of ry, int_of rx]; exact ⟨rfl, c _ Hb H (.d (.bool true)) (Step.refl st) (Dq.bl _) trivial q⟩
  · rw [non_of rx, str_of ry]; exact ⟨rfl, c _ Hb H (.d (.bool true)) (Step.refl st) (Dq.bl _) trivial q⟩
  · rw [non_of ry, str_of rx]; exact ⟨rfl, c _ Hb H (.d (.bool true)) (Step.refl st) (Dq.bl _) trivial q⟩
  · rw [int_of rx, str_of ry]; exact ⟨rfl, c _ Hb H (.d (.bool true)) (Step.refl st) (Dq.bl _) trivial q⟩
  · rw [str_of rx, int_of ry]; exact ⟨rfl, c _ Hb H (.d (.bool true)) (Step.refl st) (Dq.bl _) trivial q⟩
  · rw [non_of rx, non_of ry]; exact ⟨rfl, c _ Hb H (.d (.bool false)) (Step.refl st) (Dq.bl _) trivial q⟩
  · exact q.elim
end

/-! ### how long shown data is -/
mutual
def big : PyData → Nat
  | .none => 4
  | .bool _ => 5
  | .int _ => 101
  | .str x => 10 * x.length + 2
  | .list xs => bigAll xs + 3
  | .tuple xs => bigAll xs + 3
  | .dict _ => 0
def bigAll : List PyData → Nat
  | [] => 0
  | x :: xs => big x + 2 + bigAll xs
end
mutual
/-- plain data: no dicts, ints of at most 100 figures, texts of common signs -/
def tame : PyData → Bool
  | .none => true
  | .bool _ => true
  | .int i => decide (i.natAbs < 10 ^ 100)
  | .str x => x.cps.toList.all fun c => decide (c < 16 ^ 8)
  | .list xs => tameAll xs
  | .tuple xs => tameAll xs
  | .dict _ => false
def tameAll : List PyData → Bool
  | [] => true
  | x :: xs => tame x && tameAll xs
end
mutual
theorem tame_noDict : ∀ d : PyData, tame d = true → d.hasDict = false
  | .none, _ => by simp [PyData.hasDict]
  | .bool _, _ => by simp [PyData.hasDict]
  | .int _, _ => by simp [PyData.hasDict]
  | .str _, _ => by simp [PyData.hasDict]
  | .list xs, h => by simp only [PyData.hasDict]; exact tame_noDictAll xs (by simpa [tame] using h)
  | .tuple xs, h => by simp only [PyData.hasDict]; exact tame_noDictAll xs (by simpa [tame] using h)
  | .dict _, h => by simp [tame] at h
theorem tame_noDictAll : ∀ xs : List PyData, tameAll xs = true → PyData.hasDictAll xs = false
  | [], _ => rfl
  | x :: xs, h => by
    simp only [tameAll, Bool.and_eq_true] at h
    simp only [PyData.hasDictAll, tame_noDict x h.1, tame_noDictAll xs h.2, Bool.or_self]
end
theorem piled_nil : piled [] = 0 := rfl
theorem textFrom_le : ∀ (ts : List Str) (k : Nat) (acc : Str), (textFrom k acc ts).length ≤ acc.length + piled ts
  | [], k, acc => Nat.le_refl _
  | t :: r, k, acc => by
    have ih := textFrom_le r (k + 1) (acc ++ (if k > 0 then ", " else "" : String) ++ t)
    have e : (acc ++ (if k > 0 then ", " else "" : String) ++ t).length = acc.length + (if k > 0 then 2 else 0) + t.length := by
      rw [strLen_append, strLen_append]; split <;> rfl
    rw [e] at ih
    show (textFrom (k + 1) _ r).length ≤ _
    rw [piled_cons]
    have d : (if k > 0 then 2 else 0 : Nat) ≤ 2 := by split <;> omega
    omega
theorem listText_le (ts : List Str) : (listText ts).length ≤ piled ts + 2 := by
  unfold listText
  rw [strLen_append]
  have h := textFrom_le ts 0 "["
  have e1 : ((("[" : String) : Str)).length = 1 := rfl
  have e2 : ((("]" : String) : Str)).length = 1 := rfl
  omega
theorem tupleText_le (ts : List Str) : (tupleText ts).length ≤ piled ts + 3 := by
  unfold tupleText
  rw [strLen_append, strLen_append]
  have e1 : ((("(" : String) : Str)).length = 1 := rfl
  have e3 : (((if ts.length == 1 then ",)" else ")" : String) : Str)).length ≤ 2 := by split <;> decide
  rw [e1]
  by_cases h : ts = []
  · subst h
    have : (Str.join ", " []).length = 0 := rfl
    rw [piled_nil]; omega
  · have := join_length_add ts h
    omega
theorem tameAll_iff {xs : List PyData} : tameAll xs = true ↔ ∀ x ∈ xs, tame x = true := by
  induction xs with
  | nil => simp [tameAll]
  | cons x xs ih => simp [tameAll, ih]
theorem depthAll_le {xs : List PyData} {n : Nat} (h : ∀ x ∈ xs, x.depth ≤ n) : PyData.depthAll xs ≤ n := by
  induction xs with
  | nil => simp [PyData.depthAll]
  | cons x xs ih =>
    have h1 := h x List.mem_cons_self
    have h2 := ih fun y hy => h y (List.mem_cons_of_mem _ hy)
    simp only [PyData.depthAll]
    exact Nat.max_le.mpr ⟨h1, h2⟩

/-! ### sorted texts -/
/-- a before b -/
def StrLe (a b : Str) : Prop := ¬ b.cps.toList < a.cps.toList
theorem StrLe.trans {a b c : Str} (h1 : StrLe a b) (h2 : StrLe b c) : StrLe a c := by
  unfold StrLe at *
  rw [List.not_lt] at *
  exact List.le_trans h1 h2
end Pu

end

section
/-! PuN: comprehensions and loops by what they give. -/
namespace Pu
open PySem L2 PyProof.Rows

/-! ### one-clause comprehensions -/
/-- one turn: what is put in -/
def dTurn (g : DTG) (tt : DTT) (te : DTE) (env : EV) (y : PyData) (k : List PyData → Prop) : Prop := g (.d y) env fun env1 => tt env1 fun b => if b = true then te env1 fun s => ∃ x, s.fz = .d x ∧ k [x] else k []
section
variable {g : DTG} {tt : DTT} {te : DTE} {env : EV}
theorem lcGo_by : ∀ (ys : List PyData) (I : Nat → List PyData → Prop) (i : Nat) (acc : List PyData) (Q : List PyData → Prop), I i acc →
    (∀ j y acc, ys[j]? = some y → I (i + j) acc → ∀ k : List PyData → Prop, (∀ o, I (i + j + 1) (acc ++ o) → k o) → dTurn g tt te env y k) → (∀ acc, I (i + ys.length) acc → Q acc) → dLcGo g tt te env ys acc Q
  | [], I, i, acc, Q, h, _, fin => fin acc h
  | y :: ys, I, i, acc, Q, h, step, fin => by
    have st := step 0 y acc rfl h (fun o => dLcGo g tt te env ys (acc ++ o) Q) fun o ho => lcGo_by ys I (i + 1) (acc ++ o) Q ho
      (fun j z acc' hz hI k hk => step (j + 1) z acc' hz (by rw [show i + (j + 1) = i + 1 + j by omega]; exact hI) k fun o ho => hk o (by rw [show i + 1 + j + 1 = i + (j + 1) + 1 by omega]; exact ho)) (fun acc' ha => fin acc' (by rw [List.length_cons, show i + (ys.length + 1) = i + 1 + ys.length by omega]; exact ha))
    show g (.d y) env fun env1 => tt env1 fun b => if b = true then te env1 fun s => ∃ x, s.fz = .d x ∧ dLcGo g tt te env ys (acc ++ [x]) Q else dLcGo g tt te env ys acc Q
    unfold dTurn at st
    simpa only [List.append_nil] using st
theorem lc_by {ys : List PyData} {Q : List PyData → Prop} (I : Nat → List PyData → Prop) (h0 : I 0 []) (step : ∀ j y acc, ys[j]? = some y → I j acc → ∀ k : List PyData → Prop, (∀ o, I (j + 1) (acc ++ o) → k o) → dTurn g tt te env y k) (fin : ∀ acc, I ys.length acc → Q acc) :
    dLcGo g tt te env ys [] Q := lcGo_by ys I 0 [] Q h0 (fun j y acc hy hI k hk => step j y acc hy (by simpa using hI) k fun o ho => hk o (by simpa using ho)) (fun acc ha => fin acc (by simpa using ha))
/-- each item anything with P -/
theorem lc_all (P : PyData → Prop) {ys : List PyData} {Q : List PyData → Prop} (h : ∀ y ∈ ys, ∀ k : DK, (∀ s x, s.fz = .d x → P x → k s) → g (.d y) env fun env1 => te env1 k) (q : ∀ zs : List PyData, zs.length = ys.length → (∀ z ∈ zs, P z) → Q zs) : dLcGo g dYes te env ys [] Q := by
  refine lc_by (fun i acc => i ≤ ys.length → acc.length = i ∧ ∀ z ∈ acc, P z) (fun _ => ⟨rfl, fun z hz => by cases hz⟩) (fun j y acc hy hI k hk => ?_) (fun acc ha => q acc (ha (Nat.le_refl _)).1 (ha (Nat.le_refl _)).2)
  have hj : j < ys.length := (List.getElem?_eq_some_iff.mp hy).1
  obtain ⟨h1, h2⟩ := hI (by omega)
  refine h y (List.mem_of_getElem? hy) _ fun s x hs hp => ⟨x, hs, hk [x] fun _ => ⟨by simp [h1], fun z hz => ?_⟩⟩
  rcases List.mem_append.mp hz with hz | hz
  · exact h2 z hz
  · rw [List.mem_singleton.mp hz]; exact hp
end
/-! ### two clauses, texts -/
/-! ### loops -/
theorem loop_go {g : DTG} {body : DTS} {E : DEnds} : ∀ (ys : List PyData) (I : Nat → EV → Prop) (i : Nat) (env : EV), I i env →
    (∀ j y env, ys[j]? = some y → I (i + j) env → ∀ nx : EV → Prop, (∀ env', I (i + j + 1) env' → nx env') → g (.d y) env fun env1 => body { nx := nx, ct := nx, bk := E.nx, rt := E.rt } env1) → (∀ env, I (i + ys.length) env → E.nx env) → dLoop g body E ys env
  | [], I, i, env, h, _, fin => fin env h
  | y :: ys, I, i, env, h, step, fin =>
    step 0 y env rfl h (dLoop g body E ys) fun env' ho => loop_go ys I (i + 1) env' ho
      (fun j z env' hz hI nx hk => step (j + 1) z env' hz (by rw [show i + (j + 1) = i + 1 + j by omega]; exact hI) nx fun o ho => hk o (by rw [show i + 1 + j + 1 = i + (j + 1) + 1 by omega]; exact ho)) (fun env' ha => fin env' (by rw [List.length_cons, show i + (ys.length + 1) = i + 1 + ys.length by omega]; exact ha))
theorem loop_by {g : DTG} {body : DTS} {E : DEnds} {ys : List PyData} {env : EV} (I : Nat → EV → Prop) (h0 : I 0 env)
    (step : ∀ j y env, ys[j]? = some y → I j env → ∀ nx : EV → Prop, (∀ env', I (j + 1) env' → nx env') → g (.d y) env fun env1 => body { nx := nx, ct := nx, bk := E.nx, rt := E.rt } env1) (fin : ∀ env, I ys.length env → E.nx env) : dLoop g body E ys env :=
  loop_go ys I 0 env h0 (fun j y env hy hI nx hk => step j y env hy (by simpa using hI) nx fun e he => hk e (by simpa using he)) (fun e he => fin e (by simpa using he))
/-! ### small facts on data -/
theorem any_strs {z : Str} : ∀ {xs : List Str}, ((xs.map PyData.str).any fun y => PyData.eqv y (.str z)) = decide (z ∈ xs)
  | [] => by simp
  | x :: xs => by
    rw [List.map_cons, List.any_cons, any_strs]
    simp only [PyData.eqv, List.mem_cons]
    by_cases c : x = z
    · simp [c]
    · have c' : ¬ z = x := fun e => c e.symm
      simp [c, c', show (x == z) = false by simpa using c]
def unStr : PyData → Str
  | .str x => x
  | _ => Str.empty
end Pu

end

section
set_option maxHeartbeats 1000000
/-! PuZ: slices from behind, ranges that fall, max of a list, int of a truth, isinstance. -/
namespace Pu
open PySem L2 PyProof.Rows

/-! ### t[::-1] of a tuple -/
section
variable {prog : Program} {w : World} {A : Around} {E : Value → Shared → Prop} {s : Shared}
theorem back_applied {sl : Addr} {vl vu vs : Value} {n : Nat} {Q : Int × Int × Nat → Shared → Prop} (hs : s.heap.IsSliceOf sl vl vu vs) (pl : IsPart vl none) (pu : IsPart vu none) (ps : IsPart vs (some (-1)))
    (h : Q ((n : Int) - 1, -1, n) s) : wpAny (model prog w) A (Builtin.Slice.sliceApplied (.ref sl) (pure (n : Int))) Q E s := by
  obtain ⟨os, hos, hcs, hds⟩ := id hs
  unfold Builtin.Slice.sliceApplied Builtin.Slice.sliceFields
  refine wpAny_bind (wpAny_bind (wpAny_field hos hds (x := vl) rfl (wpAny_bind (wpAny_field hos hds (x := vu) rfl (wpAny_bind (wpAny_field hos hds (x := vs) rfl (wpAny_pure ?_)))))))
  refine wpAny_bind (HT.slicePart_ ps ?_)
  show wpAny _ _ (if ((-1 : Int) == 0) = true then _ else _) _ _ s
  rw [if_neg (by decide)]
  refine wpAny_bind (HT.slicePart_ pl (wpAny_bind (HT.slicePart_ pu (wpAny_bind (wpAny_pure ?_)))))
  have e : Builtin.Slice.sliceAdjust none none (-1) (n : Int) = ((n : Int) - 1, -1) := rfl
  show wpAny _ _ (match Builtin.Slice.sliceAdjust none none (-1) (n : Int) with | (lo, hi) => pure (lo, (-1 : Int), Builtin.Slice.slicePlaces lo hi (-1))) _ _ s
  rw [e]
  show wpAny _ _ (pure ((n : Int) - 1, (-1 : Int), Builtin.Slice.slicePlaces ((n : Int) - 1) (-1) (-1))) _ _ s
  have e2 : Builtin.Slice.slicePlaces ((n : Int) - 1) (-1) (-1) = n := by
    unfold Builtin.Slice.slicePlaces
    rw [if_neg (by decide)]
    by_cases c : (n : Int) - 1 > -1
    · rw [if_pos c, show (-(-1 : Int)) = 1 by decide, Int.ediv_one]
      omega
    · rw [if_neg c]; omega
  rw [e2]
  exact wpAny_pure h
theorem fm_congr {α β : Type} {f g : α → Option β} : ∀ {l : List α}, (∀ x ∈ l, f x = g x) → l.filterMap f = l.filterMap g
  | [], _ => rfl
  | x :: l, h => by rw [List.filterMap_cons, List.filterMap_cons, h x List.mem_cons_self, fm_congr fun y hy => h y (List.mem_cons_of_mem _ hy)]
theorem back_pick (xs : Array Value) : ((List.range xs.size).filterMap fun (m : Nat) => xs[(((xs.size : Int) - 1) + (m : Int) * -1).toNat]?).toArray = xs.toList.reverse.toArray := by
  have e : ((List.range xs.size).filterMap fun (m : Nat) => xs[(((xs.size : Int) - 1) + (m : Int) * -1).toNat]?) = ((List.range xs.size).map fun k => xs.size - 1 - k).filterMap (xs[·]?) := by
    rw [List.filterMap_map]
    refine fm_congr fun m hm => ?_
    have := List.mem_range.mp hm
    show xs[(((xs.size : Int) - 1) + (m : Int) * -1).toNat]? = xs[xs.size - 1 - m]?
    rw [show (((xs.size : Int) - 1) + (m : Int) * -1).toNat = xs.size - 1 - m by omega]
  rw [e, PySem.W.krv_range, List.filterMap_reverse, PySem.W.krv_all]
theorem getItem_tuple_back {t sl : Addr} {items : Array Value} {vl vu vs : Value} {Q : Value → Shared → Prop} (ht : IsTup s.heap t items) (hs : s.heap.IsSliceOf sl vl vu vs) (pl : IsPart vl none) (pu : IsPart vu none) (ps : IsPart vs (some (-1)))
    (h : Q (.ref s.heap.objs.size) { s with heap := s.heap.push { cls := .type "tuple", data := .seq items.toList.reverse.toArray } })
    (hsz : items.size ≤ sizeLine) : wpAny (model prog w) A (getItem (.ref t) (.ref sl)) Q E s := by
  have htake : sizeOk (.seq items.toList.reverse.toArray) := by
    show items.toList.reverse.toArray.size ≤ sizeLine
    rw [List.size_toArray, List.length_reverse, Array.length_toList]
    exact hsz
  obtain ⟨os, hos, hcs, hds⟩ := id hs
  have hTs : s.TypeIs (.ref sl) "slice" := ⟨os, hos, hcs⟩
  unfold getItem
  try with_reducible refine wpAny_holding ?_
  first | refine wpAny_bind (wpAny_pure ?_) | skip
  refine wpAny_bind (wpAny_sequenceKey ht.typeIs (by decide) ?_)
  refine wpAny_bind (wpAny_callSpecial?_slot (name := Str.ofString "__getitem__") ht.typeIs PyProof.Rows.slot_tuple_getitem
    (wpAny_call_entry PyProof.Rows.slot_tuple_getitem ht.typeIs entry_tuple_getitem ?_ (args_tuple_getitem _ _)))
  show wpAny _ _ (Builtin.Tuple.tupleItemsOf (.ref t) >>= _) _ _ s
  refine wpAny_bind (tupleItemsOf_ ht ?_)
  refine wpAny_bind (wpAny_typeOf hTs ?_)
  rw [if_pos (by decide)]
  refine wpAny_bind (back_applied hs pl pu ps ?_)
  have hno : ¬ ((((items.size : Int) - 1) == 0 && (-1 : Int) == 1 && items.size == items.size) = true) := by
    intro q
    rw [Bool.and_eq_true, Bool.and_eq_true] at q
    have := q.1.2
    exact absurd this (by decide)
  show wpAny _ _ (if (((items.size : Int) - 1) == 0 && (-1 : Int) == 1 && items.size == items.size) = true then _ else _) _ _ s
  rw [if_neg hno, back_pick]
  first
    | exact wpAny_bind (m := Builtin.Tuple.tupleExact _) (wpAny_newObj_type (wpAny_pure ⟨_, rfl, wpAny_pure h⟩) htake)
    | exact wpAny_bind (m := Builtin.Tuple.tupleExact _) (wpAny_newObj_type (wpAny_bind (wpAny_pure (wpAny_pure ⟨_, rfl, wpAny_pure h⟩))) htake)
    | exact wpAny_bind (wpAny_bind (m := Builtin.Tuple.tupleExact _) (wpAny_newObj_type (wpAny_pure (wpAny_pure ⟨_, rfl, wpAny_pure h⟩)) htake))
    | exact wpAny_bind (wpAny_bind (m := Builtin.Tuple.tupleExact _) (wpAny_newObj_type (wpAny_pure ⟨_, rfl, wpAny_pure h⟩) htake))
end

def tRevT (K : PySem.W.Frag) (te : TE) : TE := fun σ H Q => te σ H fun x H1 => ∃ a xs, x = .ref a ∧ SqT K H1 a xs ∧ ∀ p, H1 p = none → Q (.ref p) (upd H1 p (.tup xs.reverse))
section
variable {X : Cx}
theorem pe_revT {e : Expr} {te : TE} {k : Nat} {p1 p2 p3 pos : Pos} (he : PE X e te) : PE X (.Subscript e (.Slice none none (some (.UnaryOp .USub (.Constant (.int 1) k p1) p2)) p3) pos) (tRevT X.K te) := by
  refine ⟨fun pins s σ H Q I h => ?_⟩
  refine Subscript_ (thn (he.run pins s σ H _ I h) fun v s1 ⟨x, H1, I1, r1, q1⟩ => ?_)
  obtain ⟨a, xs, ex, hx, q⟩ := q1
  subst ex
  cases r1
  have hst : PO X (some (.UnaryOp .USub (.Constant (.int 1) k p1) p2)) (tPart (tUn (rU fun i => .int (-i)) (tC (.int 1)))) := po_some (pe_un un_neg pe_int)
  refine wpAny_Slice (thn (po_none.run pins s1 σ H1 (fun o H2 => o = none ∧ H2 = H1) I1 ⟨rfl, rfl⟩) fun vl s2 ⟨l, H2, I2, pl, el, e2⟩ => ?_)
  subst el e2
  refine thn (po_none.run pins s2 σ H2 (fun o H3 => o = none ∧ H3 = H2) I2 ⟨rfl, rfl⟩) fun vu s3 ⟨u, H3, I3, pu, eu, e3⟩ => ?_
  subst eu e3
  refine thn (hst.run pins s3 σ H3 (fun o H4 => o = some (-1) ∧ H4 = H3) I3 ⟨1, rfl, -1, rfl, rfl, rfl⟩) fun vs s4 ⟨o, H4, I4, ps, eo, e4⟩ => ?_
  subst eo e4
  have I5 : Inv X pins σ H4 { s4 with heap := s4.heap.push { cls := .type "slice", data := .fields #[vl, vu, vs] } } := I4.kept (t' := s4.toks) fun b ob q => Heap.get?_push_of_some _ q
  obtain ⟨its, r, ht, hz⟩ := I5.tuple hx
  have hlen := r.length
  show wpAny (model X.prog X.w) X.A (subscriptTail e (.Slice none none (some (.UnaryOp .USub (.Constant (.int 1) k p1) p2)) p3) (.ref a) (.ref s4.heap.objs.size)) (EP X pins σ Q) X.xe { s4 with heap := s4.heap.push { cls := .type "slice", data := .fields #[vl, vu, vs] } }
  refine tail_any (ops := [.ref a, .ref s4.heap.objs.size]) ht.typeIs (PyProof.Rows.slot_tuple_getitem.lookup) ?_ (by with_unfolding_all rfl)
  refine getItem_tuple_back ht (Heap.IsSliceOf.new _ vl vu vs) pl pu ps ?_ (by rw [List.size_toArray]; omega)
  refine ⟨.ref _, _, I5.laid (t' := s4.toks) (o := .tup xs.reverse) (fun b ob q => Heap.get?_push_of_some _ q) (Nat.le_refl _) ?_, rfl, q _ (I5.hok.fresh (Nat.le_refl _))⟩
  exact ⟨by rw [List.length_reverse]; exact hz, _, r.reverse, IsTup.new _ _⟩
end
theorem DqAll.reverse {K : PySem.W.Frag} {H : Hp} : ∀ {ds : List PyData} {vs : List V}, DqAll K H vs ds → DqAll K H vs.reverse ds.reverse
  | _, _, .nil => .nil
  | _, _, .cons h t => by
    rw [List.reverse_cons, List.reverse_cons]
    exact DqAll.append (DqAll.reverse t) (.cons h .nil)
def dRevT (f : DTE) : DTE := fun env Q => f env fun s => ∃ xs, s.fz = .d (.tuple xs) ∧ Q (.d (.tuple xs.reverse))
section
variable {K : PySem.W.Frag} {F : Fr} {te : TE} {fe : DTE}
theorem sd_revT (h : SdE K F te fe) : SdE K F (tRevT K te) (dRevT fe) := by
  intro Hb H σ env Q k rp q c
  refine h.go (Q := fun s => ∃ xs, s = .d (.tuple xs) ∧ Q (.d (.tuple xs.reverse))) rp q fun x Hb1 H1 s st1 rs1 _ q1 => ?_
  obtain ⟨xs, e, q1⟩ := q1
  subst e
  cases (show Dq K Hb1 x (.tuple xs) from rs1) with
  | tup a1 a2 =>
    refine ⟨_, _, rfl, Same.seqT st1.st.ex a1, fun p hp => ?_⟩
    obtain ⟨s2, r2⟩ := tup_new (K := K) st1.st hp (DqAll.reverse a2)
    exact c _ _ _ (.d (.tuple xs.reverse)) (st1.trans s2) r2 trivial q1
end
section
variable {X : Cx} {F : Fr} {e : Expr} {te : TE} {fe : DTE} {k : Nat} {p1 p2 p3 pos : Pos}
theorem de_revT (h : DE X F e te fe) : DE X F (.Subscript e (.Slice none none (some (.UnaryOp .USub (.Constant (.int 1) k p1) p2)) p3) pos) (tRevT X.K te) (dRevT fe) := ⟨pe_revT h.pe, sd_revT h.sd⟩
theorem k_revT {K : PySem.W.Frag} (ek : X.K = K) (h : DE X F e te fe) : DE X F (.Subscript e (.Slice none none (some (.UnaryOp .USub (.Constant (.int 1) k p1) p2)) p3) pos) (tRevT K te) (dRevT fe) := ek ▸ de_revT h
end

/-! ### range(i, j, -1) -/
section
variable {K : PySem.W.Frag} {F : Fr} {hid : Hid} {tr : TA} {fr : DTA}
end
section
variable {X : Cx} {F : Fr} {tg : Expr} {tr : TA} {fr : DTA} {p pos : Pos}
end

/-! ### max of a list of ints, int of a truth, isinstance -/
def intsD : List PyData → Option (List Int)
  | [] => some []
  | .int i :: xs => (intsD xs).map (i :: ·)
  | _ :: _ => none
def fMax1 : FN := fun ss Q => match ss with
  | [.d (.list ds)] => ∃ ns, intsD ds = some ns ∧ 0 < ns.length ∧ ∀ m, m ∈ ns → (∀ y ∈ ns, y ≤ m) → Q (.d (.int m))
  | _ => False
def tyName : PyData → String
  | .none => "NoneType"
  | .bool _ => "bool"
  | .int _ => "int"
  | .str _ => "str"
  | .list _ => "list"
  | .tuple _ => "tuple"
  | .dict _ => "dict"
def fIsi : FN := fun ss Q => match ss with
  | [.d x, .v (.ty n)] => ∃ b, kitB (tyName x) n = some b ∧ Q (.d (.bool b))
  | _ => False
section
variable {K : PySem.W.Frag} {hid : Hid}
theorem ty_of {Hb H : Hp} {v : V} {x : PyData} (h : Dq K Hb v x) (s : Same Hb H) : TyX K H v (.type (tyName x)) := by
  cases h with
  | non => exact .base .non
  | bl b => exact .base (.bl b)
  | int i => exact .base (.int i)
  | str z => exact .base (.str z)
  | lst h1 _ => exact .base (.lst (s _ _ h1))
  | dic h1 _ _ => exact .base (.dK (s _ _ h1))
  | tup h1 _ =>
    rcases h1 with (h1 | ⟨o, h1⟩) | ⟨o, its, n, h2, h3, _⟩
    · exact .base (.tup (s _ _ h1))
    · exact .fTuple (s _ _ h1)
    · exact .kTuple h2 h3
theorem lc_isi : LC K hid (rIsi K) fIsi := by
  intro Hb H xs ss Q k st r q c
  unfold fIsi at q
  split at q
  · rename_i x n
    obtain ⟨v, w, rfl, h1, h2⟩ := rep2 r
    obtain ⟨b, e, q⟩ := q
    have e2 : w = .ty n := h2
    subst e2
    exact ⟨v, .ty n, .type (tyName x), .type n, b, rfl, .ty n, ty_of h1 st.ex, kit_ty e, c _ Hb H (.d (.bool b)) (Step.refl st) (Dq.bl b) trivial q⟩
  · exact q.elim
end
theorem k_isi {X : Cx} {K : PySem.W.Frag} (e : X.K = K) : CallR X (.builtin "isinstance") (rIsi K) := e ▸ call_isi
end Pu

end

section
set_option maxHeartbeats 1000000
/-! PuY: own lists read where the value holds no list; an own list's item; dicts made, read; written dicts read. -/
namespace Pu
open PySem L2 PyProof.Rows

/-! ### values without lists -/
section
variable {K : PySem.W.Frag} {F : Fr} {Hb H : Hp} {σ : L2.St} {env : EV}
theorem Butl.seqT {H H' : Hp} {a : Addr} {xs : List V} (e : Butl H H') (h : SqT K H a xs) : SqT K H' a xs := by
  rcases h with (h | ⟨o, h⟩) | h
  · rcases e _ _ h with z | z
    · exact (z.1 _ rfl).elim
    · exact .inl (.inl z)
  · rcases e _ _ h with z | z
    · exact (z.2 _ _ rfl).elim
    · exact .inl (.inr ⟨o, z⟩)
  · exact .inr h
open Classical in
open Classical in
end
section
variable {X : Cx} {F : Fr} {e : Expr} {te : TE} {fe : DTE}
end

/-! ### an item of an own list -/
section
variable {K : PySem.W.Frag} {F : Fr}
end
end Pu

end

section
set_option maxHeartbeats 1000000
/-! PuDc: dicts with texts for keys: made, read; written ones read. -/
namespace Pu
open PySem L2 PyProof.Rows
def isStr : PyData → Str → Bool
  | .str k, z => decide (k = z)
  | _, _ => false
theorem isStr_key {q : Key} {z : Str} : isStr (keyD q) z = true ↔ q = Sum.inr z := by
  cases q with
  | inl i => simp [keyD, isStr]
  | inr x => simp [keyD, isStr]
def getS : List (PyData × PyData) → Str → Option PyData
  | [], _ => none
  | p :: r, z => if isStr p.1 z = true then some p.2 else getS r z
theorem getS_some {K : PySem.W.Frag} {H : Hp} {z : Str} {d : PyData} : ∀ {ds : List (PyData × PyData)} {kvs : List (Key × V)}, ds.map Prod.fst = kvs.map (fun p => keyD p.1) → DqAll K H (kvs.map Prod.snd) (ds.map Prod.snd) → getS ds z = some d →
    ∃ v, valV kvs (Sum.inr z) = some v ∧ Dq K H v d
  | [], _, _, _, e => by cases e
  | p :: ds, [], e, _, _ => by cases e
  | p :: ds, q :: kvs, e, h, g => by
    rw [List.map_cons, List.map_cons] at e h
    injection e with e1 e2
    cases h with
    | cons h t =>
      unfold getS at g
      rw [e1] at g
      by_cases c : q.1 = Sum.inr z
      · rw [if_pos (isStr_key.mpr c)] at g
        cases g
        exact ⟨_, valV_pos c, h⟩
      · rw [if_neg (fun y => c (isStr_key.mp y))] at g
        rw [valV_neg c]
        exact getS_some e2 t g
theorem getS_none {z : Str} : ∀ {ds : List (PyData × PyData)} {kvs : List (Key × V)}, ds.map Prod.fst = kvs.map (fun p => keyD p.1) → getS ds z = none → valV kvs (Sum.inr z) = none
  | [], [], _, _ => rfl
  | [], q :: kvs, e, _ => by cases e
  | p :: ds, [], e, _ => by cases e
  | p :: ds, q :: kvs, e, g => by
    rw [List.map_cons, List.map_cons] at e
    injection e with e1 e2
    unfold getS at g
    rw [e1] at g
    by_cases c : q.1 = Sum.inr z
    · rw [if_pos (isStr_key.mpr c)] at g
      cases g
    · rw [if_neg (fun y => c (isStr_key.mp y))] at g
      rw [valV_neg c]
      exact getS_none e2 g
section
variable {K : PySem.W.Frag} {hid : Hid}
end
section
variable {X : Cx} {F : Fr} {a b : Expr} {ta tb tx : TE} {fa fb fx : DTE} {pos : Pos}
end
/-! ### d.get(z, x) -/
def orSl (o : Option PyData) (t : Sl) : Sl := match o with
  | some d => .d d
  | none => t

def dGet2 (f g h : DTE) : DTE := fun env Q => f env fun s => ∃ kvs, s.fz = .d (.dict kvs) ∧ g env fun u => ∃ z, u.fz = .d (.str z) ∧ h env fun t => Q (orSl (getS kvs z) t.fz)
section
variable {K : PySem.W.Frag} {F : Fr} {ta tb tx : TE} {fa fb fx : DTE}
theorem sd_get2 (h1 : SdE K F ta fa) (h2 : SdE K F tb fb) (h3 : SdE K F tx fx) : SdE K F (tDGet2 ta tb tx) (dGet2 fa fb fx) := by
  intro Hb H σ env Q k rp q c
  refine h1.go (Q := fun s => ∃ kvs, s = .d (.dict kvs) ∧ fb env fun u => ∃ z, u.fz = .d (.str z) ∧ fx env fun t => Q (orSl (getS kvs z) t.fz)) rp q fun x Hb1 H1 s st1 rs1 _ q1 => ?_
  obtain ⟨kvs, e, q1⟩ := q1
  subst e
  cases (show Dq K Hb1 x (.dict kvs) from rs1) with
  | dic a1 a2 a3 =>
    refine ⟨_, rfl, .inl ⟨_, .inl (st1.st.ex _ _ a1)⟩, ?_⟩
    refine h2.go (Q := fun u => ∃ z, u = .d (.str z) ∧ fx env fun t => Q (orSl (getS kvs z) t.fz)) (rp.on st1) q1 fun y Hb2 H2 u st2 rs2 _ q2 => ?_
    obtain ⟨z, e, q2⟩ := q2
    subst e
    refine h3.go (Q := fun t => Q (orSl (getS kvs z) t)) (rp.on (st1.trans st2)) q2 fun t Hb3 H3 u st3 rs3 ez q3 => ?_
    rw [str_of rs2]
    have a1' := (st2.trans st3).ex _ _ a1
    refine ⟨_, DGet.k (k := Sum.inr z) (st3.st.ex _ _ a1'), ?_⟩
    have all := (st1.trans st2).trans st3
    cases g : getS kvs z with
    | none =>
      rw [g] at q3
      rw [getS_none a2 g]
      exact c t Hb3 H3 u all rs3 (fr_of ez) q3
    | some d =>
      rw [g] at q3
      obtain ⟨v, ev, hv⟩ := getS_some a2 (DqAll.mono (st2.trans st3).ex a3) g
      rw [ev]
      exact c v Hb3 H3 (.d d) all hv trivial q3
end
section
variable {X : Cx} {F : Fr} {o e f : Expr} {ta tb tx : TE} {fa fb fx : DTE} {apos cpos : Pos}
theorem de_get2 (hu : X.A.units + 64 < cLine) (ha : DE X F o ta fa) (hb : DE X F e tb fb) (hx : DE X F f tx fx) (m : M2 X o "get" apos e f cpos := by exact ⟨rfl, rfl, rfl, rfl⟩) : DE X F (.Call (.Attribute o "get" apos) [e, f] [] cpos) (tDGet2 ta tb tx) (dGet2 fa fb fx) :=
  ⟨pe_dget2 (Nat.lt_of_le_of_lt (Nat.add_le_add_left (by decide) _) hu) ha.pe hb.pe hx.pe m, sd_get2 ha.sd hb.sd hx.sd⟩
end
/-! ### written dicts -/
section
variable {K : PySem.W.Frag} {w : World} {F : Fr} {a : Addr} {ws : List Str} {tb : Str → Option PyData} {ty tx : TE} {fy fx : DTE}
end
section
variable {X : Cx} {F : Fr} {K : PySem.W.Frag} {a : Addr} {ws : List Str} {tb : Str → Option PyData} {e f : Expr} {ty tx : TE} {fy fx : DTE} {x : Str} {p apos cpos : Pos}
end
/-! ### {k: v, ..} -/
structure DPs (X : Cx) (F : Fr) (pos : Pos) (ks : List Str) (keys : List (Option Expr)) (vals : List Expr) (trs : List (TE × TE)) (f : DTA) : Prop where
  pe : PPs X pos keys vals trs
  sd : ∀ (Hb H : Hp) (σ : L2.St) (env : EV) (Q : List Sl → Prop) (k : List (V × V) → Hp → Prop), Rep X.K F Hb H σ env → f env Q →
    (∀ vs Hb' H' ss, Step F.hid Hb H Hb' H' → RepAll X.K F.hid Hb' H' vs ss → vs.length = ks.length → Q ss → k ((ks.map V.str).zip vs) H') → tPairs trs σ H k
  all_ : keys.all (·.isSome) = true
  eq : keys.length = vals.length
  len : keys.length = ks.length
theorem dps_nil {X : Cx} {F : Fr} {pos : Pos} : DPs X F pos [] [] [] [] (fun _ Q => Q []) := ⟨pps_nil, fun Hb H σ env Q k r q c => c [] Hb H [] (Step.refl r.st) .nil rfl q, rfl, rfl, rfl⟩
theorem dps_cons {X : Cx} {F : Fr} {pos : Pos} {k : Str} {ks : List Str} {e : Expr} {keys : List (Option Expr)} {vals : List Expr} {trs : List (TE × TE)} {f : DTA} {te : TE} {fe : DTE} {j : Nat} {p : Pos} (h : DE X F e te fe) (r : DPs X F pos ks keys vals trs f) :
    DPs X F pos (k :: ks) (some (.Constant (.str k) j p) :: keys) (e :: vals) ((tC (.str k), te) :: trs) (dCons fe f) := by
  refine ⟨pps_cons pe_str h.pe r.pe, fun Hb H σ env Q c rp q cc => ?_, by rw [List.all_cons, r.all_]; rfl, by rw [List.length_cons, List.length_cons, r.eq], by rw [List.length_cons, List.length_cons, r.len]⟩
  show te σ H fun y H2 => tPairs trs σ H2 fun ps H3 => c ((V.str k, y) :: ps) H3
  refine h.sd.go (Q := fun s => f env fun ss => Q (s :: ss)) rp q fun x Hb1 H1 s st1 rs1 e1 q1 => ?_
  refine r.sd Hb1 H1 σ env (fun ss => Q (s :: ss)) _ (rp.on st1) q1 fun vs Hb2 H2 ss st2 rs2 hl q2 => ?_
  exact cc (x :: vs) Hb2 H2 (s :: ss) (st1.trans st2) (.cons (rs1.step st2) e1 rs2) (congrArg (· + 1) hl) q2
theorem putK_new {k : Key} {v : V} : ∀ {acc : List (Key × V)}, k ∉ acc.map Prod.fst → putK acc k v = acc ++ [(k, v)] := by
  intro acc h
  unfold putK
  rw [if_neg]
  intro z
  obtain ⟨p, hp, e⟩ := List.any_eq_true.mp z
  exact h (List.mem_map.mpr ⟨p, hp, of_decide_eq_true e⟩)
theorem mergeK_new : ∀ {more acc : List (Key × V)}, (acc.map Prod.fst ++ more.map Prod.fst).Nodup → mergeK acc more = acc ++ more
  | [], acc, _ => by rw [List.append_nil]; rfl
  | p :: r, acc, h => by
    have h1 : p.1 ∉ acc.map Prod.fst := fun z => by
      have := (List.nodup_append.mp h).2.2 _ z _ (List.mem_map.mpr ⟨p, List.mem_cons_self, rfl⟩)
      exact this rfl
    show mergeK (putK acc p.1 p.2) r = _
    rw [putK_new h1, mergeK_new]
    · rw [List.append_assoc]; rfl
    · rw [List.map_append, List.append_assoc]; exact h
def dDisp (ks : List Str) (f : DTA) : DTE := fun env Q => f env fun ss => ∃ ds, allD ss = some ds ∧ Q (.d (.dict ((ks.map PyData.str).zip ds)))
theorem nodup_inr : ∀ {ks : List Str}, ks.Nodup → (ks.map (Sum.inr : Str → Key)).Nodup
  | [], _ => List.nodup_nil
  | k :: ks, h => by
    obtain ⟨h1, h2⟩ := List.nodup_cons.mp h
    rw [List.map_cons]
    refine List.nodup_cons.mpr ⟨fun z => ?_, nodup_inr h2⟩
    obtain ⟨y, hy, e⟩ := List.mem_map.mp z
    cases e
    exact h1 hy
theorem zip_fst {α β : Type} : ∀ {xs : List α} {ys : List β}, xs.length = ys.length → (xs.zip ys).map Prod.fst = xs
  | [], [], _ => rfl
  | x :: xs, y :: ys, h => by rw [List.zip_cons_cons, List.map_cons, zip_fst (by simpa using h)]
  | [], _ :: _, h => by cases h
  | _ :: _, [], h => by cases h
theorem zip_snd {α β : Type} : ∀ {xs : List α} {ys : List β}, xs.length = ys.length → (xs.zip ys).map Prod.snd = ys
  | [], [], _ => rfl
  | x :: xs, y :: ys, h => by rw [List.zip_cons_cons, List.map_cons, zip_snd (by simpa using h)]
  | [], _ :: _, h => by cases h
  | _ :: _, [], h => by cases h
theorem zip_map_l {α β γ : Type} (g : α → γ) : ∀ {xs : List α} {ys : List β}, (xs.map g).zip ys = (xs.zip ys).map fun p => (g p.1, p.2)
  | [], _ => by simp
  | x :: xs, [] => by simp
  | x :: xs, y :: ys => by simp [zip_map_l g]
theorem de_disp {X : Cx} {F : Fr} {pos : Pos} {ks : List Str} {keys : List (Option Expr)} {vals : List Expr} {trs : List (TE × TE)} {f : DTA} (h : DPs X F pos ks keys vals trs f) (nd : ks.Nodup := by decide) (h0 : keys ≠ [] := by exact List.cons_ne_nil _ _) (h15 : ks.length ≤ 15 := by decide) :
    DE X F (.Dict keys vals pos) (tDisp trs) (dDisp ks f) := by
  refine ⟨pe_disp h.pe h.all_ h.eq h0 (by rw [h.len]; exact h15), ?_⟩
  intro Hb H σ env Q k rp q c p hp
  have s0 := Step.raw (o := .dK []) rp.st hp
  have bp : Hb p = none := none_back (fun o e => rp.st.ex p o e) hp
  have np : ¬ F.hid.has p := fun z => by obtain ⟨o, e⟩ := rp.st.ok.there z; rw [e] at hp; cases hp
  refine h.sd Hb _ σ env _ _ (rp.on s0) q fun vs Hb1 H1 ss st1 rs1 hl q1 => ?_
  obtain ⟨ds, ed, q1⟩ := q1
  have hd := allD_rep rs1 ed
  have hp1 : H1 p = some (.dK []) := st1.keep p _ upd_same np
  have bp1 : Hb1 p = none := by
    cases z : Hb1 p with
    | none => rfl
    | some o =>
      have := st1.new p o z bp
      rw [upd_same] at this; cases this
  have lv : (ks.map (Sum.inr : Str → Key)).length = vs.length := by rw [List.length_map, hl]
  have ld : (ks.map PyData.str).length = ds.length := by rw [List.length_map, ← hl, DqAll.length hd]
  have em : mergeK [] ((ks.map (Sum.inr : Str → Key)).zip vs) = (ks.map (Sum.inr : Str → Key)).zip vs := by
    rw [mergeK_new, List.nil_append]
    rw [zip_fst lv]
    show (ks.map (Sum.inr : Str → Key)).Nodup
    exact nodup_inr nd
  refine ⟨hp1, (ks.map (Sum.inr : Str → Key)).zip vs, ?_, ?_, ?_⟩
  · rw [zip_map_l V.str, zip_map_l (Sum.inr : Str → Key), List.map_map]
    rfl
  · rw [List.length_zip, List.length_map]; omega
  rw [em]
  have all := s0.trans st1
  refine c (.ref p) (upd Hb1 p (.dK ((ks.map (Sum.inr : Str → Key)).zip vs))) _ (.d (.dict ((ks.map PyData.str).zip ds))) ⟨⟨fun b o e => ?_, all.st.ok.keeps fun b o hb e => ?_, fun b hb => ?_⟩, fun b o e => ?_, fun b o e n => ?_, fun b o e hb => ?_⟩ ?_ trivial q1
  · by_cases z : b = p
    · subst z; rw [upd_same] at e ⊢; exact e
    · rw [upd_ne z] at e ⊢; exact all.st.ex b o e
  · rw [upd_ne (fun z : b = p => np (z ▸ hb))]; exact e
  · rw [upd_ne (fun z : b = p => np (z ▸ hb))]; exact all.st.out b hb
  · rw [upd_ne (ne_of_none e bp)]; exact all.ex b o e
  · by_cases z : b = p
    · rw [z]; exact hp
    · rw [upd_ne z] at e; exact all.new b o e n
  · rw [upd_ne (ne_of_none e hp)]; exact all.keep b o e hb
  · have ex : Same Hb1 (upd Hb1 p (.dK ((ks.map (Sum.inr : Str → Key)).zip vs))) := fun b u e => by rw [upd_ne (ne_of_none e bp1)]; exact e
    refine .dic upd_same ?_ ?_
    · rw [zip_fst ld]
      rw [show (fun (p : Key × V) => keyD p.1) = keyD ∘ Prod.fst from rfl, ← List.map_map, zip_fst lv, List.map_map]
      rfl
    · rw [zip_snd ld, zip_snd lv]
      exact DqAll.mono ex hd
end Pu

end

section
set_option maxHeartbeats 1000000
/-! PuL: an item of an own list set -/
namespace Pu
open PySem L2 PyProof.Rows
theorem DqAll.set {K : PySem.W.Frag} {H : Hp} : ∀ {ds : List PyData} {vs : List V} {d : PyData} {v : V} (j : Nat), DqAll K H vs ds → Dq K H v d → DqAll K H (vs.set j v) (ds.set j d)
  | [], [], _, _, _, h, _ => h
  | _ :: _, _ :: _, _, _, 0, .cons h1 h2, h => .cons h h2
  | _ :: _, _ :: _, _, _, j + 1, .cons h1 h2, h => .cons h1 (DqAll.set j h2 h)
section
variable {K : PySem.W.Frag} {F : Fr}
end
end Pu

end

section
set_option maxHeartbeats 1000000
/-! PuE: own dicts with keys that are whole numbers or texts: d[k] = v, d[k] -/
namespace Pu
open PySem L2 PyProof.Rows
def isKey : PyData → Key → Bool
  | .int i, .inl j => decide (i = j)
  | .str x, .inr y => decide (x = y)
  | _, _ => false
theorem isKey_keyD (q k : Key) : isKey (keyD q) k = decide (q = k) := by cases q <;> cases k <;> simp [isKey, keyD]
def putP (ds : List (PyData × PyData)) (k : Key) (d : PyData) : List (PyData × PyData) := if ds.any (fun p => isKey p.1 k) = true then ds.map (fun p => if isKey p.1 k = true then (p.1, d) else p) else ds ++ [(keyD k, d)]
def getP (ds : List (PyData × PyData)) (k : Key) : Option PyData := (ds.find? fun p => isKey p.1 k).map (·.2)
section
variable {K : PySem.W.Frag} {H : Hp}
theorem DRel.two {kv : Key × V} {kvs : List (Key × V)} {ds : List (PyData × PyData)} (h : DRel K H (kv :: kvs) ds) : ∃ d r, ds = (keyD kv.1, d) :: r ∧ Dq K H kv.2 d ∧ DRel K H kvs r := by
  obtain ⟨h1, h2⟩ := h
  match ds, h1, h2 with
  | (k, d) :: r, h1, .cons a b =>
    rw [List.map_cons, List.map_cons] at h1
    injection h1 with e1 e2
    have e1 : k = keyD kv.1 := e1
    subst e1
    exact ⟨d, r, rfl, a, e2, b⟩
theorem DRel.none {ds : List (PyData × PyData)} (h : DRel K H [] ds) : ds = [] := by
  have := h.1
  rw [List.map_nil] at this
  exact List.map_eq_nil_iff.mp this
theorem DRel.cons' {k : Key} {v : V} {d : PyData} {kvs : List (Key × V)} {ds : List (PyData × PyData)} (a : Dq K H v d) (h : DRel K H kvs ds) : DRel K H ((k, v) :: kvs) ((keyD k, d) :: ds) := ⟨by rw [List.map_cons, List.map_cons, h.1], .cons a h.2⟩
theorem DRel.any {k : Key} : ∀ {kvs : List (Key × V)} {ds : List (PyData × PyData)}, DRel K H kvs ds → ds.any (fun p => isKey p.1 k) = kvs.any fun kv => decide (kv.1 = k)
  | [], ds, h => by rw [h.none]; rfl
  | kv :: kvs, ds, h => by
    obtain ⟨d, r, rfl, _, t⟩ := h.two
    rw [List.any_cons, List.any_cons, isKey_keyD, DRel.any t]
theorem DRel.map_ {k : Key} {v : V} {d : PyData} (a : Dq K H v d) : ∀ {kvs : List (Key × V)} {ds : List (PyData × PyData)}, DRel K H kvs ds → DRel K H (kvs.map fun kv => if kv.1 = k then (kv.1, v) else kv) (ds.map fun p => if isKey p.1 k = true then (p.1, d) else p)
  | [], ds, h => by rw [h.none]; exact ⟨rfl, .nil⟩
  | kv :: kvs, ds, h => by
    obtain ⟨z, r, rfl, b, t⟩ := h.two
    rw [List.map_cons, List.map_cons, isKey_keyD]
    by_cases c : kv.1 = k
    · rw [if_pos c, if_pos (decide_eq_true c)]
      exact DRel.cons' a (DRel.map_ a t)
    · rw [if_neg c, if_neg (by rw [decide_eq_false c]; exact Bool.false_ne_true)]
      exact DRel.cons' (k := kv.1) (v := kv.2) b (DRel.map_ a t)
theorem DRel.snoc {k : Key} {v : V} {d : PyData} (a : Dq K H v d) : ∀ {kvs : List (Key × V)} {ds : List (PyData × PyData)}, DRel K H kvs ds → DRel K H (kvs ++ [(k, v)]) (ds ++ [(keyD k, d)])
  | [], ds, h => by rw [h.none]; exact DRel.cons' a ⟨rfl, .nil⟩
  | kv :: kvs, ds, h => by
    obtain ⟨z, r, rfl, b, t⟩ := h.two
    exact DRel.cons' (k := kv.1) (v := kv.2) b (DRel.snoc a t)
theorem DRel.put {k : Key} {v : V} {d : PyData} (a : Dq K H v d) {kvs : List (Key × V)} {ds : List (PyData × PyData)} (h : DRel K H kvs ds) : DRel K H (putK kvs k v) (putP ds k d) := by
  unfold putK putP
  rw [h.any]
  split
  · exact h.map_ a
  · exact h.snoc a
theorem DRel.get {k : Key} {d : PyData} : ∀ {kvs : List (Key × V)} {ds : List (PyData × PyData)}, DRel K H kvs ds → getP ds k = some d → ∃ v, valV kvs k = some v ∧ Dq K H v d
  | [], ds, h, e => by rw [h.none] at e; cases e
  | kv :: kvs, ds, h, e => by
    obtain ⟨z, r, rfl, b, t⟩ := h.two
    unfold getP at e
    unfold valV
    rw [List.find?_cons, isKey_keyD] at e
    rw [List.find?_cons]
    by_cases c : kv.1 = k
    · rw [decide_eq_true c] at e ⊢
      cases e
      exact ⟨kv.2, rfl, b⟩
    · rw [decide_eq_false c] at e ⊢
      exact DRel.get t e
theorem DRel.length {kvs : List (Key × V)} {ds : List (PyData × PyData)} (h : DRel K H kvs ds) : kvs.length = ds.length := by
  have := congrArg List.length h.1
  rw [List.length_map, List.length_map] at this
  exact this.symm
theorem DRel.mono {H' : Hp} (e : Same H H') {kvs : List (Key × V)} {ds : List (PyData × PyData)} (h : DRel K H kvs ds) : DRel K H' kvs ds := ⟨h.1, DqAll.mono e h.2⟩
end
section
variable {K : PySem.W.Frag} {F : Fr}
end
section
variable {K : PySem.W.Frag} {F : Fr}
end
section
variable {X : Cx} {F : Fr} {e b : Expr} {te ti : TE} {fe fi : DTE} {x : Str} {px ppos pos : Pos}
end
end Pu

end

section
set_option maxHeartbeats 1000000
/-! PuE2: {} of one's own; d[k] of data, k in d, by keys that are whole numbers or texts -/
namespace Pu
open PySem L2 PyProof.Rows
/-- {} -/
def dNewD : DTE := fun _ Q => Q (.ownD [])
section
variable {K : PySem.W.Frag} {F : Fr}
theorem sd_newD : SdE K F tDNewK dNewD := by
  intro Hb H σ env Q k r q c p hp
  have bp : Hb p = none := none_back (fun o e => r.st.ex p o e) hp
  have np : ¬ F.hid.has p := fun z => by obtain ⟨o, e⟩ := r.st.ok.there z; rw [e] at hp; cases hp
  exact c (.ref p) Hb _ (.ownD []) (Step.raw (o := .dK []) r.st hp) ⟨p, [], rfl, upd_same, ⟨rfl, .nil⟩, bp, np⟩ (fun q e => by cases e; exact hp) q
end
section
variable {X : Cx} {F : Fr} {a b : Expr} {ta ti : TE} {fa fi : DTE} {x : Str} {px ppos pos : Pos}
theorem de_newD : DE X F (.Dict [] [] pos) tDNewK dNewD := ⟨pe_dnewK, sd_newD⟩
end
end Pu

end

section
set_option maxHeartbeats 1000000
/-! PuWh: while; the last item taken from an own list -/
namespace Pu
open PySem L2 PyProof.Rows
/-- so many turns at most -/
def dWhileN (c : DTT) (body : DTS) (E : DEnds) : Nat → EV → Prop
  | 0, _ => False
  | m + 1, env => c env fun b => if b = true then body { nx := dWhileN c body E m, ct := dWhileN c body E m, bk := E.nx, rt := E.rt } env else E.nx env
def dWhile (c : DTT) (body : DTS) : DTS := fun E env => ∃ m, dWhileN c body E m env
/-- own.pop(), to a target -/
def dPopG (i : Nat) (g : DTG) : DTS := fun E env => ∃ xs d, env[i]? = some (some (.own xs)) ∧ xs[xs.length - 1]? = some d ∧ g (.d d) (env.set i (some (.own xs.dropLast))) E.nx
section
variable {K : PySem.W.Frag} {F : Fr} {js : List Nat}
theorem sd_while {tc : TT} {tb : TS} {fc : DTT} {fb : DTS} (hc : SdT K F tc fc) (hb : SdS K F tb fb) : SdS K F (tWhile tc tb) (dWhile fc fb) := by
  intro Hb H σ env D E r q l
  obtain ⟨m, q⟩ := q
  refine ⟨fun m σ' H' => ∃ Hb' env', Same Hb Hb' ∧ Rep K F Hb' H' σ' env' ∧ dWhileN fc fb E m env', ⟨m, Hb, env, Same.refl _, r, q⟩, ?_⟩
  rintro m σ' H' ⟨Hb', env', s, r', q'⟩
  cases m with
  | zero => exact q'.elim
  | succ m =>
    refine hc Hb' H' σ' env' _ _ r' q' fun b Hb2 H2 st2 q2 => ?_
    cases b with
    | true =>
      rw [if_pos rfl] at q2 ⊢
      have ex2 : Same Hb Hb2 := s.trans st2.ex
      exact ⟨fun σ'' H'' => ∃ Hb' env', Same Hb Hb' ∧ Rep K F Hb' H'' σ'' env' ∧ dWhileN fc fb E m env', fun σ'' H'' h => ⟨m, Nat.lt_succ_self m, h⟩,
        hb Hb2 H2 σ' env' _ _ (r'.on st2) q2 ⟨fun Hb4 H4 σ4 env4 s4 r4 q4 => ⟨Hb4, env4, ex2.trans s4, r4, q4⟩, fun Hb4 H4 σ4 env4 s4 r4 q4 => l.nx Hb4 H4 σ4 env4 (ex2.trans s4) r4 q4, fun Hb4 H4 σ4 env4 s4 r4 q4 => ⟨Hb4, env4, ex2.trans s4, r4, q4⟩, fun v Hb4 H4 s' s4 => l.rt v Hb4 H4 s' (ex2.trans s4)⟩⟩
    | false =>
      rw [if_neg Bool.false_ne_true] at q2 ⊢
      exact l.nx Hb2 H2 σ' env' (s.trans st2.ex) (r'.on st2) q2
theorem sd_popG (i : Nat) {g : TG} {fg : DTG} (hg : SdG K F js g fg) : SdS K F (tAsg (tBM0 K "list" rPop (tVar i)) g) (dPopG i fg) := by
  intro Hb H σ env D E r q l
  obtain ⟨xs, d, e, ed, q⟩ := q
  obtain ⟨v, e1, rs, fr⟩ := r.sl i _ e
  obtain ⟨p, vs, e2, e3, e4, e5, e6⟩ := rs
  subst e2
  obtain ⟨y, hy, dy⟩ := DqAll.get' e4 ed
  have hl := DqAll.length e4
  refine ⟨_, e1, .inl ⟨rfl, _, SqL.of e3⟩, p, vs, y, rfl, rfl, e3, by rw [hl]; exact hy, ?_⟩
  have r1 := r.put1 e trivial e1 e3 e5 e6 (s' := .own xs.dropLast) trivial ⟨p, vs.dropLast, rfl, upd_same, by rw [List.dropLast_eq_take, List.dropLast_eq_take, hl]; exact DqAll.take _ e4, e5, e6⟩
  exact hg Hb _ σ _ y (.d d) _ _ r1 dy rfl q fun σ' env' _ r' q' => l.nx Hb _ σ' env' (Same.refl _) r' q'
end
section
variable {X : Cx} {F : Fr} {js : List Nat} {c tg : Expr} {body : List Stmt} {tc : TT} {tb : TS} {fc : DTT} {fb : DTS} {g : TG} {fg : DTG} {x : Str} {px apos cpos pos : Pos}
theorem ds_while (hc : DT X F c tc fc) (hb : DSs X F body tb fb) (hp : PassesOwn (model X.prog X.w) X.A X.env X.xe := by exact PassesOwn.never) : DS X F (.While c body [] pos) (tWhile tc tb) (dWhile fc fb) := ⟨ps_while hp hc.pe hb.pe, sd_while hc.sd hb.sd⟩
theorem ds_popG (i : Nat) (hg : DG X F js tg g fg) (h : PE X (.Call (.Attribute (.Name x px) "pop" apos) [] [] cpos) (tBM0 X.K "list" rPop (tVar i)))
    (hs : swapsWithSole [tg] (.Call (.Attribute (.Name x px) "pop" apos) [] [] cpos) pos.line X.env = pure false := by rfl) (hw : swappedStores [tg] (.Call (.Attribute (.Name x px) "pop" apos) [] [] cpos) X.env = pure none := by rfl) (h1 : (assignEach [tg] X.env).map (·.2) = [assign tg X.env] := by rfl) :
    DS X F (.Assign [tg] (.Call (.Attribute (.Name x px) "pop" apos) [] [] cpos) pos) (tAsg (tBM0 X.K "list" rPop (tVar i)) g) (dPopG i fg) := ⟨ps_asg h hg.pe hs hw h1, sd_popG i hg.sd⟩
theorem pe_popL (i : Nat) {x : Str} {px apos cpos : Pos} (hN : X.N[i]? = some x := by rfl) (hv : Vis X.env.scope x := by first | exact Or.inl rfl | exact Or.inr (Or.inl rfl) | exact Or.inr (Or.inr rfl)) (hd : (x == ("__debug__" : Str)) = false := by decide)
    (hcd : (x == ("__classdict__" : Str)) = false := by decide) (ha : attributeBase (.Name x px) "pop" X.env (eval (.Name x px) X.env) = eval (.Name x px) X.env := by rfl) (hl : (apos.endLine == cpos.line) = true := by rfl) :
    PE X (.Call (.Attribute (.Name x px) "pop" apos) [] [] cpos) (tBM0 X.K "list" rPop (tVar i)) := pe_bm0 PySem.F.plainAttrs_list PySem.F.slot_list_pop PySem.F.type_list_pop mt_pop (pe_var hN hv hd hcd) ha hl
end
end Pu

end

section
set_option maxHeartbeats 1000000
/-! PuK: dict comprehensions; list(d), sorted(d), d.update(e); l.extend(e); x = e[l.pop()]; lists as tests. -/
namespace L2
open PySem PySem.Spec PyProof.Rows
section
variable {X : Cx}
/-! d.update(e) -/
end
end L2
namespace Pu
open PySem L2 PyProof.Rows
/-! ### dict comprehensions -/
section
variable {K : PySem.W.Frag} {F : Fr}
/-! ### lists and dicts as tests -/
def dTruth (f : DTE) : DTT := fun env Q => f env fun s => match s.fz with
  | .d (.list xs) => Q (!xs.isEmpty)
  | .d (.tuple xs) => Q (!xs.isEmpty)
  | .d (.dict ds) => Q (!ds.isEmpty)
  | .d (.int i) => Q (i != 0)
  | .d .none => Q false
  | _ => False
theorem sd_truth {ta : TE} {fa : DTE} (h : SdE K F ta fa) : SdT K F (fun σ H Q => ta σ H fun x H' => ∃ k, TruV K x H' k ∧ Q k H') (dTruth fa) := by
  intro Hb H σ env Q k r q c
  refine h.go (Q := fun s => match s with
    | .d (.list xs) => Q (!xs.isEmpty)
    | .d (.tuple xs) => Q (!xs.isEmpty)
    | .d (.dict ds) => Q (!ds.isEmpty)
    | .d (.int i) => Q (i != 0)
    | .d .none => Q false
    | _ => False) r q fun x Hb1 H1 s st1 rs1 e1 q1 => ?_
  split at q1
  · rename_i xs
    cases (show Dq K Hb1 x (.list xs) from rs1) with
    | lst h1 h2 =>
      rename_i a vs
      refine ⟨!xs.isEmpty, .inl ⟨vs, SqL.of (st1.st.ex _ _ h1), ?_⟩, c _ Hb1 H1 st1 q1⟩
      cases h2 <;> rfl
  · rename_i xs
    cases (show Dq K Hb1 x (.tuple xs) from rs1) with
    | tup h1 h2 =>
      rename_i a vs
      refine ⟨!xs.isEmpty, .inr (.inl ⟨vs, Same.seqT st1.st.ex h1, ?_⟩), c _ Hb1 H1 st1 q1⟩
      cases h2 <;> rfl
  · rename_i ds
    cases (show Dq K Hb1 x (.dict ds) from rs1) with
    | dic h1 h2 h3 =>
      rename_i a kvs
      refine ⟨!ds.isEmpty, .inr (.inr ⟨kvs, st1.st.ex _ _ h1, ?_⟩), c _ Hb1 H1 st1 q1⟩
      have := DRel.length (⟨h2, h3⟩ : DRel K Hb1 kvs ds)
      cases kvs <;> cases ds <;> simp_all
  · rename_i i
    have e := int_of rs1
    subst e
    exact ⟨_, rfl, c _ Hb1 H1 st1 q1⟩
  · cases (show Dq K Hb1 x .none from rs1)
    exact ⟨_, rfl, c _ Hb1 H1 st1 q1⟩
  · exact q1.elim
/-! ### list(d), sorted(d) -/
/-! ### own.update(e), own.extend(e) -/
theorem RepSl.heap {hid : Hid} {Hb H H' : Hp} {v : V} : ∀ {s : Sl}, s.fz = s → RepSl K hid Hb H v s → RepSl K hid Hb H' v s
  | .d _, _, h => h
  | .v _, _, h => h
  | .src, _, h => h
  | .own _, e, _ => by cases e
  | .ownD _, e, _ => by cases e
  | .ownX _, e, _ => by cases e
  | .imm _, _, h => h
def dExt (i : Nat) (fe : DTE) : DTS := fun E env => ∃ xs, env[i]? = some (some (.own xs)) ∧ fe env fun s => ∃ ys, s.fz = .d (.list ys) ∧ xs.length + ys.length ≤ sizeLine ∧ E.nx (env.set i (some (.own (xs ++ ys))))
theorem sd_ext (i : Nat) {te : TE} {fe : DTE} (he : SdE K F te fe) : SdS K F (tDrop (tBM K "list" rExtend (tVar i) (tCons te tNil))) (dExt i fe) := by
  intro Hb H σ env D E r q l
  obtain ⟨xs, e, q⟩ := q
  obtain ⟨v, e1, rs, fr⟩ := r.sl i _ e
  obtain ⟨p, vs, e2, e3, e4, e5, e6⟩ := rs
  subst e2
  refine ⟨_, e1, .inl ⟨rfl, _, SqL.of e3⟩, ?_⟩
  refine he.go (Q := fun s => ∃ ys, s = .d (.list ys) ∧ xs.length + ys.length ≤ sizeLine ∧ E.nx (env.set i (some (.own (xs ++ ys))))) r q fun y Hb1 H1 s st1 rs1 _ q1 => ?_
  obtain ⟨ys, ex, hl, q1⟩ := q1
  subst ex
  obtain ⟨hp, hbp⟩ := st1.keepOwn e3 e5 e6
  have e4' := DqAll.mono st1.ex e4
  cases (show Dq K Hb1 y (.list ys) from rs1) with
  | lst h1 h2 =>
    rename_i b zs
    refine ⟨p, b, vs, zs, rfl, rfl, hp, st1.st.ex _ _ h1, by rw [DqAll.length e4, DqAll.length h2]; exact hl, ?_⟩
    exact l.nx Hb1 _ σ _ st1.ex ((r.on st1).put1 e trivial e1 hp hbp e6 (s' := .own (xs ++ ys)) trivial ⟨p, vs ++ zs, rfl, upd_same, DqAll.append e4' h2, hbp, e6⟩) q1
/-! ### x = e[own.pop()] -/
end
section
variable {X : Cx} {F : Fr} {js : List Nat} {tg iter kx vx e a : Expr} {te ta tk tv : TE} {fe fa fk fv : DTE} {wi : TI} {fi : DTI} {g : TG} {fg : DTG} {tt : TT} {ft : DTT} {x : Str} {px apos cpos pos : Pos}
theorem ds_ext (i : Nat) (he : DE X F e te fe) (hN : X.N[i]? = some x := by rfl) (hv : Vis X.env.scope x := by first | exact Or.inl rfl | exact Or.inr (Or.inl rfl) | exact Or.inr (Or.inr rfl)) (hd : (x == ("__debug__" : Str)) = false := by decide)
    (hcd : (x == ("__classdict__" : Str)) = false := by decide) (h : PE X (.Call (.Attribute (.Name x px) "extend" apos) [e] [] cpos) (tBM X.K "list" rExtend (tVar i) (tCons te tNil))) (hs : swapsWith (.Call (.Attribute (.Name x px) "extend" apos) [e] [] cpos) none pos.line X.env = pure false := by rfl) :
    DS X F (.Expr (.Call (.Attribute (.Name x px) "extend" apos) [e] [] cpos) pos) (tDrop (tBM X.K "list" rExtend (tVar i) (tCons te tNil))) (dExt i fe) := ⟨ps_expr h hs, sd_ext i (he.sd)⟩
theorem dt_truth (h : DE X F e te fe) (he : ∀ whole, isTrue e X.env whole = (do let v ← whole; standAt e.pos; holding [v] (truthy v)) := by intro _; rfl) : DT X F e (fun σ H Q => te σ H fun x H' => ∃ k, TruV X.K x H' k ∧ Q k H') (dTruth fe) := ⟨pt_truth h.pe he, sd_truth h.sd⟩
end
end Pu

end

section
set_option maxHeartbeats 1000000
/-! PuQ: max(xs, default=d); written tuples of texts; list(range(..)). -/
namespace Pu
open PySem PySem.W L2 PySem.Spec PyProof.Rows
/-! ### max(xs, default=d), whole numbers -/
section
variable {X : Cx} {F : Fr} {e z : Expr} {te tz : TE} {fe fz : DTE} {p pos kpos : Pos} {x : Str}
end
/-! ### a written tuple of texts -/
def KTup (K : PySem.W.Frag) (a : Addr) (ws : List Str) : Prop := ∃ (o : Obj) (its : Array Value) (n : Nat), K.lookup a = some o ∧ o.cls = .type "tuple" ∧ o.data = .seq its n ∧ its.size ≤ sizeLine ∧ Vals (ws.map V.str) its.toList
theorem vals_zip : ∀ (ws : List Str) (ts : List Tok), ts.length = ws.length → Vals (ws.map V.str) (List.zipWith Value.str ws ts)
  | [], [], _ => .nil
  | [], _ :: _, h => by cases h
  | _ :: _, [], h => by cases h
  | w :: ws, t :: ts, h => .cons ⟨t, rfl⟩ (vals_zip ws ts (by simpa using h))
theorem ktup_of {K : PySem.W.Frag} {a : Addr} {od : Option Addr} {its : Array Value} {n : Nat} {sl : Array (Option Value)} {ws : List Str} (l : K.lookup a = some ⟨.type "tuple", od, .seq its n, sl⟩) (hw : ws.length ≤ 1000)
    (h : ∃ ts : List Tok, ts.length = ws.length ∧ its.toList = List.zipWith Value.str ws ts) : KTup K a ws := by
  obtain ⟨ts, h1, h2⟩ := h
  refine ⟨_, its, n, l, rfl, rfl, ?_, by rw [h2]; exact vals_zip ws ts h1⟩
  have : its.size = its.toList.length := by simp
  rw [this, h2, List.length_zipWith, h1, Nat.min_self, sizeLine_eq]
  omega
theorem de_globT {X : Cx} {F : Fr} {x : Str} {a : Addr} {ws : List Str} {pos : Pos} {K : PySem.W.Frag} (e : X.K = K) (hm : X.mg x = some (.ref a)) (ht : KTup K a ws) (hg : Gl X x := by rfl) (hd : (x == ("__debug__" : Str)) = false := by decide) : DE X F (.Name x pos) (tC (.ref a)) (dC (.tuple (ws.map PyData.str))) := by
  subst e
  exact ⟨pe_glob hg hm rfl hd, sd_c fun Hb => .tup (.inr ht) (strs_all ws)⟩
/-! ### list(range(..)) -/
section
variable {K : PySem.W.Frag} {F : Fr} {ta tb : TE} {fa fb : DTE}
end
section
variable {X : Cx} {F : Fr} {a b : Expr} {ta tb : TE} {fa fb : DTE} {p p2 pos pos2 : Pos}
end
end Pu

end

section
set_option maxHeartbeats 1000000
/-! PuA: list(d.values()); any, all, sum; xs.index(x); written dicts: in, d[k]; dicts made of computed keys. -/
namespace L2
open PySem PySem.Spec PyProof.Rows
section
variable {X : Cx} {e : Expr} {te : TE} {p apos cpos pos : Pos}
end
end L2
namespace Pu
open PySem L2 PyProof.Rows
/-! ### list(d.values()) -/
section
variable {K : PySem.W.Frag} {F : Fr} {hid : Hid}
/-! ### any, all, sum -/
theorem bools_rep {Hb : Hp} : ∀ {bs : List Bool} {vs : List V}, DqAll K Hb vs (bs.map PyData.bool) → vs = bs.map V.bl
  | [], _, .nil => rfl
  | b :: bs, _, .cons h t => by
    cases h
    rw [bools_rep t]; rfl
def fAnyB : FN := fun ss Q => match ss with
  | [.d (.list ds)] => ∃ bs : List Bool, ds = bs.map PyData.bool ∧ Q (.d (.bool (bs.any id)))
  | _ => False
def fAllB : FN := fun ss Q => match ss with
  | [.d (.list ds)] => ∃ bs : List Bool, ds = bs.map PyData.bool ∧ Q (.d (.bool (bs.all id)))
  | _ => False
theorem lc_allB : LC K hid (rAll K) fAllB := by
  intro Hb H xs ss Q k st r q c
  unfold fAllB at q
  split at q
  · rename_i ds
    obtain ⟨bs, e, q⟩ := q
    subst e
    obtain ⟨v, rfl, h⟩ := rep1 r
    cases (show Dq K Hb v (.list _) from h) with
    | lst h1 h2 =>
      have ev := bools_rep h2
      subst ev
      exact ⟨_, bs, rfl, SqL.of (st.ex _ _ h1), c _ Hb H (.d (.bool _)) (Step.refl st) (.bl _) trivial q⟩
  · exact q.elim
/-! ### written dicts: k in d, d[k] -/
end
section
variable {X : Cx} {F : Fr} {K : PySem.W.Frag} {w : World} {a : Addr} {ws : List Str} {tb : Str → Option PyData} {e b : Expr} {te tb' : TE} {fe fb : DTE} {x : Str} {p apos cpos pos px : Pos}
theorem de_globK (hm : X.mg x = some (.ref a)) (hg : Gl X x := by rfl) (hd : (x == ("__debug__" : Str)) = false := by decide) : DE X F (.Name x p) (tC (.ref a)) (dV (.ref a)) := ⟨pe_glob hg hm rfl hd, sd_v⟩
theorem k_ixKT (ek : X.K = K) (ew : X.w = w) : IxR X (rIxD K w) := by
  subst ek ew
  exact ix_kdict
end
/-! ### {k: v, ..}, the keys computed -/
end Pu

end

section
set_option maxHeartbeats 1000000
/-! PuB: x in l, l.index(x), the items data of any depth. -/
namespace Pu
open PySem L2 PyProof.Rows
section
variable {K : PySem.W.Frag} {hid : Hid} {F : Fr}
end
section
variable {X : Cx} {F : Fr} {K : PySem.W.Frag} {e b : Expr} {te tb : TE} {fe fb : DTE} {apos cpos : Pos}
theorem k_all (ek : X.K = K) (hc : X.calm = true) : CallR X (.builtin "all") (rAll K) := by subst ek; exact cr_all hc
theorem k_truth (ek : X.K = K) (h : DE X F e te fe) (he : ∀ whole, isTrue e X.env whole = (do let v ← whole; standAt e.pos; holding [v] (truthy v)) := by intro _; rfl) : DT X F e (fun σ H Q => te σ H fun x H' => ∃ k, TruV K x H' k ∧ Q k H') (dTruth fe) := by
  subst ek
  exact dt_truth h he
end
end Pu
namespace Pu
open PySem L2 PyProof.Rows RZ
/-! ### repr of a whole number -/
section
variable {K : PySem.W.Frag} {hid : Hid} {X : Cx}
end
end Pu

end

section
set_option maxHeartbeats 1000000
/-! PuEz: for i, (x, y) in enumerate(zip(a, b)), a and b tuples: the zip's own pair stays out. -/
namespace RZ
open PySem
open PySem.Sem (wp)
abbrev ZF (h : Heap) (z TI TO : Addr) (f0 : Value) (f1 : Bool) : Prop :=
  h.get? z = some { cls := .type "zip", dict := none, data := .fields #[f0, .bool f1, .bool false, .ref TI, .ref TO], slots := #[] }
def Own0 (f0 : Value) : Prop := f0 = .none ∨ ∃ T : Addr, f0 = rawInt T
structure ZSt (h : Heap) (z TI TO i1 i2 l1 l2 : Addr) (k : Nat) : Prop where
  zf : ∃ f0 f1, ZF h z TI TO f0 f1 ∧ Own0 f0
  ti : IsPair h TI (.ref i1) (.ref i2)
  to : ∃ a b, IsPair h TO a b
  a1 : h.IsTupleIter i1 l1 k
  a2 : h.IsTupleIter i2 l2 k
theorem ZSt.keep {h h' : Heap} {z TI TO i1 i2 l1 l2 : Addr} {k : Nat} (x : ZSt h z TI TO i1 i2 l1 l2 k) (c : ∀ b ∈ [z, TI, TO, i1, i2], ∀ o, h.get? b = some o → h'.get? b = some o) : ZSt h' z TI TO i1 i2 l1 l2 k := by
  obtain ⟨⟨f0, f1, h1, h2⟩, h3, ⟨a, b, h4⟩, h5, h6⟩ := x
  exact ⟨⟨f0, f1, c z (by simp) _ h1, h2⟩, c TI (by simp) _ h3, ⟨a, b, c TO (by simp) _ h4⟩, h5.at fun o q => c i1 (by simp) o q, h6.at fun o q => c i2 (by simp) o q⟩
section
variable {prog : Program} {w : World} {A : Around} {E : Value → Shared → Prop} {s : Shared}
end
section
variable {prog : Program} {w : World} {A : Around} {E : Value → Shared → Prop} {s : Shared}
end
end RZ
namespace RZ
open PySem PySem.Spec PyProof.Rows L2
end RZ
namespace Pu
open PySem L2 PyProof.Rows RZ
section
variable {K : PySem.W.Frag} {F : Fr} {hid : Hid} {tr : TA} {fr : DTA}
end
section
variable {X : Cx} {F : Fr} {K : PySem.W.Frag} {e e2 : Expr} {tr : TA} {fr : DTA} {p p0 pos pos2 tpos : Pos} {elts : List Expr} {kk : Nat}
end
end Pu

end

section
set_option maxHeartbeats 2000000
/-! PuEx: exceptions of the program's own classes, with one field that holds a tuple: raised, and caught. -/
namespace Pu
open PySem L2 PySem.Spec PyProof.Rows RZ
/-- what stands for raising: a def's promise is asked of it as of an answer; no value stands for it -/
def excS (ds : List PyData) : Sl := .d (.dict [(.none, .tuple ds)])
theorem exc_no {K : PySem.W.Frag} {hid : Hid} {Hb H : Hp} {v : V} {ds : List PyData} (h : RepSl K hid Hb H v (excS ds)) : False := by
  cases (show Dq K Hb v (.dict [(.none, .tuple ds)]) from h) with
  | @dic a kvs _ h1 h2 h3 =>
    match kvs, h2 with
    | p :: _, h2 =>
      have e : PyData.none = keyD p.1 := (List.cons.inj h2).1
      cases q : p.1 with
      | inl i => rw [q] at e; cases e
      | inr x => rw [q] at e; cases e
/-- what the written part says of the class x at C, its __init__ at fI, its field f -/
structure ExC (K : PySem.W.Frag) (mg : Str → Option Value) (x : Str) (C fI : Addr) (f : Str) : Prop where
  oex : OexC K C
  xf : XfC K C
  no : PySem.W.findIn K (.ref C) f = some none
  iC : PySem.W.findIn K (.ref C) "__init__" = some (some (.ref fI))
  tI : PySem.W.typeIn K (.ref fI) = some (.type "function")
  te : PySem.W.exmOne K (.ref C) (.ref C) = some true
  gm : mg x = some (.ref C)
/-- __init__(self, path): self.f = tuple(path), path a tuple -/
def spInit (K : PySem.W.Frag) (C : Addr) (f : Str) : Sp := fun vs H Q _ => ∃ (a p : Addr) (ys : List V), vs = [.ref a, .ref p] ∧ H a = some (exo a C none) ∧ SqT K H p ys ∧
  ∀ dx, H dx = none → dx ≠ a → Q .non (upd (upd H dx (exd dx [(f, .ref p)])) a (exo a C (some dx)))
/-- a def that may raise it -/
def spXE (K : PySem.W.Frag) (n : Nat) (m : FN) (C : Addr) (f : Str) : Sp := fun vs H Q E => ∃ hid Hb ss R, St0 hid Hb H ∧ RepAll K hid Hb H vs ss ∧ ss.length = n ∧ m ss R ∧
  (∀ v Hb' H' s, Step hid Hb H Hb' H' → RepSl K hid Hb' H' v s → FrSl H v s → R s → Q v H') ∧
  (∀ (v : V) Hb' H' (d : Addr) ds, Step hid Hb H Hb' H' → H' d = some (.xd [(f, v)]) → Dq K Hb' v (.tuple ds) → R (excS ds) → E (.ref C) (some d) H')
/-! ### raise x(e) -/
def dRaise (R : DK) (fe : DTE) : DTS := fun _ env => fe env fun s => ∃ ds, s.fz = .d (.tuple ds) ∧ R (excS ds)
def tRaise (C : Addr) (K : PySem.W.Frag) (f : Str) (E : XK) (te : TE) : TS := fun _ σ H => tMkO C (spInit K C f) [] (tCons te tNil) σ H fun cls d H' => E cls d H'
section
variable {K : PySem.W.Frag} {F : Fr} {te : TE} {fe : DTE} {C : Addr} {f : Str} {E : XK} {R : DK}
theorem sd_raise (he : SdE K F te fe) (hE : ∀ (v : V) Hb' H' (d : Addr) ds, Step F.hid F.B0 F.H0 Hb' H' → H' d = some (.xd [(f, v)]) → Dq K Hb' v (.tuple ds) → R (excS ds) → E (.ref C) (some d) H') : SdS K F (tRaise C K f E te) (dRaise R fe) := by
  intro Hb H σ env D E' r q l
  refine he.go (Q := fun s => ∃ ds, s = .d (.tuple ds) ∧ R (excS ds)) r q fun v Hb1 H1 s st1 rs1 _ q1 => ?_
  obtain ⟨ds, es, q1⟩ := q1
  subst es
  cases (show Dq K Hb1 v (.tuple ds) from rs1) with
  | @tup p vs _ h1 h2 =>
    have hq := Same.seqT st1.st.ex h1
    refine ⟨by show 1 ≤ 1000; omega, fun a ha => ⟨a, p, vs, rfl, upd_same, ?_, fun dx hdx hne => ⟨rfl, dx, [(f, .ref p)], upd_same, ?_, ?_, ?_⟩⟩⟩
    · exact Same.seqT (fun b u e => by rw [upd_ne (ne_of_none e ha)]; exact e) hq
    · rw [upd_ne hne, upd_same]
    · rw [upd_ne hne] at hdx; exact hdx
    · rw [upd_ne hne] at hdx
      have e : upd (del (upd (upd (upd H1 a (exo a C none)) dx (exd dx [(f, .ref p)])) a (exo a C (some dx))) a) dx (.xd [(f, V.ref p)]) = upd H1 dx (.xd [(f, V.ref p)]) := by
        funext b
        by_cases c : b = dx
        · subst c; rw [upd_same, upd_same]
        · rw [upd_ne c, upd_ne c]
          by_cases c2 : b = a
          · subst c2; rw [del_same, ha]
          · rw [del_ne c2, upd_ne c2, upd_ne c, upd_ne c2]
      show E (.ref C) (some dx) _
      rw [e]
      have s2 := Step.raw (o := .xd [(f, V.ref p)]) st1.st hdx
      exact hE (.ref p) Hb1 _ dx ds ((r.step.trans st1).trans s2) upd_same (.tup h1 h2) q1
end
section
variable {X : Cx} {F : Fr} {e : Expr} {te : TE} {fe : DTE} {x f : Str} {C fI : Addr} {CXi : CXT} {k : Nat} {fd : FuncData} {E : XK} {R : DK} {p pos pos2 : Pos}
theorem ds_raise (hc : X.calm = true) (T : ExC X.K X.mg x C fI f) (FI : FnOk X.prog X.w X.K X.mg X.base CX0 k fI fd ["self", "path"] (spInit X.K C f)) (hr : Room (k + 1) X.A) (hb : Binds X.K fd ["self", "path"] []) (tk : Takes X (fun cls d _ H => E cls d H))
    (hE : ∀ (v : V) Hb' H' (d : Addr) ds, Step F.hid F.B0 F.H0 Hb' H' → H' d = some (.xd [(f, v)]) → Dq X.K Hb' v (.tuple ds) → R (excS ds) → E (.ref C) (some d) H') (he : DE X F e te fe) (hg : Gl X x := by rfl) (hdb : (x == ("__debug__" : Str)) = false := by decide)
    (hs : starEach (e :: []) X.env = (false, eval e X.env) :: starEach [] X.env := by rfl) (hpl : (backTo pos (starEach [] X.env)).any (·.1) = false := by rfl) :
    DS X F (.Raise (some (.Call (.Name x p) [e] [] pos)) none pos2) (tRaise C X.K f E te) (dRaise R fe) :=
  ⟨ps_raise hc tk (pmk_oex T.oex T.iC T.tI FI hr hb .nil pass0 hg T.gm (pa_cons he.pe pa_nil hs) hdb hs hpl), sd_raise he.sd hE⟩
end
/-! ### a def that may raise -/
section
variable {P : Program} {w : World} {K : PySem.W.Frag} {mg : Str → Option Value} {base : Heap}
theorem okDX {x qual f : Str} {C : Addr} {st : Stmt} {fa : Addr} {fd : FuncData} {N ps : List Str} {k : Nat} {m : FN} (F : Fun K x qual st fa fd) (S : FnScope N ps (defScope st))
    (body : ∀ (G : Fr) (cdv : Value) (A : Around) (outer : List Env) (s : Shared) (H : Hp) (E : XK), RoomG k (A.deeper (envOfC qual (defScope st) s.heap.objs.size fa cdv)) → ∀ (ss : List Sl) (R : DK), ss.length = ps.length → m ss R →
      (∀ (v : V) Hb' H' (d : Addr) ds, Step G.hid G.B0 G.H0 Hb' H' → H' d = some (.xd [(f, v)]) → Dq K Hb' v (.tuple ds) → R (excS ds) → E (.ref C) (some d) H') →
      ∃ ts t, DSs (cxOf (L2.CX P w) P w K mg base N qual (defScope st) fa cdv A outer s H E) G (defBody st) ts t ∧ t { nx := fun _ => R (.d .none), rt := R } (startE N ss)) :
    FnG P w K mg base (L2.CX P w) (k + 1) fa fd ps (spXE K ps.length m C f) := by
  refine goes_of F S (fun vs H Q E h => ?_) (fun cdv A outer s H vs Q E hr hsp => ?_)
  · obtain ⟨hid, Hb, ss, R, st, r, hl, _⟩ := h
    rw [r.length]; exact hl
  · obtain ⟨hid, Hb, ss, R, st, r, hl, hm, c, ce⟩ := hsp
    obtain ⟨ts, t, B, q⟩ := body ⟨hid, Hb, H, Hb⟩ cdv A outer s H E hr ss R hl hm ce
    refine ⟨ts, B.pe, B.sd Hb H _ _ _ { nx := fun _ => R (.d .none), rt := R } (rep_start st r) q ⟨fun Hb' H' σ env _ r' q => ?_, fun _ _ _ _ _ _ q => q.elim, fun _ _ _ _ _ _ q => q.elim, fun v Hb' H' s' _ st' rs fr q => ?_⟩⟩
    · exact c .non Hb' H' (.d .none) r'.step Dq.non trivial q
    · exact c v Hb' H' s' st' rs fr q
end
end Pu

end

section
set_option maxHeartbeats 2000000
/-! PuTr: try: y = [] if g(e) is None else [z]; except x as n: y = [n.f]. -/
namespace Pu
open PySem L2 PySem.Spec PyProof.Rows RZ
theorem takesNo {X : Cx} : Takes X (fun _ _ _ _ => False) := fun _ _ x => by
  obtain ⟨_, _, _, _, _, _, _, _, _, _, _, _, _, _, _, _, z⟩ := x
  exact z.elim
section
variable {X : Cx} {k : Nat} {g : Addr} {fd : FuncData} {ps : List Str} {sp : Sp} {cs : Str} {p pos : Pos} {e : Expr} {es : List Expr} {t : TA} {W : WX}
theorem pe_callGS (F : FnG X.prog X.w X.K X.mg X.base (L2.CX X.prog X.w) k g fd ps sp) (room : RoomG k X.A) (gl : Gl X cs) (at_ : X.mg cs = some (.ref g)) (kp : PySem.W.keepIn X.K (.ref g) = true) (bi : Binds X.K fd ps []) (tk : Takes X W) (args : PA X (e :: es) t)
    (hdb : (cs == ("__debug__" : Str)) = false := by decide) (hs : starEach (e :: es) X.env = (false, eval e X.env) :: starEach es X.env := by rfl) (plain : (backTo pos (starEach es X.env)).any (·.1) = false := by rfl) :
    PE X (.Call (.Name cs p) (e :: es) [] pos) (tCallS sp (WE W) t) := by
  constructor
  intro pins s σ H Q I q
  refine wpAny_Call_Name_kw (ld_glob I gl at_ (PySem.W.callWith_K (h₀ := X.base) I.ok.mod.kin kp ?_ hs plain) hdb)
  refine thn (args.run pos pins s σ H _ I q) fun us s1 ⟨vs, H1, I1, rel, q1⟩ => ⟨I1.kIn, ?_⟩
  have many : us.length = ps.length := rel.length ▸ F.many _ _ _ _ q1
  have bound := bi s1 us I1.kIn (by rw [List.append_nil]; exact many)
  rw [List.append_nil] at bound
  have go := F.goes X.A X.stack s1 H1 ⟨us, []⟩ us vs Q _ room I1.env0 bound rel q1
  refine wpAny_call (codeAny_mono go fun r s2 done => ?_)
  match r, done with
  | .error ex, done => exact passAt tk σ pins H1 s1 ex s2 I1 done
  | .ok (.ret u), done => exact I1.after done
  | .ok .next, done => exact done.elim
  | .ok .brk, done => exact done.elim
  | .ok .cont, done => exact done.elim
end
section
variable {X : Cx} {k i j : Nat} {g C fI : Addr} {fd : FuncData} {ps : List Str} {sp : Sp} {cs y n x f z : Str} {e : Expr} {t : TA} {jc jz : Nat} {p1 p2 p3 p4 p5 p6 p7 p8 p9 q1 q2 q3 q4 q5 q6 q7 pos pos' : Pos}
end
section
variable {K : PySem.W.Frag} {F : Fr} {C : Addr} {f z : Str} {n i j : Nat} {m : FN} {ta : TA} {fa : DTA}
end
section
variable {X : Cx} {F : Fr} {k i j n : Nat} {m : FN} {g C fI : Addr} {fd : FuncData} {ps : List Str} {cs y nm x f z : Str} {e : Expr} {t : TA} {fa : DTA} {jc jz : Nat} {p1 p2 p3 p4 p5 p6 p7 p8 p9 q1 q2 q3 q4 q5 q6 q7 pos pos' : Pos}
end
/-! ### __init__ -/
section
variable {P : Program} {w : World} {K : PySem.W.Frag} {mg : Str → Option Value} {base : Heap}
/-- self.f = tuple(path) -/
theorem ok_init {qual x f : Str} {st : Stmt} {C fI : Addr} {fd : FuncData} {q1 q2 q3 q4 q5 q6 : Pos} (F : Fun K "__init__" qual st fI fd) (S : FnScope ["self", "path"] ["self", "path"] (defScope st))
    (hb : defBody st = [.Assign [.Attribute (.Name "self" q1) f q2] (.Call (.Name "tuple" q3) [.Name "path" q4] [] q5) q6]) (T : ExC K mg x C fI f) (mt : mg "tuple" = none)
    (body : ∀ (cdv : Value) (A : Around) (outer : List Env) (s : Shared) (H : Hp) (E : XK), PSs (cxOf CX0 P w K mg base ["self", "path"] qual (defScope st) fI cdv A outer s H E).nox (defBody st)
      (tOst K f (tVar 0) (tCB (fun xs H Q => ∃ p ys, xs = [.ref p] ∧ ((SqL K H p ys ∧ ∀ l, H l = none → Q (.ref l) (upd H l (.tup ys))) ∨ (SqT K H p ys ∧ Q (.ref p) H))) (tCons (tVar 1) tNil)))) :
    FnOk P w K mg base CX0 1 fI fd ["self", "path"] (spInit K C f) := by
  refine F.ok S (fun vs H Q E h => ?_) (fun cdv A outer s H vs Q E hr h => ⟨_, body cdv A outer s H E, ?_⟩)
  · obtain ⟨a, p, ys, rfl, _⟩ := h
    rfl
  · obtain ⟨a, p, ys, rfl, ha, hp, q⟩ := h
    refine ⟨_, rfl, p, ys, rfl, .inr ⟨hp, ?_⟩⟩
    exact ⟨_, rfl, a, C, rfl, T.oex, T.no, .inl ⟨ha, fun dx h1 h2 => q dx h1 h2⟩⟩
end
/-! ### defs that raise, by name -/
structure FnXE (P : Program) (w : World) (K : PySem.W.Frag) (mg : Str → Option Value) (base : Heap) (cs : Str) (k : Nat) (ps : List Str) (n : Nat) (m : FN) (x f : Str) : Prop where
  ex : ∃ C fI, ExC K mg x C fI f ∧ ∃ g fd, mg cs = some (.ref g) ∧ PySem.W.keepIn K (.ref g) = true ∧ Binds K fd ps [] ∧ FnG P w K mg base (L2.CX P w) k g fd ps (spXE K n m C f)
section
variable {P : Program} {w : World} {K : PySem.W.Frag} {mg : Str → Option Value} {base : Heap}
theorem fnDX {cs x f : Str} {C fI : Addr} {st : Stmt} {N ps : List Str} {k : Nat} {m : FN} (A : At K mg cs st ps) (S : FnScope N ps (defScope st)) (T : ExC K mg x C fI f)
    (body : ∀ (G : Fr) (g : Addr) (cdv : Value) (A : Around) (outer : List Env) (s : Shared) (H : Hp) (E : XK), RoomG k (A.deeper (envOfC cs (defScope st) s.heap.objs.size g cdv)) → ∀ (ss : List Sl) (R : DK), ss.length = ps.length → m ss R →
      (∀ (v : V) Hb' H' (d : Addr) ds, Step G.hid G.B0 G.H0 Hb' H' → H' d = some (.xd [(f, v)]) → Dq K Hb' v (.tuple ds) → R (excS ds) → E (.ref C) (some d) H') →
      ∃ ts t, DSs (cxOf (L2.CX P w) P w K mg base N cs (defScope st) g cdv A outer s H E) G (defBody st) ts t ∧ t { nx := fun _ => R (.d .none), rt := R } (startE N ss)) :
    FnXE P w K mg base cs (k + 1) ps ps.length m x f := by
  obtain ⟨g, fd, F, hm, hb⟩ := A.ex
  exact ⟨C, fI, T, g, fd, hm, F.kp, hb, okDX F S fun G cdv A outer s H E hr => body G g cdv A outer s H E hr⟩
end
end Pu

end

section
set_option maxHeartbeats 1000000
/-! PuX7: repr of all data; a if c else b as a test. -/
namespace Pu
open PySem L2 PyProof.Rows RZ
/-! ### a if c else b, as a test -/
section
variable {X : Cx} {F : Fr} {K : PySem.W.Frag} {c a b : Expr} {pos : Pos} {t ta tb : TT} {ft fa fb : DTT}
end
/-! ### repr -/
section
variable {X : Cx} {pins : List (Addr × Obj)} {σ : L2.St} {H : Hp} {s : Shared}
theorem reads_keys {P : Program} {w : World} {h : Heap} : ∀ {es : List DictEntry} {vs : List (Key × Value)}, Pairs (mixKind P w) es vs → ReadsAll h (es.map (·.key)) (vs.map fun p => keyD p.1) []
  | _, _, .nil => .nil
  | _, _, .cons (e := e) (kv := kv) h1 h2 h3 => by
    have q : Reads h e.key (keyD kv.1) [] := by
      obtain ⟨k, v⟩ := kv
      have h1' : keyIs k e.key = true := h1
      rcases keyIs_shape h1' with ⟨i, t, e1, e2⟩ | ⟨x, t, e1, e2⟩
      · rw [e1, e2]; exact .int _ _
      · rw [e1, e2]; exact .str _ _
    exact ReadsAll.cons (as := []) (bs := []) q (reads_keys h3)
theorem pairs_vals {P : Program} {w : World} : ∀ {es : List DictEntry} {vs : List (Key × Value)}, Pairs (mixKind P w) es vs → es.map (·.val) = vs.map (·.2)
  | _, _, .nil => rfl
  | _, _, .cons h1 h2 h3 => by simp [h2, pairs_vals h3]
theorem kv_vals : ∀ {kvs : List (Key × V)} {vs : List (Key × Value)}, KV kvs vs → Vals (kvs.map Prod.snd) (vs.map (·.2))
  | _, _, .nil => .nil
  | _, _, .cons h1 h2 => .cons h1.2 (kv_vals h2)
theorem kv_keys : ∀ {kvs : List (Key × V)} {vs : List (Key × Value)}, KV kvs vs → kvs.map (fun p => keyD p.1) = vs.map fun p => keyD p.1
  | _, _, .nil => rfl
  | _, _, .cons h1 h2 => by simp [h1.1, kv_keys h2]
end
section
variable {X : Cx} {K : PySem.W.Frag} {hid : Hid}
end
end Pu
namespace Pu
/-- a class is its own kind -/
theorem exm_own {K : PySem.W.Frag} {C : PySem.Addr} (eC : PySem.W.subIn K (.ref C) (.type "BaseException") = some true) (cC : PySem.W.isClsIn K C = true) (tC : PySem.W.typeIn K (.ref C) = some (.type "type")) (sC : PySem.W.subIn K (.ref C) (.ref C) = some true) :
    PySem.W.exmOne K (.ref C) (.ref C) = some true := by
  have q : (PySem.W.clsIn K C).isSome = true := cC
  unfold PySem.W.exmOne
  rw [eC, if_pos (by rfl)]
  show (if ((PySem.W.clsIn K C).isSome && PySem.W.typeIn K (.ref C) == some (.type "type")) = true then PySem.W.subIn K (.ref C) (.ref C) else none) = some true
  rw [q, tC, if_pos (by rfl), sC]
end Pu

end

section
set_option maxHeartbeats 1000000
/-! PuTx: texts compared by <=, texts within texts. -/
namespace Pu
open PySem L2 PyProof.Rows RZ
def leS (i j : Str) : Bool := !decide (j.cps.toList < i.cps.toList)
def occS (i j : Str) : Bool := !(Builtin.Str.occurrences j i 0 j.length 1).isEmpty
def fLeS : F2 := fun s u Q => match s, u with
  | .d (.str i), .d (.str j) => Q (.d (.bool (leS i j)))
  | _, _ => False
def fInS (neg : Bool) : F2 := fun s u Q => match s, u with
  | .d (.str i), .d (.str j) => Q (.d (.bool (neg != occS i j)))
  | _, _ => False
section
variable {K : PySem.W.Frag} {hid : Hid}
theorem lo_leS : LO K hid (fun x y H Q => ∃ i j, x = .str i ∧ y = .str j ∧ Q (.bl (!decide (j.cps.toList < i.cps.toList))) H) fLeS := by
  intro Hb H x y s u Q k st rx ry q c
  unfold fLeS at q
  split at q
  · rename_i i j
    exact ⟨i, j, str_of rx, str_of ry, c _ Hb H (.d (.bool (leS i j))) (Step.refl st) (Dq.bl _) trivial q⟩
  · exact q.elim
theorem lo_ninS : LO K hid (fun x y H Q => ∃ i j, x = .str i ∧ y = .str j ∧ Q (.bl (!(!(Builtin.Str.occurrences j i 0 j.length 1).isEmpty))) H) (fInS true) := by
  intro Hb H x y s u Q k st rx ry q c
  unfold fInS at q
  split at q
  · rename_i i j
    exact ⟨i, j, str_of rx, str_of ry, c _ Hb H (.d (.bool (true != occS i j))) (Step.refl st) (by rw [Bool.true_bne]; exact Dq.bl _) trivial q⟩
  · exact q.elim
end
end Pu

end

section
set_option maxHeartbeats 1000000
/-! PuX8: repr of all data; data without members by == and !=; range as a place; texts times numbers, texts by <, text of a number, dict of one pair. -/
namespace Pu
open PySem L2 PySem.Spec PyProof.Rows RZ
section
variable {X : Cx} {pins : List (Addr × Obj)} {σ : L2.St} {H : Hp} {s : Shared}
theorem Dq.readsO (I : Inv X pins σ H s) {d : PyData} {v : V} (h : Dq X.K H v d) : ∀ u, RelV v u → ∃ as, Reads s.heap u d as := by
  refine Dq.rec (motive_1 := fun v d _ => ∀ u, RelV v u → ∃ as, Reads s.heap u d as) (motive_2 := fun vs ds _ => ∀ us, Vals vs us → ∃ as, ReadsAll s.heap us ds as) ?_ ?_ ?_ ?_ ?_ ?_ ?_ ?_ ?_ h
  · intro u r; cases r; exact ⟨_, Reads.none⟩
  · intro b u r; cases r; exact ⟨_, Reads.bool b⟩
  · intro i u r; obtain ⟨t, rfl⟩ := r; exact ⟨_, Reads.int i t⟩
  · intro x u r; obtain ⟨t, rfl⟩ := r; exact ⟨_, Reads.str x t⟩
  · intro a xs ds h1 _ i u r
    cases r
    obtain ⟨its, rv, ⟨o, n, ho, hc, _, hdat⟩, _⟩ := I.list (SqL.of h1)
    obtain ⟨as, hr⟩ := i its rv
    exact ⟨_, Reads.list ho hc hdat hr⟩
  · intro a xs ds h1 _ i u r
    cases r
    obtain ⟨its, rv, ⟨o, ho, hc, n, hdat⟩, _⟩ := I.tuple h1
    obtain ⟨as, hr⟩ := i its rv
    exact ⟨_, Reads.tuple ho hc hdat hr⟩
  · intro a kvs ds h1 h2 _ i u r
    cases r
    obtain ⟨z, hs, vs, rel, o, es, ep, ho, hx, hdat, _, hp, _⟩ := dk_of I.hok h1
    obtain ⟨bs, hr⟩ := i _ (kv_vals rel)
    have hk : ReadsAll s.heap (es.toList.map (·.key)) (ds.map (·.1)) [] := by rw [h2, kv_keys rel]; exact reads_keys hp
    have hv : ReadsAll s.heap (es.toList.map (·.val)) (ds.map (·.2)) bs := by rw [pairs_vals hp]; exact hr
    exact ⟨_, Reads.dict ho hx.1 hdat hk hv⟩
  · intro us r; cases r; exact ⟨_, ReadsAll.nil⟩
  · intro v vs d ds _ _ i1 i2 us r
    cases r with
    | cons r1 r2 =>
      obtain ⟨as, q1⟩ := i1 _ r1
      obtain ⟨bs, q2⟩ := i2 _ r2
      exact ⟨_, ReadsAll.cons q1 q2⟩
theorem DqAll.readsO (I : Inv X pins σ H s) : ∀ {ds : List PyData} {vs : List V} {us : List Value}, DqAll X.K H vs ds → Vals vs us → ∃ as, ReadsAll s.heap us ds as
  | [], _, _, .nil, .nil => ⟨_, ReadsAll.nil⟩
  | _ :: _, _, _, .cons h1 h2, .cons r1 r2 => by
    obtain ⟨as, q1⟩ := Dq.readsO I h1 _ r1
    obtain ⟨bs, q2⟩ := DqAll.readsO I h2 r2
    exact ⟨_, ReadsAll.cons q1 q2⟩
/-- how a part is shown; only dicts must lie elsewhere than the modules -/
def Shw (X : Cx) (s : Shared) (u : Value) (d : PyData) : Prop := d.showable = true → d.shown.length ≤ sizeLine → ∃ bs, ReadAtMost s.heap d.depth bs ∧ ReprK X.prog X.w bs s.heap d.depth u d.shown
def Shws (X : Cx) (s : Shared) (us : List Value) (ds : List PyData) : Prop :=
  PyData.showableAll ds = true → (∀ t ∈ PyData.shownAll ds, t.length ≤ sizeLine) → ∃ bs, ReadAtMost s.heap (PyData.depthAll ds) bs ∧ ReprAllK X.prog X.w bs s.heap (PyData.depthAll ds) us (PyData.shownAll ds)
theorem Shw.leaf {u : Value} {d : PyData} (r : ∃ as, Reads s.heap u d as) (n : d.hasDict = false) : Shw X s u d := fun q z => by
  obtain ⟨as, r⟩ := r
  exact ReprK.of_reads r q (PyData.noDict_hsm n) z
theorem shw_list {a : Addr} {o : Obj} {n : Nat} {its : List Value} {ds : List PyData} {as : List Addr} (e1 : s.heap.get? a = some o) (e2 : o.cls = .type "list") (e3 : o.data = .seq its.toArray n) (e4 : ReadsAll s.heap its ds as) (i : Shws X s its ds) (q : (PyData.list ds).showable = true) (z : (PyData.list ds).shown.length ≤ sizeLine) :
    ∃ bs, ReadAtMost s.heap (PyData.depthAll ds) bs ∧ a ∉ bs ∧ ReprAllK X.prog X.w bs s.heap (PyData.depthAll ds) its (PyData.shownAll ds) := by
  simp only [PyData.shown] at z
  obtain ⟨bs, m, k⟩ := i (by simpa [PyData.showable] using q) fun t ht => by have := listText_mem_le ht; omega
  exact ⟨bs, m, not_mem_of_deeper (Reads.list e1 e2 e3 e4) (by simp only [PyData.depth]; omega) m, k⟩
theorem shw_tup {a : Addr} {o : Obj} {n : Nat} {its : List Value} {ds : List PyData} {as : List Addr} (e1 : s.heap.get? a = some o) (e2 : o.cls = .type "tuple") (e3 : o.data = .seq its.toArray n) (e4 : ReadsAll s.heap its ds as) (i : Shws X s its ds) (q : (PyData.tuple ds).showable = true) (z : (PyData.tuple ds).shown.length ≤ sizeLine) :
    ∃ bs, ReadAtMost s.heap (PyData.depthAll ds) bs ∧ a ∉ bs ∧ ReprAllK X.prog X.w bs s.heap (PyData.depthAll ds) its (PyData.shownAll ds) := by
  simp only [PyData.shown] at z
  obtain ⟨bs, m, k⟩ := i (by simpa [PyData.showable] using q) fun t ht => by have := tupleText_mem_le ht; omega
  exact ⟨bs, m, not_mem_of_deeper (Reads.tuple e1 e2 e3 e4) (by simp only [PyData.depth]; omega) m, k⟩
theorem shw_dict {a : Addr} {o : Obj} {n : Nat} {es : Array DictEntry} {ds : List (PyData × PyData)} {bs0 : List Addr} (e1 : s.heap.get? a = some o) (e2 : o.cls = .type "dict") (e3 : o.data = .dict es n) (e4 : ReadsAll s.heap (es.toList.map (·.key)) (ds.map (·.1)) []) (e5 : ReadsAll s.heap (es.toList.map (·.val)) (ds.map (·.2)) bs0)
    (i : Shws X s (es.toList.map (·.val)) (ds.map (·.2))) (q : (PyData.dict ds).showable = true) (z : (PyData.dict ds).shown.length ≤ sizeLine) :
    ∃ bs, ReadAtMost s.heap (PyData.depthKv ds) bs ∧ a ∉ bs ∧ ReprEntriesK X.prog X.w bs s.heap (PyData.depthKv ds) es.toList (PyData.shownKv ds) := by
  simp only [PyData.shown] at z
  obtain ⟨w1, w2⟩ := PyData.showableKv_split ds (by simpa [PyData.showable] using q)
  obtain ⟨c1, m1, k1⟩ := ReprAllK.of_readsAll (prog := X.prog) (w := X.w) e4 w1 (fun _ y => nomatch y) fun t ht => by
    obtain ⟨p, y1, y2⟩ := PyData.shownKv_key_le ds t ht
    have := dictText_mem_le y1; omega
  obtain ⟨c2, m2, k2⟩ := i w2 fun t ht => by
    obtain ⟨p, y1, y2⟩ := PyData.shownKv_val_le ds t ht
    have := dictText_mem_le y1; omega
  have m := (m1.mono (PyData.depthAll_keys_le ds)).append (m2.mono (PyData.depthAll_vals_le ds))
  refine ⟨c1 ++ c2, m, not_mem_of_deeper (Reads.dict e1 e2 e3 e4 e5) (by simp only [PyData.depth]; omega) m, ?_⟩
  rw [PyData.shownKv_eq]
  exact ReprEntriesK.of_two es.toList _ _ (k1.more_le (fun b y => by simp [y]) (PyData.depthAll_keys_le ds)) (k2.more_le (fun b y => by simp [y]) (PyData.depthAll_vals_le ds))
theorem Dq.shw (I : Inv X pins σ H s) {d : PyData} {v : V} (h : Dq X.K H v d) : ∀ u, RelV v u → Shw X s u d := by
  refine Dq.rec (motive_1 := fun v d _ => ∀ u, RelV v u → Shw X s u d) (motive_2 := fun vs ds _ => ∀ us, Vals vs us → Shws X s us ds) ?_ ?_ ?_ ?_ ?_ ?_ ?_ ?_ ?_ h
  · intro u r; exact .leaf (Dq.readsO I (.non) u r) rfl
  · intro b u r; exact .leaf (Dq.readsO I (.bl b) u r) rfl
  · intro j u r; exact .leaf (Dq.readsO I (.int j) u r) rfl
  · intro x u r; exact .leaf (Dq.readsO I (.str x) u r) rfl
  · intro a xs ds h1 h2 i u r q z
    obtain ⟨as, rd⟩ := Dq.readsO I (.lst h1 h2) u r
    cases r
    cases rd with
    | list e1 e2 e3 e4 =>
      rename_i o arr n as1
      obtain ⟨its, rv, ⟨o', n', ho, hc, _, hdat⟩, _⟩ := I.list (SqL.of h1)
      rw [e1] at ho; cases ho
      rw [e3] at hdat; cases hdat
      obtain ⟨bs, m, na, k⟩ := shw_list (X := X) e1 e2 e3 (by simpa using e4) (i its rv) q z
      refine ⟨a :: bs, ReadAtMost.cons (Reads.list e1 e2 e3 e4) (by simp only [PyData.depth]; omega) m, ?_⟩
      simp only [PyData.depth, PyData.shown]
      cases its with
      | nil =>
        cases rv; cases h2
        simp only [PyData.shownAll, listText_nil]
        exact ReprK.listEmpty e1 e2 e3
      | cons y l => exact ReprK.list e1 e2 e3 na (by simpa using k.length_eq) fun j y e => k.item j y (by simpa using e)
  · intro a xs ds h1 h2 i u r q z
    obtain ⟨as, rd⟩ := Dq.readsO I (.tup h1 h2) u r
    cases r
    cases rd with
    | tuple e1 e2 e3 e4 =>
      obtain ⟨its, rv, ⟨o', ho, hc, n', hdat⟩, _⟩ := I.tuple h1
      rw [e1] at ho; cases ho
      rw [e3] at hdat; cases hdat
      obtain ⟨bs, m, na, k⟩ := shw_tup (X := X) e1 e2 e3 (by simpa using e4) (i its rv) q z
      refine ⟨a :: bs, ReadAtMost.cons (Reads.tuple e1 e2 e3 e4) (by simp only [PyData.depth]; omega) m, ?_⟩
      simp only [PyData.depth, PyData.shown]
      exact ReprK.tuple e1 e2 e3 na k
  · intro a kvs ds h1 h2 h3 i u r q z
    cases r
    obtain ⟨_, hs, vs, rel, o, es, ep, ho, hx, hdat, _, hp, _⟩ := dk_of I.hok h1
    obtain ⟨bs0, r0⟩ := DqAll.readsO I h3 (kv_vals rel)
    have hk : ReadsAll s.heap (es.toList.map (·.key)) (ds.map (·.1)) [] := by rw [h2, kv_keys rel]; exact reads_keys hp
    have i' := i _ (kv_vals rel)
    rw [← pairs_vals hp] at r0 i'
    obtain ⟨bs, m, na, k⟩ := shw_dict (X := X) ho hx.1 hdat hk r0 i' q z
    refine ⟨a :: bs, ReadAtMost.cons (Reads.dict ho hx.1 hdat hk r0) (by simp only [PyData.depth]; omega) m, ?_⟩
    simp only [PyData.depth, PyData.shown]
    exact ReprK.dict ho hx.1 hdat hs na k
  · intro us r
    cases r
    exact fun _ _ => ⟨[], (fun _ y => nomatch y), by simp only [PyData.shownAll]; exact .nil⟩
  · intro v vs d ds _ _ i1 i2 us r
    cases r with
    | cons r1 r2 =>
      intro q z
      have q' : d.showable = true ∧ PyData.showableAll ds = true := by simpa [PyData.showableAll] using q
      obtain ⟨b1, m1, k1⟩ := i1 _ r1 q'.1 (z _ (by simp [PyData.shownAll]))
      obtain ⟨b2, m2, k2⟩ := i2 _ r2 q'.2 fun t ht => z t (by simp [PyData.shownAll, ht])
      have l1 : d.depth ≤ PyData.depthAll (d :: ds) := by simp only [PyData.depthAll]; omega
      have l2 : PyData.depthAll ds ≤ PyData.depthAll (d :: ds) := by simp only [PyData.depthAll]; omega
      refine ⟨b1 ++ b2, (m1.mono l1).append (m2.mono l2), ?_⟩
      simp only [PyData.shownAll]
      exact .cons ((k1.more fun b y => by simp [y]).level_le l1) (k2.more_le (fun b y => by simp [y]) l2)
theorem DqAll.shw (I : Inv X pins σ H s) : ∀ {ds : List PyData} {vs : List V} {us : List Value}, DqAll X.K H vs ds → Vals vs us → Shws X s us ds
  | [], _, _, .nil, .nil => fun _ _ => ⟨[], (fun _ y => nomatch y), by simp only [PyData.shownAll]; exact .nil⟩
  | d :: ds, _, _, .cons h1 h2, .cons r1 r2 => fun q z => by
    have q' : d.showable = true ∧ PyData.showableAll ds = true := by simpa [PyData.showableAll] using q
    obtain ⟨b1, m1, k1⟩ := Dq.shw I h1 _ r1 q'.1 (z _ (by simp [PyData.shownAll]))
    obtain ⟨b2, m2, k2⟩ := DqAll.shw I h2 r2 q'.2 fun t ht => z t (by simp [PyData.shownAll, ht])
    have l1 : d.depth ≤ PyData.depthAll (d :: ds) := by simp only [PyData.depthAll]; omega
    have l2 : PyData.depthAll ds ≤ PyData.depthAll (d :: ds) := by simp only [PyData.depthAll]; omega
    refine ⟨b1 ++ b2, (m1.mono l1).append (m2.mono l2), ?_⟩
    simp only [PyData.shownAll]
    exact .cons ((k1.more fun b y => by simp [y]).level_le l1) (k2.more_le (fun b y => by simp [y]) l2)
end
/-- data that can be shown -/
def okY (d : PyData) : Prop := d.showable = true ∧ d.shown.length ≤ sizeLine ∧ d.depth ≤ 60
section
variable {X : Cx} {K : PySem.W.Frag} {hid : Hid}
def rReprY (K : PySem.W.Frag) : List V → Hp → VK → Prop := fun xs H Q => ∃ v d, xs = [v] ∧ Dq K H v d ∧ okY d ∧ Q (.str d.shown) H
theorem call_reprY (hu : X.A.units + 64 < cLine) (hgd : X.A.guards = some []) : CallR X (.builtin "repr") (rReprY X.K) := by
  intro pins s σ H xs us Q I r h
  obtain ⟨v, d, rfl, hd, ⟨h2, h3, h4⟩, q⟩ := h
  obtain ⟨u, rfl, rv⟩ := vals1 r
  have fin : ∀ (h' : Heap) (u : Tok) (tk : Nat), (∀ b o, s.heap.get? b = some o → h'.get? b = some o) → ∃ x H', Inv X pins σ H' { s with heap := h', toks := tk } ∧ RelV x (Value.str d.shown u) ∧ Q x H' := fun h' u tk hk => ⟨.str _, H, I.kept hk, ⟨u, rfl⟩, q⟩
  have room : X.A.in1.units + d.depth < cLine := by show X.A.units + 1 + d.depth < cLine; omega
  have hd' := hd
  have hz := h3
  cases hd with
  | non => cases rv; exact PySem.P.repr_of_none ⟨.str _, H, I.tok _, ⟨_, rfl⟩, q⟩
  | bl b => cases rv; exact PySem.P.repr_of_bool ⟨.str _, H, I.tok _, ⟨_, rfl⟩, q⟩
  | int i =>
    obtain ⟨t, rfl⟩ := rv
    exact PySem.P.repr_of_int (by simpa [PyData.showable] using h2) ⟨.str _, H, I.tok _, ⟨_, rfl⟩, q⟩
  | str x =>
    obtain ⟨t, rfl⟩ := rv
    exact PySem.P.repr_of_str ⟨.str _, H, I.tok _, ⟨_, rfl⟩, q⟩ (by simpa [PyData.shown] using h3)
  | lst h1 g2 =>
    obtain ⟨as, rd⟩ := Dq.readsO I hd' u rv
    cases rv
    cases rd with
    | list e1 e2 e3 e4 =>
      obtain ⟨its, rv, ⟨o', n', ho, hc, _, hdat⟩, _⟩ := I.list (SqL.of h1)
      rw [e1] at ho; cases ho
      rw [e3] at hdat; cases hdat
      obtain ⟨bs, m, na, k⟩ := shw_list (X := X) e1 e2 e3 (by simpa using e4) (DqAll.shw I g2 rv) h2 h3
      simp only [PyData.depth] at room
      simp only [PyData.shown] at fin hz
      refine call_repr_slot (by omega) ⟨_, e1, e2⟩ F.slot_list_repr.toG ?_
      cases its with
      | nil =>
        cases rv; cases g2
        simp only [PyData.shownAll, listText_nil] at fin
        exact call_list_repr_empty ⟨_, e1, e2⟩ e1 e3 ⟨_, _, rfl, fin s.heap _ _ fun _ _ e => e⟩
      | cons y l => exact call_list_reprK e1 e2 e3 na (by simpa using k.length_eq) (fun j y e => k.item j y (by simpa using e)) hgd (fun b _ => Clear.nil b) room (fun _ _ e => e) (fun h' u tk hk => ⟨_, _, rfl, fin h' u tk hk⟩) hz
  | tup h1 g2 =>
    obtain ⟨as, rd⟩ := Dq.readsO I hd' u rv
    cases rv
    cases rd with
    | tuple e1 e2 e3 e4 =>
      obtain ⟨its, rv, ⟨o', ho, hc, n', hdat⟩, _⟩ := I.tuple h1
      rw [e1] at ho; cases ho
      rw [e3] at hdat; cases hdat
      obtain ⟨bs, m, na, k⟩ := shw_tup (X := X) e1 e2 e3 (by simpa using e4) (DqAll.shw I g2 rv) h2 h3
      simp only [PyData.depth] at room
      simp only [PyData.shown] at fin hz
      refine call_repr_slot (by omega) ⟨_, e1, e2⟩ F.slot_tuple_repr ?_
      exact call_tuple_reprK e1 e2 e3 na k hgd (fun b _ => Clear.nil b) room (fun _ _ e => e) (fun h' u tk hk => ⟨_, _, rfl, fin h' u tk hk⟩) hz
  | @dic a kvs ds h1 g1 g2 =>
    cases rv
    obtain ⟨_, hs, vs, rel, o, es, ep, ho, hx, hdat, _, hp, _⟩ := dk_of I.hok h1
    obtain ⟨bs0, r0⟩ := DqAll.readsO I g2 (kv_vals rel)

    have hk : ReadsAll s.heap (es.toList.map (·.key)) (ds.map (·.1)) [] := by rw [g1, kv_keys rel]; exact reads_keys hp
    have i' := DqAll.shw I g2 (kv_vals rel)
    rw [← pairs_vals hp] at r0 i'
    obtain ⟨bs, m, na, k⟩ := shw_dict (X := X) ho hx.1 hdat hk r0 i' h2 h3
    simp only [PyData.depth] at room
    simp only [PyData.shown] at fin hz
    refine call_repr_slot (by omega) ⟨_, ho, hx.1⟩ F.slot_dict_repr ?_
    exact call_dict_reprK ho hx.1 hdat hs na k hgd (fun b _ => Clear.nil b) room (fun _ _ e => e) (fun h' u tk hk => ⟨_, _, rfl, fin h' u tk hk⟩) hz
def fReprY : FN := fun ss Q => match ss with
  | [.d x] => okY x ∧ Q (.d (.str x.shown))
  | _ => False
theorem lc_reprY : LC K hid (rReprY K) fReprY := by
  intro Hb H xs ss Q k st r q c
  unfold fReprY at q
  split at q
  · rename_i x
    obtain ⟨v, rfl, h⟩ := rep1 r
    exact ⟨v, x, rfl, Dq.mono st.ex h, q.1, c _ Hb H (.d (.str _)) (Step.refl st) (Dq.str _) trivial q.2⟩
  · exact q.elim
theorem k_reprY (e : X.K = K) (hu : X.A.units + 64 < cLine) (hgd : X.A.guards = some []) : CallR X (.builtin "repr") (rReprY K) := by
  subst e; exact call_reprY hu hgd
end
/-! ### lists and tuples, and such without members -/
section
variable {X : Cx} {K : PySem.W.Frag} {hid : Hid}
def Emp (K : PySem.W.Frag) (H : Hp) (x y : V) (b : Bool) : Prop := ∃ xs : List PyData, b = xs.isEmpty ∧ ((Dq K H x (.list xs) ∧ Dq K H y (.list [])) ∨ (Dq K H x (.tuple xs) ∧ Dq K H y (.tuple [])))
theorem emp_cases {pins : List (Addr × Obj)} {σ : L2.St} {H : Hp} {s : Shared} {x y : V} {b : Bool} {v u : Value} (I : Inv X pins σ H s) (h : Emp X.K H x y b) (rx : RelV x v) (ry : RelV y u) :
    ∃ l l' its, v = .ref l ∧ u = .ref l' ∧ ((s.heap.IsList l its ∧ s.heap.IsList l' #[]) ∨ (s.heap.IsTuple l its ∧ s.heap.IsTuple l' #[])) ∧ b = its.isEmpty := by
  obtain ⟨xs, rfl, ⟨hd, he⟩ | ⟨hd, he⟩⟩ := h
  · cases hd with
    | lst h1 h2 =>
      cases he with
      | lst k1 k2 =>
        cases rx; cases ry; cases k2
        obtain ⟨its, rv, ⟨o, n, ho, hc, _, hdat⟩, _⟩ := I.list (SqL.of h1)
        obtain ⟨its', rv', ⟨o', n', ho', hc', _, hdat'⟩, _⟩ := I.list (SqL.of k1)
        cases rv'
        refine ⟨_, _, _, rfl, rfl, .inl ⟨⟨o, ho, hc, n, hdat⟩, ⟨o', ho', hc', n', hdat'⟩⟩, ?_⟩
        have e := (DqAll.length h2).symm.trans rv.length
        cases xs <;> cases its <;> simp_all
  · cases hd with
    | tup h1 h2 =>
      cases he with
      | tup k1 k2 =>
        cases rx; cases ry; cases k2
        obtain ⟨its, rv, hT, _⟩ := I.tuple h1
        obtain ⟨its', rv', hT', _⟩ := I.tuple k1
        cases rv'
        refine ⟨_, _, _, rfl, rfl, .inr ⟨hT, hT'⟩, ?_⟩
        have e := (DqAll.length h2).symm.trans rv.length
        cases xs <;> cases its <;> simp_all
def rEqE (K : PySem.W.Frag) : R2 := fun x y H Q => ∃ b, Emp K H x y b ∧ Q (.bl b) H
theorem op_eqE (hu : X.A.units + 64 < cLine) : OpR X (compareOp .Eq) (rEqE X.K) := by
  intro pins s σ H x y v u Q I rx ry h
  obtain ⟨b, h, q⟩ := h
  obtain ⟨l, l', its, rfl, rfl, hT, rfl⟩ := emp_cases I h rx ry
  have room : X.A.units < cLine := by omega
  have fin : ∃ x H', Inv X pins σ H' s ∧ RelV x (Value.bool its.isEmpty) ∧ Q x H' := ⟨.bl _, H, I, rfl, q⟩
  rcases hT with ⟨h1, h2⟩ | ⟨h1, h2⟩
  · by_cases c : its = #[]
    · subst c
      exact SeqAt.RcAt.lists (e := fun _ => true) h1 h2 rfl room (fun j j1 _ => absurd j1 (Nat.not_lt_zero _)) _ _ _ _ fin
    · have e : its.isEmpty = false := by simpa using c
      rw [e] at fin
      exact SeqAt.RcAt.lists_lengths h1 h2 (by simpa using c) room _ _ _ _ fin
  · refine SeqAt.RcAt.tuples (e := fun _ => true) h1 h2 room (fun j _ j1 => absurd j1 (Nat.not_lt_zero _)) _ _ _ _ ?_
    have e : ((List.range (min its.size (#[] : Array Value).size)).all (fun _ => true) && its.size == (#[] : Array Value).size) = its.isEmpty := by
      obtain ⟨l⟩ := its
      cases l <;> simp
    rw [e]; exact fin
def fEqE (neg : Bool) : F2 := fun s u Q => match s, u with
  | .d (.list xs), .d (.list []) => Q (.d (.bool (neg != xs.isEmpty)))
  | .d (.tuple xs), .d (.tuple []) => Q (.d (.bool (neg != xs.isEmpty)))
  | _, _ => False
theorem lo_eqE : LO K hid (rEqE K) (fEqE false) := by
  intro Hb H x y s u Q k st rx ry q c
  unfold fEqE at q
  split at q
  · rename_i xs
    exact ⟨_, ⟨xs, rfl, .inl ⟨Dq.mono st.ex rx, Dq.mono st.ex ry⟩⟩, c _ Hb H (.d (.bool xs.isEmpty)) (Step.refl st) (Dq.bl _) trivial (by rw [Bool.false_bne] at q; exact q)⟩
  · rename_i xs
    exact ⟨_, ⟨xs, rfl, .inr ⟨Dq.mono st.ex rx, Dq.mono st.ex ry⟩⟩, c _ Hb H (.d (.bool xs.isEmpty)) (Step.refl st) (Dq.bl _) trivial (by rw [Bool.false_bne] at q; exact q)⟩
  · exact q.elim
theorem k_eqE (e : X.K = K) (hu : X.A.units + 64 < cLine) : OpR X (compareOp .Eq) (rEqE K) := by subst e; exact op_eqE hu
/-! ### texts -/
def repS (a : Str) (n : Nat) : Str := ⟨(List.replicate n a.cps).foldl (· ++ ·) #[]⟩
def CMulS (a : Str) (n : Int) : Prop := 1 ≤ a.length ∧ a.length ≤ 100 ∧ 0 ≤ n ∧ n ≤ 1000
def fMulS : F2 := fun s u Q => match s, u with
  | .d (.str a), .d (.int n) => CMulS a n ∧ Q (.d (.str (repS a n.toNat)))
  | _, _ => False
/-! ### list of a text -/
def rListS : List V → Hp → VK → Prop := fun xs H Q => ∃ z : Str, xs = [.str z] ∧ z.length ≤ sizeLine ∧ ∀ l, H l = none → Q (.ref l) (upd H l (.lst (z.cps.toList.map fun c => V.str ⟨#[c]⟩)))
theorem call_listS (hc : X.calm = true) : CallR X (.type "list") rListS := by
  intro pins s σ H xs us Q I r h
  obtain ⟨z, rfl, hz, q⟩ := h
  obtain ⟨u, rfl, t, rfl⟩ := vals1 r
  refine call_list_str (I.ok.hd hc) z t (fun h' tk acc c' hk hS ⟨n, g⟩ => ?_) hz
  have e : (z.cps.toList.map fun c => V.str ⟨#[c]⟩).length = acc.toList.length := by rw [List.length_map, Array.length_toList, Array.length_toList, n]
  have rv : Vals (z.cps.toList.map fun c => V.str ⟨#[c]⟩) acc.toList := vals_of_at e fun j x u hx hu => by
    obtain ⟨c, t, h1, rfl⟩ := g j u (by simpa using hu)
    have h2 : z.cps.toList[j]? = some c := by simpa using h1
    rw [List.getElem?_map, h2] at hx
    cases hx
    exact ⟨t, rfl⟩
  have lz : (z.cps.toList.map fun c => V.str ⟨#[c]⟩).length ≤ sizeLine := by rw [List.length_map, Array.length_toList]; exact hz
  exact ⟨.ref s.heap.objs.size, _, I.laid (t' := tk) hk (Nat.le_refl _) (show ObjOk X.prog X.w _ h' _ (.lst _) from ⟨lz, acc.toList, c', rv, by simpa using hS⟩), rfl, q _ (I.hok.fresh (Nat.le_refl _))⟩
def fListS : FN := fun ss Q => match ss with
  | [.d (.str z)] => z.length ≤ sizeLine ∧ Q (.own (z.cps.toList.map fun c => PyData.str ⟨#[c]⟩))
  | _ => False
theorem all_strs {H : Hp} : ∀ l : List Nat, DqAll K H (l.map fun c => V.str ⟨#[c]⟩) (l.map fun c => PyData.str ⟨#[c]⟩)
  | [] => .nil
  | c :: l => .cons (.str _) (all_strs l)
theorem lc_listS : LC K hid rListS fListS := by
  intro Hb H xs ss Q k st r q c
  unfold fListS at q
  split at q
  · rename_i z
    obtain ⟨v, rfl, h⟩ := rep1 r
    obtain rfl := str_of h
    refine ⟨z, rfl, q.1, fun p hp => ?_⟩
    obtain ⟨s2, r2, f2⟩ := own_new (K := K) st hp (all_strs (K := K) (H := Hb) z.cps.toList)
    exact c _ _ _ (.own _) s2 r2 f2 q.2
  · exact q.elim
/-! ### dict of a list of one pair -/
end
/-! ### a number in a range -/
section
variable {X : Cx} {K : PySem.W.Frag} {F : Fr}
end
section
variable {X : Cx} {F : Fr}
end
/-! ### try: return [] if g(e) is None else [z]; except x as n: return [n.f] -/
section
variable {X : Cx} {F : Fr} {k j n : Nat} {m : FN} {g C fI : Addr} {fd : FuncData} {ps : List Str} {cs nm x f z : Str} {e : Expr} {t : TA} {fa : DTA} {jc jz : Nat} {p2 p3 p4 p5 p6 p7 p8 p9 q1 q3 q4 q5 q6 q7 pos pos' : Pos}
end
end Pu

end

section
set_option maxHeartbeats 2000000
namespace Law
open PySem L2 PyProof.Rows RZ Pu
/-- any order -/
def mMixed : FN := fun ss R => ∃ xs, ss = [.src, .d (.list xs)] ∧ xs.length < 1000000 ∧ ∀ ys : List PyData, ys.Perm xs → R (.own ys)

/-! ### the mirror -/
structure Row where
  first : Int
  left : List (List Str)
  mid : List (List Str)
  right : List (List Str)
def Row.lots (r : Row) : List (List Str) := r.left ++ r.mid ++ r.right
/-- what is drawn: small, its lots parts of ws -/
structure Row.Ok (ws : List Str) (r : Row) : Prop where
  l1 : 1 ≤ r.left.length
  l2 : r.left.length ≤ 30
  m : r.mid.length ≤ 60
  r1 : 1 ≤ r.right.length
  r2 : r.right.length ≤ 30
  sub : ∀ lot ∈ r.lots, lot.Sublist ws
  far : r.first.natAbs ≤ 10 ^ 40
def baseW : List Str := ["a", "b", "c", "p", "q", "yes", "not", "until", "since", "left", "x1", "ab", "abcdefghijkl"]
def m__law_of : FN := fun ss R => ∃ xs : List PyData, ss = [.src, .d (.list xs)] ∧ xs ≠ [] ∧ xs.length < 1000000 ∧ ∀ x ∈ xs, R (.d x)
abbrev m__law_mixed : FN := mMixed
theorem nodup_len : ∀ (l D : List Str), l.Nodup → (∀ x ∈ l, x ∈ D) → l.length ≤ D.length
  | [], _, _, _ => Nat.zero_le _
  | x :: l, D, n, h => by
    obtain ⟨n1, n2⟩ := List.nodup_cons.mp n
    have hx := h x List.mem_cons_self
    have i := nodup_len l (D.erase x) n2 fun y hy => (List.mem_erase_of_ne (a := y) (b := x) fun (e : y = x) => n1 (e ▸ hy)).mpr (h y (List.mem_cons_of_mem _ hy))
    rw [List.length_erase_of_mem hx] at i
    have := List.length_pos_of_mem hx
    rw [List.length_cons]
    omega
theorem rngD_length (lo : Int) (n : Nat) : (rngD lo n).length = n := by simp [rngD]
/-- found: each of them once -/
structure Fd (ws : List Str) (all found : List Str) : Prop where
  nd : found.Nodup
  me : ∀ k, k ∈ found ↔ k ∈ all
  su : ∀ k ∈ found, k ∈ ws
theorem Fd.len {ws all found : List Str} (h : Fd ws all found) (nd : ws.Nodup) : found.length ≤ ws.length := nodup_len found ws h.nd h.su
theorem Fd.more {ws all found l : List Str} (h : Fd ws all found) (hl : l.Nodup) (hs : ∀ k ∈ l, k ∈ ws) : Fd ws (all ++ l) (found ++ l.filter fun z => !decide (z ∈ found)) := by
  refine ⟨List.nodup_append.mpr ⟨h.nd, hl.sublist List.filter_sublist, fun x hx y hy e => ?_⟩, fun k => ?_, fun k hk => ?_⟩
  · subst e
    simp [hx] at hy
  · by_cases c : k ∈ found
    · have := (h.me k).1 c
      simp [c, this]
    · have : k ∉ all := fun z => c ((h.me k).2 z)
      simp [c, this]
  · rcases List.mem_append.mp hk with hk | hk
    · exact h.su k hk
    · exact hs k (List.mem_filter.mp hk).1
theorem cut_take {xs : List PyData} {n : Nat} : Pu.cutD xs none (some (n : Int)) = xs.take n := by
  unfold Pu.cutD
  rw [HT.sIx_none, HT.sIx_nat, List.drop_zero, Nat.sub_zero]
  rcases Nat.le_total n xs.length with h | h
  · rw [Nat.min_eq_left h]
  · rw [Nat.min_eq_right h, List.take_length, List.take_of_length_le h]
/-! ### what is shown is small -/
def mPick : FN := fun ss R => ∃ n, ss = [.src, .d (.int n)] ∧ n < 536870912 ∧ ∀ k : Int, 0 ≤ k → k < (if n > 1 then n else 1) → R (.d (.int k))
abbrev m__law_pick : FN := mPick
theorem canLayAll_iff {xs : List PyData} : PyData.canLayAll0 xs = true ↔ ∀ x ∈ xs, x.canLay0 = true := by
  induction xs with
  | nil => simp [PyData.canLayAll0]
  | cons x xs ih => simp [PyData.canLayAll0, ih]
end Law

end

section
set_option maxHeartbeats 2000000
namespace Law
open PySem L2 PyProof.Rows RZ Pu
/-! ### sheets -/
inductive Ln where
  | lt (w : Str) | yes | un (i : Nat) | bi (o : Str) (i j : Nat)
def ops : List Str := ["and", "or", "until", "since"]
def Ln.mem : Ln → List Nat
  | .lt _ => []
  | .yes => []
  | .un i => [i]
  | .bi _ i j => [i, j]
def Ln.word : Ln → Str
  | .lt _ => "letter"
  | .yes => "yes"
  | .un _ => "not"
  | .bi o _ _ => o
/-- its word is one -/
def Ln.W : Ln → Prop
  | .bi o _ _ => o ∈ ops
  | _ => True
def Ln.Ok (n : Nat) (l : Ln) : Prop := l.W ∧ (∀ i ∈ l.mem, i < n) ∧ ∀ w, l = .lt w → w ∈ baseW
structure SOk (s : List Ln) : Prop where
  ne : s ≠ []
  ok : ∀ (k : Nat) (l : Ln), s[k]? = some l → l.Ok k
def Ln.shift (n : Nat) : Ln → Ln
  | .lt w => .lt w
  | .yes => .yes
  | .un i => .un (i + n)
  | .bi o i j => .bi o (i + n) (j + n)
def mPut (o : Str) (s t : List Ln) : List Ln := s ++ t.map (·.shift s.length) ++ [.bi o (s.length - 1) (s.length + t.length - 1)]
/-! tables -/
def maxI (xs : List Int) : Int := xs.foldl (fun a b => if b > a then b else a) 0
def nestOf (w : Str) (acc : List Int) (l : Ln) : Int := maxI (0 :: l.mem.map fun k => acc.getD k 0) + (if l.word = w then 1 else 0)
theorem s16 {n : Nat} (h : n ≤ 16777216) : n ≤ sizeLine := by rw [sizeLine_eq]; exact h
theorem lc_mapGo {α : Type} (enc f : α → PyData) {g : DTG} {te : DTE} {env : EV} {Q : List PyData → Prop} : ∀ (l : List α) (acc : List PyData), (∀ x ∈ l, ∀ k : DK, (∀ s, s.fz = .d (f x) → k s) → g (.d (enc x)) env fun env1 => te env1 k) →
    Q (acc ++ l.map f) → dLcGo g dYes te env (l.map enc) acc Q
  | [], acc, _, q => by rw [List.map_nil, List.append_nil] at q; exact q
  | x :: l, acc, h, q => by
    show g (.d (enc x)) env fun env1 => te env1 fun s => ∃ y, s.fz = .d y ∧ dLcGo g dYes te env (l.map enc) (acc ++ [y]) Q
    refine h x List.mem_cons_self _ fun s e => ⟨f x, e, ?_⟩
    refine lc_mapGo enc f l _ (fun y hy => h y (List.mem_cons_of_mem _ hy)) ?_
    rw [List.append_assoc]
    exact q
theorem lc_mapT {α : Type} (enc f : α → PyData) {l : List α} {g : DTG} {te : DTE} {env : EV} {Q : List PyData → Prop} (h : ∀ x ∈ l, ∀ k : DK, (∀ s, s.fz = .d (f x) → k s) → g (.d (enc x)) env fun env1 => te env1 k)
    (q : Q (l.map f)) : dLcGo g dYes te env (l.map enc) [] Q := lc_mapGo enc f l [] h (by rw [List.nil_append]; exact q)
theorem loop_byT {α : Type} (enc : α → PyData) {l : List α} {g : DTG} {body : DTS} {E : DEnds} {env : EV} (I : Nat → EV → Prop) (h0 : I 0 env)
    (step : ∀ j x env, l[j]? = some x → I j env → ∀ nx : EV → Prop, (∀ env', I (j + 1) env' → nx env') → g (.d (enc x)) env fun env1 => body { nx := nx, ct := nx, bk := E.nx, rt := E.rt } env1) (fin : ∀ env, I l.length env → E.nx env) : dLoop g body E (l.map enc) env := by
  refine loop_by I h0 (fun j y env hy hI nx hn => ?_) (by rw [List.length_map]; exact fin)
  rw [List.getElem?_map] at hy
  obtain ⟨x, hx, rfl⟩ := Option.map_eq_some_iff.mp hy
  exact step j x env hx hI nx hn
theorem sl16 {n : Nat} (h : n < 16777216) : n < sizeLine := by rw [sizeLine_eq]; exact h
theorem foldl_max : ∀ (xs : List Int) (a : Int), a ≤ xs.foldl (fun a b => if b > a then b else a) a ∧ (∀ x ∈ xs, x ≤ xs.foldl (fun a b => if b > a then b else a) a) ∧ (xs.foldl (fun a b => if b > a then b else a) a = a ∨ xs.foldl (fun a b => if b > a then b else a) a ∈ xs)
  | [], a => ⟨Int.le_refl _, fun _ h => (by cases h), .inl rfl⟩
  | x :: xs, a => by
    have e : (x :: xs).foldl (fun a b => if b > a then b else a) a = xs.foldl (fun a b => if b > a then b else a) (if x > a then x else a) := rfl
    rw [e]
    by_cases c : x > a
    · rw [if_pos c]
      obtain ⟨h1, h2, h3⟩ := foldl_max xs x
      refine ⟨by omega, fun y hy => ?_, ?_⟩
      · rcases List.mem_cons.mp hy with rfl | hy
        · omega
        · exact h2 y hy
      · rcases h3 with h3 | h3
        · rw [h3]; exact .inr List.mem_cons_self
        · exact .inr (List.mem_cons_of_mem _ h3)
    · rw [if_neg c]
      obtain ⟨h1, h2, h3⟩ := foldl_max xs a
      refine ⟨h1, fun y hy => ?_, ?_⟩
      · rcases List.mem_cons.mp hy with rfl | hy
        · omega
        · exact h2 y hy
      · rcases h3 with h3 | h3
        · exact .inl h3
        · exact .inr (List.mem_cons_of_mem _ h3)
theorem maxI_le {xs : List Int} {b : Int} (hb : 0 ≤ b) (h : ∀ x ∈ xs, x ≤ b) : 0 ≤ maxI xs ∧ maxI xs ≤ b := by
  obtain ⟨h1, h2, h3⟩ := foldl_max xs 0
  unfold maxI
  refine ⟨h1, ?_⟩
  rcases h3 with h3 | h3
  · omega
  · exact h _ h3
/-- the nests so far are small -/
def NAcc (acc : List Int) : Prop := ∀ x ∈ acc, 0 ≤ x ∧ x ≤ acc.length
theorem getD_acc {acc : List Int} (h : NAcc acc) (k : Nat) : 0 ≤ acc.getD k 0 ∧ acc.getD k 0 ≤ acc.length := by
  rw [List.getD_eq_getElem?_getD]
  cases e : acc[k]? with
  | none => exact ⟨Int.le_refl _, by show (0 : Int) ≤ _; omega⟩
  | some x => exact h x (List.mem_of_getElem? e)
theorem nestOf_b {w : Str} {acc : List Int} {l : Ln} (h : NAcc acc) : 0 ≤ nestOf w acc l ∧ nestOf w acc l ≤ acc.length + 1 := by
  have := maxI_le (xs := 0 :: l.mem.map fun k => acc.getD k 0) (b := acc.length) (by omega) fun x hx => by
    rcases List.mem_cons.mp hx with rfl | hx
    · omega
    · obtain ⟨k, _, rfl⟩ := List.mem_map.mp hx
      exact (getD_acc h k).2
  unfold nestOf
  split <;> omega
theorem NAcc.snoc {w : Str} {acc : List Int} {l : Ln} (h : NAcc acc) : NAcc (acc ++ [nestOf w acc l]) := fun x hx => by
  rw [List.length_append, List.length_singleton]
  rcases List.mem_append.mp hx with hx | hx
  · have := h x hx; omega
  · rw [List.mem_singleton.mp hx]
    have := nestOf_b (w := w) (l := l) h; omega
/-- the lists so far are as long as they should be -/
def TAcc (n : Nat) (acc : List (List Bool)) : Prop := ∀ b ∈ acc, b.length = n
theorem TAcc.snoc {n : Nat} {acc : List (List Bool)} {b : List Bool} (h : TAcc n acc) (hb : b.length = n) : TAcc n (acc ++ [b]) := fun x hx => by
  rcases List.mem_append.mp hx with hx | hx
  · exact h x hx
  · rw [List.mem_singleton.mp hx]; exact hb
/-- a line more -/
theorem ok_snoc {s : List Ln} {l : Ln} {j : Nat} (sl : s.length = j) (sok : ∀ (k : Nat) (l : Ln), s[k]? = some l → l.Ok k) (h : l.Ok j) : (s ++ [l]).length = j + 1 ∧ ∀ (k : Nat) (m : Ln), (s ++ [l])[k]? = some m → m.Ok k := by
  refine ⟨by rw [List.length_append, sl]; rfl, fun k m hk => ?_⟩
  rw [List.getElem?_append] at hk
  split at hk
  · exact sok k m hk
  · rename_i c
    have hlt := (List.getElem?_eq_some_iff.mp hk).1
    rw [List.length_singleton] at hlt
    have e : k = j := by omega
    subst e
    rw [show k - s.length = 0 by omega] at hk
    cases hk
    exact h
theorem Ln.Ok.mono {j k : Nat} {l : Ln} (h : l.Ok j) (hjk : j ≤ k) : l.Ok k := ⟨h.1, fun i hi => Nat.lt_of_lt_of_le (h.2.1 i hi) hjk, h.2.2⟩
theorem if_iff {c : DTT} {x y : DTS} {E : DEnds} {env : EV} (p q : Prop) (hc : ∀ Q : Bool → Prop, (p → Q true) → (q → Q false) → c env Q) (hx : p → x E env) (hy : q → y E env) : dIf c x y E env := hc _ hx hy
theorem if_iffS {c : DTT} {x y z : DTS} {E : DEnds} {env : EV} (p q : Prop) (hc : ∀ Q : Bool → Prop, (p → Q true) → (q → Q false) → c env Q) (hx : p → x { E with nx := z E } env) (hy : q → y { E with nx := z E } env) : dSeq (dIf c x y) z E env := hc _ hx hy

end Law

end

section
set_option maxHeartbeats 2000000
namespace Law
open PySem L2 PyProof.Rows RZ Pu
/-! ### the mirror of a row, of tables -/
theorem SOk.W {s : List Ln} (ok : SOk s) : ∀ l ∈ s, l.W := fun l hl => by
  obtain ⟨k, hk⟩ := List.getElem?_of_mem hl
  exact (ok.ok k l hk).1
/-! ### sheets are small -/
theorem okD1_of {d : PyData} (h1 : tame d = true) (h2 : d.depth ≤ 60) (h3 : d.canLay0 = true) : okD1 d := by
  refine ⟨tame_noDict d h1, ?_⟩
  unfold SeqAt.shaped
  exact Bool.and_eq_true_iff.mpr ⟨h3, decide_eq_true (by omega)⟩
theorem ne_same {d : PyData} (h : okD1 d) {Q : DK} (q : Q (.d (.bool false))) : fNe (.d d) (.d d) Q := by
  refine ⟨h, h, ?_⟩
  rw [PySem.SeqAt.eqv_refl _ (Bool.and_eq_true_iff.mp h.2).1]
  exact q
theorem eq_same {d : PyData} (h : okD1 d) {Q : DK} (q : Q (.d (.bool true))) : fEq (.d d) (.d d) Q := by
  refine ⟨h, h, ?_⟩
  rw [PySem.SeqAt.eqv_refl _ (Bool.and_eq_true_iff.mp h.2).1]
  exact q
theorem lc_fmGo {α : Type} (enc : α → PyData) (f : α → Option PyData) {g : DTG} {tt : DTT} {te : DTE} {env : EV} {Q : List PyData → Prop} : ∀ (l : List α) (acc : List PyData), (∀ x ∈ l, ∀ k : List PyData → Prop, k (f x).toList → dTurn g tt te env (enc x) k) →
    Q (acc ++ l.filterMap f) → dLcGo g tt te env (l.map enc) acc Q := fun l acc h q => by
  refine lcGo_by (l.map enc) (fun j a => a = acc ++ (l.take j).filterMap f) 0 acc Q (by rw [List.take_zero, List.filterMap_nil, List.append_nil]) (fun j y a hy e k hk => ?_) (fun a e => ?_)
  · rw [List.getElem?_map] at hy
    obtain ⟨x, hx, rfl⟩ := Option.map_eq_some_iff.mp hy
    refine h x (List.mem_of_getElem? hx) k (hk _ ?_)
    subst e
    rw [Nat.zero_add] at *
    rw [List.take_add_one, hx, List.filterMap_append, List.append_assoc]
    congr 2
  · subst e
    rw [List.length_map, Nat.zero_add, List.take_length]
    exact q
theorem shift_ok {l : Ln} {k n : Nat} (h : l.Ok k) : (l.shift n).Ok (n + k) := by
  cases l with
  | lt w => exact ⟨trivial, fun i hi => (by cases hi), fun z e => h.2.2 z e⟩
  | yes => exact ⟨trivial, fun i hi => (by cases hi), fun z e => by cases e⟩
  | un i =>
    have hi := h.2.1 i (by simp [Ln.mem])
    exact ⟨trivial, fun j hj => by simp [Ln.mem, Ln.shift] at hj; omega, fun z e => by cases e⟩
  | bi o i j =>
    have hi := h.2.1 i (by simp [Ln.mem])
    have hj := h.2.1 j (by simp [Ln.mem])
    exact ⟨h.1, fun k hk => by simp [Ln.mem, Ln.shift] at hk; omega, fun z e => by cases e⟩
theorem SOk.put {o : Str} {s t : List Ln} (ho : o ∈ ops) (ok1 : SOk s) (ok2 : SOk t) : SOk (mPut o s t) ∧ (mPut o s t).length = s.length + t.length + 1 := by
  have hs : 0 < s.length := List.length_pos_iff.mpr ok1.ne
  have ht : 0 < t.length := List.length_pos_iff.mpr ok2.ne
  have len : (mPut o s t).length = s.length + t.length + 1 := by unfold mPut; simp; omega
  refine ⟨⟨fun e => by rw [e] at len; simp at len, fun k l hk => ?_⟩, len⟩
  unfold mPut at hk
  have both : ∀ (k : Nat) (l : Ln), (s ++ t.map (·.shift s.length))[k]? = some l → l.Ok k := fun k l hk => by
    rw [List.getElem?_append] at hk
    split at hk
    · exact ok1.ok k l hk
    · rename_i c
      rw [List.getElem?_map] at hk
      obtain ⟨m, hm, rfl⟩ := Option.map_eq_some_iff.mp hk
      have := shift_ok (n := s.length) (ok2.ok _ m hm)
      rwa [show s.length + (k - s.length) = k by omega] at this
  have l1 : (s ++ t.map (·.shift s.length)).length = s.length + t.length := by simp
  exact (ok_snoc (l := .bi o (s.length - 1) (s.length + t.length - 1)) l1 both ⟨ho, fun i hi => by simp [Ln.mem] at hi; omega, fun w e => by cases e⟩).2 k l hk
end Law

end

section
set_option maxHeartbeats 1000000
/-! Mf01: rows judged: what the defs answer. -/
namespace Law
open PySem L2 PyProof.Rows RZ Pu
/-! ### words -/
def chS (w : Str) : List Str := w.cps.toList.map fun c => (⟨#[c]⟩ : Str)
def smallP (z : Str) : Bool := leS "a" z && leS z "z"
def digitP (z : Str) : Bool := leS "0" z && leS z "9"
def wdP (w : Str) : Bool := decide (1 ≤ w.length) && decide (w.length ≤ 12) && smallP ((chS w).headD "") && (chS w).all fun z => smallP z || digitP z
def ascii (w : Str) : Bool := w.cps.toList.all fun c => decide (c < 128)
/-- a known text -/
def okT (w : Str) : Bool := ascii w && decide (w.length ≤ 40)
theorem small_occ : ∀ c < 128, occS ⟨#[c]⟩ "abcdefghijklmnopqrstuvwxyz" = smallP ⟨#[c]⟩ := by decide +kernel
theorem ascii_iff {w : Str} : ascii w = true ↔ ∀ c ∈ w.cps.toList, c < 128 := ⟨fun h c hc => of_decide_eq_true (List.all_eq_true.mp h c hc), fun h => List.all_eq_true.mpr fun c hc => decide_eq_true (h c hc)⟩
theorem okT_iff {w : Str} : okT w = true ↔ (∀ c ∈ w.cps.toList, c < 128) ∧ w.length ≤ 40 := by unfold okT; rw [Bool.and_eq_true, ascii_iff, decide_eq_true_iff]
/-! ### data -/
def isW : PyData → Bool | .str w => wdP w | _ => false
def isI : PyData → Bool | .int _ => true | _ => false
mutual
/-- all texts are known, nothing is long -/
def allA : PyData → Bool
  | .str w => okT w
  | .tuple xs => decide (xs.length ≤ 1000) && allAs xs
  | .list xs => decide (xs.length ≤ 1000) && allAs xs
  | _ => true
def allAs : List PyData → Bool
  | [] => true
  | x :: xs => allA x && allAs xs
end
theorem allAs_iff {xs : List PyData} : allAs xs = true ↔ ∀ x ∈ xs, allA x = true := by
  induction xs with
  | nil => simp [allAs]
  | cons x xs ih => simp [allAs, ih]
theorem allA_tup {xs : List PyData} : allA (.tuple xs) = true ↔ xs.length ≤ 1000 ∧ ∀ x ∈ xs, allA x = true := by simp [allA, allAs_iff]
theorem allA_lst {xs : List PyData} : allA (.list xs) = true ↔ xs.length ≤ 1000 ∧ ∀ x ∈ xs, allA x = true := by simp [allA, allAs_iff]
/-! ### what the defs answer -/
def m_is_small_letter : FN := fun ss R => ∃ z : Str, ss = [.d (.str z)] ∧ R (.d (.bool (smallP z)))
def m_is_digit : FN := fun ss R => ∃ z : Str, ss = [.d (.str z)] ∧ R (.d (.bool (digitP z)))
def m_is_word : FN := fun ss R => ∃ d, ss = [.d d] ∧ allA d = true ∧ R (.d (.bool (isW d)))
def m__law_is_word : FN := fun ss R => ∃ d, ss = [.d d] ∧ allA d = true ∧ R (.d (.bool (isW d)))
theorem ifb {b : Bool} {A B : Prop} (h1 : b = true → A) (h2 : b = false → B) : if b = true then A else B := by
  cases b with
  | true => rw [if_pos rfl]; exact h1 rfl
  | false => rw [if_neg (by decide)]; exact h2 rfl
theorem chS_ne {w : Str} (h : 1 ≤ w.length) : ∃ c cs, w.cps.toList = c :: cs := by
  cases e : w.cps.toList with
  | nil =>
    have : w.cps.toList.length = 0 := by rw [e]; rfl
    have h2 : 1 ≤ w.cps.size := h
    simp at this
    rw [this] at h2; simp at h2
  | cons c cs => exact ⟨c, cs, rfl⟩
theorem at_0 {α : Type} {c : α} {cs : List α} : atI (c :: cs) 0 = some c := by
  unfold atI ixN
  rw [if_pos (by omega), if_pos (by simp)]
  rfl
theorem chars_len {w : Str} (h : w.length ≤ 100) {f : Nat → PyData} : (w.cps.toList.map f).length ≤ sizeLine := by
  rw [List.length_map, sizeLine_eq]
  have e : w.cps.toList.length = w.length := by simp [Str.length]
  omega
theorem eqvD_nil (xs : List PyData) : PyData.eqv (.list xs) (.list []) = xs.isEmpty := by
  cases xs with
  | nil => rfl
  | cons x l => rfl
theorem tame_ascii : ∀ c < 128, tame (.str ⟨#[c]⟩) = true ∧ PyData.canLay0 (.str ⟨#[c]⟩) = true := by decide +kernel
theorem depthAll_le {n : Nat} : ∀ {xs : List PyData}, (∀ x ∈ xs, x.depth ≤ n) → PyData.depthAll xs ≤ n
  | [], _ => Nat.zero_le _
  | x :: xs, h => by
    have := depthAll_le (xs := xs) fun y hy => h y (List.mem_cons_of_mem _ hy)
    have := h x (List.mem_cons_self ..)
    simp only [PyData.depthAll]
    omega
theorem canAll : ∀ {xs : List PyData}, (∀ x ∈ xs, x.canLay0 = true) → PyData.canLayAll0 xs = true := fun h => canLayAll_iff.mpr h
theorem okD1_lst {xs : List PyData} (h : ∀ x ∈ xs, tame x = true ∧ x.canLay0 = true ∧ x.depth ≤ 10) : okD1 (.list xs) := by
  refine okD1_of (by simp only [tame]; exact tameAll_iff.mpr fun x hx => (h x hx).1) ?_ ?_
  · have := depthAll_le fun x hx => (h x hx).2.2
    simp only [PyData.depth]; omega
  · show PyData.canLayAll0 xs = true
    exact canAll fun x hx => (h x hx).2.1
theorem okD1_chars {zs : List Nat} (h : ∀ c ∈ zs, c < 128) : okD1 (.list (zs.map fun c => PyData.str ⟨#[c]⟩)) := okD1_lst fun x hx => by
  obtain ⟨c, hc, rfl⟩ := List.mem_map.mp hx
  exact ⟨(tame_ascii c (h c hc)).1, (tame_ascii c (h c hc)).2, Nat.zero_le _⟩
theorem okD1_nil : okD1 (.list []) := okD1_lst fun x hx => absurd hx (by simp)
theorem fm_filter {p : Nat → Bool} {f : Nat → PyData} : ∀ l : List Nat, (l.filterMap fun c => if p c = true then none else some (f c)) = (l.filter fun c => !p c).map f
  | [] => rfl
  | c :: l => by
    have ih := fm_filter (p := p) (f := f) l
    cases e : p c <;> simp [List.filterMap_cons, List.filter_cons, e, ih]
theorem filter_empty {p : Nat → Bool} {f : Nat → PyData} (l : List Nat) : ((l.filter fun c => !p c).map f).isEmpty = l.all p := by
  induction l with
  | nil => rfl
  | cons c l ih => cases e : p c <;> simp_all [List.filter_cons]
theorem lc_mapD (f : PyData → PyData) {l : List PyData} {g : DTG} {te : DTE} {env : EV} {Q : List PyData → Prop} (h : ∀ x ∈ l, ∀ k : DK, (∀ s, s.fz = .d (f x) → k s) → g (.d x) env fun env1 => te env1 k) (q : Q (l.map f)) : dLcGo g dYes te env l [] Q := by
  have := lc_mapT (fun x => x) f (Q := Q) h q
  rwa [List.map_id'] at this
/-- those members that are none -/
theorem lc_fmD (p : PyData → Bool) {l : List PyData} {g : DTG} {tt : DTT} {te : DTE} {env : EV} {Q : List PyData → Prop} (h : ∀ x ∈ l, ∀ k : List PyData → Prop, k (if p x = true then [] else [x]) → dTurn g tt te env x k) (q : Q (l.filter fun x => !p x)) : dLcGo g tt te env l [] Q := by
  have := lc_fmGo (fun x => x) (fun x => if p x = true then none else some x) (g := g) (tt := tt) (te := te) (env := env) (Q := Q) l [] (fun x hx k hk => h x hx k (by
    cases e : p x with
    | true => rw [e] at hk; exact hk
    | false => rw [e] at hk; exact hk)) (by
    rw [List.nil_append]
    have e : l.filterMap (fun x => if p x = true then none else some x) = l.filter fun x => !p x := by
      clear h q
      induction l with
      | nil => rfl
      | cons x l ih => cases e : p x <;> simp [List.filterMap_cons, List.filter_cons, e, ih]
    rw [e]; exact q)
  rwa [List.map_id'] at this
theorem at_n {α : Type} {xs : List α} {i : Int} {j : Nat} (e : i = (j : Nat)) (h : j < xs.length) : atI xs i = some xs[j] := by
  subst e
  unfold atI ixN
  rw [if_pos (by omega), if_pos (by omega)]
  show xs[((j : Nat) : Int).toNat]? = _
  rw [Int.toNat_natCast]
  exact List.getElem?_eq_getElem h
theorem okD1_nums {l : List Int} (h : ∀ i ∈ l, i.natAbs < 10 ^ 100) : okD1 (.list (l.map PyData.int)) := okD1_lst fun x hx => by
  obtain ⟨i, hi, rfl⟩ := List.mem_map.mp hx
  exact ⟨by simp only [tame]; exact decide_eq_true (h i hi), rfl, Nat.zero_le _⟩
theorem p100 : 100000 ≤ 10 ^ 100 := by decide +kernel
theorem sq_byL {t u : DTS} {E : DEnds} {env : EV} (P : EV → Prop) (h : ∀ nx : EV → Prop, (∀ e, P e → nx e) → t { E with nx := nx } env) (k : ∀ e, P e → u E e) : dSeq t u E env := h _ k
end Law

end

section
set_option maxHeartbeats 1000000
/-! Mg01: rows that are bent. -/
namespace Law
open PySem L2 PyProof.Rows RZ Pu
theorem sq_set {t : DTE} {i : Nat} {u : DTS} {E : DEnds} {env : EV} (P : Sl → Prop) (h : ∀ Q : DK, (∀ s, P s → Q s) → t env Q) (k : ∀ s, P s → u E (env.set i (some s))) : dSeq (dSet t i) u E env := h _ k
/-- short when shown, not deep -/
def d8 (n m : Nat) (d : PyData) : Bool := allA d && d.showable && decide (d.shown.length ≤ n) && decide (d.depth ≤ m)
def oddL : List PyData := [.none, .bool true, .bool false, .int (-1), .int 7, .int (10 ^ 30), .str "", .str "A", .str "a b", .str "root", .tuple [], .list [], .dict [], .tuple [.none], .list [.tuple []], .tuple [.str "a"], .dict [(.str "a", .int 1)]]
theorem d8_iff {n m : Nat} {d : PyData} : d8 n m d = true ↔ allA d = true ∧ d.showable = true ∧ d.shown.length ≤ n ∧ d.depth ≤ m := by
  unfold d8
  simp [and_assoc]
theorem d8_mono {n m n' m' : Nat} {d : PyData} (h : d8 n m d = true) (hn : n ≤ n') (hm : m ≤ m') : d8 n' m' d = true := by
  obtain ⟨a, b, c, e⟩ := d8_iff.mp h
  exact d8_iff.mpr ⟨a, b, by omega, by omega⟩
theorem showAll {xs : List PyData} (h : ∀ x ∈ xs, x.showable = true) : PyData.showableAll xs = true := by
  induction xs with
  | nil => rfl
  | cons x xs ih => simp only [PyData.showableAll, h x (List.mem_cons_self ..), ih fun y hy => h y (List.mem_cons_of_mem _ hy), Bool.and_self]
theorem piledAll {n : Nat} {xs : List PyData} (h : ∀ x ∈ xs, x.shown.length ≤ n) : piled (PyData.shownAll xs) ≤ xs.length * (n + 2) := by
  induction xs with
  | nil => simp [PyData.shownAll, Pu.piled_nil]
  | cons x xs ih =>
    have := ih fun y hy => h y (List.mem_cons_of_mem _ hy)
    have := h x (List.mem_cons_self ..)
    simp only [PyData.shownAll, piled_cons, List.length_cons]
    rw [Nat.add_mul]
    omega
theorem d8_tup {n m : Nat} {xs : List PyData} (h : ∀ x ∈ xs, d8 n m x = true) (l : xs.length ≤ 1000) : d8 (xs.length * (n + 2) + 3) (m + 1) (.tuple xs) = true := by
  refine d8_iff.mpr ⟨allA_tup.mpr ⟨l, fun x hx => (d8_iff.mp (h x hx)).1⟩, ?_, ?_, ?_⟩
  · simp only [PyData.showable]; exact showAll fun x hx => (d8_iff.mp (h x hx)).2.1
  · simp only [PyData.shown]
    have := tupleText_le (PyData.shownAll xs)
    have := piledAll fun x hx => (d8_iff.mp (h x hx)).2.2.1
    omega
  · have := depthAll_le fun x hx => (d8_iff.mp (h x hx)).2.2.2
    simp only [PyData.depth]; omega
theorem d8_lst {n m : Nat} {xs : List PyData} (h : ∀ x ∈ xs, d8 n m x = true) (l : xs.length ≤ 1000) : d8 (xs.length * (n + 2) + 3) (m + 1) (.list xs) = true := by
  refine d8_iff.mpr ⟨allA_lst.mpr ⟨l, fun x hx => (d8_iff.mp (h x hx)).1⟩, ?_, ?_, ?_⟩
  · simp only [PyData.showable]; exact showAll fun x hx => (d8_iff.mp (h x hx)).2.1
  · simp only [PyData.shown]
    have := listText_le (PyData.shownAll xs)
    have := piledAll fun x hx => (d8_iff.mp (h x hx)).2.2.1
    omega
  · have := depthAll_le fun x hx => (d8_iff.mp (h x hx)).2.2.2
    simp only [PyData.depth]; omega
theorem mul_b {l q b : Nat} (n : Nat) (hl : l ≤ q) (h : q * (n + 2) + 3 ≤ b) : l * (n + 2) + 3 ≤ b := by
  have := Nat.mul_le_mul_right (n + 2) hl
  omega
/-- what stands in the place of a lot -/
def El (d : PyData) : Prop := d8 3000 38 d = true
def partB (n : Nat) (d : PyData) : Bool := match d with
  | .tuple zs => decide (zs.length ≤ 60 + n) && zs.all (d8 3000 38)
  | d => d8 300000 39 d
theorem part_tup {n : Nat} {zs : List PyData} : partB n (.tuple zs) = true ↔ zs.length ≤ 60 + n ∧ ∀ z ∈ zs, El z := by
  show (decide (zs.length ≤ 60 + n) && zs.all (d8 3000 38)) = true ↔ _
  rw [Bool.and_eq_true, decide_eq_true_iff, List.all_eq_true]
  rfl
theorem part_mono {n m : Nat} {d : PyData} (h : partB n d = true) (l : n ≤ m) : partB m d = true := by
  cases d
  case tuple zs =>
    obtain ⟨a, b⟩ := part_tup.mp h
    exact part_tup.mpr ⟨by omega, b⟩
  all_goals exact h
theorem part_d8 {n : Nat} {d : PyData} (h : partB n d = true) (l : n ≤ 30) : d8 300000 39 d = true := by
  cases d
  case tuple zs =>
    obtain ⟨a, b⟩ := part_tup.mp h
    exact d8_mono (d8_tup b (by omega)) (mul_b (q := 90) 3000 (by omega) (by omega)) (by omega)
  all_goals exact h
def VB (n : Nat) (v : PyData) : Prop := (∃ xs, v = .tuple xs ∧ xs.length ≤ 5 ∧ ∀ x ∈ xs, partB n x = true) ∨ (d8 10000000 50 v = true ∧ ∀ xs, v = .tuple xs → xs.length ≠ 4)
theorem VB.mono {n m : Nat} {v : PyData} (h : VB n v) (l : n ≤ m) : VB m v := by
  rcases h with ⟨xs, e, a, b⟩ | h
  · exact .inl ⟨xs, e, a, fun x hx => part_mono (b x hx) l⟩
  · exact .inr h
theorem parts_d8 {n : Nat} {xs : List PyData} (a : xs.length ≤ 5) (b : ∀ x ∈ xs, partB n x = true) (l : n ≤ 30) : d8 2000000 40 (.tuple xs) = true ∧ d8 2000000 40 (.list xs) = true := by
  have b' : ∀ x ∈ xs, d8 300000 39 x = true := fun x hx => part_d8 (b x hx) l
  exact ⟨d8_mono (d8_tup b' (by omega)) (mul_b (q := 5) 300000 a (by omega)) (by omega), d8_mono (d8_lst b' (by omega)) (mul_b (q := 5) 300000 a (by omega)) (by omega)⟩
theorem VB.d {n : Nat} {v : PyData} (h : VB n v) (l : n ≤ 30) : d8 10000000 50 v = true := by
  rcases h with ⟨xs, rfl, a, b⟩ | h
  · exact d8_mono (parts_d8 a b l).1 (by omega) (by omega)
  · exact h.1
theorem cut_from {xs : List PyData} {n : Nat} : Pu.cutD xs (some (n : Int)) none = xs.drop n := by
  unfold Pu.cutD
  rw [HT.sIx_nat, HT.sIx_none]
  refine List.ext_getElem? fun i => ?_
  rw [List.getElem?_take, List.getElem?_drop, List.getElem?_drop]
  split
  · rcases Nat.le_total n xs.length with c | c
    · rw [Nat.min_eq_left c]
    · rw [Nat.min_eq_right c, List.getElem?_eq_none (by omega), List.getElem?_eq_none (by omega)]
  · rw [List.getElem?_eq_none (by omega)]
def m__law_odd : FN := fun ss R => ss = [.src] ∧ ∀ d ∈ oddL, R (.d d)
/-! ### texts put together -/
theorem len_cat (a b : Str) : (a ++ b).length = a.length + b.length := strLen_append a b
theorem neS_same {z : Str} {Q : DK} (h : Q (.d (.bool false))) : fEqS true (.d (.str z)) (.d (.str z)) Q := by
  show Q (.d (.bool (!decide (z = z))))
  rw [decide_eq_true rfl]; exact h
end Law

end

section
set_option maxHeartbeats 1000000
/-! PuX9: a def that may raise, called where it does not. -/
namespace Pu
open PySem L2 PyProof.Rows RZ
theorem FnXE.fn {P : Program} {w : World} {K : PySem.W.Frag} {mg : Str → Option Value} {base : Heap} {cs x f : Str} {k n : Nat} {ps : List Str} {m m' : FN} (F : FnXE P w K mg base cs k ps n m x f) (h : ∀ ss R, m' ss R → m ss fun s => R s ∧ ∀ ds, s ≠ excS ds) :
    Fn P w K mg base cs k ps (spX K n m') := by
  obtain ⟨C, fI, T, g, fd, hm, kp, bi, G⟩ := F.ex
  have tr : ∀ vs H Q E, spX K n m' vs H Q E → spXE K n m C f vs H Q (fun _ _ _ => False) := by
    rintro vs H Q E ⟨hid, Hb, ss, R, st, rep, hl, hm, c⟩
    exact ⟨hid, Hb, ss, _, st, rep, hl, h _ _ hm, fun v Hb' H' s st2 r2 f2 hR => c v Hb' H' s st2 r2 f2 hR.1, fun v Hb' H' d ds _ _ _ hR => hR.2 ds rfl⟩
  refine ⟨g, fd, hm, kp, bi, ⟨fun vs H Q E q => G.many _ _ _ _ (tr vs H Q E q), fun B above s H as us vs Q E hr he hb hv hs => ?_⟩⟩
  refine codeAny_mono (G.goes B above s H as us vs Q _ hr he hb hv (tr vs H Q E hs)) fun r s2 done => ?_
  match r, done with
  | .error ex, done =>
    obtain ⟨_, _, _, _, _, _, _, _, _, _, _, _, z⟩ := done
    exact z.elim
  | .ok (.ret u), done => exact done
  | .ok .next, done => exact done
  | .ok .brk, done => exact done
  | .ok .cont, done => exact done
end Pu

end

section
set_option maxHeartbeats 1000000
/-! PuRc: defs that call themselves: the promise for depth 0 is never asked. -/
namespace Pu
open PySem L2 PyProof.Rows RZ
theorem Fn.none {P : Program} {w : World} {K : PySem.W.Frag} {mg : Str → Option Value} {base : Heap} {x : Str} {st : Stmt} {k n : Nat} {ps : List Str} {m : FN} (A : At K mg x st ps) (h : ∀ ss R, ¬ m ss R) : Fn P w K mg base x k ps (spX K n m) :=
  Fn.mk' A fun f fd F => by
    have no : ∀ vs H Q E, ¬ spX K n m vs H Q E := fun vs H Q E z => by
      obtain ⟨hid, Hb, ss, R, _, _, _, hm, _⟩ := z
      exact h _ _ hm
    exact ⟨fun vs H Q E z => absurd z (no _ _ _ _), fun B above s H as us vs Q E _ _ _ _ z => absurd z (no _ _ _ _)⟩
end Pu

end

section
set_option maxHeartbeats 1000000
/-! PuKw: enumerate(tuple, start=k); reversed(list). -/
namespace RZ
open PySem
open PySem.Sem (wp)
section
variable {prog : Program} {w : World} {A : Around} {E : Value → Shared → Prop} {s : Shared}
theorem enumK_next_item {e it l : Addr} {i : Nat} {c : Int} {xs : Array Value} {x old : Value} {Q : Option Value → Shared → Prop} (he : IsEnum s.heap e it c old) (hit : s.heap.IsTupleIter it l i)
    (hl : s.heap.IsTuple l xs) (hx : xs[i]? = some x) (ne : e ≠ it)
    (hQ : ∀ h', IsEnumOut h' e it (c + 1) x s.heap.objs.size → h'.IsTupleIter it l (i + 1) → h'.get? s.heap.objs.size = some { cls := .type "tuple", data := .seq #[.int c s.toks, x] } →
      (∀ c o, c ≠ e → c ≠ it → s.heap.get? c = some o → h'.get? c = some o) → Q (some (.ref s.heap.objs.size)) { s with heap := h', toks := s.toks + 1 }) :
    wpAny (model prog w) A (pyNext (.ref e)) Q E s := by
  have hT : s.TypeIs (.ref e) "enumerate" := ⟨_, he, rfl⟩
  unfold pyNext
  refine wpAny_bind (wpAny_attempt (wpAny_callSpecial?_slot (name := Str.ofString "__next__") hT F.slot_enumerate_next
    (wpAny_call_entry F.slot_enumerate_next hT F.entry_enumerate_next ?_ (F.args_enumerate_next_1 _))))
  obtain ⟨hp, g, d, tk, os⟩ := s
  show wpAny _ _ (field (.ref e) 2 >>= _) _ _ _
  refine wpAny_bind (wpAny_field he rfl (x := .ref it) rfl ?_)
  refine wpAny_bind (nextOf_tuple_item hit hl hx fun h₁ hit₁ hs₁ => ?_)
  replace hs₁ : Heap.SameBut it hp h₁ := hs₁
  have he₁ : IsEnum h₁ e it c old := (hs₁.2 e ne).trans he
  show wpAny _ _ (field (.ref e) 3 >>= _) _ _ ⟨h₁, g, d, tk, os⟩
  refine wpAny_bind (wpAny_field he₁ rfl (x := rawInt c) rfl ?_)
  show wpAny _ _ (field (.ref e) 4 >>= _) _ _ ⟨h₁, g, d, tk, os⟩
  refine wpAny_bind (wpAny_field he₁ rfl (x := .none) rfl ?_)
  show wpAny _ _ (mkInt c >>= _) _ _ ⟨h₁, g, d, tk, os⟩
  refine wpAny_bind (wpAny_mkInt ?_)
  show wpAny _ _ (setField (.ref e) 3 (rawInt (c + 1)) >>= _) _ _ ⟨h₁, g, d, tk + 1, os⟩
  refine wpAny_bind (wpAny_setField_rec he₁ (by simp) fun h₂ he₂ hs₂ => ?_)
  replace hs₂ : Heap.SameBut e h₁ h₂ := hs₂
  replace he₂ : IsEnum h₂ e it (c + 1) old := he₂
  show wpAny _ _ (setField (.ref e) 4 .none >>= _) _ _ ⟨h₂, g, d, tk + 1, os⟩
  refine wpAny_bind (wpAny_setField_rec he₂ (by simp) fun h₃ he₃ hs₃ => ?_)
  replace hs₃ : Heap.SameBut e h₂ h₃ := hs₃
  replace he₃ : IsEnum h₃ e it (c + 1) old := he₃
  show wpAny _ _ (newTuple [.int c tk, x] >>= _) _ _ ⟨h₃, g, d, tk + 1, os⟩
  refine wpAny_bind (wpAny_newTuple ?_)
  have he₄ : IsEnum (h₃.push { cls := .type "tuple", data := .seq #[.int c tk, x] }) e it (c + 1) old := Heap.get?_push_of_some _ he₃
  generalize hh₄ : h₃.push { cls := .type "tuple", data := .seq #[.int c tk, x] } = h₄ at he₄
  have hsz : h₃.objs.size = hp.objs.size := by rw [hs₃.1, hs₂.1, hs₁.1]
  have hel : e < hp.objs.size := Heap.lt_size he
  have nP : hp.objs.size ≠ e := Nat.ne_of_gt hel
  have ht₄ : h₄.get? hp.objs.size = some { cls := .type "tuple", data := .seq #[.int c tk, x] } := by rw [← hh₄, ← hsz]; exact Heap.get?_push_size _ rfl
  have hk₄ : ∀ b o, b ≠ e → b ≠ it → hp.get? b = some o → h₄.get? b = some o := fun b o hbe hbi hb => by
    rw [← hh₄]; exact Heap.get?_push_of_some _ (hs₃.extBut b o hbe (hs₂.extBut b o hbe (hs₁.extBut b o hbi hb)))
  have hit₄ : h₄.IsTupleIter it l (i + 1) := by
    rw [← hh₄]; obtain ⟨o, ho, r⟩ := (hit₁.extBut hs₂.extBut (Ne.symm ne)).extBut hs₃.extBut (Ne.symm ne); exact ⟨o, Heap.get?_push_of_some _ ho, r⟩
  show wpAny _ _ (Builtin.SmallTypes.ownedTupleIsFree (.ref e) >>= _) _ _ ⟨h₄, g, d, tk + 1, os⟩
  rw [hsz]
  clear hh₄ he₃ hs₃ he₂ hs₂ he₁ hs₁ hit₁ hsz h₃ h₂ h₁
  refine wpAny_bind ?_
  · unfold Builtin.SmallTypes.ownedTupleIsFree
    refine wpAny_bind (wpAny_field he₄ rfl (x := .none) rfl (wpAny_pure ?_))
    simp only [if_true]
    refine wpAny_bind (wpAny_rule ?_)
    refine wpAny_bind (wpAny_field he₄ rfl (x := old) rfl ?_)
    refine wpAny_bind (wpAny_setField_rec he₄ (by simp) fun h₅ he₅ hs₅ => ?_)
    replace hs₅ : Heap.SameBut e h₄ h₅ := hs₅
    replace he₅ : IsEnum h₅ e it (c + 1) x := he₅
    show wpAny _ _ (Builtin.SmallTypes.ownedTupleHandOut (.ref e) (.ref hp.objs.size) >>= _) _ _ ⟨h₅, g, d, tk + 1, os⟩
    refine wpAny_bind ?_
    · unfold Builtin.SmallTypes.ownedTupleHandOut
      refine wpAny_bind (wpAny_setField_rec he₅ (by simp) fun h₆ he₆ hs₆ => ?_)
      replace hs₆ : Heap.SameBut e h₅ h₆ := hs₆
      replace he₆ : IsEnumOut h₆ e it (c + 1) x hp.objs.size := he₆
      refine wpAny_setField_rec he₆ (by simp) fun h₇ he₇ hs₇ => ?_
      replace hs₇ : Heap.SameBut e h₆ h₇ := hs₇
      replace he₇ : IsEnumOut h₇ e it (c + 1) x hp.objs.size := he₇
      refine wpAny_bind (wpAny_letGo (wpAny_pure ⟨_, rfl, wpAny_pure (hQ h₇ he₇ ?_ ?_ ?_)⟩))
      · exact ((hit₄.extBut hs₅.extBut (Ne.symm ne)).extBut hs₆.extBut (Ne.symm ne)).extBut hs₇.extBut (Ne.symm ne)
      · exact hs₇.extBut _ _ nP (hs₆.extBut _ _ nP (hs₅.extBut _ _ nP ht₄))
      · exact fun b o hbe hbi hb => hs₇.extBut b o hbe (hs₆.extBut b o hbe (hs₅.extBut b o hbe (hk₄ b o hbe hbi hb)))
theorem enumK_next_end {e it l : Addr} {i : Nat} {c : Int} {xs : Array Value} {old : Value} {Q : Option Value → Shared → Prop} (hh : A.handled = none) (he : IsEnum s.heap e it c old) (hit : s.heap.IsTupleIter it l i) (hl : s.heap.IsTuple l xs) (hx : xs[i]? = none)
    (hQ : ∀ h', Heap.ExtBut it s.heap h' → Q none { s with heap := h' }) : wpAny (model prog w) A (pyNext (.ref e)) Q E s := by
  have hT : s.TypeIs (.ref e) "enumerate" := ⟨_, he, rfl⟩
  unfold pyNext
  refine wpAny_bind (wpAny_attempt (wpAny_callSpecial?_slot (name := Str.ofString "__next__") hT F.slot_enumerate_next
    (wpAny_call_entry F.slot_enumerate_next hT F.entry_enumerate_next ?_ (F.args_enumerate_next_1 _))))
  show wpAny _ _ (field (.ref e) 2 >>= _) _ _ _
  refine wpAny_bind (wpAny_field he rfl (x := .ref it) rfl ?_)
  refine wpAny_bind (nextOf_tuple_end hh hit hl hx fun h' x he' hx' => ?_)
  obtain ⟨o, ho, hc⟩ := hx'
  refine wpAny_bind (wpAny_isInstance (T := "StopIteration") (b := true) ⟨o, ho, hc⟩ isSubtype_stop ?_)
  exact wpAny_pure (hQ _ he')
end
end RZ
namespace RZ
open PySem PySem.Spec PyProof.Rows L2
def IteK (K : PySem.W.Frag) (a : Addr) (k : Int) : It :=
  ⟨fun i H => ∃ (xs : List V) (x : V), SqT K H a xs ∧ xs[i]? = some x, fun i H v H' => ∃ T x, v = .ref T ∧ H T = none ∧ H' = upd H T (.tup [.int (k + (i : Nat)), x]) ∧ ∀ xs, SqT K H a xs → xs[i]? = some x, fun i H => ∃ xs : List V, SqT K H a xs ∧ xs.length ≤ i⟩
theorem turn_enumK {P : Program} {w : World} {K : PySem.W.Frag} {elts : List Expr} {kk : Nat} {tpos : Pos} (a e it : Addr) (k : Int) :
    Turn P w K (.Tuple elts kk tpos) (IteK K a k) [e, it] e (fun i h => (∃ old, IsEnum h e it (k + ((i : Nat) : Int)) old) ∧ h.IsTupleIter it a i ∧ e ≠ it) where
  mem := by simp
  obj := fun i h st b hb => by
    obtain ⟨⟨old, he⟩, ⟨o, ho, hc, hd⟩, _⟩ := st
    have e' : b = e ∨ b = it := by simpa using hb
    rcases e' with z | z
    · rw [z]; exact ⟨_, he, fun v q => nomatch q⟩
    · rw [z]; exact ⟨o, ho, fun v q => by rw [hd] at q; cases q⟩
  keep := fun i h h' st kk => let ⟨⟨old, he⟩, hi, hne⟩ := st; ⟨⟨old, kk e (by simp) _ he⟩, hi.at fun o q => kk it (by simp) o q, hne⟩
  item := by
    intro X hP hw hK hc i pins s σ H E I hf st hg
    subst hP hw hK
    obtain ⟨⟨old, he⟩, hit, hne⟩ := st
    obtain ⟨xs, x, hq, hx⟩ := hg
    obtain ⟨its, rv, p, hz⟩ := I.tuple hq
    obtain ⟨u, hu, ru⟩ := rv.get hx
    have hel : e < s.heap.objs.size := Heap.lt_size he
    have hil : it < s.heap.objs.size := by obtain ⟨_, q, _⟩ := hit; exact Heap.lt_size q
    refine enumK_next_item he hit p (x := u) (by simpa using hu) hne fun h' ho hit' hT hk => ?_
    refine ⟨_, rfl, wpAny_letOwnedTupleGo_enum (s := { s with heap := h', toks := s.toks + 1 }) ho fun h'' he' sb => ?_⟩
    have hT2 : h''.get? s.heap.objs.size = some { cls := .type "tuple", data := .seq #[.int (k + (i : Nat)) s.toks, u] } := (sb.2 _ (Nat.ne_of_gt hel)).trans hT
    have new : ObjOk X.prog X.w (upd H s.heap.objs.size (.tup [.int (k + (i : Nat)), x])) h'' s.heap.objs.size (.tup [.int (k + (i : Nat)), x]) :=
      ⟨by show 2 ≤ sizeLine; decide, [.int (k + (i : Nat)) s.toks, u], .cons ⟨_, rfl⟩ (.cons ru .nil), ⟨_, hT2, rfl, _, rfl⟩⟩
    have I1 : Inv X pins σ (upd H s.heap.objs.size (.tup [.int (k + (i : Nat)), x])) { s with heap := h'', toks := s.toks + 1 } :=
      I.turnedNew (ch := [e, it]) (fun b ob hb q => (sb.2 b (fun z => hb (by simp [z]))).trans (hk b ob (fun z => hb (by simp [z])) (fun z => hb (by simp [z])) q)) hf (Nat.le_refl _) new
    refine ⟨.ref s.heap.objs.size, _, I1, rfl, ⟨_, x, rfl, I.hok.fresh (Nat.le_refl _), rfl, fun ys hy => by rw [I.tuple_inj hy hq]; exact hx⟩, ⟨⟨u, ?_⟩, hit'.at fun o q => (sb.2 it (Ne.symm hne)).trans q, hne⟩, fun b hb => ?_⟩
    · have e1 : k + ((i + 1 : Nat) : Int) = k + (i : Int) + 1 := by omega
      rw [e1]; exact he'
    · have hb' : b < s.heap.objs.size := by
        have e' : b = e ∨ b = it := by simpa using hb
        rcases e' with z | z
        · rw [z]; exact hel
        · rw [z]; exact hil
      rw [upd_ne (Nat.ne_of_lt hb')]
      exact (hf b hb).1
  done := by
    intro X hP hw hK hc i pins s σ H E I hf st hg
    subst hP hw hK
    obtain ⟨⟨old, he⟩, hit, hne⟩ := st
    obtain ⟨xs, hq, hx⟩ := hg
    obtain ⟨its, rv, p, hz⟩ := I.tuple hq
    obtain ⟨f0, f1, f2, f3, f4, f5⟩ := hf it (by simp)
    have hl := rv.length
    exact enumK_next_end (I.ok.hd hc) he hit p (by simp; omega) fun h' eb => ⟨rfl, I.turned (t' := s.toks) (fun b o hb q => eb b o hb q) f0 f1 f3 f4 f5⟩
  self := fun A i s Q E st h => let ⟨⟨_, he⟩, _⟩ := st; wpAny_pyIter_enum he h
end RZ
namespace Pu
open PySem L2 PySem.Spec PyProof.Rows RZ
section
variable {M : Model} {A : Around} {E : Value → Shared → Prop} {s : Shared} {env : Env}
theorem callWith_typeK {pos : Pos} {T : String} {e : Expr} {rest : List Expr} {kws : List Keyword} {Q : Value → Shared → Prop}
    (go : wpAny M A (spliced (backTo pos (starEach (e :: rest) env))) (fun us s1 => wpAny M A (evalAll ((backToKw pos (keywordEach kws env)).map (·.2))) (fun ws s2 => wpAny M A (call (.type T) us (((backToKw pos (keywordEach kws env)).filterMap (·.1)).zip ws)) Q E s2) E s1) E s)
    (hf : backTo pos (starEach (e :: rest) env) = (false, eval e env) :: backTo pos (starEach rest env) := by rfl) (hp : (backTo pos (starEach (e :: rest) env)).any (·.1) = false := by rfl) (ha : (backToKw pos (keywordEach kws env)).all (·.1.isSome) = true := by rfl) (hn : (backToKw pos (keywordEach kws env)).any (·.1.isNone) = false := by rfl) :
    wpAny M A (callWith pos (.type T) [] (backTo pos (starEach (e :: rest) env)) (backToKw pos (keywordEach kws env))) Q E s := by
  unfold callWith
  rw [hf] at go hp ⊢
  refine wpAny_bind (wpAny_holding (wpAny_mono (evalArgs_kwB (Q := fun a s1 => wpAny M A (call (.type T) ([] ++ a.pos) a.kw) Q E s1) ha go) (fun a s1 g => wpAny_bind (wpAny_standAt ?_)) fun _ _ y => y))
  simp only [hp, hn, Bool.or_false]
  refine wpAny_bind (wpAny_pure ?_)
  exact wpAny_bind (wpAny_mono g (fun v s2 y => wpAny_bind (wpAny_holding (wpAny_point (wpAny_pure y)))) fun _ _ y => y)
end
def iEnumK (K : PySem.W.Frag) (k : Int) (ta tk : TA) : TI := fun σ H R => ta σ H fun vs H1 => tk σ H1 fun zs H2 => ∃ a xs, vs = [.ref a] ∧ zs = [.int k] ∧ SqT K H2 a xs ∧ R (IteK K a k) H2
section
variable {X : Cx} {F : Fr} {e : Expr} {ta : TA} {p pos tpos kp kpos : Pos} {elts : List Expr} {kk jk : Nat} {k : Int}
theorem pi_enumK (hg : Gl X "enumerate") (hm : X.mg "enumerate" = none) (ha : PA X [e] ta) (fit : -(2 ^ 63) ≤ k ∧ k < 2 ^ 63) (hf : backTo pos (starEach (e :: []) X.env) = (false, eval e X.env) :: backTo pos (starEach [] X.env) := by rfl) :
    PI X (.Tuple elts kk tpos) (.Call (.Name "enumerate" p) [e] [⟨some "start", .Constant (.int k) jk kp, kpos⟩] pos) (iEnumK X.K k ta (tCons (tC (.int k)) tNil)) := by
  have hk : PK X [⟨some "start", .Constant (.int k) jk kp, kpos⟩] (tCons (tC (.int k)) tNil) := pk_cons pe_int pk_nil
  refine ⟨fun pins s σ H R I g => ?_⟩
  refine wpAny_Call_Name_kw (ld_blt I hg hm boot_enumerate ?_)
  refine callWith_typeK (thn (ha.run pos pins s σ H _ I g) fun us s1 ⟨vs, H1, I1, r1, q1⟩ => thn (hk.run pos pins s1 σ H1 _ I1 q1) fun ws s2 ⟨zs, H2, I2, r2, q2⟩ => ?_) hf (by rw [hf]; rfl)
  obtain ⟨a, xs, rfl, rfl, hq, q⟩ := q2
  obtain ⟨u, rfl, ru⟩ := vals1 r1
  obtain ⟨y, rfl, t, rfl⟩ := vals1 r2
  cases ru
  obtain ⟨its, rv, p', hz⟩ := I2.tuple hq
  refine enum_begins_start (begins_tuple a its.toArray) (show s2.heap.IsTuple a its.toArray from p') fit.1 fit.2 fun h' he hit _ kk2 => wpAny_pyIter_enum he ?_
  have I3 : Inv X pins σ H2 { s2 with heap := h' } := I2.kept (t' := s2.toks) kk2
  refine ⟨s2.heap.objs.size + 1, [s2.heap.objs.size + 1, s2.heap.objs.size], _, _, H2, rfl, I3, turn_enumK a (s2.heap.objs.size + 1) s2.heap.objs.size k, ⟨⟨.none, by rw [show k + ((0 : Nat) : Int) = k by omega]; exact he⟩, ⟨_, hit, rfl, rfl⟩, Nat.succ_ne_self _⟩, fun b hb => ?_, q⟩
  have hle : s2.heap.objs.size ≤ b := by
    rcases (by simpa using hb : b = s2.heap.objs.size + 1 ∨ b = s2.heap.objs.size) with z | z
    · rw [z]; exact Nat.le_add_right _ _
    · rw [z]; exact Nat.le_refl _
  exact I2.fpOk hle (I2.hok.fresh hle)
end
/-- numbered from k -/
def numD (k : Int) : List PyData → List PyData
  | [] => []
  | x :: xs => .tuple [.int k, x] :: numD (k + 1) xs
theorem numD_length : ∀ (k : Int) (xs : List PyData), (numD k xs).length = xs.length
  | _, [] => rfl
  | k, x :: xs => by simp [numD, numD_length (k + 1) xs]
theorem numD_get : ∀ (k : Int) (i : Nat) (xs : List PyData) (d : PyData), xs[i]? = some d → (numD k xs)[i]? = some (.tuple [.int (k + (i : Nat)), d])
  | _, _, [], _, e => by simp at e
  | k, 0, x :: xs, d, e => by
    obtain rfl : x = d := by simpa using e
    simp [numD]
  | k, i + 1, x :: xs, d, e => by
    have := numD_get (k + 1) i xs d (by simpa using e)
    rw [show k + 1 + ((i : Nat) : Int) = k + ((i + 1 : Nat) : Int) by omega] at this
    simpa [numD] using this
def dEnumK (k : Int) (f : DTA) : DTI := fun env Q => f env fun ss => ∃ xs, ss = [.d (.tuple xs)] ∧ Q (numD k xs)
section
variable {K : PySem.W.Frag} {F : Fr} {tr : TA} {fr : DTA} {k : Int}
theorem si_enumK (h : SdA K F tr fr) : SdI K F (iEnumK K k tr (tCons (tC (.int k)) tNil)) (dEnumK k fr) := by
  intro Hb H σ env Q R rp q c
  refine h Hb H σ env _ _ rp q fun vs Hb1 H1 ss st1 rs1 q1 => ?_
  obtain ⟨xs, e, q1⟩ := q1
  subst e
  obtain ⟨v, rfl, h1⟩ := rep1 rs1
  cases (show Dq K Hb1 v (.tuple xs) from h1) with
  | @tup a vs _ a1 a2 =>
    refine ⟨_, _, rfl, rfl, Same.seqT st1.st.ex a1, c _ Hb1 H1 _ st1 ⟨fun H => SqT K H a vs, fun i H v H' => ∃ T x, v = .ref T ∧ H T = none ∧ H' = upd H T (.tup [.int (k + (i : Nat)), x]) ∧ vs[i]? = some x, ?_, fun H' s => Same.seqT s a1, fun i Hb' H x H' hi st ex y => ?_⟩ q1⟩
    · rw [numD_length, ← DqAll.length a2]
      refine ⟨fun i _ hi q => ⟨vs, vs[i], q, by simp [hi]⟩, fun _ q => ⟨vs, q, Nat.le_refl _⟩, fun i H v H' _ q y => ?_⟩
      obtain ⟨T, x, h1, h2, h3, h4⟩ := y
      exact ⟨T, x, h1, h2, h3, h4 vs q⟩
    · obtain ⟨T, p, e1, e2, e3, e5⟩ := y
      obtain ⟨d, d1, d2⟩ := DqAll.get a2 e5
      subst e1 e3
      obtain ⟨s2, r2⟩ := pair_new (K := K) (Hb := Hb') st e2 (Dq.int (k + (i : Nat))) (Dq.mono ex d2)
      exact ⟨_, _, numD_get k i xs d d1, s2, r2⟩
end
section
variable {X : Cx} {F : Fr} {K : PySem.W.Frag} {tr : TA} {fr : DTA} {p pos tpos kp kpos : Pos} {a : Expr} {elts : List Expr} {kk jk : Nat} {k : Int}
theorem ki_enumK (q : X.K = K) (hm : X.mg "enumerate" = none) (ha : DA X F [a] tr fr) (fit : -(2 ^ 63) ≤ k ∧ k < 2 ^ 63 := by decide) (hg : Gl X "enumerate" := by rfl) (hf : backTo pos (starEach (a :: []) X.env) = (false, eval a X.env) :: backTo pos (starEach [] X.env) := by rfl) :
    DI X F (.Tuple elts kk tpos) (.Call (.Name "enumerate" p) [a] [⟨some "start", .Constant (.int k) jk kp, kpos⟩] pos) (iEnumK K k tr (tCons (tC (.int k)) tNil)) (dEnumK k fr) := q ▸ ⟨pi_enumK hg hm ha.pe fit hf, si_enumK ha.sd⟩
end
/-! ### reversed(list) -/
def dRev (f : DTA) : DTI := fun env Q => f env fun ss => ∃ xs, ss = [.d (.list xs)] ∧ Q xs.reverse
theorem si_rev {K : PySem.W.Frag} {F : Fr} {tr : TA} {fr : DTA} (h : SdA K F tr fr) : SdI K F (iRev K tr) (dRev fr) := by
  intro Hb H σ env Q R rp q c
  refine h Hb H σ env _ _ rp q fun vs Hb1 H1 ss st1 rs1 q1 => ?_
  obtain ⟨xs, e, q1⟩ := q1
  subst e
  obtain ⟨v, rfl, h1⟩ := rep1 rs1
  cases (show Dq K Hb1 v (.list xs) from h1) with
  | @lst a vs _ a1 a2 =>
    have ln := DqAll.length a2
    refine ⟨a, vs, rfl, SqL.of (st1.st.ex _ _ a1), c _ Hb1 H1 _ st1 ⟨fun H => SqL K H a vs, fun i H v H' => H' = H ∧ vs[vs.length - 1 - i]? = some v, ?_, fun H' s => SqL.of (s _ _ a1), fun i Hb' H x H' hi st ex y => ?_⟩ q1⟩
    · rw [List.length_reverse, ← ln]
      refine ⟨fun i _ hi q => ⟨hi, vs, vs[vs.length - 1 - i]'(by omega), q, List.getElem?_eq_getElem (by omega)⟩, fun _ q => Nat.le_refl _, fun i H v H' _ q y => ⟨y.1, y.2 vs q⟩⟩
    · obtain ⟨e1, e2⟩ := y
      subst e1
      rw [List.length_reverse, ← ln] at hi
      obtain ⟨d, d1, d2⟩ := DqAll.get a2 e2
      refine ⟨Hb', d, ?_, Step.refl st, Dq.mono ex d2⟩
      rw [List.getElem?_reverse (by omega), ← ln]
      exact d1
theorem ki_rev {X : Cx} {F : Fr} {K : PySem.W.Frag} {tg : Expr} {tr : TA} {fr : DTA} {p pos : Pos} (q : X.K = K) {a : Expr} (hm : X.mg "reversed" = none) (ha : DA X F [a] tr fr) (hg : Gl X "reversed" := by rfl) (hs : starEach [a] X.env = [(false, eval a X.env)] := by rfl) :
    DI X F tg (.Call (.Name "reversed" p) [a] [] pos) (iRev K tr) (dRev fr) := q ▸ ⟨pi_reversed hg hm ha.pe hs, si_rev ha.sd⟩
end Pu

end

section
set_option maxHeartbeats 1000000
/-! PuTe: written dicts whose values are tuples of texts, asked for any text; try: return [z, g(e)]; except S as n: return [z2, n.f] if isinstance(n, x) else [z3]. -/
namespace Pu
open PySem L2 PySem.Spec PyProof.Rows RZ
/-! ### written dicts with tuples -/
abbrev EntL := List (Int × Tok × Addr)
abbrev TabL := List (Str × List Str)
def entsOf : EntL → TabL → List DictEntry
  | (h, t, g) :: E, (w, _) :: T => ⟨h, .str w t, .ref g⟩ :: entsOf E T
  | _, _ => []
def EntOk (K : PySem.W.Frag) : EntL → TabL → Prop
  | [], [] => True
  | (_, _, g) :: E, (_, ws) :: T => KTup K g ws ∧ EntOk K E T
  | _, _ => False
def tbL (T : TabL) (z : Str) : Option PyData := (T.find? fun p => p.1 == z).map fun p => .tuple (p.2.map .str)
structure KTabA (K : PySem.W.Frag) (w : World) (a : Addr) (T : TabL) : Prop where
  ex : ∃ es n, KDict K w a es n
  at_ : ∀ z, match tbL T z with
    | some d => ∃ u v, PySem.W.nsIn K a z = some (some u) ∧ RelV v u ∧ ∀ Hb : Hp, Dq K Hb v d
    | none => PySem.W.nsIn K a z = some none
theorem ents_find (K : PySem.W.Frag) (z : Str) : ∀ (E : EntL) (T : TabL), EntOk K E T →
    match tbL T z with
    | some d => ∃ e a, (entsOf E T).find? (fun x => x.key.isStr z) = some e ∧ e.val = .ref a ∧ ∀ Hb : Hp, Dq K Hb (.ref a) d
    | none => (entsOf E T).find? (fun x => x.key.isStr z) = none
  | [], [], _ => rfl
  | (h, t, g) :: E, (w, ws) :: T, ok => by
    have ih := ents_find K z E T ok.2
    have e1 : tbL ((w, ws) :: T) z = if (w == z) = true then some (.tuple (ws.map .str)) else tbL T z := by
      unfold tbL; rw [List.find?_cons]
      cases c : (w == z) <;> rfl
    have e2 : (entsOf ((h, t, g) :: E) ((w, ws) :: T)).find? (fun x => x.key.isStr z) = if (w == z) = true then some ⟨h, .str w t, .ref g⟩ else (entsOf E T).find? (fun x => x.key.isStr z) := by
      rw [entsOf, List.find?_cons]
      have hk : Value.isStr (.str w t) z = (w == z) := rfl
      show (match Value.isStr (.str w t) z with | true => _ | false => _) = _
      rw [hk]
      cases c : (w == z) <;> rfl
    rw [e1, e2]
    by_cases c : (w == z) = true
    · rw [if_pos c, if_pos c]
      exact ⟨_, g, rfl, rfl, fun Hb => .tup (.inr ok.1) (strs_all ws)⟩
    · rw [if_neg c, if_neg c]
      exact ih
theorem ents_ref : ∀ (E : EntL) (T : TabL), (entsOf E T).any (fun x => x.refKey) = false
  | [], _ => by unfold entsOf; rfl
  | _ :: _, [] => by unfold entsOf; rfl
  | (h, t, g) :: E, (w, ws) :: T => by unfold entsOf; rw [List.any_cons, ents_ref E T]; rfl
theorem ktabA {K : PySem.W.Frag} {w : World} {a : Addr} {es : Array DictEntry} {n : Nat} {E : EntL} {T : TabL} (D : KDict K w a es n) (he : es.toList = entsOf E T) (ok : EntOk K E T) : KTabA K w a T := by
  refine ⟨⟨es, n, D⟩, fun z => ?_⟩
  have h := ents_find K z E T ok
  have l := D.at_
  have e : PySem.W.nsIn K a z = match (entsOf E T).find? (fun x => x.key.isStr z) with
      | some e => some (some e.val)
      | none => if (entsOf E T).any (fun x => x.refKey) then none else some none := by
    rw [← he]
    unfold PySem.W.nsIn
    rw [l]
    rfl
  cases g : tbL T z with
  | none =>
    rw [g] at h
    show PySem.W.nsIn K a z = some none
    rw [e, h, ents_ref]; rfl
  | some d =>
    rw [g] at h
    obtain ⟨x, b, e1, e2, e3⟩ := h
    refine ⟨.ref b, .ref b, ?_, rfl, e3⟩
    rw [e, e1, ← e2]
def fInA (a : Addr) (T : TabL) (neg : Bool) : F2 := fun s u Q => ∃ z, s = .d (.str z) ∧ u = .v (.ref a) ∧ Q (.d (.bool (neg != (tbL T z).isSome)))
def fIxA (a : Addr) (T : TabL) : F2 := fun s u Q => ∃ z d, s = .v (.ref a) ∧ u = .d (.str z) ∧ tbL T z = some d ∧ Q (.d d)
section
variable {K : PySem.W.Frag} {hid : Hid} {a : Addr} {w : World} {T : TabL}
theorem lo_notInA (t : KTabA K w a T) : LO K hid (fun x y H Q => ∃ (z : Str) (r : Option Value), x = .str z ∧ y = .ref a ∧ PySem.W.nsIn K a z = some r ∧ Q (.bl (!r.isSome)) H) (fInA a T true) := by
  intro Hb H x y s u Q k st rx ry q c
  obtain ⟨z, rfl, rfl, q⟩ := q
  have T2 := t.at_ z
  cases g : tbL T z with
  | none =>
    rw [g] at T2 q
    exact ⟨z, none, str_of rx, ry, T2, c _ Hb H (.d (.bool _)) (Step.refl st) (.bl _) trivial q⟩
  | some d =>
    rw [g] at T2 q
    obtain ⟨u2, v, e1, e2, e3⟩ := T2
    exact ⟨z, some u2, str_of rx, ry, e1, c _ Hb H (.d (.bool _)) (Step.refl st) (.bl _) trivial q⟩
theorem lo_ixA (t : KTabA K w a T) : LO K hid (rIxD K w) (fIxA a T) := by
  intro Hb H x y s u Q k st rx ry q c
  obtain ⟨z, d, rfl, rfl, g, q⟩ := q
  have T2 := t.at_ z
  rw [g] at T2
  obtain ⟨u2, v, e1, e2, e3⟩ := T2
  obtain ⟨es, n, D⟩ := t.ex
  have ex : x = .ref a := rx
  subst ex
  exact ⟨a, z, v, rfl, str_of ry, ⟨es, n, u2, D.at_, D.lit, e1, e2⟩, c v Hb H (.d d) (Step.refl st) (e3 Hb) trivial q⟩
end
theorem k_notInA {X : Cx} {K : PySem.W.Frag} {w : World} {a : Addr} {T : TabL} (ek : X.K = K) (ew : X.w = w) (t : KTabA K w a T) : OpR X (compareOp .NotIn) (fun x y H Q => ∃ (z : Str) (r : Option Value), x = .str z ∧ y = .ref a ∧ PySem.W.nsIn K a z = some r ∧ Q (.bl (!r.isSome)) H) := by
  subst ek ew
  obtain ⟨es, n, D⟩ := t.ex
  exact op_notIn_kd D
/-! ### isinstance of what is caught: of its own class -/
def rIsX (a C : Addr) : List V → Hp → VK → Prop := fun xs H Q => xs = [.ref a, .ref C] ∧ Q (.bl true) H
theorem call_isX {X : Cx} {a C : Addr} {d : Option Addr} {oe : Obj} {pn : List (Addr × Obj)} (hz : Zc (.ref C) d oe) : CallR (X.suite a ((a, oe) :: pn)) (.builtin "isinstance") (rIsX a C) := by
  intro pins s σ H xs us Q I rv q
  obtain ⟨rfl, q⟩ := q
  obtain ⟨u1, us1, rfl, e1, rv⟩ : ∃ u1 us1, us = u1 :: us1 ∧ RelV (.ref a) u1 ∧ Vals [.ref C] us1 := by cases rv with | cons h t => exact ⟨_, _, rfl, h, t⟩
  obtain ⟨u2, rfl, e2⟩ := vals1 rv
  have e1 : u1 = .ref a := e1
  have e2 : u2 = .ref C := e2
  subst e1 e2
  have hp := (I.pin (a, oe) (by
    show (a, oe) ∈ ((a, oe) :: pn) ++ pins
    simp)).1
  refine PyProof.Rows.call_isinstance_of ?_ (by simp)
  have ty : ∀ {A : Around} {E Q}, Q (.ref C) s → wpAny (model (X.suite a ((a, oe) :: pn)).prog (X.suite a ((a, oe) :: pn)).w) A (typeOf (.ref a)) Q E s := fun g => by
    unfold typeOf
    refine wpAny_bind (wpAny_loadPart hp (wpAny_pure ?_))
    rw [hz.1]; exact g
  show wpAny _ _ (typeOf (.ref a) >>= _) _ _ s
  refine wpAny_bind (ty ?_)
  show wpAny _ _ (if ((Value.ref C) == (.ref C)) = true then _ else _) _ _ s
  rw [if_pos (by simp)]
  refine wpAny_bind (wpAny_rule ?_)
  exact wpAny_pure ⟨.bl true, H, I, rfl, q⟩
/-! ### the try -/
def tBoE (sp : Sp) (z : Str) (ta : TA) (W : WX) : TS := tRet (tLst (tCons (tC (.str z)) (tCons (tCallS sp (WE W) ta) tNil)))
def tSuE (C : Addr) (f : Str) (j : Nat) (z2 z3 : Str) : Addr → Value → Option Addr → TS := fun a cls d => tRet (tIf (fun σ H Q => cls = .ref C ∧ tB (tCB (rIsX a C) (tCons (tVar j) (tCons (tC (.ref C)) tNil))) σ H Q) (tLst (tCons (tC (.str z2)) (tCons (tXf a cls d C f (tVar j)) tNil))) (tLst (tCons (tC (.str z3)) tNil)))
def tTryE (K : PySem.W.Frag) (S C : Addr) (f : Str) (sp : Sp) (j : Nat) (z z2 z3 : Str) (ta : TA) : TS := fun D σ H => tBoE sp z ta (wAs K (.ref S) j (tSuE C f j z2 z3) (fun _ _ _ _ => False) D) D σ H
def dTryE (n : Nat) (m : FN) (j : Nat) (z z2 : Str) (fa : DTA) : DTS := fun E env => j < env.length ∧ fa env fun ss => ss.length = n ∧ m ss fun s => (s = .d .none ∧ E.rt (.own [.str z, .none])) ∨ ∃ ds, s = excS ds ∧ E.rt (.own [.str z2, .tuple ds])
section
variable {X : Cx} {F : Fr} {k j n : Nat} {m : FN} {g S C fI : Addr} {fd : FuncData} {ps : List Str} {cs nm x y f z z2 z3 : Str} {e : Expr} {t : TA} {fa : DTA} {jz jz2 jz3 : Nat} {p2 p3 p4 p5 q1 q2 q3 q4 q5 q6 q7 q8 q9 q10 q11 q12 q13 q14 pos pos' : Pos}
theorem sd_tryE {K : PySem.W.Frag} (ha : SdA K F t fa) (te : PySem.W.exmOne K (.ref C) (.ref S) = some true) : SdS K F (tTryE K S C f (spXE K n m C f) j z z2 z3 t) (dTryE n m j z z2 fa) := by
  intro Hb H σ env D E r q l
  obtain ⟨jl, q⟩ := q
  refine ha Hb H σ env _ _ r q fun vs Hb1 H1 ss st1 rs1 q1 => ?_
  obtain ⟨hl, hm⟩ := q1
  refine ⟨F.hid, Hb1, ss, _, st1.st, rs1, hl, hm, fun v Hb' H' s st2 r2 f2 hR => ?_, fun v Hb' H' d ds st2 hd dq hR => ?_⟩
  · rcases hR with ⟨es, hn⟩ | ⟨ds, es, _⟩
    · subst es
      cases (show Dq K Hb' v .none from r2) with
      | non =>
        refine ⟨by show 2 ≤ sizeLine; decide, fun p hp => ?_⟩
        obtain ⟨s3, r3, f3⟩ := own_new (K := K) (vs := [.str z, .non]) (xs := [.str z, .none]) st2.st hp (.cons (.str z) (.cons .non .nil))
        have st := (st1.trans st2).trans s3
        exact l.rt _ _ _ _ st.ex (r.step.trans st) r3 (FrSl.back (r.step.trans (st1.trans st2)) f3) hn
    · subst es
      exact (exc_no r2).elim
  · rcases hR with ⟨es, _⟩ | ⟨ds', es, hn⟩
    · cases es
    · obtain rfl : ds = ds' := by
        have e : PyData.dict [(.none, .tuple ds)] = PyData.dict [(.none, .tuple ds')] := Sl.d.inj es
        injection e with e
        injection e with e _
        injection e with _ e
        injection e
      refine ⟨true, te, fun _ a ha => ?_, fun z => by cases z⟩
      have hjl : j < σ.length := by rw [← r.len]; exact jl
      refine ⟨rfl, .ref a, List.getElem?_set_self hjl, rfl, true, rfl, ?_⟩
      refine ⟨.ref a, List.getElem?_set_self hjl, rfl, rfl, d, [(f, v)], v, rfl, hd, by simp [List.lookup], ?_⟩
      refine ⟨by show 2 ≤ sizeLine; decide, fun p hp => ?_⟩
      obtain ⟨s3, r3, f3⟩ := own_new (K := K) (vs := [.str z2, v]) (xs := [.str z2, .tuple ds]) st2.st hp (.cons (.str z2) (.cons dq .nil))
      have st := (st1.trans st2).trans s3
      exact l.rt _ _ _ _ st.ex (r.step.trans st) r3 (FrSl.back (r.step.trans (st1.trans st2)) f3) hn
theorem ps_tryE {sp : Sp} (T : ExC X.K X.mg x C fI f) (ys : X.mg y = some (.ref S)) (G : FnG X.prog X.w X.K X.mg X.base (L2.CX X.prog X.w) k g fd ps sp) (room : RoomG k X.A) (at_ : X.mg cs = some (.ref g)) (kp : PySem.W.keepIn X.K (.ref g) = true) (bi : Binds X.K fd ps [])
    (ha : ∀ (pn : List (Addr × Obj)) (xe : Value → Shared → Prop), PA (X.tr pn xe) [e] t) (hN : X.N.Nodup) (hj : X.N[j]? = some nm) (hn : X.env.scope.names.lookup nm = some .local) (bI : X.mg "isinstance" = none)
    (gl : Gl X cs := by rfl) (glx : Gl X x := by rfl) (gly : Gl X y := by rfl) (gI : Gl X "isinstance" := by rfl) (hs : X.stack = X.env :: X.outer := by rfl) (hf : X.env.frame = some X.env.locals := by rfl) (hln : X.env.kindOf nm = some .local := by rfl)
    (hdb : (cs == ("__debug__" : Str)) = false := by decide) (hdx : (x == ("__debug__" : Str)) = false := by decide) (hdy : (y == ("__debug__" : Str)) = false := by decide) (hdn : (nm == ("__debug__" : Str)) = false := by decide) (hcn : (nm == ("__classdict__" : Str)) = false := by decide)
    (hse : starEach (e :: []) X.env = (false, eval e X.env) :: starEach [] X.env := by rfl)
    (hat : attributeBase (.Name nm q3) f X.env (eval (.Name nm q3) X.env) = eval (.Name nm q3) X.env := by rfl) :
    PS X (.Try [.Return (some (.List [.Constant (.str z) jz p2, .Call (.Name cs p3) [e] [] p4] p5)) q1]
      [.ExceptHandler (some (.Name y q7)) (some nm) [.Return (some (.IfExp (.Call (.Name "isinstance" q8) [.Name nm q9, .Name x q10] [] q11) (.List [.Constant (.str z2) jz2 q2, .Attribute (.Name nm q3) f q4] q5) (.List [.Constant (.str z3) jz3 q12] q13) q14)) q6] pos'] [] [] pos) (tTryE X.K S C f sp j z z2 z3 t) := by
  refine ps_try_as (X := X) (c := .ref S) (i := j) (tb := tBoE sp z t) (ts := tSuE C f j z2 z3) (Wout := fun _ _ _ _ => False) hs hf hN hj hln ⟨gly, hdy, .inl ys⟩ takesNo (fun W pn xe tk _ => ?_) (fun a oe cls d pn hz hd => ?_)
  · exact pss_one (ps_ret (X := X.tr pn xe) (pe_lst (pa_cons pe_str (pa_cons (pe_callGS (X := X.tr pn xe) G room gl at_ kp bi tk (ha pn xe) hdb hse rfl) pa_nil))))
  · refine pss_one (ps_ret (X := X.suite a ((a, oe) :: pn)) (pe_ifExp ?_ (pe_lst (pa_cons pe_str (pa_cons (pe_xf T.xf T.no hz hd (pe_var hj (.inl hn) hdn hcn) hat) pa_nil))) (pe_lst (pa_cons pe_str pa_nil))))
    constructor
    intro pins s σ H Q I q
    obtain ⟨rfl, q⟩ := q
    exact (pt_val (pe_callB (X := X.suite a ((a, oe) :: pn)) (call_isX hz) gI bI (by decide +kernel) (pa_cons (pe_var hj (.inl hn) hdn hcn) (pa_cons (pe_glob (v := .ref C) glx T.gm rfl hdx) pa_nil))) (by intro _; rfl)).run pins s σ H Q I q
theorem ds_tryE (T : ExC X.K X.mg x C fI f) (yS : X.mg y = some (.ref S) ∧ PySem.W.exmOne X.K (.ref C) (.ref S) = some true) (G : FnG X.prog X.w X.K X.mg X.base (L2.CX X.prog X.w) k g fd ps (spXE X.K n m C f)) (room : RoomG k X.A) (at_ : X.mg cs = some (.ref g)) (kp : PySem.W.keepIn X.K (.ref g) = true) (bi : Binds X.K fd ps [])
    (ha : ∀ (pn : List (Addr × Obj)) (xe : Value → Shared → Prop), DA (X.tr pn xe) F [e] t fa) (hN : X.N.Nodup) (bI : X.mg "isinstance" = none) (hj : X.N[j]? = some nm := by rfl) (hn : X.env.scope.names.lookup nm = some .local := by rfl)
    (gl : Gl X cs := by rfl) (glx : Gl X x := by rfl) (gly : Gl X y := by rfl) (gI : Gl X "isinstance" := by rfl) (hs : X.stack = X.env :: X.outer := by rfl) (hf : X.env.frame = some X.env.locals := by rfl) (hln : X.env.kindOf nm = some .local := by rfl)
    (hdb : (cs == ("__debug__" : Str)) = false := by decide) (hdx : (x == ("__debug__" : Str)) = false := by decide) (hdy : (y == ("__debug__" : Str)) = false := by decide) (hdn : (nm == ("__debug__" : Str)) = false := by decide) (hcn : (nm == ("__classdict__" : Str)) = false := by decide)
    (hse : starEach (e :: []) X.env = (false, eval e X.env) :: starEach [] X.env := by rfl)
    (hat : attributeBase (.Name nm q3) f X.env (eval (.Name nm q3) X.env) = eval (.Name nm q3) X.env := by rfl) :
    DS X F (.Try [.Return (some (.List [.Constant (.str z) jz p2, .Call (.Name cs p3) [e] [] p4] p5)) q1]
      [.ExceptHandler (some (.Name y q7)) (some nm) [.Return (some (.IfExp (.Call (.Name "isinstance" q8) [.Name nm q9, .Name x q10] [] q11) (.List [.Constant (.str z2) jz2 q2, .Attribute (.Name nm q3) f q4] q5) (.List [.Constant (.str z3) jz3 q12] q13) q14)) q6] pos'] [] [] pos) (tTryE X.K S C f (spXE X.K n m C f) j z z2 z3 t) (dTryE n m j z z2 fa) :=
  ⟨ps_tryE T yS.1 G room at_ kp bi (fun pn xe => (ha pn xe).pe) hN hj hn bI gl glx gly gI hs hf hln hdb hdx hdy hdn hcn hse hat, sd_tryE (ha [] fun _ _ => False).sd yS.2⟩
end
end Pu

end

section
set_option maxHeartbeats 1000000
/-! Mg54: claims judged. -/
namespace Law
open PySem L2 PyProof.Rows RZ Pu
def memT : TabL := [("mark", ["letter", "name"]), ("before", ["name", "name"]), ("same", ["name", "name"]), ("not", ["claim"]), ("and", ["claim", "claim"]), ("or", ["claim", "claim"]), ("some", ["bound", "claim"]), ("each", ["bound", "claim"])]
def wordsC : List Str := ["mark", "before", "same", "not", "and", "or", "some", "each"]
def sortsC (z : Str) : Option (List Str) := (memT.find? fun p => p.1 == z).map (·.2)
def inner (z : Str) : List Nat := if z = "not" then [1] else if z = "and" ∨ z = "or" then [1, 2] else if z = "some" ∨ z = "each" then [2] else []
def bindsZ (z : Str) : Bool := decide (z = "some") || decide (z = "each")
def inB (x : PyData) (b : List Str) : Bool := match x with
  | .str w => decide (w ∈ b)
  | _ => false
def wrongs (b : List Str) : Nat → List Str → List PyData → Option (List PyData)
  | k, w :: ws, x :: xs => if (decide (w ≠ "claim") && !isW x) = true then some [.int (k : Nat)] else if (decide (w = "bound") && inB x b) = true then some [.int (k : Nat)] else wrongs b (k + 1) ws xs
  | _, _, _ => none
/-- what is wrong in a claim but for the claims in it -/
def wrongM (v : PyData) (b : List Str) : Option (List PyData) := match v with
  | .tuple (.str z :: xs) => match sortsC z with
    | some ws => if xs.length = ws.length then wrongs b 1 ws xs else some []
    | none => some []
  | _ => some []
def boundOf (z : Str) (x : PyData) (b : List Str) : List Str := if bindsZ z = true then b ++ [unStr x] else b
def kids (v : PyData) (b : List Str) : List (Nat × PyData × List Str) := match v with
  | .tuple (.str z :: xs) => (inner z).map fun k => (k, xs.getD (k - 1) .none, boundOf z (xs.getD 0 .none) b)
  | _ => []
def pathC : Nat → PyData → List Str → Option (List PyData)
  | 0, _, _ => none
  | d + 1, v, b => match wrongM v b with
    | some p => some p
    | none => (kids v b).findSome? fun q => (pathC d q.2.1 q.2.2).map (.int (q.1 : Nat) :: ·)
def optS : Option (List PyData) → Sl
  | none => .d .none
  | some p => .d (.tuple p)
/-! ### how much stands in a value -/
mutual
def wt : PyData → Nat
  | .tuple xs => 3 + wts xs
  | .list xs => 3 + wts xs
  | v => v.shown.length + 1
def wts : List PyData → Nat
  | [] => 0
  | x :: xs => wt x + 2 + wts xs
end
def m__wrong_member : FN := fun ss R => ∃ v b, ss = [.d v, .d (.tuple (b.map PyData.str))] ∧ allA v = true ∧ b.length ≤ 1000 ∧ R (optS (wrongM v b))
def m_claims_in : FN := fun ss R => ∃ z xs, ss = [.d (.tuple (.str z :: xs))] ∧ z ∈ wordsC ∧ R (.own ((inner z).map fun k => .int (k : Nat)))
def m_check_claim : FN := fun ss R => ∃ v, ss = [.d v] ∧ allA v = true ∧ v.depth < 30 ∧ wt v ≤ 10000000 ∧ (pathC 30 v [] = none → R (.d .none)) ∧ ∀ p, pathC 30 v [] = some p → R (excS p)
def toldC (v : PyData) : List PyData := match pathC 30 v [] with
  | none => [.str "none", .none]
  | some p => [.str "path", .tuple p]
def m_told54 : FN := fun ss R => ∃ v, ss = [.d v] ∧ allA v = true ∧ v.depth < 30 ∧ wt v ≤ 10000000 ∧ R (.own (toldC v))
def m_path54 : Nat → FN
  | 0 => fun _ _ => False
  | d + 1 => fun ss R => ∃ v b, ss = [.d v, .d (.list (b.map PyData.str))] ∧ allA v = true ∧ v.depth ≤ d ∧ b.length + d ≤ 100 ∧ R (optS (pathC (d + 1) v b))
def m__law_inner : FN := fun ss R => ∃ z xs, ss = [.d (.tuple (.str z :: xs))] ∧ R (.d (.list ((inner z).map fun k => .int (k : Nat))))
theorem sorts_cases (z : Str) : (sortsC z = none ∧ z ∉ wordsC) ∨ z ∈ wordsC := by
  by_cases h : z ∈ wordsC
  · exact .inr h
  · refine .inl ⟨?_, h⟩
    unfold sortsC
    rw [Option.map_eq_none_iff, List.find?_eq_none]
    intro p hp e
    refine h ?_
    have e : p.1 = z := by simpa using e
    subst e
    simp only [memT, List.mem_cons, List.not_mem_nil, or_false] at hp
    rcases hp with rfl | rfl | rfl | rfl | rfl | rfl | rfl | rfl <;> decide
theorem tb_sorts (z : Str) : tbL memT z = (sortsC z).map fun ws => .tuple (ws.map .str) := by
  unfold tbL sortsC
  cases memT.find? fun p => p.1 == z <;> rfl
theorem tbOf {z : Str} {ws : List Str} (s : sortsC z = some ws) : tbL memT z = some (.tuple (ws.map .str)) := by rw [tb_sorts, s]; rfl
inductive Kd (z : Str) : Prop
  | A (a b : Str) (s : sortsC z = some [a, b]) (ha : a ≠ "claim") (hb : b ≠ "claim") (ha2 : a ≠ "bound") (hb2 : b ≠ "bound") (i : inner z = []) (bd : bindsZ z = false) (zz : z = "mark" ∨ z = "before" ∨ z = "same")
  | N (zz : z = "not") (s : sortsC z = (some ["claim"] : Option (List Str))) (i : inner z = [1]) (bd : bindsZ z = false)
  | C (zz : z = "and" ∨ z = "or") (s : sortsC z = (some ["claim", "claim"] : Option (List Str))) (i : inner z = [1, 2]) (bd : bindsZ z = false)
  | Q (zz : z = "some" ∨ z = "each") (s : sortsC z = (some ["bound", "claim"] : Option (List Str))) (i : inner z = [2]) (bd : bindsZ z = true)
theorem kd_of {z : Str} (h : z ∈ wordsC) : Kd z := by
  simp only [wordsC, List.mem_cons, List.not_mem_nil, or_false] at h
  rcases h with rfl | rfl | rfl | rfl | rfl | rfl | rfl | rfl
  · exact .A "letter" "name" (by decide +kernel) (by decide +kernel) (by decide +kernel) (by decide +kernel) (by decide +kernel) (by decide +kernel) (by decide +kernel) (.inl rfl)
  · exact .A "name" "name" (by decide +kernel) (by decide +kernel) (by decide +kernel) (by decide +kernel) (by decide +kernel) (by decide +kernel) (by decide +kernel) (.inr (.inl rfl))
  · exact .A "name" "name" (by decide +kernel) (by decide +kernel) (by decide +kernel) (by decide +kernel) (by decide +kernel) (by decide +kernel) (by decide +kernel) (.inr (.inr rfl))
  · exact .N rfl (by decide +kernel) (by decide +kernel) (by decide +kernel)
  · exact .C (.inl rfl) (by decide +kernel) (by decide +kernel) (by decide +kernel)
  · exact .C (.inr rfl) (by decide +kernel) (by decide +kernel) (by decide +kernel)
  · exact .Q (.inl rfl) (by decide +kernel) (by decide +kernel) (by decide +kernel)
  · exact .Q (.inr rfl) (by decide +kernel) (by decide +kernel) (by decide +kernel)
def innerT : List (PyData × PyData) := [(.str "not", .list [.int 1]), (.str "and", .list [.int 1, .int 2]), (.str "or", .list [.int 1, .int 2]), (.str "some", .list [.int 2]), (.str "each", .list [.int 2])]
theorem inner_get (z : Str) : orSl (getS innerT z) (.d (.list [])) = .d (.list ((inner z).map fun k => .int (k : Nat))) := by
  have key : ∀ (w : Str) (d : PyData) (r : List (PyData × PyData)), getS ((.str w, d) :: r) z = if z = w then some d else getS r z := fun w d r => by
    show (if isStr (.str w) z = true then some d else getS r z) = _
    have e : isStr (.str w) z = decide (z = w) := by
      show decide (w = z) = _
      exact decide_eq_decide.mpr ⟨Eq.symm, Eq.symm⟩
    rw [e]
    by_cases c : z = w
    · rw [decide_eq_true c, if_pos rfl, if_pos c]
    · rw [decide_eq_false c, if_neg (by decide), if_neg c]
  unfold innerT inner
  rw [key, key, key, key, key]
  by_cases c1 : z = "not"
  · rw [if_pos c1, if_pos c1]; rfl
  · rw [if_neg c1, if_neg c1]
    by_cases c2 : z = "and"
    · rw [if_pos c2, if_pos (.inl c2)]; rfl
    · rw [if_neg c2]
      by_cases c3 : z = "or"
      · rw [if_pos c3, if_pos (.inr c3)]; rfl
      · rw [if_neg c3, if_neg (show ¬ (z = "and" ∨ z = "or") from fun q => q.elim c2 c3)]
        by_cases c4 : z = "some"
        · rw [if_pos c4, if_pos (.inl c4)]; rfl
        · rw [if_neg c4]
          by_cases c5 : z = "each"
          · rw [if_pos c5, if_pos (.inr c5)]; rfl
          · rw [if_neg c5, if_neg (show ¬ (z = "some" ∨ z = "each") from fun q => q.elim c4 c5)]; rfl
theorem ifS {a b : Str} {A B : Prop} (h1 : a = b → A) (h2 : a ≠ b → B) : if (if false = true then !decide (a = b) else decide (a = b)) = true then A else B :=
  ifb (fun h => h1 (of_decide_eq_true h)) (fun h => h2 (of_decide_eq_false h))
theorem ifN {a b : Str} {A B : Prop} (h1 : a ≠ b → A) (h2 : a = b → B) : if (if true = true then !decide (a = b) else decide (a = b)) = true then A else B := by
  by_cases c : a = b
  · rw [if_neg (by rw [if_pos rfl, decide_eq_true c]; decide)]; exact h2 c
  · rw [if_pos (by rw [if_pos rfl, decide_eq_false c]; rfl)]; exact h1 c
theorem numD_map (ws : List Str) : ∀ k : Int, numD k (ws.map PyData.str) = (List.range ws.length).map fun i => .tuple [.int (k + (i : Nat)), .str (ws.getD i "")] := by
  induction ws with
  | nil => intro k; rfl
  | cons w ws ih =>
    intro k
    rw [List.map_cons, List.length_cons, List.range_succ_eq_map, List.map_cons, List.map_map]
    show PyData.tuple [.int k, .str w] :: numD (k + 1) (ws.map PyData.str) = _
    rw [ih]
    have e : k + ((0 : Nat) : Int) = k := by omega
    rw [e]
    congr 1
    refine List.map_congr_left fun i _ => ?_
    show PyData.tuple [.int (k + 1 + (i : Nat)), .str (ws.getD i "")] = .tuple [.int (k + ((i + 1 : Nat) : Int)), .str (ws.getD i "")]
    rw [show k + 1 + (i : Nat) = k + ((i + 1 : Nat) : Int) by omega]
theorem sorts_len {z : Str} {ws : List Str} (h : sortsC z = some ws) : ws.length ≤ 2 := by
  rcases sorts_cases z with ⟨e, _⟩ | hz
  · rw [e] at h; cases h
  · cases kd_of hz with
    | A a b s => rw [s] at h; cases h; exact Nat.le_refl 2
    | N _ s => rw [s] at h; cases h; decide
    | C _ s => rw [s] at h; cases h; decide
    | Q _ s => rw [s] at h; cases h; decide
theorem at_succ {x : PyData} {xs : List PyData} {j : Nat} (h : j < xs.length) : atI (x :: xs) (1 + (j : Nat)) = some xs[j] := by
  rw [at_n (j := j + 1) (by omega) (by simp; omega)]
  rfl
/-! ### the law's own path -/
def sizesT : List (PyData × PyData) := [(.str "mark", .int 3), (.str "before", .int 3), (.str "same", .int 3), (.str "not", .int 2), (.str "and", .int 3), (.str "or", .int 3), (.str "some", .int 3), (.str "each", .int 3)]
theorem getS_cons (z w : Str) (d : PyData) (r : List (PyData × PyData)) : getS ((.str w, d) :: r) z = if z = w then some d else getS r z := by
  show (if isStr (.str w) z = true then some d else getS r z) = _
  have e : isStr (.str w) z = decide (z = w) := decide_eq_decide.mpr ⟨Eq.symm, Eq.symm⟩
  rw [e]
  by_cases c : z = w
  · rw [decide_eq_true c, if_pos rfl, if_pos c]
  · rw [decide_eq_false c, if_neg (by decide), if_neg c]
def sizeZ (z : Str) : Nat := match sortsC z with
  | some ws => ws.length + 1
  | none => 0
theorem sizes_get (z : Str) : orSl (getS sizesT z) (.d (.int 0)) = .d (.int (sizeZ z : Nat)) := by
  unfold sizesT
  simp only [getS_cons]
  by_cases h : z ∈ wordsC
  · simp only [wordsC, List.mem_cons, List.not_mem_nil, or_false] at h
    rcases h with rfl | rfl | rfl | rfl | rfl | rfl | rfl | rfl <;> rfl
  · have e : sizeZ z = 0 := by
      unfold sizeZ
      rcases sorts_cases z with ⟨e, _⟩ | q
      · rw [e]
      · exact absurd q h
    rw [e]
    simp only [wordsC, List.mem_cons, List.not_mem_nil, or_false, not_or] at h
    obtain ⟨h1, h2, h3, h4, h5, h6, h7, h8⟩ := h
    rw [if_neg h1, if_neg h2, if_neg h3, if_neg h4, if_neg h5, if_neg h6, if_neg h7, if_neg h8]
    rfl
def marksC : List Str := ["mark", "before", "same"]
def LW (z : Str) (xs : List PyData) : List Nat := [1, 2].filter fun k => decide (z ∈ marksC) && !isW (xs.getD (k - 1) .none)
theorem path_eq {z : Str} {ws : List Str} {xs : List PyData} (hs : sortsC z = some ws) (hl : xs.length = ws.length) (d : Nat) (b : List Str) : pathC (d + 1) (.tuple (.str z :: xs)) b =
    match LW z xs with
    | k :: _ => some [.int (k : Nat)]
    | [] => if (bindsZ z && (!isW (xs.getD 0 .none) || inB (xs.getD 0 .none) b)) = true then some [.int 1] else (inner z).findSome? fun k => (pathC d (xs.getD (k - 1) .none) (boundOf z (xs.getD 0 .none) b)).map (.int (k : Nat) :: ·) := by
  have hM : wrongM (.tuple (.str z :: xs)) b = wrongs b 1 ws xs := by
    show (match sortsC z with | some ws => if xs.length = ws.length then wrongs b 1 ws xs else some [] | none => some []) = _
    rw [hs]
    show (if xs.length = ws.length then _ else _) = _
    rw [if_pos hl]
  have hK : kids (.tuple (.str z :: xs)) b = (inner z).map fun k => (k, xs.getD (k - 1) .none, boundOf z (xs.getD 0 .none) b) := rfl
  rw [pathC, hM, hK]
  have hz : z ∈ wordsC := by
    rcases sorts_cases z with ⟨e, _⟩ | q
    · rw [e] at hs; cases hs
    · exact q
  cases kd_of hz with
  | A a c s ha hb ha2 hb2 i bd zz =>
    rw [s] at hs; cases hs
    match xs, hl with
    | [x, y], _ =>
      have mk : decide (z ∈ marksC) = true := by
        rcases zz with rfl | rfl | rfl <;> decide +kernel
      have e : wrongs b 1 [a, c] [x, y] = if (!isW x) = true then some [.int 1] else if (!isW y) = true then some [.int 2] else none := by
        simp only [wrongs, decide_eq_true ha, decide_eq_true hb, decide_eq_false ha2, decide_eq_false hb2, Bool.true_and, Bool.false_and]
        cases isW x <;> cases isW y <;> rfl
      rw [e, i, bd]
      unfold LW
      rw [mk]
      show _ = match [1, 2].filter (fun k => true && !isW ([x, y].getD (k - 1) .none)) with | k :: _ => _ | [] => _
      have l : [1, 2].filter (fun k => true && !isW ([x, y].getD (k - 1) .none)) = (if (!isW x) = true then [1] else []) ++ (if (!isW y) = true then [2] else []) := by
        have g1 : ([x, y] : List PyData).getD (1 - 1) .none = x := rfl
        have g2 : ([x, y] : List PyData).getD (2 - 1) .none = y := rfl
        simp only [List.filter_cons, List.filter_nil, Bool.true_and, g1, g2]
        cases isW x <;> cases isW y <;> rfl
      rw [l]
      cases isW x <;> cases isW y <;> rfl
  | N zz s i bd =>
    rw [s] at hs; cases hs
    match xs, hl with
    | [x], _ =>
      subst zz
      rw [i, bd]
      rfl
  | C zz s i bd =>
    rw [s] at hs; cases hs
    match xs, hl with
    | [x, y], _ =>
      have l : LW z [x, y] = [] := by
        unfold LW
        have mk : decide (z ∈ marksC) = false := by rcases zz with rfl | rfl <;> decide +kernel
        rw [mk]; rfl
      rw [l, i, bd]
      rfl
  | Q zz s i bd =>
    rw [s] at hs; cases hs
    match xs, hl with
    | [x, y], _ =>
      have l : LW z [x, y] = [] := by
        unfold LW
        have mk : decide (z ∈ marksC) = false := by rcases zz with rfl | rfl <;> decide +kernel
        rw [mk]; rfl
      rw [l, i, bd]
      have e : wrongs b 1 ["bound", "claim"] [x, y] = if (!isW x || inB x b) = true then some [.int 1] else none := by
        have h1 : (decide (("bound" : Str) ≠ "claim") : Bool) = true := by decide +kernel
        have h2 : (decide (("bound" : Str) = "bound") : Bool) = true := by decide +kernel
        have h3 : (decide (("claim" : Str) ≠ "claim") : Bool) = false := by decide +kernel
        have h4 : (decide (("claim" : Str) = "bound") : Bool) = false := by decide +kernel
        simp only [wrongs, h1, h2, h3, h4, Bool.true_and, Bool.false_and]
        cases isW x <;> cases inB x b <;> rfl
      rw [e]
      show _ = if (true && (!isW x || inB x b)) = true then some [PyData.int 1] else _
      rw [Bool.true_and]
      cases c : (!isW x || inB x b) with
      | true => rfl
      | false => rfl
theorem inner_le {z : Str} {ws : List Str} (hs : sortsC z = some ws) : ∀ k ∈ inner z, 1 ≤ k ∧ k ≤ ws.length := by
  have hz : z ∈ wordsC := by
    rcases sorts_cases z with ⟨e, _⟩ | q
    · rw [e] at hs; cases hs
    · exact q
  cases kd_of hz with
  | A a c s ha hb ha2 hb2 i => rw [i]; intro k hk; cases hk
  | N zz s i => rw [s] at hs; cases hs; rw [i]; intro k hk; simp at hk; subst hk; decide
  | C zz s i => rw [s] at hs; cases hs; rw [i]; intro k hk; simp at hk; rcases hk with rfl | rfl <;> exact ⟨by decide, (by decide)⟩
  | Q zz s i => rw [s] at hs; cases hs; rw [i]; intro k hk; simp at hk; subst hk; exact ⟨by decide, by decide⟩
theorem mark_len {z : Str} {ws : List Str} (hs : sortsC z = some ws) (hm : z ∈ marksC) : ws.length = 2 := by
  simp only [marksC, List.mem_cons, List.not_mem_nil, or_false] at hm
  have e : ∀ z' ∈ marksC, (sortsC z').map List.length = some 2 := by decide +kernel
  have := e z (by rcases hm with rfl | rfl | rfl <;> decide +kernel)
  rw [hs] at this
  exact Option.some.inj this
theorem wrongs_len {b : List Str} : ∀ (k : Nat) (ws : List Str) (xs : List PyData) (p : List PyData), wrongs b k ws xs = some p → p.length ≤ 1
  | k, w :: ws, x :: xs, p, h => by
    rw [wrongs] at h
    split at h
    · cases h; exact Nat.le_refl 1
    · split at h
      · cases h; exact Nat.le_refl 1
      · exact wrongs_len (k + 1) ws xs p h
  | _, [], _, _, h => by unfold wrongs at h; cases h
  | _, _ :: _, [], _, h => by unfold wrongs at h; cases h
theorem wrongM_len {v : PyData} {b : List Str} {p : List PyData} (h : wrongM v b = some p) : p.length ≤ 1 := by
  unfold wrongM at h
  split at h
  · split at h
    · split at h
      · exact wrongs_len _ _ _ _ h
      · cases h; exact Nat.zero_le _
    · cases h; exact Nat.zero_le _
  · cases h; exact Nat.zero_le _
theorem pathC_len : ∀ (d : Nat) (v : PyData) (b : List Str) (p : List PyData), pathC d v b = some p → p.length ≤ d
  | 0, _, _, _, h => by cases h
  | d + 1, v, b, p, h => by
    rw [pathC] at h
    split at h
    · rename_i q e
      cases h
      have := wrongM_len e
      omega
    · obtain ⟨q, _, e⟩ := List.exists_of_findSome?_eq_some h
      obtain ⟨p', e1, rfl⟩ := Option.map_eq_some_iff.mp e
      have := pathC_len d _ _ _ e1
      simp; omega
theorem fm_if {α β : Type} {p : α → Bool} {g : α → β} : ∀ l : List α, (l.filterMap fun k => if p k = true then some (g k) else none) = (l.filter p).map g
  | [] => rfl
  | k :: l => by
    have ih := fm_if (p := p) (g := g) l
    cases e : p k <;> simp [List.filterMap_cons, List.filter_cons, e, ih]
theorem binds_any (z : Str) : (((["some", "each"] : List Str).map PyData.str).any fun u => PyData.eqv u (.str z)) = bindsZ z := by
  have e : (((["some", "each"] : List Str).map PyData.str).any fun u => PyData.eqv u (.str z)) = decide (z ∈ (["some", "each"] : List Str)) := any_strs
  rw [e]
  unfold bindsZ
  by_cases c1 : z = "some"
  · subst c1; decide +kernel
  · by_cases c2 : z = "each"
    · subst c2; decide +kernel
    · rw [decide_eq_false c1, decide_eq_false c2, decide_eq_false (by simp [c1, c2])]; rfl
theorem binds_len {z : Str} {ws : List Str} (hs : sortsC z = some ws) (hb : bindsZ z = true) : ws.length = 2 := by
  have e : (sortsC "some").map List.length = some 2 ∧ (sortsC "each").map List.length = some 2 := by decide +kernel
  have hz : z = "some" ∨ z = "each" := by
    unfold bindsZ at hb
    rcases Bool.or_eq_true_iff.mp hb with h | h
    · exact .inl (of_decide_eq_true h)
    · exact .inr (of_decide_eq_true h)
  rcases hz with rfl | rfl
  · have := e.1; rw [hs] at this; exact Option.some.inj this
  · have := e.2; rw [hs] at this; exact Option.some.inj this
theorem isW_str {x : PyData} (h : isW x = true) : ∃ w, x = .str w := by
  cases x with
  | str w => exact ⟨w, rfl⟩
  | _ => cases h
theorem depth_mem {x : PyData} {xs : List PyData} (h : x ∈ xs) : x.depth + 1 ≤ (PyData.tuple xs).depth := by
  have e : ∀ {ys : List PyData}, x ∈ ys → x.depth ≤ PyData.depthAll ys := fun {ys} => by
    induction ys with
    | nil => intro h; cases h
    | cons y ys ih =>
      intro h
      simp only [PyData.depthAll]
      rcases List.mem_cons.mp h with rfl | h
      · omega
      · have := ih h; omega
  have := e h
  simp only [PyData.depth]; omega
theorem getD_mem {xs : List PyData} {k : Nat} (h1 : 1 ≤ k) (h2 : k ≤ xs.length) {z : PyData} : atI (z :: xs) (k : Nat) = some (xs.getD (k - 1) .none) ∧ xs.getD (k - 1) .none ∈ xs := by
  have lt : k - 1 < xs.length := by omega
  have e : xs.getD (k - 1) .none = xs[k - 1] := by rw [List.getD_eq_getElem?_getD, List.getElem?_eq_getElem lt]; rfl
  refine ⟨?_, by rw [e]; exact List.getElem_mem lt⟩
  rw [e, at_n (j := k) rfl (by simp; omega)]
  congr 1
  match k, h1 with
  | k + 1, _ => rfl
theorem wt_pos (v : PyData) : 1 ≤ wt v := by
  cases v <;> simp only [wt] <;> omega
theorem wts_mem {x : PyData} : ∀ {xs : List PyData}, x ∈ xs → wt x + 2 ≤ wts xs
  | y :: ys, h => by
    simp only [wts]
    rcases List.mem_cons.mp h with rfl | h
    · omega
    · have := wts_mem h; omega
theorem fs_map {α β γ : Type} (g : β → γ) (f : α → Option β) : ∀ l : List α, (l.findSome? f).map g = l.findSome? fun k => (f k).map g
  | [] => rfl
  | k :: l => by
    rw [List.findSome?_cons, List.findSome?_cons]
    cases f k with
    | none => exact fs_map g f l
    | some y => rfl
theorem fs_congr {α β : Type} {f g : α → Option β} : ∀ {l : List α}, (∀ k ∈ l, f k = g k) → l.findSome? f = l.findSome? g
  | [], _ => rfl
  | k :: l, h => by
    rw [List.findSome?_cons, List.findSome?_cons, h k (List.mem_cons_self ..), fs_congr fun j hj => h j (List.mem_cons_of_mem _ hj)]
theorem kids_depth {v : PyData} {b : List Str} {q : Nat × PyData × List Str} (h : q ∈ kids v b) : q.2.1.depth + 1 ≤ v.depth := by
  unfold kids at h
  split at h
  · rename_i z xs
    obtain ⟨k, _, rfl⟩ := List.mem_map.mp h
    show (xs.getD (k - 1) .none).depth + 1 ≤ _
    rcases Nat.lt_or_ge (k - 1) xs.length with c | c
    · have e : xs.getD (k - 1) .none = xs[k - 1] := by rw [List.getD_eq_getElem?_getD, List.getElem?_eq_getElem c]; rfl
      rw [e]
      exact depth_mem (List.mem_cons_of_mem _ (List.getElem_mem c))
    · have e : xs.getD (k - 1) .none = .none := by rw [List.getD_eq_getElem?_getD, List.getElem?_eq_none c]; rfl
      rw [e]
      exact Nat.le_trans (by show 0 + 1 ≤ 1; omega) (by simp only [PyData.depth]; omega)
  · cases h
theorem pathC_fuel : ∀ (d d' : Nat) (v : PyData) (b : List Str), v.depth < d → v.depth < d' → pathC d v b = pathC d' v b
  | 0, _, _, _, h, _ => by omega
  | _ + 1, 0, _, _, _, h => by omega
  | d + 1, d' + 1, v, b, h, h' => by
    rw [pathC, pathC]
    cases wrongM v b with
    | some p => rfl
    | none =>
      refine fs_congr fun q hq => ?_
      have := kids_depth hq
      rw [pathC_fuel d d' _ _ (by omega) (by omega)]
theorem wrongM_none {v : PyData} {b : List Str} (h : wrongM v b = none) : ∃ z xs ws, v = .tuple (.str z :: xs) ∧ sortsC z = some ws ∧ xs.length = ws.length ∧ (bindsZ z = true → isW (xs.getD 0 .none) = true) := by
  unfold wrongM at h
  split at h
  · rename_i z xs
    split at h
    · rename_i ws hs
      split at h
      · rename_i hl
        refine ⟨z, xs, ws, rfl, hs, hl, fun hb => ?_⟩
        have hz : z ∈ wordsC := by
          rcases sorts_cases z with ⟨e, _⟩ | q
          · rw [e] at hs; cases hs
          · exact q
        cases kd_of hz with
        | A a c s ha hb' ha2 hb2 i bd zz => rw [bd] at hb; cases hb
        | N zz s i bd => rw [bd] at hb; cases hb
        | C zz s i bd => rw [bd] at hb; cases hb
        | Q zz s i bd =>
          rw [s] at hs; cases hs
          match xs, hl with
          | [x, y], _ =>
            have h1 : (decide (("bound" : Str) ≠ "claim") : Bool) = true := by decide +kernel
            simp only [wrongs, h1, Bool.true_and] at h
            show isW x = true
            cases g : isW x with
            | true => rfl
            | false => rw [g] at h; cases h
      · cases h
    · cases h
  · cases h
abbrev Itm := PyData × List PyData × List Str
def encI (i : Itm) : PyData := .tuple [i.1, .tuple i.2.1, .tuple (i.2.2.map .str)]
def ansI (i : Itm) : Option (List PyData) := (pathC 30 i.1 i.2.2).map (i.2.1 ++ ·)
def kidI (z : Str) (xs : List PyData) (p : List PyData) (b : List Str) : List Itm := (inner z).map fun k => (xs.getD (k - 1) .none, p ++ [.int (k : Nat)], boundOf z (xs.getD 0 .none) b)
theorem kids_ans {z : Str} {xs p : List PyData} {b : List Str} (h : wrongM (.tuple (.str z :: xs)) b = none) (hd : (PyData.tuple (.str z :: xs)).depth < 30) : ansI (.tuple (.str z :: xs), p, b) = (kidI z xs p b).findSome? ansI := by
  show (pathC (29 + 1) (.tuple (.str z :: xs)) b).map (p ++ ·) = _
  rw [pathC, h]
  show (((inner z).map fun k => (k, xs.getD (k - 1) .none, boundOf z (xs.getD 0 .none) b)).findSome? _).map _ = ((inner z).map _).findSome? ansI
  rw [List.findSome?_map, List.findSome?_map, fs_map]
  refine fs_congr fun k hk => ?_
  have hq : (k, xs.getD (k - 1) .none, boundOf z (xs.getD 0 .none) b) ∈ kids (.tuple (.str z :: xs)) b := List.mem_map.mpr ⟨k, hk, rfl⟩
  have := kids_depth hq
  have this : (xs.getD (k - 1) .none).depth + 1 ≤ _ := this
  show ((pathC 29 (xs.getD (k - 1) .none) (boundOf z (xs.getD 0 .none) b)).map (.int (k : Nat) :: ·)).map (p ++ ·) = (pathC 30 (xs.getD (k - 1) .none) (boundOf z (xs.getD 0 .none) b)).map ((p ++ [.int (k : Nat)]) ++ ·)
  rw [pathC_fuel 29 30 _ _ (by omega) (by omega), Option.map_map]
  congr 1
  funext q
  show p ++ (PyData.int (k : Nat) :: q) = (p ++ [.int (k : Nat)]) ++ q
  rw [List.append_assoc]; rfl
def msI : List Itm → Nat
  | [] => 0
  | i :: S => wt i.1 + msI S
theorem msI_append : ∀ (A B : List Itm), msI (A ++ B) = msI A + msI B
  | [], B => by simp [msI]
  | i :: A, B => by simp [msI, msI_append A B]; omega
theorem msI_len : ∀ S : List Itm, S.length ≤ msI S
  | [] => Nat.le_refl _
  | i :: S => by
    have := wt_pos i.1
    have := msI_len S
    simp only [msI, List.length_cons]; omega
theorem kid_ms {z : Str} {xs p : List PyData} {b : List Str} {ws : List Str} (hs : sortsC z = some ws) (hl : xs.length = ws.length) : msI (kidI z xs p b) ≤ wts xs := by
  have hz : z ∈ wordsC := by
    rcases sorts_cases z with ⟨e, _⟩ | q
    · rw [e] at hs; cases hs
    · exact q
  unfold kidI
  cases kd_of hz with
  | A a c s ha hb' ha2 hb2 i => rw [i]; exact Nat.zero_le _
  | N zz s i =>
    rw [s] at hs; cases hs
    rw [i]
    match xs, hl with
    | [x], _ => show wt x + 0 ≤ wt x + 2 + 0; omega
  | C zz s i =>
    rw [s] at hs; cases hs
    rw [i]
    match xs, hl with
    | [x, y], _ => show wt x + (wt y + 0) ≤ wt x + 2 + (wt y + 2 + 0); omega
  | Q zz s i =>
    rw [s] at hs; cases hs
    rw [i]
    match xs, hl with
    | [x, y], _ => show wt y + 0 ≤ wt x + 2 + (wt y + 2 + 0); omega
theorem while_c {c : DTT} {body : DTS} {E : DEnds} {env : EV} (I : Nat → EV → Prop) (m : Nat) (h0 : I m env)
    (step : ∀ m env, I m env → ∀ nx : EV → Prop, (∀ m' env', m' < m → I m' env' → nx env') → c env fun b => if b = true then body { nx := nx, ct := nx, bk := E.nx, rt := E.rt } env else E.nx env) : dWhile c body E env := by
  have key : ∀ (k m : Nat) (env : EV), m ≤ k → I m env → dWhileN c body E (k + 1) env := by
    intro k
    induction k with
    | zero =>
      intro m env hm h
      exact step m env h (dWhileN c body E 0) fun m' env' hlt _ => by omega
    | succ k ih =>
      intro m env hm h
      exact step m env h (dWhileN c body E (k + 1)) fun m' env' hlt h' => ih m' env' (by omega) h'
  exact ⟨m + 1, key m m env (Nat.le_refl _) h0⟩
theorem truth_own {i : Nat} {env : EV} {xs : List PyData} {Q : Bool → Prop} (e : (frzL env [i])[i]? = some (some (.d (.list xs)))) (q : Q (!xs.isEmpty)) : dPeekT [i] (dTruth (dVar i)) env Q := by
  unfold dPeekT dTruth dVar
  rw [e]
  exact q
/-! ### values that can be shown -/
structure Gd (n m : Nat) (v : PyData) : Prop where
  a : allA v = true
  s : v.showable = true
  w : wt v ≤ n
  d : v.depth ≤ m
theorem Gd.mono {n m n' m' : Nat} {v : PyData} (g : Gd n m v) (hn : n ≤ n') (hm : m ≤ m') : Gd n' m' v := ⟨g.a, g.s, Nat.le_trans g.w hn, Nat.le_trans g.d hm⟩
theorem piled_wts : ∀ {xs : List PyData}, (∀ x ∈ xs, x.shown.length ≤ wt x) → piled (PyData.shownAll xs) ≤ wts xs
  | [], _ => by simp [PyData.shownAll, Pu.piled_nil, wts]
  | x :: xs, h => by
    have := piled_wts fun y hy => h y (List.mem_cons_of_mem _ hy)
    have := h x (List.mem_cons_self ..)
    simp only [PyData.shownAll, piled_cons, wts]
    omega
def gdB (n m : Nat) (v : PyData) : Bool := allA v && v.showable && decide (wt v ≤ n) && decide (v.depth ≤ m)
theorem gd_of {n m : Nat} {v : PyData} (h : gdB n m v = true) : Gd n m v := by
  unfold gdB at h
  simp only [Bool.and_eq_true, decide_eq_true_iff] at h
  exact ⟨h.1.1.1, h.1.1.2, h.1.2, h.2⟩
theorem wts_append (a b : List PyData) : wts (a ++ b) = wts a + wts b := by
  induction a with
  | nil => simp [wts]
  | cons x a ih => simp only [List.cons_append, wts, ih]; omega
theorem wts_rev (a : List PyData) : wts a.reverse = wts a := by
  induction a with
  | nil => rfl
  | cons x a ih => rw [List.reverse_cons, wts_append, ih]; simp only [wts]; omega
theorem gd_tup {n m : Nat} {xs : List PyData} (l : xs.length ≤ 1000) (h : ∀ x ∈ xs, ∃ k, Gd k m x) (w : 3 + wts xs ≤ n) : Gd n (m + 1) (.tuple xs) := by
  refine ⟨allA_tup.mpr ⟨l, fun x hx => (h x hx).choose_spec.a⟩, ?_, by simp only [wt]; exact w, ?_⟩
  · simp only [PyData.showable]; exact showAll fun x hx => (h x hx).choose_spec.s
  · have := depthAll_le fun x hx => (h x hx).choose_spec.d
    simp only [PyData.depth]; omega
theorem gd_lst {n m : Nat} {xs : List PyData} (l : xs.length ≤ 1000) (h : ∀ x ∈ xs, ∃ k, Gd k m x) (w : 3 + wts xs ≤ n) : Gd n (m + 1) (.list xs) := by
  refine ⟨allA_lst.mpr ⟨l, fun x hx => (h x hx).choose_spec.a⟩, ?_, by simp only [wt]; exact w, ?_⟩
  · simp only [PyData.showable]; exact showAll fun x hx => (h x hx).choose_spec.s
  · have := depthAll_le fun x hx => (h x hx).choose_spec.d
    simp only [PyData.depth]; omega
theorem showable_mem {x : PyData} : ∀ {xs : List PyData}, PyData.showableAll xs = true → x ∈ xs → x.showable = true
  | y :: ys, h, hx => by
    simp only [PyData.showableAll, Bool.and_eq_true] at h
    rcases List.mem_cons.mp hx with rfl | hx
    · exact h.1
    · exact showable_mem h.2 hx
theorem gd_mem {n m : Nat} {xs : List PyData} (g : Gd n m (.tuple xs)) {x : PyData} (h : x ∈ xs) : Gd (wt x) (m - 1) x := by
  have d := depth_mem h
  have gd := g.d
  have s := g.s
  simp only [PyData.showable] at s
  exact ⟨(allA_tup.mp g.a).2 x h, showable_mem s h, Nat.le_refl _, by omega⟩
inductive Shp : PyData → Prop
  | mk {z : Str} {xs : List PyData} {ws : List Str} (hs : sortsC z = some ws) (hl : xs.length = ws.length) (h : ∀ k ∈ inner z, Shp (xs.getD (k - 1) .none)) : Shp (.tuple (.str z :: xs))
theorem shp_of : ∀ (d : Nat) (v : PyData) (b : List Str), v.depth < d → pathC d v b = none → Shp v
  | 0, _, _, h, _ => by omega
  | d + 1, v, b, h, e => by
    rw [pathC] at e
    cases g : wrongM v b with
    | some p => rw [g] at e; cases e
    | none =>
      rw [g] at e
      obtain ⟨z, xs, ws, rfl, hs, hl, _⟩ := wrongM_none g
      refine .mk hs hl fun k hk => ?_
      have hq : (k, xs.getD (k - 1) .none, boundOf z (xs.getD 0 .none) b) ∈ kids (.tuple (.str z :: xs)) b := List.mem_map.mpr ⟨k, hk, rfl⟩
      have hd := kids_depth hq
      have hd : (xs.getD (k - 1) .none).depth + 1 ≤ _ := hd
      have e2 := List.findSome?_eq_none_iff.mp e _ hq
      exact shp_of d _ _ (by omega) (Option.map_eq_none_iff.mp e2)
def BW : Nat → Nat
  | 0 => 100
  | n + 1 => 2 * BW n + 100
/-- texts that are drawn -/
def okW (w : Str) : Bool := gdB 20 0 (.str w)
def oddN : Nat → List Str
  | 0 => ["a", "b", "t", "x", "y", "z"]
  | n + 1 => (oddN n).flatMap fun w => (["0", "a", "m", "1", "t", "z"] : List Str).map fun c => w ++ c
def fixW : List Str := ["a", "b", "p", "not", "t", "x", "y", "z", "m0", "m1", "now", "earlier", "here", "same", "later", "before"]
theorem oddN_ok : ∀ w ∈ oddN 0 ++ oddN 1 ++ oddN 2 ++ oddN 3, okW w = true := by decide +kernel
theorem fixW_ok : ∀ w ∈ fixW, okW w = true := by decide +kernel
theorem oddC_ok : ∀ d ∈ oddL, gdB 200 3 d = true := by decide +kernel
end Law

end

section
set_option maxHeartbeats 1000000
/-! Mh54: claims drawn and bent. -/
namespace Law
open PySem L2 PyProof.Rows RZ Pu
def Nms (k : Nat) (ns : List Str) : Prop := ns ≠ [] ∧ ns.length ≤ k ∧ ∀ w ∈ ns, okW w = true
def m_letters54 : FN := fun ss R => ∃ n : Nat, ss = [.src, .d (.int (n : Nat))] ∧ 1 ≤ n ∧ n ≤ 20 ∧ ∀ ws : List Str, Nms 30 ws → R (.own (ws.map PyData.str))
def m__law_claim : Nat → FN
  | 0 => fun _ _ => False
  | d + 1 => fun ss R => ∃ ws ns bs : List Str, ∃ dp mo : Nat, ss = [.src, .d (.list (ws.map PyData.str)), .d (.list (ns.map PyData.str)), .d (.list (bs.map PyData.str)), .d (.int (dp : Nat)), .d (.int (mo : Nat))] ∧ Nms 100 ws ∧ Nms (100 - 2 * dp) ns ∧ dp ≤ 2 ∧ bs.length + dp ≤ 2 ∧ mo ≤ d ∧ ∀ v, Shp v → Gd (BW mo) (mo + 1) v → R (.d v)
def m__law_bent_claim : Nat → FN
  | 0 => fun _ _ => False
  | d + 1 => fun ss R => ∃ v, ∃ n m : Nat, ss = [.src, .d v] ∧ Shp v ∧ Gd n m v ∧ m ≤ d ∧ ∀ v', Gd (2 * n + 400) (m + 3) v' → R (.d v')
theorem wt_shown : ∀ (d : Nat) (v : PyData), v.depth ≤ d → v.shown.length ≤ wt v := by
  intro d
  induction d with
  | zero =>
    intro v h
    cases v
    case tuple xs => simp only [PyData.depth] at h; omega
    case list xs => simp only [PyData.depth] at h; omega
    all_goals simp only [wt]; omega
  | succ d ih =>
    intro v h
    have key : ∀ {xs : List PyData}, PyData.depthAll xs ≤ d → ∀ x ∈ xs, x.shown.length ≤ wt x := fun {xs} hd x hx => by
      have := depth_mem (xs := xs) hx
      simp only [PyData.depth] at this
      exact ih x (by omega)
    cases v
    case tuple xs =>
      simp only [PyData.depth] at h
      have := tupleText_le (PyData.shownAll xs)
      have := piled_wts (key (xs := xs) (by omega))
      simp only [PyData.shown, wt]; omega
    case list xs =>
      simp only [PyData.depth] at h
      have := listText_le (PyData.shownAll xs)
      have := piled_wts (key (xs := xs) (by omega))
      simp only [PyData.shown, wt]; omega
    all_goals simp only [wt]; omega
theorem Gd.okY {n m : Nat} {v : PyData} (g : Gd n m v) (hn : n ≤ 16777216) (hm : m ≤ 60) : okY v := by
  have := wt_shown _ v (Nat.le_refl _)
  have := g.w
  have := g.d
  exact ⟨g.s, s16 (by omega), by omega⟩
theorem gdW {w : Str} (h : okW w = true) : Gd 20 0 (.str w) := gd_of h
theorem leaf_ok {z a b : Str} (hz : z ∈ marksC) (ha : okW a = true) (hb : okW b = true) : Shp (.tuple [.str z, .str a, .str b]) ∧ Gd 100 1 (.tuple [.str z, .str a, .str b]) := by
  have ok : ∀ z ∈ marksC, okW z = true ∧ inner z = [] ∧ (sortsC z).map List.length = some 2 := by decide +kernel
  obtain ⟨hz1, hz2, hz3⟩ := ok z hz
  obtain ⟨ws, hs, hl⟩ := Option.map_eq_some_iff.mp hz3
  refine ⟨.mk hs hl.symm (fun k hk => by rw [hz2] at hk; cases hk), ?_⟩
  have g1 := gdW hz1; have g2 := gdW ha; have g3 := gdW hb
  refine gd_tup (by simp) (fun x hx => ?_) ?_
  · rcases (by simpa using hx : x = .str z ∨ x = .str a ∨ x = .str b) with rfl | rfl | rfl
    · exact ⟨_, g1⟩
    · exact ⟨_, g2⟩
    · exact ⟨_, g3⟩
  · have := g1.w; have := g2.w; have := g3.w
    simp only [wts]; omega
theorem not_ok {v : PyData} {n m : Nat} (h : Shp v) (g : Gd n m v) : Shp (.tuple [.str "not", v]) ∧ Gd (n + 40) (m + 1) (.tuple [.str "not", v]) := by
  have g1 := gdW (w := "not") (by decide +kernel)
  refine ⟨.mk (z := "not") (ws := ["claim"]) (by decide +kernel) rfl (fun k hk => ?_), gd_tup (by simp) (fun x hx => ?_) ?_⟩
  · have e : inner "not" = [1] := by decide +kernel
    rw [e] at hk
    rw [List.mem_singleton.mp hk]
    exact h
  · rcases (by simpa using hx : x = .str "not" ∨ x = v) with rfl | rfl
    · exact ⟨_, g1.mono (Nat.le_refl _) (Nat.zero_le _)⟩
    · exact ⟨_, g⟩
  · have := g1.w; have := g.w
    simp only [wts]; omega
theorem two_ok {z : Str} {v u : PyData} {n m : Nat} (hz : z ∈ (["and", "or"] : List Str)) (h : Shp v) (g : Gd n m v) (h2 : Shp u) (g2 : Gd n m u) : Shp (.tuple [.str z, v, u]) ∧ Gd (2 * n + 40) (m + 1) (.tuple [.str z, v, u]) := by
  have ok : ∀ z ∈ (["and", "or"] : List Str), okW z = true ∧ inner z = [1, 2] ∧ sortsC z = (some ["claim", "claim"] : Option (List Str)) := by decide +kernel
  obtain ⟨hz1, hz2, hz3⟩ := ok z hz
  have g1 := gdW hz1
  refine ⟨.mk hz3 rfl (fun k hk => ?_), gd_tup (by simp) (fun x hx => ?_) ?_⟩
  · rw [hz2] at hk
    rcases (by simpa using hk : k = 1 ∨ k = 2) with rfl | rfl
    · exact h
    · exact h2
  · rcases (by simpa using hx : x = .str z ∨ x = v ∨ x = u) with rfl | rfl | rfl
    · exact ⟨_, g1.mono (Nat.le_refl _) (Nat.zero_le _)⟩
    · exact ⟨_, g⟩
    · exact ⟨_, g2⟩
  · have := g1.w; have := g.w; have := g2.w
    simp only [wts]; omega
theorem bind_ok {z x : Str} {v : PyData} {n m : Nat} (hz : z ∈ (["some", "each"] : List Str)) (hx : okW x = true) (h : Shp v) (g : Gd n m v) : Shp (.tuple [.str z, .str x, v]) ∧ Gd (n + 60) (m + 1) (.tuple [.str z, .str x, v]) := by
  have ok : ∀ z ∈ (["some", "each"] : List Str), okW z = true ∧ inner z = [2] ∧ sortsC z = (some ["bound", "claim"] : Option (List Str)) := by decide +kernel
  obtain ⟨hz1, hz2, hz3⟩ := ok z hz
  have g1 := gdW hz1; have g2 := gdW hx
  refine ⟨.mk hz3 rfl (fun k hk => ?_), gd_tup (by simp) (fun y hy => ?_) ?_⟩
  · rw [hz2] at hk
    rw [List.mem_singleton.mp hk]
    exact h
  · rcases (by simpa using hy : y = .str z ∨ y = .str x ∨ y = v) with rfl | rfl | rfl
    · exact ⟨_, g1.mono (Nat.le_refl _) (Nat.zero_le _)⟩
    · exact ⟨_, g2.mono (Nat.le_refl _) (Nat.zero_le _)⟩
    · exact ⟨_, g⟩
  · have := g1.w; have := g2.w; have := g.w
    simp only [wts]; omega
theorem BW_le : ∀ n, 100 ≤ BW n
  | 0 => Nat.le_refl _
  | n + 1 => by have := BW_le n; simp only [BW]; omega
theorem strs_in {ns : List Str} {x : PyData} (h : x ∈ ns.map PyData.str) : ∃ w ∈ ns, x = .str w := by
  obtain ⟨w, hw, rfl⟩ := List.mem_map.mp h
  exact ⟨w, hw, rfl⟩
theorem Nms.ne {k : Nat} {ns : List Str} (h : Nms k ns) : ns.map PyData.str ≠ [] := fun e => h.1 (List.map_eq_nil_iff.mp e)
theorem Nms.lt {k : Nat} {ns : List Str} (h : Nms k ns) (hk : k ≤ 100) : (ns.map PyData.str).length < 1000000 := by
  have := h.2.1
  rw [List.length_map]; omega
theorem strs_ok {zs : List PyData} (h : ∀ z ∈ zs, ∃ w : Str, z = .str w ∧ okW w = true) : ∃ ws : List Str, zs = ws.map PyData.str ∧ strsD zs = some ws ∧ ∀ w ∈ ws, okW w = true := by
  induction zs with
  | nil => exact ⟨[], rfl, rfl, fun w hw => by cases hw⟩
  | cons z zs ih =>
    obtain ⟨w, rfl, hw⟩ := h z (List.mem_cons_self ..)
    obtain ⟨ws, e1, e2, e3⟩ := ih fun y hy => h y (List.mem_cons_of_mem _ hy)
    refine ⟨w :: ws, by rw [e1]; rfl, by simp only [strsD, e2]; rfl, fun u hu => ?_⟩
    rcases List.mem_cons.mp hu with rfl | hu
    · exact hw
    · exact e3 u hu
theorem gd1 {a : PyData} {ka M N : Nat} (ga : Gd ka M a) (h : ka + 5 ≤ N) : Gd N (M + 1) (.tuple [a]) := by
  refine gd_tup (by simp) (fun x hx => ?_) ?_
  · rw [List.mem_singleton.mp hx]; exact ⟨_, ga⟩
  · have := ga.w; simp only [wts]; omega
theorem gd2 {a b : PyData} {ka kb M N : Nat} (ga : Gd ka M a) (gb : Gd kb M b) (h : ka + kb + 7 ≤ N) : Gd N (M + 1) (.tuple [a, b]) := by
  refine gd_tup (by simp) (fun x hx => ?_) ?_
  · rcases (by simpa using hx : x = a ∨ x = b) with rfl | rfl
    · exact ⟨_, ga⟩
    · exact ⟨_, gb⟩
  · have := ga.w; have := gb.w; simp only [wts]; omega
theorem gd3 {a b c : PyData} {ka kb kc M N : Nat} (ga : Gd ka M a) (gb : Gd kb M b) (gc : Gd kc M c) (h : ka + kb + kc + 9 ≤ N) : Gd N (M + 1) (.tuple [a, b, c]) := by
  refine gd_tup (by simp) (fun x hx => ?_) ?_
  · rcases (by simpa using hx : x = a ∨ x = b ∨ x = c) with rfl | rfl | rfl
    · exact ⟨_, ga⟩
    · exact ⟨_, gb⟩
    · exact ⟨_, gc⟩
  · have := ga.w; have := gb.w; have := gc.w; simp only [wts]; omega
theorem wts_take (n : Nat) (xs : List PyData) : wts (xs.take n) ≤ wts xs := by
  have := wts_append (xs.take n) (xs.drop n)
  rw [List.take_append_drop] at this
  omega
theorem wts_drop (n : Nat) (xs : List PyData) : wts (xs.drop n) ≤ wts xs := by
  have := wts_append (xs.take n) (xs.drop n)
  rw [List.take_append_drop] at this
  omega
theorem wts_put {xs : List PyData} {k : Nat} (h : k < xs.length) (o : PyData) : wts (xs.take k ++ [o] ++ xs.drop (k + 1)) + wt xs[k] = wts xs + wt o := by
  have e := wts_append (xs.take k) (xs.drop k)
  rw [List.take_append_drop, List.drop_eq_getElem_cons h] at e
  rw [wts_append, wts_append]
  simp only [wts] at e ⊢
  omega
theorem bent_put {n m : Nat} {cs : List PyData} {k N M : Nat} {o : PyData} (g : Gd n m (.tuple cs)) (l : cs.length ≤ 10) (h : k < cs.length) (ho : Gd (wt o) M o) (hM : m ≤ M + 1) (hN : n + wt o ≤ N + wt cs[k]) : Gd N (M + 1) (.tuple (cs.take k ++ [o] ++ cs.drop (k + 1))) := by
  refine gd_tup (by simp; omega) (fun x hx => ?_) ?_
  · rcases List.mem_append.mp hx with hx | hx
    · rcases List.mem_append.mp hx with hx | hx
      · exact ⟨_, (gd_mem g (List.mem_of_mem_take hx)).mono (Nat.le_refl _) (by omega)⟩
      · rw [List.mem_singleton.mp hx]; exact ⟨_, ho⟩
    · exact ⟨_, (gd_mem g (List.mem_of_mem_drop hx)).mono (Nat.le_refl _) (by omega)⟩
  · have := wts_put h o
    have w := g.w
    simp only [wt] at w
    omega
/-- the values of which one is drawn -/
theorem bent_ok {n m : Nat} {z : Str} {xs : List PyData} {o : PyData} (g : Gd n m (.tuple (.str z :: xs))) (l : xs.length ≤ 2) (go : Gd 200 3 o) : 
    (∀ k < xs.length + 1, Gd (2 * n + 400) (m + 3) (.tuple ((.str z :: xs : List PyData).take k ++ [o] ++ (.str z :: xs : List PyData).drop (k + 1)))) ∧
    (∀ i j, Gd (2 * n + 400) (m + 3) (.tuple (((.str z :: xs : List PyData).drop i).take j))) ∧
    ∀ y ∈ [PyData.tuple (.str z :: xs ++ [o]), .list (.str z :: xs), o, .tuple [.tuple (.str z :: xs)], .tuple (.str z :: xs).reverse, .tuple [], .tuple [.str "some", .str "x", .tuple (.str z :: xs)], .tuple [.str "each", .str "y", .tuple (.str z :: xs)], .tuple [.str "not", .tuple (.str z :: xs)], .tuple [.str "some", o, .tuple (.str z :: xs)],
      .tuple [.str "and", .tuple (.str z :: xs), o], .tuple [.str "and", .tuple (.str z :: xs), .tuple (.str z :: xs)], .tuple [.str "or", o, .tuple (.str z :: xs)], .tuple [.str "mark", o, .str "t"], .tuple [.str "mark", .str "a", o], .tuple [.str "before", .str "x", o], .tuple [.str "same", o, .str "x"], .tuple [.str "not"], .tuple [.str z],
      .tuple [.str "some", .str "t", .tuple (.str z :: xs)], .tuple [.str "mark", .str "a", .str "abcdefghijklm"]], Gd (2 * n + 400) (m + 3) y := by
  have lt : (PyData.str z :: xs).length ≤ 3 := by simp; omega
  have hw := g.w
  simp only [wt] at hw
  have m1 : 1 ≤ m := by
    have := g.d
    simp only [PyData.depth] at this
    omega
  have gv : Gd n (m + 2) (.tuple (.str z :: xs)) := g.mono (Nat.le_refl _) (by omega)
  have go2 : Gd 200 (m + 2) o := go.mono (Nat.le_refl _) (by omega)
  have gm : ∀ x ∈ (PyData.str z :: xs), ∃ k, Gd k (m + 2) x := fun x hx => ⟨_, (gd_mem g hx).mono (Nat.le_refl _) (by omega)⟩
  have W : ∀ w ∈ (["some", "each", "not", "and", "or", "mark", "before", "same", "x", "y", "t", "a", "abcdefghijklm"] : List Str), okW w = true := by decide +kernel
  have gs : ∀ w ∈ (["some", "each", "not", "and", "or", "mark", "before", "same", "x", "y", "t", "a", "abcdefghijklm"] : List Str), Gd 20 (m + 2) (.str w) := fun w h => (gdW (W w h)).mono (Nat.le_refl _) (Nat.zero_le _)
  refine ⟨fun k hk => ?_, fun i j => ?_, fun y hy => ?_⟩
  · refine bent_put g (by omega) (by simpa using hk) ⟨go2.a, go2.s, Nat.le_refl _, go2.d⟩ (by omega) ?_
    have := go2.w
    omega
  · refine gd_tup (by rw [List.length_take, List.length_drop]; omega) (fun x hx => gm x (List.mem_of_mem_drop (List.mem_of_mem_take hx))) ?_
    have := wts_take j ((.str z :: xs : List PyData).drop i)
    have := wts_drop i (.str z :: xs)
    omega
  · simp only [List.mem_cons, List.not_mem_nil, or_false] at hy
    rcases hy with rfl | rfl | rfl | rfl | rfl | rfl | rfl | rfl | rfl | rfl | rfl | rfl | rfl | rfl | rfl | rfl | rfl | rfl | rfl | rfl | rfl
    · refine gd_tup (by simp; omega) (fun x hx => ?_) ?_
      · rcases List.mem_append.mp hx with hx | hx
        · exact gm x hx
        · rw [List.mem_singleton.mp hx]; exact ⟨_, go2⟩
      · rw [wts_append]; have := go2.w; simp only [wts] at hw ⊢; omega
    · exact (gd_lst (by omega) gm (Nat.le_refl _)).mono (by omega) (Nat.le_refl _)
    · exact go2.mono (by omega) (by omega)
    · exact gd1 gv (by omega)
    · refine gd_tup (by rw [List.length_reverse]; omega) (fun x hx => gm x (List.mem_reverse.mp hx)) ?_
      rw [wts_rev]; omega
    · exact (gd_of (n := 3) (m := 1) (by decide +kernel) : Gd 3 1 (.tuple [])).mono (by omega) (by omega)
    · exact gd3 (gs _ (by decide +kernel)) (gs _ (by decide +kernel)) gv (by omega)
    · exact gd3 (gs _ (by decide +kernel)) (gs _ (by decide +kernel)) gv (by omega)
    · exact gd2 (gs _ (by decide +kernel)) gv (by omega)
    · exact gd3 (gs _ (by decide +kernel)) go2 gv (by omega)
    · exact gd3 (gs _ (by decide +kernel)) gv go2 (by omega)
    · exact gd3 (gs _ (by decide +kernel)) gv gv (by omega)
    · exact gd3 (gs _ (by decide +kernel)) go2 gv (by omega)
    · exact gd3 (gs _ (by decide +kernel)) go2 (gs _ (by decide +kernel)) (by omega)
    · exact gd3 (gs _ (by decide +kernel)) (gs _ (by decide +kernel)) go2 (by omega)
    · exact gd3 (gs _ (by decide +kernel)) (gs _ (by decide +kernel)) go2 (by omega)
    · exact gd3 (gs _ (by decide +kernel)) go2 (gs _ (by decide +kernel)) (by omega)
    · exact gd1 (gs _ (by decide +kernel)) (by omega)
    · obtain ⟨k, gz⟩ := gm (.str z) (List.mem_cons_self ..)
      refine gd_tup (by simp) (fun x hx => by rw [List.mem_singleton.mp hx]; exact ⟨_, gz⟩) ?_
      simp only [wts] at hw ⊢; omega
    · exact gd3 (gs _ (by decide +kernel)) (gs _ (by decide +kernel)) gv (by omega)
    · exact gd3 (gs _ (by decide +kernel)) (gs _ (by decide +kernel)) (gs _ (by decide +kernel)) (by omega)
/-! ### what is told -/
theorem wrongs_el {b : List Str} : ∀ (k : Nat) (ws : List Str) (xs : List PyData) (p : List PyData), wrongs b k ws xs = some p → ∃ j, k ≤ j ∧ j < k + ws.length ∧ p = [.int (j : Nat)]
  | k, w :: ws, x :: xs, p, h => by
    rw [wrongs] at h
    split at h
    · cases h; exact ⟨k, Nat.le_refl _, by simp, rfl⟩
    · split at h
      · cases h; exact ⟨k, Nat.le_refl _, by simp, rfl⟩
      · obtain ⟨j, h1, h2, h3⟩ := wrongs_el (k + 1) ws xs p h
        exact ⟨j, by omega, by simp; omega, h3⟩
  | _, [], _, _, h => by unfold wrongs at h; cases h
  | _, _ :: _, [], _, h => by unfold wrongs at h; cases h
def El54 (x : PyData) : Prop := x = .int 1 ∨ x = .int 2
theorem wrongM_el {v : PyData} {b : List Str} {p : List PyData} (h : wrongM v b = some p) : ∀ x ∈ p, El54 x := by
  unfold wrongM at h
  split at h
  · split at h
    · rename_i ws hs
      split at h
      · obtain ⟨j, h1, h2, rfl⟩ := wrongs_el _ _ _ _ h
        have := sorts_len hs
        intro x hx
        rw [List.mem_singleton.mp hx]
        have : j = 1 ∨ j = 2 := by omega
        rcases this with rfl | rfl
        · exact .inl rfl
        · exact .inr rfl
      · cases h; intro x hx; cases hx
    · cases h; intro x hx; cases hx
  · cases h; intro x hx; cases hx
theorem inner_12 (z : Str) : ∀ k ∈ inner z, k = 1 ∨ k = 2 := by
  intro k hk
  unfold inner at hk
  split at hk
  · exact .inl (List.mem_singleton.mp hk)
  · split at hk
    · simpa using hk
    · split at hk
      · exact .inr (List.mem_singleton.mp hk)
      · cases hk
theorem pathC_el : ∀ (d : Nat) (v : PyData) (b : List Str) (p : List PyData), pathC d v b = some p → ∀ x ∈ p, El54 x
  | 0, _, _, _, h => by cases h
  | d + 1, v, b, p, h => by
    rw [pathC] at h
    split at h
    · rename_i q e
      cases h
      exact wrongM_el e
    · obtain ⟨q, hq, e⟩ := List.exists_of_findSome?_eq_some h
      obtain ⟨p', e1, rfl⟩ := Option.map_eq_some_iff.mp e
      have ih := pathC_el d _ _ _ e1
      intro x hx
      rcases List.mem_cons.mp hx with rfl | hx
      · unfold kids at hq
        split at hq
        · obtain ⟨k, hk, rfl⟩ := List.mem_map.mp hq
          rcases inner_12 _ k hk with rfl | rfl
          · exact .inl rfl
          · exact .inr rfl
        · cases hq
      · exact ih x hx
theorem path_gd {p : List PyData} (h : ∀ x ∈ p, El54 x) (l : p.length ≤ 30) : Gd 200 1 (.tuple p) := by
  have e1 : Gd 2 0 (.int 1) := gd_of (by decide +kernel)
  have e2 : Gd 2 0 (.int 2) := gd_of (by decide +kernel)
  have el : ∀ x ∈ p, Gd 2 0 x := fun x hx => by
    rcases h x hx with rfl | rfl
    · exact e1
    · exact e2
  refine gd_tup (by omega) (fun x hx => ⟨_, el x hx⟩) ?_
  have : ∀ q : List PyData, (∀ x ∈ q, Gd 2 0 x) → wts q ≤ 4 * q.length := fun q => by
    induction q with
    | nil => intro _; exact Nat.le_refl _
    | cons x q ih =>
      intro h
      have := ih fun y hy => h y (List.mem_cons_of_mem _ hy)
      have := (h x (List.mem_cons_self ..)).w
      simp only [wts, List.length_cons]; omega
  have := this p el
  omega
theorem told_ok (v : PyData) : okY (.list (toldC v)) := by
  have n1 : Gd 20 0 (.str "none") := gd_of (by decide +kernel)
  have n2 : Gd 20 0 .none := gd_of (by decide +kernel)
  have n3 : Gd 20 1 (.str "path") := gd_of (by decide +kernel)
  unfold toldC
  cases g : pathC 30 v [] with
  | none => 
    refine Gd.okY (n := 100) (m := 1) (gd_lst (by simp) (fun x hx => ?_) ?_) (by decide) (by decide)
    · rcases (by simpa using hx : x = .str "none" ∨ x = .none) with rfl | rfl
      · exact ⟨_, n1⟩
      · exact ⟨_, n2⟩
    · have := n1.w; have := n2.w; simp only [wts]; omega
  | some p =>
    have gp := path_gd (pathC_el _ _ _ _ g) (pathC_len _ _ _ _ g)
    refine Gd.okY (n := 300) (m := 2) (gd_lst (by simp) (fun x hx => ?_) ?_) (by decide) (by decide)
    · rcases (by simpa using hx : x = .str "path" ∨ x = .tuple p) with rfl | rfl
      · exact ⟨_, n3⟩
      · exact ⟨_, gp⟩
    · have := n3.w; have := gp.w; simp only [wts]; omega
def eqI : List PyData → List Int → Bool
  | [], [] => true
  | .int i :: xs, j :: js => decide (i = j) && eqI xs js
  | _, _ => false
theorem eqI_eq : ∀ {xs : List PyData} {js : List Int}, eqI xs js = true → xs = js.map PyData.int
  | [], [], _ => rfl
  | .int i :: xs, j :: js, h => by
    simp only [eqI, Bool.and_eq_true, decide_eq_true_iff] at h
    rw [h.1, eqI_eq h.2]; rfl
def isP (o : Option (List PyData)) (js : List Int) : Bool := match o with
  | some p => eqI p js
  | none => false
theorem isP_eq {o : Option (List PyData)} {js : List Int} (h : isP o js = true) : o = some (js.map PyData.int) := by
  cases o with
  | none => cases h
  | some p => rw [eqI_eq h]
def fitB (v : PyData) : Bool := allA v && decide (v.depth < 30) && decide (wt v ≤ 10000000)
theorem fit_of {v : PyData} (h : fitB v = true) : allA v = true ∧ v.depth < 30 ∧ wt v ≤ 10000000 := by
  unfold fitB at h
  simp only [Bool.and_eq_true, decide_eq_true_iff] at h
  exact ⟨h.1.1, h.1.2, h.2⟩
def restL : List PyData := [.str "mark", .int 0, .none, .list [], .dict [], .tuple [.str "mark", .str "a", .str "t", .str "t"], .list [.str "mark", .str "a", .str "t"], .tuple [.tuple []]]
theorem odd_told : ∀ v ∈ oddL ++ restL, (fitB v && isP (pathC 30 v []) []) = true := by decide +kernel
def bothD : PyData := .tuple [.str "and", .tuple [.str "mark", .str "a", .str "t"], .tuple [.str "some", .str "t", .tuple [.str "mark", .str "b", .str "t"]]]
def twiceD : PyData := .tuple [.str "some", .str "x", .tuple [.str "and", .tuple [.str "same", .str "x", .str "t"], .tuple [.str "each", .str "x", .tuple [.str "mark", .str "a", .str "x"]]]]
def thirdD : PyData := .tuple [.str "each", .str "t", .tuple [.str "not", bothD]]
def fourthD : PyData := .tuple [.str "or", bothD, .tuple [.str "mark", .str "a", .str "7"]]
theorem four_ok : (fitB bothD && (pathC 30 bothD []).isNone && fitB twiceD && isP (pathC 30 twiceD []) [2, 2, 1] && fitB thirdD && isP (pathC 30 thirdD []) [2, 1, 2, 1] && fitB fourthD && isP (pathC 30 fourthD []) [2, 2]) = true := by decide +kernel
end Law

end

section
set_option maxHeartbeats 4000000
namespace Law
open PySem L2 PyProof.Rows RZ Pu
def top (i : Nat) : Stmt := PySem.Challenge.pw_splitsays_k54_claims_judged.main.body.getD i (.Pass ⟨0, 0, 0, 0⟩)
abbrev sSource : Stmt := top 15
abbrev sPick : Stmt := top 16
abbrev s_is_small_letter : Stmt := top 5
abbrev s_is_digit : Stmt := top 6
abbrev s_is_word : Stmt := top 7
abbrev s_check_claim : Stmt := top 11
abbrev s__wrong_member : Stmt := top 12
abbrev s_claims_in : Stmt := top 13
abbrev s__law_source : Stmt := top 15
abbrev s__law_pick : Stmt := top 16
abbrev s__law_of : Stmt := top 17
abbrev s__law_mixed : Stmt := top 18
abbrev s__law_odd : Stmt := top 19
abbrev s__law_is_word : Stmt := top 20
abbrev s__law_inner : Stmt := top 21
abbrev s__law_path : Stmt := top 22
abbrev s__law_claim : Stmt := top 23
abbrev s__law_told_path : Stmt := top 24
abbrev s__law_bent_claim : Stmt := top 25
abbrev s__law_letters : Stmt := top 26
abbrev s_law : Stmt := top 27
abbrev s_BadClaim_init : Stmt := inClass (top 2) 0
/-- what the top has written -/
structure Blt (w : World) (K : PySem.W.Frag) (mg : Str → Option Value) : Prop where
  m_abs : mg "abs" = none
  m_all : mg "all" = none
  m_enumerate : mg "enumerate" = none
  m_int : mg "int" = none
  m_isinstance : mg "isinstance" = none
  m_len : mg "len" = none
  m_list : mg "list" = none
  m_max : mg "max" = none
  m_range : mg "range" = none
  m_repr : mg "repr" = none
  m_reversed : mg "reversed" = none
  m_set : mg "set" = none
  m_sorted : mg "sorted" = none
  m_str : mg "str" = none
  m_tuple : mg "tuple" = none
  c_LONGEST_WORD : ∃ u, mg "LONGEST_WORD" = some (.int 12 u)
  e_BadClaim : ∃ C fI fd, ExC K mg "BadClaim" C fI "path" ∧ Fun K "__init__" "BadClaim.__init__" s_BadClaim_init fI fd ∧ Binds K fd ["self", "path"] []
  d_BINDING : ∃ a, mg "BINDING" = some (.ref a) ∧ KTup K a ["some", "each"]
  d_MEMBERS : ∃ a, mg "MEMBERS" = some (.ref a) ∧ KTabA K w a [("mark", ["letter", "name"]), ("before", ["name", "name"]), ("same", ["name", "name"]), ("not", ["claim"]), ("and", ["claim", "claim"]), ("or", ["claim", "claim"]), ("some", ["bound", "claim"]), ("each", ["bound", "claim"])]
  y_BadClaim : ∀ C, mg "BadClaim" = some (.ref C) → ∃ S, mg "SayError" = some (.ref S) ∧ PySem.W.exmOne K (.ref C) (.ref S) = some true
section
variable {P : Program} {w : World} {K : PySem.W.Frag} {mg : Str → Option Value} {base : Heap}
theorem scSource : FnScope ["script", "mixed", "cell"] ["script"] (defScope sSource) := ⟨rfl, rfl, rfl, by decide +kernel, rfl, by decide +kernel, by decide +kernel⟩
/-- the source: a new dict with its cells in a new list -/
def spSource (K : PySem.W.Frag) : Sp := fun vs H Q _ => ∃ (a : Addr) (ns : List Int), vs = [.ref a] ∧ SqL K H a (ns.map V.int) ∧ ns.length ≤ 100 ∧ ∀ H' p c, Same H H' → H p = none → H c = none → SrcAt H' p c → Q (.ref p) H'
theorem ok_source {f : Addr} {fd : FuncData} (F : Fun K "_law_source" "_law_source" sSource f fd) (T : Blt w K mg) : FnOk P w K mg base CX0 1 f fd ["script"] (spSource K) := by
  refine F.ok scSource (fun vs H Q E h => ?_) (fun cdv A outer s H vs Q E hr h => ?_)
  · obtain ⟨a, ns, rfl, _⟩ := h
    rfl
  · obtain ⟨a, ns, rfl, hS, hlen, k⟩ := h
    refine ⟨_, pss_cons (ps_set (i := 1) scSource.nd rfl (Or.inl rfl) pe_int)
      (pss_cons (ps_for PassesOwn.never rfl (pi_list (pv 0)) (pg_name (i := 2) scSource.nd rfl (Or.inl rfl))
        (pss_one (ps_set (i := 1) scSource.nd rfl (Or.inl rfl) (pe_op op_mod (pe_callTy call_int1 (by rfl) T.m_int (by decide +kernel) (pa_cons (pe_op op_add (pe_op op_add (pe_op op_mul (pv 1) pe_int) (pe_op op_mul (pv 2) pe_int)) pe_int) pa_nil)) pe_int))))
      (pss_one (ps_ret (pe_disp (pps_cons pe_str (pe_revL (pe_lc (own := [("cell", 2)]) (g := gName 2) (tt := tYes) rfl scSource.nd (pi_list (pv 0)) (blkOk_by (N := ["script", "mixed", "cell"]) (sc := defScope sSource) (by decide +kernel)) (fun _ _ _ _ _ => pg_name (i := 2) scSource.nd rfl (Or.inl rfl)) (fun _ _ _ _ _ => pts_nil)
          (fun _ _ _ _ _ => pe_callB call_abs (by rfl) T.m_abs (by decide +kernel) (pa_cons (pv 2) pa_nil))))
        (pps_cons pe_str pe_int (pps_cons pe_str (pv 1) (pps_cons pe_str pe_int pps_nil)))) (by rfl) (by rfl) (fun z => by cases z) (by decide))))), ?_⟩
    refine ⟨_, rfl, a, rfl, ⟨_, hS⟩, for_list (K := K) (a := a) (xs := ns.map V.int) (fun i σ H' => ∃ (m : Int) (v : Option V), σ = [some (.ref a), some (.int m), v] ∧ H' = H) ⟨11, none, rfl, rfl⟩ (fun i σ H' _ ⟨_, _, _, e⟩ => e ▸ hS) ?_ ?_⟩
    · rintro i y σ H' hi ⟨m, v, rfl, rfl⟩
      obtain ⟨u, rfl⟩ : ∃ u, y = V.int u := by
        rw [List.getElem?_map] at hi
        cases e : ns[i]? with
        | none => rw [e] at hi; cases hi
        | some u => rw [e] at hi; exact ⟨u, (Option.some.inj hi).symm⟩
      refine ⟨_, rfl, _, _, rfl, rfl, .inr ⟨by decide, by decide⟩, _, rfl, _, _, rfl, rfl, .inr ⟨by decide, by decide⟩, _, _, rfl, rfl, _, _, rfl, rfl, .inl ⟨_, rfl, _, _, rfl, rfl, ?_, ?_⟩⟩
      · show (0 : Int) < 2147483629
        decide
      · exact ⟨_, _, rfl, rfl⟩
    · rintro σ H' ⟨m, v, rfl, rfl⟩
      intro p hp
      have s1 : Same H' (upd H' p (.dK [])) := fun b o e => by rw [upd_ne (ne_of_none e hp)]; exact e
      refine ⟨_, rfl, a, rfl, ⟨_, s1.seq hS⟩, fun D hD => ?_⟩
      have npD : p ≠ D := fun e => by rw [← e, upd_same] at hD; cases hD
      have hD0 : H' D = none := none_back (fun o e => s1 D o e) hD
      refine lc_list (K := K) (a := a) (xs := ns.map V.int) (fun i H2 => ∃ acc : List Int, acc.length = i ∧ H2 = upd (upd H' p (.dK [])) D (.lst (acc.map V.int))) ⟨[], rfl, rfl⟩ ?_ ?_ ?_
      · rintro i H2 _ ⟨acc, _, rfl⟩
        exact Same.seq (fun b o e => by rw [upd_ne (ne_of_none e hD)]; exact e) (s1.seq hS)
      · rintro i y H2 hi ⟨acc, hl, rfl⟩
        have hi63 : i < ns.length := by
          have q := (List.getElem?_eq_some_iff.mp hi).1
          rw [List.length_map] at q
          exact q
        obtain ⟨u, rfl⟩ : ∃ u, y = V.int u := by
          rw [List.getElem?_map] at hi
          cases e : ns[i]? with
          | none => rw [e] at hi; cases hi
          | some u => rw [e] at hi; exact ⟨u, (Option.some.inj hi).symm⟩
        refine ⟨rfl, ?_⟩
        simp only [tYes, ↓reduceIte]
        refine ⟨_, rfl, u, rfl, acc.map V.int, upd_same, ?_, acc ++ [if u < 0 then -u else u], by simp [hl], ?_⟩
        · rw [List.length_map, hl]
          exact small1000 (by omega)
        · rw [upd_upd]
          simp
      · rintro H2 ⟨acc, hl, rfl⟩
        refine ⟨D, _, rfl, SqL.of upd_same, fun c hc => ?_⟩
        have npc : p ≠ c := fun e => by rw [← e, upd_ne npD, upd_same] at hc; cases hc
        have nDc : D ≠ c := fun e => by rw [← e, upd_same] at hc; cases hc
        have hc0 : H' c = none := by
          rw [upd_ne (Ne.symm nDc), upd_ne (Ne.symm npc)] at hc
          exact hc
        refine ⟨_, rfl, ?_⟩
        refine ⟨by rw [upd_ne npc, upd_ne npD, upd_same], [(Sum.inr "cells", .ref c), (Sum.inr "left", .int 1), (Sum.inr "mixed", .int m), (Sum.inr "turn", .int 0)], rfl, by show 4 ≤ 15; decide, ?_⟩
        refine k _ p c (fun b o e => ?_) hp hc0 ⟨acc.reverse, 1, m, 0, ?_, ?_⟩
        · rw [upd_ne (ne_of_none e hp), upd_ne (ne_of_none e hc0), upd_ne (ne_of_none e hD0), upd_ne (ne_of_none e hp)]
          exact e
        · rw [upd_same]
          rfl
        · rw [upd_ne (Ne.symm npc), upd_same]
          simp
theorem scPick : FnScope ["source", "many", "left", "mixed"] ["source", "many"] (defScope sPick) := ⟨rfl, rfl, rfl, by decide +kernel, rfl, by decide +kernel, by decide +kernel⟩
/-- a number below many (0 where many is less than 1) -/
def SrcIs (H : Hp) (a c : Addr) (ns : List Int) (l m t : Int) : Prop := H a = some (.dK (srcD c l m t)) ∧ H c = some (.lst (ns.map V.int))
theorem SrcIs.ne {H : Hp} {a c : Addr} {ns : List Int} {l m t : Int} (h : SrcIs H a c ns l m t) : a ≠ c := ne_of h.1 h.2 (by intro z; cases z)
theorem srcput_left {c : Addr} {l m t x : Int} : putK (srcD c l m t) (Sum.inr "left") (.int x) = srcD c x m t := rfl
theorem put_mixed {c : Addr} {l m t x : Int} : putK (srcD c l m t) (Sum.inr "mixed") (.int x) = srcD c l x t := rfl
theorem put_turn {c : Addr} {l m t x : Int} : putK (srcD c l m t) (Sum.inr "turn") (.int x) = srcD c l m x := rfl
theorem SrcIs.put {H : Hp} {a c : Addr} {ns : List Int} {l m t l' m' t' : Int} (h : SrcIs H a c ns l m t) : SrcIs (upd H a (.dK (srcD c l' m' t'))) a c ns l' m' t' := ⟨upd_same, by rw [upd_ne (Ne.symm h.ne)]; exact h.2⟩
/-- all else as it was -/
def But (a c : Addr) (H H' : Hp) : Prop := ∀ b o, b ≠ a → b ≠ c → H b = some o → H' b = some o
theorem But.put {a c : Addr} {H H' : Hp} {o : HO} (h : But a c H H') : But a c H (upd H' a o) := fun b u h1 h2 e => by rw [upd_ne h1]; exact h b u h1 h2 e
theorem small15 {n : Nat} (h : n ≤ 15) : n < sizeLine := small1000 (by omega)
theorem ok_pick {f : Addr} {fd : FuncData} (F : Fun K "_law_pick" "_law_pick" sPick f fd) (T : Blt w K mg) : FnOk P w K mg base CX0 1 f fd ["source", "many"] (spX K 2 mPick) := by
  refine F.ok scPick (fun vs H Q E h => ?_) (fun cdv A outer s H vs Q E hr h => ?_)
  · obtain ⟨hid, Hb, ss, R, st, r, hl, _⟩ := h
    rw [r.length]; exact hl
  · have hu := hu_of hr
    obtain ⟨hid, Hb, ss, R, st, r, hl, ⟨n, rfl, hn, hR⟩, k⟩ := h
    obtain ⟨v1, v2, rfl, e1, e2⟩ := rep2 r
    obtain ⟨a, c, rfl, rfl⟩ := (show ∃ a c, hid = some (a, c) ∧ v1 = .ref a from e1)
    cases int_of e2
    obtain ⟨ns, l, m, t, h1, h2⟩ := st.ok
    have nhb : ∀ b, Hid.has (some (a, c)) b → Hb b = none := st.out
    -- the end: what is asked of the value and the heap
    have fin : ∀ (x : Int) (H' : Hp) (ns' : List Int) (l' m' t' : Int), SrcIs H' a c ns' l' m' t' → But a c H H' → 0 ≤ x → x < (if n > 1 then n else 1) → Q (.int x) H' := fun x H' ns' l' m' t' hs hb h0 h1 => by
      have k1 : ∀ b o, H b = some o → ¬ Hid.has (some (a, c)) b → H' b = some o := fun b o e hb' => hb b o (fun z => hb' (.inl z)) (fun z => hb' (.inr z)) e
      refine k (.int x) Hb H' (.d (.int x)) ⟨⟨fun b o e => k1 b o (st.ex b o e) (fun z => by rw [nhb b z] at e; cases e), ⟨ns', l', m', t', hs.1, hs.2⟩, st.out⟩, Same.refl _, fun b o e q => (by rw [q] at e; cases e), k1⟩ (Dq.int x) trivial (hR x h0 h1)
    refine ⟨_, Evl.pss_cut (ps_while PassesOwn.never (PW.pt (pw_and (pt_cmpR op_gt (pv 1) pe_int (nomark _)) (pw_and (pt_cmpR op_lt (pe_dget hu (pv 0) pe_str (fun _ _ => rfl)) pe_int (nomark _))
          (pw_and1 (pt_cmpR op_gt (pe_callB call_len_seq (by rfl) T.m_len PySem.boot_len (pa_cons (pe_dget hu (pv 0) pe_str (fun _ _ => rfl)) pa_nil)) pe_int (nomark _))))))
        (pss_one (ps_dput hu (pv 0) pe_str (pe_bm0 PySem.F.plainAttrs_list PySem.F.slot_list_pop PySem.F.type_list_pop mt_pop (pe_dget hu (pv 0) pe_str (fun _ _ => rfl))) rfl)))
      (pss_cons (ps_set (i := 2) scPick.nd rfl (Or.inl rfl) (pe_dget hu (pv 0) pe_str (fun _ _ => rfl)))
      (pss_cons (ps_if (PW.pt (pw_or (pt_cmpR op_lt (pv 1) pe_int (nomark _)) (pw_or1 (pt_cmpR op_gt (pv 2) pe_int (nomark _)))))
        (pss_cons (ps_dput hu (pv 0) pe_str (pe_op op_fdiv (pv 2) (pe_callB (call_max2 rfl) (by rfl) T.m_max (by decide +kernel) (pa_cons pe_int (pa_cons (pv 1) pa_nil)))) rfl)
        (pss_one (ps_ret (pe_op op_mod (pe_callTy call_int1 (by rfl) T.m_int (by decide +kernel) (pa_cons (pv 2) pa_nil)) (pe_callB (call_max2 rfl) (by rfl) T.m_max (by decide +kernel) (pa_cons pe_int (pa_cons (pv 1) pa_nil)))))))
        pss_nil)
      (pss_cons (ps_dput hu (pv 0) pe_str (pe_op op_add (pe_dget hu (pv 0) pe_str (fun _ _ => rfl)) pe_int) rfl)
      (pss_cons (ps_set (i := 3) scPick.nd rfl (Or.inl rfl) (pe_op op_mod (pe_callTy call_int1 (by rfl) T.m_int (by decide +kernel) (pa_cons (pe_op op_add (pe_dget hu (pv 0) pe_str (fun _ _ => rfl)) (pe_op op_mul (pe_dget hu (pv 0) pe_str (fun _ _ => rfl)) pe_int)) pa_nil)) pe_int))
      (pss_cons (ps_set (i := 3) scPick.nd rfl (Or.inl rfl) (pe_op op_mod (pe_callTy call_int1 (by rfl) T.m_int (by decide +kernel) (pa_cons (pe_op op_add (pe_op op_mul (pv 3) (pv 3)) (pe_op op_mul (pe_dget hu (pv 0) pe_str (fun _ _ => rfl)) pe_int)) pa_nil)) pe_int))
      (pss_cons (ps_dput hu (pv 0) pe_str (pv 3) rfl)
      (pss_one (ps_ret (pe_op op_mod (pe_callTy call_int1 (by rfl) T.m_int (by decide +kernel) (pa_cons (pe_op op_fdiv (pv 3) pe_int) pa_nil)) (pv 1)))))))))), ?_⟩
    refine ⟨fun σ H' => ∃ (ns' : List Int) (l' m' t' : Int), σ = [some (.ref a), some (.int n), none, none] ∧ SrcIs H' a c ns' l' m' t' ∧ But a c H H', ?_, ?_⟩
    · -- the while: the cells fall
      refine ⟨fun z σ H' => ∃ (ns' : List Int) (l' m' t' : Int), z = ns'.length ∧ σ = [some (.ref a), some (.int n), none, none] ∧ SrcIs H' a c ns' l' m' t' ∧ But a c H H', ⟨_, ns, l, m, t, rfl, rfl, ⟨h1, h2⟩, fun _ _ _ _ e => e⟩, ?_⟩
      rintro z σ H' ⟨ns', l', m', t', rfl, rfl, hs, hb⟩
      refine ⟨_, rfl, _, _, rfl, rfl, _, rfl, ?_⟩
      refine ite2 (fun _ => ?_) (fun _ => ⟨ns', l', m', t', rfl, hs, hb⟩)
      refine ⟨_, rfl, a, _, rfl, DGet.k (k := Sum.inr "left") hs.1, _, _, rfl, rfl, _, rfl, ?_⟩
      refine ite2 (fun _ => ?_) (fun _ => ⟨ns', l', m', t', rfl, hs, hb⟩)
      refine ⟨_, rfl, a, _, rfl, DGet.k (k := Sum.inr "cells") hs.1, c, _, rfl, .inl (SqL.of hs.2), _, _, rfl, rfl, _, rfl, ?_⟩
      rw [List.length_map]
      refine ite2 (fun hlen => ?_) (fun _ => ⟨ns', l', m', t', rfl, hs, hb⟩)
      have hpos : 0 < ns'.length := by
        have := of_decide_eq_true hlen
        omega
      refine ⟨fun σ2 H2 => ∃ (ns2 : List Int) (l2 m2 t2 : Int), ns2.length < ns'.length ∧ σ2 = [some (.ref a), some (.int n), none, none] ∧ SrcIs H2 a c ns2 l2 m2 t2 ∧ But a c H H2, fun σ2 H2 ⟨ns2, l2, m2, t2, q1, q2, q3, q4⟩ => ⟨_, q1, ns2, l2, m2, t2, rfl, q2, q3, q4⟩, ?_⟩
      have hlast : (ns'.map V.int)[(ns'.map V.int).length - 1]? = some (.int (ns'.getLast (List.ne_nil_of_length_pos hpos))) := by
        rw [List.length_map, List.getElem?_map, ← List.getLast?_eq_getElem?, List.getLast?_eq_some_getLast (List.ne_nil_of_length_pos hpos)]
        rfl
      refine ⟨_, rfl, a, _, rfl, DGet.k (k := Sum.inr "cells") hs.1, .inl ⟨rfl, _, SqL.of hs.2⟩, c, _, _, rfl, rfl, hs.2, hlast, ?_⟩
      have nac := hs.ne
      refine ⟨_, rfl, a, _, rfl, DPut.k (k := Sum.inr "left") (kvs := srcD c l' m' t') (by rw [upd_ne nac]; exact hs.1) (small15 (by show 4 ≤ 15; decide)), ?_⟩
      refine ⟨ns'.dropLast, _, m', t', by rw [List.length_dropLast]; omega, rfl, ⟨by rw [srcput_left]; exact upd_same, by rw [upd_ne (Ne.symm nac), upd_same, List.map_dropLast]⟩, fun b o g1 g2 e => ?_⟩
      rw [upd_ne g1, upd_ne g2]
      exact hb b o g1 g2 e
    · rintro σ H' ⟨ns', l', m', t', rfl, hs, hb⟩
      -- left = source['left']
      refine ⟨_, rfl, a, _, rfl, DGet.k (k := Sum.inr "left") hs.1, ?_⟩
      have way : 0 < (if n > 1 then n else 1 : Int) ∧ (if n > 1 then n else 1 : Int) < 1073741824 := by split <;> omega
      have out : ∀ (H1 : Hp), H1 = H' → tSeq (sDPut (tVar 0) (tC (.str "left")) (tOp (rI CDiv fun i j => .int (i / j)) (tVar 2) (tCB (fun xs H Q => ∃ i j, xs = [.int i, .int j] ∧ Q (.int (if j > i then j else i)) H) (tCons (tC (.int 1)) (tCons (tVar 1) tNil)))))
          (tRet (tOp (rI (fun _ j => 0 < j) fun i j => .int (i % j)) (tCB (fun xs H Q => (∃ i, xs = [.int i] ∧ Q (.int i) H) ∨ ∃ k, xs = [.bl k] ∧ Q (.int (if k then 1 else 0)) H) (tCons (tVar 2) tNil)) (tCB (fun xs H Q => ∃ i j, xs = [.int i, .int j] ∧ Q (.int (if j > i then j else i)) H) (tCons (tC (.int 1)) (tCons (tVar 1) tNil)))))
          { nx := fun _ _ => False, rt := Q } [some (.ref a), some (.int n), some (.int l'), none] H1 := by
        rintro H1 rfl
        refine ⟨_, rfl, _, rfl, _, _, rfl, _, _, rfl, rfl, way, _, rfl, a, _, rfl, DPut.k (k := Sum.inr "left") hs.1 (small15 (by show 4 ≤ 15; decide)), ?_⟩
        refine ⟨_, rfl, .inl ⟨_, rfl, _, rfl, _, _, rfl, _, _, rfl, rfl, way.1, ?_⟩⟩
        rw [srcput_left]
        exact fin _ _ ns' _ m' t' hs.put hb.put (Int.emod_nonneg _ (by omega)) (Int.emod_lt_of_pos _ way.1)
      -- if many < 2 or left > 1
      refine ⟨_, rfl, _, _, rfl, rfl, _, rfl, ?_⟩
      refine ite2 (fun _ => ?_) (fun hn2 => ?_)
      · exact out H' rfl
      · refine ⟨_, rfl, _, _, rfl, rfl, _, rfl, ?_⟩
        refine ite2 (fun _ => ?_) (fun _ => ?_)
        · exact out H' rfl
        · have hn2' : 2 ≤ n := by
            have : ¬ n < 2 := fun z => hn2 (decide_eq_true z)
            omega
          -- source['turn'] = source['turn'] + 1
          refine ⟨_, rfl, a, _, rfl, DGet.k (k := Sum.inr "turn") hs.1, _, _, rfl, rfl, _, rfl, a, _, rfl, DPut.k (k := Sum.inr "turn") hs.1 (small15 (by show 4 ≤ 15; decide)), ?_⟩
          rw [put_turn]
          have hs1 : SrcIs (upd H' a (.dK (srcD c l' m' (t' + 1)))) a c ns' l' m' (t' + 1) := hs.put
          have hb1 : But a c H (upd H' a (.dK (srcD c l' m' (t' + 1)))) := hb.put
          refine ⟨_, rfl, a, _, rfl, DGet.k (k := Sum.inr "mixed") hs1.1, _, rfl, a, _, rfl, DGet.k (k := Sum.inr "turn") hs1.1, _, _, rfl, rfl, .inr ⟨by decide, by decide⟩, _, _, rfl, rfl, .inl ⟨_, rfl, _, _, rfl, rfl, ?_, ?_⟩⟩
          · show (0 : Int) < 998244353
            decide
          have p1 := Int.emod_nonneg (m' + (t' + 1) * 104729) (show (998244353 : Int) ≠ 0 by decide)
          have p2 := Int.emod_lt_of_pos (m' + (t' + 1) * 104729) (show (0 : Int) < 998244353 by decide)
          refine ⟨_, rfl, _, rfl, _, _, rfl, rfl, .inl ⟨by omega, by omega⟩, _, rfl, a, _, rfl, DGet.k (k := Sum.inr "turn") hs1.1, _, _, rfl, rfl, .inr ⟨by decide, by decide⟩, _, _, rfl, rfl, .inl ⟨_, rfl, _, _, rfl, rfl, ?_, ?_⟩⟩
          · show (0 : Int) < 2147483647
            decide
          refine ⟨_, rfl, _, rfl, a, _, rfl, DPut.k (k := Sum.inr "mixed") hs1.1 (small15 (by show 4 ≤ 15; decide)), ?_⟩
          rw [put_mixed]
          refine ⟨_, rfl, _, _, rfl, rfl, ⟨by decide, by decide⟩, .inl ⟨_, rfl, _, rfl, _, _, rfl, rfl, by omega, ?_⟩⟩
          exact fin _ _ ns' l' _ _ hs1.put hb1.put (Int.emod_nonneg _ (by omega)) (by rw [if_pos (by omega)]; exact Int.emod_lt_of_pos _ (by omega))

theorem sc_mixed : FnScope ["source", "things", "rest", "lap"] ["source", "things"] (defScope s__law_mixed) := ⟨rfl, rfl, rfl, by decide +kernel, rfl, by decide +kernel, by decide +kernel⟩
theorem DqAll.eraseIdx {H : Hp} : ∀ {ds : List PyData} {vs : List V} (n : Nat), DqAll K H vs ds → DqAll K H (vs.eraseIdx n) (ds.eraseIdx n)
  | _, _, _, .nil => .nil
  | _, _, 0, .cons _ t => t
  | _, _, n + 1, .cons h t => .cons h (DqAll.eraseIdx n t)
theorem small1000000 {n : Nat} (h : n ≤ 1000000) : n < sizeLine := by rw [sizeLine_eq]; omega
theorem perm_pop {α : Type} {as rs : List α} {k : Nat} {y : α} (h : rs[k]? = some y) : ((as ++ [y]) ++ rs.eraseIdx k).Perm (as ++ rs) := by
  rw [List.append_assoc]
  exact List.Perm.append_left as (erase_perm rs k y h)
theorem fn_mixed (A : At K mg "_law_mixed" s__law_mixed ["source", "things"]) (T : Blt w K mg) (G_pick : Fn P w K mg base "_law_pick" 1 ["source", "many"] (spX K 2 mPick)) : Fn P w K mg base "_law_mixed" 2 ["source", "things"] (spX K 2 mMixed) := by
  obtain ⟨gf, gfd, gm, gk, gb, GP⟩ := G_pick.ex
  refine .mk' A fun f fd Fu => goes_of0 Fu sc_mixed (fun vs H Q E h => ?_) (fun cdv B above s H vs Q E hr hsp => ?_)
  · obtain ⟨hid, Hb, ss, R, st, r, hl, _⟩ := h
    rw [r.length]; exact hl
  · obtain ⟨hid, Hb, ss, R, st, r, hl, ⟨xs, rfl, hx, hm⟩, c⟩ := hsp
    refine ⟨_, pss_cons (ps_set (i := 2) sc_mixed.nd rfl (by first | exact Or.inl rfl | exact Or.inr rfl) (pe_callTy (k_list (K := K) rfl) (by rfl) T.m_list (by decide +kernel) (pa_cons (pe_var (i := 1) rfl (by first | exact Or.inl rfl | exact Or.inr (Or.inl rfl)) (by decide) (by decide)) pa_nil)))
      (pss_one (ps_ret (pe_lc (own := [("lap", 3)]) (g := gName 3) (tt := tYes) (te := tBM K "list" rPopAt (tVar 2) (tCons (tFn (spX K 2 mPick) (tCons (tVar 0) (tCons (tCB (fun xs H Q => ∃ x n, xs = [x] ∧ LenV K x H n ∧ Q (.int n) H) (tCons (tVar 2) tNil)) tNil))) tNil)) rfl sc_mixed.nd
        (pi_range1 (by rfl) T.m_range (pa_cons (pe_callB (k_len (K := K) rfl) (by rfl) T.m_len (by decide +kernel) (pa_cons (pe_var (i := 2) rfl (by first | exact Or.inl rfl | exact Or.inr (Or.inl rfl)) (by decide) (by decide)) pa_nil)) pa_nil))
        (blkOk_by (N := ["source", "things", "rest", "lap"]) (sc := defScope s__law_mixed) (by decide +kernel)) (fun _ _ _ _ _ => pg_name (i := 3) sc_mixed.nd rfl (by first | exact Or.inl rfl | exact Or.inr rfl)) (fun _ _ _ _ _ => pts_nil)
        (fun _ _ _ _ _ => pe_bm PySem.F.plainAttrs_list PySem.F.slot_list_pop PySem.F.type_list_pop mt_popAt (pe_var (i := 2) rfl (by first | exact Or.inl rfl | exact Or.inr (Or.inl rfl) | exact Or.inr (Or.inr rfl)) (by decide) (by decide))
          (pa_cons (pe_callG GP (hr.mono (by decide)) (by rfl) gm gk gb pass0 (pa_cons (pe_var (i := 0) rfl (by first | exact Or.inl rfl | exact Or.inr (Or.inl rfl) | exact Or.inr (Or.inr rfl)) (by decide) (by decide)) (pa_cons (pe_callB (k_len (K := K) rfl) (by rfl) T.m_len (by decide +kernel) (pa_cons (pe_var (i := 2) rfl (by first | exact Or.inl rfl | exact Or.inr (Or.inl rfl) | exact Or.inr (Or.inr rfl)) (by decide) (by decide)) pa_nil)) pa_nil))) pa_nil))))), ?_⟩
    cases r with
    | @cons v0 vs0 s0 ss0 r0 e0 r1 =>
    obtain ⟨v1, rfl, rT⟩ := rep1 r1
    obtain ⟨sa, sc', ehid, rfl⟩ := (show RepSl K hid Hb H v0 .src from r0)
    cases (show Dq K Hb v1 (.list xs) from rT) with
    | @lst th vs _ h1 h2 =>
    have hlen := DqAll.length h2
    refine ⟨.ref th, rfl, th, vs, rfl, .inl (SqL.of (st.ex _ _ h1)), fun l hl0 => ?_⟩
    have nl : ¬ hid.has l := fun z => by obtain ⟨o, e⟩ := st.ok.there z; rw [hl0] at e; cases e
    have bl : Hb l = none := none_back (fun o e => st.ex l o e) hl0
    have s1 : Step hid Hb H Hb (upd H l (.lst vs)) := Step.raw st hl0
    refine ⟨.ref l, rfl, .ref l, vs.length, rfl, .inl ⟨_, SqL.of upd_same, rfl⟩, (vs.length : Int), rfl, by omega, by omega, fun D hD => ?_⟩
    have ne : l ≠ D := fun z => by rw [← z, upd_same] at hD; cases hD
    have hD0 : H D = none := by rw [upd_ne (Ne.symm ne)] at hD; exact hD
    have nD : ¬ hid.has D := fun z => by obtain ⟨o, e⟩ := st.ok.there z; rw [hD0] at e; cases e
    have bD : Hb D = none := none_back (fun o e => st.ex D o e) hD0
    have wr : ∀ {Hb' H' : Hp} (a : Addr) (o : HO), Step hid Hb H Hb' H' → H a = none → Hb' a = none → ¬ hid.has a → Step hid Hb H Hb' (upd H' a o) := fun {Hb' H'} a o z h0 hb hn =>
      ⟨⟨fun b u e => by rw [upd_ne (fun q : b = a => by rw [q, hb] at e; cases e)]; exact z.st.ex b u e, z.st.ok.keeps fun b u hb' e => by rw [upd_ne (fun q : b = a => hn (q ▸ hb'))]; exact e, z.st.out⟩, z.ex, z.new,
        fun b u e hb' => by rw [upd_ne (ne_of_none e h0)]; exact z.keep b u e hb'⟩
    refine lc_range (fun i H' => ∃ Hb' rest acc rs as, Step hid Hb H Hb' H' ∧ H' l = some (.lst rest) ∧ H' D = some (.lst acc) ∧ Hb' l = none ∧ Hb' D = none ∧ DqAll K Hb' rest rs ∧ DqAll K Hb' acc as ∧ (as ++ rs).Perm xs ∧ as.length = i)
      ⟨Hb, vs, [], xs, [], wr D _ s1 hD0 bD nD, by rw [upd_ne ne]; exact upd_same, upd_same, bl, bD, h2, .nil, List.Perm.refl _, rfl⟩ ?_ ?_
    · rintro i H' hi ⟨Hb', rest, acc, rs, as, z, gl, gD, bl', bD', q1, q2, pm, hal⟩
      refine ⟨rfl, ?_⟩
      show tBM K "list" rPopAt (tVar 2) _ _ H' _
      have lr := DqAll.length q1
      have la := DqAll.length q2
      have lp := pm.length_eq
      rw [List.length_append] at lp
      refine ⟨.ref l, rfl, .inl ⟨rfl, _, SqL.of gl⟩, .ref sa, rfl, .ref l, rfl, _, rest.length, rfl, .inl ⟨_, SqL.of gl, rfl⟩, hid, Hb', [.src, .d (.int rest.length)], (fun u => ∃ k : Int, u = .d (.int k) ∧ 0 ≤ k ∧ k < rest.length), z.st, .cons ⟨sa, sc', ehid, rfl⟩ rfl (.cons (Dq.int _) rfl .nil), rfl, ⟨rest.length, rfl, by omega, fun k k0 k1 => ⟨k, rfl, k0, ?_⟩⟩, ?_⟩
      · have hpos : 0 < rest.length := by omega
        split at k1 <;> omega
      · rintro v Hb2 H2 u z2 ru fu ⟨k, rfl, k0, k1⟩
        obtain rfl := int_of ru
        have gl2 : H2 l = some (.lst rest) := z2.keep l _ gl nl
        have gD2 : H2 D = some (.lst acc) := z2.keep D _ gD nD
        have keepN : ∀ a o, H' a = some o → Hb' a = none → Hb2 a = none := fun a o e1 e2 => by
          cases q : Hb2 a with
          | none => rfl
          | some u => have := z2.new a u q e2; rw [e1] at this; cases this
        have hk : k.toNat < rest.length := by omega
        obtain ⟨y, hy⟩ : ∃ y, rest[k.toNat]? = some y := ⟨_, List.getElem?_eq_getElem hk⟩
        obtain ⟨d, hd, qd⟩ := DqAll.get (DqAll.mono z2.ex q1) hy
        refine ⟨l, rest, k, k.toNat, y, rfl, rfl, gl2, by omega, by omega, ?_, hy, ?_⟩
        · unfold seqIndex?
          first | (simp; omega) | (split <;> simp <;> omega)
        · have gD3 : (upd H2 l (.lst (rest.eraseIdx k.toNat))) D = some (.lst acc) := by rw [upd_ne (Ne.symm ne)]; exact gD2
          refine ⟨acc, gD3, by rw [la]; exact small1000000 (by omega), Hb2, rest.eraseIdx k.toNat, acc ++ [y], rs.eraseIdx k.toNat, as ++ [d], ?_, ?_, upd_same, keepN l _ gl bl', keepN D _ gD bD', ?_, DqAll.append (DqAll.mono z2.ex q2) (.cons qd .nil), (perm_pop hd).trans pm, by simp [hal]⟩
          · exact wr D _ (wr l _ (z.trans z2) hl0 (keepN l _ gl bl') nl) hD0 (keepN D _ gD bD') nD
          · rw [upd_ne ne]; exact upd_same
          · exact DqAll.eraseIdx _ (DqAll.mono z2.ex q1)
    · rintro H' ⟨Hb', rest, acc, rs, as, z, gl, gD, bl', bD', q1, q2, pm, hal⟩
      have lp := pm.length_eq
      rw [List.length_append] at lp
      have e0 : rs = [] := List.eq_nil_of_length_eq_zero (by omega)
      subst e0
      rw [List.append_nil] at pm
      exact c (.ref D) Hb' H' (.own as) z ⟨D, acc, rfl, gD, q2, bD', nD⟩ (fun p e => by cases e; exact hD0) (hm as pm)
theorem sc_is_small_letter : FnScope ["sign"] ["sign"] (defScope s_is_small_letter) := ⟨rfl, rfl, rfl, by decide +kernel, rfl, by decide +kernel, by decide +kernel⟩
theorem fn_is_small_letter (A : At K mg "is_small_letter" s_is_small_letter ["sign"]) (T : Blt w K mg) : Fn P w K mg base "is_small_letter" 1 ["sign"] (spX K 1 m_is_small_letter) := by
  refine fnD (k := 0) (m := m_is_small_letter) A sc_is_small_letter (fun G f cdv A outer s H E hr ss R hl hm => ?_)
  refine ⟨_, _, (dss_one (ds_ret (de_chain op_le_str (fun _ => lo_leS) op_le_str (fun _ => lo_leS) de_str (de_v 0) de_str))), ?_⟩
  obtain ⟨z, rfl, hR⟩ := hm
  refine ⟨_, rfl, ?_⟩
  cases e : leS "a" z with
  | true =>
    refine (show (if true = true then _ else _) from ?_); rw [if_pos rfl]
    have q : smallP z = leS z "z" := by unfold smallP; rw [e, Bool.true_and]
    rw [q] at hR
    exact hR
  | false =>
    refine (show (if false = true then _ else _) from ?_); rw [if_neg (by decide)]
    have q : smallP z = false := by unfold smallP; rw [e, Bool.false_and]
    rw [q] at hR
    exact hR

theorem sc_is_digit : FnScope ["sign"] ["sign"] (defScope s_is_digit) := ⟨rfl, rfl, rfl, by decide +kernel, rfl, by decide +kernel, by decide +kernel⟩
theorem fn_is_digit (A : At K mg "is_digit" s_is_digit ["sign"]) (T : Blt w K mg) : Fn P w K mg base "is_digit" 1 ["sign"] (spX K 1 m_is_digit) := by
  refine fnD (k := 0) (m := m_is_digit) A sc_is_digit (fun G f cdv A outer s H E hr ss R hl hm => ?_)
  refine ⟨_, _, (dss_one (ds_ret (de_chain op_le_str (fun _ => lo_leS) op_le_str (fun _ => lo_leS) de_str (de_v 0) de_str))), ?_⟩
  obtain ⟨z, rfl, hR⟩ := hm
  refine ⟨_, rfl, ?_⟩
  cases e : leS "0" z with
  | true =>
    refine (show (if true = true then _ else _) from ?_); rw [if_pos rfl]
    have q : digitP z = leS z "9" := by unfold digitP; rw [e, Bool.true_and]
    rw [q] at hR
    exact hR
  | false =>
    refine (show (if false = true then _ else _) from ?_); rw [if_neg (by decide)]
    have q : digitP z = false := by unfold digitP; rw [e, Bool.false_and]
    rw [q] at hR
    exact hR

theorem sc_claims_in : FnScope ["claim", "at", "sort"] ["claim"] (defScope s_claims_in) := ⟨rfl, rfl, rfl, by decide +kernel, rfl, by decide +kernel, by decide +kernel⟩
theorem fn_claims_in (A : At K mg "claims_in" s_claims_in ["claim"]) (T : Blt w K mg) : Fn P w K mg base "claims_in" 1 ["claim"] (spX K 1 m_claims_in) := by
  obtain ⟨a_MEMBERS, h_MEMBERS, t_MEMBERS⟩ := T.d_MEMBERS
  refine fnD (k := 0) (m := m_claims_in) A sc_claims_in (fun G f cdv A outer s H E hr ss R hl hm => ?_)
  refine ⟨_, _, (dss_one (ds_ret (de_lc (own := [("at", 1), ("sort", 2)]) sc_claims_in.nd (ki_enumK (K := K) rfl T.m_enumerate (da_cons (de_ix (k_ixKT (K := K) rfl rfl) (fun _ => lo_ixA t_MEMBERS) (de_globK h_MEMBERS) (de_ix (k_ix (K := K) rfl) (fun _ => lo_ix) (de_v 0) de_int)) da_nil)) (blkOk_by (N := ["claim", "at", "sort"]) (sc := defScope s_claims_in) (by decide +kernel)) (fun _ _ _ _ _ => by exact (kg_tup (K := K) (n := 2) rfl rfl (dgs_cons (dg_name 1 (by decide) sc_claims_in.nd) (dgs_cons (dg_name 2 (by decide) sc_claims_in.nd) dgs_nil)))) (fun _ _ _ _ _ => by exact (dp_one (by exact (dt_cmp op_eq (fun _ => lo_eqS) (de_v 2) de_str)))) (fun _ _ _ _ _ => by exact (de_v 1))))), ?_⟩
  obtain ⟨z, xs, rfl, hz, hR⟩ := hm
  have kd := kd_of hz
  have z1 : ∀ n : Nat, n ≤ 100 → n ≤ sizeLine := fun n h => s16 (by omega)
  cases kd with
  | A a b s ha hb ha2 hb2 i bd zz =>
    refine ⟨_, at_0, _, _, rfl, rfl, tbOf s, _, rfl, z1 _ (by simp [numD_length]), ?_⟩
    rw [i] at hR
    refine ⟨_, rfl, rfl, _, _, rfl, _, _, rfl, rfl, _, rfl, ?_⟩
    refine ifS (fun h => absurd h ha) (fun _ => ?_)
    refine ⟨_, rfl, rfl, _, _, rfl, _, _, rfl, rfl, _, rfl, ?_⟩
    refine ifS (fun h => absurd h hb) (fun _ => ?_)
    exact hR
  | N zz s i bd =>
    refine ⟨_, at_0, _, _, rfl, rfl, tbOf s, _, rfl, z1 _ (by simp [numD_length]), ?_⟩
    rw [i] at hR
    refine ⟨_, rfl, rfl, _, _, rfl, _, _, rfl, rfl, _, rfl, ?_⟩
    refine ifS (fun _ => ?_) (fun h => absurd rfl h)
    exact ⟨_, rfl, hR⟩
  | C zz s i bd =>
    refine ⟨_, at_0, _, _, rfl, rfl, tbOf s, _, rfl, z1 _ (by simp [numD_length]), ?_⟩
    rw [i] at hR
    refine ⟨_, rfl, rfl, _, _, rfl, _, _, rfl, rfl, _, rfl, ?_⟩
    refine ifS (fun _ => ?_) (fun h => absurd rfl h)
    refine ⟨_, rfl, _, rfl, rfl, _, _, rfl, _, _, rfl, rfl, _, rfl, ?_⟩
    refine ifS (fun _ => ?_) (fun h => absurd rfl h)
    exact ⟨_, rfl, hR⟩
  | Q zz s i bd =>
    refine ⟨_, at_0, _, _, rfl, rfl, tbOf s, _, rfl, z1 _ (by simp [numD_length]), ?_⟩
    rw [i] at hR
    refine ⟨_, rfl, rfl, _, _, rfl, _, _, rfl, rfl, _, rfl, ?_⟩
    refine ifS (fun h => absurd h (by decide +kernel)) (fun _ => ?_)
    refine ⟨_, rfl, rfl, _, _, rfl, _, _, rfl, rfl, _, rfl, ?_⟩
    refine ifS (fun _ => ?_) (fun h => absurd rfl h)
    exact ⟨_, rfl, hR⟩

theorem sc__law_is_word : FnScope ["value", "sign"] ["value"] (defScope s__law_is_word) := ⟨rfl, rfl, rfl, by decide +kernel, rfl, by decide +kernel, by decide +kernel⟩
theorem fn__law_is_word (A : At K mg "_law_is_word" s__law_is_word ["value"]) (T : Blt w K mg) : Fn P w K mg base "_law_is_word" 1 ["value"] (spX K 1 m__law_is_word) := by
  refine fnD (k := 0) (m := m__law_is_word) A sc__law_is_word (fun G f cdv A outer s H E hr ss R hl hm => ?_)
  refine ⟨_, _, (dss_cons (ds_if (DW.dt (dw_or (dt_not (dt_val (de_callB (k_isi (K := K) rfl) (fun _ => lc_isi) T.m_isinstance (da_cons (de_v 0) (da_cons (de_bltn (x := "str") (n := "str") T.m_str) da_nil))))) (dw_or (dt_not (dt_chain op_lt (fun _ => lo_lt) op_lt (fun _ => lo_lt) de_int (de_callB (k_len (K := K) rfl) (fun _ => lc_len) T.m_len (da_cons (de_v 0) da_nil)) de_int)) (dw_or1 (dt_cmp op_notIn_str (fun _ => lo_ninS) (de_ix (k_ix (K := K) rfl) (fun _ => lo_ix) (de_v 0) de_int) de_str))))) (dss_one (ds_ret de_bl)) dss_nil)
      (dss_one (ds_ret (de_cmp (k_eq (K := K) rfl hr.units) (fun _ => lo_eq) (de_lc (own := [("sign", 1)]) sc__law_is_word.nd (di_str (de_v 0)) (blkOk_by (N := ["value", "sign"]) (sc := defScope s__law_is_word) (by decide +kernel)) (fun _ _ _ _ _ => by exact (dg_name 1 (by decide) sc__law_is_word.nd)) (fun _ _ _ _ _ => by exact (dp_one (by exact (dt_cmp op_notIn_str (fun _ => lo_ninS) (de_v 1) de_str)))) (fun _ _ _ _ _ => by exact (de_v 1))) (de_lst da_nil))))), ?_⟩
  obtain ⟨d, rfl, ha, hR⟩ := hm
  cases d
  case str w =>
    obtain ⟨hc, hl40⟩ := okT_iff.mp ha
    have hl : w.length ≤ 100 := Nat.le_trans hl40 (by decide)
    have hz : w.length ≤ sizeLine := by rw [sizeLine_eq]; omega
    have hRw : R (.d (.bool (wdP w))) := hR
    refine if_iffS (¬ (1 ≤ w.length ∧ w.length ≤ 12 ∧ smallP ((chS w).headD "") = true)) (1 ≤ w.length ∧ w.length ≤ 12 ∧ smallP ((chS w).headD "") = true) (fun Q hp hq => ?_) (fun h => ?_) (fun h => ?_)
    · refine ⟨_, rfl, _, rfl, ?_⟩
      refine ifb (fun h => absurd h (by decide)) (fun _ => ?_)
      refine ⟨hz, _, rfl, ?_⟩
      refine ifb (fun h0 => ?_) (fun h0 => ?_)
      · have h0 : (0 : Int) < (w.length : Int) := of_decide_eq_true h0
        refine ⟨_, rfl, ?_⟩
        by_cases c13 : ((w.length : Nat) : Int) < 13
        · refine ifb (fun h => ?_) (fun _ => ?_)
          · have h : (!decide (((w.length : Nat) : Int) < 13)) = true := h
            rw [decide_eq_true c13] at h
            cases h
          · obtain ⟨c, cs, ec⟩ := chS_ne (w := w) (by omega)
            have eh : (chS w).headD "" = ⟨#[c]⟩ := by unfold chS; rw [ec]; rfl
            have c1 : c < 128 := hc c (by rw [ec]; exact List.mem_cons_self ..)
            refine ⟨c, hz, by rw [ec]; exact at_0, _, rfl, ?_⟩
            rw [Bool.true_bne, small_occ c c1]
            rw [eh] at hp hq
            cases g : smallP ⟨#[c]⟩ with
            | true => exact hq ⟨by omega, by omega, g⟩
            | false => exact hp (fun q => by rw [g] at q; cases q.2.2)
        · refine ifb (fun _ => hp (fun q => c13 (by omega))) (fun h => ?_)
          have h : (!decide (((w.length : Nat) : Int) < 13)) = false := h
          rw [decide_eq_false c13] at h
          cases h
      · have h0 : ¬ (0 : Int) < (w.length : Int) := of_decide_eq_false h0
        refine ⟨_, rfl, ?_⟩
        refine ifb (fun _ => hp (fun q => h0 (by omega))) (fun h => absurd h (by decide))
    · have e : wdP w = false := by
        unfold wdP
        by_cases c : 1 ≤ w.length
        · by_cases c2 : w.length ≤ 12
          · have c3 : smallP ((chS w).headD "") = false := by
              cases g : smallP ((chS w).headD "") with
              | false => rfl
              | true => exact absurd ⟨c, c2, g⟩ h
            rw [c3, Bool.and_false, Bool.false_and]
          · rw [decide_eq_false c2, Bool.and_false, Bool.false_and, Bool.false_and]
        · rw [decide_eq_false c, Bool.false_and, Bool.false_and, Bool.false_and]
      rw [e] at hRw
      exact hRw
    · have e1 : wdP w = (chS w).all fun z => smallP z || digitP z := by
        unfold wdP
        rw [decide_eq_true h.1, decide_eq_true h.2.1, h.2.2, Bool.true_and, Bool.true_and]
        rfl
      rw [e1] at hRw
      dsimp only [dNext]
      refine ⟨w, rfl, ?_⟩
      refine ⟨chars_len hl, ?_⟩
      have both : ∀ c < 128, occS ⟨#[c]⟩ "abcdefghijklmnopqrstuvwxyz0123456789" = (smallP ⟨#[c]⟩ || digitP ⟨#[c]⟩) := by decide +kernel
      refine lc_fmGo (fun c => PyData.str ⟨#[c]⟩) (fun c => if (smallP ⟨#[c]⟩ || digitP ⟨#[c]⟩) = true then none else some (PyData.str ⟨#[c]⟩)) w.cps.toList [] (fun x hx k hk => ?_) ?_
      · unfold dTurn
        refine ⟨_, rfl, ?_⟩
        rw [Bool.true_bne, both x (hc x hx)]
        cases g : (smallP ⟨#[x]⟩ || digitP ⟨#[x]⟩) with
        | true =>
          rw [g, if_pos rfl] at hk
          exact hk
        | false =>
          rw [g, if_neg (by decide)] at hk
          exact ⟨_, rfl, hk⟩
      · rw [List.nil_append, fm_filter]
        refine ⟨_, rfl, s16 (by show 0 ≤ 16777216; omega), okD1_chars fun c hcm => hc c (List.mem_filter.mp hcm).1, okD1_nil, ?_⟩
        rw [eqvD_nil, filter_empty]
        have e2 : (w.cps.toList.all fun c => smallP ⟨#[c]⟩ || digitP ⟨#[c]⟩) = (chS w).all fun z => smallP z || digitP z := by
          unfold chS
          rw [List.all_map]
          rfl
        rw [e2]
        exact hRw
  all_goals exact ⟨_, rfl, _, rfl, hR⟩

theorem sc__law_inner : FnScope ["claim"] ["claim"] (defScope s__law_inner) := ⟨rfl, rfl, rfl, by decide +kernel, rfl, by decide +kernel, by decide +kernel⟩
theorem fn__law_inner (A : At K mg "_law_inner" s__law_inner ["claim"]) (T : Blt w K mg) : Fn P w K mg base "_law_inner" 1 ["claim"] (spX K 1 m__law_inner) := by
  refine fnD (k := 0) (m := m__law_inner) A sc__law_inner (fun G f cdv A outer s H E hr ss R hl hm => ?_)
  refine ⟨_, _, (dss_one (ds_ret (de_get2 hr.units (de_disp (dps_cons (de_lst (da_cons de_int da_nil)) (dps_cons (de_lst (da_cons de_int (da_cons de_int da_nil))) (dps_cons (de_lst (da_cons de_int (da_cons de_int da_nil))) (dps_cons (de_lst (da_cons de_int da_nil)) (dps_cons (de_lst (da_cons de_int da_nil)) dps_nil)))))) (de_ix (k_ix (K := K) rfl) (fun _ => lo_ix) (de_v 0) de_int) (de_lst da_nil)))), ?_⟩
  obtain ⟨z, xs, rfl, hR⟩ := hm
  have z1 : ∀ n : Nat, n ≤ 100 → n ≤ sizeLine := fun n h => s16 (by omega)
  refine ⟨_, rfl, z1 _ (by decide), _, rfl, z1 _ (by decide), _, rfl, z1 _ (by decide), _, rfl, z1 _ (by decide), _, rfl, z1 _ (by decide), _, rfl, _, rfl, _, at_0, z, rfl, [], rfl, z1 _ (by decide), ?_⟩
  exact (show R (orSl (getS innerT z) (.d (.list []))) from by rw [inner_get]; exact hR)

theorem sc_is_word : FnScope ["value", "sign"] ["value"] (defScope s_is_word) := ⟨rfl, rfl, rfl, by decide +kernel, rfl, by decide +kernel, by decide +kernel⟩
theorem fn_is_word (A : At K mg "is_word" s_is_word ["value"]) (T : Blt w K mg) (G_is_digit : Fn P w K mg base "is_digit" 1 ["sign"] (spX K 1 m_is_digit)) (G_is_small_letter : Fn P w K mg base "is_small_letter" 1 ["sign"] (spX K 1 m_is_small_letter)) : Fn P w K mg base "is_word" 2 ["value"] (spX K 1 m_is_word) := by
  obtain ⟨u_LONGEST_WORD, hc_LONGEST_WORD⟩ := T.c_LONGEST_WORD
  refine fnD (k := 1) (m := m_is_word) A sc_is_word (fun G f cdv A outer s H E hr ss R hl hm => ?_)
  refine ⟨_, _, (dss_cons (ds_if (DW.dt (dw_or (dt_not (dt_val (de_callB (k_isi (K := K) rfl) (fun _ => lc_isi) T.m_isinstance (da_cons (de_v 0) (da_cons (de_bltn (x := "str") (n := "str") T.m_str) da_nil))))) (dw_or1 (dt_not (dt_chain op_le (fun _ => lo_le) op_le (fun _ => lo_le) de_int (de_callB (k_len (K := K) rfl) (fun _ => lc_len) T.m_len (da_cons (de_v 0) da_nil)) (de_globI hc_LONGEST_WORD)))))) (dss_one (ds_ret de_bl)) dss_nil)
      (dss_cons (ds_if (dt_not (dt_val (k_fn (K := K) rfl G_is_small_letter (hr.mono (by decide)) (da_cons (de_ix (k_ix (K := K) rfl) (fun _ => lo_ix) (de_v 0) de_int) da_nil)))) (dss_one (ds_ret de_bl)) dss_nil)
      (dss_one (ds_ret (de_callB (k_all (K := K) rfl rfl) (fun _ => lc_allB) T.m_all (da_cons (de_lc (own := [("sign", 1)]) sc_is_word.nd (di_str (de_v 0)) (blkOk_by (N := ["value", "sign"]) (sc := defScope s_is_word) (by decide +kernel)) (fun _ _ _ _ _ => by exact (dg_name 1 (by decide) sc_is_word.nd)) (fun _ _ _ _ _ => by exact dp_nil) (fun _ _ _ _ _ => by exact (de_or (k_fn (K := K) rfl G_is_small_letter (hr.mono (by decide)) (da_cons (de_v 1) da_nil)) (de_one (k_fn (K := K) rfl G_is_digit (hr.mono (by decide)) (da_cons (de_v 1) da_nil)))))) da_nil)))))), ?_⟩
  obtain ⟨d, rfl, ha, hR⟩ := hm
  cases d
  case str w =>
    have hl : w.length ≤ 100 := Nat.le_trans (okT_iff.mp ha).2 (by decide)
    have hz : w.length ≤ sizeLine := by rw [sizeLine_eq]; omega
    have hRw : R (.d (.bool (wdP w))) := hR
    refine if_iffS (¬ (1 ≤ w.length ∧ w.length ≤ 12)) (1 ≤ w.length ∧ w.length ≤ 12) (fun Q hp hq => ?_) (fun h => ?_) (fun h => ?_)
    · refine ⟨_, rfl, _, rfl, ?_⟩
      refine ifb (fun h => absurd h (by decide)) (fun _ => ?_)
      refine ⟨hz, _, rfl, ?_⟩
      refine ifb (fun h => ?_) (fun h => ?_)
      · refine ⟨_, rfl, ?_⟩
        have h1 : (1 : Int) ≤ (w.length : Int) := of_decide_eq_true h
        by_cases c : w.length ≤ 12
        · have c2 : decide ((w.length : Int) ≤ 12) = true := decide_eq_true (by omega)
          show Q (!decide ((w.length : Int) ≤ 12))
          rw [c2]
          exact hq ⟨by omega, c⟩
        · have c2 : decide ((w.length : Int) ≤ 12) = false := decide_eq_false (by omega)
          show Q (!decide ((w.length : Int) ≤ 12))
          rw [c2]
          exact hp fun z => c z.2
      · refine ⟨false, rfl, ?_⟩
        have h1 : ¬ (1 : Int) ≤ (w.length : Int) := of_decide_eq_false h
        exact hp fun z => h1 (by omega)
    · have e : wdP w = false := by
        unfold wdP
        by_cases c : 1 ≤ w.length
        · have c2 : ¬ w.length ≤ 12 := fun z => h ⟨c, z⟩
          rw [decide_eq_false c2, Bool.and_false, Bool.false_and, Bool.false_and]
        · rw [decide_eq_false c, Bool.false_and, Bool.false_and, Bool.false_and]
      rw [e] at hRw
      exact hRw
    · obtain ⟨c, cs, ec⟩ := chS_ne h.1
      have e1 : wdP w = (smallP ⟨#[c]⟩ && (chS w).all fun z => smallP z || digitP z) := by
        unfold wdP chS
        rw [ec, decide_eq_true h.1, decide_eq_true h.2, Bool.true_and, Bool.true_and]
        rfl
      dsimp only [dNext]
      refine if_iffS (smallP ⟨#[c]⟩ = false) (smallP ⟨#[c]⟩ = true) (fun Q hp hq => ?_) (fun h => ?_) (fun h => ?_)
      · refine ⟨c, hz, by rw [ec]; exact at_0, rfl, _, rfl, _, rfl, ?_⟩
        cases g : smallP ⟨#[c]⟩ with
        | true => exact hq g
        | false => exact hp g
      · rw [e1, h, Bool.false_and] at hRw
        exact hRw
      · rw [e1, h, Bool.true_and] at hRw
        dsimp only [dNext]
        refine ⟨w, rfl, ?_⟩
        refine ⟨chars_len hl, ?_⟩
        refine lc_mapT (fun c => PyData.str ⟨#[c]⟩) (fun c => PyData.bool (smallP ⟨#[c]⟩ || digitP ⟨#[c]⟩)) (fun x hx k hk => ?_) ?_
        · refine ⟨rfl, _, rfl, _, rfl, ?_⟩
          refine ifb (fun h => ?_) (fun h => ?_)
          · refine hk _ ?_
            show Sl.d (.bool true) = .d (.bool (smallP ⟨#[x]⟩ || digitP ⟨#[x]⟩))
            rw [h, Bool.true_or]
          · refine ⟨rfl, _, rfl, hk _ ?_⟩
            show Sl.d (.bool (digitP ⟨#[x]⟩)) = .d (.bool (smallP ⟨#[x]⟩ || digitP ⟨#[x]⟩))
            rw [h, Bool.false_or]
        · refine ⟨w.cps.toList.map fun x => smallP ⟨#[x]⟩ || digitP ⟨#[x]⟩, by rw [List.map_map]; rfl, ?_⟩
          have e2 : ((w.cps.toList.map fun x => smallP ⟨#[x]⟩ || digitP ⟨#[x]⟩).all id) = (chS w).all fun z => smallP z || digitP z := by
            unfold chS
            rw [List.all_map, List.all_map]
            rfl
          show R (.d (.bool ((w.cps.toList.map fun x => smallP ⟨#[x]⟩ || digitP ⟨#[x]⟩).all id)))
          rw [e2]
          exact hRw
  all_goals exact ⟨_, rfl, _, rfl, hR⟩

theorem sc__law_of : FnScope ["source", "some"] ["source", "some"] (defScope s__law_of) := ⟨rfl, rfl, rfl, by decide +kernel, rfl, by decide +kernel, by decide +kernel⟩
theorem fn__law_of (A : At K mg "_law_of" s__law_of ["source", "some"]) (T : Blt w K mg) (G__law_pick : Fn P w K mg base "_law_pick" 1 ["source", "many"] (spX K 2 m__law_pick)) : Fn P w K mg base "_law_of" 2 ["source", "some"] (spX K 2 m__law_of) := by
  refine fnD (k := 1) (m := m__law_of) A sc__law_of (fun G f cdv A outer s H E hr ss R hl hm => ?_)
  refine ⟨_, _, (dss_one (ds_ret (de_ix (k_ix (K := K) rfl) (fun _ => lo_ix) (de_v 1) (k_fn (K := K) rfl G__law_pick (hr.mono (by decide)) (da_cons (de_v 0) (da_cons (de_callB (k_len (K := K) rfl) (fun _ => lc_len) T.m_len (da_cons (de_v 1) da_nil)) da_nil)))))), ?_⟩
  obtain ⟨xs, rfl, hne, hl, hR⟩ := hm
  have hpos : 0 < xs.length := List.length_pos_iff.mpr hne
  refine ⟨rfl, xs.length, rfl, by omega, fun k h0 h1 => ?_⟩
  have hk : k.toNat < xs.length := by split at h1 <;> omega
  refine ⟨xs[k.toNat], ?_, hR _ (List.getElem_mem hk)⟩
  unfold atI ixN
  rw [if_pos h0, if_pos (by omega : k < (xs.length : Int))]
  exact List.getElem?_eq_getElem hk

theorem sc__wrong_member : FnScope ["value", "bound", "at", "sort"] ["value", "bound"] (defScope s__wrong_member) := ⟨rfl, rfl, rfl, by decide +kernel, rfl, by decide +kernel, by decide +kernel⟩
theorem fn__wrong_member (A : At K mg "_wrong_member" s__wrong_member ["value", "bound"]) (T : Blt w K mg) (G_is_word : Fn P w K mg base "is_word" 2 ["value"] (spX K 1 m_is_word)) : Fn P w K mg base "_wrong_member" 3 ["value", "bound"] (spX K 2 m__wrong_member) := by
  obtain ⟨a_MEMBERS, h_MEMBERS, t_MEMBERS⟩ := T.d_MEMBERS
  refine fnD (k := 2) (m := m__wrong_member) A sc__wrong_member (fun G f cdv A outer s H E hr ss R hl hm => ?_)
  refine ⟨_, _, (dss_cons (ds_if (DW.dt (dw_or (dt_not (dt_val (de_callB (k_isi (K := K) rfl) (fun _ => lc_isi) T.m_isinstance (da_cons (de_v 0) (da_cons (de_bltn (x := "tuple") (n := "tuple") T.m_tuple) da_nil))))) (dw_or1 (dt_cmp op_eq (fun _ => lo_eqS) (de_callB (k_len (K := K) rfl) (fun _ => lc_len) T.m_len (da_cons (de_v 0) da_nil)) de_int)))) (dss_one (ds_ret (de_tup da_nil))) dss_nil)
      (dss_cons (ds_if (DW.dt (dw_or (dt_not (dt_val (de_callB (k_isi (K := K) rfl) (fun _ => lc_isi) T.m_isinstance (da_cons (de_ix (k_ix (K := K) rfl) (fun _ => lo_ix) (de_v 0) de_int) (da_cons (de_bltn (x := "str") (n := "str") T.m_str) da_nil))))) (dw_or (dt_cmp (k_notInA (K := K) rfl rfl t_MEMBERS) (fun _ => lo_notInA t_MEMBERS) (de_ix (k_ix (K := K) rfl) (fun _ => lo_ix) (de_v 0) de_int) (de_globK h_MEMBERS)) (dw_or1 (dt_cmp op_ne (fun _ => lo_neS) (de_callB (k_len (K := K) rfl) (fun _ => lc_len) T.m_len (da_cons (de_v 0) da_nil)) (de_op op_add (fun _ => lo_add) (de_callB (k_len (K := K) rfl) (fun _ => lc_len) T.m_len (da_cons (de_ix (k_ixKT (K := K) rfl rfl) (fun _ => lo_ixA t_MEMBERS) (de_globK h_MEMBERS) (de_ix (k_ix (K := K) rfl) (fun _ => lo_ix) (de_v 0) de_int)) da_nil)) de_int)))))) (dss_one (ds_ret (de_tup da_nil))) dss_nil)
      (dss_cons (ds_for (js := [2, 3]) (ki_enumK (K := K) rfl T.m_enumerate (da_cons (de_ix (k_ixKT (K := K) rfl rfl) (fun _ => lo_ixA t_MEMBERS) (de_globK h_MEMBERS) (de_ix (k_ix (K := K) rfl) (fun _ => lo_ix) (de_v 0) de_int)) da_nil)) (by exact (kg_tup (K := K) (n := 2) rfl rfl (dgs_cons (dg_name 2 (by decide) sc__wrong_member.nd) (dgs_cons (dg_name 3 (by decide) sc__wrong_member.nd) dgs_nil)))) (dss_cons (ds_if (DW.dt (dw_and (dt_cmp op_ne (fun _ => lo_neS) (de_v 3) de_str) (dw_and1 (dt_not (dt_val (k_fn (K := K) rfl G_is_word (hr.mono (by decide)) (da_cons (de_ix (k_ix (K := K) rfl) (fun _ => lo_ix) (de_v 0) (de_v 2)) da_nil))))))) (dss_one (ds_ret (de_tup (da_cons (de_v 2) da_nil)))) dss_nil)
      (dss_one (ds_if (DW.dt (dw_and (dt_cmp op_eq (fun _ => lo_eqS) (de_v 3) de_str) (dw_and1 (dt_cmp (k_in (K := K) rfl) (fun _ => lo_in false) (de_ix (k_ix (K := K) rfl) (fun _ => lo_ix) (de_v 0) (de_v 2)) (de_v 1))))) (dss_one (ds_ret (de_tup (da_cons (de_v 2) da_nil)))) dss_nil))))
      (dss_one (ds_ret de_non))))), ?_⟩
  obtain ⟨v, b, rfl, ha, hb, hR⟩ := hm
  have z1 : ∀ n : Nat, n ≤ 1000 → n ≤ sizeLine := fun n h => s16 (by omega)
  refine if_iffS (¬ ∃ x xs, v = .tuple (x :: xs)) (∃ x xs, v = .tuple (x :: xs)) (fun Q hp hq => ?_) (fun h => ?_) (fun h => ?_)
  · cases v
    case tuple xs =>
      obtain ⟨hl, hx⟩ := allA_tup.mp ha
      refine ⟨_, rfl, _, rfl, ?_⟩
      refine ifb (fun h => absurd h (by decide)) (fun _ => ?_)
      refine ⟨_, rfl, ?_⟩
      cases xs with
      | nil => exact hp (fun ⟨x, xs, e⟩ => by cases e)
      | cons x xs =>
        have e : decide ((((x :: xs).length : Nat) : Int) = 0) = false := decide_eq_false (by simp; omega)
        show Q (decide ((((x :: xs).length : Nat) : Int) = 0))
        rw [e]
        exact hq ⟨x, xs, rfl⟩
    all_goals exact ⟨_, rfl, _, rfl, hp (fun ⟨x, xs, e⟩ => by cases e)⟩
  · have e : wrongM v b = some [] := by
      unfold wrongM
      split
      · exact absurd ⟨_, _, rfl⟩ h
      · rfl
    rw [e] at hR
    exact ⟨[], rfl, z1 _ (by decide), hR⟩
  obtain ⟨x, xs, rfl⟩ := h
  obtain ⟨hl, hx⟩ := allA_tup.mp ha
  dsimp only [dNext]
  refine if_iffS (¬ ∃ z ws, x = .str z ∧ sortsC z = some ws ∧ xs.length = ws.length) (∃ z ws, x = .str z ∧ sortsC z = some ws ∧ xs.length = ws.length) (fun Q hp hq => ?_) (fun h => ?_) (fun h => ?_)
  · cases x with
    | str z =>
      refine ⟨_, at_0, _, rfl, _, rfl, ?_⟩
      refine ifb (fun h => absurd h (by decide)) (fun _ => ?_)
      refine ⟨_, at_0, z, rfl, rfl, _, rfl, ?_⟩
      cases hs : sortsC z with
      | none =>
        have e0 : (true != (tbL memT z).isSome) = true := by rw [tb_sorts, hs]; rfl
        refine ifb (fun _ => ?_) (fun h => absurd (e0.symm.trans h) (by decide))
        exact hp (fun ⟨z', ws, e, e2, _⟩ => by cases e; rw [hs] at e2; cases e2)
      | some ws =>
        have tb := tbOf hs
        have e0 : (true != (tbL memT z).isSome) = false := by rw [tb]; rfl
        refine ifb (fun h => absurd (e0.symm.trans h) (by decide)) (fun _ => ?_)
        refine ⟨_, at_0, z, _, rfl, rfl, tb, _, rfl, ?_⟩
        show Q (!decide ((((PyData.str z :: xs).length : Nat) : Int) = (((ws.map PyData.str).length : Nat) : Int) + 1))
        by_cases c : xs.length = ws.length
        · rw [decide_eq_true (by rw [List.length_cons, List.length_map]; omega)]
          exact hq ⟨z, ws, rfl, hs, c⟩
        · rw [decide_eq_false (by rw [List.length_cons, List.length_map]; omega)]
          refine hp ?_
          rintro ⟨z', ws', e, e2, e3⟩
          cases e
          rw [hs] at e2
          cases e2
          exact c e3
    | _ => exact ⟨_, at_0, _, rfl, _, rfl, hp (fun ⟨z', ws, e, _⟩ => by cases e)⟩
  · have e : wrongM (.tuple (x :: xs)) b = some [] := by
      cases x with
      | str z =>
        show (match sortsC z with | some ws => if xs.length = ws.length then wrongs b 1 ws xs else some [] | none => some []) = _
        cases hs : sortsC z with
        | none => rfl
        | some ws => exact if_neg (fun hl => h ⟨z, ws, rfl, hs, hl⟩)
      | _ => rfl
    rw [e] at hR
    exact ⟨[], rfl, z1 _ (by decide), hR⟩
  obtain ⟨z, ws, rfl, hs, hlen⟩ := h
  have hw := sorts_len hs
  have hM : wrongM (.tuple (.str z :: xs)) b = wrongs b 1 ws xs := by
    show (match sortsC z with | some ws => if xs.length = ws.length then wrongs b 1 ws xs else some [] | none => some []) = _
    rw [hs]
    show (if xs.length = ws.length then _ else _) = _
    rw [if_pos hlen]
  rw [hM] at hR
  dsimp only [dNext]
  refine ⟨_, at_0, z, _, rfl, rfl, tbOf hs, _, rfl, ?_⟩
  rw [numD_map]
  refine loop_byT (fun (i : Nat) => PyData.tuple [.int (1 + (i : Nat)), .str (ws.getD i "")]) (l := List.range ws.length) (fun j env => ∃ v2 v3, env = [some (.d (.tuple (.str z :: xs))), some (.d (.tuple (b.map PyData.str))), v2, v3] ∧ wrongs b 1 ws xs = wrongs b (1 + j) (ws.drop j) (xs.drop j)) ⟨none, none, rfl, rfl⟩ ?_ ?_
  · rintro j i env hi ⟨v2, v3, rfl, hf⟩ nx hn
    have hj : j < ws.length := by simpa using (List.getElem?_eq_some_iff.mp hi).1
    obtain rfl : j = i := by simpa [List.getElem?_range hj] using hi
    have hjx : j < xs.length := by omega
    have ew : ws.getD j "" = ws[j] := by rw [List.getD_eq_getElem?_getD, List.getElem?_eq_getElem hj]; rfl
    rw [List.drop_eq_getElem_cons hj, List.drop_eq_getElem_cons hjx, wrongs] at hf
    have hxa : allA xs[j] = true := hx _ (List.mem_cons_of_mem _ (List.getElem_mem hjx))
    refine ⟨_, rfl, rfl, _, _, rfl, _, _, rfl, rfl, ?_⟩
    rw [ew]
    dsimp only
    generalize ws[j] = w at hf
    have e1 : ((1 : Int) + (j : Nat)) = ((1 + j : Nat) : Int) := by omega
    have hat := at_succ (x := .str z) hjx
    generalize xs[j] = x at hf hat hxa
    refine if_iffS ((decide (w ≠ "claim") && !isW x) = true) (¬ (decide (w ≠ "claim") && !isW x) = true) (fun Q hp hq => ?_) (fun h => ?_) (fun h => ?_)
    · refine ⟨_, rfl, ?_⟩
      refine ifN (fun hne => ?_) (fun he => ?_)
      · refine ⟨_, hat, rfl, x, rfl, hxa, _, rfl, ?_⟩
        rw [decide_eq_true hne, Bool.true_and] at hp hq
        cases g : isW x with
        | true => exact hq (by rw [g]; decide)
        | false => exact hp (by rw [g]; rfl)
      · exact hq (by rw [decide_eq_false (fun c => c he)]; simp)
    · rw [if_pos h] at hf
      rw [hf, ← e1] at hR
      exact ⟨_, rfl, s16 (by show 1 ≤ 16777216; omega), hR⟩
    rw [if_neg h] at hf
    dsimp only [dNext]
    refine if_iff ((decide (w = "bound") && inB x b) = true) (¬ (decide (w = "bound") && inB x b) = true) (fun Q hp hq => ?_) (fun h => ?_) (fun h => ?_)
    · refine ⟨_, rfl, ?_⟩
      refine ifS (fun he => ?_) (fun hne => ?_)
      · have hw : isW x = true := by
          cases g : isW x with
          | true => rfl
          | false => exact absurd (by rw [g, decide_eq_true (by rw [he]; decide +kernel)]; rfl) h
        cases x
        case str y =>
          refine ⟨_, hat, rfl, by simp [flatD], _, rfl, ?_⟩
          rw [decide_eq_true he, Bool.true_and] at hp hq
          have e : ((b.map PyData.str).any fun u => PyData.eqv u (.str y)) = decide (y ∈ b) := any_strs
          show Q ((b.map PyData.str).any fun u => PyData.eqv u (.str y))
          rw [e]
          cases g : decide (y ∈ b) with
          | true => exact hp g
          | false => exact hq (fun q => by have q : decide (y ∈ b) = true := q; rw [g] at q; cases q)
        all_goals cases hw
      · exact hq (by rw [decide_eq_false hne]; simp)
    · rw [if_pos h] at hf
      rw [hf, ← e1] at hR
      exact ⟨_, rfl, s16 (by show 1 ≤ 16777216; omega), hR⟩
    rw [if_neg h] at hf
    exact hn _ ⟨_, _, rfl, hf⟩
  · rintro env ⟨v2, v3, rfl, hf⟩
    rw [List.length_range, List.drop_length] at hf
    have e : wrongs b (1 + ws.length) [] (List.drop ws.length xs) = none := by unfold wrongs; rfl
    rw [hf, e] at hR
    exact hR

theorem sc__law_odd : FnScope ["source", "some"] ["source"] (defScope s__law_odd) := ⟨rfl, rfl, rfl, by decide +kernel, rfl, by decide +kernel, by decide +kernel⟩
theorem fn__law_odd (A : At K mg "_law_odd" s__law_odd ["source"]) (T : Blt w K mg) (G__law_of : Fn P w K mg base "_law_of" 2 ["source", "some"] (spX K 2 m__law_of)) : Fn P w K mg base "_law_odd" 3 ["source"] (spX K 1 m__law_odd) := by
  refine fnD (k := 2) (m := m__law_odd) A sc__law_odd (fun G f cdv A outer s H E hr ss R hl hm => ?_)
  refine ⟨_, _, (dss_cons (ds_set 1 sc__law_odd.nd (DE.fz (de_lst (da_cons de_non (da_cons de_bl (da_cons de_bl (da_cons (de_un un_neg (fun _ => lu_neg) de_int) (da_cons de_int (da_cons (de_op op_pow (fun _ => lo_pow) de_int de_int) (da_cons de_str (da_cons de_str (da_cons de_str (da_cons de_str (da_cons (de_tup da_nil) (da_cons (de_lst da_nil) (da_cons de_newD (da_cons (de_tup (da_cons de_non da_nil)) (da_cons (de_lst (da_cons (de_tup da_nil) da_nil)) (da_cons (de_tup (da_cons de_str da_nil)) da_nil)))))))))))))))))))
      (dss_one (ds_ret (k_fn (K := K) rfl G__law_of (hr.mono (by decide)) (da_cons (de_v 0) (da_cons (de_op op_cat (fun _ => lo_cat) (de_v 1) (de_lst (da_cons (de_disp (dps_cons de_int dps_nil)) da_nil))) da_nil)))))), ?_⟩
  obtain ⟨rfl, hR⟩ := hm
  refine ⟨⟨by decide, by decide, by decide⟩, [], rfl, s16 (by decide), [], rfl, s16 (by decide), _, rfl, s16 (by decide), [], rfl, s16 (by decide), _, rfl, s16 (by decide), _, rfl, s16 (by decide), ?_⟩
  refine ⟨_, rfl, s16 (by decide), ?_⟩
  dsimp only
  refine ⟨_, rfl, _, rfl, s16 (by decide), ?_⟩
  exact ⟨s16 (by decide), rfl, oddL, rfl, by simp [oddL], by show 17 < 1000000; omega, hR⟩

theorem sc__law_letters : FnScope ["source", "many", "odd", "k", "some"] ["source", "many"] (defScope s__law_letters) := ⟨rfl, rfl, rfl, by decide +kernel, rfl, by decide +kernel, by decide +kernel⟩
theorem fn__law_letters (A : At K mg "_law_letters" s__law_letters ["source", "many"]) (T : Blt w K mg) (G__law_mixed : Fn P w K mg base "_law_mixed" 2 ["source", "things"] (spX K 2 m__law_mixed)) (G__law_of : Fn P w K mg base "_law_of" 2 ["source", "some"] (spX K 2 m__law_of)) (G__law_pick : Fn P w K mg base "_law_pick" 1 ["source", "many"] (spX K 2 m__law_pick)) : Fn P w K mg base "_law_letters" 3 ["source", "many"] (spX K 2 m_letters54) := by
  refine fnD (k := 2) (m := m_letters54) A sc__law_letters (fun G f cdv A outer s H E hr ss R hl hm => ?_)
  refine ⟨_, _, (dss_cons (ds_set 2 sc__law_letters.nd (k_fn (K := K) rfl G__law_of (hr.mono (by decide)) (da_cons (de_v 0) (da_cons (de_callTy (call_listS rfl) (fun _ => lc_listS) T.m_list (da_cons de_str da_nil)) da_nil))))
      (dss_cons (ds_for (js := [3]) (di_rng1 T.m_range (da_cons (k_fn (K := K) rfl G__law_pick (hr.mono (by decide)) (da_cons (de_v 0) (da_cons de_int da_nil))) da_nil)) (by exact (dg_name 3 (by decide) sc__law_letters.nd)) (dss_one (ds_set 2 sc__law_letters.nd (de_op op_add_str (fun _ => lo_catS) (de_v 2) (k_fn (K := K) rfl G__law_of (hr.mono (by decide)) (da_cons (de_v 0) (da_cons (de_callTy (call_listS rfl) (fun _ => lc_listS) T.m_list (da_cons de_str da_nil)) da_nil)))))))
      (dss_cons (ds_set 4 sc__law_letters.nd (DE.fz (de_lst (da_cons de_str (da_cons de_str (da_cons de_str (da_cons de_str (da_cons de_str (da_cons de_str (da_cons de_str (da_cons de_str (da_cons de_str (da_cons de_str (da_cons de_str (da_cons de_str (da_cons de_str (da_cons de_str (da_cons de_str (da_cons de_str da_nil)))))))))))))))))))
      (dss_one (ds_ret (k_sortSet (K := K) rfl T.m_sorted T.m_set (da_cons (de_op op_cat (fun _ => lo_cat) (de_slice (k_slL (K := K) rfl) (fun _ => ls_list) (k_fn (K := K) rfl G__law_mixed (hr.mono (by decide)) (da_cons (de_v 0) (da_cons (de_v 4) da_nil))) do_none (do_some (de_op op_sub (fun _ => lo_sub) (de_v 1) de_int))) (de_lst (da_cons (de_v 2) da_nil))) da_nil))))))), ?_⟩
  obtain ⟨n, rfl, hn1, hn2, hR⟩ := hm
  have z1 : ∀ n : Nat, n ≤ 1000 → n ≤ sizeLine := fun n h => s16 (by omega)
  refine sq_set (fun s => ∃ w ∈ oddN 0, s = .d (.str w)) (fun Q hQ => ?_) ?_
  · refine ⟨z1 _ (by decide), rfl, _, rfl, by decide, by decide, fun x hx => ?_⟩
    have e : (("abtxyz" : Str).cps.toList.map fun c => PyData.str ⟨#[c]⟩) = (oddN 0).map PyData.str := rfl
    have hx : x ∈ (("abtxyz" : Str).cps.toList.map fun c => PyData.str ⟨#[c]⟩) := hx
    rw [e] at hx
    obtain ⟨w, hw, rfl⟩ := List.mem_map.mp hx
    exact hQ _ ⟨w, hw, rfl⟩
  rintro _ ⟨w, hw, rfl⟩
  refine sq_byL (fun env => ∃ w v3, env = [some .src, some (.d (.int (n : Nat))), some (.d (.str w)), v3, none] ∧ okW w = true) (fun nx hx => ?_) ?_
  · refine ⟨rfl, 4, rfl, by decide, fun i i0 i1 => ?_⟩
    have i1 : i < 4 := i1
    refine ⟨i, rfl, ⟨by omega, by omega⟩, ?_⟩
    unfold rngD
    refine loop_byT (fun (i : Nat) => PyData.int (0 + (i : Nat))) (fun j env => ∃ w v3, env = [some .src, some (.d (.int (n : Nat))), some (.d (.str w)), v3, none] ∧ w ∈ oddN j) ⟨w, none, rfl, hw⟩ ?_ ?_
    · rintro j y env hy ⟨w, v3, rfl, hw⟩ nx2 hn
      have hj : j < (i - 0).toNat := by simpa using (List.getElem?_eq_some_iff.mp hy).1
      refine ⟨z1 _ (by decide), rfl, _, rfl, by decide, by decide, fun x hx => ?_⟩
      have e : (("0am1tz" : Str).cps.toList.map fun c => PyData.str ⟨#[c]⟩) = (["0", "a", "m", "1", "t", "z"] : List Str).map PyData.str := rfl
      have hx : x ∈ (("0am1tz" : Str).cps.toList.map fun c => PyData.str ⟨#[c]⟩) := hx
      rw [e] at hx
      obtain ⟨c, hc, rfl⟩ := List.mem_map.mp hx
      have hw2 : w ++ c ∈ oddN (j + 1) := List.mem_flatMap.mpr ⟨w, hw, List.mem_map.mpr ⟨c, hc, rfl⟩⟩
      have l1 : ∀ w ∈ oddN 0 ++ oddN 1 ++ oddN 2 ++ oddN 3, w.length ≤ 100 := by decide +kernel
      have l2 := l1 (w ++ c) (by
        have : j = 0 ∨ j = 1 ∨ j = 2 := by omega
        rcases this with rfl | rfl | rfl
        · simp only [List.mem_append]; exact .inl (.inl (.inr hw2))
        · simp only [List.mem_append]; exact .inl (.inr hw2)
        · simp only [List.mem_append]; exact .inr hw2)
      rw [len_cat] at l2
      exact ⟨z1 _ (by omega), hn _ ⟨w ++ c, _, rfl, hw2⟩⟩
    · rintro env ⟨w, v3, rfl, hw⟩
      have hw : w ∈ oddN i.toNat := by simpa using hw
      refine hx _ ⟨w, v3, rfl, oddN_ok w ?_⟩
      have : i.toNat = 0 ∨ i.toNat = 1 ∨ i.toNat = 2 ∨ i.toNat = 3 := by omega
      simp only [List.mem_append]
      rcases this with e | e | e | e <;> rw [e] at hw
      · exact .inl (.inl (.inl hw))
      · exact .inl (.inl (.inr hw))
      · exact .inl (.inr hw)
      · exact .inr hw
  rintro _ ⟨w, v3, rfl, hw⟩
  refine sq_set (fun s => s = .d (.list (fixW.map PyData.str))) (fun Q hQ => ⟨_, rfl, z1 _ (by decide), hQ _ rfl⟩) ?_
  rintro _ rfl
  have hall : ∀ ys : List PyData, ys.Perm (fixW.map PyData.str) → ∀ y ∈ ys, ∃ u : Str, y = .str u ∧ okW u = true := fun ys hp y hy => by
    obtain ⟨u, hu, rfl⟩ := List.mem_map.mp (hp.mem_iff.mp hy)
    exact ⟨u, rfl, fixW_ok u hu⟩
  refine ⟨rfl, _, rfl, by decide, fun ys hp => ?_⟩
  have ly : ys.length = 16 := by rw [hp.length_eq]; rfl
  have hy := hall ys hp
  have c1 : Pu.cutD ys none (some ((n : Int) - 1)) = ys.take (n - 1) := by
    rw [show (n : Int) - 1 = ((n - 1 : Nat) : Int) by omega]
    exact cut_take
  have lc : (Pu.cutD ys none (some ((n : Int) - 1))).length ≤ 16 := by rw [c1, List.length_take]; omega
  refine ⟨_, rfl, _, rfl, s16 (by show 1 ≤ 16777216; omega), s16 (by show _ + 1 ≤ 16777216; omega), ?_⟩
  obtain ⟨ws, e1, e2, e3⟩ := strs_ok (zs := Pu.cutD ys none (some ((n : Int) - 1)) ++ [.str w]) (fun z hz => by
    rcases List.mem_append.mp hz with hz | hz
    · rw [c1] at hz; exact hy z (List.mem_of_mem_take hz)
    · exact ⟨w, List.mem_singleton.mp hz, hw⟩)
  have lw : ws.length ≤ 17 := by
    have := congrArg List.length e1
    rw [List.length_append, List.length_map] at this
    show ws.length ≤ 17
    simp at this
    omega
  refine ⟨ws, e2, by unfold scanBound; omega, fun us so nd iff => ?_⟩
  have lu := nodup_len us ws nd fun x hx => (iff x).mp hx
  have hwm : w ∈ ws := by
    have : PyData.str w ∈ ws.map PyData.str := by rw [← e1]; exact List.mem_append_right _ (List.mem_singleton.mpr rfl)
    obtain ⟨u, hu, e⟩ := List.mem_map.mp this
    cases e
    exact hu
  have une : us ≠ [] := fun e => by
    have := (iff w).mpr hwm
    rw [e] at this; cases this
  exact hR us ⟨une, by omega, fun u hu => e3 u ((iff u).mp hu)⟩

theorem sc_BadClaim_init : FnScope ["self", "path"] ["self", "path"] (defScope s_BadClaim_init) := ⟨rfl, rfl, rfl, by decide +kernel, rfl, by decide +kernel, by decide +kernel⟩
theorem init_BadClaim {fI : Addr} (T : Blt w K mg) (cdv : Value) (A : Around) (outer : List Env) (s : Shared) (H : Hp) (E : XK) : PSs (cxOf CX0 P w K mg base ["self", "path"] "BadClaim.__init__" (defScope s_BadClaim_init) fI cdv A outer s H E).nox (defBody s_BadClaim_init)
    (tOst K "path" (tVar 0) (tCB (fun xs H Q => ∃ p ys, xs = [.ref p] ∧ ((SqL K H p ys ∧ ∀ l, H l = none → Q (.ref l) (upd H l (.tup ys))) ∨ (SqT K H p ys ∧ Q (.ref p) H))) (tCons (tVar 1) tNil))) :=
  pss_one (ps_ost (pv 0) (pe_callTy (k_tuple (K := K) rfl) rfl T.m_tuple rfl (pa_cons (pv 1) pa_nil)))
theorem sc_check_claim : FnScope ["value", "ahead", "wrong", "inner", "claim", "path", "bound", "at"] ["value"] (defScope s_check_claim) := ⟨rfl, rfl, rfl, by decide +kernel, rfl, by decide +kernel, by decide +kernel⟩
theorem fn_check_claim (A : At K mg "check_claim" s_check_claim ["value"]) (T : Blt w K mg) (G__wrong_member : Fn P w K mg base "_wrong_member" 3 ["value", "bound"] (spX K 2 m__wrong_member)) (G_claims_in : Fn P w K mg base "claims_in" 1 ["claim"] (spX K 1 m_claims_in)) : FnXE P w K mg base "check_claim" 4 ["value"] 1 m_check_claim "BadClaim" "path" := by
  obtain ⟨a_BINDING, h_BINDING, t_BINDING⟩ := T.d_BINDING
  obtain ⟨C_, fI_, fdI_, exT, exF, exB⟩ := T.e_BadClaim
  refine fnDX (k := 3) (m := m_check_claim) A sc_check_claim exT (fun G f cdv A outer s H E hr ss R hl hm hE => ?_)
  refine ⟨_, _, (dss_cons (ds_set 1 sc_check_claim.nd (de_lst (da_cons (de_tup (da_cons (de_v 0) (da_cons (de_tup da_nil) (da_cons (de_tup da_nil) da_nil)))) da_nil)))
      (dss_one (ds_while (hp := passes_of rfl) (dt_peek [1] (k_truth (K := K) rfl (de_v 1))) (dss_cons (ds_popG (js := [4, 5, 6]) 1 (by exact (kg_tup (K := K) (n := 3) rfl rfl (dgs_cons (dg_name 4 (by decide) sc_check_claim.nd) (dgs_cons (dg_name 5 (by decide) sc_check_claim.nd) (dgs_cons (dg_name 6 (by decide) sc_check_claim.nd) dgs_nil))))) (pe_popL 1))
      (dss_cons (ds_set 2 sc_check_claim.nd (k_fn (K := K) rfl G__wrong_member (hr.mono (by decide)) (da_cons (de_v 4) (da_cons (de_v 6) da_nil))))
      (dss_cons (ds_if (dt_cmp op_notN (fun _ => lo_notN) (de_v 2) de_non) (dss_one (ds_raise rfl exT (ok_init exF sc_BadClaim_init rfl exT T.m_tuple (init_BadClaim (P := P) (base := base) T)) (hr.r.mono (by decide)) exB (takes_of rfl rfl rfl rfl) hE (de_op (k_catT (K := K) rfl) (fun _ => lo_catT) (de_v 5) (de_v 2)))) dss_nil)
      (dss_cons (ds_set 3 sc_check_claim.nd (de_ifE (dt_cmp (k_in (K := K) rfl) (fun _ => lo_in false) (de_ix (k_ix (K := K) rfl) (fun _ => lo_ix) (de_v 4) de_int) (de_globT (K := K) rfl h_BINDING t_BINDING)) (de_op (k_catT (K := K) rfl) (fun _ => lo_catT) (de_v 6) (de_tup (da_cons (de_ix (k_ix (K := K) rfl) (fun _ => lo_ix) (de_v 4) de_int) da_nil))) (de_v 6)))
      (dss_one (ds_ext 1 (de_lc (own := [("at", 7)]) sc_check_claim.nd (ki_rev (K := K) rfl T.m_reversed (da_cons (k_fn (K := K) rfl G_claims_in (hr.mono (by decide)) (da_cons (de_v 4) da_nil)) da_nil)) (blkOk_by (N := ["value", "ahead", "wrong", "inner", "claim", "path", "bound", "at"]) (sc := defScope s_check_claim) (by decide +kernel)) (fun _ _ _ _ _ => by exact (dg_name 7 (by decide) sc_check_claim.nd)) (fun _ _ _ _ _ => by exact dp_nil) (fun _ _ _ _ _ => by exact (de_tup (da_cons (de_ix (k_ix (K := K) rfl) (fun _ => lo_ix) (de_v 4) (de_v 7)) (da_cons (de_op (k_catT (K := K) rfl) (fun _ => lo_catT) (de_v 5) (de_tup (da_cons (de_v 7) da_nil))) (da_cons (de_v 3) da_nil)))))) (h := pe_bm PySem.F.plainAttrs_list PySem.F.slot_list_extend PySem.F.type_list_extend mt_extend (pv 1) (pa_cons (DE.pe (F := G) ((de_lc (own := [("at", 7)]) sc_check_claim.nd (ki_rev (K := K) rfl T.m_reversed (da_cons (k_fn (K := K) rfl G_claims_in (hr.mono (by decide)) (da_cons (de_v 4) da_nil)) da_nil)) (blkOk_by (N := ["value", "ahead", "wrong", "inner", "claim", "path", "bound", "at"]) (sc := defScope s_check_claim) (by decide +kernel)) (fun _ _ _ _ _ => by exact (dg_name 7 (by decide) sc_check_claim.nd)) (fun _ _ _ _ _ => by exact dp_nil) (fun _ _ _ _ _ => by exact (de_tup (da_cons (de_ix (k_ix (K := K) rfl) (fun _ => lo_ix) (de_v 4) (de_v 7)) (da_cons (de_op (k_catT (K := K) rfl) (fun _ => lo_catT) (de_v 5) (de_tup (da_cons (de_v 7) da_nil))) (da_cons (de_v 3) da_nil)))))))) pa_nil))))))))))), ?_⟩
  obtain ⟨v, rfl, ha, hd, hw, h0, h1⟩ := hm
  have z1 : ∀ n : Nat, n ≤ 1000 → n ≤ sizeLine := fun n h => s16 (by omega)
  refine sq_set (fun s => s = .own (([(v, [], [])] : List Itm).map encI).reverse) (fun Q hQ => ⟨[], rfl, z1 _ (by decide), [], rfl, z1 _ (by decide), _, rfl, s16 (by show 3 ≤ 16777216; omega), _, rfl, s16 (by show 1 ≤ 16777216; omega), hQ _ rfl⟩) ?_
  rintro _ rfl
  refine while_c (fun m env => ∃ (S : List Itm) (v2 v3 v4 v5 v6 : Option Sl), env = [some (.d v), some (.own (S.map encI).reverse), v2, v3, v4, v5, v6, none] ∧ S.findSome? ansI = pathC 30 v [] ∧ msI S ≤ m ∧ m ≤ 10000000 ∧ ∀ i ∈ S, allA i.1 = true ∧ i.1.depth + i.2.1.length < 30 ∧ i.1.depth + i.2.2.length < 30) (wt v) ⟨[(v, [], [])], none, none, none, none, none, rfl, ?_, Nat.le_refl _, hw, ?_⟩ ?_
  · rw [List.findSome?_cons]
    have e : ansI (v, [], []) = pathC 30 v [] := by
      show (pathC 30 v []).map ([] ++ ·) = _
      cases pathC 30 v [] <;> rfl
    rw [e]
    cases pathC 30 v [] <;> rfl
  · intro i hi
    rw [List.mem_singleton.mp hi]
    exact ⟨ha, hd, hd⟩
  rintro m env ⟨S, v2, v3, v4, v5, v6, rfl, hS, hm2, hm3, hI⟩ nx hx
  cases S with
  | nil =>
    refine truth_own (xs := (([] : List Itm).map encI).reverse) rfl ?_
    refine ifb (fun h => absurd h (by decide)) (fun _ => ?_)
    exact h0 hS.symm
  | cons i S =>
    obtain ⟨x, p, b⟩ := i
    obtain ⟨hax, hdp, hdb⟩ := hI _ (List.mem_cons_self ..)
    have hax : allA x = true := hax
    have hdp : x.depth + p.length < 30 := hdp
    have hdb : x.depth + b.length < 30 := hdb
    have hms : wt x + msI S ≤ m := hm2
    have lS := msI_len S
    have eR : ((((x, p, b) :: S : List Itm)).map encI).reverse = (S.map encI).reverse ++ [encI (x, p, b)] := by rw [List.map_cons, List.reverse_cons]
    rw [eR]
    refine truth_own (xs := (S.map encI).reverse ++ [encI (x, p, b)]) rfl ?_
    refine ifb (fun _ => ?_) (fun h => absurd h (by simp))
    refine ⟨_, encI (x, p, b), rfl, by simp, ?_⟩
    rw [List.dropLast_concat]
    refine ⟨_, rfl, rfl, _, _, rfl, _, _, rfl, _, _, rfl, rfl, ?_⟩
    dsimp only
    refine sq_set (fun s => s = optS (wrongM x b)) (fun Q hQ => ⟨rfl, x, b, rfl, hax, by omega, hQ _ rfl⟩) ?_
    rintro _ rfl
    rw [List.findSome?_cons] at hS
    cases g : wrongM x b with
    | some w =>
      have e : ansI (x, p, b) = some (p ++ w) := by
        show (pathC (29 + 1) x b).map (p ++ ·) = _
        rw [pathC, g]; rfl
      rw [e] at hS
      have lw := wrongM_len g
      refine ⟨_, rfl, ?_⟩
      refine ifb (fun _ => ?_) (fun h => absurd (show true = false from h) (by decide))
      exact ⟨s16 (by show p.length + w.length ≤ 16777216; omega), _, rfl, h1 _ hS.symm⟩
    | none =>
      obtain ⟨z, xs, ws, rfl, hs, hl2, hbw⟩ := wrongM_none g
      obtain ⟨hxl, hxa⟩ := allA_tup.mp hax
      have hz : z ∈ wordsC := by
        rcases sorts_cases z with ⟨e, _⟩ | q
        · rw [e] at hs; cases hs
        · exact q
      have hsl := sorts_len hs
      have lb : (boundOf z (xs.getD 0 .none) b).length ≤ b.length + 1 := by
        unfold boundOf
        split <;> simp
      refine ⟨_, rfl, ?_⟩
      refine ifb (fun h => absurd (show false = true from h) (by decide)) (fun _ => ?_)
      dsimp only [dNext]
      refine sq_set (fun s => s = .d (.tuple ((boundOf z (xs.getD 0 .none) b).map PyData.str))) (fun Q hQ => ?_) ?_
      · refine ⟨_, at_0, rfl, by decide +kernel, _, rfl, ?_⟩
        refine ifb (fun h => ?_) (fun h => ?_)
        · have hb1 : bindsZ z = true := (binds_any z).symm.trans h
          have l2 : xs.length = 2 := by rw [hl2, binds_len hs hb1]
          obtain ⟨w, ew⟩ := isW_str (hbw hb1)
          have g2 := getD_mem (z := .str z) (xs := xs) (k := 1) (by omega) (by omega)
          have hat : atI (.str z :: xs) 1 = some (xs.getD 0 .none) := g2.1
          have hbo : boundOf z (xs.getD 0 .none) b = b ++ [unStr (xs.getD 0 .none)] := if_pos hb1
          have eb : (b ++ [unStr (xs.getD 0 .none)]).map PyData.str = b.map PyData.str ++ [xs.getD 0 .none] := by
            rw [List.map_append, ew]; rfl
          rw [hbo, eb] at hQ
          exact ⟨_, hat, _, rfl, s16 (by show 1 ≤ 16777216; omega), s16 (by rw [List.length_map]; show b.length + 1 ≤ 16777216; omega), hQ _ rfl⟩
        · have hb1 : bindsZ z = false := (binds_any z).symm.trans h
          rw [show boundOf z (xs.getD 0 .none) b = b from if_neg (by rw [hb1]; decide)] at hQ
          exact hQ _ rfl
      rintro _ rfl
      have lk : (inner z).length ≤ 2 := by
        cases kd_of hz with
        | A a c s ha hb ha2 hb2 i => rw [i]; exact Nat.zero_le _
        | N zz s i => rw [i]; decide
        | C zz s i => rw [i]; decide
        | Q zz s i => rw [i]; decide
      have hk := kids_ans (p := p) g (by show _ < 30; omega)
      have hms2 := kid_ms (p := p) (b := b) hs hl2
      have hwt : wt (.tuple (.str z :: xs)) = 3 + (wt (.str z) + 2 + wts xs) := by simp only [wt, wts]
      have hnew : ((kidI z xs p b ++ S).map encI).reverse = (S.map encI).reverse ++ (inner z).reverse.map fun k => encI (xs.getD (k - 1) .none, p ++ [.int (k : Nat)], boundOf z (xs.getD 0 .none) b) := by
        rw [List.map_append, List.reverse_append]
        congr 1
        unfold kidI
        rw [List.map_map, ← List.map_reverse]
        rfl
      refine ⟨_, rfl, rfl, z, xs, rfl, hz, _, rfl, by rw [List.length_reverse, List.length_map]; exact z1 _ (by omega), ?_⟩
      rw [show ((inner z).map fun (k : Nat) => PyData.int (k : Nat)).reverse = (inner z).reverse.map fun (k : Nat) => PyData.int (k : Nat) from List.map_reverse.symm]
      refine lc_mapT (fun (k : Nat) => PyData.int (k : Nat)) (fun k => encI (xs.getD (k - 1) .none, p ++ [.int (k : Nat)], boundOf z (xs.getD 0 .none) b)) (l := (inner z).reverse) (fun k hk K hK => ?_) ?_
      · have kl := inner_le hs k (List.mem_reverse.mp hk)
        obtain ⟨hat, hmem⟩ := getD_mem (z := .str z) (xs := xs) (k := k) (by omega) (by omega)
        exact ⟨_, hat, _, rfl, s16 (by show 1 ≤ 16777216; omega), s16 (by show p.length + 1 ≤ 16777216; omega), _, rfl, s16 (by show 3 ≤ 16777216; omega), hK _ rfl⟩
      · refine ⟨_, rfl, s16 (by rw [List.length_reverse, List.length_map, List.length_map, List.length_reverse]; omega), ?_⟩
        rw [← hnew]
        refine hx (msI (kidI z xs p b ++ S)) _ (by rw [msI_append]; omega) ⟨kidI z xs p b ++ S, _, _, _, _, _, rfl, ?_, Nat.le_refl _, by rw [msI_append]; omega, ?_⟩
        · rw [List.findSome?_append, ← hk, ← hS]
          cases ansI (.tuple (.str z :: xs), p, b) <;> rfl
        · intro i hi
          rcases List.mem_append.mp hi with hi | hi
          · unfold kidI at hi
            obtain ⟨k, hk1, rfl⟩ := List.mem_map.mp hi
            have kl := inner_le hs k hk1
            obtain ⟨_, hmem⟩ := getD_mem (z := .str z) (xs := xs) (k := k) (by omega) (by omega)
            have hdx := depth_mem (List.mem_cons_of_mem (.str z) hmem)
            refine ⟨hxa _ (List.mem_cons_of_mem _ hmem), ?_, ?_⟩
            · show (xs.getD (k - 1) PyData.none).depth + (p ++ [PyData.int (k : Nat)]).length < 30
              rw [List.length_append]
              show (xs.getD (k - 1) PyData.none).depth + (p.length + 1) < 30
              omega
            · show (xs.getD (k - 1) PyData.none).depth + (boundOf z (xs.getD 0 .none) b).length < 30
              omega
          · exact hI i (List.mem_cons_of_mem _ hi)

theorem sc__law_told_path : FnScope ["value", "error"] ["value"] (defScope s__law_told_path) := ⟨rfl, rfl, rfl, by decide +kernel, rfl, by decide +kernel, by decide +kernel⟩
theorem fn__law_told_path (A : At K mg "_law_told_path" s__law_told_path ["value"]) (T : Blt w K mg) (G_check_claim : FnXE P w K mg base "check_claim" 4 ["value"] 1 m_check_claim "BadClaim" "path") : Fn P w K mg base "_law_told_path" 5 ["value"] (spX K 1 m_told54) := by
  obtain ⟨C_, fI_, exT, g_, gfd_, gm_, gk_, gb_, gG_⟩ := G_check_claim.ex
  obtain ⟨S_, yS_⟩ := T.y_BadClaim C_ exT.gm
  refine fnD (k := 4) (m := m_told54) A sc__law_told_path (fun G f cdv A outer s H E hr ss R hl hm => ?_)
  refine ⟨_, _, (dss_one (ds_tryE (j := 1) exT yS_ gG_ (hr.mono (by decide)) gm_ gk_ gb_ (fun pn xe => (da_cons (de_v 0) da_nil)) sc__law_told_path.nd T.m_isinstance)), ?_⟩
  obtain ⟨v, rfl, ha, hd, hw, hR⟩ := hm
  refine ⟨(show (1 : Nat) < 2 by decide), rfl, v, rfl, ha, hd, hw, fun e => .inl ⟨rfl, ?_⟩, fun p e => .inr ⟨p, rfl, ?_⟩⟩
  · unfold toldC at hR; rw [e] at hR; exact hR
  · unfold toldC at hR; rw [e] at hR; exact hR

theorem sc__law_claim : FnScope ["source", "words", "names", "bound", "deep", "most", "way", "new", "late", "one", "name", "other"] ["source", "words", "names", "bound", "deep", "most"] (defScope s__law_claim) := ⟨rfl, rfl, rfl, by decide +kernel, rfl, by decide +kernel, by decide +kernel⟩
theorem fn__law_claim0 (A : At K mg "_law_claim" s__law_claim ["source", "words", "names", "bound", "deep", "most"]) (T : Blt w K mg) (G__law_of : Fn P w K mg base "_law_of" 2 ["source", "some"] (spX K 2 m__law_of)) (G__law_pick : Fn P w K mg base "_law_pick" 1 ["source", "many"] (spX K 2 m__law_pick)) {d : Nat} (G__law_claim : Fn P w K mg base "_law_claim" (2 + d) ["source", "words", "names", "bound", "deep", "most"] (spX K 6 (m__law_claim d))) : Fn P w K mg base "_law_claim" (2 + d + 1) ["source", "words", "names", "bound", "deep", "most"] (spX K 6 (m__law_claim (d + 1))) := by
  refine fnD (k := 2 + d) (m := m__law_claim (d + 1)) A sc__law_claim (fun G f cdv A outer s H E hr ss R hl hm => ?_)
  refine ⟨_, _, (dss_cons (ds_set 6 sc__law_claim.nd (de_ifE (dt_cmp op_gt (fun _ => lo_gt) (de_v 5) de_int) (k_fn (K := K) rfl G__law_pick (hr.mono (by omega)) (da_cons (de_v 0) (da_cons de_int da_nil))) de_int))
      (dss_cons (ds_if (DW.dt (dw_or (dt_cmp op_lt (fun _ => lo_lt) (de_v 6) de_int) (dw_or1 (DW.dt (dw_and (dt_cmp op_gt (fun _ => lo_gt) (de_v 6) de_int) (dw_and1 (dt_cmp op_eq (fun _ => lo_eqS) (de_v 4) de_int))))))) (dss_cons (ds_par 10 11 sc__law_claim.nd (da_cons (k_fn (K := K) rfl G__law_of (hr.mono (by omega)) (da_cons (de_v 0) (da_cons (de_v 2) da_nil))) (da_cons (k_fn (K := K) rfl G__law_of (hr.mono (by omega)) (da_cons (de_v 0) (da_cons (de_v 2) da_nil))) da_nil)))
      (dss_cons (ds_if (dt_cmp op_lt (fun _ => lo_lt) (k_fn (K := K) rfl G__law_pick (hr.mono (by omega)) (da_cons (de_v 0) (da_cons de_int da_nil))) de_int) (dss_one (ds_ret (de_tup (da_cons de_str (da_cons (k_fn (K := K) rfl G__law_of (hr.mono (by omega)) (da_cons (de_v 0) (da_cons (de_v 1) da_nil))) (da_cons (de_v 10) da_nil)))))) dss_nil)
      (dss_one (ds_ret (de_tup (da_cons (k_fn (K := K) rfl G__law_of (hr.mono (by omega)) (da_cons (de_v 0) (da_cons (de_lst (da_cons de_str (da_cons de_str (da_cons de_str da_nil)))) da_nil))) (da_cons (de_v 10) (da_cons (de_v 11) da_nil)))))))) dss_nil)
      (dss_cons (ds_if (dt_cmp op_eq (fun _ => lo_eqS) (de_v 6) de_int) (dss_one (ds_ret (de_tup (da_cons de_str (da_cons (k_fn (K := K) rfl G__law_claim (hr.mono (by omega)) (da_cons (de_v 0) (da_cons (de_v 1) (da_cons (de_v 2) (da_cons (de_v 3) (da_cons (de_v 4) (da_cons (de_op op_sub (fun _ => lo_sub) (de_v 5) de_int) da_nil))))))) da_nil))))) dss_nil)
      (dss_cons (ds_if (dt_cmp op_lt (fun _ => lo_lt) (de_v 6) de_int) (dss_cons (ds_set 9 sc__law_claim.nd (k_fn (K := K) rfl G__law_claim (hr.mono (by omega)) (da_cons (de_v 0) (da_cons (de_v 1) (da_cons (de_v 2) (da_cons (de_v 3) (da_cons (de_v 4) (da_cons (de_op op_sub (fun _ => lo_sub) (de_v 5) de_int) da_nil))))))))
      (dss_one (ds_ret (de_tup (da_cons (k_fn (K := K) rfl G__law_of (hr.mono (by omega)) (da_cons (de_v 0) (da_cons (de_lst (da_cons de_str (da_cons de_str da_nil))) da_nil))) (da_cons (de_v 9) (da_cons (k_fn (K := K) rfl G__law_claim (hr.mono (by omega)) (da_cons (de_v 0) (da_cons (de_v 1) (da_cons (de_v 2) (da_cons (de_v 3) (da_cons (de_v 4) (da_cons (de_op op_sub (fun _ => lo_sub) (de_v 5) de_int) da_nil))))))) da_nil))))))) dss_nil)
      (dss_cons (ds_set 7 sc__law_claim.nd (k_fn (K := K) rfl G__law_of (hr.mono (by omega)) (da_cons (de_v 0) (da_cons (de_lc (own := [("name", 10)]) sc__law_claim.nd (ki_list (K := K) rfl (de_lst (da_cons de_str (da_cons de_str (da_cons de_str (da_cons de_str da_nil)))))) (blkOk_by (N := ["source", "words", "names", "bound", "deep", "most", "way", "new", "late", "one", "name", "other"]) (sc := defScope s__law_claim) (by decide +kernel)) (fun _ _ _ _ _ => by exact (dg_name 10 (by decide) sc__law_claim.nd)) (fun _ _ _ _ _ => by exact (dp_one (by exact (dt_cmp (k_notIn (K := K) rfl) (fun _ => lo_in true) (de_v 10) (de_v 3))))) (fun _ _ _ _ _ => by exact (de_v 10))) da_nil))))
      (dss_cons (ds_set 8 sc__law_claim.nd (k_fn (K := K) rfl G__law_claim (hr.mono (by omega)) (da_cons (de_v 0) (da_cons (de_v 1) (da_cons (de_op op_cat (fun _ => lo_cat) (de_v 2) (de_op op_rep (fun _ => lo_rep) (de_lst (da_cons (de_v 7) da_nil)) de_int)) (da_cons (de_op op_cat (fun _ => lo_cat) (de_v 3) (de_lst (da_cons (de_v 7) da_nil))) (da_cons (de_op op_sub (fun _ => lo_sub) (de_v 4) de_int) (da_cons (de_op op_sub (fun _ => lo_sub) (de_v 5) de_int) da_nil))))))))
      (dss_one (ds_ret (de_tup (da_cons (k_fn (K := K) rfl G__law_of (hr.mono (by omega)) (da_cons (de_v 0) (da_cons (de_lst (da_cons de_str (da_cons de_str da_nil))) da_nil))) (da_cons (de_v 7) (da_cons (de_v 8) da_nil)))))))))))), ?_⟩
  obtain ⟨ws, ns, bs, dp, mo, rfl, hw, hn, hdp, hb, hmo, hR⟩ := hm
  have z1 : ∀ n : Nat, n ≤ 1000 → n ≤ sizeLine := fun n h => s16 (by omega)
  have nL := hn.2.1
  refine sq_set (fun s => ∃ way : Int, s = .d (.int way) ∧ 0 ≤ way ∧ (mo = 0 → way = 0)) (fun Q hQ => ?_) ?_
  · refine ⟨_, rfl, ?_⟩
    refine ifb (fun h => ?_) (fun h => ?_)
    · exact ⟨rfl, 9, rfl, by decide, fun i i0 i1 => hQ _ ⟨i, rfl, i0, fun e => by subst e; exact absurd h (by decide)⟩⟩
    · exact hQ _ ⟨0, rfl, by omega, fun _ => rfl⟩
  rintro _ ⟨way, rfl, w0, wz⟩
  refine if_iffS (way < 2 ∨ (way > 4 ∧ dp = 0)) (¬ (way < 2 ∨ (way > 4 ∧ dp = 0))) (fun Q hp hq => ?_) (fun h => ?_) (fun h => ?_)
  · refine ⟨_, rfl, ?_⟩
    refine ifb (fun h => hp (.inl (of_decide_eq_true h))) (fun h => ?_)
    have h := of_decide_eq_false h
    refine ⟨_, rfl, ?_⟩
    refine ifb (fun h2 => ?_) (fun h2 => hq (fun c => c.elim h (fun c => absurd c.1 (of_decide_eq_false h2))))
    have h2 := of_decide_eq_true h2
    refine ⟨_, rfl, ?_⟩
    show Q (decide ((dp : Int) = 0))
    by_cases c : dp = 0
    · rw [decide_eq_true (by omega)]; exact hp (.inr ⟨h2, c⟩)
    · rw [decide_eq_false (by omega)]; exact hq (fun q => q.elim h (fun q => c q.2))
  · refine ⟨rfl, _, rfl, hn.ne, hn.lt (by omega), fun x hx => ⟨rfl, _, rfl, hn.ne, hn.lt (by omega), fun y hy => ?_⟩⟩
    obtain ⟨a, ha, rfl⟩ := strs_in hx
    obtain ⟨c, hc, rfl⟩ := strs_in hy
    have oa := hn.2.2 a ha
    have oc := hn.2.2 c hc
    refine ⟨_, _, rfl, ?_⟩
    have bw := BW_le mo
    dsimp only
    refine if_iffS True True (fun Q hp hq => ?_) (fun _ => ?_) (fun _ => ?_)
    · refine ⟨rfl, 5, rfl, by decide, fun i _ _ => ⟨_, rfl, ?_⟩⟩
      cases (decide (i < 3))
      · exact hq trivial
      · exact hp trivial
    · refine ⟨rfl, _, rfl, hw.ne, hw.lt (by omega), fun u hu => ⟨_, rfl, s16 (by show 3 ≤ 16777216; omega), ?_⟩⟩
      obtain ⟨l, hl', rfl⟩ := strs_in hu
      have ok := leaf_ok (z := "mark") (by decide +kernel) (hw.2.2 l hl') oa
      exact hR _ ok.1 (ok.2.mono bw (by omega))
    · dsimp only [dNext]
      refine ⟨_, rfl, z1 _ (by decide), rfl, _, rfl, by simp, by show 3 < 1000000; omega, fun u hu => ⟨_, rfl, s16 (by show 3 ≤ 16777216; omega), ?_⟩⟩
      obtain ⟨z, hz, rfl⟩ : ∃ z ∈ marksC, u = .str z := by
        rcases (by simpa using hu : u = .str "before" ∨ u = .str "same") with rfl | rfl
        · exact ⟨_, by decide +kernel, rfl⟩
        · exact ⟨_, by decide +kernel, rfl⟩
      have ok := leaf_ok hz oa oc
      exact hR _ ok.1 (ok.2.mono bw (by omega))
  dsimp only [dNext]
  have mo1 : 1 ≤ mo := by
    rcases Nat.eq_zero_or_pos mo with e | e
    · exact absurd (.inl (by rw [wz e]; decide)) h
    · exact e
  obtain ⟨mo', rfl⟩ : ∃ k, mo = k + 1 := ⟨mo - 1, by omega⟩
  obtain ⟨d', rfl⟩ : ∃ k, d = k + 1 := ⟨d - 1, by omega⟩
  have bw : BW (mo' + 1) = 2 * BW mo' + 100 := rfl
  have em : (((mo' + 1 : Nat) : Int) - 1) = ((mo' : Nat) : Int) := by omega
  refine if_iffS (way = 2) (way ≠ 2) (fun Q hp hq => ?_) (fun h2 => ?_) (fun h2 => ?_)
  · refine ⟨_, rfl, ?_⟩
    show Q (decide (way = 2))
    by_cases c : way = 2
    · rw [decide_eq_true c]; exact hp c
    · rw [decide_eq_false c]; exact hq c
  · refine ⟨rfl, ws, ns, bs, dp, mo', by rw [← em]; rfl, hw, hn, hdp, hb, by omega, fun v hv gv => ⟨_, rfl, s16 (by show 2 ≤ 16777216; omega), ?_⟩⟩
    have ok := not_ok hv gv
    exact hR _ ok.1 (ok.2.mono (by omega) (by omega))
  dsimp only [dNext]
  refine if_iffS (way < 5) (¬ way < 5) (fun Q hp hq => ?_) (fun h3 => ?_) (fun h3 => ?_)
  · refine ⟨_, rfl, ?_⟩
    show Q (decide (way < 5))
    by_cases c : way < 5
    · rw [decide_eq_true c]; exact hp c
    · rw [decide_eq_false c]; exact hq c
  · refine sq_set (fun s => ∃ v, s = .d v ∧ Shp v ∧ Gd (BW mo') (mo' + 1) v) (fun Q hQ => ⟨rfl, ws, ns, bs, dp, mo', by rw [← em]; rfl, hw, hn, hdp, hb, by omega, fun v hv gv => hQ _ ⟨v, rfl, hv, gv⟩⟩) ?_
    rintro _ ⟨v, rfl, hv, gv⟩
    refine ⟨_, rfl, z1 _ (by decide), rfl, _, rfl, by simp, by show 2 < 1000000; omega, fun u hu => ?_⟩
    obtain ⟨z, hz, rfl⟩ : ∃ z ∈ (["and", "or"] : List Str), u = .str z := by
      rcases (by simpa using hu : u = .str "and" ∨ u = .str "or") with rfl | rfl
      · exact ⟨_, by decide +kernel, rfl⟩
      · exact ⟨_, by decide +kernel, rfl⟩
    refine ⟨rfl, ws, ns, bs, dp, mo', by rw [← em]; rfl, hw, hn, hdp, hb, by omega, fun v2 hv2 gv2 => ⟨_, rfl, s16 (by show 3 ≤ 16777216; omega), ?_⟩⟩
    have ok := two_ok hz hv gv hv2 gv2
    exact hR _ ok.1 (ok.2.mono (by omega) (by omega))
  dsimp only [dNext]
  have hd0 : dp ≠ 0 := fun e => h (.inr ⟨by omega, e⟩)
  refine sq_set (fun s => ∃ x, s = .d (.str x) ∧ okW x = true) (fun Q hQ => ?_) ?_
  · have b1 : bs.length ≤ 1 := by omega
    refine ⟨_, rfl, z1 _ (by decide), _, rfl, z1 _ (by decide), ?_⟩
    refine (show dLcGo _ _ _ _ ((["x", "y", "z", "t"] : List Str).map PyData.str) [] _ from ?_)
    refine lc_fmGo PyData.str (fun w => if (!decide (w ∈ bs)) = true then some (.str w) else none) ["x", "y", "z", "t"] [] (fun w hw K hK => ?_) ?_
    · unfold dTurn
      refine ⟨rfl, by simp [flatD], _, rfl, ?_⟩
      have e : ((bs.map PyData.str).any fun u => PyData.eqv u (.str w)) = decide (w ∈ bs) := any_strs
      refine (show if (!((bs.map PyData.str).any fun u => PyData.eqv u (.str w))) = true then _ else _ from ?_)
      rw [e]
      cases g : decide (w ∈ bs) with
      | true => rw [g] at hK; exact hK
      | false => rw [g] at hK; exact ⟨_, rfl, hK⟩
    · rw [List.nil_append, fm_if]
      have ne : ((["x", "y", "z", "t"] : List Str).filter fun w => !decide (w ∈ bs)) ≠ [] := by
        intro e
        have hx := List.filter_eq_nil_iff.mp e "x" (by decide +kernel)
        have hy := List.filter_eq_nil_iff.mp e "y" (by decide +kernel)
        have hx : ("x" : Str) ∈ bs := by simpa using hx
        have hy : ("y" : Str) ∈ bs := by simpa using hy
        match bs, b1, hx, hy with
        | [a], _, hx, hy =>
          have e := (List.mem_singleton.mp hx).trans (List.mem_singleton.mp hy).symm
          exact absurd e (by decide +kernel)
      refine ⟨rfl, _, rfl, fun e => ne (List.map_eq_nil_iff.mp e), ?_, fun u hu => ?_⟩
      · have := List.length_filter_le (fun w => !decide (w ∈ bs)) (["x", "y", "z", "t"] : List Str)
        have l4 : (["x", "y", "z", "t"] : List Str).length = 4 := rfl
        rw [List.length_map]; omega
      · obtain ⟨w, hw, rfl⟩ := List.mem_map.mp hu
        have ok : ∀ w ∈ (["x", "y", "z", "t"] : List Str), okW w = true := by decide +kernel
        exact hQ _ ⟨w, rfl, ok w (List.mem_filter.mp hw).1⟩
  rintro _ ⟨x, rfl, hx⟩
  refine sq_set (fun s => ∃ v, s = .d v ∧ Shp v ∧ Gd (BW mo') (mo' + 1) v) (fun Q hQ => ?_) ?_
  · have e1 : (ns ++ [x, x]).map PyData.str = ns.map PyData.str ++ [.str x, .str x] := by rw [List.map_append]; rfl
    have e2 : (bs ++ [x]).map PyData.str = bs.map PyData.str ++ [.str x] := by rw [List.map_append]; rfl
    have ed : ((dp : Int) - 1) = ((dp - 1 : Nat) : Int) := by omega
    refine ⟨_, rfl, s16 (by show 1 ≤ 16777216; omega), by decide, by decide, s16 (by show 1 * 2 ≤ 16777216; omega), s16 (by rw [List.length_map]; show ns.length + 2 ≤ 16777216; omega), _, rfl, s16 (by show 1 ≤ 16777216; omega), s16 (by rw [List.length_map]; show bs.length + 1 ≤ 16777216; omega), rfl, ws, ns ++ [x, x], bs ++ [x], dp - 1, mo', by rw [← em, ← ed, e1, e2]; rfl, hw, ⟨by simp, by rw [List.length_append]; show ns.length + 2 ≤ _; omega, fun u hu => ?_⟩, by omega, by rw [List.length_append]; show bs.length + 1 + (dp - 1) ≤ 2; omega, by omega, fun v hv gv => hQ _ ⟨v, rfl, hv, gv⟩⟩
    rcases List.mem_append.mp hu with hu | hu
    · exact hn.2.2 u hu
    · rcases (by simpa using hu : u = x) with rfl
      exact hx
  rintro _ ⟨v, rfl, hv, gv⟩
  refine ⟨_, rfl, z1 _ (by decide), rfl, _, rfl, by simp, by show 2 < 1000000; omega, fun u hu => ?_⟩
  obtain ⟨z, hz, rfl⟩ : ∃ z ∈ (["some", "each"] : List Str), u = .str z := by
    rcases (by simpa using hu : u = .str "some" ∨ u = .str "each") with rfl | rfl
    · exact ⟨_, by decide +kernel, rfl⟩
    · exact ⟨_, by decide +kernel, rfl⟩
  refine ⟨_, rfl, s16 (by show 3 ≤ 16777216; omega), ?_⟩
  have ok := bind_ok hz hx hv gv
  exact hR _ ok.1 (ok.2.mono (by omega) (by omega))
theorem fn__law_claim (A : At K mg "_law_claim" s__law_claim ["source", "words", "names", "bound", "deep", "most"]) (T : Blt w K mg) (G__law_of : Fn P w K mg base "_law_of" 2 ["source", "some"] (spX K 2 m__law_of)) (G__law_pick : Fn P w K mg base "_law_pick" 1 ["source", "many"] (spX K 2 m__law_pick)) : Fn P w K mg base "_law_claim" 10 ["source", "words", "names", "bound", "deep", "most"] (spX K 6 (m__law_claim 8)) := by
  have all : ∀ d : Nat, Fn P w K mg base "_law_claim" (2 + d) ["source", "words", "names", "bound", "deep", "most"] (spX K 6 (m__law_claim d)) := fun d => by
    induction d with
    | zero => exact Fn.none A fun _ _ z => z
    | succ d ih => exact fn__law_claim0 A T G__law_of G__law_pick ih
  exact all 8

theorem sc__law_bent_claim : FnScope ["source", "claim", "some", "k", "odd"] ["source", "claim"] (defScope s__law_bent_claim) := ⟨rfl, rfl, rfl, by decide +kernel, rfl, by decide +kernel, by decide +kernel⟩
theorem fn__law_bent_claim0 (A : At K mg "_law_bent_claim" s__law_bent_claim ["source", "claim"]) (T : Blt w K mg) (G__law_inner : Fn P w K mg base "_law_inner" 1 ["claim"] (spX K 1 m__law_inner)) (G__law_odd : Fn P w K mg base "_law_odd" 3 ["source"] (spX K 1 m__law_odd)) (G__law_of : Fn P w K mg base "_law_of" 2 ["source", "some"] (spX K 2 m__law_of)) (G__law_pick : Fn P w K mg base "_law_pick" 1 ["source", "many"] (spX K 2 m__law_pick)) {d : Nat} (G__law_bent_claim : Fn P w K mg base "_law_bent_claim" (3 + d) ["source", "claim"] (spX K 2 (m__law_bent_claim d))) : Fn P w K mg base "_law_bent_claim" (3 + d + 1) ["source", "claim"] (spX K 2 (m__law_bent_claim (d + 1))) := by
  refine fnD (k := 3 + d) (m := m__law_bent_claim (d + 1)) A sc__law_bent_claim (fun G f cdv A outer s H E hr ss R hl hm => ?_)
  refine ⟨_, _, (dss_cons (ds_if (DW.dt (dw_and (dt_cmp (k_ne (K := K) rfl hr.units) (fun _ => lo_ne) (k_fn (K := K) rfl G__law_inner (hr.mono (by omega)) (da_cons (de_v 1) da_nil)) (de_lst da_nil)) (dw_and1 (dt_cmp op_gt (fun _ => lo_gt) (k_fn (K := K) rfl G__law_pick (hr.mono (by omega)) (da_cons (de_v 0) (da_cons de_int da_nil))) de_int)))) (dss_cons (ds_set 3 sc__law_bent_claim.nd (k_fn (K := K) rfl G__law_of (hr.mono (by omega)) (da_cons (de_v 0) (da_cons (k_fn (K := K) rfl G__law_inner (hr.mono (by omega)) (da_cons (de_v 1) da_nil)) da_nil))))
      (dss_one (ds_ret (de_op (k_catT (K := K) rfl) (fun _ => lo_catT) (de_op (k_catT (K := K) rfl) (fun _ => lo_catT) (de_slice (k_slT (K := K) rfl) (fun _ => ls_tup) (de_v 1) do_none (do_some (de_v 3))) (de_tup (da_cons (k_fn (K := K) rfl G__law_bent_claim (hr.mono (by omega)) (da_cons (de_v 0) (da_cons (de_ix (k_ix (K := K) rfl) (fun _ => lo_ix) (de_v 1) (de_v 3)) da_nil))) da_nil))) (de_slice (k_slT (K := K) rfl) (fun _ => ls_tup) (de_v 1) (do_some (de_op op_add (fun _ => lo_add) (de_v 3) de_int)) do_none))))) dss_nil)
      (dss_cons (ds_par 4 3 sc__law_bent_claim.nd (da_cons (k_fn (K := K) rfl G__law_odd (hr.mono (by omega)) (da_cons (de_v 0) da_nil)) (da_cons (k_fn (K := K) rfl G__law_pick (hr.mono (by omega)) (da_cons (de_v 0) (da_cons (de_callB (k_len (K := K) rfl) (fun _ => lc_len) T.m_len (da_cons (de_v 1) da_nil)) da_nil))) da_nil)))
      (dss_cons (ds_set 2 sc__law_bent_claim.nd (DE.fz (de_lst (da_cons (de_op (k_catT (K := K) rfl) (fun _ => lo_catT) (de_op (k_catT (K := K) rfl) (fun _ => lo_catT) (de_slice (k_slT (K := K) rfl) (fun _ => ls_tup) (de_v 1) do_none (do_some (de_v 3))) (de_tup (da_cons (de_v 4) da_nil))) (de_slice (k_slT (K := K) rfl) (fun _ => ls_tup) (de_v 1) (do_some (de_op op_add (fun _ => lo_add) (de_v 3) de_int)) do_none)) (da_cons (de_op (k_catT (K := K) rfl) (fun _ => lo_catT) (de_v 1) (de_tup (da_cons (de_v 4) da_nil))) (da_cons (de_slice (k_slT (K := K) rfl) (fun _ => ls_tup) (de_v 1) do_none (do_some (de_un un_neg (fun _ => lu_neg) de_int))) (da_cons (de_callTy (k_list (K := K) rfl) (fun _ => lc_list) T.m_list (da_cons (de_v 1) da_nil)) (da_cons (de_v 4) (da_cons (de_tup (da_cons (de_v 1) da_nil)) (da_cons (k_revT (K := K) rfl (de_v 1)) (da_cons (de_tup da_nil) da_nil)))))))))))
      (dss_cons (ds_set 2 sc__law_bent_claim.nd (DE.fz (de_op op_cat (fun _ => lo_cat) (de_v 2) (de_lst (da_cons (de_tup (da_cons de_str (da_cons de_str (da_cons (de_v 1) da_nil)))) (da_cons (de_tup (da_cons de_str (da_cons de_str (da_cons (de_v 1) da_nil)))) (da_cons (de_tup (da_cons de_str (da_cons (de_v 1) da_nil))) (da_cons (de_tup (da_cons de_str (da_cons (de_v 4) (da_cons (de_v 1) da_nil)))) da_nil))))))))
      (dss_cons (ds_set 2 sc__law_bent_claim.nd (DE.fz (de_op op_cat (fun _ => lo_cat) (de_v 2) (de_lst (da_cons (de_tup (da_cons de_str (da_cons (de_v 1) (da_cons (de_v 4) da_nil)))) (da_cons (de_tup (da_cons de_str (da_cons (de_v 1) (da_cons (de_v 1) da_nil)))) (da_cons (de_tup (da_cons de_str (da_cons (de_v 4) (da_cons (de_v 1) da_nil)))) (da_cons (de_tup (da_cons de_str (da_cons (de_v 4) (da_cons de_str da_nil)))) da_nil))))))))
      (dss_cons (ds_set 2 sc__law_bent_claim.nd (DE.fz (de_op op_cat (fun _ => lo_cat) (de_v 2) (de_lst (da_cons (de_tup (da_cons de_str (da_cons de_str (da_cons (de_v 4) da_nil)))) (da_cons (de_tup (da_cons de_str (da_cons de_str (da_cons (de_v 4) da_nil)))) (da_cons (de_tup (da_cons de_str (da_cons (de_v 4) (da_cons de_str da_nil)))) (da_cons (de_tup (da_cons de_str da_nil)) (da_cons (de_tup (da_cons (de_ix (k_ix (K := K) rfl) (fun _ => lo_ix) (de_v 1) de_int) da_nil)) da_nil)))))))))
      (dss_one (ds_ret (k_fn (K := K) rfl G__law_of (hr.mono (by omega)) (da_cons (de_v 0) (da_cons (de_op op_cat (fun _ => lo_cat) (de_v 2) (de_lst (da_cons (de_tup (da_cons de_str (da_cons de_str (da_cons (de_v 1) da_nil)))) (da_cons (de_tup (da_cons de_str (da_cons de_str (da_cons de_str da_nil)))) da_nil)))) da_nil))))))))))), ?_⟩
  obtain ⟨v, n, m, rfl, hv, gv, hm2, hR⟩ := hm
  have z1 : ∀ n : Nat, n ≤ 1000 → n ≤ sizeLine := fun n h => s16 (by omega)
  cases hv with
  | @mk z xs ws hs hl hk =>
  have hl2 := sorts_len hs
  have lx : xs.length ≤ 2 := by omega
  have okI : okD1 (.list ((inner z).map fun k => PyData.int (k : Nat))) := by
    have := okD1_nums (l := (inner z).map fun (k : Nat) => (k : Int)) (fun i hi => by
      obtain ⟨k, hk, rfl⟩ := List.mem_map.mp hi
      have := inner_le hs k hk
      refine Nat.lt_of_lt_of_le ?_ p100
      omega)
    rw [List.map_map] at this
    exact this
  refine if_iffS (inner z ≠ []) True (fun Q hp hq => ?_) (fun h => ?_) (fun _ => ?_)
  · refine ⟨rfl, z, xs, rfl, [], rfl, z1 _ (by decide), okI, okD1_nil, _, rfl, ?_⟩
    rw [eqvD_nil]
    cases c : inner z with
    | nil => exact hq trivial
    | cons k r =>
      refine ⟨rfl, 4, rfl, by decide, fun i i0 i1 => ⟨_, rfl, ?_⟩⟩
      cases (decide (i > 0))
      · exact hq trivial
      · exact hp (by rw [c]; exact List.cons_ne_nil _ _)
  · refine sq_set (fun s => ∃ k ∈ inner z, s = .d (.int (k : Nat))) (fun Q hQ => ?_) ?_
    · refine ⟨rfl, z, xs, rfl, rfl, _, rfl, fun e => h (List.map_eq_nil_iff.mp e), ?_, fun x hx => ?_⟩
      · rw [List.length_map]
        have hz : z ∈ wordsC := by
          rcases sorts_cases z with ⟨e, _⟩ | q
          · rw [e] at hs; cases hs
          · exact q
        cases kd_of hz with
        | A a c s ha hb ha2 hb2 i => rw [i]; decide
        | N zz s i => rw [i]; decide
        | C zz s i => rw [i]; decide
        | Q zz s i => rw [i]; decide
      · obtain ⟨k, hk, rfl⟩ := List.mem_map.mp hx
        exact hQ _ ⟨k, hk, rfl⟩
    rintro _ ⟨k, hk2, rfl⟩
    have kl := inner_le hs k hk2
    obtain ⟨hat, hmem⟩ := getD_mem (z := .str z) (xs := xs) (k := k) (by omega) (by omega)
    have hsh := hk k hk2
    have gc := gd_mem gv (List.mem_cons_of_mem _ hmem)
    have hwc := wts_mem (List.mem_cons_of_mem (.str z) hmem)
    have hdc := depth_mem (List.mem_cons_of_mem (.str z) hmem)
    have hck : ∀ h : k < (PyData.str z :: xs).length, (PyData.str z :: xs)[k] = xs.getD (k - 1) .none := fun h => by
      obtain ⟨k', rfl⟩ : ∃ j, k = j + 1 := ⟨k - 1, by omega⟩
      have lt : k' < xs.length := by omega
      show xs[k'] = xs.getD k' .none
      rw [List.getD_eq_getElem?_getD, List.getElem?_eq_getElem lt]; rfl
    have hw := gv.w
    have hd := gv.d
    simp only [wt] at hw
    generalize xs.getD (k - 1) .none = c at hat hmem hsh gc hwc hdc hck
    obtain ⟨d', rfl⟩ : ∃ j, d = j + 1 := ⟨d - 1, by omega⟩
    have hkl : k < (PyData.str z :: xs).length := by simp; omega
    have c1 : Pu.cutD (.str z :: xs) none (some (k : Nat)) = (.str z :: xs : List PyData).take k := cut_take
    have c2 : Pu.cutD (.str z :: xs) (some ((k : Nat) + 1)) none = (.str z :: xs : List PyData).drop (k + 1) := by
      rw [show ((k : Nat) : Int) + 1 = ((k + 1 : Nat) : Int) by omega]
      exact cut_from
    refine ⟨(k : Nat), rfl, _, hat, rfl, c, wt c, m - 1, rfl, hsh, gc, by omega, fun v' gv' => ?_⟩
    have l1 : (Pu.cutD (.str z :: xs) none (some (k : Nat))).length ≤ 3 := by rw [c1, List.length_take]; simp; omega
    have l2 : (Pu.cutD (.str z :: xs) (some ((k : Nat) + 1)) none).length ≤ 3 := by rw [c2, List.length_drop]; simp; omega
    refine ⟨_, rfl, s16 (by show 1 ≤ 16777216; omega), s16 (by show _ + 1 ≤ 16777216; omega), _, rfl, s16 (by rw [List.length_append]; show _ + 1 + _ ≤ 16777216; omega), hR _ ?_⟩
    show Gd (2 * n + 400) (m + 3) (.tuple (Pu.cutD (.str z :: xs) none (some (k : Nat)) ++ [v'] ++ Pu.cutD (.str z :: xs) (some ((k : Nat) + 1)) none))
    rw [c1, c2]
    refine bent_put gv (by simp; omega) hkl ⟨gv'.a, gv'.s, Nat.le_refl _, Nat.le_trans gv'.d (by omega)⟩ (by omega) ?_
    rw [hck hkl]
    have := gv'.w
    omega
  dsimp only [dNext]
  refine ⟨rfl, rfl, fun o ho => ⟨rfl, _, rfl, ?_, fun i i0 i1 => ?_⟩⟩
  · show (((PyData.str z :: xs).length : Nat) : Int) < 536870912
    simp; omega
  have i1 : i < if (((PyData.str z :: xs).length : Nat) : Int) > 1 then (((PyData.str z :: xs).length : Nat) : Int) else 1 := i1
  obtain ⟨k, rfl⟩ : ∃ k : Nat, i = k := ⟨i.toNat, by omega⟩
  have hkl : k < xs.length + 1 := by
    have e : (PyData.str z :: xs).length = xs.length + 1 := rfl
    split at i1 <;> omega
  have go := gd_of (oddC_ok o ho)
  have B := bent_ok gv lx go
  have c1 : Pu.cutD (.str z :: xs) none (some (k : Nat)) = (.str z :: xs : List PyData).take k := cut_take
  have c2 : Pu.cutD (.str z :: xs) (some ((k : Nat) + 1)) none = (.str z :: xs : List PyData).drop (k + 1) := by
    rw [show ((k : Nat) : Int) + 1 = ((k + 1 : Nat) : Int) by omega]
    exact cut_from
  have l1 : (Pu.cutD (.str z :: xs) none (some (k : Nat))).length ≤ 3 := by rw [c1, List.length_take]; simp; omega
  have l2 : (Pu.cutD (.str z :: xs) (some ((k : Nat) + 1)) none).length ≤ 3 := by rw [c2, List.length_drop]; simp; omega
  refine ⟨_, _, rfl, ?_⟩
  dsimp only
  refine sq_set (fun s => s = .d (.list [.tuple (Pu.cutD (.str z :: xs) none (some (k : Nat)) ++ [o] ++ Pu.cutD (.str z :: xs) (some ((k : Nat) + 1)) none), .tuple (.str z :: xs ++ [o]), .tuple (Pu.cutD (.str z :: xs) none (some (-1))), .list (.str z :: xs), o, .tuple [.tuple (.str z :: xs)], .tuple (.str z :: xs).reverse, .tuple []])) (fun Q hQ => ?_) ?_
  · refine ⟨(k : Nat), rfl, _, rfl, s16 (by show 1 ≤ 16777216; omega), s16 (by show _ + 1 ≤ 16777216; omega), _, rfl, s16 (by rw [List.length_append]; show _ + 1 + _ ≤ 16777216; omega), ?_⟩
    refine ⟨_, rfl, s16 (by show 1 ≤ 16777216; omega), s16 (by show xs.length + 1 + 1 ≤ 16777216; omega), ?_⟩
    refine ⟨_, rfl, ?_⟩
    refine ⟨_, rfl, s16 (by show 1 ≤ 16777216; omega), ?_⟩
    refine ⟨_, rfl, ?_⟩
    refine ⟨[], rfl, z1 _ (by decide), ?_⟩
    exact ⟨_, rfl, s16 (by show 8 ≤ 16777216; omega), hQ _ rfl⟩
  rintro _ rfl
  generalize hL : (PyData.list [.tuple (Pu.cutD (.str z :: xs) none (some (k : Nat)) ++ [o] ++ Pu.cutD (.str z :: xs) (some ((k : Nat) + 1)) none), .tuple (.str z :: xs ++ [o]), .tuple (Pu.cutD (.str z :: xs) none (some (-1))), .list (.str z :: xs), o, .tuple [.tuple (.str z :: xs)], .tuple (.str z :: xs).reverse, .tuple []]) = L1
  refine sq_set (fun s => ∃ ys : List PyData, s = .d (.list ys) ∧ ys.length = 12 ∧ ∀ y ∈ ys, Gd (2 * n + 400) (m + 3) y) (fun Q hQ => ?_) ?_
  · subst hL
    refine ⟨_, rfl, s16 (by show 3 ≤ 16777216; omega), _, rfl, s16 (by show 3 ≤ 16777216; omega), _, rfl, s16 (by show 2 ≤ 16777216; omega), _, rfl, s16 (by show 3 ≤ 16777216; omega), _, rfl, s16 (by show 4 ≤ 16777216; omega), s16 (by show 8 + 4 ≤ 16777216; omega), hQ _ ⟨_, rfl, rfl, ?_⟩⟩
    intro y hy
    simp only [List.mem_append, List.mem_cons, List.not_mem_nil, or_false] at hy
    rcases hy with (rfl | rfl | rfl | rfl | rfl | rfl | rfl | rfl) | (rfl | rfl | rfl | rfl)
    · rw [c1, c2]; exact B.1 k hkl
    · exact B.2.2 _ (by simp)
    · exact B.2.1 _ _
    all_goals exact B.2.2 _ (by simp)
  rintro _ ⟨ys, rfl, ly, hy⟩
  refine sq_set (fun s => ∃ ys : List PyData, s = .d (.list ys) ∧ ys.length = 16 ∧ ∀ y ∈ ys, Gd (2 * n + 400) (m + 3) y) (fun Q hQ => ?_) ?_
  · refine ⟨_, rfl, s16 (by show 3 ≤ 16777216; omega), _, rfl, s16 (by show 3 ≤ 16777216; omega), _, rfl, s16 (by show 3 ≤ 16777216; omega), _, rfl, s16 (by show 3 ≤ 16777216; omega), _, rfl, s16 (by show 4 ≤ 16777216; omega), s16 (by show ys.length + 4 ≤ 16777216; omega), hQ _ ⟨_, rfl, by rw [List.length_append, ly]; rfl, ?_⟩⟩
    intro y hy2
    rcases List.mem_append.mp hy2 with h | h
    · exact hy y h
    · simp only [List.mem_cons, List.not_mem_nil, or_false] at h
      rcases h with rfl | rfl | rfl | rfl <;> exact B.2.2 _ (by simp)
  clear hy ly
  rintro _ ⟨ys, rfl, ly, hy⟩
  refine sq_set (fun s => ∃ ys : List PyData, s = .d (.list ys) ∧ ys.length = 21 ∧ ∀ y ∈ ys, Gd (2 * n + 400) (m + 3) y) (fun Q hQ => ?_) ?_
  · refine ⟨_, rfl, s16 (by show 3 ≤ 16777216; omega), _, rfl, s16 (by show 3 ≤ 16777216; omega), _, rfl, s16 (by show 3 ≤ 16777216; omega), _, rfl, s16 (by show 1 ≤ 16777216; omega), _, at_0, _, rfl, s16 (by show 1 ≤ 16777216; omega), _, rfl, s16 (by show 5 ≤ 16777216; omega), s16 (by show ys.length + 5 ≤ 16777216; omega), hQ _ ⟨_, rfl, by rw [List.length_append, ly]; rfl, ?_⟩⟩
    intro y hy2
    rcases List.mem_append.mp hy2 with h | h
    · exact hy y h
    · simp only [List.mem_cons, List.not_mem_nil, or_false] at h
      rcases h with rfl | rfl | rfl | rfl | rfl <;> exact B.2.2 _ (by simp)
  clear hy ly
  rintro _ ⟨ys, rfl, ly, hy⟩
  refine ⟨_, rfl, s16 (by show 3 ≤ 16777216; omega), _, rfl, s16 (by show 3 ≤ 16777216; omega), _, rfl, s16 (by show 2 ≤ 16777216; omega), s16 (by show ys.length + 2 ≤ 16777216; omega), rfl, _, rfl, by simp, by rw [List.length_append, ly]; show 21 + 2 < 1000000; omega, fun y hy2 => hR y ?_⟩
  rcases List.mem_append.mp hy2 with h | h
  · exact hy y h
  · simp only [List.mem_cons, List.not_mem_nil, or_false] at h
    rcases h with rfl | rfl <;> exact B.2.2 _ (by simp)
theorem fn__law_bent_claim (A : At K mg "_law_bent_claim" s__law_bent_claim ["source", "claim"]) (T : Blt w K mg) (G__law_inner : Fn P w K mg base "_law_inner" 1 ["claim"] (spX K 1 m__law_inner)) (G__law_odd : Fn P w K mg base "_law_odd" 3 ["source"] (spX K 1 m__law_odd)) (G__law_of : Fn P w K mg base "_law_of" 2 ["source", "some"] (spX K 2 m__law_of)) (G__law_pick : Fn P w K mg base "_law_pick" 1 ["source", "many"] (spX K 2 m__law_pick)) : Fn P w K mg base "_law_bent_claim" 23 ["source", "claim"] (spX K 2 (m__law_bent_claim 20)) := by
  have all : ∀ d : Nat, Fn P w K mg base "_law_bent_claim" (3 + d) ["source", "claim"] (spX K 2 (m__law_bent_claim d)) := fun d => by
    induction d with
    | zero => exact Fn.none A fun _ _ z => z
    | succ d ih => exact fn__law_bent_claim0 A T G__law_inner G__law_odd G__law_of G__law_pick ih
  exact all 20

theorem sc__law_path : FnScope ["value", "bound", "sizes", "wrong", "k", "path"] ["value", "bound"] (defScope s__law_path) := ⟨rfl, rfl, rfl, by decide +kernel, rfl, by decide +kernel, by decide +kernel⟩
theorem fn__law_path0 (A : At K mg "_law_path" s__law_path ["value", "bound"]) (T : Blt w K mg) (G__law_inner : Fn P w K mg base "_law_inner" 1 ["claim"] (spX K 1 m__law_inner)) (G__law_is_word : Fn P w K mg base "_law_is_word" 1 ["value"] (spX K 1 m__law_is_word)) {d : Nat} (G__law_path : Fn P w K mg base "_law_path" (1 + d) ["value", "bound"] (spX K 2 (m_path54 d))) : Fn P w K mg base "_law_path" (1 + d + 1) ["value", "bound"] (spX K 2 (m_path54 (d + 1))) := by
  refine fnD (k := 1 + d) (m := m_path54 (d + 1)) A sc__law_path (fun G f cdv A outer s H E hr ss R hl hm => ?_)
  refine ⟨_, _, (dss_cons (ds_set 2 sc__law_path.nd (de_disp (dps_cons de_int (dps_cons de_int (dps_cons de_int (dps_cons de_int (dps_cons de_int (dps_cons de_int (dps_cons de_int (dps_cons de_int dps_nil))))))))))
      (dss_cons (ds_if (DW.dt (dw_or (dt_not (dt_val (de_callB (k_isi (K := K) rfl) (fun _ => lc_isi) T.m_isinstance (da_cons (de_v 0) (da_cons (de_bltn (x := "tuple") (n := "tuple") T.m_tuple) da_nil))))) (dw_or (dt_cmp (k_eqE (K := K) rfl hr.units) (fun _ => lo_eqE) (de_v 0) (de_tup da_nil)) (dw_or1 (dt_not (dt_val (de_callB (k_isi (K := K) rfl) (fun _ => lc_isi) T.m_isinstance (da_cons (de_ix (k_ix (K := K) rfl) (fun _ => lo_ix) (de_v 0) de_int) (da_cons (de_bltn (x := "str") (n := "str") T.m_str) da_nil))))))))) (dss_one (ds_ret (de_tup da_nil))) dss_nil)
      (dss_cons (ds_if (dt_cmp op_ne (fun _ => lo_neS) (de_get2 hr.units (de_v 2) (de_ix (k_ix (K := K) rfl) (fun _ => lo_ix) (de_v 0) de_int) de_int) (de_callB (k_len (K := K) rfl) (fun _ => lc_len) T.m_len (da_cons (de_v 0) da_nil))) (dss_one (ds_ret (de_tup da_nil))) dss_nil)
      (dss_cons (ds_setLcF 3 (own := [("k", 4)]) sc__law_path.nd (ki_tup (K := K) rfl (de_tup (da_cons de_int (da_cons de_int da_nil)))) (blkOk_by (N := ["value", "bound", "sizes", "wrong", "k", "path"]) (sc := defScope s__law_path) (by decide +kernel)) (fun _ _ _ _ _ => by exact (dg_name 4 (by decide) sc__law_path.nd)) (fun _ _ _ _ _ => by exact (dp_one (by exact (DW.dt (dw_and (dt_cmp (k_in (K := K) rfl) (fun _ => lo_in false) (de_ix (k_ix (K := K) rfl) (fun _ => lo_ix) (de_v 0) de_int) (de_tup (da_cons de_str (da_cons de_str (da_cons de_str da_nil))))) (dw_and1 (dt_not (dt_val (k_fn (K := K) rfl G__law_is_word (hr.mono (by omega)) (da_cons (de_ix (k_ix (K := K) rfl) (fun _ => lo_ix) (de_v 0) (de_v 4)) da_nil)))))))))) (fun _ _ _ _ _ => by exact (de_v 4)) (sw_true rfl rfl rfl (by decide +kernel)))
      (dss_cons (ds_if (dt_cmp (k_ne (K := K) rfl hr.units) (fun _ => lo_ne) (de_v 3) (de_lst da_nil)) (dss_one (ds_ret (de_tup (da_cons (de_ix (k_ix (K := K) rfl) (fun _ => lo_ix) (de_v 3) de_int) da_nil)))) dss_nil)
      (dss_cons (ds_if (dt_cmp (k_in (K := K) rfl) (fun _ => lo_in false) (de_ix (k_ix (K := K) rfl) (fun _ => lo_ix) (de_v 0) de_int) (de_tup (da_cons de_str (da_cons de_str da_nil)))) (dss_cons (ds_if (DW.dt (dw_or (dt_not (dt_val (k_fn (K := K) rfl G__law_is_word (hr.mono (by omega)) (da_cons (de_ix (k_ix (K := K) rfl) (fun _ => lo_ix) (de_v 0) de_int) da_nil)))) (dw_or1 (dt_cmp (k_in (K := K) rfl) (fun _ => lo_in false) (de_ix (k_ix (K := K) rfl) (fun _ => lo_ix) (de_v 0) de_int) (de_v 1))))) (dss_one (ds_ret (de_tup (da_cons de_int da_nil)))) dss_nil)
      (dss_one (ds_set 1 sc__law_path.nd (DE.fz (de_op op_cat (fun _ => lo_cat) (de_v 1) (de_lst (da_cons (de_ix (k_ix (K := K) rfl) (fun _ => lo_ix) (de_v 0) de_int) da_nil))))))) dss_nil)
      (dss_cons (ds_for (js := [4]) (ki_list (K := K) rfl (k_fn (K := K) rfl G__law_inner (hr.mono (by omega)) (da_cons (de_v 0) da_nil))) (by exact (dg_name 4 (by decide) sc__law_path.nd)) (dss_cons (ds_set 5 sc__law_path.nd (k_fn (K := K) rfl G__law_path (hr.mono (by omega)) (da_cons (de_ix (k_ix (K := K) rfl) (fun _ => lo_ix) (de_v 0) (de_v 4)) (da_cons (de_v 1) da_nil))))
      (dss_one (ds_if (dt_cmp op_notN (fun _ => lo_notN) (de_v 5) de_non) (dss_one (ds_ret (de_op (k_catT (K := K) rfl) (fun _ => lo_catT) (de_tup (da_cons (de_v 4) da_nil)) (de_v 5)))) dss_nil))))
      (dss_one (ds_ret de_non))))))))), ?_⟩
  obtain ⟨v, b, rfl, ha, hd, hb, hR⟩ := hm
  have z1 : ∀ n : Nat, n ≤ 1000 → n ≤ sizeLine := fun n h => s16 (by omega)
  refine sq_set (fun s => s = .d (.dict sizesT)) (fun Q hQ => ⟨_, rfl, hQ _ rfl⟩) ?_
  rintro _ rfl
  refine if_iffS (¬ ∃ z xs, v = .tuple (.str z :: xs)) (∃ z xs, v = .tuple (.str z :: xs)) (fun Q hp hq => ?_) (fun h => ?_) (fun h => ?_)
  · cases v
    case tuple xs =>
      refine ⟨_, rfl, _, rfl, ?_⟩
      refine ifb (fun h => absurd h (by decide)) (fun _ => ?_)
      cases xs with
      | nil => exact ⟨[], rfl, z1 _ (by decide), _, rfl, hp (fun ⟨z, xs, e⟩ => by cases e)⟩
      | cons x xs =>
        refine ⟨[], rfl, z1 _ (by decide), _, rfl, ?_⟩
        refine ifb (fun h => absurd (show false = true from h) (by decide)) (fun _ => ?_)
        cases x with
        | str z => exact ⟨_, at_0, _, rfl, _, rfl, hq ⟨z, xs, rfl⟩⟩
        | _ => exact ⟨_, at_0, _, rfl, _, rfl, hp (fun ⟨z, xs, e⟩ => by cases e)⟩
    all_goals exact ⟨_, rfl, _, rfl, hp (fun ⟨z, xs, e⟩ => by cases e)⟩
  · have e : pathC (d + 1) v b = some [] := by
      have e : wrongM v b = some [] := by
        unfold wrongM
        split
        · exact absurd ⟨_, _, rfl⟩ h
        · rfl
      rw [pathC, e]
    rw [e] at hR
    exact ⟨[], rfl, z1 _ (by decide), hR⟩
  obtain ⟨z, xs, rfl⟩ := h
  obtain ⟨hl, hx⟩ := allA_tup.mp ha
  dsimp only [dNext]
  refine if_iffS (¬ ∃ ws, sortsC z = some ws ∧ xs.length = ws.length) (∃ ws, sortsC z = some ws ∧ xs.length = ws.length) (fun Q hp hq => ?_) (fun h => ?_) (fun h => ?_)
  · refine ⟨sizesT, rfl, _, at_0, z, rfl, ?_⟩
    have e0 := sizes_get z
    refine (show fEqS true (orSl (getS sizesT z) (.d (.int 0))).fz (.d (.int (((PyData.str z :: xs).length : Nat) : Int))) (fun s => ∃ b, s.fz = Sl.d (.bool b) ∧ Q b) from ?_)
    rw [e0]
    refine (show ∃ b, (Sl.d (.bool (!decide (((sizeZ z : Nat) : Int) = (((PyData.str z :: xs).length : Nat) : Int))))).fz = Sl.d (.bool b) ∧ Q b from ⟨_, rfl, ?_⟩)
    unfold sizeZ
    cases hs : sortsC z with
    | none =>
      rw [decide_eq_false (by simp; omega)]
      exact hp (fun ⟨ws, e, _⟩ => by rw [hs] at e; cases e)
    | some ws =>
      by_cases c : xs.length = ws.length
      · rw [decide_eq_true (by simp; omega)]
        exact hq ⟨ws, hs, c⟩
      · rw [decide_eq_false (by simp; omega)]
        exact hp (fun ⟨ws', e, e2⟩ => by rw [hs] at e; cases e; exact c e2)
  · have e : pathC (d + 1) (.tuple (.str z :: xs)) b = some [] := by
      have e : wrongM (.tuple (.str z :: xs)) b = some [] := by
        show (match sortsC z with | some ws => if xs.length = ws.length then wrongs b 1 ws xs else some [] | none => some []) = _
        cases hs : sortsC z with
        | none => rfl
        | some ws => exact if_neg (fun hl => h ⟨ws, hs, hl⟩)
      rw [pathC, e]
    rw [e] at hR
    exact ⟨[], rfl, z1 _ (by decide), hR⟩
  obtain ⟨ws, hs, hlen⟩ := h
  have hw := sorts_len hs
  have hP := path_eq hs hlen d b
  rw [hP] at hR
  dsimp only [dNext]
  have len2 : z ∈ marksC → xs.length = 2 := fun h => by rw [hlen, mark_len hs h]
  refine sq_set (fun s => s = .d (.list ((LW z xs).map fun k => .int (k : Nat)))) (fun Q hQ => ?_) ?_
  · refine ⟨_, rfl, z1 _ (by decide), _, rfl, z1 _ (by decide), ?_⟩
    refine (show dLcGo _ _ _ _ (([1, 2] : List Nat).map fun k => PyData.int (k : Nat)) [] _ from ?_)
    refine lc_fmGo (fun (k : Nat) => PyData.int (k : Nat)) (fun k => if (decide (z ∈ marksC) && !isW (xs.getD (k - 1) .none)) = true then some (.int (k : Nat)) else none) [1, 2] [] (fun k hk K hK => ?_) ?_
    · unfold dTurn
      refine ⟨_, at_0, _, rfl, z1 _ (by decide), rfl, by decide +kernel, _, rfl, ?_⟩
      have e : ((marksC.map PyData.str).any fun u => PyData.eqv u (.str z)) = decide (z ∈ marksC) := any_strs
      refine (show if ((marksC.map PyData.str).any fun u => PyData.eqv u (.str z)) = true then _ else _ from ?_)
      rw [e]
      refine ifb (fun g => ?_) (fun g => ?_)
      · have l2 := len2 (of_decide_eq_true g)
        have hk2 : k = 1 ∨ k = 2 := by simpa using hk
        obtain ⟨hat, hmem⟩ := getD_mem (z := .str z) (xs := xs) (k := k) (by omega) (by omega)
        refine ⟨_, hat, rfl, _, rfl, hx _ (List.mem_cons_of_mem _ hmem), _, rfl, ?_⟩
        rw [g, Bool.true_and] at hK
        cases c : isW (xs.getD (k - 1) .none) with
        | true => rw [c] at hK; exact hK
        | false => rw [c] at hK; exact ⟨_, rfl, hK⟩
      · rw [g, Bool.false_and] at hK
        exact hK
    · rw [List.nil_append, fm_if]
      exact hQ _ rfl
  rintro _ rfl
  have okI : okD1 (.list ((LW z xs).map fun k => PyData.int (k : Nat))) := by
    have := okD1_nums (l := (LW z xs).map fun (k : Nat) => (k : Int)) (fun i hi => by
      obtain ⟨k, hk, rfl⟩ := List.mem_map.mp hi
      have hk2 : k = 1 ∨ k = 2 := by
        have := (List.mem_filter.mp hk).1
        simpa using this
      refine Nat.lt_of_lt_of_le ?_ p100
      omega)
    rw [List.map_map] at this
    exact this
  refine if_iffS (LW z xs ≠ []) (LW z xs = []) (fun Q hp hq => ?_) (fun h => ?_) (fun h => ?_)
  · refine ⟨[], rfl, z1 _ (by decide), okI, okD1_nil, _, rfl, ?_⟩
    rw [eqvD_nil]
    cases c : LW z xs with
    | nil => exact hq c
    | cons k r => exact hp (by rw [c]; exact List.cons_ne_nil _ _)
  · cases c : LW z xs with
    | nil => exact absurd c h
    | cons k r =>
      rw [c] at hR
      exact ⟨_, by rw [List.map_cons]; exact at_0, _, rfl, s16 (by show 1 ≤ 16777216; omega), hR⟩
  rw [h] at hR ⊢
  dsimp only [dNext]
  refine sq_byL (fun env => env = [some (.d (.tuple (.str z :: xs))), some (.d (.list ((boundOf z (xs.getD 0 .none) b).map PyData.str))), some (.d (.dict sizesT)), some (.d (.list (([] : List Nat).map fun k => PyData.int (k : Nat)))), none, none] ∧ (boundOf z (xs.getD 0 .none) b).length ≤ b.length + 1 ∧ R (optS ((inner z).findSome? fun k => (pathC d (xs.getD (k - 1) .none) (boundOf z (xs.getD 0 .none) b)).map (.int (k : Nat) :: ·)))) (fun nx hn => ?_) ?_
  · refine if_iff (bindsZ z = true) (bindsZ z = false) (fun Q hp hq => ?_) (fun hb1 => ?_) (fun hb1 => ?_)
    · refine ⟨_, at_0, _, rfl, z1 _ (by decide), rfl, by decide +kernel, _, rfl, ?_⟩
      refine (show Q (((["some", "each"] : List Str).map PyData.str).any fun u => PyData.eqv u (.str z)) from ?_)
      rw [binds_any]
      cases c : bindsZ z with
      | true => exact hp c
      | false => exact hq c
    · have l2 : xs.length = 2 := by rw [hlen, binds_len hs hb1]
      have g2 := getD_mem (z := .str z) (xs := xs) (k := 1) (by omega) (by omega)
      have hat : atI (.str z :: xs) 1 = some (xs.getD 0 .none) := g2.1
      have hax := hx _ (List.mem_cons_of_mem _ g2.2)
      have hbo : boundOf z (xs.getD 0 .none) b = b ++ [unStr (xs.getD 0 .none)] := if_pos hb1
      rw [hb1, Bool.true_and, hbo] at hR
      rw [hbo] at hn
      have hax : allA (xs.getD 0 .none) = true := hax
      refine if_iffS ((!isW (xs.getD 0 .none) || inB (xs.getD 0 .none) b) = true) (¬ (!isW (xs.getD 0 .none) || inB (xs.getD 0 .none) b) = true) (fun Q hp hq => ?_) (fun h => ?_) (fun h => ?_)
      · refine ⟨_, hat, rfl, _, rfl, hax, _, rfl, ?_⟩
        refine ifb (fun c => hp (by rw [c]; rfl)) (fun c => ?_)
        have hw1 : isW (xs.getD 0 .none) = true := by
          cases q : isW (xs.getD 0 .none) with
          | true => rfl
          | false => rw [q] at c; cases c
        obtain ⟨w, ew⟩ := isW_str hw1
        refine ⟨_, hat, by rw [ew]; rfl, by simp [flatD], _, rfl, ?_⟩
        rw [c, Bool.false_or] at hp hq
        rw [ew] at hp hq
        have e : ((b.map PyData.str).any fun u => PyData.eqv u (.str w)) = decide (w ∈ b) := any_strs
        refine (show Q ((b.map PyData.str).any fun u => PyData.eqv u (xs.getD 0 .none)) from ?_)
        rw [ew, e]
        cases g : decide (w ∈ b) with
        | true => exact hp g
        | false => exact hq (fun q => by have q : decide (w ∈ b) = true := q; rw [g] at q; cases q)
      · rw [if_pos h] at hR
        exact ⟨_, rfl, s16 (by show 1 ≤ 16777216; omega), hR⟩
      · rw [if_neg h] at hR
        have hw1 : isW (xs.getD 0 .none) = true := by
          cases q : isW (xs.getD 0 .none) with
          | true => rfl
          | false => exact absurd (by rw [q]; rfl) h
        obtain ⟨w, ew⟩ := isW_str hw1
        have eb : (b ++ [unStr (xs.getD 0 .none)]).map PyData.str = b.map PyData.str ++ [xs.getD 0 .none] := by
          rw [List.map_append, ew]; rfl
        rw [eb] at hn
        dsimp only [dNext]
        exact ⟨_, hat, _, rfl, s16 (by show 1 ≤ 16777216; omega), s16 (by rw [List.length_map]; show b.length + 1 ≤ 16777216; omega), hn _ ⟨rfl, by simp, hR⟩⟩
    · have hbo : boundOf z (xs.getD 0 .none) b = b := if_neg (by rw [hb1]; decide)
      rw [hb1, Bool.false_and, if_neg (by decide)] at hR
      rw [hbo] at hn hR
      dsimp only [dNext]
      exact hn _ ⟨rfl, by omega, hR⟩
  rintro _ ⟨rfl, lb, hR2⟩
  generalize boundOf z (xs.getD 0 .none) b = b' at lb hR2
  clear hR
  refine ⟨rfl, z, xs, rfl, _, rfl, ?_⟩
  refine loop_byT (fun (k : Nat) => PyData.int (k : Nat)) (l := inner z) (fun j env => ∃ v4 v5, env = [some (.d (.tuple (.str z :: xs))), some (.d (.list (b'.map PyData.str))), some (.d (.dict sizesT)), some (.d (.list (([] : List Nat).map fun k => PyData.int (k : Nat)))), v4, v5] ∧ (inner z).findSome? (fun k => (pathC d (xs.getD (k - 1) .none) b').map (.int (k : Nat) :: ·)) = ((inner z).drop j).findSome? (fun k => (pathC d (xs.getD (k - 1) .none) b').map (.int (k : Nat) :: ·))) ⟨_, _, rfl, rfl⟩ ?_ ?_
  · rintro j k env hi ⟨v4, v5, rfl, hf⟩ nx hn
    have hk : k ∈ inner z := List.mem_of_getElem? hi
    have hj : j < (inner z).length := (List.getElem?_eq_some_iff.mp hi).1
    have hkj : (inner z)[j] = k := (List.getElem?_eq_some_iff.mp hi).2
    have kl := inner_le hs k hk
    obtain ⟨hat, hmem⟩ := getD_mem (z := .str z) (xs := xs) (k := k) (by omega) (by omega)
    have hdx := depth_mem (List.mem_cons_of_mem (.str z) hmem)
    have hax := hx _ (List.mem_cons_of_mem _ hmem)
    rw [List.drop_eq_getElem_cons hj, hkj, List.findSome?_cons] at hf
    generalize xs.getD (k - 1) .none = x at hat hdx hax hf
    obtain ⟨d', rfl⟩ : ∃ d', d = d' + 1 := ⟨d - 1, by omega⟩
    refine sq_set (fun s => s = optS (pathC (d' + 1) x b')) (fun Q hQ => ⟨_, hat, rfl, x, b', rfl, hax, by omega, by omega, hQ _ rfl⟩) ?_
    rintro _ rfl
    cases g : pathC (d' + 1) x b' with
    | none =>
      rw [g] at hf
      refine ⟨_, rfl, ?_⟩
      refine ifb (fun h => absurd h (by decide)) (fun _ => ?_)
      exact hn _ ⟨_, _, rfl, hf⟩
    | some p =>
      rw [g] at hf
      rw [hf] at hR2
      have lp := pathC_len _ _ _ _ g
      refine ⟨_, rfl, ?_⟩
      refine ifb (fun _ => ?_) (fun h => absurd (show true = false from h) (by decide))
      exact ⟨_, rfl, s16 (by show 1 ≤ 16777216; omega), s16 (by show 1 + p.length ≤ 16777216; omega), hR2⟩
  · rintro env ⟨v4, v5, rfl, hf⟩
    rw [List.drop_length] at hf
    rw [hf] at hR2
    exact hR2
theorem fn__law_path (A : At K mg "_law_path" s__law_path ["value", "bound"]) (T : Blt w K mg) (G__law_inner : Fn P w K mg base "_law_inner" 1 ["claim"] (spX K 1 m__law_inner)) (G__law_is_word : Fn P w K mg base "_law_is_word" 1 ["value"] (spX K 1 m__law_is_word)) : Fn P w K mg base "_law_path" 31 ["value", "bound"] (spX K 2 (m_path54 30)) := by
  have all : ∀ d : Nat, Fn P w K mg base "_law_path" (1 + d) ["value", "bound"] (spX K 2 (m_path54 d)) := fun d => by
    induction d with
    | zero => exact Fn.none A fun _ _ z => z
    | succ d ih => exact fn__law_path0 A T G__law_inner G__law_is_word ih
  exact all 30

theorem sc_law : FnScope ["script", "source", "lap", "odd", "both", "twice", "some", "told", "claim", "late", "value", "due", "one", "path", "kept", "turn"] ["script"] (defScope s_law) := ⟨rfl, rfl, rfl, by decide +kernel, rfl, by decide +kernel, by decide +kernel⟩
theorem fn_law {f : Addr} {fd : FuncData} (F : Fun K "law" "law" s_law f fd) (T : Blt w K mg) (G_src : Fn P w K mg base "_law_source" 1 ["script"] (spSource K)) (G__law_bent_claim : Fn P w K mg base "_law_bent_claim" 23 ["source", "claim"] (spX K 2 (m__law_bent_claim 20))) (G__law_claim : Fn P w K mg base "_law_claim" 10 ["source", "words", "names", "bound", "deep", "most"] (spX K 6 (m__law_claim 8))) (G__law_letters : Fn P w K mg base "_law_letters" 3 ["source", "many"] (spX K 2 m_letters54)) (G__law_odd : Fn P w K mg base "_law_odd" 3 ["source"] (spX K 1 m__law_odd)) (G__law_path : Fn P w K mg base "_law_path" 31 ["value", "bound"] (spX K 2 (m_path54 30))) (G__law_pick : Fn P w K mg base "_law_pick" 1 ["source", "many"] (spX K 2 m__law_pick)) (G__law_told_path : Fn P w K mg base "_law_told_path" 5 ["value"] (spX K 1 m_told54)) : FnG P w K mg base CX0 32 f fd ["script"] (spLaw K) := by
  refine okLaw (N := ["lap", "odd", "both", "twice", "some", "told", "claim", "late", "value", "due", "one", "path", "kept", "turn"]) (k := 30) F sc_law rfl G_src (fun cdv A outer s H E hr => ?_) (fun cdv A outer s H E hr => ps_first (K := K) rfl G_src (hr.mono (by decide)) sc_law.nd)
  refine ⟨_, _, fun G => (dss_cons (ds_for (js := [2]) (di_rng1 T.m_range (da_cons de_int da_nil)) (by exact (dg_name 2 (by decide) sc_law.nd)) (dss_cons (ds_set 8 sc_law.nd (k_fn (K := K) rfl G__law_claim (hr.mono (by decide)) (da_cons (de_v 1) (da_cons (k_fn (K := K) rfl G__law_letters (hr.mono (by decide)) (da_cons (de_v 1) (da_cons de_int da_nil))) (da_cons (de_lst (da_cons de_str (da_cons de_str da_nil))) (da_cons (de_lst da_nil) (da_cons de_int (da_cons (de_op op_add (fun _ => lo_add) de_int (k_fn (K := K) rfl G__law_pick (hr.mono (by decide)) (da_cons (de_v 1) (da_cons de_int da_nil)))) da_nil))))))))
      (dss_cons (ds_set 6 sc_law.nd (DE.fz (de_op op_cat (fun _ => lo_cat) (de_lst (da_cons (de_v 8) da_nil)) (de_lc (own := [("turn", 15)]) sc_law.nd (di_rng1 T.m_range (da_cons de_int da_nil)) (blkOk_by (N := ["script", "source", "lap", "odd", "both", "twice", "some", "told", "claim", "late", "value", "due", "one", "path", "kept", "turn"]) (sc := defScope s_law) (by decide +kernel)) (fun _ _ _ _ _ => by exact (dg_name 15 (by decide) sc_law.nd)) (fun _ _ _ _ _ => by exact dp_nil) (fun _ _ _ _ _ => by exact (k_fn (K := K) rfl G__law_bent_claim (hr.mono (by decide)) (da_cons (de_v 1) (da_cons (de_v 8) da_nil))))))))
      (dss_cons (ds_setLcF 9 (own := [("one", 12)]) sc_law.nd (ki_list (K := K) rfl (de_v 6)) (blkOk_by (N := ["script", "source", "lap", "odd", "both", "twice", "some", "told", "claim", "late", "value", "due", "one", "path", "kept", "turn"]) (sc := defScope s_law) (by decide +kernel)) (fun _ _ _ _ _ => by exact (dg_name 12 (by decide) sc_law.nd)) (fun _ _ _ _ _ => by exact (dp_one (by exact (dt_cmp op_isN (fun _ => lo_isN) (k_fn (K := K) rfl G__law_path (hr.mono (by decide)) (da_cons (de_v 12) (da_cons (de_lst da_nil) da_nil))) de_non)))) (fun _ _ _ _ _ => by exact (de_v 12)) (sw_true rfl rfl rfl (by decide +kernel)))
      (dss_one (ds_for (js := [10]) (ki_list (K := K) rfl (de_op op_cat (fun _ => lo_cat) (de_v 6) (de_lc (own := [("one", 12)]) sc_law.nd (ki_list (K := K) rfl (de_slice (k_slL (K := K) rfl) (fun _ => ls_list) (de_v 9) do_none (do_some de_int))) (blkOk_by (N := ["script", "source", "lap", "odd", "both", "twice", "some", "told", "claim", "late", "value", "due", "one", "path", "kept", "turn"]) (sc := defScope s_law) (by decide +kernel)) (fun _ _ _ _ _ => by exact (dg_name 12 (by decide) sc_law.nd)) (fun _ _ _ _ _ => by exact dp_nil) (fun _ _ _ _ _ => by exact (k_fn (K := K) rfl G__law_bent_claim (hr.mono (by decide)) (da_cons (de_v 1) (da_cons (de_v 12) da_nil))))))) (by exact (dg_name 10 (by decide) sc_law.nd)) (dss_cons (ds_par 13 14 sc_law.nd (da_cons (k_fn (K := K) rfl G__law_path (hr.mono (by decide)) (da_cons (de_v 10) (da_cons (de_lst da_nil) da_nil))) (da_cons (de_callB (k_reprY (K := K) rfl hr.units hr.guards) (fun _ => lc_reprY) T.m_repr (da_cons (de_v 10) da_nil)) da_nil)))
      (dss_cons (ds_set 11 sc_law.nd (DE.fz (de_ifE (dt_cmp op_isN (fun _ => lo_isN) (de_v 13) de_non) (de_lst (da_cons de_str (da_cons de_non da_nil))) (de_lst (da_cons de_str (da_cons (de_v 13) da_nil))))))
      (dss_one (ds_if (DW.dt (dw_or (dt_cmp op_ne (fun _ => lo_neS) (de_callB (k_reprY (K := K) rfl hr.units hr.guards) (fun _ => lc_reprY) T.m_repr (da_cons (k_fn (K := K) rfl G__law_told_path (hr.mono (by decide)) (da_cons (de_v 10) da_nil)) da_nil)) (de_callB (k_reprY (K := K) rfl hr.units hr.guards) (fun _ => lc_reprY) T.m_repr (da_cons (de_v 11) da_nil))) (dw_or1 (dt_cmp op_ne (fun _ => lo_neS) (de_callB (k_reprY (K := K) rfl hr.units hr.guards) (fun _ => lc_reprY) T.m_repr (da_cons (de_v 10) da_nil)) (de_v 14))))) (dss_one (ds_ret de_bl)) dss_nil))))))))))
      (dss_cons (ds_set 3 sc_law.nd (DE.fz (de_lst (da_cons (k_fn (K := K) rfl G__law_odd (hr.mono (by decide)) (da_cons (de_v 1) da_nil)) (da_cons de_str (da_cons de_int (da_cons de_non (da_cons (de_lst da_nil) (da_cons de_newD (da_cons (de_tup (da_cons de_str (da_cons de_str (da_cons de_str (da_cons de_str da_nil))))) (da_cons (de_lst (da_cons de_str (da_cons de_str (da_cons de_str da_nil)))) (da_cons (de_tup (da_cons (de_tup da_nil) da_nil)) da_nil))))))))))))
      (dss_cons (ds_if (dt_cmp (k_ne (K := K) rfl hr.units) (fun _ => lo_ne) (de_lc (own := [("one", 12)]) sc_law.nd (ki_list (K := K) rfl (de_v 3)) (blkOk_by (N := ["script", "source", "lap", "odd", "both", "twice", "some", "told", "claim", "late", "value", "due", "one", "path", "kept", "turn"]) (sc := defScope s_law) (by decide +kernel)) (fun _ _ _ _ _ => by exact (dg_name 12 (by decide) sc_law.nd)) (fun _ _ _ _ _ => by exact (dp_one (by exact (dt_cmp (k_ne (K := K) rfl hr.units) (fun _ => lo_ne) (k_fn (K := K) rfl G__law_told_path (hr.mono (by decide)) (da_cons (de_v 12) da_nil)) (de_lst (da_cons de_str (da_cons (de_tup da_nil) da_nil))))))) (fun _ _ _ _ _ => by exact (de_v 12))) (de_lst da_nil)) (dss_one (ds_ret de_bl)) dss_nil)
      (dss_cons (ds_set 4 sc_law.nd (de_tup (da_cons de_str (da_cons (de_tup (da_cons de_str (da_cons de_str (da_cons de_str da_nil)))) (da_cons (de_tup (da_cons de_str (da_cons de_str (da_cons (de_tup (da_cons de_str (da_cons de_str (da_cons de_str da_nil)))) da_nil)))) da_nil)))))
      (dss_cons (ds_set 5 sc_law.nd (de_tup (da_cons de_str (da_cons de_str (da_cons (de_tup (da_cons de_str (da_cons (de_tup (da_cons de_str (da_cons de_str (da_cons de_str da_nil)))) (da_cons (de_tup (da_cons de_str (da_cons de_str (da_cons (de_tup (da_cons de_str (da_cons de_str (da_cons de_str da_nil)))) da_nil)))) da_nil)))) da_nil)))))
      (dss_cons (ds_set 6 sc_law.nd (DE.fz (de_lst (da_cons (de_v 4) (da_cons (de_v 5) (da_cons (de_tup (da_cons de_str (da_cons de_str (da_cons (de_tup (da_cons de_str (da_cons (de_v 4) da_nil))) da_nil)))) (da_cons (de_tup (da_cons de_str (da_cons (de_v 4) (da_cons (de_tup (da_cons de_str (da_cons de_str (da_cons de_str da_nil)))) da_nil)))) da_nil)))))))
      (dss_cons (ds_setLcF 7 (own := [("one", 12)]) sc_law.nd (ki_list (K := K) rfl (de_v 6)) (blkOk_by (N := ["script", "source", "lap", "odd", "both", "twice", "some", "told", "claim", "late", "value", "due", "one", "path", "kept", "turn"]) (sc := defScope s_law) (by decide +kernel)) (fun _ _ _ _ _ => by exact (dg_name 12 (by decide) sc_law.nd)) (fun _ _ _ _ _ => by exact dp_nil) (fun _ _ _ _ _ => by exact (k_fn (K := K) rfl G__law_told_path (hr.mono (by decide)) (da_cons (de_v 12) da_nil))) (sw_true rfl rfl rfl (by decide +kernel)))
      (dss_one (ds_ret (de_cmp (k_eq (K := K) rfl hr.units) (fun _ => lo_eq) (de_v 7) (de_lst (da_cons (de_lst (da_cons de_str (da_cons de_non da_nil))) (da_cons (de_lst (da_cons de_str (da_cons (de_tup (da_cons de_int (da_cons de_int (da_cons de_int da_nil)))) da_nil))) (da_cons (de_lst (da_cons de_str (da_cons (de_tup (da_cons de_int (da_cons de_int (da_cons de_int (da_cons de_int da_nil))))) da_nil))) (da_cons (de_lst (da_cons de_str (da_cons (de_tup (da_cons de_int (da_cons de_int da_nil))) da_nil))) da_nil))))))))))))))), ?_⟩
  have z1 : ∀ n : Nat, n ≤ 1000 → n ≤ sizeLine := fun n h => s16 (by omega)
  refine ⟨8, rfl, ⟨by decide, by decide⟩, ?_⟩
  unfold rngD
  refine loop_byT (fun (i : Nat) => PyData.int (0 + (i : Nat))) (fun _ env => ∃ v2 v6 v8 v9 v10 v11 v13 v14, env = [none, some .src, v2, none, none, none, v6, none, v8, v9, v10, v11, none, v13, v14, none]) ⟨_, _, _, _, _, _, _, _, rfl⟩ ?_ ?_
  · rintro _ lap env _ ⟨v2, v6, v8, v9, v10, v11, v13, v14, rfl⟩ nx hn
    unfold dgName
    dsimp only
    refine sq_set (fun s => ∃ v, s = .d v ∧ Shp v ∧ Gd 3100 5 v) (fun Q hQ => ?_) ?_
    · refine ⟨rfl, 3, rfl, by decide, by decide, fun ws hw => ?_⟩
      refine ⟨_, rfl, z1 _ (by decide), [], rfl, z1 _ (by decide), rfl, 4, rfl, by decide, fun i i0 i1 => ?_⟩
      have i1 : i < 4 := i1
      obtain ⟨j, rfl⟩ : ∃ j : Nat, i = j := ⟨i.toNat, by omega⟩
      have e1 : ((1 : Int) + (j : Nat)) = ((1 + j : Nat) : Int) := by omega
      have ok : ∀ w ∈ (["t", "x"] : List Str), okW w = true := by decide +kernel
      have hb : BW (1 + j) ≤ 3100 := by
        have : j = 0 ∨ j = 1 ∨ j = 2 ∨ j = 3 := by omega
        rcases this with rfl | rfl | rfl | rfl <;> decide
      exact ⟨rfl, ws, ["t", "x"], [], 2, 1 + j, by rw [← e1]; rfl, ⟨hw.1, by have := hw.2.1; omega, hw.2.2⟩, ⟨by simp, by simp, ok⟩, by decide, by decide, by show 1 + j ≤ 7; omega, fun v hv gv => hQ _ ⟨v, rfl, hv, gv.mono hb (by omega)⟩⟩
    rintro _ ⟨c, rfl, hc, gc⟩
    refine sq_set (fun s => ∃ ys : List PyData, s = .d (.list ys) ∧ ys.length = 6 ∧ ∀ y ∈ ys, Gd 6600 8 y) (fun Q hQ => ?_) ?_
    · refine ⟨_, rfl, z1 _ (by show 1 ≤ 1000; omega), 5, rfl, ⟨by decide, by decide⟩, by rw [rngD_length]; exact z1 _ (by decide), ?_⟩
      refine lc_all (fun y => Gd 6600 8 y) (fun y _ k hk => ⟨rfl, c, 3100, 5, rfl, hc, gc, by decide, fun v' g' => hk _ v' rfl (g'.mono (by decide) (by decide))⟩) (fun zs hz hP => ?_)
      rw [rngD_length] at hz
      have hz : zs.length = 5 := hz
      refine ⟨s16 (by show 1 + zs.length ≤ 16777216; omega), hQ _ ⟨_, rfl, by rw [List.length_append, hz]; rfl, fun y hy => ?_⟩⟩
      rcases List.mem_append.mp hy with h | h
      · rw [List.mem_singleton.mp h]; exact gc.mono (by decide) (by decide)
      · exact hP y h
    rintro _ ⟨ys, rfl, ly, hy⟩
    refine sq_set (fun s => ∃ zs : List PyData, s = .d (.list zs) ∧ zs.length ≤ 6 ∧ ∀ z ∈ zs, Gd 6600 8 z ∧ Shp z) (fun Q hQ => ?_) ?_
    · refine ⟨_, rfl, z1 _ (by omega), ?_⟩
      refine lc_fmD (fun x => (pathC 30 x []).isSome) (fun x hx k hk => ?_) ?_
      · have g := hy x hx
        unfold dTurn
        refine ⟨[], rfl, z1 _ (by decide), rfl, x, [], rfl, g.a, Nat.le_trans g.d (by decide), by decide, ?_⟩
        cases q : pathC 30 x [] with
        | none => rw [q] at hk; exact ⟨_, rfl, _, rfl, hk⟩
        | some p => rw [q] at hk; exact ⟨_, rfl, hk⟩
      · refine hQ _ ⟨_, rfl, ?_, fun z hz => ?_⟩
        · have := List.length_filter_le (fun x => !(pathC 30 x []).isSome) ys
          omega
        · obtain ⟨h1, h2⟩ := List.mem_filter.mp hz
          have g := hy z h1
          refine ⟨g, shp_of 30 z [] (Nat.lt_of_le_of_lt g.d (by decide)) ?_⟩
          cases q : pathC 30 z [] with
          | none => rfl
          | some p => rw [q] at h2; cases h2
    rintro _ ⟨zs, rfl, lz, hz⟩
    have c3 : Pu.cutD zs none (some 3) = zs.take 3 := cut_take (n := 3)
    refine ⟨3, rfl, _, rfl, s16 (by rw [c3, List.length_take]; omega), ?_⟩
    rw [c3]
    refine lc_all (fun y => Gd 13600 11 y) (fun y hy2 k hk => ?_) (fun us hu hP => ?_)
    · obtain ⟨g, sh⟩ := hz y (List.mem_of_mem_take hy2)
      exact ⟨rfl, y, 6600, 8, rfl, sh, g, by decide, fun v' g' => hk _ v' rfl (g'.mono (by decide) (by decide))⟩
    have hu3 : us.length ≤ 3 := by rw [hu, List.length_take]; omega
    refine ⟨s16 (by omega), _, rfl, ?_⟩
    have hall : ∀ y ∈ ys ++ us, Gd 13600 11 y := fun y h => by
      rcases List.mem_append.mp h with h | h
      · exact (hy y h).mono (by decide) (by decide)
      · exact hP y h
    refine loop_by (fun _ env => ∃ v2 v6 v8 v9 v10 v11 v13 v14, env = [none, some .src, v2, none, none, none, v6, none, v8, v9, v10, v11, none, v13, v14, none]) ⟨_, _, _, _, _, _, _, _, rfl⟩ ?_ ?_
    · clear v2 v6 v8 v9 v10 v11 v13 v14
      rintro j y env hyj ⟨v2, v6, v8, v9, v10, v11, v13, v14, rfl⟩ nx3 hn3
      have g := hall y (List.mem_of_getElem? hyj)
      have ok := g.okY (by decide) (by decide)
      dsimp only
      refine ⟨[], rfl, z1 _ (by decide), rfl, y, [], rfl, g.a, Nat.le_trans g.d (by decide), by decide, ok, ?_⟩
      refine ⟨_, _, rfl, ?_⟩
      dsimp only
      refine sq_set (fun s => s = .d (.list (toldC y))) (fun Q hQ => ?_) ?_
      · unfold toldC at hQ
        cases q : pathC 30 y [] with
        | none =>
          rw [q] at hQ
          refine ⟨_, rfl, ?_⟩
          refine ifb (fun _ => ?_) (fun h => absurd h (by decide))
          exact ⟨_, rfl, z1 _ (by show 2 ≤ 1000; omega), hQ _ rfl⟩
        | some p =>
          rw [q] at hQ
          refine ⟨_, rfl, ?_⟩
          refine ifb (fun h => absurd (show false = true from h) (by decide)) (fun _ => ?_)
          exact ⟨_, rfl, s16 (by show 2 ≤ 16777216; omega), hQ _ rfl⟩
      rintro _ rfl
      refine if_iff False True (fun Q hp hq => ?_) (fun h => h.elim) (fun _ => hn3 _ ⟨_, _, _, _, _, _, _, _, rfl⟩)
      refine ⟨rfl, y, rfl, g.a, Nat.lt_of_le_of_lt g.d (by decide), Nat.le_trans g.w (by decide), told_ok y, told_ok y, ?_⟩
      refine neS_same ?_
      refine ⟨_, rfl, ?_⟩
      refine ifb (fun h => absurd h (by decide)) (fun _ => ?_)
      refine ⟨ok, ?_⟩
      refine (show fEqS true (.d (.str y.shown)) (.d (.str y.shown)) (fun s => ∃ b, s.fz = Sl.d (.bool b) ∧ Q b) from ?_)
      refine neS_same ?_
      exact ⟨_, rfl, hq trivial⟩
    · rintro env ⟨v2, v6, v8, v9, v10, v11, v13, v14, rfl⟩
      exact hn _ ⟨_, _, _, _, _, _, _, _, rfl⟩
  rintro env ⟨v2, v6, v8, v9, v10, v11, v13, v14, rfl⟩
  dsimp only
  refine sq_set (fun s => ∃ os : List PyData, s = .d (.list os) ∧ os.length = 9 ∧ ∀ o ∈ os, (fitB o && isP (pathC 30 o []) []) = true) (fun Q hQ => ?_) ?_
  · refine ⟨rfl, rfl, fun o ho => ?_⟩
    refine ⟨[], rfl, z1 _ (by decide), ?_⟩
    refine ⟨_, rfl, s16 (by show 4 ≤ 16777216; omega), _, rfl, s16 (by show 3 ≤ 16777216; omega), [], rfl, z1 _ (by decide), _, rfl, s16 (by show 1 ≤ 16777216; omega), _, rfl, s16 (by show 9 ≤ 16777216; omega), hQ _ ⟨_, rfl, rfl, fun x hx => ?_⟩⟩
    rcases List.mem_cons.mp hx with rfl | hx
    · exact odd_told _ (List.mem_append_left _ ho)
    · exact odd_told _ (List.mem_append_right _ hx)
  rintro _ ⟨os, rfl, lo, ho⟩
  refine if_iffS False True (fun Q hp hq => ?_) (fun h => h.elim) (fun _ => ?_)
  · refine ⟨_, rfl, s16 (by omega), ?_⟩
    refine lc_fmD (fun _ => true) (fun x hx k hk => ?_) ?_
    · have h := ho x hx
      rw [Bool.and_eq_true] at h
      obtain ⟨h1, h2⟩ := h
      obtain ⟨f1, f2, f3⟩ := fit_of h1
      have e : toldC x = [.str "path", .tuple []] := by
        unfold toldC
        rw [isP_eq h2]; rfl
      unfold dTurn
      refine ⟨rfl, x, rfl, f1, f2, f3, [], rfl, z1 _ (by decide), _, rfl, s16 (by show 2 ≤ 16777216; omega), ?_⟩
      have ok : okD1 (.list [.str "path", .tuple []]) := ⟨by decide +kernel, by decide +kernel⟩
      refine (show fNe (.d (.list (toldC x))) (.d (.list [.str "path", .tuple []])) _ from ?_)
      rw [e]
      refine ne_same ok ?_
      exact ⟨_, rfl, hk⟩
    · have e : (os.filter fun _ => !true) = [] := List.filter_eq_nil_iff.mpr fun _ _ h => by cases h
      rw [e]
      refine ⟨[], rfl, z1 _ (by decide), okD1_nil, okD1_nil, _, rfl, ?_⟩
      exact hq trivial
  dsimp only [dNext]
  refine sq_set (fun s => s = .d bothD) (fun Q hQ => ⟨_, rfl, s16 (by show 3 ≤ 16777216; omega), _, rfl, s16 (by show 3 ≤ 16777216; omega), _, rfl, s16 (by show 3 ≤ 16777216; omega), _, rfl, s16 (by show 3 ≤ 16777216; omega), hQ _ rfl⟩) ?_
  rintro _ rfl
  refine sq_set (fun s => s = .d twiceD) (fun Q hQ => ⟨_, rfl, s16 (by show 3 ≤ 16777216; omega), _, rfl, s16 (by show 3 ≤ 16777216; omega), _, rfl, s16 (by show 3 ≤ 16777216; omega), _, rfl, s16 (by show 3 ≤ 16777216; omega), _, rfl, s16 (by show 3 ≤ 16777216; omega), hQ _ rfl⟩) ?_
  rintro _ rfl
  refine sq_set (fun s => s = .d (.list [bothD, twiceD, thirdD, fourthD])) (fun Q hQ => ⟨_, rfl, s16 (by show 2 ≤ 16777216; omega), _, rfl, s16 (by show 3 ≤ 16777216; omega), _, rfl, s16 (by show 3 ≤ 16777216; omega), _, rfl, s16 (by show 3 ≤ 16777216; omega), _, rfl, s16 (by show 4 ≤ 16777216; omega), hQ _ rfl⟩) ?_
  rintro _ rfl
  have F := four_ok
  simp only [Bool.and_eq_true] at F
  obtain ⟨⟨⟨⟨⟨⟨⟨a1, b1⟩, a2⟩, b2⟩, a3⟩, b3⟩, a4⟩, b4⟩ := F
  have t1 : toldC bothD = [.str "none", .none] := by
    unfold toldC; rw [Option.isNone_iff_eq_none.mp b1]
  have t2 : toldC twiceD = [.str "path", .tuple [.int 2, .int 2, .int 1]] := by
    unfold toldC; rw [isP_eq b2]; rfl
  have t3 : toldC thirdD = [.str "path", .tuple [.int 2, .int 1, .int 2, .int 1]] := by
    unfold toldC; rw [isP_eq b3]; rfl
  have t4 : toldC fourthD = [.str "path", .tuple [.int 2, .int 2]] := by
    unfold toldC; rw [isP_eq b4]; rfl
  refine sq_set (fun s => s = .d (.list ([bothD, twiceD, thirdD, fourthD].map fun v => .list (toldC v)))) (fun Q hQ => ?_) ?_
  · refine ⟨_, rfl, z1 _ (by show 4 ≤ 1000; omega), ?_⟩
    refine lc_mapD (fun v => .list (toldC v)) (fun x hx k hk => ?_) ?_
    · have fx : fitB x = true := by
        rcases (by simpa using hx : x = bothD ∨ x = twiceD ∨ x = thirdD ∨ x = fourthD) with rfl | rfl | rfl | rfl <;> assumption
      obtain ⟨f1, f2, f3⟩ := fit_of fx
      exact ⟨rfl, x, rfl, f1, f2, f3, hk _ rfl⟩
    · exact hQ _ rfl
  rintro _ rfl
  refine ⟨_, rfl, s16 (by show 2 ≤ 16777216; omega), _, rfl, s16 (by show 3 ≤ 16777216; omega), _, rfl, s16 (by show 2 ≤ 16777216; omega), _, rfl, s16 (by show 4 ≤ 16777216; omega), _, rfl, s16 (by show 2 ≤ 16777216; omega), _, rfl, s16 (by show 2 ≤ 16777216; omega), _, rfl, s16 (by show 2 ≤ 16777216; omega), _, rfl, s16 (by show 4 ≤ 16777216; omega), ?_⟩
  refine (show fEq (.d (.list [.list (toldC bothD), .list (toldC twiceD), .list (toldC thirdD), .list (toldC fourthD)])) (.d (.list [.list [.str "none", .none], .list [.str "path", .tuple [.int 2, .int 2, .int 1]], .list [.str "path", .tuple [.int 2, .int 1, .int 2, .int 1]], .list [.str "path", .tuple [.int 2, .int 2]]])) _ from ?_)
  rw [t1, t2, t3, t4]
  exact eq_same ⟨by decide +kernel, by decide +kernel⟩ rfl

end
end Law

end

namespace Law
open PySem L2 PyProof.Rows RZ Pu
set_option maxHeartbeats 4000000
theorem at_mk {K : PySem.W.Frag} {h : Heap} {mg : Str → Option Value} {x : Str} {st : Stmt} {ps : List Str} {f : Addr} {oc kV dc pm cd ct : Value} {od an : Option Addr} {sl : Array (Option Value)} (X : K.In h) (G : h.Ns mainGlobals mg)
    (a : PySem.W.nsIn K mainGlobals x = some (some (.ref f))) (l : K.lookup f = some ⟨oc, od, .func (PySem.W.fnOf x x (defArgs st) (defBody st) (defScope st) .none kV dc pm an cd ct), sl⟩) (c : PySem.W.codeIn K cd x = true) (k : PySem.W.keepIn K (.ref f) = true)
    (b : ∀ fd, Fun K x x st f fd → Binds K fd ps []) : At K mg x st ps := ⟨_, _, fun_mk (st := st) l c k, PySem.W.mg_of X G a, b _ (fun_mk (st := st) l c k)⟩

/-- what the top has written -/
structure Txt (w : World) (K : PySem.W.Frag) (mg : Str → Option Value) : Prop where
  at_is_small_letter : At K mg "is_small_letter" s_is_small_letter ["sign"]
  at_is_digit : At K mg "is_digit" s_is_digit ["sign"]
  at_is_word : At K mg "is_word" s_is_word ["value"]
  at_check_claim : At K mg "check_claim" s_check_claim ["value"]
  at__wrong_member : At K mg "_wrong_member" s__wrong_member ["value", "bound"]
  at_claims_in : At K mg "claims_in" s_claims_in ["claim"]
  at__law_source : At K mg "_law_source" s__law_source ["script"]
  at__law_pick : At K mg "_law_pick" s__law_pick ["source", "many"]
  at__law_of : At K mg "_law_of" s__law_of ["source", "some"]
  at__law_mixed : At K mg "_law_mixed" s__law_mixed ["source", "things"]
  at__law_odd : At K mg "_law_odd" s__law_odd ["source"]
  at__law_is_word : At K mg "_law_is_word" s__law_is_word ["value"]
  at__law_inner : At K mg "_law_inner" s__law_inner ["claim"]
  at__law_path : At K mg "_law_path" s__law_path ["value", "bound"]
  at__law_claim : At K mg "_law_claim" s__law_claim ["source", "words", "names", "bound", "deep", "most"]
  at__law_told_path : At K mg "_law_told_path" s__law_told_path ["value"]
  at__law_bent_claim : At K mg "_law_bent_claim" s__law_bent_claim ["source", "claim"]
  at__law_letters : At K mg "_law_letters" s__law_letters ["source", "many"]
  bl : Blt w K mg

theorem fn_all {P : Program} {w : World} {K : PySem.W.Frag} {mg : Str → Option Value} {base : Heap} {f : Addr} {fd : FuncData} (F : Fun K "law" "law" s_law f fd) (T : Txt w K mg) : FnG P w K mg base CX0 32 f fd ["script"] (spLaw K) := by
  have B := T.bl
  have G_src : Fn P w K mg base "_law_source" 1 ["script"] (spSource K) := Fn.mk' T.at__law_source fun f fd F => FnG.of (ok_source F B)
  have G__law_pick : Fn P w K mg base "_law_pick" 1 ["source", "many"] (spX K 2 mPick) := Fn.mk' T.at__law_pick fun f fd F => FnG.of (ok_pick F B)
  have G__law_mixed := fn_mixed T.at__law_mixed B G__law_pick
  have G_is_small_letter := fn_is_small_letter (P := P) (w := w) (base := base) T.at_is_small_letter B
  have G_is_digit := fn_is_digit (P := P) (w := w) (base := base) T.at_is_digit B
  have G_claims_in := fn_claims_in (P := P) (w := w) (base := base) T.at_claims_in B
  have G__law_is_word := fn__law_is_word (P := P) (w := w) (base := base) T.at__law_is_word B
  have G__law_inner := fn__law_inner (P := P) (w := w) (base := base) T.at__law_inner B
  have G_is_word := fn_is_word (P := P) (w := w) (base := base) T.at_is_word B G_is_digit G_is_small_letter
  have G__law_of := fn__law_of (P := P) (w := w) (base := base) T.at__law_of B G__law_pick
  have G__wrong_member := fn__wrong_member (P := P) (w := w) (base := base) T.at__wrong_member B G_is_word
  have G__law_odd := fn__law_odd (P := P) (w := w) (base := base) T.at__law_odd B G__law_of
  have G__law_letters := fn__law_letters (P := P) (w := w) (base := base) T.at__law_letters B G__law_mixed G__law_of G__law_pick
  have G_check_claim := fn_check_claim (P := P) (w := w) (base := base) T.at_check_claim B G__wrong_member G_claims_in
  have G__law_told_path := fn__law_told_path (P := P) (w := w) (base := base) T.at__law_told_path B G_check_claim
  have G__law_claim := fn__law_claim (P := P) (w := w) (base := base) T.at__law_claim B G__law_of G__law_pick
  have G__law_bent_claim := fn__law_bent_claim (P := P) (w := w) (base := base) T.at__law_bent_claim B G__law_inner G__law_odd G__law_of G__law_pick
  have G__law_path := fn__law_path (P := P) (w := w) (base := base) T.at__law_path B G__law_inner G__law_is_word
  exact fn_law F B G_src G__law_bent_claim G__law_claim G__law_letters G__law_odd G__law_path G__law_pick G__law_told_path

theorem all_at {l : PySem.W.OpenLaw} {w : World} {K : PySem.W.Frag} {h : Heap} {mg : Str → Option Value} {fa : Addr} (X : K.In h) (G : h.Ns mainGlobals mg) (hfa : mg "law" = some (.ref fa))
    {f0 : Addr} {oc0 kV0 dc0 pm0 cd0 ct0 : Value} {od0 an0 : Option Addr} {sl0 : Array (Option Value)}
    {f1 : Addr} {oc1 kV1 dc1 pm1 cd1 ct1 : Value} {od1 an1 : Option Addr} {sl1 : Array (Option Value)}
    {f2 : Addr} {oc2 kV2 dc2 pm2 cd2 ct2 : Value} {od2 an2 : Option Addr} {sl2 : Array (Option Value)}
    {f3 : Addr} {oc3 kV3 dc3 pm3 cd3 ct3 : Value} {od3 an3 : Option Addr} {sl3 : Array (Option Value)}
    {f4 : Addr} {oc4 kV4 dc4 pm4 cd4 ct4 : Value} {od4 an4 : Option Addr} {sl4 : Array (Option Value)}
    {f5 : Addr} {oc5 kV5 dc5 pm5 cd5 ct5 : Value} {od5 an5 : Option Addr} {sl5 : Array (Option Value)}
    {f6 : Addr} {oc6 kV6 dc6 pm6 cd6 ct6 : Value} {od6 an6 : Option Addr} {sl6 : Array (Option Value)}
    {f7 : Addr} {oc7 kV7 dc7 pm7 cd7 ct7 : Value} {od7 an7 : Option Addr} {sl7 : Array (Option Value)}
    {f8 : Addr} {oc8 kV8 dc8 pm8 cd8 ct8 : Value} {od8 an8 : Option Addr} {sl8 : Array (Option Value)}
    {f9 : Addr} {oc9 kV9 dc9 pm9 cd9 ct9 : Value} {od9 an9 : Option Addr} {sl9 : Array (Option Value)}
    {f10 : Addr} {oc10 kV10 dc10 pm10 cd10 ct10 : Value} {od10 an10 : Option Addr} {sl10 : Array (Option Value)}
    {f11 : Addr} {oc11 kV11 dc11 pm11 cd11 ct11 : Value} {od11 an11 : Option Addr} {sl11 : Array (Option Value)}
    {f12 : Addr} {oc12 kV12 dc12 pm12 cd12 ct12 : Value} {od12 an12 : Option Addr} {sl12 : Array (Option Value)}
    {f13 : Addr} {oc13 kV13 dc13 pm13 cd13 ct13 : Value} {od13 an13 : Option Addr} {sl13 : Array (Option Value)}
    {f14 : Addr} {oc14 kV14 dc14 pm14 cd14 ct14 : Value} {od14 an14 : Option Addr} {sl14 : Array (Option Value)}
    {f15 : Addr} {oc15 kV15 dc15 pm15 cd15 ct15 : Value} {od15 an15 : Option Addr} {sl15 : Array (Option Value)}
    {f16 : Addr} {oc16 kV16 dc16 pm16 cd16 ct16 : Value} {od16 an16 : Option Addr} {sl16 : Array (Option Value)}
    {f17 : Addr} {oc17 kV17 dc17 pm17 cd17 ct17 : Value} {od17 an17 : Option Addr} {sl17 : Array (Option Value)}
    {f18 : Addr} {oc18 kV18 dc18 pm18 cd18 ct18 : Value} {od18 an18 : Option Addr} {sl18 : Array (Option Value)}
    {tLONGEST_WORD : Tok}
    {xBadClaim_C xBadClaim_F xBadClaim_N xBadClaim_S : Addr} {xBadClaim_nm xBadClaim_q : Str} {xBadClaim_bs : List Value} {xBadClaim_sn : List Str} {xBadClaim_sub : List Value} {xBadClaim_ab : Bool} {xBadClaim_col : Option Bool} {xBadClaim_dd : Option Addr} {xBadClaim_m0 xBadClaim_m1 xBadClaim_m2 xBadClaim_m3 xBadClaim_m5 : Option Value} {xBadClaim_oc xBadClaim_kV xBadClaim_dc xBadClaim_pm xBadClaim_cd xBadClaim_ct : Value} {xBadClaim_od xBadClaim_an : Option Addr} {xBadClaim_sl : Array (Option Value)}
    {gBINDING : Addr} {goBINDING : Option Addr} {giBINDING : Array Value} {gnBINDING : Nat} {gsBINDING : Array (Option Value)}
    {dMEMBERS : Addr} {esMEMBERS : Array DictEntry} {nMEMBERS : Nat} {eMEMBERS_0 : Int} {tMEMBERS_0 : Tok} {gMEMBERS_0 : Addr} {goMEMBERS_0 : Option Addr} {giMEMBERS_0 : Array Value} {gnMEMBERS_0 : Nat} {gsMEMBERS_0 : Array (Option Value)} {eMEMBERS_1 : Int} {tMEMBERS_1 : Tok} {gMEMBERS_1 : Addr} {goMEMBERS_1 : Option Addr} {giMEMBERS_1 : Array Value} {gnMEMBERS_1 : Nat} {gsMEMBERS_1 : Array (Option Value)} {eMEMBERS_2 : Int} {tMEMBERS_2 : Tok} {gMEMBERS_2 : Addr} {goMEMBERS_2 : Option Addr} {giMEMBERS_2 : Array Value} {gnMEMBERS_2 : Nat} {gsMEMBERS_2 : Array (Option Value)} {eMEMBERS_3 : Int} {tMEMBERS_3 : Tok} {gMEMBERS_3 : Addr} {goMEMBERS_3 : Option Addr} {giMEMBERS_3 : Array Value} {gnMEMBERS_3 : Nat} {gsMEMBERS_3 : Array (Option Value)} {eMEMBERS_4 : Int} {tMEMBERS_4 : Tok} {gMEMBERS_4 : Addr} {goMEMBERS_4 : Option Addr} {giMEMBERS_4 : Array Value} {gnMEMBERS_4 : Nat} {gsMEMBERS_4 : Array (Option Value)} {eMEMBERS_5 : Int} {tMEMBERS_5 : Tok} {gMEMBERS_5 : Addr} {goMEMBERS_5 : Option Addr} {giMEMBERS_5 : Array Value} {gnMEMBERS_5 : Nat} {gsMEMBERS_5 : Array (Option Value)} {eMEMBERS_6 : Int} {tMEMBERS_6 : Tok} {gMEMBERS_6 : Addr} {goMEMBERS_6 : Option Addr} {giMEMBERS_6 : Array Value} {gnMEMBERS_6 : Nat} {gsMEMBERS_6 : Array (Option Value)} {eMEMBERS_7 : Int} {tMEMBERS_7 : Tok} {gMEMBERS_7 : Addr} {goMEMBERS_7 : Option Addr} {giMEMBERS_7 : Array Value} {gnMEMBERS_7 : Nat} {gsMEMBERS_7 : Array (Option Value)}
    {yCBadClaim : Addr}
    (a0 : PySem.W.nsIn K mainGlobals "is_small_letter" = some (some (.ref f0))) (l0 : K.lookup f0 = some ⟨oc0, od0, .func (PySem.W.fnOf "is_small_letter" "is_small_letter" (defArgs s_is_small_letter) (defBody s_is_small_letter) (defScope s_is_small_letter) .none kV0 dc0 pm0 an0 cd0 ct0), sl0⟩) (c0 : PySem.W.codeIn K cd0 "is_small_letter" = true) (k0 : PySem.W.keepIn K (.ref f0) = true)
    (a1 : PySem.W.nsIn K mainGlobals "is_digit" = some (some (.ref f1))) (l1 : K.lookup f1 = some ⟨oc1, od1, .func (PySem.W.fnOf "is_digit" "is_digit" (defArgs s_is_digit) (defBody s_is_digit) (defScope s_is_digit) .none kV1 dc1 pm1 an1 cd1 ct1), sl1⟩) (c1 : PySem.W.codeIn K cd1 "is_digit" = true) (k1 : PySem.W.keepIn K (.ref f1) = true)
    (a2 : PySem.W.nsIn K mainGlobals "is_word" = some (some (.ref f2))) (l2 : K.lookup f2 = some ⟨oc2, od2, .func (PySem.W.fnOf "is_word" "is_word" (defArgs s_is_word) (defBody s_is_word) (defScope s_is_word) .none kV2 dc2 pm2 an2 cd2 ct2), sl2⟩) (c2 : PySem.W.codeIn K cd2 "is_word" = true) (k2 : PySem.W.keepIn K (.ref f2) = true)
    (a3 : PySem.W.nsIn K mainGlobals "check_claim" = some (some (.ref f3))) (l3 : K.lookup f3 = some ⟨oc3, od3, .func (PySem.W.fnOf "check_claim" "check_claim" (defArgs s_check_claim) (defBody s_check_claim) (defScope s_check_claim) .none kV3 dc3 pm3 an3 cd3 ct3), sl3⟩) (c3 : PySem.W.codeIn K cd3 "check_claim" = true) (k3 : PySem.W.keepIn K (.ref f3) = true)
    (a4 : PySem.W.nsIn K mainGlobals "_wrong_member" = some (some (.ref f4))) (l4 : K.lookup f4 = some ⟨oc4, od4, .func (PySem.W.fnOf "_wrong_member" "_wrong_member" (defArgs s__wrong_member) (defBody s__wrong_member) (defScope s__wrong_member) .none kV4 dc4 pm4 an4 cd4 ct4), sl4⟩) (c4 : PySem.W.codeIn K cd4 "_wrong_member" = true) (k4 : PySem.W.keepIn K (.ref f4) = true)
    (a5 : PySem.W.nsIn K mainGlobals "claims_in" = some (some (.ref f5))) (l5 : K.lookup f5 = some ⟨oc5, od5, .func (PySem.W.fnOf "claims_in" "claims_in" (defArgs s_claims_in) (defBody s_claims_in) (defScope s_claims_in) .none kV5 dc5 pm5 an5 cd5 ct5), sl5⟩) (c5 : PySem.W.codeIn K cd5 "claims_in" = true) (k5 : PySem.W.keepIn K (.ref f5) = true)
    (a6 : PySem.W.nsIn K mainGlobals "_law_source" = some (some (.ref f6))) (l6 : K.lookup f6 = some ⟨oc6, od6, .func (PySem.W.fnOf "_law_source" "_law_source" (defArgs s__law_source) (defBody s__law_source) (defScope s__law_source) .none kV6 dc6 pm6 an6 cd6 ct6), sl6⟩) (c6 : PySem.W.codeIn K cd6 "_law_source" = true) (k6 : PySem.W.keepIn K (.ref f6) = true)
    (a7 : PySem.W.nsIn K mainGlobals "_law_pick" = some (some (.ref f7))) (l7 : K.lookup f7 = some ⟨oc7, od7, .func (PySem.W.fnOf "_law_pick" "_law_pick" (defArgs s__law_pick) (defBody s__law_pick) (defScope s__law_pick) .none kV7 dc7 pm7 an7 cd7 ct7), sl7⟩) (c7 : PySem.W.codeIn K cd7 "_law_pick" = true) (k7 : PySem.W.keepIn K (.ref f7) = true)
    (a8 : PySem.W.nsIn K mainGlobals "_law_of" = some (some (.ref f8))) (l8 : K.lookup f8 = some ⟨oc8, od8, .func (PySem.W.fnOf "_law_of" "_law_of" (defArgs s__law_of) (defBody s__law_of) (defScope s__law_of) .none kV8 dc8 pm8 an8 cd8 ct8), sl8⟩) (c8 : PySem.W.codeIn K cd8 "_law_of" = true) (k8 : PySem.W.keepIn K (.ref f8) = true)
    (a9 : PySem.W.nsIn K mainGlobals "_law_mixed" = some (some (.ref f9))) (l9 : K.lookup f9 = some ⟨oc9, od9, .func (PySem.W.fnOf "_law_mixed" "_law_mixed" (defArgs s__law_mixed) (defBody s__law_mixed) (defScope s__law_mixed) .none kV9 dc9 pm9 an9 cd9 ct9), sl9⟩) (c9 : PySem.W.codeIn K cd9 "_law_mixed" = true) (k9 : PySem.W.keepIn K (.ref f9) = true)
    (a10 : PySem.W.nsIn K mainGlobals "_law_odd" = some (some (.ref f10))) (l10 : K.lookup f10 = some ⟨oc10, od10, .func (PySem.W.fnOf "_law_odd" "_law_odd" (defArgs s__law_odd) (defBody s__law_odd) (defScope s__law_odd) .none kV10 dc10 pm10 an10 cd10 ct10), sl10⟩) (c10 : PySem.W.codeIn K cd10 "_law_odd" = true) (k10 : PySem.W.keepIn K (.ref f10) = true)
    (a11 : PySem.W.nsIn K mainGlobals "_law_is_word" = some (some (.ref f11))) (l11 : K.lookup f11 = some ⟨oc11, od11, .func (PySem.W.fnOf "_law_is_word" "_law_is_word" (defArgs s__law_is_word) (defBody s__law_is_word) (defScope s__law_is_word) .none kV11 dc11 pm11 an11 cd11 ct11), sl11⟩) (c11 : PySem.W.codeIn K cd11 "_law_is_word" = true) (k11 : PySem.W.keepIn K (.ref f11) = true)
    (a12 : PySem.W.nsIn K mainGlobals "_law_inner" = some (some (.ref f12))) (l12 : K.lookup f12 = some ⟨oc12, od12, .func (PySem.W.fnOf "_law_inner" "_law_inner" (defArgs s__law_inner) (defBody s__law_inner) (defScope s__law_inner) .none kV12 dc12 pm12 an12 cd12 ct12), sl12⟩) (c12 : PySem.W.codeIn K cd12 "_law_inner" = true) (k12 : PySem.W.keepIn K (.ref f12) = true)
    (a13 : PySem.W.nsIn K mainGlobals "_law_path" = some (some (.ref f13))) (l13 : K.lookup f13 = some ⟨oc13, od13, .func (PySem.W.fnOf "_law_path" "_law_path" (defArgs s__law_path) (defBody s__law_path) (defScope s__law_path) .none kV13 dc13 pm13 an13 cd13 ct13), sl13⟩) (c13 : PySem.W.codeIn K cd13 "_law_path" = true) (k13 : PySem.W.keepIn K (.ref f13) = true)
    (a14 : PySem.W.nsIn K mainGlobals "_law_claim" = some (some (.ref f14))) (l14 : K.lookup f14 = some ⟨oc14, od14, .func (PySem.W.fnOf "_law_claim" "_law_claim" (defArgs s__law_claim) (defBody s__law_claim) (defScope s__law_claim) .none kV14 dc14 pm14 an14 cd14 ct14), sl14⟩) (c14 : PySem.W.codeIn K cd14 "_law_claim" = true) (k14 : PySem.W.keepIn K (.ref f14) = true)
    (a15 : PySem.W.nsIn K mainGlobals "_law_told_path" = some (some (.ref f15))) (l15 : K.lookup f15 = some ⟨oc15, od15, .func (PySem.W.fnOf "_law_told_path" "_law_told_path" (defArgs s__law_told_path) (defBody s__law_told_path) (defScope s__law_told_path) .none kV15 dc15 pm15 an15 cd15 ct15), sl15⟩) (c15 : PySem.W.codeIn K cd15 "_law_told_path" = true) (k15 : PySem.W.keepIn K (.ref f15) = true)
    (a16 : PySem.W.nsIn K mainGlobals "_law_bent_claim" = some (some (.ref f16))) (l16 : K.lookup f16 = some ⟨oc16, od16, .func (PySem.W.fnOf "_law_bent_claim" "_law_bent_claim" (defArgs s__law_bent_claim) (defBody s__law_bent_claim) (defScope s__law_bent_claim) .none kV16 dc16 pm16 an16 cd16 ct16), sl16⟩) (c16 : PySem.W.codeIn K cd16 "_law_bent_claim" = true) (k16 : PySem.W.keepIn K (.ref f16) = true)
    (a17 : PySem.W.nsIn K mainGlobals "_law_letters" = some (some (.ref f17))) (l17 : K.lookup f17 = some ⟨oc17, od17, .func (PySem.W.fnOf "_law_letters" "_law_letters" (defArgs s__law_letters) (defBody s__law_letters) (defScope s__law_letters) .none kV17 dc17 pm17 an17 cd17 ct17), sl17⟩) (c17 : PySem.W.codeIn K cd17 "_law_letters" = true) (k17 : PySem.W.keepIn K (.ref f17) = true)
    (a18 : PySem.W.nsIn K mainGlobals "law" = some (some (.ref f18))) (l18 : K.lookup f18 = some ⟨oc18, od18, .func (PySem.W.fnOf "law" "law" (defArgs s_law) (defBody s_law) (defScope s_law) .none kV18 dc18 pm18 an18 cd18 ct18), sl18⟩) (c18 : PySem.W.codeIn K cd18 "law" = true) (k18 : PySem.W.keepIn K (.ref f18) = true)
    (z_abs : PySem.W.nsIn K mainGlobals "abs" = some none)
    (z_all : PySem.W.nsIn K mainGlobals "all" = some none)
    (z_enumerate : PySem.W.nsIn K mainGlobals "enumerate" = some none)
    (z_int : PySem.W.nsIn K mainGlobals "int" = some none)
    (z_isinstance : PySem.W.nsIn K mainGlobals "isinstance" = some none)
    (z_len : PySem.W.nsIn K mainGlobals "len" = some none)
    (z_list : PySem.W.nsIn K mainGlobals "list" = some none)
    (z_max : PySem.W.nsIn K mainGlobals "max" = some none)
    (z_range : PySem.W.nsIn K mainGlobals "range" = some none)
    (z_repr : PySem.W.nsIn K mainGlobals "repr" = some none)
    (z_reversed : PySem.W.nsIn K mainGlobals "reversed" = some none)
    (z_set : PySem.W.nsIn K mainGlobals "set" = some none)
    (z_sorted : PySem.W.nsIn K mainGlobals "sorted" = some none)
    (z_str : PySem.W.nsIn K mainGlobals "str" = some none)
    (z_tuple : PySem.W.nsIn K mainGlobals "tuple" = some none)
    (aLONGEST_WORD : PySem.W.nsIn K mainGlobals "LONGEST_WORD" = some (some (.int 12 tLONGEST_WORD)))
    (xBadClaim_aC : PySem.W.nsIn K mainGlobals "BadClaim" = some (some (.ref xBadClaim_C))) (xBadClaim_xL : K.lookup xBadClaim_C = some (excClassObj xBadClaim_nm xBadClaim_q xBadClaim_C xBadClaim_N xBadClaim_bs [.ref xBadClaim_S, .type "ValueError", .type "Exception", .type "BaseException", .type "object"] true xBadClaim_sn xBadClaim_sub xBadClaim_ab xBadClaim_col xBadClaim_dd xBadClaim_m0 xBadClaim_m1 xBadClaim_m2 xBadClaim_m3 xBadClaim_m5 "ValueError.__new__")) (xBadClaim_sa : PySem.W.findIn K (.ref xBadClaim_C) "__setattr__" = some (some (.builtin "object.__setattr__"))) (xBadClaim_ga : PySem.W.findIn K (.ref xBadClaim_C) "__getattribute__" = some (some (.builtin "BaseException.__getattribute__"))) (xBadClaim_gg : PySem.W.findIn K (.ref xBadClaim_C) "__getattr__" = some none) (xBadClaim_no : PySem.W.findIn K (.ref xBadClaim_C) "path" = some none) (xBadClaim_iC : PySem.W.findIn K (.ref xBadClaim_C) "__init__" = some (some (.ref xBadClaim_F))) (xBadClaim_tI : PySem.W.typeIn K (.ref xBadClaim_F) = some (.type "function")) (xBadClaim_l : K.lookup xBadClaim_F = some ⟨xBadClaim_oc, xBadClaim_od, .func (PySem.W.fnOf "__init__" "BadClaim.__init__" (defArgs s_BadClaim_init) (defBody s_BadClaim_init) (defScope s_BadClaim_init) .none xBadClaim_kV xBadClaim_dc xBadClaim_pm xBadClaim_an xBadClaim_cd xBadClaim_ct), xBadClaim_sl⟩) (xBadClaim_c : PySem.W.codeIn K xBadClaim_cd "BadClaim.__init__" = true) (xBadClaim_k : PySem.W.keepIn K (.ref xBadClaim_F) = true) (xBadClaim_kC : PySem.W.keepIn K (.ref xBadClaim_C) = true) (xBadClaim_eC : PySem.W.subIn K (.ref xBadClaim_C) (.type "BaseException") = some true) (xBadClaim_tC : PySem.W.typeIn K (.ref xBadClaim_C) = some (.type "type")) (xBadClaim_hC : PySem.W.hasDictIn K xBadClaim_C = true) (xBadClaim_cC : PySem.W.isClsIn K xBadClaim_C = true) (xBadClaim_sC : PySem.W.subIn K (.ref xBadClaim_C) (.ref xBadClaim_C) = some true)
    (aBINDING : PySem.W.nsIn K mainGlobals "BINDING" = some (some (.ref gBINDING))) (lBINDING : K.lookup gBINDING = some ⟨.type "tuple", goBINDING, .seq giBINDING gnBINDING, gsBINDING⟩) (hBINDING : ∃ ts : List Tok, ts.length = (["some", "each"] : List Str).length ∧ giBINDING.toList = List.zipWith Value.str ["some", "each"] ts)
    (aMEMBERS : PySem.W.nsIn K mainGlobals "MEMBERS" = some (some (.ref dMEMBERS))) (lMEMBERS : K.lookup dMEMBERS = some ⟨.type "dict", none, .dict esMEMBERS nMEMBERS, #[]⟩)
    (hMEMBERS : PySem.W.KeysLit w.params esMEMBERS.toList) (sMEMBERS : (dMEMBERS == sysModules) = false)
    (qMEMBERS : esMEMBERS.toList = entsOf [(eMEMBERS_0, tMEMBERS_0, gMEMBERS_0), (eMEMBERS_1, tMEMBERS_1, gMEMBERS_1), (eMEMBERS_2, tMEMBERS_2, gMEMBERS_2), (eMEMBERS_3, tMEMBERS_3, gMEMBERS_3), (eMEMBERS_4, tMEMBERS_4, gMEMBERS_4), (eMEMBERS_5, tMEMBERS_5, gMEMBERS_5), (eMEMBERS_6, tMEMBERS_6, gMEMBERS_6), (eMEMBERS_7, tMEMBERS_7, gMEMBERS_7)] [("mark", ["letter", "name"]), ("before", ["name", "name"]), ("same", ["name", "name"]), ("not", ["claim"]), ("and", ["claim", "claim"]), ("or", ["claim", "claim"]), ("some", ["bound", "claim"]), ("each", ["bound", "claim"])])
    (lMEMBERS_0 : K.lookup gMEMBERS_0 = some ⟨.type "tuple", goMEMBERS_0, .seq giMEMBERS_0 gnMEMBERS_0, gsMEMBERS_0⟩) (hMEMBERS_0 : ∃ ts : List Tok, ts.length = (["letter", "name"] : List Str).length ∧ giMEMBERS_0.toList = List.zipWith Value.str ["letter", "name"] ts)
    (lMEMBERS_1 : K.lookup gMEMBERS_1 = some ⟨.type "tuple", goMEMBERS_1, .seq giMEMBERS_1 gnMEMBERS_1, gsMEMBERS_1⟩) (hMEMBERS_1 : ∃ ts : List Tok, ts.length = (["name", "name"] : List Str).length ∧ giMEMBERS_1.toList = List.zipWith Value.str ["name", "name"] ts)
    (lMEMBERS_2 : K.lookup gMEMBERS_2 = some ⟨.type "tuple", goMEMBERS_2, .seq giMEMBERS_2 gnMEMBERS_2, gsMEMBERS_2⟩) (hMEMBERS_2 : ∃ ts : List Tok, ts.length = (["name", "name"] : List Str).length ∧ giMEMBERS_2.toList = List.zipWith Value.str ["name", "name"] ts)
    (lMEMBERS_3 : K.lookup gMEMBERS_3 = some ⟨.type "tuple", goMEMBERS_3, .seq giMEMBERS_3 gnMEMBERS_3, gsMEMBERS_3⟩) (hMEMBERS_3 : ∃ ts : List Tok, ts.length = (["claim"] : List Str).length ∧ giMEMBERS_3.toList = List.zipWith Value.str ["claim"] ts)
    (lMEMBERS_4 : K.lookup gMEMBERS_4 = some ⟨.type "tuple", goMEMBERS_4, .seq giMEMBERS_4 gnMEMBERS_4, gsMEMBERS_4⟩) (hMEMBERS_4 : ∃ ts : List Tok, ts.length = (["claim", "claim"] : List Str).length ∧ giMEMBERS_4.toList = List.zipWith Value.str ["claim", "claim"] ts)
    (lMEMBERS_5 : K.lookup gMEMBERS_5 = some ⟨.type "tuple", goMEMBERS_5, .seq giMEMBERS_5 gnMEMBERS_5, gsMEMBERS_5⟩) (hMEMBERS_5 : ∃ ts : List Tok, ts.length = (["claim", "claim"] : List Str).length ∧ giMEMBERS_5.toList = List.zipWith Value.str ["claim", "claim"] ts)
    (lMEMBERS_6 : K.lookup gMEMBERS_6 = some ⟨.type "tuple", goMEMBERS_6, .seq giMEMBERS_6 gnMEMBERS_6, gsMEMBERS_6⟩) (hMEMBERS_6 : ∃ ts : List Tok, ts.length = (["bound", "claim"] : List Str).length ∧ giMEMBERS_6.toList = List.zipWith Value.str ["bound", "claim"] ts)
    (lMEMBERS_7 : K.lookup gMEMBERS_7 = some ⟨.type "tuple", goMEMBERS_7, .seq giMEMBERS_7 gnMEMBERS_7, gsMEMBERS_7⟩) (hMEMBERS_7 : ∃ ts : List Tok, ts.length = (["bound", "claim"] : List Str).length ∧ giMEMBERS_7.toList = List.zipWith Value.str ["bound", "claim"] ts)
    (yaBadClaim : PySem.W.nsIn K mainGlobals "SayError" = some (some (.ref yCBadClaim))) (ybBadClaim : PySem.W.subIn K (.ref yCBadClaim) (.type "BaseException") = some true) (ycBadClaim : PySem.W.hasDictIn K yCBadClaim = true) (ydBadClaim : PySem.W.typeIn K (.ref yCBadClaim) = some (.type "type")) (yeBadClaim : PySem.W.subIn K (.ref xBadClaim_C) (.ref yCBadClaim) = some true) :
    ∃ fd : FuncData, (∀ (s : Shared) (v : Value), BindsTo s fd ⟨[v], []⟩ [("script", v)]) ∧ ∀ base : Heap, K.In base → base.Ns mainGlobals mg → FnG l.prog w K mg base CX0 32 fa fd ["script"] (spLaw K) := by
  have e := hfa.symm.trans (PySem.W.mg_of X G a18)
  cases e
  have F := fun_mk (st := s_law) l18 c18 k18
  have T : Txt w K mg := ⟨at_mk X G a0 l0 c0 k0 (fun fd F => F.binds fun _ _ _ _ _ _ us hl => match us, hl with | [_], _ => rfl), at_mk X G a1 l1 c1 k1 (fun fd F => F.binds fun _ _ _ _ _ _ us hl => match us, hl with | [_], _ => rfl), at_mk X G a2 l2 c2 k2 (fun fd F => F.binds fun _ _ _ _ _ _ us hl => match us, hl with | [_], _ => rfl), at_mk X G a3 l3 c3 k3 (fun fd F => F.binds fun _ _ _ _ _ _ us hl => match us, hl with | [_], _ => rfl), at_mk X G a4 l4 c4 k4 (fun fd F => F.binds fun _ _ _ _ _ _ us hl => match us, hl with | [_, _], _ => rfl), at_mk X G a5 l5 c5 k5 (fun fd F => F.binds fun _ _ _ _ _ _ us hl => match us, hl with | [_], _ => rfl), at_mk X G a6 l6 c6 k6 (fun fd F => F.binds fun _ _ _ _ _ _ us hl => match us, hl with | [_], _ => rfl), at_mk X G a7 l7 c7 k7 (fun fd F => F.binds fun _ _ _ _ _ _ us hl => match us, hl with | [_, _], _ => rfl), at_mk X G a8 l8 c8 k8 (fun fd F => F.binds fun _ _ _ _ _ _ us hl => match us, hl with | [_, _], _ => rfl), at_mk X G a9 l9 c9 k9 (fun fd F => F.binds fun _ _ _ _ _ _ us hl => match us, hl with | [_, _], _ => rfl), at_mk X G a10 l10 c10 k10 (fun fd F => F.binds fun _ _ _ _ _ _ us hl => match us, hl with | [_], _ => rfl), at_mk X G a11 l11 c11 k11 (fun fd F => F.binds fun _ _ _ _ _ _ us hl => match us, hl with | [_], _ => rfl), at_mk X G a12 l12 c12 k12 (fun fd F => F.binds fun _ _ _ _ _ _ us hl => match us, hl with | [_], _ => rfl), at_mk X G a13 l13 c13 k13 (fun fd F => F.binds fun _ _ _ _ _ _ us hl => match us, hl with | [_, _], _ => rfl), at_mk X G a14 l14 c14 k14 (fun fd F => F.binds fun _ _ _ _ _ _ us hl => match us, hl with | [_, _, _, _, _, _], _ => rfl), at_mk X G a15 l15 c15 k15 (fun fd F => F.binds fun _ _ _ _ _ _ us hl => match us, hl with | [_], _ => rfl), at_mk X G a16 l16 c16 k16 (fun fd F => F.binds fun _ _ _ _ _ _ us hl => match us, hl with | [_, _], _ => rfl), at_mk X G a17 l17 c17 k17 (fun fd F => F.binds fun _ _ _ _ _ _ us hl => match us, hl with | [_, _], _ => rfl), ⟨PySem.W.mg_none_of X G z_abs, PySem.W.mg_none_of X G z_all, PySem.W.mg_none_of X G z_enumerate, PySem.W.mg_none_of X G z_int, PySem.W.mg_none_of X G z_isinstance, PySem.W.mg_none_of X G z_len, PySem.W.mg_none_of X G z_list, PySem.W.mg_none_of X G z_max, PySem.W.mg_none_of X G z_range, PySem.W.mg_none_of X G z_repr, PySem.W.mg_none_of X G z_reversed, PySem.W.mg_none_of X G z_set, PySem.W.mg_none_of X G z_sorted, PySem.W.mg_none_of X G z_str, PySem.W.mg_none_of X G z_tuple, ⟨_, PySem.W.mg_of X G aLONGEST_WORD⟩, ⟨_, _, _, ⟨⟨⟨_, _, _, _, _, _, _, _, _, _, _, _, _, _, _, xBadClaim_xL, rfl⟩, xBadClaim_sa, xBadClaim_eC, xBadClaim_tC, xBadClaim_kC⟩, ⟨xBadClaim_ga, xBadClaim_gg, xBadClaim_eC, xBadClaim_hC⟩, xBadClaim_no, xBadClaim_iC, xBadClaim_tI, Pu.exm_own xBadClaim_eC xBadClaim_cC xBadClaim_tC xBadClaim_sC, PySem.W.mg_of X G xBadClaim_aC⟩, fun_mk (st := s_BadClaim_init) xBadClaim_l xBadClaim_c xBadClaim_k, (fun_mk (st := s_BadClaim_init) xBadClaim_l xBadClaim_c xBadClaim_k).binds fun _ _ _ _ _ _ us hl => match us, hl with | [_, _], _ => rfl⟩, ⟨_, PySem.W.mg_of X G aBINDING, ktup_of lBINDING (by decide) hBINDING⟩, ⟨_, PySem.W.mg_of X G aMEMBERS, ktabA ⟨lMEMBERS, hMEMBERS, sMEMBERS⟩ qMEMBERS ⟨ktup_of lMEMBERS_0 (by decide) hMEMBERS_0, ktup_of lMEMBERS_1 (by decide) hMEMBERS_1, ktup_of lMEMBERS_2 (by decide) hMEMBERS_2, ktup_of lMEMBERS_3 (by decide) hMEMBERS_3, ktup_of lMEMBERS_4 (by decide) hMEMBERS_4, ktup_of lMEMBERS_5 (by decide) hMEMBERS_5, ktup_of lMEMBERS_6 (by decide) hMEMBERS_6, ktup_of lMEMBERS_7 (by decide) hMEMBERS_7, trivial⟩⟩, fun C hC => by
    have e := hC.symm.trans (PySem.W.mg_of X G xBadClaim_aC)
    cases e
    exact ⟨_, PySem.W.mg_of X G yaBadClaim, PySem.W.exm_ref ybBadClaim ycBadClaim ydBadClaim yeBadClaim⟩⟩⟩
  exact ⟨_, fun s v => .of_eq rfl, fun base _ _ => fn_all F T⟩

end Law
open PySem PySem.W PyProof.Rows
set_option maxRecDepth 100000 in
set_option maxHeartbeats 0 in
theorem PySem.Challenge.cw_splitsays_k54_claims_judged_holds : PySem.Challenge.rw_splitsays_k54_claims_judged.Holds := by
  w_on; o_law; k_head; (case hw => w_witness2)
  k_fill
  refine Pu.walkG (l := PySem.Challenge.rw_splitsays_k54_claims_judged) (k := 32) (sp := Pu.spLaw) (x := "script") rfl rfl ⟨⟨rfl, by decide, by decide⟩, rfl⟩ (fun w h Y => PySem.W.kIn_of Y) ?F (fun K H a ns hl hS => ⟨a, ns, rfl, hS, hl, fun _ => rfl⟩)
  case F =>
    intro w mg fa h KX G hmg
    refine' Law.all_at KX G hmg ?a0 ?l0 ?c0 ?k0 ?a1 ?l1 ?c1 ?k1 ?a2 ?l2 ?c2 ?k2 ?a3 ?l3 ?c3 ?k3 ?a4 ?l4 ?c4 ?k4 ?a5 ?l5 ?c5 ?k5 ?a6 ?l6 ?c6 ?k6 ?a7 ?l7 ?c7 ?k7 ?a8 ?l8 ?c8 ?k8 ?a9 ?l9 ?c9 ?k9 ?a10 ?l10 ?c10 ?k10 ?a11 ?l11 ?c11 ?k11 ?a12 ?l12 ?c12 ?k12 ?a13 ?l13 ?c13 ?k13 ?a14 ?l14 ?c14 ?k14 ?a15 ?l15 ?c15 ?k15 ?a16 ?l16 ?c16 ?k16 ?a17 ?l17 ?c17 ?k17 ?a18 ?l18 ?c18 ?k18 ?z_abs ?z_all ?z_enumerate ?z_int ?z_isinstance ?z_len ?z_list ?z_max ?z_range ?z_repr ?z_reversed ?z_set ?z_sorted ?z_str ?z_tuple ?aLONGEST_WORD ?xBadClaim_aC ?xBadClaim_xL ?xBadClaim_sa ?xBadClaim_ga ?xBadClaim_gg ?xBadClaim_no ?xBadClaim_iC ?xBadClaim_tI ?xBadClaim_l ?xBadClaim_c ?xBadClaim_k ?xBadClaim_kC ?xBadClaim_eC ?xBadClaim_tC ?xBadClaim_hC ?xBadClaim_cC ?xBadClaim_sC ?aBINDING ?lBINDING ?hBINDING ?aMEMBERS ?lMEMBERS ?hMEMBERS ?sMEMBERS ?qMEMBERS ?lMEMBERS_0 ?hMEMBERS_0 ?lMEMBERS_1 ?hMEMBERS_1 ?lMEMBERS_2 ?hMEMBERS_2 ?lMEMBERS_3 ?hMEMBERS_3 ?lMEMBERS_4 ?hMEMBERS_4 ?lMEMBERS_5 ?hMEMBERS_5 ?lMEMBERS_6 ?hMEMBERS_6 ?lMEMBERS_7 ?hMEMBERS_7 ?yaBadClaim ?ybBadClaim ?ycBadClaim ?ydBadClaim ?yeBadClaim
    (case a0 => k_is)
    (case l0 => k_is)
    (case c0 => k_is)
    (case k0 => k_is)
    (case a1 => k_is)
    (case l1 => k_is)
    (case c1 => k_is)
    (case k1 => k_is)
    (case a2 => k_is)
    (case l2 => k_is)
    (case c2 => k_is)
    (case k2 => k_is)
    (case a3 => k_is)
    (case l3 => k_is)
    (case c3 => k_is)
    (case k3 => k_is)
    (case a4 => k_is)
    (case l4 => k_is)
    (case c4 => k_is)
    (case k4 => k_is)
    (case a5 => k_is)
    (case l5 => k_is)
    (case c5 => k_is)
    (case k5 => k_is)
    (case a6 => k_is)
    (case l6 => k_is)
    (case c6 => k_is)
    (case k6 => k_is)
    (case a7 => k_is)
    (case l7 => k_is)
    (case c7 => k_is)
    (case k7 => k_is)
    (case a8 => k_is)
    (case l8 => k_is)
    (case c8 => k_is)
    (case k8 => k_is)
    (case a9 => k_is)
    (case l9 => k_is)
    (case c9 => k_is)
    (case k9 => k_is)
    (case a10 => k_is)
    (case l10 => k_is)
    (case c10 => k_is)
    (case k10 => k_is)
    (case a11 => k_is)
    (case l11 => k_is)
    (case c11 => k_is)
    (case k11 => k_is)
    (case a12 => k_is)
    (case l12 => k_is)
    (case c12 => k_is)
    (case k12 => k_is)
    (case a13 => k_is)
    (case l13 => k_is)
    (case c13 => k_is)
    (case k13 => k_is)
    (case a14 => k_is)
    (case l14 => k_is)
    (case c14 => k_is)
    (case k14 => k_is)
    (case a15 => k_is)
    (case l15 => k_is)
    (case c15 => k_is)
    (case k15 => k_is)
    (case a16 => k_is)
    (case l16 => k_is)
    (case c16 => k_is)
    (case k16 => k_is)
    (case a17 => k_is)
    (case l17 => k_is)
    (case c17 => k_is)
    (case k17 => k_is)
    (case a18 => k_is)
    (case l18 => k_is)
    (case c18 => k_is)
    (case k18 => k_is)
    (case z_abs => k_is)
    (case z_all => k_is)
    (case z_enumerate => k_is)
    (case z_int => k_is)
    (case z_isinstance => k_is)
    (case z_len => k_is)
    (case z_list => k_is)
    (case z_max => k_is)
    (case z_range => k_is)
    (case z_repr => k_is)
    (case z_reversed => k_is)
    (case z_set => k_is)
    (case z_sorted => k_is)
    (case z_str => k_is)
    (case z_tuple => k_is)
    (case aLONGEST_WORD => k_is)
    (case xBadClaim_aC => k_is)
    (case xBadClaim_xL => k_is)
    (case xBadClaim_sa => k_is)
    (case xBadClaim_ga => k_is)
    (case xBadClaim_gg => k_is)
    (case xBadClaim_no => k_is)
    (case xBadClaim_iC => k_is)
    (case xBadClaim_tI => k_is)
    (case xBadClaim_l => k_is)
    (case xBadClaim_c => k_is)
    (case xBadClaim_k => k_is)
    (case xBadClaim_kC => k_is)
    (case xBadClaim_eC => k_is)
    (case xBadClaim_tC => k_is)
    (case xBadClaim_hC => k_is)
    (case xBadClaim_cC => k_is)
    (case xBadClaim_sC => first | rfl | k_is)
    (case aBINDING => k_is)
    (case lBINDING => k_is)
    (case hBINDING => with_unfolding_all (exact ⟨[_, _], rfl, rfl⟩))
    (case aMEMBERS => k_is)
    (case lMEMBERS => k_is)
    (case hMEMBERS => with_unfolding_all (exact ⟨⟨_, _, rfl, rfl⟩, ⟨⟨_, _, rfl, rfl⟩, ⟨⟨_, _, rfl, rfl⟩, ⟨⟨_, _, rfl, rfl⟩, ⟨⟨_, _, rfl, rfl⟩, ⟨⟨_, _, rfl, rfl⟩, ⟨⟨_, _, rfl, rfl⟩, ⟨⟨_, _, rfl, rfl⟩, trivial⟩⟩⟩⟩⟩⟩⟩⟩))
    (case sMEMBERS => decide)
    (case qMEMBERS => with_unfolding_all rfl)
    (case lMEMBERS_0 => k_is)
    (case hMEMBERS_0 => with_unfolding_all (exact ⟨[_, _], rfl, rfl⟩))
    (case lMEMBERS_1 => k_is)
    (case hMEMBERS_1 => with_unfolding_all (exact ⟨[_, _], rfl, rfl⟩))
    (case lMEMBERS_2 => k_is)
    (case hMEMBERS_2 => with_unfolding_all (exact ⟨[_, _], rfl, rfl⟩))
    (case lMEMBERS_3 => k_is)
    (case hMEMBERS_3 => with_unfolding_all (exact ⟨[_], rfl, rfl⟩))
    (case lMEMBERS_4 => k_is)
    (case hMEMBERS_4 => with_unfolding_all (exact ⟨[_, _], rfl, rfl⟩))
    (case lMEMBERS_5 => k_is)
    (case hMEMBERS_5 => with_unfolding_all (exact ⟨[_, _], rfl, rfl⟩))
    (case lMEMBERS_6 => k_is)
    (case hMEMBERS_6 => with_unfolding_all (exact ⟨[_, _], rfl, rfl⟩))
    (case lMEMBERS_7 => k_is)
    (case hMEMBERS_7 => with_unfolding_all (exact ⟨[_, _], rfl, rfl⟩))
    (case yaBadClaim => k_is)
    (case ybBadClaim => k_is)
    (case ycBadClaim => k_is)
    (case ydBadClaim => k_is)
    (case yeBadClaim => first | rfl | k_is)
