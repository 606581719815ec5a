import PyProof.Rows.All
import Wide.All
import OpenK.AllK
import Wide.FinOn
import HandS.ForMost
import HandS.ForExc
import HandS.IsInst
import HandS.Evl
import HandS.TupLe
import HandS.SetFor
import HandS.Walk
import HandS.Text
import HandS.Style
import HandS.Deep
import HandS.StrMore
import HandS.More
import HandS.DictComp
import PyProof.ReprRoads
import PyProof.ReprBulk
import HandS.Flt
import HandS.Replace
import PySem.Challenge.RW_beatrows_k22_terms_told
set_option Elab.async false
set_option linter.all false
set_option autoImplicit false
set_option maxRecDepth 100000
set_option maxHeartbeats 4000000
namespace DL
open PySem L2
open Evl (Ex)
abbrev St := L2.St

/-! ### data, and what represents it in a heap -/
inductive D where
  | non | bl (b : Bool) | int (i : Int) | str (x : Str) | ty (n : String) | adr (a : Addr)
  | lst (xs : List D) | tup (xs : List D) | scr (ns : List Int) | dct (kvs : List (Key × D)) | obj (C : Addr) (fs : List (Str × D))

mutual
inductive Rep (K : PySem.W.Frag) (G : Hp) : V → D → Prop
  | non : Rep K G .non .non
  | bl (b : Bool) : Rep K G (.bl b) (.bl b)
  | int (i : Int) : Rep K G (.int i) (.int i)
  | str (x : Str) : Rep K G (.str x) (.str x)
  | ty (n : String) : Rep K G (.ty n) (.ty n)
  | adr (a : Addr) : Rep K G (.ref a) (.adr a)
  | lst {a : Addr} {xs : List V} {ds : List D} : G a = some (.lst xs) → RepL K G xs ds → Rep K G (.ref a) (.lst ds)
  | tup {a : Addr} {xs : List V} {ds : List D} : SqT K G a xs → RepL K G xs ds → Rep K G (.ref a) (.tup ds)
  | scr {a : Addr} {ns : List Int} : SqL K G a (ns.map V.int) → Rep K G (.ref a) (.scr ns)
  | dct {a : Addr} {kvs : List (Key × V)} {ds : List (Key × D)} : G a = some (.dK kvs) → RepK K G kvs ds → Rep K G (.ref a) (.dct ds)
  | obj {a C dx : Addr} {fs : List (Str × V)} {ds : List (Str × D)} : G a = some (.ins C dx fs) → RepF K G fs ds → Rep K G (.ref a) (.obj C ds)
inductive RepL (K : PySem.W.Frag) (G : Hp) : List V → List D → Prop
  | nil : RepL K G [] []
  | cons {v : V} {vs : List V} {d : D} {ds : List D} : Rep K G v d → RepL K G vs ds → RepL K G (v :: vs) (d :: ds)
inductive RepK (K : PySem.W.Frag) (G : Hp) : List (Key × V) → List (Key × D) → Prop
  | nil : RepK K G [] []
  | cons {k : Key} {v : V} {vs : List (Key × V)} {d : D} {ds : List (Key × D)} : Rep K G v d → RepK K G vs ds → RepK K G ((k, v) :: vs) ((k, d) :: ds)
inductive RepF (K : PySem.W.Frag) (G : Hp) : List (Str × V) → List (Str × D) → Prop
  | nil : RepF K G [] []
  | cons {k : Str} {v : V} {vs : List (Str × V)} {d : D} {ds : List (Str × D)} : Rep K G v d → RepF K G vs ds → RepF K G ((k, v) :: vs) ((k, d) :: ds)
end

section
variable {K : PySem.W.Frag} {G G' H H' : Hp}
mutual
theorem Rep.mono (e : Ex G G') : ∀ (d : D) (v : V), Rep K G v d → Rep K G' v d
  | .non, _, h => by cases h; exact .non
  | .bl b, _, h => by cases h; exact .bl b
  | .int i, _, h => by cases h; exact .int i
  | .str x, _, h => by cases h; exact .str x
  | .ty n, _, h => by cases h; exact .ty n
  | .adr a, _, h => by cases h; exact .adr a
  | .lst ds, _, h => by cases h with | lst h1 h2 => exact .lst (e _ _ h1) (RepL.mono e ds _ h2)
  | .tup ds, _, h => by cases h with | tup h1 h2 => exact .tup (Evl.ex_t e h1) (RepL.mono e ds _ h2)
  | .scr ns, _, h => by cases h with | scr h1 => exact .scr (Evl.ex_l e h1)
  | .dct ds, _, h => by cases h with | dct h1 h2 => exact .dct (e _ _ h1) (RepK.mono e ds _ h2)
  | .obj C ds, _, h => by cases h with | obj h1 h2 => exact .obj (e _ _ h1) (RepF.mono e ds _ h2)
theorem RepL.mono (e : Ex G G') : ∀ (ds : List D) (vs : List V), RepL K G vs ds → RepL K G' vs ds
  | [], _, h => by cases h; exact .nil
  | d :: ds, _, h => by cases h with | cons h1 h2 => exact .cons (Rep.mono e d _ h1) (RepL.mono e ds _ h2)
theorem RepK.mono (e : Ex G G') : ∀ (ds : List (Key × D)) (vs : List (Key × V)), RepK K G vs ds → RepK K G' vs ds
  | [], _, h => by cases h; exact .nil
  | (k, d) :: ds, _, h => by cases h with | cons h1 h2 => exact .cons (Rep.mono e d _ h1) (RepK.mono e ds _ h2)
theorem RepF.mono (e : Ex G G') : ∀ (ds : List (Str × D)) (vs : List (Str × V)), RepF K G vs ds → RepF K G' vs ds
  | [], _, h => by cases h; exact .nil
  | (k, d) :: ds, _, h => by cases h with | cons h1 h2 => exact .cons (Rep.mono e d _ h1) (RepF.mono e ds _ h2)
end
theorem Rep.up (e : Ex G G') {d : D} {v : V} (h : Rep K G v d) : Rep K G' v d := Rep.mono e d v h
theorem RepL.up (e : Ex G G') {ds : List D} {vs : List V} (h : RepL K G vs ds) : RepL K G' vs ds := RepL.mono e ds vs h
theorem RepL.length : ∀ {vs : List V} {ds : List D}, RepL K G vs ds → vs.length = ds.length
  | _, _, .nil => rfl
  | _, _, .cons _ t => congrArg (· + 1) (RepL.length t)
theorem RepL.get : ∀ {vs : List V} {ds : List D} {i : Nat} {d : D}, RepL K G vs ds → ds[i]? = some d → ∃ v, vs[i]? = some v ∧ Rep K G v d
  | _, _, _, _, .nil, e => by simp at e
  | _, _, 0, _, .cons r _, e => by simp at e; subst e; exact ⟨_, rfl, r⟩
  | _, _, i + 1, _, .cons _ t, e => by
    obtain ⟨u, h1, h2⟩ := RepL.get (i := i) t (by simpa using e)
    exact ⟨u, by simpa using h1, h2⟩
theorem RepL.getV : ∀ {vs : List V} {ds : List D} {i : Nat} {v : V}, RepL K G vs ds → vs[i]? = some v → ∃ d, ds[i]? = some d ∧ Rep K G v d
  | _, _, _, _, .nil, e => by simp at e
  | _, _, 0, _, .cons r _, e => by simp at e; subst e; exact ⟨_, rfl, r⟩
  | _, _, i + 1, _, .cons _ t, e => by
    obtain ⟨u, h1, h2⟩ := RepL.getV (i := i) t (by simpa using e)
    exact ⟨u, by simpa using h1, h2⟩
theorem RepL.append : ∀ {vs ws : List V} {ds es : List D}, RepL K G vs ds → RepL K G ws es → RepL K G (vs ++ ws) (ds ++ es)
  | _, _, _, _, .nil, s => s
  | _, _, _, _, .cons r t, s => .cons r (RepL.append t s)
theorem RepL.set : ∀ {vs : List V} {ds : List D} (i : Nat) {v : V} {d : D}, Rep K G v d → RepL K G vs ds → RepL K G (vs.set i v) (ds.set i d)
  | _, _, _, _, _, _, .nil => .nil
  | _, _, 0, _, _, r, .cons _ t => .cons r t
  | _, _, i + 1, _, _, r, .cons q t => .cons q (RepL.set i r t)
theorem RepL.drop : ∀ {vs : List V} {ds : List D} (i : Nat), RepL K G vs ds → RepL K G (vs.drop i) (ds.drop i)
  | _, _, 0, h => h
  | _, _, _ + 1, .nil => .nil
  | _, _, i + 1, .cons _ t => RepL.drop i t
theorem RepL.take : ∀ {vs : List V} {ds : List D} (i : Nat), RepL K G vs ds → RepL K G (vs.take i) (ds.take i)
  | _, _, 0, _ => .nil
  | _, _, _ + 1, .nil => .nil
  | _, _, i + 1, .cons r t => .cons r (RepL.take i t)
theorem RepL.ints : ∀ {vs : List V} {ns : List Int}, RepL K G vs (ns.map D.int) → vs = ns.map V.int
  | _, [], h => by cases h; rfl
  | _, n :: ns, h => by
    cases h with
    | cons r t =>
      cases r
      rw [RepL.ints t]
      rfl
theorem RepL.strs : ∀ {vs : List V} {ns : List Str}, RepL K G vs (ns.map D.str) → vs = ns.map V.str
  | _, [], h => by cases h; rfl
  | _, n :: ns, h => by
    cases h with
    | cons r t =>
      cases r
      rw [RepL.strs t]
      rfl
theorem RepL.bls : ∀ {vs : List V} {ns : List Bool}, RepL K G vs (ns.map D.bl) → vs = ns.map V.bl
  | _, [], h => by cases h; rfl
  | _, n :: ns, h => by
    cases h with
    | cons r t =>
      cases r
      rw [RepL.bls t]
      rfl
theorem RepL.ofStrs : ∀ (ns : List Str), RepL K G (ns.map V.str) (ns.map D.str)
  | [] => .nil
  | n :: ns => .cons (.str n) (RepL.ofStrs ns)
theorem RepL.ofInts : ∀ (ns : List Int), RepL K G (ns.map V.int) (ns.map D.int)
  | [] => .nil
  | n :: ns => .cons (.int n) (RepL.ofInts ns)
end

/-! ### slots, frames, states -/
/-- whose a list is: the def's own; a parameter's; one of both -/
inductive Kd where
  | loc | par | any
inductive Sl where
  | un
  | fz (d : D)
  | ow (k : Kd) (ds : List D)

abbrev Sls := List Sl

structure Fr where
  G0 : Hp
  H0 : Hp
  P : Addr → Prop

def SlR (K : PySem.W.Frag) (G H : Hp) : Option V → Sl → Prop
  | _, .un => True
  | some v, .fz d => Rep K G v d
  | some v, .ow _ ds => ∃ p vs, v = .ref p ∧ G p = none ∧ H p = some (.lst vs) ∧ RepL K G vs ds
  | none, _ => False

structure FrOk (F : Fr) (G H : Hp) : Prop where
  ex : Ex G H
  old : ∀ a o, F.H0 a = some o → G a = F.G0 a
  kp : ∀ a o, F.H0 a = some o → ¬ F.P a → H a = some o
  th : ∀ a o, F.H0 a = some o → ∃ o', H a = some o'

def OwnK (F : Fr) (p : Addr) : Kd → Prop
  | .loc => F.H0 p = none
  | .par => F.P p
  | .any => F.H0 p = none ∨ F.P p
theorem OwnK.or {F : Fr} {p : Addr} : ∀ {k : Kd}, OwnK F p k → F.H0 p = none ∨ F.P p
  | .loc, h => .inl h
  | .par, h => .inr h
  | .any, h => h
structure SRel (K : PySem.W.Frag) (F : Fr) (G H : Hp) (σ : St) (ρ : Sls) : Prop where
  fr : FrOk F G H
  len : σ.length = ρ.length
  sl : ∀ (i : Nat) (s : Sl) (o : Option V), ρ[i]? = some s → σ[i]? = some o → SlR K G H o s
  dis : ∀ (i j : Nat) (p : Addr) (l m : Kd) (di dj : List D), ρ[i]? = some (.ow l di) → ρ[j]? = some (.ow m dj) → σ[i]? = some (some (.ref p)) → σ[j]? = some (some (.ref p)) → i = j
  own : ∀ (i : Nat) (l : Kd) (ds : List D) (p : Addr), ρ[i]? = some (.ow l ds) → σ[i]? = some (some (.ref p)) → OwnK F p l

section
variable {K : PySem.W.Frag} {F : Fr} {G G' H H' : Hp} {σ : St} {ρ : Sls}
theorem FrOk.fresh (f : FrOk F G H) {p : Addr} (h : H p = none) : F.H0 p = none := by
  cases e : F.H0 p with
  | none => rfl
  | some o =>
    obtain ⟨o', q⟩ := f.th p o e
    rw [h] at q
    cases q
theorem FrOk.freshG (f : FrOk F G H) {p : Addr} (h : H p = none) : G p = none := by
  cases e : G p with
  | none => rfl
  | some o =>
    rw [f.ex p o e] at h
    cases h
theorem SRel.ex (S : SRel K F G H σ ρ) : Ex G H := S.fr.ex
theorem SRel.fz (S : SRel K F G H σ ρ) {i : Nat} {d : D} (h : ρ[i]? = some (.fz d)) : ∃ v, σ[i]? = some (some v) ∧ Rep K G v d := by
  have hl : i < σ.length := by rw [S.len]; exact (List.getElem?_eq_some_iff.mp h).1
  have e : σ[i]? = some σ[i] := List.getElem?_eq_getElem hl
  have q := S.sl i _ _ h e
  cases hv : σ[i] with
  | none => rw [hv] at q; exact q.elim
  | some v => rw [hv] at q e; exact ⟨v, e, q⟩
theorem SRel.ow (S : SRel K F G H σ ρ) {i : Nat} {l : Kd} {ds : List D} (h : ρ[i]? = some (.ow l ds)) : ∃ p vs, σ[i]? = some (some (.ref p)) ∧ G p = none ∧ H p = some (.lst vs) ∧ RepL K G vs ds := by
  have hl : i < σ.length := by rw [S.len]; exact (List.getElem?_eq_some_iff.mp h).1
  have e : σ[i]? = some σ[i] := List.getElem?_eq_getElem hl
  have q := S.sl i _ _ h e
  cases hv : σ[i] with
  | none => rw [hv] at q; exact q.elim
  | some v =>
    rw [hv] at q e
    obtain ⟨p, vs, rfl, q⟩ := q
    exact ⟨p, vs, e, q⟩
theorem SlR.up {o : Option V} {s : Sl} (e : Ex G G') (n : ∀ p, G p = none → (∃ o, H p = some o) → G' p = none) (k : ∀ p o, H p = some o → G p = none → H' p = some o) (h : SlR K G H o s) : SlR K G' H' o s := by
  cases s with
  | un => cases o <;> trivial
  | fz d =>
    cases o with
    | none => exact h
    | some v => exact Rep.up e h
  | ow l ds =>
    cases o with
    | none => exact h
    | some v =>
      obtain ⟨p, vs, rfl, h1, h2, h3⟩ := h
      exact ⟨p, vs, rfl, n p h1 ⟨_, h2⟩, k p _ h2 h1, RepL.up e h3⟩
/-- a new object, not known -/
theorem SRel.alloc (S : SRel K F G H σ ρ) {p : Addr} {o : HO} (h : H p = none) : SRel K F G (upd H p o) σ ρ := by
  have e : Ex H (upd H p o) := Ex.new h
  refine ⟨⟨S.ex.trans e, S.fr.old, fun a u q np => e a u (S.fr.kp a u q np), fun a u q => ?_⟩, S.len, fun i s o h1 h2 => (S.sl i s o h1 h2).up (Ex.refl G) (fun p h _ => h) (fun p o q _ => e p o q), S.dis, S.own⟩
  obtain ⟨o', q'⟩ := S.fr.th a u q
  exact ⟨o', e a o' q'⟩
/-- an object that is nobody's own comes to be known -/
theorem SRel.freeze (S : SRel K F G H σ ρ) {p : Addr} {o : HO} (hg : G p = none) (h : H p = some o) (hf : F.H0 p = none) (hn : ∀ (i : Nat) (l : Kd) (ds : List D), ρ[i]? = some (.ow l ds) → σ[i]? ≠ some (some (.ref p))) : SRel K F (upd G p o) H σ ρ := by
  have e : Ex G (upd G p o) := Ex.new hg
  refine ⟨⟨fun a u q => ?_, fun a u q => ?_, S.fr.kp, S.fr.th⟩, S.len, fun i s w h1 h2 => ?_, S.dis, S.own⟩
  · by_cases hp : a = p
    · subst hp
      rw [upd_same] at q
      cases q
      exact h
    · rw [upd_ne hp] at q
      exact S.ex a u q
  · have hp : a ≠ p := fun z => by rw [z, hf] at q; cases q
    rw [upd_ne hp]
    exact S.fr.old a u q
  · have q := S.sl i s w h1 h2
    cases s with
    | un => cases w <;> trivial
    | fz d =>
      cases w with
      | none => exact q
      | some v => exact Rep.up e q
    | ow l ds =>
      cases w with
      | none => exact q
      | some v =>
        obtain ⟨a, vs, rfl, q1, q2, q3⟩ := q
        have ha : a ≠ p := fun z => hn i l ds h1 (by rw [h2, z])
        exact ⟨a, vs, rfl, by rw [upd_ne ha]; exact q1, q2, RepL.up e q3⟩
theorem SRel.notOwn (S : SRel K F G H σ ρ) {p : Addr} (h : H p = none) : ∀ (i : Nat) (l : Kd) (ds : List D), ρ[i]? = some (.ow l ds) → σ[i]? ≠ some (some (.ref p)) := fun i l ds hi hz => by
  obtain ⟨q, vs, e1, _, e3, _⟩ := S.ow hi
  rw [hz] at e1
  cases e1
  rw [h] at e3
  cases e3
/-- a new object, known -/
theorem SRel.new (S : SRel K F G H σ ρ) {p : Addr} {o : HO} (h : H p = none) : SRel K F (upd G p o) (upd H p o) σ ρ :=
  (S.alloc h).freeze (S.fr.freshG h) upd_same (S.fr.fresh h) (S.notOwn h)
/-- a slot's own list is changed -/
theorem SRel.mut (S : SRel K F G H σ ρ) {i : Nat} {l : Kd} {ds es : List D} {p : Addr} {ws : List V} (hi : ρ[i]? = some (.ow l ds)) (hp : σ[i]? = some (some (.ref p))) (hw : RepL K G ws es) :
    SRel K F G (upd H p (.lst ws)) σ (ρ.set i (.ow l es)) := by
  obtain ⟨p', vs, e1, e2, e3, e4⟩ := S.ow hi
  rw [hp] at e1
  cases e1
  have hl : i < ρ.length := (List.getElem?_eq_some_iff.mp hi).1
  have get : ∀ (j : Nat) (s : Sl), (ρ.set i (.ow l es))[j]? = some s → (j = i ∧ s = .ow l es) ∨ (j ≠ i ∧ ρ[j]? = some s) := fun j s h => by
    by_cases hj : j = i
    · subst hj
      rw [List.getElem?_set_self hl] at h
      cases h
      exact .inl ⟨rfl, rfl⟩
    · rw [List.getElem?_set_ne (Ne.symm hj)] at h
      exact .inr ⟨hj, h⟩
  refine ⟨⟨fun a u q => ?_, S.fr.old, fun a u q np => ?_, fun a u q => ?_⟩, by rw [List.length_set]; exact S.len, fun j s w h1 h2 => ?_, fun a b q m n da db h1 h2 h3 h4 => ?_, fun j m da q h1 h2 => ?_⟩
  · have ha : a ≠ p := fun z => by rw [z, e2] at q; cases q
    rw [upd_ne ha]
    exact S.ex a u q
  · have ha : a ≠ p := fun z => by
      subst z
      rcases (S.own i l ds a hi hp).or with z | z
      · rw [z] at q; cases q
      · exact np z
    rw [upd_ne ha]
    exact S.fr.kp a u q np
  · by_cases ha : a = p
    · subst ha
      exact ⟨_, upd_same⟩
    · rw [upd_ne ha]
      exact S.fr.th a u q
  · rcases get j s h1 with ⟨rfl, rfl⟩ | ⟨hj, h1⟩
    · rw [hp] at h2
      cases h2
      exact ⟨p, ws, rfl, e2, upd_same, hw⟩
    · have q := S.sl j s w h1 h2
      cases s with
      | un => cases w <;> trivial
      | fz d =>
        cases w with
        | none => exact q
        | some v => exact q
      | ow m dj =>
        cases w with
        | none => exact q
        | some v =>
          obtain ⟨a, us, rfl, q1, q2, q3⟩ := q
          have ha : a ≠ p := fun z => by
            subst z
            exact hj (S.dis j i a m l dj ds h1 hi h2 hp)
          exact ⟨a, us, rfl, q1, by rw [upd_ne ha]; exact q2, q3⟩
  · have h1' : ∃ m' da', ρ[a]? = some (.ow m' da') := by
      rcases get a _ h1 with ⟨rfl, _⟩ | ⟨_, h⟩
      · exact ⟨_, _, hi⟩
      · exact ⟨_, _, h⟩
    have h2' : ∃ m' da', ρ[b]? = some (.ow m' da') := by
      rcases get b _ h2 with ⟨rfl, _⟩ | ⟨_, h⟩
      · exact ⟨_, _, hi⟩
      · exact ⟨_, _, h⟩
    obtain ⟨_, _, h1'⟩ := h1'
    obtain ⟨_, _, h2'⟩ := h2'
    exact S.dis a b q _ _ _ _ h1' h2' h3 h4
  · rcases get j _ h1 with ⟨rfl, e⟩ | ⟨_, h⟩
    · cases e
      exact S.own j l ds q hi h2
    · exact S.own j m da q h h2
/-- a slot is stored: a known thing -/
theorem SRel.set (S : SRel K F G H σ ρ) {i : Nat} {v : V} {d : D} (r : Rep K G v d) : SRel K F G H (σ.set i (some v)) (ρ.set i (.fz d)) := by
  have get : ∀ (j : Nat) (s : Sl), (ρ.set i (.fz d))[j]? = some s → (j = i ∧ s = .fz d) ∨ (j ≠ i ∧ ρ[j]? = some s) := fun j s h => by
    by_cases hj : j = i
    · subst hj
      have hl : j < ρ.length := by
        have := (List.getElem?_eq_some_iff.mp h).1
        rwa [List.length_set] at this
      rw [List.getElem?_set_self hl] at h
      cases h
      exact .inl ⟨rfl, rfl⟩
    · rw [List.getElem?_set_ne (Ne.symm hj)] at h
      exact .inr ⟨hj, h⟩
  have getv : ∀ (j : Nat) (w : Option V), j ≠ i → (σ.set i (some v))[j]? = some w → σ[j]? = some w := fun j w hj h => by
    rw [List.getElem?_set_ne (Ne.symm hj)] at h
    exact h
  refine ⟨S.fr, by rw [List.length_set, List.length_set]; exact S.len, fun j s w h1 h2 => ?_, fun a b q m n da db h1 h2 h3 h4 => ?_, fun j m da q h1 h2 => ?_⟩
  · rcases get j s h1 with ⟨rfl, rfl⟩ | ⟨hj, h1⟩
    · have hl : j < σ.length := by
        have := (List.getElem?_eq_some_iff.mp h2).1
        rwa [List.length_set] at this
      rw [List.getElem?_set_self hl] at h2
      cases h2
      exact r
    · exact S.sl j s w h1 (getv j w hj h2)
  · rcases get a _ h1 with ⟨_, e⟩ | ⟨ha, h1⟩
    · cases e
    · rcases get b _ h2 with ⟨_, e⟩ | ⟨hb, h2⟩
      · cases e
      · exact S.dis a b q _ _ _ _ h1 h2 (getv a _ ha h3) (getv b _ hb h4)
  · rcases get j _ h1 with ⟨_, e⟩ | ⟨hj, h1⟩
    · cases e
    · exact S.own j m da q h1 (getv j _ hj h2)
/-- a slot is stored: a list of its own -/
theorem SRel.setO (S : SRel K F G H σ ρ) {i : Nat} {p : Addr} {vs : List V} {ds : List D} (hg : G p = none) (h : H p = some (.lst vs)) (hr : RepL K G vs ds) (hf : F.H0 p = none) (hn : ∀ (i : Nat) (l : Kd) (ds : List D), ρ[i]? = some (.ow l ds) → σ[i]? ≠ some (some (.ref p))) :
    SRel K F G H (σ.set i (some (.ref p))) (ρ.set i (.ow .loc ds)) := by
  have get : ∀ (j : Nat) (s : Sl), (ρ.set i (.ow .loc ds))[j]? = some s → (j = i ∧ s = .ow .loc ds) ∨ (j ≠ i ∧ ρ[j]? = some s) := fun j s h => by
    by_cases hj : j = i
    · subst hj
      have hl : j < ρ.length := by
        have := (List.getElem?_eq_some_iff.mp h).1
        rwa [List.length_set] at this
      rw [List.getElem?_set_self hl] at h
      cases h
      exact .inl ⟨rfl, rfl⟩
    · rw [List.getElem?_set_ne (Ne.symm hj)] at h
      exact .inr ⟨hj, h⟩
  have getv : ∀ (j : Nat) (w : Option V), j ≠ i → (σ.set i (some (V.ref p)))[j]? = some w → σ[j]? = some w := fun j w hj h => by
    rw [List.getElem?_set_ne (Ne.symm hj)] at h
    exact h
  have gets : ∀ (w : Option V), (σ.set i (some (V.ref p)))[i]? = some w → w = some (V.ref p) := fun w h2 => by
    have hl : i < σ.length := by
      have := (List.getElem?_eq_some_iff.mp h2).1
      rwa [List.length_set] at this
    rw [List.getElem?_set_self hl] at h2
    cases h2
    rfl
  refine ⟨S.fr, by rw [List.length_set, List.length_set]; exact S.len, fun j s w h1 h2 => ?_, fun a b q m n da db h1 h2 h3 h4 => ?_, fun j m da q h1 h2 => ?_⟩
  · rcases get j s h1 with ⟨rfl, rfl⟩ | ⟨hj, h1⟩
    · rw [gets w h2]
      exact ⟨p, vs, rfl, hg, h, hr⟩
    · exact S.sl j s w h1 (getv j w hj h2)
  · rcases get a _ h1 with ⟨rfl, e⟩ | ⟨ha, h1⟩
    · rcases get b _ h2 with ⟨rfl, e⟩ | ⟨hb, h2⟩
      · rfl
      · have e1 := gets _ h3
        cases e1
        exact absurd (getv b _ hb h4) (hn b n db h2)
    · rename_i h1'
      rcases get b _ h2 with ⟨rfl, e⟩ | ⟨hb, h2⟩
      · have e1 := gets _ h4
        cases e1
        exact absurd (getv a _ ha h3) (hn a m da (by assumption))
      · exact S.dis a b q _ _ _ _ h1 h2 (getv a _ ha h3) (getv b _ hb h4)
  · rcases get j _ h1 with ⟨rfl, e⟩ | ⟨hj, h1⟩
    · have e1 := gets _ h2
      cases e1
      cases e
      exact hf
    · exact S.own j m da q h1 (getv j _ hj h2)
/-- a slot is forgotten -/
theorem SRel.wipe1 (S : SRel K F G H σ ρ) (i : Nat) (w : Option V) : SRel K F G H (σ.set i w) (ρ.set i .un) := by
  have get : ∀ (j : Nat) (s : Sl), (ρ.set i .un)[j]? = some s → (j = i ∧ s = .un) ∨ (j ≠ i ∧ ρ[j]? = some s) := fun j s h => by
    by_cases hj : j = i
    · subst hj
      have hl : j < ρ.length := by
        have := (List.getElem?_eq_some_iff.mp h).1
        rwa [List.length_set] at this
      rw [List.getElem?_set_self hl] at h
      cases h
      exact .inl ⟨rfl, rfl⟩
    · rw [List.getElem?_set_ne (Ne.symm hj)] at h
      exact .inr ⟨hj, h⟩
  have getv : ∀ (j : Nat) (u : Option V), j ≠ i → (σ.set i w)[j]? = some u → σ[j]? = some u := fun j u hj h => by
    rw [List.getElem?_set_ne (Ne.symm hj)] at h
    exact h
  refine ⟨S.fr, by rw [List.length_set, List.length_set]; exact S.len, fun j s u h1 h2 => ?_, fun a b q m n da db h1 h2 h3 h4 => ?_, fun j m da q h1 h2 => ?_⟩
  · rcases get j s h1 with ⟨rfl, rfl⟩ | ⟨hj, h1⟩
    · cases u <;> trivial
    · exact S.sl j s u h1 (getv j u hj h2)
  · rcases get a _ h1 with ⟨_, e⟩ | ⟨ha, h1⟩
    · cases e
    · rcases get b _ h2 with ⟨_, e⟩ | ⟨hb, h2⟩
      · cases e
      · exact S.dis a b q _ _ _ _ h1 h2 (getv a _ ha h3) (getv b _ hb h4)
  · rcases get j _ h1 with ⟨_, e⟩ | ⟨hj, h1⟩
    · cases e
    · exact S.own j m da q h1 (getv j _ hj h2)
/-- the same state, told from here on -/
def here (G H : Hp) (σ : St) (ρ : Sls) : Fr := ⟨G, H, fun a => ∃ (i : Nat) (l : Kd) (ds : List D), ρ[i]? = some (.ow l ds) ∧ σ[i]? = some (some (.ref a))⟩
def unloc : Sl → Sl
  | .ow _ ds => .ow .any ds
  | s => s
theorem SRel.reframe (S : SRel K F G H σ ρ) : SRel K (here G H σ ρ) G H σ (ρ.map unloc) := by
  have get : ∀ (j : Nat) (s : Sl), (ρ.map unloc)[j]? = some s → ∃ s', ρ[j]? = some s' ∧ s = unloc s' := fun j s h => by
    rw [List.getElem?_map] at h
    cases e : ρ[j]? with
    | none => rw [e] at h; cases h
    | some s' => rw [e] at h; cases h; exact ⟨s', rfl, rfl⟩
  have geto : ∀ (j : Nat) (l : Kd) (ds : List D), (ρ.map unloc)[j]? = some (.ow l ds) → l = .any ∧ ∃ l', ρ[j]? = some (.ow l' ds) := fun j l ds h => by
    obtain ⟨s', h1, h2⟩ := get j _ h
    cases s' with
    | un => cases h2
    | fz d => cases h2
    | ow l' ds' => cases h2; exact ⟨rfl, l', h1⟩
  refine ⟨⟨S.ex, fun a o _ => rfl, fun a o h _ => h, fun a o h => ⟨o, h⟩⟩, by rw [List.length_map]; exact S.len, fun j s w h1 h2 => ?_, fun a b q m n da db h1 h2 h3 h4 => ?_, fun j m da q h1 h2 => ?_⟩
  · obtain ⟨s', h1', rfl⟩ := get j s h1
    have q := S.sl j s' w h1' h2
    cases s' with
    | un => exact q
    | fz d => exact q
    | ow l ds => cases w <;> exact q
  · obtain ⟨_, _, h1⟩ := geto a _ _ h1
    obtain ⟨_, _, h2⟩ := geto b _ _ h2
    exact S.dis a b q _ _ _ _ h1 h2 h3 h4
  · obtain ⟨e, l', h1'⟩ := geto j _ _ h1
    subst e
    exact .inr ⟨j, l', da, h1', h2⟩
theorem FrOk.back (S : SRel K F G H σ ρ) (T : FrOk (here G H σ ρ) G' H') : FrOk F G' H' := by
  refine ⟨T.ex, fun a o h => ?_, fun a o h np => ?_, fun a o h => ?_⟩
  · obtain ⟨o', q⟩ := S.fr.th a o h
    exact (T.old a o' q).trans (S.fr.old a o h)
  · have q := S.fr.kp a o h np
    refine T.kp a o q ?_
    rintro ⟨i, l, ds, h1, h2⟩
    rcases (S.own i l ds a h1 h2).or with z | z
    · rw [h] at z; cases z
    · exact np z
  · obtain ⟨o', q⟩ := S.fr.th a o h
    exact T.th a o' q
theorem FrOk.grow (T : FrOk (here G H σ ρ) G' H') (e : Ex G H) : Ex G G' := fun a o h => by
  rw [T.old a o (e a o h)]
  exact h
end
end DL
namespace DL
open PySem L2
open Evl (Ex)

/-! ### judgements over data -/
section
variable (K : PySem.W.Frag) (F : Fr)
def wE (te : TE) (ρ : Sls) (P : Sls → D → Prop) : Prop := ∀ (σ : St) (G H : Hp), SRel K F G H σ ρ → ∀ Q : VK,
  (∀ (v : V) (d : D) (ρ' : Sls) (G' H' : Hp), P ρ' d → SRel K F G' H' σ ρ' → Rep K G' v d → Ex G G' → Q v H') → te σ H Q
def wT (tt : TT) (ρ : Sls) (P : Sls → Bool → Prop) : Prop := ∀ (σ : St) (G H : Hp), SRel K F G H σ ρ → ∀ Q : Bool → Hp → Prop,
  (∀ (b : Bool) (ρ' : Sls) (G' H' : Hp), P ρ' b → SRel K F G' H' σ ρ' → Ex G G' → Q b H') → tt σ H Q
def wA (ta : TA) (ρ : Sls) (P : Sls → List D → Prop) : Prop := ∀ (σ : St) (G H : Hp), SRel K F G H σ ρ → ∀ Q : List V → Hp → Prop,
  (∀ (vs : List V) (ds : List D) (ρ' : Sls) (G' H' : Hp), P ρ' ds → SRel K F G' H' σ ρ' → RepL K G' vs ds → Ex G G' → Q vs H') → ta σ H Q
/-- a new list of its own -/
structure Own (G H : Hp) (σ : St) (ρ : Sls) (p : Addr) (vs : List V) (ds : List D) : Prop where
  g : G p = none
  h : H p = some (.lst vs)
  r : RepL K G vs ds
  f : F.H0 p = none
  n : ∀ (i : Nat) (l : Kd) (ds : List D), ρ[i]? = some (.ow l ds) → σ[i]? ≠ some (some (.ref p))
def wO (te : TE) (ρ : Sls) (P : Sls → List D → Prop) : Prop := ∀ (σ : St) (G H : Hp), SRel K F G H σ ρ → ∀ Q : VK,
  (∀ (p : Addr) (vs : List V) (ds : List D) (ρ' : Sls) (G' H' : Hp), P ρ' ds → SRel K F G' H' σ ρ' → Own K F G' H' σ ρ' p vs ds → Ex G G' → Q (.ref p) H') → te σ H Q
/-- an operation on values -/
def wR (r : R2) (x y : D) (ρ : Sls) (P : Sls → D → Prop) : Prop := ∀ (σ : St) (G H : Hp) (vx vy : V), SRel K F G H σ ρ → Rep K G vx x → Rep K G vy y → ∀ Q : VK,
  (∀ (v : V) (d : D) (ρ' : Sls) (G' H' : Hp), P ρ' d → SRel K F G' H' σ ρ' → Rep K G' v d → Ex G G' → Q v H') → r vx vy H Q
def wRO (r : R2) (x y : D) (ρ : Sls) (P : Sls → List D → Prop) : Prop := ∀ (σ : St) (G H : Hp) (vx vy : V), SRel K F G H σ ρ → Rep K G vx x → Rep K G vy y → ∀ Q : VK,
  (∀ (p : Addr) (vs : List V) (ds : List D) (ρ' : Sls) (G' H' : Hp), P ρ' ds → SRel K F G' H' σ ρ' → Own K F G' H' σ ρ' p vs ds → Ex G G' → Q (.ref p) H') → r vx vy H Q
def wC (r : List V → Hp → VK → Prop) (xs : List D) (ρ : Sls) (P : Sls → D → Prop) : Prop := ∀ (σ : St) (G H : Hp) (vs : List V), SRel K F G H σ ρ → RepL K G vs xs → ∀ Q : VK,
  (∀ (v : V) (d : D) (ρ' : Sls) (G' H' : Hp), P ρ' d → SRel K F G' H' σ ρ' → Rep K G' v d → Ex G G' → Q v H') → r vs H Q
def wCO (r : List V → Hp → VK → Prop) (xs : List D) (ρ : Sls) (P : Sls → List D → Prop) : Prop := ∀ (σ : St) (G H : Hp) (vs : List V), SRel K F G H σ ρ → RepL K G vs xs → ∀ Q : VK,
  (∀ (p : Addr) (ws : List V) (ds : List D) (ρ' : Sls) (G' H' : Hp), P ρ' ds → SRel K F G' H' σ ρ' → Own K F G' H' σ ρ' p ws ds → Ex G G' → Q (.ref p) H') → r vs H Q
/-- a target -/
def wG (g : TG) (x : D) (ρ : Sls) (P : Sls → Prop) : Prop := ∀ (σ : St) (G H : Hp) (v : V), SRel K F G H σ ρ → Rep K G v x → ∀ Q : St → Hp → Prop,
  (∀ (ρ' : Sls) (σ' : St) (G' H' : Hp), P ρ' → SRel K F G' H' σ' ρ' → Ex G G' → Q σ' H') → g v σ H Q
structure Out where
  nx : Sls → Prop
  rt : Sls → D → Prop
  ro : Sls → List D → Prop := fun _ _ => False
  bk : Sls → Prop := fun _ => False
  ct : Sls → Prop := fun _ => False
structure DOk (G0 : Hp) (D1 : Ends) (O : Out) : Prop where
  nx : ∀ (ρ : Sls) (σ : St) (G H : Hp), O.nx ρ → SRel K F G H σ ρ → Ex G0 G → D1.nx σ H
  rt : ∀ (ρ : Sls) (σ : St) (G H : Hp) (v : V) (d : D), O.rt ρ d → SRel K F G H σ ρ → Ex G0 G → Rep K G v d → D1.rt v H
  ro : ∀ (ρ : Sls) (σ : St) (G H : Hp) (p : Addr) (vs : List V) (ds : List D), O.ro ρ ds → SRel K F G H σ ρ → Ex G0 G → G p = none → H p = some (.lst vs) → RepL K G vs ds → F.H0 p = none → D1.rt (.ref p) H
  bk : ∀ (ρ : Sls) (σ : St) (G H : Hp), O.bk ρ → SRel K F G H σ ρ → Ex G0 G → D1.bk σ H
  ct : ∀ (ρ : Sls) (σ : St) (G H : Hp), O.ct ρ → SRel K F G H σ ρ → Ex G0 G → D1.ct σ H
def wS (ts : TS) (ρ : Sls) (O : Out) : Prop := ∀ (σ : St) (G H : Hp), SRel K F G H σ ρ → ∀ D1 : Ends, DOk K F G D1 O → ts D1 σ H
end

section
variable {K : PySem.W.Frag} {F : Fr} {ρ : Sls} {P : Sls → D → Prop} {te ta tb : TE} {r : R2} {x y : D}

theorem wE_mono {P' : Sls → D → Prop} (h : wE K F te ρ P) (m : ∀ ρ d, P ρ d → P' ρ d) : wE K F te ρ P' := fun σ G H S Q q => h σ G H S Q fun v d ρ' G' H' p => q v d ρ' G' H' (m _ _ p)
theorem wT_mono {tt : TT} {P P' : Sls → Bool → Prop} (h : wT K F tt ρ P) (m : ∀ ρ d, P ρ d → P' ρ d) : wT K F tt ρ P' := fun σ G H S Q q => h σ G H S Q fun v d ρ' G' p => q v d ρ' G' (m _ _ p)
theorem wA_mono {ta : TA} {P P' : Sls → List D → Prop} (h : wA K F ta ρ P) (m : ∀ ρ d, P ρ d → P' ρ d) : wA K F ta ρ P' := fun σ G H S Q q => h σ G H S Q fun v d ρ' G' H' p => q v d ρ' G' H' (m _ _ p)
theorem wO_mono {P P' : Sls → List D → Prop} (h : wO K F te ρ P) (m : ∀ ρ d, P ρ d → P' ρ d) : wO K F te ρ P' := fun σ G H S Q q => h σ G H S Q fun v ws d ρ' G' H' p => q v ws d ρ' G' H' (m _ _ p)
theorem wG_mono {g : TG} {x : D} {P P' : Sls → Prop} (h : wG K F g x ρ P) (m : ∀ ρ, P ρ → P' ρ) : wG K F g x ρ P' := fun σ G H v S r Q q => h σ G H v S r Q fun ρ' σ' G' H' p => q ρ' σ' G' H' (m _ p)
theorem wS_mono {ts : TS} {O O' : Out} (h : wS K F ts ρ O) (nx : ∀ ρ, O.nx ρ → O'.nx ρ) (rt : ∀ ρ d, O.rt ρ d → O'.rt ρ d) (ro : ∀ ρ d, O.ro ρ d → O'.ro ρ d) (bk : ∀ ρ, O.bk ρ → O'.bk ρ) (ct : ∀ ρ, O.ct ρ → O'.ct ρ) : wS K F ts ρ O' := fun σ G H S D1 q =>
  h σ G H S D1 ⟨fun a b c d e => q.nx a b c d (nx _ e), fun a b c d e f g => q.rt a b c d e f (rt _ _ g), fun a b c d e f g i => q.ro a b c d e f g (ro _ _ i), fun a b c d e => q.bk a b c d (bk _ e), fun a b c d e => q.ct a b c d (ct _ e)⟩

/-! names, constants -/
theorem wE_var {i : Nat} {d : D} (h : ρ[i]? = some (.fz d)) (p : P ρ d) : wE K F (tVar i) ρ P := fun σ G H S Q q => by
  obtain ⟨v, e, r⟩ := S.fz h
  exact ⟨v, e, q v d ρ G H p S r (Ex.refl G)⟩
theorem wE_int {i : Int} (p : P ρ (.int i)) : wE K F (tC (.int i)) ρ P := fun σ G H S Q q => q _ _ ρ G H p S (.int i) (Ex.refl G)
theorem wE_bl {i : Bool} (p : P ρ (.bl i)) : wE K F (tC (.bl i)) ρ P := fun σ G H S Q q => q _ _ ρ G H p S (.bl i) (Ex.refl G)
theorem wE_str {i : Str} (p : P ρ (.str i)) : wE K F (tC (.str i)) ρ P := fun σ G H S Q q => q _ _ ρ G H p S (.str i) (Ex.refl G)
theorem wE_non (p : P ρ .non) : wE K F (tC .non) ρ P := fun σ G H S Q q => q _ _ ρ G H p S .non (Ex.refl G)
theorem wE_ty {n : String} (p : P ρ (.ty n)) : wE K F (tC (.ty n)) ρ P := fun σ G H S Q q => q _ _ ρ G H p S (.ty n) (Ex.refl G)
theorem wE_con {v : V} {d : D} (hc : ∀ G, Rep K G v d) (p : P ρ d) : wE K F (tC v) ρ P := fun σ G H S Q q => q _ _ ρ G H p S (hc G) (Ex.refl G)
/-- an own list is taken as it stands from now on -/
theorem SRel.freezeAt {G H : Hp} {σ : St} (S : SRel K F G H σ ρ) {i : Nat} {ds : List D} (h : ρ[i]? = some (.ow .loc ds)) : ∃ p vs G', σ[i]? = some (some (.ref p)) ∧ SRel K F G' H σ (ρ.set i (.fz (.lst ds))) ∧ Ex G G' ∧ G' p = some (.lst vs) ∧ RepL K G' vs ds := by
  obtain ⟨p, vs, e, hg, hh, hr⟩ := S.ow h
  have hf : F.H0 p = none := S.own i .loc ds p h e
  have S1 : SRel K F G H σ (ρ.set i .un) := by
    have q := S.wipe1 i (some (.ref p))
    have e1 : σ.set i (some (.ref p)) = σ := by
      apply List.ext_getElem?
      intro j
      by_cases hj : j = i
      · subst hj
        rw [List.getElem?_set_self (List.getElem?_eq_some_iff.mp e).1, e]
      · rw [List.getElem?_set_ne (Ne.symm hj)]
    rw [e1] at q
    exact q
  have hn : ∀ (j : Nat) (l : Kd) (es : List D), (ρ.set i .un)[j]? = some (.ow l es) → σ[j]? ≠ some (some (.ref p)) := fun j l es h1 h2 => by
    by_cases hj : j = i
    · subst hj
      rw [List.getElem?_set_self (List.getElem?_eq_some_iff.mp h).1] at h1
      cases h1
    · rw [List.getElem?_set_ne (Ne.symm hj)] at h1
      exact hj (S.dis j i p l .loc es ds h1 h h2 e)
  have S2 := S1.freeze (o := .lst vs) hg hh hf hn
  have ex : Ex G (upd G p (.lst vs)) := Ex.new hg
  have S3 := S2.set (i := i) (v := .ref p) (d := .lst ds) (.lst upd_same (RepL.up ex hr))
  have e1 : σ.set i (some (.ref p)) = σ := by
    apply List.ext_getElem?
    intro j
    by_cases hj : j = i
    · subst hj
      rw [List.getElem?_set_self (List.getElem?_eq_some_iff.mp e).1, e]
    · rw [List.getElem?_set_ne (Ne.symm hj)]
  rw [e1, List.set_set] at S3
  exact ⟨p, vs, _, e, S3, ex, upd_same, RepL.up ex hr⟩
theorem wE_varF {i : Nat} {ds : List D} (h : ρ[i]? = some (.ow .loc ds)) (p : P (ρ.set i (.fz (.lst ds))) (.lst ds)) : wE K F (tVar i) ρ P := fun σ G H S Q q => by
  obtain ⟨a, vs, G', e, S', ex, hg, hr⟩ := S.freezeAt h
  exact ⟨.ref a, e, q _ _ _ G' H p S' (.lst hg hr) ex⟩
/-- an own list made is taken as a thing -/
theorem Own.freeze {G H : Hp} {σ : St} {p : Addr} {vs : List V} {ds : List D} (S : SRel K F G H σ ρ) (o : Own K F G H σ ρ p vs ds) : ∃ G', SRel K F G' H σ ρ ∧ Ex G G' ∧ Rep K G' (.ref p) (.lst ds) :=
  ⟨upd G p (.lst vs), S.freeze o.g o.h o.f o.n, Ex.new o.g, .lst upd_same (RepL.up (Ex.new o.g) o.r)⟩
theorem wE_ofO (h : wO K F te ρ fun ρ' ds => P ρ' (.lst ds)) : wE K F te ρ P := fun σ G H S Q q => h σ G H S Q fun p vs ds ρ' G' H' pp S' o ex => by
  obtain ⟨G2, S2, e2, r2⟩ := o.freeze S'
  exact q _ _ ρ' G2 H' pp S2 r2 (ex.trans e2)
theorem wRO_E (h : wRO K F r x y ρ fun ρ' ds => P ρ' (.lst ds)) : wR K F r x y ρ P := fun σ G H vx vy S rx ry Q q => h σ G H vx vy S rx ry Q fun p vs ds ρ' G' H' pp S' o ex => by
  obtain ⟨G2, S2, e2, r2⟩ := o.freeze S'
  exact q _ _ ρ' G2 H' pp S2 r2 (ex.trans e2)

/-! operators -/
theorem wE_op (h : wE K F ta ρ fun ρ1 x => wE K F tb ρ1 fun ρ2 y => wR K F r x y ρ2 P) : wE K F (tOp r ta tb) ρ P := fun σ G H S Q q =>
  h σ G H S _ fun vx x ρ1 G1 H1 h1 S1 r1 e1 => h1 σ G1 H1 S1 _ fun vy y ρ2 G2 H2 h2 S2 r2 e2 =>
    h2 σ G2 H2 vx vy S2 (r1.up e2) r2 Q fun v d ρ' G' H' p S' r' e' => q v d ρ' G' H' p S' r' ((e1.trans e2).trans e')
theorem wO_op {P : Sls → List D → Prop} (h : wE K F ta ρ fun ρ1 x => wE K F tb ρ1 fun ρ2 y => wRO K F r x y ρ2 P) : wO K F (tOp r ta tb) ρ P := fun σ G H S Q q =>
  h σ G H S _ fun vx x ρ1 G1 H1 h1 S1 r1 e1 => h1 σ G1 H1 S1 _ fun vy y ρ2 G2 H2 h2 S2 r2 e2 =>
    h2 σ G2 H2 vx vy S2 (r1.up e2) r2 Q fun p vs d ρ' G' H' pp S' r' e' => q p vs d ρ' G' H' pp S' r' ((e1.trans e2).trans e')
theorem wR_I0 {g : Int → Int → Int} {i j : Int} (p : P ρ (.int (g i j))) : wR K F (rI0 fun i j => .int (g i j)) (.int i) (.int j) ρ P := fun σ G H vx vy S rx ry Q q => by
  cases rx
  cases ry
  exact ⟨i, j, rfl, rfl, q _ _ ρ G H p S (.int _) (Ex.refl G)⟩
theorem wR_B0 {g : Int → Int → Bool} {i j : Int} (p : P ρ (.bl (g i j))) : wR K F (rI0 fun i j => .bl (g i j)) (.int i) (.int j) ρ P := fun σ G H vx vy S rx ry Q q => by
  cases rx
  cases ry
  exact ⟨i, j, rfl, rfl, q _ _ ρ G H p S (.bl _) (Ex.refl G)⟩
theorem wR_I {C : Int → Int → Prop} {g : Int → Int → Int} {i j : Int} (hc : C i j) (p : P ρ (.int (g i j))) : wR K F (rI C fun i j => .int (g i j)) (.int i) (.int j) ρ P := fun σ G H vx vy S rx ry Q q => by
  cases rx
  cases ry
  exact ⟨i, j, rfl, rfl, hc, q _ _ ρ G H p S (.int _) (Ex.refl G)⟩
/-! data that == goes through -/
mutual
def toPy : D → Option PyData
  | .non => some .none
  | .bl b => some (.bool b)
  | .int i => some (.int i)
  | .str x => some (.str x)
  | .lst xs => (toPyL xs).map .list
  | .tup xs => (toPyL xs).map .tuple
  | .scr _ => none
  | .ty _ => none
  | .adr _ => none
  | .dct _ => none
  | .obj _ _ => none
def toPyL : List D → Option (List PyData)
  | [] => some []
  | d :: ds => match toPy d, toPyL ds with
    | some p, some ps => some (p :: ps)
    | _, _ => none
end
mutual
theorem Rep.dp {G H : Hp} (ex : Ex G H) : ∀ (d : D) (v : V) (p : PyData), Rep K G v d → toPy d = some p → Dp K H v p
  | .non, _, _, h, e => by cases h; simp [toPy] at e; subst e; exact .non
  | .bl b, _, _, h, e => by cases h; simp [toPy] at e; subst e; exact .bl b
  | .int b, _, _, h, e => by cases h; simp [toPy] at e; subst e; exact .int b
  | .str b, _, _, h, e => by cases h; simp [toPy] at e; subst e; exact .str b
  | .lst ds, _, _, h, e => by
    cases h with
    | lst h1 h2 =>
      simp only [toPy, Option.map_eq_some_iff] at e
      obtain ⟨ps, e1, rfl⟩ := e
      exact .lst (SqL.of (ex _ _ h1)) (RepL.dp ex ds _ ps h2 e1)
  | .tup ds, _, _, h, e => by
    cases h with
    | tup h1 h2 =>
      simp only [toPy, Option.map_eq_some_iff] at e
      obtain ⟨ps, e1, rfl⟩ := e
      exact .tup (Evl.ex_t ex h1) (RepL.dp ex ds _ ps h2 e1)
  | .scr _, _, _, _, e => by simp [toPy] at e
  | .ty _, _, _, _, e => by simp [toPy] at e
  | .adr _, _, _, _, e => by simp [toPy] at e
  | .dct _, _, _, _, e => by simp [toPy] at e
  | .obj _ _, _, _, _, e => by simp [toPy] at e
theorem RepL.dp {G H : Hp} (ex : Ex G H) : ∀ (ds : List D) (vs : List V) (ps : List PyData), RepL K G vs ds → toPyL ds = some ps → DpAll K H vs ps
  | [], _, _, h, e => by cases h; simp [toPyL] at e; subst e; exact .nil
  | d :: ds, _, _, h, e => by
    cases h with
    | cons h1 h2 =>
      rw [toPyL] at e
      cases e1 : toPy d with
      | none => rw [e1] at e; cases e
      | some p =>
        cases e2 : toPyL ds with
        | none => rw [e1, e2] at e; cases e
        | some ps =>
          rw [e1, e2] at e
          cases e
          exact .cons (Rep.dp ex d _ p h1 e1) (RepL.dp ex ds _ ps h2 e2)
end
theorem wR_eqD {a b : PyData} (h1 : toPy x = some a) (h2 : toPy y = some b) (s1 : SeqAt.shaped a = true) (s2 : SeqAt.shaped b = true) (p : P ρ (.bl (PyData.eqv a b))) : wR K F (rEqD K) x y ρ P := fun σ G H vx vy S rx ry Q q =>
  ⟨a, b, Rep.dp S.ex x vx a rx h1, Rep.dp S.ex y vy b ry h2, s1, s2, q _ _ ρ G H p S (.bl _) (Ex.refl G)⟩
theorem wR_neD {a b : PyData} (h1 : toPy x = some a) (h2 : toPy y = some b) (s1 : SeqAt.shaped a = true) (s2 : SeqAt.shaped b = true) (p : P ρ (.bl (!PyData.eqv a b))) : wR K F (rNeD K) x y ρ P := fun σ G H vx vy S rx ry Q q =>
  ⟨a, b, Rep.dp S.ex x vx a rx h1, Rep.dp S.ex y vy b ry h2, s1, s2, q _ _ ρ G H p S (.bl _) (Ex.refl G)⟩
/-- is None -/
def isN : D → Bool
  | .non => true
  | _ => false
theorem Rep.isN {G : Hp} {v : V} {d : D} (h : Rep K G v d) : decide (v = .non) = DL.isN d := by
  cases h <;> first | rfl | (exact decide_eq_false (fun z => nomatch z))
theorem wR_isN (p : P ρ (.bl (isN x))) : wR K F (fun x y H Q => y = .non ∧ Q (.bl (decide (x = .non))) H) x .non ρ P := fun σ G H vx vy S rx ry Q q => by
  cases ry
  refine ⟨rfl, ?_⟩
  rw [rx.isN]
  exact q _ _ ρ G H p S (.bl _) (Ex.refl G)
theorem wR_notN (p : P ρ (.bl (!isN x))) : wR K F (fun x y H Q => y = .non ∧ Q (.bl (!decide (x = .non))) H) x .non ρ P := fun σ G H vx vy S rx ry Q q => by
  cases ry
  refine ⟨rfl, ?_⟩
  rw [rx.isN]
  exact q _ _ ρ G H p S (.bl _) (Ex.refl G)
/-- items -/
theorem atI_rep {G : Hp} {vs : List V} {ds : List D} {i : Int} {d : D} (h : RepL K G vs ds) (e : atI ds i = some d) : ∃ v, atI vs i = some v ∧ Rep K G v d := by
  unfold atI at e ⊢
  rw [h.length]
  cases q : ixN ds.length i with
  | none => rw [q] at e; cases e
  | some j =>
    rw [q] at e
    obtain ⟨v, h1, h2⟩ := h.get (i := j) (by simpa using e)
    exact ⟨v, by simpa using h1, h2⟩
theorem wR_ixL {ds : List D} {i : Int} {d : D} (h : atI ds i = some d) (p : P ρ d) : wR K F (rIxL K) (.lst ds) (.int i) ρ P := fun σ G H vx vy S rx ry Q q => by
  cases ry
  cases rx with
  | lst h1 h2 =>
    obtain ⟨v, e, r⟩ := atI_rep h2 h
    exact ⟨_, _, i, v, rfl, rfl, SqL.of (S.ex _ _ h1), e, q _ _ ρ G H p S r (Ex.refl G)⟩
theorem wR_ixT {ds : List D} {i : Int} {d : D} (h : atI ds i = some d) (p : P ρ d) : wR K F (rIxT K) (.tup ds) (.int i) ρ P := fun σ G H vx vy S rx ry Q q => by
  cases ry
  cases rx with
  | tup h1 h2 =>
    obtain ⟨v, e, r⟩ := atI_rep h2 h
    exact ⟨_, _, i, v, rfl, rfl, Evl.ex_t S.ex h1, e, q _ _ ρ G H p S r (Ex.refl G)⟩
theorem atI_of {α : Type} {ds : List α} {i : Int} (h0 : 0 ≤ i) (h1 : i < (ds.length : Int)) : ∃ d, d ∈ ds ∧ atI ds i = some d := by
  have hl : i.toNat < ds.length := by omega
  refine ⟨ds[i.toNat], List.getElem_mem hl, ?_⟩
  have e : i = (i.toNat : Int) := by omega
  conv => lhs; rw [e]
  exact atI_nat (List.getElem?_eq_getElem hl)
/-- an item of a written list at a drawn place -/
theorem wR_ixLAll {ds : List D} {i : Int} (h0 : 0 ≤ i) (h1 : i < (ds.length : Int)) (p : ∀ d, d ∈ ds → P ρ d) : wR K F (rIxL K) (.lst ds) (.int i) ρ P := by
  obtain ⟨d, hm, e⟩ := atI_of h0 h1
  exact wR_ixL e (p d hm)
theorem wR_ixScr {ns : List Int} {i : Int} {n : Int} (h : atI ns i = some n) (p : P ρ (.int n)) : wR K F (rIxL K) (.scr ns) (.int i) ρ P := fun σ G H vx vy S rx ry Q q => by
  cases ry
  cases rx with
  | scr h1 =>
    refine ⟨_, _, i, .int n, rfl, rfl, Evl.ex_l S.ex h1, ?_, q _ _ ρ G H p S (.int n) (Ex.refl G)⟩
    unfold atI at h ⊢
    rw [List.length_map]
    cases e : ixN ns.length i with
    | none => rw [e] at h; cases h
    | some j =>
      rw [e] at h
      simp only [Option.bind_some] at h ⊢
      rw [List.getElem?_map, h]
      rfl
/-- an item of an own list -/
theorem wE_ixO {i : Nat} {l : Kd} {ds : List D} (h : ρ[i]? = some (.ow l ds)) (hb : wE K F tb ρ fun ρ2 y => ∃ (k : Int) (ds2 : List D) (d : D), y = .int k ∧ ρ2[i]? = some (.ow l ds2) ∧ atI ds2 k = some d ∧ P ρ2 d) : wE K F (tOp (rIxL K) (tVar i) tb) ρ P := fun σ G H S Q q => by
  obtain ⟨p, vs, e, hg, hh, hr⟩ := S.ow h
  refine ⟨.ref p, e, hb σ G H S _ fun vy y ρ2 G2 H2 hp S2 r2 e2 => ?_⟩
  obtain ⟨k, ds2, d, rfl, hi2, ha, pp⟩ := hp
  obtain ⟨p2, vs2, e', hg2, hh2, hr2⟩ := S2.ow hi2
  rw [e] at e'
  cases e'
  cases r2
  obtain ⟨v, ev, rv⟩ := atI_rep hr2 ha
  exact ⟨p, vs2, k, v, rfl, rfl, SqL.of hh2, ev, q _ _ ρ2 G2 H2 pp S2 rv e2⟩

/-- a truth -/
def onB (P : Bool → Prop) : D → Prop
  | .bl b => P b
  | _ => False
theorem onB_bl {P : Bool → Prop} {b : Bool} (p : P b) : onB P (.bl b) := p
theorem onB_ex {P : Bool → Prop} : ∀ {d : D}, onB P d → ∃ b, d = .bl b ∧ P b
  | .bl b, h => ⟨b, rfl, h⟩
  | .non, h => h.elim
  | .int _, h => h.elim
  | .str _, h => h.elim
  | .ty _, h => h.elim
  | .adr _, h => h.elim
  | .lst _, h => h.elim
  | .tup _, h => h.elim
  | .scr _, h => h.elim
  | .dct _, h => h.elim
  | .obj _ _, h => h.elim
/-- two ways, told apart by a truth -/
structure Ways (b : Bool) (A B : Prop) : Prop where
  yes : b = true → A
  no : b = false → B
theorem ways {b : Bool} {A B : Prop} (h1 : b = true → A) (h2 : b = false → B) : Ways b A B := ⟨h1, h2⟩
theorem ways_t {A B : Prop} (h1 : A) : Ways true A B := ⟨fun _ => h1, fun z => (nomatch z)⟩
theorem ways_f {A B : Prop} (h1 : B) : Ways false A B := ⟨fun z => (nomatch z), fun _ => h1⟩
theorem ways_not {b : Bool} {A B : Prop} (h : Ways b B A) : Ways (!b) A B := by
  cases b with
  | true => exact ways_f (h.yes rfl)
  | false => exact ways_t (h.no rfl)
theorem ways_dec {p : Prop} {h : Decidable p} {A B : Prop} (h1 : p → A) (h2 : ¬ p → B) : Ways (@decide p h) A B := ⟨fun z => h1 (of_decide_eq_true z), fun z => h2 (of_decide_eq_false z)⟩
theorem ways_ev_t {b : Bool} {A B : Prop} (e : b = true) (h : A) : Ways b A B := by rw [e]; exact ways_t h
theorem ways_ev_f {b : Bool} {A B : Prop} (e : b = false) (h : B) : Ways b A B := by rw [e]; exact ways_f h
theorem ways_same {b : Bool} {A : Prop} (h : A) : Ways b A A := ⟨fun _ => h, fun _ => h⟩

/-! and, or, not, if as values -/
theorem wE_andV (h : wE K F ta ρ fun ρ1 => onB fun b => Ways b (wE K F tb ρ1 P) (P ρ1 (.bl false))) : wE K F (tAndV ta tb) ρ P := fun σ G H S Q q =>
  h σ G H S _ fun vx x ρ1 G1 H1 h1 S1 r1 e1 => by
    obtain ⟨b, rfl, ⟨ht, hf⟩⟩ := onB_ex h1
    cases r1
    refine ⟨b, rfl, ?_⟩
    cases b with
    | true => exact ht rfl σ G1 H1 S1 Q fun v d ρ' G' H' p S' r' e' => q v d ρ' G' H' p S' r' (e1.trans e')
    | false => exact q _ _ ρ1 G1 H1 (hf rfl) S1 (.bl false) e1
theorem wE_orV (h : wE K F ta ρ fun ρ1 => onB fun b => Ways b (P ρ1 (.bl true)) (wE K F tb ρ1 P)) : wE K F (tOrV ta tb) ρ P := fun σ G H S Q q =>
  h σ G H S _ fun vx x ρ1 G1 H1 h1 S1 r1 e1 => by
    obtain ⟨b, rfl, ⟨hf, ht⟩⟩ := onB_ex h1
    cases r1
    refine ⟨b, rfl, ?_⟩
    cases b with
    | false => exact ht rfl σ G1 H1 S1 Q fun v d ρ' G' H' p S' r' e' => q v d ρ' G' H' p S' r' (e1.trans e')
    | true => exact q _ _ ρ1 G1 H1 (hf rfl) S1 (.bl true) e1
theorem wE_notV (h : wE K F ta ρ fun ρ1 => onB fun b => P ρ1 (.bl (!b))) : wE K F (tNotV ta) ρ P := fun σ G H S Q q =>
  h σ G H S _ fun vx x ρ1 G1 H1 h1 S1 r1 e1 => by
    obtain ⟨b, rfl, hp⟩ := onB_ex h1
    cases r1
    exact ⟨b, rfl, q _ _ ρ1 G1 H1 hp S1 (.bl _) e1⟩
theorem wE_if {t : TT} (h : wT K F t ρ fun ρ1 b => Ways b (wE K F ta ρ1 P) (wE K F tb ρ1 P)) : wE K F (tIf t ta tb) ρ P := fun σ G H S Q q =>
  h σ G H S _ fun b ρ1 G1 H1 h1 S1 e1 => by
    cases b with
    | true => exact h1.1 rfl σ G1 H1 S1 Q fun v d ρ' G' H' p S' r' e' => q v d ρ' G' H' p S' r' (e1.trans e')
    | false => exact h1.2 rfl σ G1 H1 S1 Q fun v d ρ' G' H' p S' r' e' => q v d ρ' G' H' p S' r' (e1.trans e')
theorem wE_chain {r' : R2} {tc : TE} (h : wE K F ta ρ fun ρ1 x => wE K F tb ρ1 fun ρ2 y => wR K F r x y ρ2 fun ρ3 => onB fun b => Ways b (wE K F tc ρ3 fun ρ4 w => wR K F r' y w ρ4 P) (P ρ3 (.bl false))) : wE K F (tChain r r' ta tb tc) ρ P := fun σ G H S Q q =>
  h σ G H S _ fun vx x ρ1 G1 H1 h1 S1 r1 e1 => h1 σ G1 H1 S1 _ fun vy y ρ2 G2 H2 h2 S2 r2 e2 =>
    h2 σ G2 H2 vx vy S2 (r1.up e2) r2 _ fun v d ρ3 G3 H3 hp S3 r3 e3 => by
      obtain ⟨b, rfl, ⟨ht, hf⟩⟩ := onB_ex hp
      cases r3
      refine ⟨b, rfl, ?_⟩
      cases b with
      | true => exact ht rfl σ G3 H3 S3 _ fun vw w ρ4 G4 H4 h4 S4 r4 e4 => h4 σ G4 H4 vy vw S4 ((r2.up e3).up e4) r4 Q fun v d ρ' G' H' p S' r' e' => q v d ρ' G' H' p S' r' (((e1.trans e2).trans e3).trans (e4.trans e'))
      | false => exact q _ _ ρ3 G3 H3 (hf rfl) S3 (.bl false) ((e1.trans e2).trans e3)

/-! tests -/
section
variable {t u : TT} {PB : Sls → Bool → Prop}
theorem wT_test (h : wE K F te ρ fun ρ1 => onB (PB ρ1)) : wT K F (tTest te) ρ PB := fun σ G H S Q q =>
  h σ G H S _ fun vx x ρ1 G1 H1 h1 S1 r1 e1 => by
    obtain ⟨b, rfl, hp⟩ := onB_ex h1
    cases r1
    exact ⟨b, rfl, q _ ρ1 G1 H1 hp S1 e1⟩
theorem wT_B (h : wE K F te ρ fun ρ1 => onB (PB ρ1)) : wT K F (tB te) ρ PB := wT_test h
theorem wT_not (h : wT K F t ρ fun ρ1 b => PB ρ1 (!b)) : wT K F (tNot t) ρ PB := fun σ G H S Q q => h σ G H S _ fun b ρ1 G1 H1 h1 S1 e1 => q _ ρ1 G1 H1 h1 S1 e1
theorem wT_and (h : wT K F t ρ fun ρ1 b => Ways b (wT K F u ρ1 PB) (PB ρ1 false)) : wT K F (tAnd t u) ρ PB := fun σ G H S Q q =>
  h σ G H S _ fun b ρ1 G1 H1 h1 S1 e1 => by
    cases b with
    | true => exact h1.1 rfl σ G1 H1 S1 Q fun b ρ' G' H' p S' e' => q b ρ' G' H' p S' (e1.trans e')
    | false => exact q _ ρ1 G1 H1 (h1.2 rfl) S1 e1
theorem wT_or (h : wT K F t ρ fun ρ1 b => Ways b (PB ρ1 true) (wT K F u ρ1 PB)) : wT K F (tOr t u) ρ PB := fun σ G H S Q q =>
  h σ G H S _ fun b ρ1 G1 H1 h1 S1 e1 => by
    cases b with
    | false => exact h1.2 rfl σ G1 H1 S1 Q fun b ρ' G' H' p S' e' => q b ρ' G' H' p S' (e1.trans e')
    | true => exact q _ ρ1 G1 H1 (h1.1 rfl) S1 e1
end

/-! arguments, displays -/
theorem wA_nil {PA : Sls → List D → Prop} (p : PA ρ []) : wA K F tNil ρ PA := fun σ G H S Q q => q _ _ ρ G H p S .nil (Ex.refl G)
theorem wA_cons {PA : Sls → List D → Prop} {tr : TA} (h : wE K F ta ρ fun ρ1 x => wA K F tr ρ1 fun ρ2 xs => PA ρ2 (x :: xs)) : wA K F (tCons ta tr) ρ PA := fun σ G H S Q q =>
  h σ G H S _ fun vx x ρ1 G1 H1 h1 S1 r1 e1 => h1 σ G1 H1 S1 _ fun vs xs ρ2 G2 H2 h2 S2 r2 e2 => q _ _ ρ2 G2 H2 h2 S2 (.cons (r1.up e2) r2) (e1.trans e2)
theorem wE_tup {t : TA} (h : wA K F t ρ fun ρ1 ds => ds.length ≤ 100000 ∧ P ρ1 (.tup ds)) : wE K F (tTup t) ρ P := fun σ G H S Q q =>
  h σ G H S _ fun vs ds ρ1 G1 H1 h1 S1 r1 e1 => ⟨Evl.sz_of (by rw [r1.length]; exact h1.1), fun p hp =>
    q _ _ ρ1 (upd G1 p (.tup vs)) _ h1.2 (S1.new hp) (.tup (SqT.of upd_same) (r1.up (Ex.new (S1.fr.freshG hp)))) (e1.trans (Ex.new (S1.fr.freshG hp)))⟩
theorem Own.alloc {G H : Hp} {σ : St} {p : Addr} {vs : List V} {ds : List D} (S : SRel K F G H σ ρ) (hp : H p = none) (r : RepL K G vs ds) : Own K F G (upd H p (.lst vs)) σ ρ p vs ds :=
  ⟨S.fr.freshG hp, upd_same, r, S.fr.fresh hp, S.notOwn hp⟩
theorem wO_lst {t : TA} {PO : Sls → List D → Prop} (h : wA K F t ρ fun ρ1 ds => ds.length ≤ 100000 ∧ PO ρ1 ds) : wO K F (tLst t) ρ PO := fun σ G H S Q q =>
  h σ G H S _ fun vs ds ρ1 G1 H1 h1 S1 r1 e1 => ⟨Evl.sz_of (by rw [r1.length]; exact h1.1), fun p hp => q _ vs ds ρ1 G1 _ h1.2 (S1.alloc hp) (.alloc S1 hp r1) e1⟩

/-! list operators -/
theorem wRO_cat {xs ys : List D} {PO : Sls → List D → Prop} (hl : xs.length + ys.length ≤ 100000) (p : PO ρ (xs ++ ys)) : wRO K F rCat (.lst xs) (.lst ys) ρ PO := fun σ G H vx vy S rx ry Q q => by
  cases rx with
  | lst h1 h2 =>
    cases ry with
    | lst h3 h4 => exact ⟨_, _, _, _, rfl, rfl, S.ex _ _ h1, S.ex _ _ h3, Evl.sz_of (by rw [h2.length, h4.length]; exact hl), fun a ha => q _ _ _ ρ G _ p (S.alloc ha) (.alloc S ha (h2.append h4)) (Ex.refl G)⟩
/-- in, among flat things -/
def flatD : D → Bool
  | .non => true
  | .bl _ => true
  | .int _ => true
  | .str _ => true
  | _ => false
def valD : D → V
  | .non => .non
  | .bl b => .bl b
  | .int i => .int i
  | .str x => .str x
  | _ => .non
theorem Rep.flat {G : Hp} {v : V} {d : D} (h : Rep K G v d) (f : flatD d = true) : v = valD d ∧ flatV v = true := by
  cases h <;> first | exact ⟨rfl, rfl⟩ | cases f
theorem RepL.flat {G : Hp} : ∀ {vs : List V} {ds : List D}, RepL K G vs ds → ds.all flatD = true → vs = ds.map valD ∧ vs.all flatV = true
  | _, _, .nil, _ => ⟨rfl, rfl⟩
  | _, _, .cons r t, f => by
    rw [List.all_cons, Bool.and_eq_true] at f
    obtain ⟨e1, f1⟩ := r.flat f.1
    obtain ⟨e2, f2⟩ := RepL.flat t f.2
    refine ⟨by rw [e1, e2]; rfl, by rw [List.all_cons, f1, f2]; rfl⟩
def inD (x : D) (ds : List D) : Bool := inV (valD x) (ds.map valD)
theorem wR_inL {ds : List D} (hx : flatD x = true) (hd : ds.all flatD = true) (p : P ρ (.bl (inD x ds))) : wR K F (rIn K false) x (.lst ds) ρ P := fun σ G H vx vy S rx ry Q q => by
  obtain ⟨e1, f1⟩ := rx.flat hx
  cases ry with
  | lst h1 h2 =>
    obtain ⟨e2, f2⟩ := h2.flat hd
    refine ⟨_, _, rfl, .inl (SqL.of (S.ex _ _ h1)), f1, f2, ?_⟩
    subst e1 e2
    exact q _ _ ρ G H p S (.bl _) (Ex.refl G)
theorem wR_niL {ds : List D} (hx : flatD x = true) (hd : ds.all flatD = true) (p : P ρ (.bl (!inD x ds))) : wR K F (rIn K true) x (.lst ds) ρ P := fun σ G H vx vy S rx ry Q q => by
  obtain ⟨e1, f1⟩ := rx.flat hx
  cases ry with
  | lst h1 h2 =>
    obtain ⟨e2, f2⟩ := h2.flat hd
    refine ⟨_, _, rfl, .inl (SqL.of (S.ex _ _ h1)), f1, f2, ?_⟩
    subst e1 e2
    exact q _ _ ρ G H p S (.bl _) (Ex.refl G)
theorem wR_inT {ds : List D} (hx : flatD x = true) (hd : ds.all flatD = true) (p : P ρ (.bl (inD x ds))) : wR K F (rIn K false) x (.tup ds) ρ P := fun σ G H vx vy S rx ry Q q => by
  obtain ⟨e1, f1⟩ := rx.flat hx
  cases ry with
  | tup h1 h2 =>
    obtain ⟨e2, f2⟩ := h2.flat hd
    refine ⟨_, _, rfl, .inr (Evl.ex_t S.ex h1), f1, f2, ?_⟩
    subst e1 e2
    exact q _ _ ρ G H p S (.bl _) (Ex.refl G)
theorem wR_niT {ds : List D} (hx : flatD x = true) (hd : ds.all flatD = true) (p : P ρ (.bl (!inD x ds))) : wR K F (rIn K true) x (.tup ds) ρ P := fun σ G H vx vy S rx ry Q q => by
  obtain ⟨e1, f1⟩ := rx.flat hx
  cases ry with
  | tup h1 h2 =>
    obtain ⟨e2, f2⟩ := h2.flat hd
    refine ⟨_, _, rfl, .inr (Evl.ex_t S.ex h1), f1, f2, ?_⟩
    subst e1 e2
    exact q _ _ ρ G H p S (.bl _) (Ex.refl G)

/-! built-ins -/
theorem wE_cb {r : List V → Hp → VK → Prop} {t : TA} (h : wA K F t ρ fun ρ1 ds => wC K F r ds ρ1 P) : wE K F (tCB r t) ρ P := fun σ G H S Q q =>
  h σ G H S _ fun vs ds ρ1 G1 H1 h1 S1 r1 e1 => h1 σ G1 H1 vs S1 r1 Q fun v d ρ' G' H' p S' r' e' => q v d ρ' G' H' p S' r' (e1.trans e')
theorem wO_cb {r : List V → Hp → VK → Prop} {t : TA} {PO : Sls → List D → Prop} (h : wA K F t ρ fun ρ1 ds => wCO K F r ds ρ1 PO) : wO K F (tCB r t) ρ PO := fun σ G H S Q q =>
  h σ G H S _ fun vs ds ρ1 G1 H1 h1 S1 r1 e1 => h1 σ G1 H1 vs S1 r1 Q fun p ws d ρ' G' H' pp S' r' e' => q p ws d ρ' G' H' pp S' r' (e1.trans e')
/-- len -/
def lenD : D → Option Nat
  | .lst xs => some xs.length
  | .tup xs => some xs.length
  | .scr ns => some ns.length
  | .str x => if x.length ≤ 100000 then some x.length else none
  | _ => none
theorem wC_len {n : Nat} (h : lenD x = some n) (p : P ρ (.int n)) : wC K F (fun xs H Q => ∃ x n, xs = [x] ∧ LenV K x H n ∧ Q (.int n) H) [x] ρ P := fun σ G H vs S rs Q q => by
  cases rs with
  | cons rx rr =>
    cases rr
    refine ⟨_, n, rfl, ?_, q _ _ ρ G H p S (.int n) (Ex.refl G)⟩
    cases rx with
    | lst h1 h2 => cases h; exact .inl ⟨_, SqL.of (S.ex _ _ h1), h2.length.symm⟩
    | tup h1 h2 => cases h; exact .inr ⟨_, Evl.ex_t S.ex h1, h2.length.symm⟩
    | scr h1 => cases h; exact .inl ⟨_, Evl.ex_l S.ex h1, by rw [List.length_map]⟩
    | str s =>
      have h' : (if s.length ≤ 100000 then some s.length else none) = some n := h
      by_cases hs : s.length ≤ 100000
      · rw [if_pos hs] at h'
        cases h'
        exact ⟨Evl.sz_of hs, rfl⟩
      · rw [if_neg hs] at h'
        cases h'
    | _ => cases h
theorem wC_max2 {i j : Int} (p : P ρ (.int (if j > i then j else i))) : wC K F (fun xs H Q => ∃ i j, xs = [.int i, .int j] ∧ Q (.int (if j > i then j else i)) H) [.int i, .int j] ρ P := fun σ G H vs S rs Q q => by
  cases rs with
  | cons r1 rr =>
    cases rr with
    | cons r2 rr =>
      cases rr; cases r1; cases r2
      exact ⟨i, j, rfl, q _ _ ρ G H p S (.int _) (Ex.refl G)⟩
theorem wC_min2 {i j : Int} (p : P ρ (.int (if j < i then j else i))) : wC K F (fun xs H Q => ∃ i j, xs = [.int i, .int j] ∧ Q (.int (if j < i then j else i)) H) [.int i, .int j] ρ P := fun σ G H vs S rs Q q => by
  cases rs with
  | cons r1 rr =>
    cases rr with
    | cons r2 rr =>
      cases rr; cases r1; cases r2
      exact ⟨i, j, rfl, q _ _ ρ G H p S (.int _) (Ex.refl G)⟩
theorem wC_abs {i : Int} (p : P ρ (.int (if i < 0 then -i else i))) : wC K F (fun xs H Q => ∃ i, xs = [.int i] ∧ Q (.int (if i < 0 then -i else i)) H) [.int i] ρ P := fun σ G H vs S rs Q q => by
  cases rs with
  | cons r1 rr =>
    cases rr; cases r1
    exact ⟨i, rfl, q _ _ ρ G H p S (.int _) (Ex.refl G)⟩
theorem wC_intB {b : Bool} (p : P ρ (.int (if b then 1 else 0))) : wC K F (fun xs H Q => (∃ i, xs = [.int i] ∧ Q (.int i) H) ∨ ∃ k, xs = [.bl k] ∧ Q (.int (if k then 1 else 0)) H) [.bl b] ρ P := fun σ G H vs S rs Q q => by
  cases rs with
  | cons r1 rr =>
    cases rr; cases r1
    exact .inr ⟨b, rfl, q _ _ ρ G H p S (.int _) (Ex.refl G)⟩
theorem wC_intI {b : Int} (p : P ρ (.int b)) : wC K F (fun xs H Q => (∃ i, xs = [.int i] ∧ Q (.int i) H) ∨ ∃ k, xs = [.bl k] ∧ Q (.int (if k then 1 else 0)) H) [.int b] ρ P := fun σ G H vs S rs Q q => by
  cases rs with
  | cons r1 rr =>
    cases rr; cases r1
    exact .inl ⟨b, rfl, q _ _ ρ G H p S (.int _) (Ex.refl G)⟩
theorem wCO_list {d : D} {ds : List D} {PO : Sls → List D → Prop} (hd : d = .lst ds ∨ d = .tup ds) (p : PO ρ ds) : wCO K F (fun xs H Q => ∃ p ys, xs = [.ref p] ∧ (SqL K H p ys ∨ SqT K H p ys) ∧ ∀ l, H l = none → Q (.ref l) (upd H l (.lst ys))) [d] ρ PO := fun σ G H vs S rs Q q => by
  cases rs with
  | cons r1 rr =>
    cases rr
    rcases hd with rfl | rfl
    · cases r1 with
      | lst h1 h2 => exact ⟨_, _, rfl, .inl (SqL.of (S.ex _ _ h1)), fun a ha => q _ _ _ ρ G _ p (S.alloc ha) (.alloc S ha h2) (Ex.refl G)⟩
    · cases r1 with
      | tup h1 h2 => exact ⟨_, _, rfl, .inr (Evl.ex_t S.ex h1), fun a ha => q _ _ _ ρ G _ p (S.alloc ha) (.alloc S ha h2) (Ex.refl G)⟩
/-- isinstance -/
def tyD : D → Option String
  | .non => some "NoneType"
  | .bl _ => some "bool"
  | .int _ => some "int"
  | .str _ => some "str"
  | .lst _ => some "list"
  | .tup _ => some "tuple"
  | .dct _ => some "dict"
  | _ => none
theorem Rep.tyx {G H : Hp} (ex : Ex G H) {v : V} {d : D} {n : String} (h : Rep K G v d) (e : tyD d = some n) : TyX K H v (.type n) := by
  cases h with
  | non => cases e; exact .base .non
  | bl b => cases e; exact .base (.bl b)
  | int b => cases e; exact .base (.int b)
  | str b => cases e; exact .base (.str b)
  | lst h1 h2 => cases e; exact .base (.lst (ex _ _ h1))
  | tup h1 h2 =>
    cases e
    rcases h1 with (h1 | ⟨o, h1⟩) | ⟨o, its, n, h1, h2, _⟩
    · exact .base (.tup (ex _ _ h1))
    · exact .fTuple (ex _ _ h1)
    · exact .kTuple h1 h2
  | dct h1 h2 => cases e; exact .base (.dK (ex _ _ h1))
  | _ => cases e
theorem wC_isi {c : String} {n : String} {b : Bool} (h1 : tyD x = some n) (h2 : kitB n c = some b) (p : P ρ (.bl b)) : wC K F (rIsi K) [x, .ty c] ρ P := fun σ G H vs S rs Q q => by
  cases rs with
  | cons r1 rr =>
    cases rr with
    | cons r2 rr =>
      cases rr; cases r2
      exact ⟨_, _, .type n, .type c, b, rfl, .ty c, r1.tyx S.ex h1, kit_ty h2, q _ _ ρ G H p S (.bl b) (Ex.refl G)⟩

/-! targets -/
theorem wG_name {i : Nat} {PN : Sls → Prop} (p : PN (ρ.set i (.fz x))) : wG K F (gName i) x ρ PN := fun σ G H v S r Q q => q _ _ G H p (S.set r) (Ex.refl G)
theorem wG_tup2 {i j : Nat} {a b : D} {PN : Sls → Prop} (p : PN ((ρ.set i (.fz a)).set j (.fz b))) : wG K F (gTup K 2 (gCons (gName i) (gCons (gName j) gNil))) (.tup [a, b]) ρ PN := fun σ G H v S r Q q => by
  cases r with
  | tup h1 h2 =>
    cases h2 with
    | cons r1 rr =>
      cases rr with
      | cons r2 rr =>
        cases rr
        exact ⟨_, _, rfl, Evl.ex_t S.ex h1, rfl, _, _, rfl, _, _, rfl, rfl, q _ _ G H p ((S.set r1).set r2) (Ex.refl G)⟩
theorem wG_tup3 {i j k : Nat} {a b c : D} {PN : Sls → Prop} (p : PN (((ρ.set i (.fz a)).set j (.fz b)).set k (.fz c))) : wG K F (gTup K 3 (gCons (gName i) (gCons (gName j) (gCons (gName k) gNil)))) (.tup [a, b, c]) ρ PN := fun σ G H v S r Q q => by
  cases r with
  | tup h1 h2 =>
    cases h2 with
    | cons r1 rr =>
      cases rr with
      | cons r2 rr =>
        cases rr with
        | cons r3 rr =>
          cases rr
          exact ⟨_, _, rfl, Evl.ex_t S.ex h1, rfl, _, _, rfl, _, _, rfl, _, _, rfl, rfl, q _ _ G H p (((S.set r1).set r2).set r3) (Ex.refl G)⟩

/-! statements -/
section
variable {O : Out} {ts tu : TS} {g : TG}
theorem DOk.from {G0 G1 : Hp} {D1 : Ends} (k : DOk K F G0 D1 O) (e : Ex G0 G1) : DOk K F G1 D1 O :=
  ⟨fun a b c d h S x => k.nx a b c d h S (e.trans x), fun a b c d v w h S x => k.rt a b c d v w h S (e.trans x), fun a b c d p v w h S x => k.ro a b c d p v w h S (e.trans x), fun a b c d h S x => k.bk a b c d h S (e.trans x), fun a b c d h S x => k.ct a b c d h S (e.trans x)⟩
theorem wS_seq (h : wS K F ts ρ { O with nx := fun ρ1 => wS K F tu ρ1 O }) : wS K F (tSeq ts tu) ρ O := fun σ G H S D1 k =>
  h σ G H S { D1 with nx := tu D1 } ⟨fun ρ1 σ1 G1 H1 h1 S1 e1 => h1 σ1 G1 H1 S1 D1 (k.from e1), k.rt, k.ro, k.bk, k.ct⟩
theorem wS_next (p : O.nx ρ) : wS K F tNext ρ O := fun σ G H S D1 k => k.nx ρ σ G H p S (Ex.refl G)
theorem wS_brk (p : O.bk ρ) : wS K F tBreak ρ O := fun σ G H S D1 k => k.bk ρ σ G H p S (Ex.refl G)
theorem wS_ct (p : O.ct ρ) : wS K F tCont ρ O := fun σ G H S D1 k => k.ct ρ σ G H p S (Ex.refl G)
theorem wS_asg (h : wE K F te ρ fun ρ1 x => wG K F g x ρ1 O.nx) : wS K F (tAsg te g) ρ O := fun σ G H S D1 k =>
  h σ G H S _ fun v x ρ1 G1 H1 h1 S1 r1 e1 => h1 σ G1 H1 v S1 r1 _ fun ρ2 σ2 G2 H2 h2 S2 e2 => k.nx ρ2 σ2 G2 H2 h2 S2 (e1.trans e2)
theorem wS_set {i : Nat} (h : wE K F te ρ fun ρ1 x => O.nx (ρ1.set i (.fz x))) : wS K F (tAsg te (gName i)) ρ O := wS_asg (wE_mono h fun _ _ p => wG_name p)
theorem wS_setO {i : Nat} (h : wO K F te ρ fun ρ1 ds => O.nx (ρ1.set i (.ow .loc ds))) : wS K F (tAsg te (gName i)) ρ O := fun σ G H S D1 k =>
  h σ G H S _ fun p vs ds ρ1 G1 H1 h1 S1 o e1 => k.nx _ _ G1 H1 h1 (S1.setO o.g o.h o.r o.f o.n) e1
theorem wS_drop (h : wE K F te ρ fun ρ1 _ => O.nx ρ1) : wS K F (tDrop te) ρ O := fun σ G H S D1 k =>
  h σ G H S _ fun v x ρ1 G1 H1 h1 S1 r1 e1 => k.nx ρ1 σ G1 H1 h1 S1 e1
theorem wS_ret (h : wE K F te ρ fun ρ1 x => O.rt ρ1 x) : wS K F (tRet te) ρ O := fun σ G H S D1 k =>
  h σ G H S _ fun v x ρ1 G1 H1 h1 S1 r1 e1 => k.rt ρ1 σ G1 H1 v x h1 S1 e1 r1
theorem wS_retO (h : wO K F te ρ fun ρ1 ds => O.ro ρ1 ds) : wS K F (tRet te) ρ O := fun σ G H S D1 k =>
  h σ G H S _ fun p vs ds ρ1 G1 H1 h1 S1 o e1 => k.ro ρ1 σ G1 H1 p vs ds h1 S1 e1 o.g o.h o.r o.f
theorem wS_retN (p : O.rt ρ .non) : wS K F tRetN ρ O := fun σ G H S D1 k => k.rt ρ σ G H .non .non p S (Ex.refl G) .non
theorem wS_if {t : TT} (h : wT K F t ρ fun ρ1 b => Ways b (wS K F ts ρ1 O) (wS K F tu ρ1 O)) : wS K F (tIfS t ts tu) ρ O := fun σ G H S D1 k =>
  h σ G H S _ fun b ρ1 G1 H1 h1 S1 e1 => by
    cases b with
    | true => exact h1.1 rfl σ G1 H1 S1 D1 (k.from e1)
    | false => exact h1.2 rfl σ G1 H1 S1 D1 (k.from e1)
/-- own[i] = e -/
theorem wS_setIx {i : Nat} {ti : TE} (h : wE K F te ρ fun ρ1 x => ∃ (l1 : Kd) (ds1 : List D), ρ1[i]? = some (.ow l1 ds1) ∧ wE K F ti ρ1 fun ρ2 y => ∃ (l : Kd) (ds : List D) (j : Nat), y = .int (j : Int) ∧ ρ2[i]? = some (.ow l ds) ∧ j < ds.length ∧ O.nx (ρ2.set i (.ow l (ds.set j x)))) :
    wS K F (tAsg te (gSub (tVar i) ti rSetL)) ρ O := fun σ G H S D1 k =>
  h σ G H S _ fun v x ρ1 G1 H1 h1 S1 r1 e1 => by
    obtain ⟨l1, ds1, hi1, h1⟩ := h1
    obtain ⟨p, vs1, hp, _⟩ := S1.ow hi1
    refine ⟨.ref p, hp, h1 σ G1 H1 S1 _ fun vy y ρ2 G2 H2 h2 S2 r2 e2 => ?_⟩
    obtain ⟨l, ds, j, rfl, hi, hj, hn⟩ := h2
    cases r2
    obtain ⟨p', vs, e', hg, hh, hr⟩ := S2.ow hi
    rw [hp] at e'
    cases e'
    exact ⟨p, vs, _, j, rfl, rfl, hh, Evl.ixN_nat (by rw [hr.length]; exact hj), k.nx _ _ G2 _ hn (S2.mut hi hp (RepL.set j (r1.up e2) hr)) (e1.trans e2)⟩
/-- own.append(e) -/
theorem wS_append {i : Nat} (h0 : ∃ (l1 : Kd) (ds1 : List D), ρ[i]? = some (.ow l1 ds1)) (h : wE K F te ρ fun ρ1 x => ∃ (l : Kd) (ds : List D), ρ1[i]? = some (.ow l ds) ∧ ds.length < 100000 ∧ O.nx (ρ1.set i (.ow l (ds ++ [x])))) :
    wS K F (tDrop (tBM K "list" rAppend (tVar i) (tCons te tNil))) ρ O := fun σ G H S D1 k => by
  obtain ⟨l1, ds1, hi1⟩ := h0
  obtain ⟨p, vs1, hp, hg1, hh1, hr1⟩ := S.ow hi1
  refine ⟨.ref p, hp, .inl ⟨rfl, vs1, SqL.of hh1⟩, h σ G H S _ fun v x ρ1 G1 H1 h1 S1 r1 e1 => ?_⟩
  obtain ⟨l, ds, hi, hl, hn⟩ := h1
  obtain ⟨p', vs, e', hg, hh, hr⟩ := S1.ow hi
  rw [hp] at e'
  cases e'
  exact ⟨p, vs, v, rfl, rfl, hh, Evl.sz_lt (by rw [hr.length]; exact hl), k.nx _ _ G1 _ hn (S1.mut hi hp (hr.append (.cons r1 .nil))) e1⟩
end
end
end DL
namespace DL
open PySem L2
open Evl (Ex)

/-! ### loops -/
section
variable (K : PySem.W.Frag) (F : Fr)
def forS (g : TG) (tb : TS) (O : Out) : List D → Sls → Prop
  | [], ρ => O.nx ρ
  | x :: r, ρ => wG K F g x ρ fun ρ3 => wS K F tb ρ3 { nx := forS g tb O r, ct := forS g tb O r, bk := O.nx, rt := O.rt, ro := O.ro }
end
section
variable {K : PySem.W.Frag} {F : Fr} {ρ : Sls} {O : Out} {g : TG} {tb : TS}
/-- a loop by its word -/
theorem forS_inv (ds : List D) (Inv : Nat → Sls → Prop) (h0 : Inv 0 ρ) (hs : ∀ (i : Nat) (x : D) (ρ2 : Sls), ds[i]? = some x → Inv i ρ2 → wG K F g x ρ2 fun ρ3 => wS K F tb ρ3 { nx := Inv (i + 1), ct := Inv (i + 1), bk := O.nx, rt := O.rt, ro := O.ro })
    (hd : ∀ ρ2, Inv ds.length ρ2 → O.nx ρ2) : forS K F g tb O ds ρ := by
  have key : ∀ (k : Nat) (es : List D), ds = ds.take k ++ es → k ≤ ds.length → ∀ ρ2, Inv k ρ2 → forS K F g tb O es ρ2 := by
    intro k es
    induction es generalizing k with
    | nil =>
      intro e hk ρ2 hi
      have hl : ds.length = k := by
        have := congrArg List.length e
        rw [List.append_nil, List.length_take] at this
        omega
      exact hd ρ2 (hl ▸ hi)
    | cons x r ih =>
      intro e hk ρ2 hi
      have hlt : k < ds.length := by
        have := congrArg List.length e
        rw [List.length_append, List.length_take, List.length_cons] at this
        omega
      have hx : ds[k]? = some x := by
        rw [e, List.getElem?_append_right (by rw [List.length_take]; omega), List.length_take, Nat.min_eq_left hk, Nat.sub_self]
        rfl
      have e' : ds = ds.take (k + 1) ++ r := by
        rw [List.take_add_one, hx]
        simpa using e
      show wG K F g x ρ2 fun ρ3 => wS K F tb ρ3 { nx := forS K F g tb O r, ct := forS K F g tb O r, bk := O.nx, rt := O.rt, ro := O.ro }
      exact wG_mono (hs k x ρ2 hx hi) fun ρ3 h3 => wS_mono h3 (fun ρ4 h4 => ih (k + 1) e' hlt ρ4 h4) (fun _ _ h => h) (fun _ _ h => h) (fun _ h => h) (fun ρ4 h4 => ih (k + 1) e' hlt ρ4 h4)
  exact key 0 ds (by simp) (Nat.zero_le _) ρ h0
theorem drop_at {ds : List D} {i : Nat} {d : D} (h : ds[i]? = some d) : ds.drop i = d :: ds.drop (i + 1) := by
  have hl := (List.getElem?_eq_some_iff.mp h).1
  rw [List.drop_eq_getElem_cons hl, (List.getElem?_eq_some_iff.mp h).2]
/-- one turn of a loop, from the data's loop to the heap's -/
theorem for_turn {σ : St} {G1 G2 H2 : Hp} {D1 : Ends} {G0 : Hp} (k : DOk K F G0 D1 O) (e0 : Ex G0 G1) {ds : List D} {i : Nat} {d : D} {v : V} {ρ2 : Sls} (S2 : SRel K F G2 H2 σ ρ2) (e2 : Ex G1 G2) (hd : ds[i]? = some d) (r : Rep K G2 v d) (f : forS K F g tb O (ds.drop i) ρ2) :
    g v σ H2 fun σ3 H3 => tb { D1 with nx := fun σ' H' => ∃ G' ρ', SRel K F G' H' σ' ρ' ∧ Ex G1 G' ∧ forS K F g tb O (ds.drop (i + 1)) ρ', ct := fun σ' H' => ∃ G' ρ', SRel K F G' H' σ' ρ' ∧ Ex G1 G' ∧ forS K F g tb O (ds.drop (i + 1)) ρ', bk := D1.nx } σ3 H3 := by
  rw [drop_at hd] at f
  refine f σ G2 H2 v S2 r _ fun ρ3 σ3 G3 H3 h3 S3 e3 => ?_
  exact h3 σ3 G3 H3 S3 _ ⟨fun ρ' σ' G' H' h S' x => ⟨G', ρ', S', (e2.trans e3).trans x, h⟩, fun a b c dd v w h S x => k.rt a b c dd v w h S ((e0.trans e2).trans (e3.trans x)), fun a b c dd p v w h S x => k.ro a b c dd p v w h S ((e0.trans e2).trans (e3.trans x)), fun a b c dd h S x => k.nx a b c dd h S ((e0.trans e2).trans (e3.trans x)), fun ρ' σ' G' H' h S' x => ⟨G', ρ', S', (e2.trans e3).trans x, h⟩⟩
theorem wS_forL {tl : TE} (h : wE K F tl ρ fun ρ1 d => ∃ ds, d = .lst ds ∧ forS K F g tb O ds ρ1) : wS K F (tFor (iList K tl) g tb) ρ O := fun σ G H S D1 k =>
  h σ G H S _ fun v d ρ1 G1 H1 h1 S1 r1 e1 => by
    obtain ⟨ds, rfl, f⟩ := h1
    cases r1 with
    | lst ha hr =>
      rename_i a xs
      refine ⟨a, rfl, ⟨xs, SqL.of (S1.ex _ _ ha)⟩, for_list (K := K) (a := a) (xs := xs) (fun i σ' H' => ∃ G' ρ', SRel K F G' H' σ' ρ' ∧ Ex G1 G' ∧ forS K F g tb O (ds.drop i) ρ') ⟨G1, ρ1, S1, Ex.refl G1, f⟩ (fun i σ' H' _ ⟨G', ρ', S', e', _⟩ => SqL.of (S'.ex _ _ (e' _ _ ha))) ?_ ?_⟩
      · rintro i x σ' H' hx ⟨G', ρ', S', e', f'⟩
        obtain ⟨d, hd, rd⟩ := hr.getV hx
        exact for_turn k e1 S' e' hd (rd.up e') f'
      · rintro σ' H' ⟨G', ρ', S', e', f'⟩
        rw [hr.length, List.drop_length] at f'
        exact k.nx ρ' σ' G' H' f' S' (e1.trans e')
theorem wS_forT {tl : TE} (h : wE K F tl ρ fun ρ1 d => ∃ ds, d = .tup ds ∧ forS K F g tb O ds ρ1) : wS K F (tFor (iTup K tl) g tb) ρ O := fun σ G H S D1 k =>
  h σ G H S _ fun v d ρ1 G1 H1 h1 S1 r1 e1 => by
    obtain ⟨ds, rfl, f⟩ := h1
    cases r1 with
    | tup ha hr =>
      rename_i a xs
      refine ⟨a, rfl, ⟨xs, Evl.ex_t S1.ex ha⟩, for_tup (K := K) (a := a) (xs := xs) (fun i σ' H' => ∃ G' ρ', SRel K F G' H' σ' ρ' ∧ Ex G1 G' ∧ forS K F g tb O (ds.drop i) ρ') ⟨G1, ρ1, S1, Ex.refl G1, f⟩ (fun i σ' H' _ ⟨G', ρ', S', e', _⟩ => Evl.ex_t (e'.trans S'.ex) ha) ?_ ?_⟩
      · rintro i x σ' H' hx ⟨G', ρ', S', e', f'⟩
        obtain ⟨d, hd, rd⟩ := hr.getV hx
        exact for_turn k e1 S' e' hd (rd.up e') f'
      · rintro σ' H' ⟨G', ρ', S', e', f'⟩
        rw [hr.length, List.drop_length] at f'
        exact k.nx ρ' σ' G' H' f' S' (e1.trans e')
def rng (lo : Int) (n : Nat) : List D := (List.range n).map fun (k : Nat) => D.int (lo + (k : Int))
theorem rng_get {lo : Int} {n i : Nat} (h : i < n) : (rng lo n)[i]? = some (.int (lo + (i : Int))) := by
  unfold rng
  rw [List.getElem?_map, List.getElem?_range h]
  rfl
theorem rng_len {lo : Int} {n : Nat} : (rng lo n).length = n := by
  unfold rng
  rw [List.length_map, List.length_range]
theorem for_rng {σ : St} {G1 H1 : Hp} {D1 : Ends} {G0 : Hp} (k : DOk K F G0 D1 O) (e0 : Ex G0 G1) {lo : Int} {n : Nat} {ρ1 : Sls} (S1 : SRel K F G1 H1 σ ρ1) (f : forS K F g tb O (rng lo n) ρ1) :
    ∃ W : Nat → Nat → St → Hp → Prop, (∃ m, W 0 m σ H1) ∧ ∀ i m σ H, W i m σ H →
      ((Itr lo n).stop i H ∧ D1.nx σ H) ∨ ((Itr lo n).go i H ∧ ∃ N : St → Hp → Prop, (∀ σ' H', N σ' H' → ∃ m', m' < m ∧ W (i + 1) m' σ' H') ∧ ∀ x H', (Itr lo n).yld i H x H' → g x σ H' fun σ2 H2 => tb { D1 with nx := N, ct := N, bk := D1.nx } σ2 H2) := by
  refine for_range (lo := lo) (n := n) (fun i σ' H' => ∃ G' ρ', SRel K F G' H' σ' ρ' ∧ Ex G1 G' ∧ forS K F g tb O ((rng lo n).drop i) ρ') ⟨G1, ρ1, S1, Ex.refl G1, f⟩ ?_ ?_
  · rintro i σ' H' hi ⟨G', ρ', S', e', f'⟩
    exact for_turn k e0 S' e' (rng_get hi) (.int _) f'
  · rintro σ' H' ⟨G', ρ', S', e', f'⟩
    have q : (rng lo n).drop n = [] := List.drop_eq_nil_of_le (by rw [rng_len]; exact Nat.le_refl n)
    rw [q] at f'
    exact k.nx ρ' σ' G' H' f' S' (e0.trans e')
theorem wS_forR1 {ta : TA} (h : wA K F ta ρ fun ρ1 ds => ∃ n : Int, ds = [.int n] ∧ -(2 ^ 62) ≤ n ∧ n < 2 ^ 62 ∧ forS K F g tb O (rng 0 n.toNat) ρ1) : wS K F (tFor (iRng1 ta) g tb) ρ O := fun σ G H S D1 k =>
  h σ G H S _ fun vs ds ρ1 G1 H1 h1 S1 r1 e1 => by
    obtain ⟨n, rfl, h2, h3, f⟩ := h1
    cases r1 with
    | cons ra rr =>
      cases rr; cases ra
      exact ⟨n, rfl, h2, h3, for_rng k e1 S1 f⟩
theorem wS_forR2 {ta : TA} (h : wA K F ta ρ fun ρ1 ds => ∃ m n : Int, ds = [.int m, .int n] ∧ (-(2 ^ 62) ≤ m ∧ m < 2 ^ 62 ∧ -(2 ^ 62) ≤ n ∧ n < 2 ^ 62) ∧ forS K F g tb O (rng m (n - m).toNat) ρ1) : wS K F (tFor (iRng2 ta) g tb) ρ O := fun σ G H S D1 k =>
  h σ G H S _ fun vs ds ρ1 G1 H1 h1 S1 r1 e1 => by
    obtain ⟨m, n, rfl, h2, f⟩ := h1
    cases r1 with
    | cons ra rr =>
      cases rr with
      | cons rb rr =>
        cases rr; cases ra; cases rb
        exact ⟨m, n, rfl, h2, for_rng k e1 S1 f⟩
end

/-! ### comprehensions -/
def wipeS (ρ : Sls) : List Nat → Sls
  | [] => ρ
  | v :: vs => (wipeS ρ vs).set v .un
def rest1 (vs : List Nat) (k : Nat) : Sl → Sl → Sl
  | .un, .ow _ _ => .un
  | .un, .un => .un
  | .un, .fz d => cond (vs.contains k) .un (.fz d)
  | .fz d, .ow _ _ => .fz d
  | .fz d, .un => .fz d
  | .fz d, .fz e => cond (vs.contains k) (.fz d) (.fz e)
  | .ow l ds, .ow m es => cond (vs.contains k) .un (.ow l es)
  | .ow l ds, .un => .un
  | .ow l ds, .fz d => cond (vs.contains k) .un (.fz d)
def restS (vs : List Nat) : Nat → Sls → Sls → Sls
  | k, a :: as, b :: bs => rest1 vs k a b :: restS vs (k + 1) as bs
  | _, _, _ => []
theorem restS_len (vs : List Nat) : ∀ (k : Nat) (as bs : Sls), as.length = bs.length → (restS vs k as bs).length = as.length
  | _, [], [], _ => rfl
  | k, a :: as, b :: bs, h => congrArg (· + 1) (restS_len vs (k + 1) as bs (by simpa using h))
  | _, [], _ :: _, h => by simp at h
  | _, _ :: _, [], h => by simp at h
theorem restS_get (vs : List Nat) : ∀ (k : Nat) (as bs : Sls) (i : Nat) (s : Sl), (restS vs k as bs)[i]? = some s → ∃ a b, as[i]? = some a ∧ bs[i]? = some b ∧ s = rest1 vs (k + i) a b
  | k, a :: as, b :: bs, 0, s, h => ⟨a, b, rfl, rfl, by rw [restS] at h; simpa using h.symm⟩
  | k, a :: as, b :: bs, i + 1, s, h => by
    rw [restS] at h
    obtain ⟨a', b', h1, h2, h3⟩ := restS_get vs (k + 1) as bs i s (by simpa using h)
    exact ⟨a', b', by simpa using h1, by simpa using h2, by rw [h3]; congr 1; omega⟩
  | _, [], _, _, _, h => by simp [restS] at h
  | _, _ :: _, [], _, _, h => by simp [restS] at h
section
variable {K : PySem.W.Frag} {F : Fr} {ρ : Sls}
theorem SRel.wipes {G H : Hp} {σ : St} (S : SRel K F G H σ ρ) : ∀ vs : List Nat, SRel K F G H (wipe σ vs) (wipeS ρ vs)
  | [] => S
  | v :: vs => (SRel.wipes S vs).wipe1 v none
theorem SRel.back {G H G' H' : Hp} {σ σ' : St} {ρ' : Sls} (S : SRel K F G H σ ρ) (T : SRel K (here G H σ ρ) G' H' σ' ρ') : SRel K F G' H' σ' (ρ'.map unloc) := by
  have geto : ∀ (j : Nat) (l : Kd) (ds : List D), (ρ'.map unloc)[j]? = some (.ow l ds) → l = .any ∧ ∃ l', ρ'[j]? = some (.ow l' ds) := fun j l ds h => by
    rw [List.getElem?_map] at h
    cases e : ρ'[j]? with
    | none => rw [e] at h; cases h
    | some s' =>
      rw [e] at h
      cases s' with
      | un => cases h
      | fz d => cases h
      | ow l' ds' => cases h; exact ⟨rfl, l', rfl⟩
  refine ⟨FrOk.back S T.fr, by rw [List.length_map]; exact T.len, fun j s w h1 h2 => ?_, fun a b q m n da db h1 h2 h3 h4 => ?_, fun i l ds p h1 h2 => ?_⟩
  · rw [List.getElem?_map] at h1
    cases e : ρ'[j]? with
    | none => rw [e] at h1; cases h1
    | some s' =>
      rw [e] at h1
      cases h1
      have q := T.sl j s' w e h2
      cases s' with
      | un => exact q
      | fz d => exact q
      | ow l ds => cases w <;> exact q
  · obtain ⟨_, _, h1⟩ := geto a _ _ h1
    obtain ⟨_, _, h2⟩ := geto b _ _ h2
    exact T.dis a b q _ _ _ _ h1 h2 h3 h4
  · obtain ⟨rfl, l', h1'⟩ := geto i _ _ h1
    rcases (T.own i l' ds p h1' h2).or with z | ⟨j, l2, ds', h3, h4⟩
    · exact .inl (S.fr.fresh z)
    · exact (S.own j l2 ds' p h3 h4).or
theorem wipe_get {σ : St} {i : Nat} : ∀ {vs : List Nat}, i ∉ vs → (wipe σ vs)[i]? = σ[i]?
  | [], _ => rfl
  | v :: vs, h => by
    have h1 : i ≠ v := fun z => h (by rw [z]; exact List.mem_cons_self ..)
    have h2 : i ∉ vs := fun z => h (List.mem_cons_of_mem _ z)
    unfold wipe
    rw [List.getElem?_set_ne (Ne.symm h1)]
    exact wipe_get h2
/-- behind a comprehension: the slots as they were, what is the owners' own as it is -/
theorem SRel.rest {G G' H H' : Hp} {σ : St} {ρ' : Sls} {vs : List Nat} (S : SRel K F G H σ ρ) (e : Ex G G') (T : SRel K F G' H' (wipe σ vs) ρ') : SRel K F G' H' σ (restS vs 0 ρ ρ') := by
  have hl : ρ.length = ρ'.length := by
    have h1 := S.len
    have h2 := T.len
    rw [wipe_length] at h2
    omega
  have geto : ∀ (i : Nat) (l : Kd) (ds : List D), (restS vs 0 ρ ρ')[i]? = some (.ow l ds) → i ∉ vs ∧ (∃ m, ρ'[i]? = some (.ow m ds)) ∧ ∃ es, ρ[i]? = some (.ow l es) := fun i l ds h => by
    obtain ⟨a, b, h1, h2, h3⟩ := restS_get vs 0 ρ ρ' i _ h
    rw [Nat.zero_add] at h3
    by_cases c : vs.contains i = true
    · cases a <;> cases b <;> simp only [rest1, c, cond_true] at h3 <;> cases h3
    · have cm : i ∉ vs := fun z => c (by simpa using z)
      have cf : vs.contains i = false := Bool.eq_false_iff.mpr c
      cases a <;> cases b <;> simp only [rest1, cf, cond_false] at h3 <;> cases h3
      exact ⟨cm, ⟨_, h2⟩, _, h1⟩
  refine ⟨T.fr, by rw [restS_len vs 0 ρ ρ' hl]; exact S.len, fun i s o h1 h2 => ?_, fun i j p l m di dj h1 h2 h3 h4 => ?_, fun i l ds p h1 h2 => ?_⟩
  · obtain ⟨a, b, q1, q2, rfl⟩ := restS_get vs 0 ρ ρ' i _ h1
    rw [Nat.zero_add]
    have qa := S.sl i a o q1 h2
    have fzq : ∀ {d : D}, SlR K G H o (.fz d) → SlR K G' H' o (.fz d) := fun {d} q => by
      cases o with
      | none => exact q
      | some v => exact Rep.up e q
    have unq : SlR K G' H' o .un := by cases o <;> trivial
    by_cases c : vs.contains i = true
    · cases a <;> cases b <;> simp only [rest1, c, cond_true] <;> first | exact unq | exact fzq qa
    · have cm : i ∉ vs := fun z => c (by simpa using z)
      have cf : vs.contains i = false := Bool.eq_false_iff.mpr c
      have qb := T.sl i b o q2 (by rw [wipe_get cm]; exact h2)
      cases a <;> cases b <;> simp only [rest1, cf, cond_false] <;> first | exact unq | exact fzq qa | exact qb | (cases o <;> exact qb)
  · obtain ⟨n1, ⟨m1, k1⟩, _⟩ := geto i _ _ h1
    obtain ⟨n2, ⟨m2, k2⟩, _⟩ := geto j _ _ h2
    exact T.dis i j p _ _ _ _ k1 k2 (by rw [wipe_get n1]; exact h3) (by rw [wipe_get n2]; exact h4)
  · obtain ⟨n1, _, es, k2⟩ := geto i _ _ h1
    exact S.own i l es p k2 h2
end
theorem SRel.unlocs {G H : Hp} {σ : St} {K : PySem.W.Frag} {F : Fr} {ρ : Sls} (S : SRel K F G H σ ρ) : SRel K F G H σ (ρ.map unloc) := by
  have geto : ∀ (j : Nat) (l : Kd) (ds : List D), (ρ.map unloc)[j]? = some (.ow l ds) → l = .any ∧ ∃ l', ρ[j]? = some (.ow l' ds) := fun j l ds h => by
    rw [List.getElem?_map] at h
    cases e : ρ[j]? with
    | none => rw [e] at h; cases h
    | some s' =>
      rw [e] at h
      cases s' with
      | un => cases h
      | fz d => cases h
      | ow l' ds' => cases h; exact ⟨rfl, l', rfl⟩
  refine ⟨S.fr, by rw [List.length_map]; exact S.len, fun j s w h1 h2 => ?_, fun a b q m n da db h1 h2 h3 h4 => ?_, fun i l ds p h1 h2 => ?_⟩
  · rw [List.getElem?_map] at h1
    cases e : ρ[j]? with
    | none => rw [e] at h1; cases h1
    | some s' =>
      rw [e] at h1
      cases h1
      have q := S.sl j s' w e h2
      cases s' with
      | un => exact q
      | fz d => exact q
      | ow l ds => cases w <;> exact q
  · obtain ⟨_, _, h1⟩ := geto a _ _ h1
    obtain ⟨_, _, h2⟩ := geto b _ _ h2
    exact S.dis a b q _ _ _ _ h1 h2 h3 h4
  · obtain ⟨rfl, l', h1'⟩ := geto i _ _ h1
    exact (S.own i l' ds p h1' h2).or
theorem unloc_unloc : ∀ s : Sl, unloc (unloc s) = unloc s
  | .un => rfl
  | .fz _ => rfl
  | .ow _ _ => rfl
theorem map_unloc (ρ : Sls) : (ρ.map unloc).map unloc = ρ.map unloc := by
  rw [List.map_map]
  exact List.map_congr_left fun s _ => unloc_unloc s
theorem wipeS_unloc (ρ : Sls) : ∀ vs : List Nat, wipeS (ρ.map unloc) vs = (wipeS ρ vs).map unloc
  | [] => rfl
  | v :: vs => by
    show (wipeS (ρ.map unloc) vs).set v .un = ((wipeS ρ vs).set v .un).map unloc
    rw [wipeS_unloc ρ vs, List.map_set]
    rfl
def wipeU (ρ : Sls) (vs : List Nat) : Sls := (wipeS ρ vs).map unloc
section
variable (K : PySem.W.Frag) (g : TG) (tt : TT) (te : TE) (vs : List Nat)
def compL : List D → Sls → List D → (Sls → List D → Prop) → Prop
  | [], ρ, acc, P => P ρ acc
  | x :: r, ρ, acc, P => ∀ F, wG K F g x ρ fun ρ2 => wT K F tt ρ2 fun ρ3 b => Ways b (wE K F te ρ3 fun ρ4 y => compL r (wipeU ρ4 vs) (acc ++ [y]) P) (compL r (wipeU ρ3 vs) acc P)
end
/-- the target's slots are those that are wiped -/
def Tgt (g : TG) (vs : List Nat) : Prop := ∀ (x : V) (σ : St) (H : Hp) (Q Q' : St → Hp → Prop), g x (wipe σ vs) H Q → (∀ σ2 H2, wipe σ2 vs = wipe σ vs → Q σ2 H2 → Q' σ2 H2) → g x (wipe σ vs) H Q'
theorem wipe_set {σ : St} {w : Option V} : ∀ {vs : List Nat} {i : Nat}, i ∈ vs → wipe (σ.set i w) vs = wipe σ vs
  | v :: vs, i, h => by
    unfold wipe
    by_cases hi : i = v
    · subst hi
      by_cases hm : i ∈ vs
      · rw [wipe_set hm]
      · have : ∀ us : List Nat, i ∉ us → wipe (σ.set i w) us = (wipe σ us).set i w := by
          intro us
          induction us with
          | nil => intro _; rfl
          | cons u us ih =>
            intro hu
            have h1 : i ≠ u := fun z => hu (by rw [z]; exact List.mem_cons_self ..)
            have h2 : i ∉ us := fun z => hu (List.mem_cons_of_mem _ z)
            unfold wipe
            rw [ih h2, List.set_comm _ _ h1]
        rw [this vs hm, List.set_set]
    · rw [wipe_set ((List.mem_cons.mp h).resolve_left hi)]
theorem wipe_wipe {σ : St} : ∀ {vs us : List Nat}, (∀ v ∈ vs, v ∈ us) → wipe (wipe σ vs) us = wipe σ us
  | [], _, _ => rfl
  | v :: vs, us, h => by
    show wipe ((wipe σ vs).set v none) us = wipe σ us
    rw [wipe_set (h v (List.mem_cons_self ..)), wipe_wipe fun w hw => h w (List.mem_cons_of_mem _ hw)]
theorem tgt_name {i : Nat} {vs : List Nat} (h : i ∈ vs) : Tgt (gName i) vs := fun x σ H Q Q' q m => m _ _ (by rw [wipe_set h, wipe_wipe fun v hv => hv]) q
theorem tgt_tup2 {K : PySem.W.Frag} {i j : Nat} {vs : List Nat} (h : i ∈ vs) (h' : j ∈ vs) : Tgt (gTup K 2 (gCons (gName i) (gCons (gName j) gNil))) vs := fun x σ H Q Q' q m => by
  obtain ⟨a, xs, h1, h2, h3, v, r, h4, v', r', h5, h6, q⟩ := q
  refine ⟨a, xs, h1, h2, h3, v, r, h4, v', r', h5, h6, m _ _ ?_ q⟩
  rw [wipe_set h', wipe_set h, wipe_wipe fun v hv => hv]
theorem tgt_tup3 {K : PySem.W.Frag} {i j k : Nat} {vs : List Nat} (h : i ∈ vs) (h' : j ∈ vs) (h'' : k ∈ vs) : Tgt (gTup K 3 (gCons (gName i) (gCons (gName j) (gCons (gName k) gNil)))) vs := fun x σ H Q Q' q m => by
  obtain ⟨a, xs, h1, h2, h3, v, r, h4, v', r', h5, v'', r'', h6, h7, q⟩ := q
  refine ⟨a, xs, h1, h2, h3, v, r, h4, v', r', h5, v'', r'', h6, h7, m _ _ ?_ q⟩
  rw [wipe_set h'', wipe_set h', wipe_set h, wipe_wipe fun v hv => hv]
section
variable {K : PySem.W.Frag} {F : Fr} {ρ : Sls} {g : TG} {tt : TT} {te : TE} {vs : List Nat}
/-- what stands between two turns of a comprehension whose list is at Dl -/
structure CompAt (K : PySem.W.Frag) (F : Fr) (g : TG) (tt : TT) (te : TE) (vs : List Nat) (σ : St) (G1 : Hp) (Dl : Addr) (P : Sls → List D → Prop) (n : Nat) (r : List D) (H' G' : Hp) (ρ' : Sls) (acc : List D) (vacc : List V) : Prop where
  S : SRel K F G' H' (wipe σ vs) ρ'
  e : Ex G1 G'
  hg : G' Dl = none
  hh : H' Dl = some (.lst vacc)
  hr : RepL K G' vacc acc
  hno : ∀ (i : Nat) (l : Kd) (ds : List D), ρ'[i]? = some (.ow l ds) → (wipe σ vs)[i]? ≠ some (some (.ref Dl))
  hf : F.H0 Dl = none
  hl : acc.length ≤ n
  u : ρ'.map unloc = ρ'
  c : compL K g tt te vs r ρ' acc P
abbrev CompEx (K : PySem.W.Frag) (F : Fr) (g : TG) (tt : TT) (te : TE) (vs : List Nat) (σ : St) (G1 : Hp) (Dl : Addr) (P : Sls → List D → Prop) (n : Nat) (r : List D) (H' : Hp) : Prop := ∃ G' ρ' acc vacc, CompAt K F g tt te vs σ G1 Dl P n r H' G' ρ' acc vacc
/-- a list that is nobody's own is changed -/
theorem SRel.other {G H : Hp} {σ : St} (S : SRel K F G H σ ρ) {p : Addr} {o : HO} (hg : G p = none) (hf : F.H0 p = none) (hn : ∀ (i : Nat) (l : Kd) (ds : List D), ρ[i]? = some (.ow l ds) → σ[i]? ≠ some (some (.ref p))) : SRel K F G (upd H p o) σ ρ := by
  refine ⟨⟨fun a u q => ?_, S.fr.old, fun a u q np => ?_, fun a u q => ?_⟩, S.len, fun i s w h1 h2 => ?_, S.dis, S.own⟩
  · have ha : a ≠ p := fun z => by rw [z, hg] at q; cases q
    rw [upd_ne ha]
    exact S.ex a u q
  · have ha : a ≠ p := fun z => by rw [z, hf] at q; cases q
    rw [upd_ne ha]
    exact S.fr.kp a u q np
  · have ha : a ≠ p := fun z => by rw [z, hf] at q; cases q
    rw [upd_ne ha]
    exact S.fr.th a u q
  · have q := S.sl i s w h1 h2
    cases s with
    | un => cases w <;> trivial
    | fz d =>
      cases w with
      | none => exact q
      | some v => exact q
    | ow l ds =>
      cases w with
      | none => exact q
      | some v =>
        obtain ⟨a, us, rfl, q1, q2, q3⟩ := q
        have ha : a ≠ p := fun z => hn i l ds h1 (by rw [h2, z])
        exact ⟨a, us, rfl, q1, by rw [upd_ne ha]; exact q2, q3⟩
theorem comp_turn (hT : Tgt g vs) {σ : St} {G1 H2 : Hp} {Dl : Addr} {P : Sls → List D → Prop} {n : Nat} {d : D} {r : List D} {x : V} (hn : n < 100000) (c : CompEx K F g tt te vs σ G1 Dl P n (d :: r) H2) (hx : ∀ G', Ex G1 G' → Rep K G' x d) :
    g x (wipe σ vs) H2 fun σ2 H3 => wipe σ2 vs = wipe σ vs ∧ tt σ2 H3 fun b H4 =>
      if b = true then te σ2 H4 fun y H5 => ∃ acc, H5 Dl = some (.lst acc) ∧ acc.length < sizeLine ∧ CompEx K F g tt te vs σ G1 Dl P (n + 1) r (upd H5 Dl (.lst (acc ++ [y]))) else CompEx K F g tt te vs σ G1 Dl P (n + 1) r H4 := by
  obtain ⟨G', ρ', acc, vacc, S', e', hg, hh, hr, hno, hf, hl, hu, hc⟩ := c
  have R := S'.reframe
  rw [hu] at R
  -- from the turn's own frame to the loop's
  have back : ∀ {G'' H'' : Hp} {σ'' : St} {ρ'' : Sls}, SRel K (here G' H2 (wipe σ vs) ρ') G'' H'' σ'' ρ'' → wipe σ'' vs = wipe σ vs → SRel K F G'' H'' (wipe σ vs) (wipeU ρ'' vs) ∧ Ex G' G'' ∧ G'' Dl = none ∧ H'' Dl = some (.lst vacc) ∧ (∀ (i : Nat) (l : Kd) (ds : List D), (wipeU ρ'' vs)[i]? = some (.ow l ds) → (wipe σ vs)[i]? ≠ some (some (.ref Dl))) := by
    intro G'' H'' σ'' ρ'' T hw
    have W := (S'.back T).wipes vs
    rw [hw, wipeS_unloc] at W
    have W1 := T.unlocs.wipes vs
    rw [hw, wipeS_unloc] at W1
    have hD : H'' Dl = some (.lst vacc) := T.fr.kp Dl _ hh (by
      rintro ⟨i, l, ds, h1, h2⟩
      exact hno i l ds h1 h2)
    refine ⟨W, FrOk.grow T.fr S'.ex, ?_, hD, fun i l ds h z => ?_⟩
    · rw [T.fr.old Dl _ hh]
      exact hg
    · rcases (W1.own i l ds Dl h z).or with q | ⟨j, l', ds', k1, k2⟩
      · have q' : H2 Dl = none := q
        rw [hh] at q'
        cases q'
      · exact hno j l' ds' k1 k2
  refine hT x σ H2 _ _ (hc (here G' H2 (wipe σ vs) ρ') (wipe σ vs) G' H2 x R (hx G' e') (fun σ3 H3 => ∃ ρ3 G3, wT K (here G' H2 (wipe σ vs) ρ') tt ρ3 _ ∧ SRel K (here G' H2 (wipe σ vs) ρ') G3 H3 σ3 ρ3 ∧ Ex G' G3) fun ρ3 σ3 G3 H3 h3 S3 e3 => ⟨ρ3, G3, h3, S3, e3⟩) ?_
  rintro σ3 H3 hw ⟨ρ3, G3, h3, S3, e3⟩
  refine ⟨hw, h3 σ3 G3 H3 S3 _ fun b ρ4 G4 H4 h4 S4 e4 => ?_⟩
  cases b with
  | false =>
    obtain ⟨B1, B2, B3, B4, B5⟩ := back S4 hw
    exact ⟨G4, wipeU ρ4 vs, acc, vacc, B1, e'.trans B2, B3, B4, RepL.up B2 hr, B5, hf, Nat.le_succ_of_le hl, map_unloc _, h4.2 rfl⟩
  | true =>
    refine h4.1 rfl σ3 G4 H4 S4 _ fun y dy ρ5 G5 H5 h5 S5 r5 e5 => ?_
    obtain ⟨B1, B2, B3, B4, B5⟩ := back S5 hw
    refine ⟨vacc, B4, Evl.sz_lt (by rw [hr.length]; omega), G5, wipeU ρ5 vs, acc ++ [dy], vacc ++ [y], B1.other B3 hf B5, e'.trans B2, B3, upd_same, (RepL.up B2 hr).append (.cons r5 .nil), B5, hf, by rw [List.length_append, List.length_singleton]; omega, map_unloc _, h5⟩
theorem comp_start {σ : St} {G1 H1 : Hp} (S1 : SRel K F G1 H1 σ ρ) {ds : List D} {P : Sls → List D → Prop} (c : compL K g tt te vs ds (wipeU ρ vs) [] P) {Dl : Addr} (hD : H1 Dl = none) : CompEx K F g tt te vs σ G1 Dl P 0 ds (upd H1 Dl (.lst [])) := by
  have W := (S1.wipes vs).unlocs
  exact ⟨G1, wipeU ρ vs, [], [], W.alloc hD, Ex.refl G1, W.fr.freshG hD, upd_same, .nil, W.notOwn hD, W.fr.fresh hD, Nat.le_refl _, map_unloc _, c⟩
theorem comp_end {σ : St} {G1 H1 H' : Hp} (S1 : SRel K F G1 H1 σ ρ) {Dl : Addr} {n : Nat} {P : Sls → List D → Prop} (c : CompEx K F g tt te vs σ G1 Dl (fun ρ' acc => P (restS vs 0 ρ ρ') acc) n [] H') (hD : H1 Dl = none) :
    ∃ G' ρ' acc vacc, P ρ' acc ∧ SRel K F G' H' σ ρ' ∧ Own K F G' H' σ ρ' Dl vacc acc ∧ Ex G1 G' := by
  obtain ⟨G', ρ', acc, vacc, S', e', hg, hh, hr, hno, hf, hl, hu, hc⟩ := c
  have T := S1.rest e' S'
  refine ⟨G', _, acc, vacc, hc, T, ⟨hg, hh, hr, hf, fun i l ds h z => ?_⟩, e'⟩
  obtain ⟨a, b, q1, q2, q3⟩ := restS_get vs 0 ρ _ i _ h
  rw [Nat.zero_add] at q3
  by_cases cc : vs.contains i = true
  · cases a <;> cases b <;> simp only [rest1, cc, cond_true] at q3 <;> cases q3
  · have cm : i ∉ vs := fun z => cc (by simpa using z)
    cases a <;> cases b <;> simp only [rest1, Bool.eq_false_iff.mpr cc, cond_false] at q3 <;> cases q3
    exact hno i _ _ q2 (by rw [wipe_get cm]; exact z)
variable {P : Sls → List D → Prop}
theorem wO_lcL {tl : TE} (hT : Tgt g vs) (h : wE K F tl ρ fun ρ1 d => ∃ ds, d = .lst ds ∧ ds.length ≤ 100000 ∧ compL K g tt te vs ds (wipeU ρ1 vs) [] fun ρ' acc => P (restS vs 0 ρ1 ρ') acc) : wO K F (tLc (iList K tl) g tt te vs) ρ P := fun σ G H S Q q =>
  h σ G H S _ fun v d ρ1 G1 H1 h1 S1 r1 e1 => by
    obtain ⟨ds, rfl, hl, f⟩ := h1
    cases r1 with
    | lst ha hr =>
      rename_i a xs
      refine ⟨a, rfl, ⟨xs, SqL.of (S1.ex _ _ ha)⟩, fun Dl hD => lc_list (K := K) (a := a) (xs := xs) (fun i H' => CompEx K F g tt te vs σ G1 Dl (fun ρ' acc => P (restS vs 0 ρ1 ρ') acc) i (ds.drop i) H') (comp_start S1 f hD) (fun i H' _ c => ?_) (fun i x H' hx c => ?_) fun H' c => ?_⟩
      · obtain ⟨G', ρ', acc, vacc, c⟩ := c
        exact SqL.of (c.S.ex _ _ (c.e _ _ ha))
      · obtain ⟨d, hd, rd⟩ := hr.getV hx
        rw [drop_at hd] at c
        have hlt := (List.getElem?_eq_some_iff.mp hd).1
        exact comp_turn hT (by omega) c fun G' e' => rd.up e'
      · rw [hr.length, List.drop_length] at c
        obtain ⟨G', ρ', acc, vacc, p, S', o, e'⟩ := comp_end (P := P) S1 c hD
        exact q _ _ _ ρ' G' H' p S' o (e1.trans e')
theorem wO_lcT {tl : TE} (hT : Tgt g vs) (h : wE K F tl ρ fun ρ1 d => ∃ ds, d = .tup ds ∧ ds.length ≤ 100000 ∧ compL K g tt te vs ds (wipeU ρ1 vs) [] fun ρ' acc => P (restS vs 0 ρ1 ρ') acc) : wO K F (tLc (iTup K tl) g tt te vs) ρ P := fun σ G H S Q q =>
  h σ G H S _ fun v d ρ1 G1 H1 h1 S1 r1 e1 => by
    obtain ⟨ds, rfl, hl, f⟩ := h1
    cases r1 with
    | tup ha hr =>
      rename_i a xs
      refine ⟨a, rfl, ⟨xs, Evl.ex_t S1.ex ha⟩, fun Dl hD => lc_tup (K := K) (a := a) (xs := xs) (fun i H' => CompEx K F g tt te vs σ G1 Dl (fun ρ' acc => P (restS vs 0 ρ1 ρ') acc) i (ds.drop i) H') (comp_start S1 f hD) (fun i H' _ c => ?_) (fun i x H' hx c => ?_) fun H' c => ?_⟩
      · obtain ⟨G', ρ', acc, vacc, c⟩ := c
        exact Evl.ex_t (c.e.trans c.S.ex) ha
      · obtain ⟨d, hd, rd⟩ := hr.getV hx
        rw [drop_at hd] at c
        have hlt := (List.getElem?_eq_some_iff.mp hd).1
        exact comp_turn hT (by omega) c fun G' e' => rd.up e'
      · rw [hr.length, List.drop_length] at c
        obtain ⟨G', ρ', acc, vacc, p, S', o, e'⟩ := comp_end (P := P) S1 c hD
        exact q _ _ _ ρ' G' H' p S' o (e1.trans e')
theorem comp_rng (hT : Tgt g vs) {σ : St} {G1 H1 : Hp} (S1 : SRel K F G1 H1 σ ρ) {lo : Int} {n : Nat} (hn : n ≤ 100000) (f : compL K g tt te vs (rng lo n) (wipeU ρ vs) [] fun ρ' acc => P (restS vs 0 ρ ρ') acc) {Q : VK}
    (q : ∀ (p : Addr) (vs : List V) (ds : List D) (ρ' : Sls) (G' H' : Hp), P ρ' ds → SRel K F G' H' σ ρ' → Own K F G' H' σ ρ' p vs ds → Ex G1 G' → Q (.ref p) H') : ∀ Dl, H1 Dl = none → ∃ W : Nat → Nat → Hp → Prop, (∃ m, W 0 m (upd H1 Dl (.lst []))) ∧ ∀ i m H, W i m H →
      ((Itr lo n).stop i H ∧ Q (.ref Dl) H) ∨ ((Itr lo n).go i H ∧ ∃ Nx : Hp → Prop, (∀ H', Nx H' → ∃ m', m' < m ∧ W (i + 1) m' H') ∧ ∀ x H', (Itr lo n).yld i H x H' → g x (wipe σ vs) H' fun σ2 H2 => wipe σ2 vs = wipe σ vs ∧ tt σ2 H2 fun b H3 =>
        if b = true then te σ2 H3 fun y H4 => ∃ acc, H4 Dl = some (.lst acc) ∧ acc.length < sizeLine ∧ Nx (upd H4 Dl (.lst (acc ++ [y]))) else Nx H3) := fun Dl hD => by
  refine lc_range (lo := lo) (n := n) (Qd := fun H => Q (.ref Dl) H) (fun i H' => CompEx K F g tt te vs σ G1 Dl (fun ρ' acc => P (restS vs 0 ρ ρ') acc) i ((rng lo n).drop i) H') (comp_start S1 f hD) (fun i H' hi c => ?_) fun H' c => ?_
  · rw [drop_at (rng_get hi)] at c
    exact comp_turn hT (by omega) c fun G' e' => .int _
  · have z : (rng lo n).drop n = [] := List.drop_eq_nil_of_le (by rw [rng_len]; exact Nat.le_refl n)
    rw [z] at c
    obtain ⟨G', ρ', acc, vacc, p, S', o, e'⟩ := comp_end (P := P) S1 c hD
    exact q _ _ _ ρ' G' H' p S' o e'
theorem wO_lcR1 {ta : TA} (hT : Tgt g vs) (h : wA K F ta ρ fun ρ1 ds => ∃ n : Int, ds = [.int n] ∧ -(2 ^ 62) ≤ n ∧ n ≤ 100000 ∧ compL K g tt te vs (rng 0 n.toNat) (wipeU ρ1 vs) [] fun ρ' acc => P (restS vs 0 ρ1 ρ') acc) : wO K F (tLc (iRng1 ta) g tt te vs) ρ P := fun σ G H S Q q =>
  h σ G H S _ fun vs' ds ρ1 G1 H1 h1 S1 r1 e1 => by
    obtain ⟨n, rfl, h2, h3, f⟩ := h1
    cases r1 with
    | cons ra rr =>
      cases rr; cases ra
      exact ⟨n, rfl, h2, by omega, comp_rng hT S1 (by omega) f fun p ws ds ρ' G' H' pp S' o e' => q p ws ds ρ' G' H' pp S' o (e1.trans e')⟩
end
end DL
namespace DL
open PySem L2
open Evl (Ex)

/-! ### promises of defs, over data -/
inductive Rs where
  | fz (d : D)
  | ow (ds : List D)
def RsR (K : PySem.W.Frag) (F : Fr) (G' H' : Hp) (v : V) : Rs → Prop
  | .fz d => Rep K G' v d
  | .ow ds => ∃ p vs, v = .ref p ∧ G' p = none ∧ H' p = some (.lst vs) ∧ RepL K G' vs ds ∧ F.H0 p = none
def RsP (P : D → Prop) : Rs → Prop
  | .fz d => P d
  | .ow ds => P (.lst ds)
def RsO (P : List D → Prop) : Rs → Prop
  | .fz _ => False
  | .ow ds => P ds
abbrev XD := Addr → List (Str × D) → Prop
/-- what is wished of what is raised -/
def EOk (K : PySem.W.Frag) (F : Fr) (E : XK) (X : XD) : Prop := ∀ (C : Addr) (fs : List (Str × D)) (d : Addr) (G' H' : Hp) (fvs : List (Str × V)), X C fs → FrOk F G' H' → H' d = some (.xd fvs) → RepF K G' fvs fs → E (.ref C) (some d) H'
def fr0 (G H : Hp) : Fr := ⟨G, H, fun _ => False⟩
def fr1 (G H : Hp) (p : Addr) : Fr := ⟨G, H, fun a => a = p⟩
abbrev X0 : XD := fun _ _ => False
theorem eok0 {K : PySem.W.Frag} {F : Fr} {E : XK} : EOk K F E X0 := fun _ _ _ _ _ _ h => h.elim
/-- things in, a thing out -/
abbrev W0 := List D → (Rs → Prop) → XD → Prop
def sp0 (K : PySem.W.Frag) (W : W0) : Sp := fun vs H Q E => ∃ (G : Hp) (ds : List D) (Φ : Rs → Prop) (X : XD), Ex G H ∧ RepL K G vs ds ∧ W ds Φ X ∧
  (∀ (r : Rs) (v : V) (G' H' : Hp), Φ r → FrOk (fr0 G H) G' H' → RsR K (fr0 G H) G' H' v r → Q v H') ∧ EOk K (fr0 G H) E X
/-- an own list ahead, which the def may change -/
abbrev W1 := List D → List D → (List D → Rs → Prop) → XD → Prop
def sp1 (K : PySem.W.Frag) (W : W1) : Sp := fun vs H Q E => ∃ (G : Hp) (p : Addr) (us : List V) (ds : List D) (ws : List V) (es : List D) (Φ : List D → Rs → Prop) (X : XD), vs = .ref p :: ws ∧ Ex G H ∧ G p = none ∧ H p = some (.lst us) ∧ RepL K G us ds ∧ RepL K G ws es ∧ W ds es Φ X ∧
  (∀ (ds' : List D) (r : Rs) (v : V) (G' H' : Hp) (us' : List V), Φ ds' r → FrOk (fr1 G H p) G' H' → G' p = none → H' p = some (.lst us') → RepL K G' us' ds' → RsR K (fr1 G H p) G' H' v r → Q v H') ∧ EOk K (fr1 G H p) E X
section
variable {K : PySem.W.Frag} {F : Fr} {ρ : Sls} {P : Sls → D → Prop} {ta : TA}
theorem FrOk.after0 {G H G' H' : Hp} (f : FrOk F G H) (T : FrOk (fr0 G H) G' H') : FrOk F G' H' := ⟨T.ex, fun a o h => by
    obtain ⟨o', q⟩ := f.th a o h
    exact (T.old a o' q).trans (f.old a o h), fun a o h np => T.kp a o (f.kp a o h np) (fun z => z), fun a o h => by
    obtain ⟨o', q⟩ := f.th a o h
    exact T.th a o' q⟩
theorem SRel.after0 {G H G' H' : Hp} {σ : St} (S : SRel K F G H σ ρ) (T : FrOk (fr0 G H) G' H') : SRel K F G' H' σ ρ ∧ Ex G G' := by
  have e : Ex G G' := fun a o h => by
    rw [T.old a o (S.ex a o h)]
    exact h
  refine ⟨⟨S.fr.after0 T, S.len, fun i s o h1 h2 => (S.sl i s o h1 h2).up e (fun p hg ⟨o, hh⟩ => (T.old p o hh).trans hg) (fun p o hh _ => T.kp p o hh (fun z => z)), S.dis, S.own⟩, e⟩
theorem RsR.own {G H G' H' : Hp} {σ : St} {v : V} {r : Rs} {ds : List D} (S : SRel K F G H σ ρ) (T : FrOk (fr0 G H) G' H') (h : RsR K (fr0 G H) G' H' v (.ow ds)) : ∃ p vs, v = .ref p ∧ Own K F G' H' σ ρ p vs ds := by
  obtain ⟨p, vs, rfl, h1, h2, h3, h4⟩ := h
  exact ⟨p, vs, rfl, h1, h2, h3, S.fr.fresh h4, S.notOwn h4⟩
theorem EOk.after0 {G H : Hp} {σ : St} {E : XK} {X : XD} (S : SRel K F G H σ ρ) (hE : EOk K F E X) : EOk K (fr0 G H) E X := fun C fs d G' H' fvs h T hd hr => hE C fs d G' H' fvs h (S.fr.after0 T) hd hr
theorem wE_call {W : W0} {E : XK} {X : XD} (hE : EOk K F E X) (h : wA K F ta ρ fun ρ1 ds => W ds (RsP (P ρ1)) X) : wE K F (tCall (sp0 K W) [] E ta) ρ P := fun σ G H S Q q =>
  h σ G H S _ fun vs ds ρ1 G1 H1 h1 S1 r1 e1 => by
    rw [List.append_nil]
    refine ⟨G1, ds, _, X, S1.ex, r1, h1, fun r v G' H' hr T rr => ?_, EOk.after0 S1 hE⟩
    obtain ⟨S2, e2⟩ := S1.after0 T
    cases r with
    | fz d => exact q v d ρ1 G' H' hr S2 rr (e1.trans e2)
    | ow ds' =>
      obtain ⟨p, vs', rfl, o⟩ := RsR.own (r := .ow ds') S1 T rr
      obtain ⟨G3, S3, e3, r3⟩ := o.freeze S2
      exact q _ _ ρ1 G3 H' hr S3 r3 ((e1.trans e2).trans e3)
theorem wO_call {W : W0} {E : XK} {X : XD} {PO : Sls → List D → Prop} (hE : EOk K F E X) (h : wA K F ta ρ fun ρ1 ds => W ds (RsO (PO ρ1)) X) : wO K F (tCall (sp0 K W) [] E ta) ρ PO := fun σ G H S Q q =>
  h σ G H S _ fun vs ds ρ1 G1 H1 h1 S1 r1 e1 => by
    rw [List.append_nil]
    refine ⟨G1, ds, _, X, S1.ex, r1, h1, fun r v G' H' hr T rr => ?_, EOk.after0 S1 hE⟩
    obtain ⟨S2, e2⟩ := S1.after0 T
    cases r with
    | fz d => exact hr.elim
    | ow ds' =>
      obtain ⟨p, vs', rfl, o⟩ := RsR.own (r := .ow ds') S1 T rr
      exact q p vs' ds' ρ1 G' H' hr S2 o (e1.trans e2)
/-- behind a call that may change slot i's own list -/
theorem FrOk.after1 {G H G' H' : Hp} {σ : St} {i : Nat} {l : Kd} {ds : List D} {p : Addr} (S : SRel K F G H σ ρ) (hi : ρ[i]? = some (.ow l ds)) (hp : σ[i]? = some (some (.ref p))) (T : FrOk (fr1 G H p) G' H') : FrOk F G' H' := ⟨T.ex, fun a o h => by
    obtain ⟨o', q⟩ := S.fr.th a o h
    exact (T.old a o' q).trans (S.fr.old a o h), fun a o h np => T.kp a o (S.fr.kp a o h np) (fun z => by
      have z' : a = p := z
      subst z'
      rcases (S.own i l ds a hi hp).or with w | w
      · rw [w] at h; cases h
      · exact np w), fun a o h => by
    obtain ⟨o', q⟩ := S.fr.th a o h
    exact T.th a o' q⟩
theorem SRel.after1 {G H G' H' : Hp} {σ : St} {i : Nat} {l : Kd} {ds ds' : List D} {p : Addr} {us : List V} (S : SRel K F G H σ ρ) (hi : ρ[i]? = some (.ow l ds)) (hp : σ[i]? = some (some (.ref p))) (T : FrOk (fr1 G H p) G' H') (hg : G' p = none) (hh : H' p = some (.lst us)) (hr : RepL K G' us ds') :
    SRel K F G' H' σ (ρ.set i (.ow l ds')) ∧ Ex G G' := by
  have e : Ex G G' := fun a o h => by
    rw [T.old a o (S.ex a o h)]
    exact h
  have hl : i < ρ.length := (List.getElem?_eq_some_iff.mp hi).1
  have get : ∀ (j : Nat) (s : Sl), (ρ.set i (.ow l ds'))[j]? = some s → (j = i ∧ s = .ow l ds') ∨ (j ≠ i ∧ ρ[j]? = some s) := fun j s h => by
    by_cases hj : j = i
    · subst hj
      rw [List.getElem?_set_self hl] at h
      cases h
      exact .inl ⟨rfl, rfl⟩
    · rw [List.getElem?_set_ne (Ne.symm hj)] at h
      exact .inr ⟨hj, h⟩
  have geto : ∀ (j : Nat) (m : Kd) (es : List D), (ρ.set i (.ow l ds'))[j]? = some (.ow m es) → ∃ es', ρ[j]? = some (.ow m es') := fun j m es h => by
    rcases get j _ h with ⟨rfl, z⟩ | ⟨_, h⟩
    · cases z
      exact ⟨_, hi⟩
    · exact ⟨_, h⟩
  refine ⟨⟨FrOk.after1 S hi hp T, by rw [List.length_set]; exact S.len, fun j s w h1 h2 => ?_, fun a b q m n da db h1 h2 h3 h4 => ?_, fun j m da q h1 h2 => ?_⟩, e⟩
  · rcases get j s h1 with ⟨rfl, rfl⟩ | ⟨hj, h1⟩
    · rw [hp] at h2
      cases h2
      exact ⟨p, us, rfl, hg, hh, hr⟩
    · have q := S.sl j s w h1 h2
      cases s with
      | un => cases w <;> trivial
      | fz d =>
        cases w with
        | none => exact q
        | some v => exact Rep.up e q
      | ow m dj =>
        cases w with
        | none => exact q
        | some v =>
          obtain ⟨a, vs, rfl, q1, q2, q3⟩ := q
          have ha : a ≠ p := fun z => by
            subst z
            exact hj (S.dis j i a m l dj ds h1 hi h2 hp)
          exact ⟨a, vs, rfl, (T.old a _ q2).trans q1, T.kp a _ q2 ha, RepL.up e q3⟩
  · obtain ⟨_, h1⟩ := geto a _ _ h1
    obtain ⟨_, h2⟩ := geto b _ _ h2
    exact S.dis a b q _ _ _ _ h1 h2 h3 h4
  · obtain ⟨es', h1⟩ := geto j _ _ h1
    exact S.own j m es' q h1 h2
theorem EOk.after1 {G H : Hp} {σ : St} {i : Nat} {l : Kd} {ds : List D} {p : Addr} {E : XK} {X : XD} (S : SRel K F G H σ ρ) (hi : ρ[i]? = some (.ow l ds)) (hp : σ[i]? = some (some (.ref p))) (hE : EOk K F E X) : EOk K (fr1 G H p) E X := fun C fs d G' H' fvs h T hd hr => hE C fs d G' H' fvs h (FrOk.after1 S hi hp T) hd hr
theorem wE_call1 {W : W1} {E : XK} {X : XD} {i : Nat} {tr : TA} (hE : EOk K F E X) (hi : ∃ (l : Kd) (ds : List D), ρ[i]? = some (.ow l ds)) (h : wA K F tr ρ fun ρ1 es => ∃ (l : Kd) (ds : List D), ρ1[i]? = some (.ow l ds) ∧ W ds es (fun ds' r => RsP (P (ρ1.set i (.ow l ds'))) r) X) :
    wE K F (tCall (sp1 K W) [] E (tCons (tVar i) tr)) ρ P := fun σ G H S Q q => by
  obtain ⟨l0, ds0, hi⟩ := hi
  obtain ⟨p, us0, hp, _⟩ := S.ow hi
  refine ⟨.ref p, hp, h σ G H S _ fun vs es ρ1 G1 H1 h1 S1 r1 e1 => ?_⟩
  obtain ⟨l, ds, hi1, hW⟩ := h1
  obtain ⟨p', us, hp', hg, hh, hr⟩ := S1.ow hi1
  rw [hp] at hp'
  cases hp'
  show sp1 K W ((V.ref p :: vs) ++ []) H1 Q E
  rw [List.append_nil]
  refine ⟨G1, p, us, ds, vs, es, _, X, rfl, S1.ex, hg, hh, hr, r1, hW, fun ds' r v G' H' us' hΦ T hg' hh' hr' rr => ?_, EOk.after1 S1 hi1 hp hE⟩
  obtain ⟨S2, e2⟩ := S1.after1 hi1 hp T hg' hh' hr'
  cases r with
  | fz d => exact q v d _ G' H' hΦ S2 rr (e1.trans e2)
  | ow ds2 =>
    obtain ⟨a, ws, rfl, k1, k2, k3, k4⟩ := rr
    have o : Own K F G' H' σ (ρ1.set i (.ow l ds')) a ws ds2 := ⟨k1, k2, k3, S1.fr.fresh k4, fun j m es hj => by
      by_cases hji : j = i
      · subst hji
        intro z
        rw [hp] at z
        cases z
        have k4' : H1 p = none := k4
        rw [hh] at k4'
        cases k4'
      · rw [List.getElem?_set_ne (Ne.symm hji)] at hj
        exact S1.notOwn (show H1 a = none from k4) j m es hj⟩
    obtain ⟨G3, S3, e3, r3⟩ := o.freeze S2
    exact q _ _ _ G3 H' hΦ S3 r3 ((e1.trans e2).trans e3)

/-! ### a def's body against its promise -/
def st0 (N : List Str) (ds : List D) : Sls := ds.map .fz ++ List.replicate (N.length - ds.length) .un
def out0 (Φ : Rs → Prop) : Out := { nx := fun _ => Φ (.fz .non), rt := fun _ d => Φ (.fz d), ro := fun _ ds => Φ (.ow ds) }
theorem start_get {N : List Str} {vs : List V} {i : Nat} {o : Option V} (h : (start N vs)[i]? = some o) : (i < vs.length ∧ o = vs[i]?) ∨ (vs.length ≤ i ∧ o = none) := by
  unfold L2.start at h
  by_cases hl : i < vs.length
  · rw [List.getElem?_append_left (by rw [List.length_map]; exact hl), List.getElem?_map, List.getElem?_eq_getElem hl] at h
    cases h
    exact .inl ⟨hl, (List.getElem?_eq_getElem hl).symm⟩
  · rw [List.getElem?_append_right (by rw [List.length_map]; omega)] at h
    refine .inr ⟨by omega, ?_⟩
    have := List.mem_of_getElem? h
    exact (List.mem_replicate.mp this).2
theorem st0_get {N : List Str} {ds : List D} {i : Nat} {s : Sl} (h : (st0 N ds)[i]? = some s) : (∃ d, ds[i]? = some d ∧ s = .fz d) ∨ s = .un := by
  unfold st0 at h
  by_cases hl : i < ds.length
  · rw [List.getElem?_append_left (by rw [List.length_map]; exact hl), List.getElem?_map, List.getElem?_eq_getElem hl] at h
    cases h
    exact .inl ⟨ds[i], List.getElem?_eq_getElem hl, rfl⟩
  · rw [List.getElem?_append_right (by rw [List.length_map]; omega)] at h
    exact .inr (List.mem_replicate.mp (List.mem_of_getElem? h)).2
theorem srel0 {N : List Str} {vs : List V} {ds : List D} {G H : Hp} (e : Ex G H) (r : RepL K G vs ds) : SRel K (fr0 G H) G H (start N vs) (st0 N ds) := by
  refine ⟨⟨e, fun _ _ _ => rfl, fun a o h _ => h, fun a o h => ⟨o, h⟩⟩, ?_, fun i s o h1 h2 => ?_, fun i j p l m di dj h1 => ?_, fun i l di p h1 => ?_⟩
  · unfold L2.start st0
    rw [List.length_append, List.length_append, List.length_map, List.length_map, List.length_replicate, List.length_replicate, r.length]
  · rcases st0_get h1 with ⟨d, hd, rfl⟩ | rfl
    · obtain ⟨v, hv, rv⟩ := r.get hd
      rcases start_get h2 with ⟨_, z⟩ | ⟨z, _⟩
      · rw [z, hv]
        exact rv
      · rw [List.getElem?_eq_none z] at hv
        cases hv
    · cases o <;> trivial
  · rcases st0_get h1 with ⟨_, _, z⟩ | z <;> cases z
  · rcases st0_get h1 with ⟨_, _, z⟩ | z <;> cases z
theorem body0 {W : W0} {t : TS} {N : List Str} {vs : List V} {H : Hp} {Q : VK} {E : XK} (h : sp0 K W vs H Q E) (hb : ∀ (ds : List D) (Φ : Rs → Prop) (X : XD) (F : Fr), W ds Φ X → EOk K F E X → wS K F t (st0 N ds) (out0 Φ)) : t { nx := fun _ H' => Q .non H', rt := Q } (start N vs) H := by
  obtain ⟨G, ds, Φ, X, e, r, hW, hQ, hE⟩ := h
  exact hb ds Φ X (fr0 G H) hW hE _ G H (srel0 e r) _ ⟨fun ρ σ G' H' h S _ => hQ _ _ G' H' h S.fr .non, fun ρ σ G' H' v d h S _ rr => hQ _ v G' H' h S.fr rr, fun ρ σ G' H' p ws ds' h S _ h1 h2 h3 h4 => hQ _ _ G' H' h S.fr ⟨p, ws, rfl, h1, h2, h3, h4⟩, fun _ _ _ _ h => h.elim, fun _ _ _ _ h => h.elim⟩
theorem sp0_len {W : W0} {vs : List V} {H : Hp} {Q : VK} {E : XK} {n : Nat} (hl : ∀ ds Φ X, W ds Φ X → ds.length = n) (h : sp0 K W vs H Q E) : vs.length = n := by
  obtain ⟨G, ds, Φ, X, e, r, hW, hQ, hE⟩ := h
  rw [r.length]
  exact hl ds Φ X hW
def st1 (N : List Str) (ds es : List D) : Sls := .ow .par ds :: (es.map .fz ++ List.replicate (N.length - (es.length + 1)) .un)
def out1 (Φ : List D → Rs → Prop) : Out := { nx := fun ρ => ∃ ds, ρ[0]? = some (.ow .par ds) ∧ Φ ds (.fz .non), rt := fun ρ d => ∃ ds, ρ[0]? = some (.ow .par ds) ∧ Φ ds (.fz d), ro := fun ρ es => ∃ ds, ρ[0]? = some (.ow .par ds) ∧ Φ ds (.ow es) }
theorem srel1 {N : List Str} {p : Addr} {us vs : List V} {ds es : List D} {G H : Hp} (e : Ex G H) (hg : G p = none) (hh : H p = some (.lst us)) (hr : RepL K G us ds) (r : RepL K G vs es) : SRel K (fr1 G H p) G H (start N (.ref p :: vs)) (st1 N ds es) := by
  have es1 : st1 N ds es = .ow .par ds :: (es.map .fz ++ List.replicate (N.length - (es.length + 1)) .un) := rfl
  have get : ∀ (i : Nat) (s : Sl), (st1 N ds es)[i]? = some s → (i = 0 ∧ s = .ow .par ds) ∨ (∃ j d, i = j + 1 ∧ es[j]? = some d ∧ s = .fz d) ∨ s = .un := fun i s h => by
    cases i with
    | zero => cases h; exact .inl ⟨rfl, rfl⟩
    | succ j =>
      right
      have h' : (es.map Sl.fz ++ List.replicate (N.length - (es.length + 1)) Sl.un)[j]? = some s := h
      by_cases hl : j < es.length
      · rw [List.getElem?_append_left (by rw [List.length_map]; exact hl), List.getElem?_map, List.getElem?_eq_getElem hl] at h'
        cases h'
        exact .inl ⟨j, es[j], rfl, List.getElem?_eq_getElem hl, rfl⟩
      · rw [List.getElem?_append_right (by rw [List.length_map]; omega)] at h'
        exact .inr (List.mem_replicate.mp (List.mem_of_getElem? h')).2
  have s0 : ∀ o, (start N (.ref p :: vs))[0]? = some o → o = some (.ref p) := fun o h => by
    rcases start_get h with ⟨_, z⟩ | ⟨z, _⟩
    · exact z
    · simp at z
  refine ⟨⟨e, fun _ _ _ => rfl, fun a o h _ => h, fun a o h => ⟨o, h⟩⟩, ?_, fun i s o h1 h2 => ?_, fun i j q l m di dj h1 h2 _ _ => ?_, fun i l di q h1 h2 => ?_⟩
  · unfold L2.start st1
    simp only [List.length_append, List.length_map, List.length_cons, List.length_replicate, r.length]
    omega
  · rcases get i s h1 with ⟨rfl, rfl⟩ | ⟨j, d, rfl, hd, rfl⟩ | rfl
    · rw [s0 o h2]
      exact ⟨p, us, rfl, hg, hh, hr⟩
    · obtain ⟨v, hv, rv⟩ := r.get hd
      rcases start_get h2 with ⟨_, z⟩ | ⟨z, _⟩
      · rw [z, List.getElem?_cons_succ, hv]
        exact rv
      · rw [List.length_cons] at z
        rw [List.getElem?_eq_none (by omega)] at hv
        cases hv
    · cases o <;> trivial
  · rcases get i _ h1 with ⟨rfl, _⟩ | ⟨_, _, _, _, z⟩ | z
    · rcases get j _ h2 with ⟨rfl, _⟩ | ⟨_, _, _, _, z⟩ | z
      · rfl
      · cases z
      · cases z
    · cases z
    · cases z
  · rcases get i _ h1 with ⟨rfl, z⟩ | ⟨_, _, _, _, z⟩ | z
    · cases z
      have := s0 _ h2
      cases this
      exact rfl
    · cases z
    · cases z
theorem body1 {W : W1} {t : TS} {N : List Str} {vs : List V} {H : Hp} {Q : VK} {E : XK} (h : sp1 K W vs H Q E) (hb : ∀ (ds es : List D) (Φ : List D → Rs → Prop) (X : XD) (F : Fr), W ds es Φ X → EOk K F E X → wS K F t (st1 N ds es) (out1 Φ)) : t { nx := fun _ H' => Q .non H', rt := Q } (start N vs) H := by
  obtain ⟨G, p, us, ds, ws, es, Φ, X, rfl, e, hg, hh, hr, r, hW, hQ, hE⟩ := h
  have key : ∀ {ρ : Sls} {σ : St} {G' H' : Hp} {ds' : List D}, SRel K (fr1 G H p) G' H' σ ρ → ρ[0]? = some (.ow .par ds') → ∃ us', G' p = none ∧ H' p = some (.lst us') ∧ RepL K G' us' ds' := fun {ρ σ G' H' ds'} S h0 => by
    obtain ⟨p', us', h1, h2, h3, h4⟩ := S.ow h0
    have z : p' = p := S.own 0 .par ds' p' h0 h1
    subst z
    exact ⟨us', h2, h3, h4⟩
  refine hb ds es Φ X (fr1 G H p) hW hE _ G H (srel1 e hg hh hr r) _ ⟨fun ρ σ G' H' h S _ => ?_, fun ρ σ G' H' v d h S _ rr => ?_, fun ρ σ G' H' q zs ds' h S _ h1 h2 h3 h4 => ?_, fun _ _ _ _ h => h.elim, fun _ _ _ _ h => h.elim⟩
  · obtain ⟨ds', h0, hΦ⟩ := h
    obtain ⟨us', k1, k2, k3⟩ := key S h0
    exact hQ ds' _ _ G' H' us' hΦ S.fr k1 k2 k3 .non
  · obtain ⟨ds', h0, hΦ⟩ := h
    obtain ⟨us', k1, k2, k3⟩ := key S h0
    exact hQ ds' _ v G' H' us' hΦ S.fr k1 k2 k3 rr
  · obtain ⟨es', h0, hΦ⟩ := h
    obtain ⟨us', k1, k2, k3⟩ := key S h0
    exact hQ es' _ _ G' H' us' hΦ S.fr k1 k2 k3 ⟨q, zs, rfl, h1, h2, h3, h4⟩
theorem sp1_len {W : W1} {vs : List V} {H : Hp} {Q : VK} {E : XK} {n : Nat} (hl : ∀ ds es Φ X, W ds es Φ X → es.length + 1 = n) (h : sp1 K W vs H Q E) : vs.length = n := by
  obtain ⟨G, p, us, ds, ws, es, Φ, X, rfl, e, hg, hh, hr, r, hW, hQ, hE⟩ := h
  rw [List.length_cons, r.length]
  exact hl ds es Φ X hW
/-- the law: a list of at most 63 ints is handed in, True comes out -/
def WLaw : W0 := fun ds Φ _ => ∃ ns : List Int, ns.length ≤ 63 ∧ ds = [.scr ns] ∧ Φ (.fz (.bl true))
theorem law_sp (K : PySem.W.Frag) (H : Hp) (a : Addr) (ns : List Int) (hl : ns.length ≤ 63) (ho : Only H) (hS : SqL K H a (ns.map V.int)) : sp0 K WLaw [.ref a] H (fun v _ => v = .bl true) fun _ _ _ => False :=
  ⟨H, [.scr ns], fun r => r = .fz (.bl true), X0, Ex.refl H, .cons (.scr hS) .nil, ⟨ns, hl, rfl, rfl⟩, fun r v G' H' hr _ rr => by
    subst hr
    cases rr
    rfl, eok0⟩
end
end DL
namespace DL
open PySem L2
open Evl (Ex)

/-! ### rules of one's own at the level of the hand layer -/
/-- a def of the module that may be called by its name -/
structure Callee (P : Program) (w : World) (K : PySem.W.Frag) (mg : Str → Option Value) (base : Heap) (k : Nat) (x : Str) (sp : Sp) : Prop where
  ex : ∃ (f : Addr) (fd : FuncData) (ps : List Str), FnOk P w K mg base L2.CX0 k f fd ps sp ∧ mg x = some (.ref f) ∧ PySem.W.keepIn K (.ref f) = true ∧ Binds K fd ps []
theorem Callee.mono {P : Program} {w : World} {K : PySem.W.Frag} {mg : Str → Option Value} {base : Heap} {j k : Nat} {x : Str} {sp : Sp} (c : Callee P w K mg base j x sp) (h : j ≤ k) : Callee P w K mg base k x sp := by
  obtain ⟨f, fd, ps, F, r⟩ := c.ex
  exact ⟨f, fd, ps, F.mono h, r⟩
section
variable {X : Cx} {k j : Nat} {x : Str} {sp : Sp} {p pos : Pos} {e : Expr} {es : List Expr} {t : TA}
theorem pe_cl (c : Callee X.prog X.w X.K X.mg X.base k x sp) (hr : Room j X.A) (hk : k ≤ j) (hg : Gl X x) (ha : PA X (e :: es) t)
    (hd : (x == ("__debug__" : Str)) = false := by decide) (he : starEach (e :: es) X.env = (false, eval e X.env) :: starEach es X.env := by rfl) (hpl : (backTo pos (starEach es X.env)).any (·.1) = false := by rfl) : PE X (.Call (.Name x p) (e :: es) [] pos) (tCall sp [] L2.E0 t) := by
  obtain ⟨f, fd, ps, F, hm, hkp, hb⟩ := c.ex
  exact pe_call F (hr.mono hk) hg hm hkp hb .nil pass0 ha hd he hpl
theorem pe_cl0 (c : Callee X.prog X.w X.K X.mg X.base k x sp) (hr : Room j X.A) (hk : k ≤ j) (hg : Gl X x)
    (hd : (x == ("__debug__" : Str)) = false := by decide) : PE X (.Call (.Name x p) [] [] pos) (tCall sp [] L2.E0 tNil) := by
  obtain ⟨f, fd, ps, F, hm, hkp, hb⟩ := c.ex
  exact pe_call0 F (hr.mono hk) hg hm hkp hb .nil pass0 hd
/-- a constant of the module -/
structure Kon (K : PySem.W.Frag) (mg : Str → Option Value) (x : Str) (d : D) : Prop where
  ex : ∃ u v, mg x = some u ∧ RelV v u ∧ ∀ G, Rep K G v d
/-- + of numbers, of lists, of texts -/
def rPlus : R2 := fun x y H Q => (rI0 fun i j => .int (i + j)) x y H Q ∨ rCat x y H Q ∨ (∃ i j, x = .str i ∧ y = .str j ∧ i.length + j.length ≤ sizeLine ∧ Q (.str (i ++ j)) H)
theorem op_plus : OpR X (binaryOp .Add) rPlus := op_add.or (op_cat.or op_add_str)
/-- is True, is False -/
def rIsTF (neg : Bool) : R2 := fun x y H Q => ∃ b : Bool, y = .bl b ∧ ((∃ a : Bool, x = .bl a ∧ Q (.bl (xor neg (decide (a = b)))) H) ∨ ((∀ a, x ≠ .bl a) ∧ (∀ n, x ≠ .ty n) ∧ Q (.bl neg) H))
end
/-- list.count of flat things -/
def rCntF (K : PySem.W.Frag) : V → List V → Hp → VK → Prop := fun x xs H Q => ∃ (p : Addr) (ys : List V) (y : V), x = .ref p ∧ xs = [y] ∧ SqL K H p ys ∧ flatV y = true ∧ ys.all flatV = true ∧ Q (.int ((ys.countP fun z => eqV z y : Nat) : Int)) H
theorem countP_eqU {x : V} : ∀ {xs : List V} {us : List Value}, Vals xs us → xs.all flatV = true → us.countP (eqU x) = xs.countP fun y => eqV y x
  | _, _, .nil, _ => rfl
  | _, _, .cons r t, f => by
    rw [List.all_cons, Bool.and_eq_true] at f
    rw [List.countP_cons, List.countP_cons, countP_eqU t f.2, eqU_of r f.1]
theorem mt_countF {X : Cx} : MtR X "list.count" (rCntF X.K) := by
  intro pins s σ H x xs v us Q I rx rxs h
  obtain ⟨p, ys, y, rfl, rfl, hs, fy, fys, q⟩ := h
  cases rx
  obtain ⟨u, rfl, ru⟩ := rxs.one
  obtain ⟨its, rv, ⟨⟨cls, dd, data, sl⟩, n, ho, hc, hdn, hd⟩, hlen⟩ := I.list hs
  simp only at hc hd
  subst hc hd
  refine call_meets PySem.F.slot_list_count ⟨_, ho, rfl⟩ PySem.F.entry_list_count (PySem.F.args_list_count_2 _ _)
    (SeqAt.list_countAt p its.toArray n dd sl u (eqU y)) ⟨ho, fun z hz => mem_eqAt ru fy rv fys z (by simpa using hz), ?_⟩
  have ec : its.toArray.toList.countP (eqU y) = ys.countP fun z => eqV z y := by
    rw [← countP_eqU rv fys]
  refine ⟨.int _, H, I.tok _, ⟨s.toks, ?_⟩, q⟩
  show Value.int ((its.toArray.toList.countP (eqU y) : Nat) : Int) s.toks = _
  rw [ec]

theorem rso_ow {P : List D → Prop} {ds : List D} (h : P ds) : RsO P (.ow ds) := h
theorem rng_at {lo : Int} {n i : Nat} {x : D} (h : (rng lo n)[i]? = some x) : i < n ∧ x = .int (lo + (i : Int)) := by
  have hl := (List.getElem?_eq_some_iff.mp h).1
  rw [rng_len] at hl
  rw [rng_get hl] at h
  cases h
  exact ⟨hl, rfl⟩
theorem rsp_fz {P : D → Prop} {d : D} (h : P d) : RsP P (.fz d) := h
section
variable {K : PySem.W.Frag} {F : Fr} {g : TG} {tt : TT} {te : TE} {vs : List Nat} {ρ : Sls} {acc : List D} {P : Sls → List D → Prop} {x : D} {r : List D} {tb : TS} {O : Out}
theorem compL_nil (h : P ρ acc) : compL K g tt te vs [] ρ acc P := h
theorem compL_cons (h : ∀ F, wG K F g x ρ fun ρ2 => wT K F tt ρ2 fun ρ3 b => Ways b (wE K F te ρ3 fun ρ4 y => compL K g tt te vs r (wipeU ρ4 vs) (acc ++ [y]) P) (compL K g tt te vs r (wipeU ρ3 vs) acc P)) : compL K g tt te vs (x :: r) ρ acc P := h
theorem forS_nil (h : O.nx ρ) : forS K F g tb O [] ρ := h
theorem forS_cons (h : wG K F g x ρ fun ρ3 => wS K F tb ρ3 { nx := forS K F g tb O r, ct := forS K F g tb O r, bk := O.nx, rt := O.rt, ro := O.ro }) : forS K F g tb O (x :: r) ρ := h
theorem wT_yes {PB : Sls → Bool → Prop} (h : PB ρ true) : wT K F tYes ρ PB := fun σ G H S Q q => q true ρ G H h S (Ex.refl G)
end
/-! ### their readings over data -/
section
variable {K : PySem.W.Frag} {F : Fr} {ρ : Sls} {P : Sls → D → Prop} {te ta tb : TE} {r : R2} {x y : D}
theorem wE_un {rr : V → Hp → VK → Prop} (h : wE K F ta ρ fun ρ1 x => wC K F (fun vs H Q => ∃ v, vs = [v] ∧ rr v H Q) [x] ρ1 P) : wE K F (tUn rr ta) ρ P := fun σ G H S Q q =>
  h σ G H S _ fun v x ρ1 G1 H1 h1 S1 r1 e1 => by
    obtain ⟨v', e, z⟩ := h1 σ G1 H1 [v] S1 (.cons r1 .nil) Q fun w d ρ' G' H' p S' r' e' => q w d ρ' G' H' p S' r' (e1.trans e')
    cases e
    exact z
theorem wC_neg {i : Int} (p : P ρ (.int (-i))) : wC K F (fun vs H Q => ∃ v, vs = [v] ∧ rU (fun i => .int (-i)) v H Q) [.int i] ρ P := fun σ G H vs S rs Q q => by
  cases rs with
  | cons r1 rr =>
    cases rr; cases r1
    exact ⟨_, rfl, i, rfl, q _ _ ρ G H p S (.int _) (Ex.refl G)⟩
/-- a rest by a positive number, of which its bounds alone are told -/
theorem wR_modB {i j : Int} (hj : 0 < j) (p : ∀ r : Int, 0 ≤ r → r < j → P ρ (.int r)) : wR K F (rI (fun _ j => 0 < j) fun i j => .int (i % j)) (.int i) (.int j) ρ P := wR_I hj (p _ (Int.emod_nonneg _ (by omega)) (Int.emod_lt_of_pos _ hj))
theorem wS_set0 {O : Out} {i : Nat} (h : wE K F te ρ fun ρ1 x => ∃ (l : Kd) (ds : List D), ρ1[i]? = some (.ow l ds) ∧ 0 < ds.length ∧ O.nx (ρ1.set i (.ow l (ds.set 0 x)))) : wS K F (tAsg te (gSub (tVar i) (tC (.int 0)) rSetL)) ρ O :=
  wS_setIx (wE_mono h fun ρ1 x ⟨l, ds, h1, h3, h4⟩ => ⟨l, ds, h1, wE_int ⟨l, ds, 0, rfl, h1, h3, h4⟩⟩)
theorem wS_set1 {O : Out} {i : Nat} (h : wE K F te ρ fun ρ1 x => ∃ (l : Kd) (ds : List D), ρ1[i]? = some (.ow l ds) ∧ 1 < ds.length ∧ O.nx (ρ1.set i (.ow l (ds.set 1 x)))) : wS K F (tAsg te (gSub (tVar i) (tC (.int 1)) rSetL)) ρ O :=
  wS_setIx (wE_mono h fun ρ1 x ⟨l, ds, h1, h3, h4⟩ => ⟨l, ds, h1, wE_int ⟨l, ds, 1, rfl, h1, h3, h4⟩⟩)
theorem wS_set2 {O : Out} {i : Nat} (h : wE K F te ρ fun ρ1 x => ∃ (l : Kd) (ds : List D), ρ1[i]? = some (.ow l ds) ∧ 2 < ds.length ∧ O.nx (ρ1.set i (.ow l (ds.set 2 x)))) : wS K F (tAsg te (gSub (tVar i) (tC (.int 2)) rSetL)) ρ O :=
  wS_setIx (wE_mono h fun ρ1 x ⟨l, ds, h1, h3, h4⟩ => ⟨l, ds, h1, wE_int ⟨l, ds, 2, rfl, h1, h3, h4⟩⟩)
theorem wR_plusI {i j : Int} (p : P ρ (.int (i + j))) : wR K F rPlus (.int i) (.int j) ρ P := fun σ G H vx vy S rx ry Q q => .inl (wR_I0 (g := fun i j => i + j) p σ G H vx vy S rx ry Q q)
theorem wRO_plusL {xs ys : List D} {PO : Sls → List D → Prop} (hl : xs.length + ys.length ≤ 100000) (p : PO ρ (xs ++ ys)) : wRO K F rPlus (.lst xs) (.lst ys) ρ PO := fun σ G H vx vy S rx ry Q q => .inr (.inl (wRO_cat hl p σ G H vx vy S rx ry Q q))
theorem wR_plusS {a b : Str} (hl : a.length + b.length ≤ 100000) (p : P ρ (.str (a ++ b))) : wR K F rPlus (.str a) (.str b) ρ P := fun σ G H vx vy S rx ry Q q => by
  cases rx
  cases ry
  exact .inr (.inr ⟨a, b, rfl, rfl, Evl.sz_of hl, q _ _ ρ G H p S (.str _) (Ex.refl G)⟩)
theorem wR_xL {ds : List D} {i : Int} {d : D} (h : atI ds i = some d) (p : P ρ d) : wR K F (rIx K) (.lst ds) (.int i) ρ P := fun σ G H vx vy S rx ry Q q => .inl (wR_ixL h p σ G H vx vy S rx ry Q q)
theorem wR_xT {ds : List D} {i : Int} {d : D} (h : atI ds i = some d) (p : P ρ d) : wR K F (rIx K) (.tup ds) (.int i) ρ P := fun σ G H vx vy S rx ry Q q => .inr (.inl (wR_ixT h p σ G H vx vy S rx ry Q q))
theorem wR_xLAll {ds : List D} {i : Int} (h0 : 0 ≤ i) (h1 : i < (ds.length : Int)) (p : ∀ d, d ∈ ds → P ρ d) : wR K F (rIx K) (.lst ds) (.int i) ρ P := fun σ G H vx vy S rx ry Q q => .inl (wR_ixLAll h0 h1 p σ G H vx vy S rx ry Q q)
theorem wR_xScr {ns : List Int} {i : Int} {n : Int} (h : atI ns i = some n) (p : P ρ (.int n)) : wR K F (rIx K) (.scr ns) (.int i) ρ P := fun σ G H vx vy S rx ry Q q => .inl (wR_ixScr h p σ G H vx vy S rx ry Q q)
theorem wR_xS {z : Str} {i : Int} {c : Nat} (hl : z.length ≤ 100000) (h : atI z.cps.toList i = some c) (p : P ρ (.str ⟨#[c]⟩)) : wR K F (rIx K) (.str z) (.int i) ρ P := fun σ G H vx vy S rx ry Q q => by
  cases rx
  cases ry
  exact .inr (.inr ⟨z, i, c, rfl, rfl, Evl.sz_of hl, h, q _ _ ρ G H p S (.str _) (Ex.refl G)⟩)
theorem wE_xO {i : Nat} {l : Kd} {ds : List D} (h : ρ[i]? = some (.ow l ds)) (hb : wE K F tb ρ fun ρ2 y => ∃ (k : Int) (ds2 : List D) (d : D), y = .int k ∧ ρ2[i]? = some (.ow l ds2) ∧ atI ds2 k = some d ∧ P ρ2 d) : wE K F (tOp (rIx K) (tVar i) tb) ρ P := fun σ G H S Q q => by
  obtain ⟨p, vs, e, hg, hh, hr⟩ := S.ow h
  refine ⟨.ref p, e, hb σ G H S _ fun vy y ρ2 G2 H2 hp S2 r2 e2 => ?_⟩
  obtain ⟨k, ds2, d, rfl, hi2, ha, pp⟩ := hp
  obtain ⟨p2, vs2, e', hg2, hh2, hr2⟩ := S2.ow hi2
  rw [e] at e'
  cases e'
  cases r2
  obtain ⟨v, ev, rv⟩ := atI_rep hr2 ha
  exact .inl ⟨p, vs2, k, v, rfl, rfl, SqL.of hh2, ev, q _ _ ρ2 G2 H2 pp S2 rv e2⟩
/-- own[c], c a written place -/
theorem wE_xOc {i : Nat} {l : Kd} {ds : List D} {k : Int} {d : D} (h : ρ[i]? = some (.ow l ds)) (ha : atI ds k = some d) (p : P ρ d) : wE K F (tOp (rIx K) (tVar i) (tC (.int k))) ρ P := wE_xO h (wE_int ⟨k, ds, d, rfl, h, ha, p⟩)
theorem wS_setIxc {O : Out} {i : Nat} {l : Kd} {k : Int} {j : Nat} (h : wE K F te ρ fun ρ1 x => ∃ ds : List D, ρ1[i]? = some (.ow l ds) ∧ k = (j : Int) ∧ j < ds.length ∧ O.nx (ρ1.set i (.ow l (ds.set j x)))) : wS K F (tAsg te (gSub (tVar i) (tC (.int k)) rSetL)) ρ O :=
  wS_setIx (wE_mono h fun ρ1 x ⟨ds, h1, h2, h3, h4⟩ => ⟨l, ds, h1, wE_int ⟨l, ds, j, by rw [h2], h1, h3, h4⟩⟩)
theorem wE_countF {t : TE} (h : wE K F ta ρ fun ρ1 x => ∃ ds, x = .lst ds ∧ wE K F t ρ1 fun ρ2 y => flatD y = true ∧ ds.all flatD = true ∧ P ρ2 (.int (((ds.map valD).countP fun z => eqV z (valD y) : Nat) : Int))) : wE K F (tBM K "list" (rCntF K) ta (tCons t tNil)) ρ P := fun σ G H S Q q =>
  h σ G H S _ fun v x ρ1 G1 H1 h1 S1 r1 e1 => by
    obtain ⟨ds, rfl, h2⟩ := h1
    cases r1 with
    | lst ha hr =>
      refine ⟨.inl ⟨rfl, _, SqL.of (S1.ex _ _ ha)⟩, h2 σ G1 H1 S1 _ fun vy y ρ2 G2 H2 hp S2 r2 e2 => ?_⟩
      obtain ⟨fy, fd, p⟩ := hp
      obtain ⟨ev, fv⟩ := r2.flat fy
      obtain ⟨ew, fw⟩ := hr.flat fd
      subst ev ew
      exact ⟨_, _, _, rfl, rfl, SqL.of (S2.ex _ _ (e2 _ _ ha)), fv, fw, q _ _ ρ2 G2 H2 p S2 (.int _) (e1.trans e2)⟩
/-! isinstance, by the built-in class -/
theorem wC_isiG {c : String} {f : D → Bool} (h : ∀ (n : String) (y : D), tyD y = some n → kitB n c = some (f y)) (hx : (tyD x).isSome = true) (p : P ρ (.bl (f x))) : wC K F (rIsi K) [x, .ty c] ρ P := by
  cases e : tyD x with
  | none => rw [e] at hx; cases hx
  | some n => exact wC_isi e (h n x e) p
def intD : D → Bool
  | .int _ => true
  | .bl _ => true
  | _ => false
def boolD : D → Bool
  | .bl _ => true
  | _ => false
def strD : D → Bool
  | .str _ => true
  | _ => false
def lstD : D → Bool
  | .lst _ => true
  | _ => false
def tupD : D → Bool
  | .tup _ => true
  | _ => false
def dctD : D → Bool
  | .dct _ => true
  | _ => false
theorem kit_int (n : String) (y : D) (e : tyD y = some n) : kitB n "int" = some (intD y) := by
  cases y <;> cases e <;> first | (show kitB _ _ = some true; decide +kernel) | (show kitB _ _ = some false; decide +kernel)
theorem kit_bool (n : String) (y : D) (e : tyD y = some n) : kitB n "bool" = some (boolD y) := by
  cases y <;> cases e <;> first | (show kitB _ _ = some true; decide +kernel) | (show kitB _ _ = some false; decide +kernel)
theorem kit_str (n : String) (y : D) (e : tyD y = some n) : kitB n "str" = some (strD y) := by
  cases y <;> cases e <;> first | (show kitB _ _ = some true; decide +kernel) | (show kitB _ _ = some false; decide +kernel)
theorem kit_list (n : String) (y : D) (e : tyD y = some n) : kitB n "list" = some (lstD y) := by
  cases y <;> cases e <;> first | (show kitB _ _ = some true; decide +kernel) | (show kitB _ _ = some false; decide +kernel)
theorem kit_tuple (n : String) (y : D) (e : tyD y = some n) : kitB n "tuple" = some (tupD y) := by
  cases y <;> cases e <;> first | (show kitB _ _ = some true; decide +kernel) | (show kitB _ _ = some false; decide +kernel)
theorem kit_dict (n : String) (y : D) (e : tyD y = some n) : kitB n "dict" = some (dctD y) := by
  cases y <;> cases e <;> first | (show kitB _ _ = some true; decide +kernel) | (show kitB _ _ = some false; decide +kernel)
theorem wC_isInt (hx : (tyD x).isSome = true) (p : P ρ (.bl (intD x))) : wC K F (rIsi K) [x, .ty "int"] ρ P := wC_isiG kit_int hx p
theorem wC_isBool (hx : (tyD x).isSome = true) (p : P ρ (.bl (boolD x))) : wC K F (rIsi K) [x, .ty "bool"] ρ P := wC_isiG kit_bool hx p
theorem wC_isStr (hx : (tyD x).isSome = true) (p : P ρ (.bl (strD x))) : wC K F (rIsi K) [x, .ty "str"] ρ P := wC_isiG kit_str hx p
theorem wC_isList (hx : (tyD x).isSome = true) (p : P ρ (.bl (lstD x))) : wC K F (rIsi K) [x, .ty "list"] ρ P := wC_isiG kit_list hx p
theorem wC_isTuple (hx : (tyD x).isSome = true) (p : P ρ (.bl (tupD x))) : wC K F (rIsi K) [x, .ty "tuple"] ρ P := wC_isiG kit_tuple hx p
theorem wC_isDict (hx : (tyD x).isSome = true) (p : P ρ (.bl (dctD x))) : wC K F (rIsi K) [x, .ty "dict"] ρ P := wC_isiG kit_dict hx p
/-- a constant of the module -/
theorem wC_all {bs : List Bool} (p : P ρ (.bl (bs.all id))) : wC K F (rAll K) [.lst (bs.map D.bl)] ρ P := fun σ G H vs S rs Q q => by
  cases rs with
  | cons r1 rr =>
    cases rr
    cases r1 with
    | lst h1 h2 =>
      have e := h2.bls
      subst e
      exact ⟨_, bs, rfl, SqL.of (S.ex _ _ h1), q _ _ ρ G H p S (.bl _) (Ex.refl G)⟩
theorem wC_any {bs : List Bool} (p : P ρ (.bl (bs.any id))) : wC K F (rAny K) [.lst (bs.map D.bl)] ρ P := fun σ G H vs S rs Q q => by
  cases rs with
  | cons r1 rr =>
    cases rr
    cases r1 with
    | lst h1 h2 =>
      have e := h2.bls
      subst e
      exact ⟨_, bs, rfl, SqL.of (S.ex _ _ h1), q _ _ ρ G H p S (.bl _) (Ex.refl G)⟩
end
end DL
namespace DL
open PySem L2
open Evl (Ex)
section
variable {K : PySem.W.Frag} {F : Fr} {ρ : Sls} {P : Sls → D → Prop} {te ta tb : TE} {r : R2} {x y : D}
theorem rsp_ow {P : D → Prop} {ds : List D} (h : P (.lst ds)) : RsP P (.ow ds) := h
/-! ### parts of a slice, parts of lists -/
def wP (K : PySem.W.Frag) (F : Fr) (t : TO) (ρ : Sls) (P : Sls → Option Int → Prop) : Prop := ∀ (σ : St) (G H : Hp), SRel K F G H σ ρ → ∀ Q : Option Int → Hp → Prop,
  (∀ (o : Option Int) (ρ' : Sls) (G' H' : Hp), P ρ' o → SRel K F G' H' σ ρ' → Ex G G' → Q o H') → t σ H Q
theorem wP_no {PP : Sls → Option Int → Prop} (p : PP ρ none) : wP K F tNoPart ρ PP := fun σ G H S Q q => q none ρ G H p S (Ex.refl G)
theorem wP_some {PP : Sls → Option Int → Prop} (h : wE K F te ρ fun ρ1 x => ∃ i, x = .int i ∧ PP ρ1 (some i)) : wP K F (tPart te) ρ PP := fun σ G H S Q q =>
  h σ G H S _ fun v x ρ1 G1 H1 h1 S1 r1 e1 => by
    obtain ⟨i, rfl, p⟩ := h1
    cases r1
    exact ⟨i, rfl, q _ ρ1 G1 H1 p S1 e1⟩
def cutD {α : Type} (xs : List α) (lo hi : Option Int) : List α := (xs.drop (HT.sIx xs.length 0 lo)).take (HT.sIx xs.length xs.length hi - HT.sIx xs.length 0 lo)
theorem cutD_mem {α : Type} {xs : List α} {lo hi : Option Int} {d : α} (h : d ∈ cutD xs lo hi) : d ∈ xs := List.mem_of_mem_drop (List.mem_of_mem_take h)
theorem RepL.cut {G : Hp} {vs : List V} {ds : List D} {lo hi : Option Int} (h : RepL K G vs ds) : RepL K G (cutV vs lo hi) (cutD ds lo hi) := by
  unfold cutV cutD
  rw [h.length]
  exact RepL.take _ (RepL.drop _ h)
theorem wO_slL {tl th : TO} {PO : Sls → List D → Prop} (h : wE K F te ρ fun ρ1 x => ∃ ds, x = .lst ds ∧ wP K F tl ρ1 fun ρ2 lo => wP K F th ρ2 fun ρ3 hi => PO ρ3 (cutD ds lo hi)) : wO K F (tSl (rSlL K) te tl th) ρ PO := fun σ G H S Q q =>
  h σ G H S _ fun v x ρ1 G1 H1 h1 S1 r1 e1 => by
    obtain ⟨ds, rfl, h1⟩ := h1
    cases r1 with
    | lst ha hr =>
      exact h1 σ G1 H1 S1 _ fun lo ρ2 G2 H2 h2 S2 e2 => h2 σ G2 H2 S2 _ fun hi ρ3 G3 H3 p S3 e3 =>
        ⟨_, _, rfl, SqL.of (S3.ex _ _ (e3 _ _ (e2 _ _ ha))), fun a hn => q _ _ _ ρ3 G3 _ p (S3.alloc hn) (.alloc S3 hn (RepL.cut (RepL.up (e2.trans e3) hr))) ((e1.trans e2).trans e3)⟩
/-! ### an own list compared -/
theorem Own.dp {G H : Hp} {σ : St} {i : Nat} {l : Kd} {ds : List D} {ps : List PyData} (S : SRel K F G H σ ρ) (h : ρ[i]? = some (.ow l ds)) (ht : toPyL ds = some ps) : ∃ p, σ[i]? = some (some (.ref p)) ∧ Dp K H (.ref p) (.list ps) := by
  obtain ⟨p, vs, e, hg, hh, hr⟩ := S.ow h
  exact ⟨p, e, .lst (SqL.of hh) (RepL.dp S.ex ds vs ps hr ht)⟩
theorem wE_neO {i : Nat} {l : Kd} {ds : List D} {ps : List PyData} (h : ρ[i]? = some (.ow l ds)) (ht : toPyL ds = some ps) (s1 : SeqAt.shaped (.list ps) = true)
    (hb : wE K F tb ρ fun ρ2 y => ∃ b, ρ2[i]? = some (.ow l ds) ∧ toPy y = some b ∧ SeqAt.shaped b = true ∧ P ρ2 (.bl (!PyData.eqv (.list ps) b))) : wE K F (tOp (rNeD K) (tVar i) tb) ρ P := fun σ G H S Q q => by
  obtain ⟨p, e, d1⟩ := Own.dp S h ht
  refine ⟨.ref p, e, hb σ G H S _ fun vy y ρ2 G2 H2 h2 S2 r2 e2 => ?_⟩
  obtain ⟨b, h2, hy, sb, pp⟩ := h2
  obtain ⟨p', e', d2⟩ := Own.dp S2 h2 ht
  rw [e] at e'
  cases e'
  exact ⟨_, b, d2, Rep.dp S2.ex y vy b r2 hy, s1, sb, q _ _ ρ2 G2 H2 pp S2 (.bl _) e2⟩
theorem wE_eqO {i : Nat} {l : Kd} {ds : List D} {ps : List PyData} (h : ρ[i]? = some (.ow l ds)) (ht : toPyL ds = some ps) (s1 : SeqAt.shaped (.list ps) = true)
    (hb : wE K F tb ρ fun ρ2 y => ∃ b, ρ2[i]? = some (.ow l ds) ∧ toPy y = some b ∧ SeqAt.shaped b = true ∧ P ρ2 (.bl (PyData.eqv (.list ps) b))) : wE K F (tOp (rEqD K) (tVar i) tb) ρ P := fun σ G H S Q q => by
  obtain ⟨p, e, d1⟩ := Own.dp S h ht
  refine ⟨.ref p, e, hb σ G H S _ fun vy y ρ2 G2 H2 h2 S2 r2 e2 => ?_⟩
  obtain ⟨b, h2, hy, sb, pp⟩ := h2
  obtain ⟨p', e', d2⟩ := Own.dp S2 h2 ht
  rw [e] at e'
  cases e'
  exact ⟨_, b, d2, Rep.dp S2.ex y vy b r2 hy, s1, sb, q _ _ ρ2 G2 H2 pp S2 (.bl _) e2⟩
/-! ### a truth less a truth -/
def rSubB : R2 := fun x y H Q => (rI0 fun i j => .int (i - j)) x y H Q ∨ ∃ p q, x = .bl p ∧ y = .bl q ∧ Q (.int (PyProof.Rows.b2i p - PyProof.Rows.b2i q)) H
theorem op_subbb {X : Cx} : OpR X (binaryOp .Sub) (fun x y H Q => ∃ p q, x = .bl p ∧ y = .bl q ∧ Q (.int (PyProof.Rows.b2i p - PyProof.Rows.b2i q)) H) := by
  intro pins s σ H x y v u Q I rx ry h
  obtain ⟨p, q, rfl, rfl, z⟩ := h
  cases rx
  cases ry
  exact PyProof.Rows.sub_bool ⟨.int _, H, I.tok _, ⟨_, rfl⟩, z⟩
theorem op_subB {X : Cx} : OpR X (binaryOp .Sub) rSubB := op_sub.or op_subbb
theorem wR_subI {i j : Int} (p : P ρ (.int (i - j))) : wR K F rSubB (.int i) (.int j) ρ P := fun σ G H vx vy S rx ry Q q => .inl (wR_I0 (g := fun i j => i - j) p σ G H vx vy S rx ry Q q)
theorem wR_subB {i j : Bool} (p : P ρ (.int (PyProof.Rows.b2i i - PyProof.Rows.b2i j))) : wR K F rSubB (.bl i) (.bl j) ρ P := fun σ G H vx vy S rx ry Q q => by
  cases rx
  cases ry
  exact .inr ⟨i, j, rfl, rfl, q _ _ ρ G H p S (.int _) (Ex.refl G)⟩
end
end DL
namespace DL
open PySem L2
open Evl (Ex)
/-! ### texts -/
/-- the signs of a text -/
def sgD (z : Str) : List D := z.cps.toList.map fun c => D.str ⟨#[c]⟩
theorem sgD_len (z : Str) : (sgD z).length = z.cps.size := by
  unfold sgD
  rw [List.length_map, Array.length_toList]
theorem sgD_get {z : Str} {i c : Nat} (h : z.cps[i]? = some c) : (sgD z)[i]? = some (.str ⟨#[c]⟩) := by
  unfold sgD
  rw [List.getElem?_map, Array.getElem?_toList, h]
  rfl
section
variable {K : PySem.W.Frag} {F : Fr} {ρ : Sls} {g : TG} {tb : TS} {O : Out} {tt : TT} {te tl : TE} {vs : List Nat} {PO : Sls → List D → Prop}
theorem wO_lcS (hT : Tgt g vs) (h : wE K F tl ρ fun ρ1 d => ∃ z, d = .str z ∧ z.cps.size ≤ 100000 ∧ compL K g tt te vs (sgD z) (wipeU ρ1 vs) [] fun ρ' acc => PO (restS vs 0 ρ1 ρ') acc) : wO K F (tLc (iStr tl) g tt te vs) ρ PO := fun σ G H S Q q =>
  h σ G H S _ fun v d ρ1 G1 H1 h1 S1 r1 e1 => by
    obtain ⟨z, rfl, hl, f⟩ := h1
    cases r1
    refine ⟨z, rfl, fun Dl hD => lc_it walk_str (fun i H' => CompEx K F g tt te vs σ G1 Dl (fun ρ' acc => PO (restS vs 0 ρ1 ρ') acc) i ((sgD z).drop i) H') (comp_start S1 f hD) (fun _ _ _ _ => trivial) (fun i x H' H'' hi c y => ?_) fun H' c => ?_⟩
    · obtain ⟨rfl, c', hc, rfl⟩ := y
      rw [drop_at (sgD_get hc)] at c
      exact comp_turn hT (by omega) c fun G' e' => .str _
    · rw [show (sgD z).drop z.cps.size = [] from List.drop_eq_nil_of_le (by rw [sgD_len]; exact Nat.le_refl _)] at c
      obtain ⟨G', ρ', acc, vacc, p, S', o, e'⟩ := comp_end (P := PO) S1 c hD
      exact q _ _ _ ρ' G' H' p S' o (e1.trans e')
theorem wS_forS (h : wE K F tl ρ fun ρ1 d => ∃ z, d = .str z ∧ forS K F g tb O (sgD z) ρ1) : wS K F (tFor (iStr tl) g tb) ρ O := fun σ G H S D1 k =>
  h σ G H S _ fun v d ρ1 G1 H1 h1 S1 r1 e1 => by
    obtain ⟨z, rfl, f⟩ := h1
    cases r1
    refine ⟨z, rfl, for_it walk_str (fun i σ' H' => ∃ G' ρ', SRel K F G' H' σ' ρ' ∧ Ex G1 G' ∧ forS K F g tb O ((sgD z).drop i) ρ') ⟨G1, ρ1, S1, Ex.refl G1, f⟩ (fun _ _ _ _ _ => trivial) ?_ ?_⟩
    · rintro i x σ' H' H'' hi ⟨G', ρ', S', e', f'⟩ ⟨rfl, c, hc, rfl⟩
      exact for_turn k e1 S' e' (sgD_get hc) (.str _) f'
    · rintro σ' H' ⟨G', ρ', S', e', f'⟩
      rw [show (sgD z).drop z.cps.size = [] from List.drop_eq_nil_of_le (by rw [sgD_len]; exact Nat.le_refl _)] at f'
      exact k.nx ρ' σ' G' H' f' S' (e1.trans e')
/-- a comprehension by its word -/
theorem compL_inv {acc0 : List D} {P : Sls → List D → Prop} (ds : List D) (Inv : Nat → Sls → List D → Prop) (h0 : Inv 0 ρ acc0)
    (hs : ∀ (i : Nat) (x : D) (ρ2 : Sls) (acc : List D) (F : Fr), ds[i]? = some x → Inv i ρ2 acc → wG K F g x ρ2 fun ρ3 => wT K F tt ρ3 fun ρ4 b => Ways b (wE K F te ρ4 fun ρ5 y => Inv (i + 1) (wipeU ρ5 vs) (acc ++ [y])) (Inv (i + 1) (wipeU ρ4 vs) acc))
    (hd : ∀ (ρ2 : Sls) (acc : List D), Inv ds.length ρ2 acc → P ρ2 acc) : compL K g tt te vs ds ρ acc0 P := by
  have key : ∀ (k : Nat) (es : List D), ds = ds.take k ++ es → k ≤ ds.length → ∀ ρ2 acc, Inv k ρ2 acc → compL K g tt te vs es ρ2 acc P := by
    intro k es
    induction es generalizing k with
    | nil =>
      intro e hk ρ2 acc hi
      have hl : ds.length = k := by
        have := congrArg List.length e
        rw [List.append_nil, List.length_take] at this
        omega
      exact hd ρ2 acc (hl ▸ hi)
    | cons x r ih =>
      intro e hk ρ2 acc hi
      have hlt : k < ds.length := by
        have := congrArg List.length e
        rw [List.length_append, List.length_take, List.length_cons] at this
        omega
      have hx : ds[k]? = some x := by
        rw [e, List.getElem?_append_right (by rw [List.length_take]; omega), List.length_take, Nat.min_eq_left hk, Nat.sub_self]
        rfl
      have e' : ds = ds.take (k + 1) ++ r := by
        rw [List.take_add_one, hx]
        simpa using e
      intro F'
      refine wG_mono (hs k x ρ2 acc F' hx hi) fun ρ3 h3 => wT_mono h3 fun ρ4 b h4 => ⟨fun hb => wE_mono (h4.1 hb) fun ρ5 y h5 => ih (k + 1) e' hlt _ _ h5, fun hb => ih (k + 1) e' hlt _ _ (h4.2 hb)⟩
  exact key 0 ds (by simp) (Nat.zero_le _) ρ acc0 h0
end
section
variable {K : PySem.W.Frag} {F : Fr} {ρ : Sls} {P : Sls → D → Prop} {PO : Sls → List D → Prop} {te to ta tb : TE} {r : R2} {x y : D}
abbrev rJoin (K : PySem.W.Frag) : V → List V → Hp → VK → Prop := fun x xs H Q => ∃ a p, ∃ ys : List Str, x = .str a ∧ xs = [.ref p] ∧ (SqL K H p (ys.map V.str) ∨ SqT K H p (ys.map V.str)) ∧
  (ys.map (·.length)).sum + ys.length * a.length ≤ 16777216 ∧ Q (.str (Txt.join a ys)) H
theorem wE_join (h : wE K F to ρ fun ρ1 x => ∃ a, x = .str a ∧ wE K F te ρ1 fun ρ2 y => ∃ ys : List Str, y = .lst (ys.map D.str) ∧ (ys.map (·.length)).sum + ys.length * a.length ≤ 16777216 ∧ P ρ2 (.str (Txt.join a ys))) : wE K F (tM1 (rJoin K) to te) ρ P := fun σ G H S Q q =>
  h σ G H S _ fun v x ρ1 G1 H1 h1 S1 r1 e1 => by
    obtain ⟨a, rfl, h2⟩ := h1
    cases r1
    refine ⟨⟨a, rfl⟩, h2 σ G1 H1 S1 _ fun w y ρ2 G2 H2 hp S2 r2 e2 => ?_⟩
    obtain ⟨ys, rfl, hl, p⟩ := hp
    cases r2 with
    | lst ha hr =>
      rw [RepL.strs hr] at ha
      exact ⟨a, _, ys, rfl, rfl, .inl (SqL.of (S2.ex _ _ ha)), hl, q _ _ ρ2 G2 H2 p S2 (.str _) (e1.trans e2)⟩
abbrev rSplit : V → List V → Hp → VK → Prop := fun x xs H Q => ∃ a b, x = .str a ∧ xs = [.str b] ∧ (b.length == 0) = false ∧ a.length + 2 ≤ sizeLine ∧ rNewStrs (Txt.split a b) H Q
theorem wO_split (h : wE K F to ρ fun ρ1 x => ∃ a, x = .str a ∧ wE K F te ρ1 fun ρ2 y => ∃ b : Str, y = .str b ∧ (b.length == 0) = false ∧ a.length + 2 ≤ 100000 ∧ PO ρ2 ((Txt.split a b).map D.str)) : wO K F (tM1 rSplit to te) ρ PO := fun σ G H S Q q =>
  h σ G H S _ fun v x ρ1 G1 H1 h1 S1 r1 e1 => by
    obtain ⟨a, rfl, h2⟩ := h1
    cases r1
    refine ⟨⟨a, rfl⟩, h2 σ G1 H1 S1 _ fun w y ρ2 G2 H2 hp S2 r2 e2 => ?_⟩
    obtain ⟨b, rfl, hb, hl, p⟩ := hp
    cases r2
    exact ⟨a, b, rfl, rfl, hb, Evl.sz_of hl, fun l hn => q _ _ _ ρ2 G2 _ p (S2.alloc hn) (.alloc S2 hn (RepL.ofStrs _)) (e1.trans e2)⟩
abbrev rUpper : V → List V → Hp → VK → Prop := fun x xs H Q => ∃ a, x = .str a ∧ xs = [] ∧ a.length ≤ 5592405 ∧ Q (.str (Txt.upper a)) H
theorem wE_upper (h : wE K F to ρ fun ρ1 x => ∃ a, x = .str a ∧ a.length ≤ 5592405 ∧ P ρ1 (.str (Txt.upper a))) : wE K F (tM0 rUpper to) ρ P := fun σ G H S Q q =>
  h σ G H S _ fun v x ρ1 G1 H1 h1 S1 r1 e1 => by
    obtain ⟨a, rfl, hl, p⟩ := h1
    cases r1
    exact ⟨⟨a, rfl⟩, a, rfl, rfl, hl, q _ _ ρ1 G1 H1 p S1 (.str _) e1⟩
theorem wE_slS {tl th : TO} (h : wE K F te ρ fun ρ1 x => ∃ z, x = .str z ∧ z.length ≤ 100000 ∧ wP K F tl ρ1 fun ρ2 lo => wP K F th ρ2 fun ρ3 hi => P ρ3 (.str (cutS z lo hi))) : wE K F (tSl rSlS te tl th) ρ P := fun σ G H S Q q =>
  h σ G H S _ fun v x ρ1 G1 H1 h1 S1 r1 e1 => by
    obtain ⟨z, rfl, hz, h1⟩ := h1
    cases r1
    exact h1 σ G1 H1 S1 _ fun lo ρ2 G2 H2 h2 S2 e2 => h2 σ G2 H2 S2 _ fun hi ρ3 G3 H3 p S3 e3 => ⟨z, rfl, Evl.sz_of hz, q _ _ ρ3 G3 H3 p S3 (.str _) ((e1.trans e2).trans e3)⟩
abbrev rLeS : R2 := fun x y H Q => ∃ i j, x = .str i ∧ y = .str j ∧ Q (.bl (!decide (j.cps.toList < i.cps.toList))) H
theorem wR_leS {a b : Str} (p : P ρ (.bl (!decide (b.cps.toList < a.cps.toList)))) : wR K F rLeS (.str a) (.str b) ρ P := fun σ G H vx vy S rx ry Q q => by
  cases rx
  cases ry
  exact ⟨a, b, rfl, rfl, q _ _ ρ G H p S (.bl _) (Ex.refl G)⟩
abbrev rInSg : R2 := fun x y H Q => ∃ (c : Nat) (z : Str), x = .str ⟨#[c]⟩ ∧ y = .str z ∧ Q (.bl (decide (c ∈ z.cps.toList))) H
theorem wR_inSg {c : Nat} {z : Str} (p : P ρ (.bl (decide (c ∈ z.cps.toList)))) : wR K F rInSg (.str ⟨#[c]⟩) (.str z) ρ P := fun σ G H vx vy S rx ry Q q => by
  cases rx
  cases ry
  exact ⟨c, z, rfl, rfl, q _ _ ρ G H p S (.bl _) (Ex.refl G)⟩
abbrev rNiSg : R2 := fun x y H Q => ∃ (c : Nat) (z : Str), x = .str ⟨#[c]⟩ ∧ y = .str z ∧ Q (.bl (!decide (c ∈ z.cps.toList))) H
theorem wR_niSg {c : Nat} {z : Str} (p : P ρ (.bl (!decide (c ∈ z.cps.toList)))) : wR K F rNiSg (.str ⟨#[c]⟩) (.str z) ρ P := fun σ G H vx vy S rx ry Q q => by
  cases rx
  cases ry
  exact ⟨c, z, rfl, rfl, q _ _ ρ G H p S (.bl _) (Ex.refl G)⟩
/-! is True, is False -/
theorem op_isTF {X : Cx} : OpR X (compareOp .Is) (rIsTF false) := by
  intro pins s σ H x y v u Q I rx ry h
  obtain ⟨b, rfl, h⟩ := h
  cases (show u = Value.bool b from ry)
  rcases h with ⟨a, rfl, q⟩ | ⟨h1, h2, q⟩
  · cases (show v = Value.bool a from rx)
    by_cases e : a = b
    · subst e
      exact wpAny_is_self rfl ⟨.bl true, H, I, rfl, by simpa using q⟩
    · exact wpAny_is_other rfl (fun z => e (Value.bool.inj z)) ⟨.bl false, H, I, rfl, by simpa [e] using q⟩
  · cases x with
    | bl a => exact absurd rfl (h1 a)
    | ty n => exact absurd rfl (h2 n)
    | non => cases (show v = Value.none from rx); exact wpAny_is_other rfl (fun z => nomatch z) ⟨.bl false, H, I, rfl, q⟩
    | int i => obtain ⟨t, rfl⟩ := rx; exact wpAny_is_other rfl (fun z => nomatch z) ⟨.bl false, H, I, rfl, q⟩
    | str i => obtain ⟨t, rfl⟩ := rx; exact wpAny_is_other rfl (fun z => nomatch z) ⟨.bl false, H, I, rfl, q⟩
    | byt i => obtain ⟨t, rfl⟩ := rx; exact wpAny_is_other rfl (fun z => nomatch z) ⟨.bl false, H, I, rfl, q⟩
    | flt i => obtain ⟨t, rfl⟩ := rx; exact wpAny_is_other rfl (fun z => nomatch z) ⟨.bl false, H, I, rfl, q⟩
    | ref a => cases (show v = Value.ref a from rx); exact wpAny_is_other rfl (fun z => nomatch z) ⟨.bl false, H, I, rfl, q⟩
theorem op_notTF {X : Cx} : OpR X (compareOp .IsNot) (rIsTF true) := by
  intro pins s σ H x y v u Q I rx ry h
  obtain ⟨b, rfl, h⟩ := h
  cases (show u = Value.bool b from ry)
  rcases h with ⟨a, rfl, q⟩ | ⟨h1, h2, q⟩
  · cases (show v = Value.bool a from rx)
    by_cases e : a = b
    · subst e
      exact wpAny_isNot_self rfl ⟨.bl false, H, I, rfl, by simpa using q⟩
    · exact wpAny_isNot_other rfl (fun z => e (Value.bool.inj z)) ⟨.bl true, H, I, rfl, by simpa [e] using q⟩
  · cases x with
    | bl a => exact absurd rfl (h1 a)
    | ty n => exact absurd rfl (h2 n)
    | non => cases (show v = Value.none from rx); exact wpAny_isNot_other rfl (fun z => nomatch z) ⟨.bl true, H, I, rfl, q⟩
    | int i => obtain ⟨t, rfl⟩ := rx; exact wpAny_isNot_other rfl (fun z => nomatch z) ⟨.bl true, H, I, rfl, q⟩
    | str i => obtain ⟨t, rfl⟩ := rx; exact wpAny_isNot_other rfl (fun z => nomatch z) ⟨.bl true, H, I, rfl, q⟩
    | byt i => obtain ⟨t, rfl⟩ := rx; exact wpAny_isNot_other rfl (fun z => nomatch z) ⟨.bl true, H, I, rfl, q⟩
    | flt i => obtain ⟨t, rfl⟩ := rx; exact wpAny_isNot_other rfl (fun z => nomatch z) ⟨.bl true, H, I, rfl, q⟩
    | ref a => cases (show v = Value.ref a from rx); exact wpAny_isNot_other rfl (fun z => nomatch z) ⟨.bl true, H, I, rfl, q⟩
def isTF (b : Bool) : D → Bool
  | .bl a => decide (a = b)
  | _ => false
def tyFree : D → Bool
  | .ty _ => false
  | _ => true
theorem Rep.notBl {G : Hp} {v : V} {d : D} (h : Rep K G v d) (f : tyFree d = true) : (∃ a, d = .bl a ∧ v = .bl a) ∨ ((∀ a, v ≠ .bl a) ∧ (∀ n, v ≠ .ty n) ∧ ∀ b, isTF b d = false) := by
  cases h <;> first | exact .inl ⟨_, rfl, rfl⟩ | (cases f; done) | exact .inr ⟨fun _ z => (nomatch z), fun _ z => (nomatch z), fun _ => rfl⟩
theorem wR_isTF {b : Bool} (f : tyFree x = true) (p : P ρ (.bl (isTF b x))) : wR K F (rIsTF false) x (.bl b) ρ P := fun σ G H vx vy S rx ry Q q => by
  cases ry
  rcases rx.notBl f with ⟨a, rfl, rfl⟩ | ⟨h1, h2, h3⟩
  · exact ⟨b, rfl, .inl ⟨a, rfl, by rw [Bool.false_xor]; exact q _ _ ρ G H p S (.bl _) (Ex.refl G)⟩⟩
  · refine ⟨b, rfl, .inr ⟨h1, h2, ?_⟩⟩
    rw [h3 b] at p
    exact q _ _ ρ G H p S (.bl _) (Ex.refl G)
theorem wR_notTF {b : Bool} (f : tyFree x = true) (p : P ρ (.bl (!isTF b x))) : wR K F (rIsTF true) x (.bl b) ρ P := fun σ G H vx vy S rx ry Q q => by
  cases ry
  rcases rx.notBl f with ⟨a, rfl, rfl⟩ | ⟨h1, h2, h3⟩
  · exact ⟨b, rfl, .inl ⟨a, rfl, by rw [Bool.true_xor]; exact q _ _ ρ G H p S (.bl _) (Ex.refl G)⟩⟩
  · refine ⟨b, rfl, .inr ⟨h1, h2, ?_⟩⟩
    rw [h3 b] at p
    exact q _ _ ρ G H p S (.bl _) (Ex.refl G)
/-! dicts written out -/
theorem wE_dnew (p : P ρ (.dct [])) : wE K F tDNewK ρ P := fun σ G H S Q q => fun a ha => q _ _ ρ (upd G a (.dK [])) _ p (S.new ha) (.dct upd_same .nil) (Ex.new (S.fr.freshG ha))
theorem wE_disp1 {k z : Str} (p : P ρ (.dct [(.inr k, .str z)])) : wE K F (tDisp [(tC (.str k), tC (.str z))]) ρ P := fun σ G H S Q q => fun a ha => by
  refine ⟨upd_same, [(.inr k, .str z)], rfl, by show 1 ≤ 15; decide, ?_⟩
  have e : upd (upd H a (.dK [])) a (.dK [((.inr k : Key), V.str z)]) = upd H a (.dK [((.inr k : Key), V.str z)]) := by
    funext b
    by_cases hb : b = a
    · subst hb; rw [upd_same, upd_same]
    · rw [upd_ne hb, upd_ne hb, upd_ne hb]
  have e2 : mergeK [] [((.inr k : Key), V.str z)] = [((.inr k : Key), V.str z)] := rfl
  rw [e2, e]
  exact q _ _ ρ (upd G a (.dK [((.inr k : Key), V.str z)])) _ p (S.new ha) (.dct upd_same (.cons (.str z) .nil)) (Ex.new (S.fr.freshG ha))
open PySem.Builtin.Str in
theorem split_bd (x y : Str) (hy : 0 < y.length) : (Txt.split x y).length ≤ x.length + 1 ∧ ∀ p ∈ Txt.split x y, p.length ≤ x.length := by
  unfold Txt.split
  split
  · exact ⟨by simp, fun p hp => by rw [List.mem_singleton] at hp; rw [hp]; exact Nat.le_refl _⟩
  · split
    · exact ⟨by simp, fun p hp => by rw [List.mem_singleton] at hp; rw [hp]; exact Nat.le_refl _⟩
    · generalize hq : partsBetween x (occurrences x y 0 x.length (x.length + 1)) y.length = ps
      have h1 : glued y ps = x := by rw [← hq]; exact PySem.StrLaws.glued_between_self x y _
      have h2 := PySem.size_glued y ps
      rw [h1] at h2
      refine ⟨?_, fun p hp => ?_⟩
      · have h3 : (ps.length - 1) * 1 ≤ (ps.length - 1) * y.length := Nat.mul_le_mul_left _ hy
        omega
      · have h3 : ∀ (l : List Str), p ∈ l → p.length ≤ (l.map (·.length)).sum := by
          intro l
          induction l with
          | nil => intro h; cases h
          | cons a r ih =>
            intro h
            rw [List.map_cons, List.sum_cons]
            rcases List.mem_cons.mp h with rfl | h
            · omega
            · have := ih h
              omega
        have := h3 ps hp
        omega
open PySem.Builtin.Str in
theorem join_len (a : Str) (ys : List Str) : (Txt.join a ys).length ≤ (ys.map (·.length)).sum + ys.length * a.length := by
  show (glued a ys).length ≤ _
  rw [PySem.size_glued a ys]
  have : (ys.length - 1) * a.length ≤ ys.length * a.length := Nat.mul_le_mul_right _ (by omega)
  omega
theorem compL_flt {g : TG} {tt : TT} {te : TE} {vs : List Nat} {ρ0 : Sls} {PC : Sls → List D → Prop} {p : D → Bool} {f : D → D} : ∀ (ds acc : List D),
    (∀ (F : Fr) (x : D), x ∈ ds → wG K F g x ρ0 fun ρ3 => wT K F tt ρ3 fun ρ4 b => b = p x ∧ (b = false → wipeU ρ4 vs = ρ0) ∧ (b = true → wE K F te ρ4 fun ρ5 y => wipeU ρ5 vs = ρ0 ∧ y = f x)) →
    PC ρ0 (acc ++ (ds.filter p).map f) → compL K g tt te vs ds ρ0 acc PC
  | [], acc, _, h => by
    rw [List.filter_nil, List.map_nil, List.append_nil] at h
    exact h
  | x :: r, acc, hs, h => fun F => by
    refine wG_mono (hs F x (List.mem_cons_self ..)) fun ρ3 h3 => wT_mono h3 fun ρ4 b h4 => ?_
    obtain ⟨hb, hf, ht⟩ := h4
    rw [List.filter_cons] at h
    cases b with
    | true =>
      rw [if_pos hb.symm] at h
      refine ways_t (wE_mono (ht rfl) fun ρ5 y h5 => ?_)
      obtain ⟨e1, e2⟩ := h5
      rw [e1, e2]
      refine compL_flt r _ (fun F x' hx' => hs F x' (List.mem_cons_of_mem _ hx')) ?_
      rw [List.append_assoc]
      exact h
    | false =>
      rw [if_neg (by rw [← hb]; exact Bool.false_ne_true)] at h
      refine ways_f ?_
      rw [hf rfl]
      exact compL_flt r _ (fun F x' hx' => hs F x' (List.mem_cons_of_mem _ hx')) h
theorem wC_all' {l : List D} {bs : List Bool} (e : l = bs.map D.bl) (p : P ρ (.bl (bs.all id))) : wC K F (rAll K) [.lst l] ρ P := by
  subst e
  exact wC_all p
/-! a text times a number -/
def repS (x : Str) (n : Nat) : Str := ⟨(List.replicate n x.cps).foldl (· ++ ·) #[]⟩
def rRepS : R2 := fun x y H Q => ∃ z k, x = .str z ∧ y = .int k ∧ 2 ≤ k ∧ k ≤ 10000 ∧ 0 < z.length ∧ z.length * k.toNat ≤ 100000 ∧ (repS z k.toNat).length ≤ 100000 ∧ Q (.str (repS z k.toNat)) H
theorem op_repS {X : Cx} : OpR X (binaryOp .Mult) rRepS := by
  intro pins s σ H x y v u Q I rx ry h
  obtain ⟨z, k, rfl, rfl, h1, h2, h3, h4, h5, q⟩ := h
  obtain ⟨t, rfl⟩ := rx
  obtain ⟨t', rfl⟩ := ry
  have hz : z.length ≤ 100000 := by
    have h6 : z.length * 1 ≤ z.length * k.toNat := Nat.mul_le_mul_left _ (by omega)
    omega
  have hc : (k == 1 || z.length == 0) = false := by
    rw [Bool.or_eq_false_iff]
    exact ⟨beq_eq_false_iff_ne.mpr (by omega), beq_eq_false_iff_ne.mpr (by omega)⟩
  refine PySem.P.mul_str ?_ (fun _ _ => ?_) (fun _ _ => ?_) ?_
  · rw [decide_eq_false (show ¬ k < -(2 ^ 63 : Int) by omega), decide_eq_false (show ¬ k ≥ 2 ^ 63 by omega)]
    rfl
  · have h6 : (100000 : Int) ≤ (2 ^ 63 - 1) / k := by
      rw [Int.le_ediv_iff_mul_le (by omega)]
      omega
    omega
  · exact decide_eq_false (Nat.not_lt.mpr (Nat.le_trans h4 (by decide)))
  · rw [if_neg (show ¬ k < 1 by omega), if_neg (by rw [hc]; exact Bool.false_ne_true)]
    exact ⟨Evl.sz_of h5, ⟨.str _, H, I.tok _, ⟨_, rfl⟩, q⟩⟩
theorem wR_repS {z : Str} {k : Int} (h1 : 2 ≤ k) (h2 : k ≤ 10000) (h3 : 0 < z.length) (h4 : z.length * k.toNat ≤ 100000) (h5 : (repS z k.toNat).length ≤ 100000) (p : P ρ (.str (repS z k.toNat))) : wR K F rRepS (.str z) (.int k) ρ P := fun σ G H vx vy S rx ry Q q => by
  cases rx
  cases ry
  exact ⟨z, k, rfl, rfl, h1, h2, h3, h4, h5, q _ _ ρ G H p S (.str _) (Ex.refl G)⟩
/-- a sign of a text at a drawn place -/
theorem wR_xSAll {z : Str} {i : Int} (hl : z.length ≤ 100000) (h0 : 0 ≤ i) (h1 : i < (z.cps.toList.length : Int)) (p : ∀ c, c ∈ z.cps.toList → P ρ (.str ⟨#[c]⟩)) : wR K F (rIx K) (.str z) (.int i) ρ P := by
  obtain ⟨c, hm, e⟩ := atI_of h0 h1
  exact wR_xS hl e (p c hm)
/-- str(number) -/
abbrev rStrI : List V → Hp → VK → Prop := fun xs H Q => ∃ i, xs = [.int i] ∧ i.natAbs.log2 < 1920 ∧ Q (.str (toString i)) H
theorem wC_strI {i : Int} (h : i.natAbs.log2 < 1920) (p : P ρ (.str (Str.ofString (toString i)))) : wC K F rStrI [.int i] ρ P := fun σ G H vs S rs Q q => by
  cases rs with
  | cons r1 rr =>
    cases rr; cases r1
    exact ⟨i, rfl, h, q _ _ ρ G H p S (.str _) (Ex.refl G)⟩
end
end DL
namespace DL
open PySem L2
open Evl (Ex)
/-! ### texts whose signs are signs -/
def okS (s : Str) : Prop := ∀ c ∈ s.cps.toList, c < 0x110000
theorem okS_strOk {s : Str} (h : okS s) : PyData.strOk s = true := by
  unfold PyData.strOk
  rw [Array.all_eq_true_iff_forall_mem]
  intro c hc
  exact decide_eq_true (h c (by simpa using hc))
theorem okS_of {s : Str} (h : (s.cps.toList.all fun c => decide (c < 0x110000)) = true) : okS s := fun c hc => of_decide_eq_true (List.all_eq_true.mp h c hc)
theorem cps_app (a b : Str) : (a ++ b).cps.toList = a.cps.toList ++ b.cps.toList := by
  show (a.cps ++ b.cps).toList = _
  rw [Array.toList_append]
theorem len_app (a b : Str) : (a ++ b).length = a.length + b.length := by
  show (a.cps ++ b.cps).size = _
  rw [Array.size_append]
  rfl
theorem okS_app {a b : Str} (h : okS a) (h' : okS b) : okS (a ++ b) := fun c hc => by
  rw [cps_app] at hc
  rcases List.mem_append.mp hc with q | q
  · exact h c q
  · exact h' c q
theorem okS_cut {z : Str} {lo hi : Option Int} (h : okS z) : okS (cutS z lo hi) := fun c hc => by
  have hc' : c ∈ ((z.cps.toList.drop (HT.sIx z.length 0 lo)).take (HT.sIx z.length z.length hi - HT.sIx z.length 0 lo)).toArray.toList := hc
  exact h c (List.mem_of_mem_drop (List.mem_of_mem_take (by simpa using hc')))
theorem okS_sg {z : Str} {c : Nat} (h : okS z) (hc : c ∈ z.cps.toList) : okS ⟨#[c]⟩ := fun d hd => by
  have : d = c := by simpa using hd
  rw [this]
  exact h c hc
theorem join_mem (y : Str) : ∀ (ps : List Str) (p : Str) (c : Nat), p ∈ ps → c ∈ p.cps.toList → c ∈ (Str.join y ps).cps.toList
  | [], _, _, h, _ => by cases h
  | [x], p, c, h, hc => by
    rw [List.mem_singleton] at h
    subst h
    exact hc
  | x :: z :: r, p, c, h, hc => by
    show c ∈ (x ++ y ++ Str.join y (z :: r)).cps.toList
    rw [cps_app, cps_app]
    rcases List.mem_cons.mp h with rfl | h
    · exact List.mem_append_left _ (List.mem_append_left _ hc)
    · exact List.mem_append_right _ (join_mem y (z :: r) p c h hc)
theorem okS_join {a : Str} (ha : okS a) : ∀ (ys : List Str), (∀ y ∈ ys, okS y) → okS (Str.join a ys)
  | [], _ => fun c hc => by
    have : c ∈ (#[] : Array Nat).toList := hc
    simp at this
  | [x], h => h x (List.mem_cons_self ..)
  | x :: z :: r, h => okS_app (a := x ++ a) (okS_app (h x (List.mem_cons_self ..)) ha) (okS_join ha (z :: r) fun y hy => h y (List.mem_cons_of_mem _ hy))
theorem okS_joinT {a : Str} {ys : List Str} (ha : okS a) (h : ∀ y ∈ ys, okS y) : okS (Txt.join a ys) := by
  show okS (PySem.Builtin.Str.glued a ys)
  rw [PySem.StrLaws.glued_eq_join]
  exact okS_join ha ys h
open PySem.Builtin.Str in
theorem split_ok {x y : Str} (h : okS x) : ∀ p ∈ Txt.split x y, okS p := by
  unfold Txt.split
  split
  · intro p hp; rw [List.mem_singleton] at hp; rw [hp]; exact h
  · split
    · intro p hp; rw [List.mem_singleton] at hp; rw [hp]; exact h
    · intro p hp c hc
      have h1 := PySem.StrLaws.glued_between_self x y (x.length + 1)
      rw [PySem.StrLaws.glued_eq_join] at h1
      refine h c ?_
      rw [← h1]
      exact join_mem y _ p c hp hc
theorem toPyL_strs : ∀ ss : List Str, toPyL (ss.map D.str) = some (ss.map PyData.str)
  | [] => rfl
  | s :: ss => by
    rw [List.map_cons, toPyL, toPyL_strs ss]
    rfl
theorem lay_strs : ∀ ss : List Str, (∀ s ∈ ss, okS s) → PyData.canLayAll0 (ss.map PyData.str) = true
  | [], _ => by simp [PyData.canLayAll0]
  | s :: ss, h => by
    simp only [List.map_cons, PyData.canLayAll0, PyData.canLay0, Bool.and_eq_true]
    exact ⟨okS_strOk (h s (List.mem_cons_self ..)), lay_strs ss fun t ht => h t (List.mem_cons_of_mem _ ht)⟩
theorem depth_strs : ∀ ss : List Str, PyData.depthAll (ss.map PyData.str) = 0
  | [] => by simp [PyData.depthAll]
  | s :: ss => by
    simp only [List.map_cons, PyData.depthAll, PyData.depth, depth_strs ss]
    rfl
theorem shaped_strs {ss : List Str} (h : ∀ s ∈ ss, okS s) : SeqAt.shaped (.list (ss.map PyData.str)) = true := by
  show (PyData.canLay0 (.list (ss.map PyData.str)) && decide (PyData.depth (.list (ss.map PyData.str)) ≤ 64)) = true
  rw [Bool.and_eq_true]
  refine ⟨by simp only [PyData.canLay0]; exact lay_strs ss h, decide_eq_true ?_⟩
  simp only [PyData.depth, depth_strs]
  decide
section
variable {K : PySem.W.Frag} {F : Fr} {ρ : Sls} {P : Sls → D → Prop}
theorem wR_eqNil {l : List D} {ss : List Str} (e : l = ss.map D.str) (h : ∀ s ∈ ss, okS s) (p : P ρ (.bl ss.isEmpty)) : wR K F (rEqD K) (.lst l) (.lst []) ρ P := by
  subst e
  refine wR_eqD (a := .list (ss.map PyData.str)) (b := .list []) (by rw [toPy, toPyL_strs]; rfl) rfl (shaped_strs h) (by kernel_rfl) ?_
  have e : PyData.eqv (.list (ss.map PyData.str)) (.list []) = ss.isEmpty := by
    cases ss with
    | nil => simp [PyData.eqv, PyData.eqvAll]
    | cons s ss => simp [PyData.eqv, PyData.eqvAll]
  rw [e]
  exact p
end
theorem le_a (c : Nat) : (!decide (([c] : List Nat) < (Str.ofString "a").cps.toList)) = decide (97 ≤ c) := by
  have e : (Str.ofString "a").cps.toList = [97] := by decide +kernel
  rw [e, ← decide_not]
  apply decide_eq_decide.mpr
  rw [List.cons_lt_cons_iff]
  simp
theorem le_z (c : Nat) : (!decide ((Str.ofString "z").cps.toList < ([c] : List Nat))) = decide (c ≤ 122) := by
  have e : (Str.ofString "z").cps.toList = [122] := by decide +kernel
  rw [e, ← decide_not]
  apply decide_eq_decide.mpr
  rw [List.cons_lt_cons_iff]
  simp
end DL
namespace DL
open PySem L2
open Evl (Ex)
theorem units65 {k : Nat} {A : Around} (r : Room k A) : A.units + 65 < cLine := by
  have := r.un
  omega
section
variable {K : PySem.W.Frag} {F : Fr} {ρ : Sls} {P : Sls → D → Prop} {x : D}
theorem wR_inD {ds : List D} {a : PyData} {es : List PyData} (h1 : toPy x = some a) (h2 : toPyL ds = some es) (s1 : SeqAt.shaped a = true) (s2 : SeqAt.shaped (.list es) = true) (p : P ρ (.bl (es.any fun z => PyData.eqv z a))) : wR K F (rInD K) x (.lst ds) ρ P := fun σ G H vx vy S rx ry Q q =>
  ⟨a, es, Rep.dp S.ex x vx a rx h1, Rep.dp S.ex (.lst ds) vy (.list es) ry (by rw [toPy, h2]; rfl), s1, s2, q _ _ ρ G H p S (.bl _) (Ex.refl G)⟩
theorem wE_isLO {i : Nat} {l : Kd} {ds : List D} (h : ρ[i]? = some (.ow l ds)) (p : P ρ (.bl true)) : wE K F (tCB (rIsi K) (tCons (tVar i) (tCons (tC (.ty "list")) tNil))) ρ P := fun σ G H S Q q => by
  obtain ⟨a, vs, e, hg, hh, hr⟩ := S.ow h
  exact ⟨.ref a, e, _, _, .type "list", .type "list", true, rfl, .ty "list", .base (.lst hh), kit_ty (kit_list "list" (.lst []) rfl), q _ _ ρ G H p S (.bl true) (Ex.refl G)⟩
end
theorem log2_small {n : Nat} (h : n ≤ 2 ^ 40) : n.log2 < 1920 := by
  by_cases h0 : n = 0
  · subst h0
    decide
  · rw [Nat.log2_lt h0]
    exact Nat.lt_of_le_of_lt h (Nat.pow_lt_pow_right (by decide) (by decide))
end DL
namespace DL
open PySem L2
open Evl (Ex)
section
variable {K : PySem.W.Frag} {F : Fr} {ρ : Sls} {P : Sls → D → Prop} {te to : TE} {tb : TS} {tc : TT} {O : Out}
/-- a while loop by its word and a number that gets less -/
theorem wS_while (Inv : Nat → Sls → Prop) (h0 : ∃ m, Inv m ρ) (hs : ∀ (m : Nat) (ρ2 : Sls), Inv m ρ2 → wT K F tc ρ2 fun ρ3 b => Ways b (wS K F tb ρ3 { nx := fun ρ' => ∃ m', m' < m ∧ Inv m' ρ', ct := fun ρ' => ∃ m', m' < m ∧ Inv m' ρ', bk := O.nx, rt := O.rt, ro := O.ro }) (O.nx ρ3)) : wS K F (tWhile tc tb) ρ O := fun σ G H S D1 k => by
  obtain ⟨m0, i0⟩ := h0
  refine ⟨fun m σ' H' => ∃ G' ρ', Inv m ρ' ∧ SRel K F G' H' σ' ρ' ∧ Ex G G', ⟨m0, G, ρ, i0, S, Ex.refl G⟩, ?_⟩
  rintro m σ1 H1 ⟨G1, ρ1, i1, S1, e1⟩
  refine hs m ρ1 i1 σ1 G1 H1 S1 _ fun b ρ2 G2 H2 h2 S2 e2 => ?_
  cases b with
  | false => exact k.nx ρ2 σ1 G2 H2 (h2.2 rfl) S2 (e1.trans e2)
  | true =>
    refine ⟨fun σ' H' => ∃ m', m' < m ∧ ∃ G' ρ', Inv m' ρ' ∧ SRel K F G' H' σ' ρ' ∧ Ex G G', fun σ' H' z => z, ?_⟩
    refine h2.1 rfl σ1 G2 H2 S2 _ ⟨?_, ?_, ?_, ?_, ?_⟩
    · rintro ρ' σ' G' H' ⟨m', hm, i'⟩ S' x
      exact ⟨m', hm, G', ρ', i', S', (e1.trans e2).trans x⟩
    · exact fun a b c d v w h S' x => k.rt a b c d v w h S' ((e1.trans e2).trans x)
    · exact fun a b c d p v w h S' x => k.ro a b c d p v w h S' ((e1.trans e2).trans x)
    · exact fun a b c d h S' x => k.nx a b c d h S' ((e1.trans e2).trans x)
    · rintro ρ' σ' G' H' ⟨m', hm, i'⟩ S' x
      exact ⟨m', hm, G', ρ', i', S', (e1.trans e2).trans x⟩
/-! a method of a text with a text -/
abbrev rM1 (g : Str → Str → V) : V → List V → Hp → VK → Prop := fun x xs H Q => ∃ a b, x = .str a ∧ xs = [.str b] ∧ Q (g a b) H
theorem wE_m1 {g : Str → Str → V} {f : Str → Str → D} (hg : ∀ a b G, Rep K G (g a b) (f a b)) (h : wE K F to ρ fun ρ1 x => ∃ a, x = .str a ∧ wE K F te ρ1 fun ρ2 y => ∃ b, y = .str b ∧ P ρ2 (f a b)) : wE K F (tM1 (rM1 g) to te) ρ P := fun σ G H S Q q =>
  h σ G H S _ fun v x ρ1 G1 H1 h1 S1 r1 e1 => by
    obtain ⟨a, rfl, h2⟩ := h1
    cases r1
    refine ⟨⟨a, rfl⟩, h2 σ G1 H1 S1 _ fun w y ρ2 G2 H2 hp S2 r2 e2 => ?_⟩
    obtain ⟨b, rfl, p⟩ := hp
    cases r2
    exact ⟨a, b, rfl, rfl, q _ _ ρ2 G2 H2 p S2 (hg a b G2) (e1.trans e2)⟩
abbrev rRmp : V → List V → Hp → VK → Prop := fun x xs H Q => ∃ a b, x = .str a ∧ xs = [.str b] ∧ a.length ≤ sizeLine ∧ Q (.str (Txt.removeprefix a b)) H
theorem wE_rmp (h : wE K F to ρ fun ρ1 x => ∃ a, x = .str a ∧ a.length ≤ 100000 ∧ wE K F te ρ1 fun ρ2 y => ∃ b, y = .str b ∧ P ρ2 (.str (Txt.removeprefix a b))) : wE K F (tM1 rRmp to te) ρ P := fun σ G H S Q q =>
  h σ G H S _ fun v x ρ1 G1 H1 h1 S1 r1 e1 => by
    obtain ⟨a, rfl, hl, h2⟩ := h1
    cases r1
    refine ⟨⟨a, rfl⟩, h2 σ G1 H1 S1 _ fun w y ρ2 G2 H2 hp S2 r2 e2 => ?_⟩
    obtain ⟨b, rfl, p⟩ := hp
    cases r2
    exact ⟨a, b, rfl, rfl, Evl.sz_of hl, q _ _ ρ2 G2 H2 p S2 (.str _) (e1.trans e2)⟩
/-- int of a text -/
abbrev rIntS : List V → Hp → VK → Prop := fun xs H Q => ∃ a n, xs = [.str a] ∧ PySem.intText? a = some n ∧ a.length ≤ 640 ∧ Q (.int n) H
theorem wC_intS {a : Str} {n : Int} (h : PySem.intText? a = some n) (hl : a.length ≤ 640) (p : P ρ (.int n)) : wC K F rIntS [.str a] ρ P := fun σ G H vs S rs Q q => by
  cases rs with
  | cons r1 rr =>
    cases rr; cases r1
    exact ⟨a, n, rfl, h, hl, q _ _ ρ G H p S (.int n) (Ex.refl G)⟩
theorem shaped_str {a : Str} (h : okS a) : SeqAt.shaped (.str a) = true := by
  show (PyData.canLay0 (.str a) && decide (PyData.depth (.str a) ≤ 64)) = true
  rw [Bool.and_eq_true]
  exact ⟨by simp only [PyData.canLay0]; exact okS_strOk h, decide_eq_true (by simp only [PyData.depth]; decide)⟩
theorem wR_eqS {a b : Str} (ha : okS a) (hb : okS b) (p : P ρ (.bl (a == b))) : wR K F (rEqD K) (.str a) (.str b) ρ P := by
  refine wR_eqD rfl rfl (shaped_str ha) (shaped_str hb) ?_
  have e : PyData.eqv (.str a) (.str b) = (a == b) := by simp only [PyData.eqv]
  rw [e]
  exact p
theorem wR_neS {a b : Str} (ha : okS a) (hb : okS b) (p : P ρ (.bl (!(a == b)))) : wR K F (rNeD K) (.str a) (.str b) ρ P := by
  refine wR_neD rfl rfl (shaped_str ha) (shaped_str hb) ?_
  have e : PyData.eqv (.str a) (.str b) = (a == b) := by simp only [PyData.eqv]
  rw [e]
  exact p
theorem wR_neNil {l : List D} {ss : List Str} (e : l = ss.map D.str) (h : ∀ s ∈ ss, okS s) (p : P ρ (.bl (!ss.isEmpty))) : wR K F (rNeD K) (.lst l) (.lst []) ρ P := by
  subst e
  refine wR_neD (a := .list (ss.map PyData.str)) (b := .list []) (by rw [toPy, toPyL_strs]; rfl) rfl (shaped_strs h) (by kernel_rfl) ?_
  have e : PyData.eqv (.list (ss.map PyData.str)) (.list []) = ss.isEmpty := by
    cases ss with
    | nil => simp [PyData.eqv, PyData.eqvAll]
    | cons s ss => simp [PyData.eqv, PyData.eqvAll]
  rw [e]
  exact p
abbrev rIdxS : V → List V → Hp → VK → Prop := fun x xs H Q => ∃ a b i rest, x = .str a ∧ xs = [.str b] ∧ Builtin.Str.occurrences a b 0 a.length 1 = i :: rest ∧ Q (.int (i : Nat)) H
theorem wE_idxS (h : wE K F to ρ fun ρ1 x => ∃ a, x = .str a ∧ wE K F te ρ1 fun ρ2 y => ∃ b i rest, y = .str b ∧ Builtin.Str.occurrences a b 0 a.length 1 = i :: rest ∧ P ρ2 (.int (i : Nat))) : wE K F (tM1 rIdxS to te) ρ P := fun σ G H S Q q =>
  h σ G H S _ fun v x ρ1 G1 H1 h1 S1 r1 e1 => by
    obtain ⟨a, rfl, h2⟩ := h1
    cases r1
    refine ⟨⟨a, rfl⟩, h2 σ G1 H1 S1 _ fun w y ρ2 G2 H2 hp S2 r2 e2 => ?_⟩
    obtain ⟨b, i, rest, rfl, ho, p⟩ := hp
    cases r2
    exact ⟨a, b, i, rest, rfl, rfl, ho, q _ _ ρ2 G2 H2 p S2 (.int _) (e1.trans e2)⟩
end
end DL
namespace DL
open PySem L2 PyProof.Rows
open Evl (Ex)

/-! ### promises that hold where no thing's text is being made -/
/-- a def's promise, asked only where the stack bears no guard -/
structure FnG (P : Program) (w : World) (K : PySem.W.Frag) (mg : Str → Option Value) (base : Heap) (k : Nat) (f : Addr) (fd : FuncData) (ps : List Str) (sp : Sp) : Prop where
  size : ∀ vs H Q E, sp vs H Q E → vs.length = ps.length
  go : ∀ (A : Around) (up : List Env) (s : Shared) (H : Hp) (gs : Args) (us : List Value) (vs : List V) (Q : VK) (E : XK), A.guards = some [] → Room k A →
    Env0 P w K mg base A up s H → BindsTo s fd gs (ps.zip us) → Vals vs us → sp vs H Q E → codeAny (model P w) A (.call (.ref f) gs) (CR L2.CX0 up P w H s Q E) s
theorem FnG.of {P : Program} {w : World} {K : PySem.W.Frag} {mg : Str → Option Value} {base : Heap} {x q : Str} {st : Stmt} {f : Addr} {fd : FuncData} {N ps : List Str} {k : Nat} {sp : Sp} (F : L2.Fun K x q st f fd) (S : FnScope N ps (defScope st))
    (hl : ∀ vs H Q E, sp vs H Q E → vs.length = ps.length)
    (hb : ∀ (cdv : Value) (A : Around) (up : List Env) (s : Shared) (H : Hp) (vs : List V) (Q : VK) (E : XK), A.guards = some [] → Room k (A.deeper (envOfC q (defScope st) s.heap.objs.size f cdv)) → sp vs H Q E →
      ∃ t, PSs (cxOf L2.CX0 P w K mg base N q (defScope st) f cdv A up s H E).nox (defBody st) t ∧ t { nx := fun _ H' => Q .non H', rt := Q } (start N vs) H) : FnG P w K mg base (k + 1) f fd ps sp := by
  obtain ⟨oc, od, kv, dc, pm, an, cdv, ct, sl, rfl, at_, cod⟩ := F.ex
  refine ⟨hl, fun A up s H gs us vs Q E quiet room e0 bind rel prom => ?_⟩
  have n := hl _ _ _ _ prom
  have in_s : K.In s.heap := e0.mod.kin.keeps fun b o z => (e0.bs b o z).1
  have lim : s.heap.NoLimit := e0.mod.nolimit.keeps fun b o z => (e0.bs b o z).1
  refine codeAny_call_function room.depth (in_s _ _ at_) rfl S.co S.gen rfl (PySem.W.codeRec_of in_s cod) (bind _ _ _ _ (wpAny_newFunctionEnv_cells S.kind (fun y hy => ?_) fun env he s1 inn => ?_))
  · exact (S.par y.1 (List.of_mem_zip (a := y.1) (b := y.2) hy).1).imp id fun z => ⟨z, PySem.W.cellsFrom_some _ _ _ (.inl z)⟩
  · subst he
    obtain ⟨t, ht, hq⟩ := hb cdv A up s H vs Q E quiet (room.deeper _) prom
    refine ⟨lim.keeps inn.toInCall.keep, codeAny_func (wpAny_mono (ht.nox.run [] s1 (start N vs) H _ (inv_start S room.hd e0 n rel inn) hq) (fun fl s2 z => ?_) fun _ _ z => z)⟩
    cases fl with
    | ret u =>
      obtain ⟨v, _, H2, J, rv, z⟩ := z
      exact ⟨v, H2, J.os, J.bare, J.base, J.hok, rv, z⟩
    | next =>
      obtain ⟨_, H2, J, z⟩ := z
      exact ⟨.non, H2, J.os, J.bare, J.base, J.hok, rfl, z⟩
    | brk => exact z.elim fun _ z => z.elim fun _ z => (show False from z.2).elim
    | cont => exact z.elim fun _ z => z.elim fun _ z => (show False from z.2).elim
/-- .. called by its name -/
structure CalleeG (P : Program) (w : World) (K : PySem.W.Frag) (mg : Str → Option Value) (base : Heap) (k : Nat) (x : Str) (sp : Sp) : Prop where
  ex : ∃ (f : Addr) (fd : FuncData) (ps : List Str), FnG P w K mg base k f fd ps sp ∧ mg x = some (.ref f) ∧ PySem.W.keepIn K (.ref f) = true ∧ Binds K fd ps []
section
variable {X : Cx} {k j : Nat} {x : Str} {sp : Sp} {p pos : Pos} {e : Expr} {es : List Expr} {t : TA}
theorem pe_clG (c : CalleeG X.prog X.w X.K X.mg X.base k x sp) (quiet : X.A.guards = some []) (hr : Room j X.A) (hk : k ≤ j) (hg : Gl X x) (ha : PA X (e :: es) t)
    (hd : (x == ("__debug__" : Str)) = false := by decide) (he : starEach (e :: es) X.env = (false, eval e X.env) :: starEach es X.env := by rfl) (hpl : (backTo pos (starEach es X.env)).any (·.1) = false := by rfl) : PE X (.Call (.Name x p) (e :: es) [] pos) (tCall sp [] L2.E0 t) := by
  obtain ⟨f, fd, ps, F, hm, kp, hb⟩ := c.ex
  refine ⟨fun pins s σ H Q I h => wpAny_Call_Name_kw (ld_glob I hg hm (PySem.W.callWith_K (h₀ := X.base) I.ok.mod.kin kp (thn (ha.run pos pins s σ H _ I h) fun us s1 ⟨vs, H1, I1, r, q⟩ => ⟨I1.kIn, ?_⟩) he hpl) hd)⟩
  have q' : sp vs H1 Q L2.E0 := by
    have z : sp (vs ++ []) H1 Q L2.E0 := q
    rwa [List.append_nil] at z
  have n : (us ++ []).length = ps.length := by rw [List.append_nil, ← r.length]; exact F.size _ _ _ _ q'
  refine wpAny_call (codeAny_mono (F.go X.A X.stack s1 H1 ⟨us, []⟩ us vs Q L2.E0 quiet (hr.mono hk) I1.env0 (by have z := hb s1 us I1.kIn n; rwa [List.append_nil] at z) r q') fun rs s2 z => ?_)
  cases rs with
  | error _ => exact z.elim
  | ok fl =>
    cases fl with
    | ret u => exact I1.after z
    | next => exact z.elim
    | brk => exact z.elim
    | cont => exact z.elim
end
/-- repr of data -/
def rReprD (K : PySem.W.Frag) : List V → Hp → VK → Prop := fun xs H Q => ∃ (a : Addr) (p : PyData), xs = [.ref a] ∧ Dp K H (.ref a) p ∧ p.showable = true ∧ p.hasDict = false ∧ p.depth ≤ 60 ∧ p.shown.length ≤ sizeLine ∧ Q (.str p.shown) H
theorem call_reprD {X : Cx} (quiet : X.A.guards = some []) (hu : X.A.units + 64 < cLine) : CallR X (.builtin "repr") (rReprD X.K) := by
  intro pins s σ H xs us Q I r h
  obtain ⟨a, p, rfl, hd, hs, hn, hz, hl, q⟩ := h
  obtain ⟨u, rfl, rx⟩ := vals1 r
  obtain rfl : u = Value.ref a := rx
  obtain ⟨as, rd⟩ := Dp.reads I p _ _ hd rfl
  exact repr_of_reads' rd hs (PyData.noDict_hsm hn) quiet (by omega) (fun _ _ z => z) (fun h' u tk kept => ⟨.str p.shown, H, I.kept (t' := tk) kept, ⟨_, rfl⟩, q⟩) hl

/-! ### the head: a law that asks for texts of things -/
theorem script_heap {P : Program} {w : World} {K : PySem.W.Frag} {h : Heap} {a : Addr} {vs : List Value} {ns : List Int} (ha : h.get? a = some { cls := .type "list", data := .seq vs.toArray }) (hi : IntsAre vs ns) (hl : ns.length ≤ sizeLine) (kin : K.In h) :
    ∃ H : Hp, Only H ∧ SqL K H a (ns.map V.int) ∧ HOk P w H h ∧ (∀ b, H b = none ∨ (b = a ∧ K.lookup a = none ∧ H b = some (.frz { cls := .type "list", data := .seq vs.toArray } (.lst (ns.map V.int))))) := by
  have rel := vals_ints hi
  have n : vs.length ≤ sizeLine := by rw [← rel.length, List.length_map]; exact hl
  cases e : K.lookup a with
  | some o =>
    have z := kin a o e
    rw [ha] at z
    cases z
    exact ⟨fun _ => none, fun _ => .inl rfl, .inr ⟨_, vs.toArray, _, e, rfl, rfl, rfl, by simpa using n, by simpa using rel⟩, fun _ _ z => (nomatch z), fun _ => .inl rfl⟩
  | none =>
    have one : ∀ b, (upd (fun _ => none) a (HO.frz { cls := .type "list", data := .seq vs.toArray } (.lst (ns.map V.int)))) b = none ∨ (b = a ∧ (none : Option Obj) = none ∧ (upd (fun _ => none) a (HO.frz { cls := .type "list", data := .seq vs.toArray } (.lst (ns.map V.int)))) b = some (.frz { cls := .type "list", data := .seq vs.toArray } (.lst (ns.map V.int)))) := fun b => by
      by_cases hb : b = a
      · exact .inr ⟨hb, rfl, by rw [hb, upd_same]⟩
      · exact .inl (upd_ne hb)
    refine ⟨upd (fun _ => none) a (.frz { cls := .type "list", data := .seq vs.toArray } (.lst (ns.map V.int))), fun b => (one b).imp id fun z => ⟨_, _, z.2.2⟩, .inl (.inr ⟨_, upd_same⟩), fun b u z => ?_, one⟩
    rcases one b with y | ⟨rfl, _, y⟩
    · rw [y] at z; cases z
    · rw [y] at z
      cases z
      exact ⟨ha, by rw [List.length_map]; exact hl, vs, _, rel, ha⟩
theorem law_go {P : Program} {w : World} {K : PySem.W.Frag} {mg mb : Str → Option Value} {k : Nat} {fa a : Addr} {fd : FuncData} {x : Str} {sp : Sp} {s : Shared} {vs : List Value} {ns : List Int} (kin : K.In s.heap) (hns : s.heap.Ns mainGlobals mg) (hb : s.heap.Ns builtinsNs mb)
    (hbb : ∀ x : Str, x ≠ "__name__" → mb x = bootBuiltins x) (lim : s.heap.NoLimit) (hg : s.gens = #[]) (ha : s.heap.get? a = some { cls := .type "list", data := .seq vs.toArray }) (hi : IntsAre vs ns) (hl : ns.length ≤ sizeLine) (hr : Room k callerA)
    (F : ∀ base : Heap, K.In base → base.Ns mainGlobals mg → FnG P w K mg base k fa fd [x] sp) (bind : ∀ (s : Shared) (u : Value), BindsTo s fd ⟨[u], []⟩ [(x, u)])
    (prom : ∀ H : Hp, Only H → SqL K H a (ns.map V.int) → sp [.ref a] H (fun v _ => v = .bl true) fun _ _ _ => False) :
    codeAny (model P w) callerA (.call (.ref fa) ⟨[.ref a], []⟩) (fun r s' => r = .ok (.ret (.bool true)) ∧ OldK s.heap s'.heap ∧ s'.os = s.os ∧ AllBare s'.gens) s := by
  obtain ⟨H, only, seq, hok, one⟩ := script_heap (P := P) (w := w) ha hi hl kin
  have plain : ∀ {b : Addr} {o : Obj}, s.heap.get? b = some o → b ≠ a ∨ K.lookup a ≠ none → (hidT s.heap H).get? b = some o := fun {b o} z ne => hidT_get z ((one b).elim id fun y => ne.elim (fun n => (n y.1).elim) fun n => (n y.2.1).elim)
  have dict : ∀ {b : Addr} {m : Str → Option Value}, s.heap.Ns b m → (hidT s.heap H).Ns b m := fun {b m} ⟨o, es, ep, z, d, r⟩ => ⟨o, es, ep, plain z (.inl fun y => by
    subst y
    rw [ha] at z
    cases z
    have d' : Data.seq vs.toArray _ = Data.dict es ep := d
    cases d'), d, r⟩
  have kinB : K.In (hidT s.heap H) := fun b o z => plain (kin b o z) (by
    by_cases y : b = a
    · exact .inr (by rw [← y, z]; exact fun q => nomatch q)
    · exact .inl y)
  have e0 : Env0 P w K mg (hidT s.heap H) callerA [] s H := ⟨rfl, ⟨kinB, dict hns, ⟨mb, dict hb, hbb⟩, lim.elim fun mc z => ⟨mc, dict z.1, z.2⟩⟩, fun b o z => of_hidT z, Nat.le_of_eq (hidT_size _ _), trivial, fun b z => (List.not_mem_nil z).elim, hok, .of_eq hg⟩
  refine codeAny_mono ((F _ kinB (dict hns)).go callerA [] s H ⟨[.ref a], []⟩ [.ref a] [.ref a] _ _ rfl hr e0 (bind s (.ref a)) (.cons rfl .nil) (prom H only seq)) fun r s2 z => ?_
  cases r with
  | error _ => exact z.elim
  | ok fl =>
    cases fl with
    | next => exact z.elim
    | brk => exact z.elim
    | cont => exact z.elim
    | ret u =>
      obtain ⟨v, H2, os, bare, un, hok2, rv, z⟩ := z
      obtain rfl : v = .bl true := z
      obtain rfl : u = Value.bool true := rv
      refine ⟨rfl, OldK.of_keep fun b o y => ?_, os, bare⟩
      rcases one b with q | ⟨_, _, q⟩
      · exact un.keep b o y q (fun m => List.not_mem_nil m) (fun m => List.not_mem_nil m)
      · have e1 := (hok b _ q).1
        have e2 := (hok2 b _ (un.frzs b _ _ q)).1
        rw [y] at e1
        rw [e2, e1]
theorem walk_go {l : PySem.W.OpenLaw} {n k : Nat} {q : Program} {loose : List Str} {XP : (Str → Option Value) → Heap → Prop} {YP : World → Heap → Prop} {d : DefRec} {K : Params → PySem.W.Frag} {W : W0} {x : Str} (hn : l.most = some n) (hn2 : n ≤ 63) (hdf : d.params.defaults = []) (hr : Room k callerA)
    (hY : ∀ (w : World) (h : Heap), YP w h → (K w.params).In h) (hW : W = WLaw)
    (F : ∀ (w : World) (mg : Str → Option Value) (fa : Addr) (h : Heap), (K w.params).In h → h.Ns mainGlobals mg → mg d.name = some (.ref fa) →
      ∃ fd : FuncData, (∀ (s : Shared) (u : Value), BindsTo s fd ⟨[u], []⟩ [(x, u)]) ∧ ∀ base : Heap, (K w.params).In base → base.Ns mainGlobals mg → FnG l.prog w (K w.params) mg base k fa fd [x] (sp0 (K w.params) W)) :
    PySem.W.WalkO q loose XP YP l.row.toRowW d [] (fun f vs => PySem.call f vs) := by
  subst hW
  refine Att.attach_call hn hdf fun w s0 s1 mg mb fa o pm cd doc a vs ns G Y ho hd hcd hmg hobj hints hlen hg => ?_
  obtain ⟨fd, hb, hF⟩ := F w mg fa _ (hY w _ Y) G.T.g hmg
  have small : ns.length ≤ sizeLine := Nat.le_trans (Nat.le_trans hlen hn2) (by decide)
  exact law_go (hY w _ Y) G.T.g G.T.b G.T.builtins G.T.nolimit hg hobj hints small hr hF hb fun H hO hS => law_sp _ H a ns (Nat.le_trans hlen hn2) hO hS
end DL
namespace DL
open PySem L2 PyProof.Rows
open Evl (Ex)

/-! ### things of own classes: fields -/
section
variable {K : PySem.W.Frag} {G : Hp}
theorem RepF.look {f : Str} : ∀ {vs : List (Str × V)} {ds : List (Str × D)} {d : D}, RepF K G vs ds → ds.lookup f = some d → ∃ v, vs.lookup f = some v ∧ Rep K G v d
  | _, _, _, .nil, e => by cases e
  | _, (k, x) :: ds, d, .cons (v := v) (vs := vs) r t, e => by
    rw [List.lookup] at e ⊢
    cases z : f == k with
    | true => rw [z] at e; cases e; exact ⟨v, rfl, r⟩
    | false => rw [z] at e; exact RepF.look t e
theorem RepF.no {f : Str} : ∀ {vs : List (Str × V)} {ds : List (Str × D)}, RepF K G vs ds → ds.lookup f = none → vs.lookup f = none
  | _, _, .nil, _ => rfl
  | _, (k, x) :: ds, .cons r t, e => by
    rw [List.lookup] at e ⊢
    cases z : f == k with
    | true => rw [z] at e; cases e
    | false => rw [z] at e; exact RepF.no t e
theorem RepF.up {G' : Hp} (e : Ex G G') {vs : List (Str × V)} {ds : List (Str × D)} (h : RepF K G vs ds) : RepF K G' vs ds := RepF.mono e ds vs h
theorem RepF.len : ∀ {vs : List (Str × V)} {ds : List (Str × D)}, RepF K G vs ds → vs.length = ds.length
  | _, _, .nil => rfl
  | _, _, .cons _ t => congrArg (· + 1) t.len
/-- a field is stored -/
def putD (f : Str) (d : D) : List (Str × D) → List (Str × D)
  | [] => [(f, d)]
  | (g, x) :: r => if g = f then (g, d) :: r else (g, x) :: putD f d r
theorem RepF.put {f : Str} {v : V} {d : D} (q : Rep K G v d) : ∀ {vs : List (Str × V)} {ds : List (Str × D)}, RepF K G vs ds → RepF K G (putF f v vs) (putD f d ds)
  | _, _, .nil => .cons q .nil
  | _, (k, x) :: ds, .cons (vs := vs) (v := u) r t => by
    unfold putF putD
    by_cases z : k = f
    · rw [if_pos z, if_pos z]; exact .cons q t
    · rw [if_neg z, if_neg z]; exact .cons r (RepF.put q t)
end

/-- what is asked of a class: its things have fields of these names, and of no others -/
structure OC (K : PySem.W.Frag) (C : Addr) (ns : List Str) : Prop where
  cl : Cls K C
  no : ∀ f ∈ ns, NoAttr K C f
  cc : PySem.W.findIn K (.ref C) "__class__" = some (some (.builtin "object.__class__"))
  cg : PySem.W.specialIn K (.builtin "object.__class__") "__get__" = some (some (.builtin "getset_descriptor.__get__"))
  ct : PySem.W.takesIn K (.builtin "object.__class__") = some true
  cm : PySem.W.mroIn K C (.type "object") = some true
theorem OC.ty {K : PySem.W.Frag} {C : Addr} {ns : List Str} (o : OC K C ns) {G H : Hp} (ex : Ex G H) {v : V} {fs : List (Str × D)} (h : Rep K G v (.obj C fs)) : TyX K H v (.ref C) := by
  cases h with
  | obj h1 _ => exact .base (.ins (ex _ _ h1) o.cl o.cc o.cg o.ct o.cm)

section
variable {K : PySem.W.Frag} {F : Fr} {ρ : Sls} {P : Sls → D → Prop} {te ta tb : TE} {x y : D}
theorem wE_fld {f : Str} (h : wE K F ta ρ fun ρ1 x => ∃ (C : Addr) (fs : List (Str × D)) (ns : List Str) (d : D), x = .obj C fs ∧ OC K C ns ∧ f ∈ ns ∧ fs.lookup f = some d ∧ P ρ1 d) : wE K F (tFld K ta f) ρ P := fun σ G H S Q q =>
  h σ G H S _ fun v x ρ1 G1 H1 h1 S1 r1 e1 => by
    obtain ⟨C, fs, ns, d, rfl, c, n, l, p⟩ := h1
    cases r1 with
    | obj ha hf =>
      obtain ⟨u, lu, ru⟩ := hf.look l
      exact ⟨_, C, _, _, u, rfl, S1.ex _ _ ha, c.cl, c.no f n, lu, q _ _ ρ1 G1 H1 p S1 ru e1⟩
/-- behind a call of a promise -/
theorem sp_E {W : W0} {E : XK} {XX : XD} {σ : St} {G H : Hp} {vs : List V} {ds : List D} {Q : VK} (S : SRel K F G H σ ρ) (r : RepL K G vs ds) (hW : W ds (RsP (P ρ)) XX) (hE : EOk K F E XX)
    (q : ∀ (v : V) (d : D) (G' H' : Hp), P ρ d → SRel K F G' H' σ ρ → Rep K G' v d → Ex G G' → Q v H') : sp0 K W vs H Q E := by
  refine ⟨G, ds, _, XX, S.ex, r, hW, fun r v G' H' hr T rr => ?_, EOk.after0 S hE⟩
  obtain ⟨S2, e2⟩ := S.after0 T
  cases r with
  | fz d => exact q v d G' H' hr S2 rr e2
  | ow ds' =>
    obtain ⟨p, vs', rfl, o⟩ := RsR.own (r := .ow ds') S T rr
    obtain ⟨G3, S3, e3, r3⟩ := o.freeze S2
    exact q _ _ G3 H' hr S3 r3 (e2.trans e3)
theorem sp_O {W : W0} {E : XK} {XX : XD} {PO : Sls → List D → Prop} {σ : St} {G H : Hp} {vs : List V} {ds : List D} {Q : VK} (S : SRel K F G H σ ρ) (r : RepL K G vs ds) (hW : W ds (RsO (PO ρ)) XX) (hE : EOk K F E XX)
    (q : ∀ (p : Addr) (us : List V) (es : List D) (G' H' : Hp), PO ρ es → SRel K F G' H' σ ρ → Own K F G' H' σ ρ p us es → Ex G G' → Q (.ref p) H') : sp0 K W vs H Q E := by
  refine ⟨G, ds, _, XX, S.ex, r, hW, fun r v G' H' hr T rr => ?_, EOk.after0 S hE⟩
  obtain ⟨S2, e2⟩ := S.after0 T
  cases r with
  | fz d => exact hr.elim
  | ow ds' =>
    obtain ⟨p, vs', rfl, o⟩ := RsR.own (r := .ow ds') S T rr
    exact q p vs' ds' G' H' hr S2 o e2

/-! ### methods, by the class of the thing -/
/-- o.m(), the thing being of one of these classes, each with its own promise -/
def tVia (Cs : List (Addr × Sp)) (m : Str) (E : XK) (ta : TE) : TE := fun σ H Q => ta σ H fun x H1 => ∃ (C : Addr) (sp : Sp) (a dx : Addr) (fs : List (Str × V)), (C, sp) ∈ Cs ∧ x = .ref a ∧ H1 a = some (.ins C dx fs) ∧ fs.lookup m = none ∧ sp [x] H1 Q E
theorem wE_via {Cs : List (Addr × Sp)} {m : Str} {E : XK} {XX : XD} (hE : EOk K F E XX) (h : wE K F ta ρ fun ρ1 x => ∃ (C : Addr) (fs : List (Str × D)) (W : W0), x = .obj C fs ∧ (C, sp0 K W) ∈ Cs ∧ fs.lookup m = none ∧ W [x] (RsP (P ρ1)) XX) : wE K F (tVia Cs m E ta) ρ P := fun σ G H S Q q =>
  h σ G H S _ fun v x ρ1 G1 H1 h1 S1 r1 e1 => by
    obtain ⟨C, fs, W, rfl, hC, n, hW⟩ := h1
    have r2 := r1
    cases r1 with
    | obj ha hf => exact ⟨C, _, _, _, _, hC, rfl, S1.ex _ _ ha, hf.no n, sp_E S1 (.cons r2 .nil) hW hE fun v d G' H' p S' r' e' => q v d ρ1 G' H' p S' r' (e1.trans e')⟩
theorem wO_via {Cs : List (Addr × Sp)} {m : Str} {E : XK} {XX : XD} {PO : Sls → List D → Prop} (hE : EOk K F E XX) (h : wE K F ta ρ fun ρ1 x => ∃ (C : Addr) (fs : List (Str × D)) (W : W0), x = .obj C fs ∧ (C, sp0 K W) ∈ Cs ∧ fs.lookup m = none ∧ W [x] (RsO (PO ρ1)) XX) : wO K F (tVia Cs m E ta) ρ PO := fun σ G H S Q q =>
  h σ G H S _ fun v x ρ1 G1 H1 h1 S1 r1 e1 => by
    obtain ⟨C, fs, W, rfl, hC, n, hW⟩ := h1
    have r2 := r1
    cases r1 with
    | obj ha hf => exact ⟨C, _, _, _, _, hC, rfl, S1.ex _ _ ha, hf.no n, sp_O S1 (.cons r2 .nil) hW hE fun p us es G' H' pp S' o e' => q p us es ρ1 G' H' pp S' o (e1.trans e')⟩

/-! ### isinstance of own classes -/
def kdD (K : PySem.W.Frag) (x : D) (t : Value) : Prop := (∃ (C : Addr) (fs : List (Str × D)) (ns : List Str), x = .obj C fs ∧ OC K C ns ∧ t = .ref C) ∨ (∃ n, tyD x = some n ∧ t = .type n)
theorem kdD.ty {G H : Hp} (ex : Ex G H) {v : V} {t : Value} (k : kdD K x t) (h : Rep K G v x) : TyX K H v t := by
  rcases k with ⟨C, fs, ns, rfl, o, rfl⟩ | ⟨n, e, rfl⟩
  · exact o.ty ex h
  · exact h.tyx ex e
theorem wC_isiO {C : Addr} {t : Value} {b : Bool} (k : kdD K x t) (hb : PySem.W.kitOne K t (.ref C) = some b) (p : P ρ (.bl b)) : wC K F (rIsi K) [x, .adr C] ρ P := fun σ G H vs S rs Q q => by
  cases rs with
  | cons r1 t1 =>
    cases t1 with
    | cons r2 t2 =>
      cases t2
      cases r2
      exact ⟨_, _, _, _, b, rfl, .own C, k.ty S.ex r1, hb, q _ _ ρ G H p S (.bl _) (Ex.refl G)⟩
theorem paired_own : ∀ Cs : List Addr, Paired ClsV (Cs.map V.ref) (Cs.map Value.ref)
  | [] => .nil
  | C :: Cs => .cons (.own C) (paired_own Cs)
theorem wE_isiT {Cs : List Addr} {tcs : TA} (hc : ∀ (σ : St) (H : Hp) (Q : List V → Hp → Prop), Q (Cs.map V.ref) H → tcs σ H Q) (hl : Cs.length ≤ 1000)
    (h : wE K F te ρ fun ρ1 x => ∃ (t : Value) (b : Bool), kdD K x t ∧ PySem.W.kitAny K t (Cs.map Value.ref) = some b ∧ P ρ1 (.bl b)) : wE K F (tCB (rIsiT K) (tCons te (tCons (tTup tcs) tNil))) ρ P := fun σ G H S Q q =>
  h σ G H S _ fun v x ρ1 G1 H1 h1 S1 r1 e1 => by
    obtain ⟨t, b, k, hb, p⟩ := h1
    refine hc σ H1 _ ⟨by rw [List.length_map]; exact Nat.le_trans hl (by decide), fun a ha => ?_⟩
    have S2 := S1.alloc (o := .tup (Cs.map V.ref)) ha
    exact ⟨v, a, _, t, _, b, rfl, upd_same, paired_own Cs, k.ty S2.ex r1, hb, q _ _ ρ1 G1 _ p S2 (.bl b) e1⟩
end

/-! ### rules at the level of the hand layer -/
structure MCallee (P : Program) (w : World) (K : PySem.W.Frag) (mg : Str → Option Value) (base : Heap) (k : Nat) (C : Addr) (m : Str) (sp : Sp) : Prop where
  ex : ∃ (f : Addr) (fd : FuncData) (ps : List Str), Cls K C ∧ Meth K C m f ∧ FnOk P w K mg base L2.CX0 k f fd ps sp ∧ Binds K fd ps []
structure KCallee (P : Program) (w : World) (K : PySem.W.Frag) (mg : Str → Option Value) (base : Heap) (k : Nat) (x : Str) (C : Addr) (sp : Sp) : Prop where
  ex : ∃ (f : Addr) (fd : FuncData) (ps : List Str), Mk K C f ∧ FnOk P w K mg base L2.CX0 k f fd ps sp ∧ mg x = some (.ref C) ∧ Binds K fd ps []
theorem MCallee.mono {P : Program} {w : World} {K : PySem.W.Frag} {mg : Str → Option Value} {base : Heap} {j k : Nat} {C : Addr} {m : Str} {sp : Sp} (c : MCallee P w K mg base j C m sp) (h : j ≤ k) : MCallee P w K mg base k C m sp := by
  obtain ⟨f, fd, ps, a, b, F, r⟩ := c.ex
  exact ⟨f, fd, ps, a, b, F.mono h, r⟩
theorem KCallee.mono {P : Program} {w : World} {K : PySem.W.Frag} {mg : Str → Option Value} {base : Heap} {j k : Nat} {C : Addr} {x : Str} {sp : Sp} (c : KCallee P w K mg base j x C sp) (h : j ≤ k) : KCallee P w K mg base k x C sp := by
  obtain ⟨f, fd, ps, a, F, r⟩ := c.ex
  exact ⟨f, fd, ps, a, F.mono h, r⟩
section
variable {X : Cx} {k j : Nat} {C : Addr} {x m : Str} {sp : Sp} {p pos apos : Pos} {e o : Expr} {es : List Expr} {ta : TE} {t : TA}
theorem pe_via {pl : Sem Bool} {Cs : List (Addr × Sp)} (c : ∀ z ∈ Cs, MCallee X.prog X.w X.K X.mg X.base k z.1 m z.2) (hr : Room j X.A) (hk : k ≤ j) (he : PE X o ta)
    (ht : eval (.Call (.Attribute o m apos) [] [] pos) X.env = (do
      let own ← eval o X.env
      standAt apos.atName
      let (f, one) ← holding [own] (getMethod own m pl)
      callWith pos f one (backTo pos (starEach [] X.env)) (backToKw pos (keywordEach [] X.env))) := by rfl) : PE X (.Call (.Attribute o m apos) [] [] pos) (tVia Cs m L2.E0 ta) := by
  refine ⟨fun pins s σ H Q I h => PySem.W.methodCall_KW (pl := pl) (thn (he.run pins s σ H _ I h) fun u s1 ⟨v, H1, I1, rv, C, sp, a, dx, fs, hC, ev, ea, l, q⟩ => ?_) ht⟩
  subst ev
  obtain rfl : u = Value.ref a := rv
  obtain ⟨f, fd, ps, cl, me, F, b⟩ := (c _ hC).ex
  exact getmeth_ok I1 ea cl me l (PySem.W.callWith_K0 (first := [.ref a]) I1.kIn me.kp (run_fn (us := [.ref a]) (vs := [.ref a]) F (hr.mono hk) b .nil pass0 I1 (.cons rfl .nil) q))
theorem pe_new1 (c : KCallee X.prog X.w X.K X.mg X.base k x C sp) (hr : Room j X.A) (hk : k + 1 ≤ j) (hg : Gl X x) (ha : PA X (e :: es) t)
    (hd : (x == ("__debug__" : Str)) = false := by decide) (he : starEach (e :: es) X.env = (false, eval e X.env) :: starEach es X.env := by rfl) (hpl : (backTo pos (starEach es X.env)).any (·.1) = false := by rfl) : PE X (.Call (.Name x p) (e :: es) [] pos) (tMake C sp [] L2.E0 t) := by
  obtain ⟨f, fd, ps, M, F, hm, b⟩ := c.ex
  exact pe_make M F (hr.mono hk) hg hm b .nil pass0 ha hd he hpl
/-- a statement that is never come to -/
def tBad : TS := fun _ _ _ => False
theorem ps_bad {st : Stmt} : PS X st tBad := ⟨fun _ _ _ _ _ _ h => h.elim⟩
end

/-! ### how a thing is made: its __init__ -/
abbrev WI := List D → (List (Str × D) → Prop) → Prop
def spI (K : PySem.W.Frag) (C : Addr) (W : WI) : Sp := fun vs H Q _ => ∃ (G : Hp) (x dx : Addr) (ws : List V) (ds : List D) (Φ : List (Str × D) → Prop), vs = .ref x :: ws ∧ Ex G H ∧ G x = none ∧ H x = some (.ins C dx []) ∧ RepL K G ws ds ∧ W ds Φ ∧
  ∀ (fs : List (Str × D)) (fvs : List (Str × V)) (G' H' : Hp), Φ fs → FrOk (fr1 G H x) G' H' → G' x = none → H' x = some (.ins C dx fvs) → RepF K G' fvs fs → Q .non H'
section
variable {K : PySem.W.Frag} {F : Fr} {ρ : Sls} {P : Sls → D → Prop} {te ta tb : TE} {x y : D}
theorem SRel.afterX {G H G' H' : Hp} {σ : St} {p : Addr} (S : SRel K F G H σ ρ) (hf : F.H0 p = none) (hn : ∀ (i : Nat) (l : Kd) (ds : List D), ρ[i]? = some (.ow l ds) → σ[i]? ≠ some (some (.ref p))) (T : FrOk (fr1 G H p) G' H') : SRel K F G' H' σ ρ ∧ Ex G G' := by
  have e : Ex G G' := fun a o h => by
    rw [T.old a o (S.ex a o h)]
    exact h
  refine ⟨⟨⟨T.ex, fun a o h => ?_, fun a o h np => ?_, fun a o h => ?_⟩, S.len, fun i s o h1 h2 => ?_, S.dis, S.own⟩, e⟩
  · obtain ⟨o', q⟩ := S.fr.th a o h
    exact (T.old a o' q).trans (S.fr.old a o h)
  · exact T.kp a o (S.fr.kp a o h np) fun z => by
      have z' : a = p := z
      rw [z', hf] at h
      cases h
  · obtain ⟨o', q⟩ := S.fr.th a o h
    exact T.th a o' q
  · have q := S.sl i s o h1 h2
    cases s with
    | un => cases o <;> trivial
    | fz d =>
      cases o with
      | none => exact q
      | some v => exact Rep.up e q
    | ow l ds =>
      cases o with
      | none => exact q
      | some v =>
        obtain ⟨a, vs, rfl, q1, q2, q3⟩ := q
        have ne : a ≠ p := fun z => hn i l ds h1 (by rw [h2, z])
        exact ⟨a, vs, rfl, (T.old a _ q2).trans q1, T.kp a _ q2 ne, RepL.up e q3⟩
theorem wE_make {C : Addr} {W : WI} {E : XK} {t : TA} (h : wA K F t ρ fun ρ1 ds => W ds fun fs => P ρ1 (.obj C fs)) : wE K F (tMake C (spI K C W) [] E t) ρ P := fun σ G H S Q q =>
  h σ G H S _ fun vs ds ρ1 G1 H1 h1 S1 r1 e1 x dx hx hdx hne => by
    rw [List.append_nil]
    have S2 := S1.alloc (o := .own x) hdx
    have hx2 : (upd H1 dx (.own x)) x = none := by rw [upd_ne hne.symm]; exact hx
    have S3 := S2.alloc (o := .ins C dx []) hx2
    have gx : G1 x = none := S1.fr.freshG hx
    have fx : F.H0 x = none := S1.fr.fresh hx
    have nx := S1.notOwn hx
    refine ⟨G1, x, dx, vs, ds, _, rfl, S3.ex, gx, upd_same, r1, h1, fun fs fvs G' H' p T g' h' rf => ⟨rfl, ?_⟩⟩
    obtain ⟨S4, e4⟩ := S3.afterX fx nx T
    have S5 := S4.freeze g' h' fx nx
    have e5 : Ex G' (upd G' x (.ins C dx fvs)) := Ex.new g'
    exact q _ _ ρ1 _ H' p S5 (.obj upd_same (rf.up e5)) ((e1.trans e4).trans e5)
def noOw : Sls → Bool
  | [] => true
  | .ow _ _ :: _ => false
  | _ :: r => noOw r
theorem noOw_at : ∀ {ρ : Sls} {i : Nat} {l : Kd} {ds : List D}, noOw ρ = true → ρ[i]? ≠ some (.ow l ds)
  | [], _, _, _, _ => by simp
  | .ow _ _ :: _, _, _, _, h => by cases h
  | .un :: r, 0, _, _, _ => by simp
  | .fz _ :: r, 0, _, _, _ => by simp
  | .un :: r, i + 1, l, ds, h => by
    rw [List.getElem?_cons_succ]
    exact noOw_at (ρ := r) h
  | .fz _ :: r, i + 1, l, ds, h => by
    rw [List.getElem?_cons_succ]
    exact noOw_at (ρ := r) h
/-- the same state, told anew, nothing being the def's own -/
theorem SRel.anew {G H G' H' : Hp} {σ : St} (S : SRel K F G H σ ρ) (hn : noOw ρ = true) (e : Ex G G') (e2 : Ex G' H') : SRel K (fr0 G' H') G' H' σ ρ :=
  ⟨⟨e2, fun _ _ _ => rfl, fun _ _ h _ => h, fun _ o h => ⟨o, h⟩⟩, S.len, fun i s o h1 h2 => by
    have q := S.sl i s o h1 h2
    cases s with
    | un => cases o <;> trivial
    | fz d =>
      cases o with
      | none => exact q
      | some v => exact Rep.up e q
    | ow l ds => exact (noOw_at hn h1).elim, fun i j p l m di dj h => (noOw_at hn h).elim, fun i l ds p h => (noOw_at hn h).elim⟩
theorem FrOk.next {G H G1 H1 G2 H2 : Hp} {p : Addr} (T : FrOk (fr1 G H p) G1 H1) (U : FrOk (fr0 G1 H1) G2 H2) : FrOk (fr1 G H p) G2 H2 :=
  ⟨U.ex, fun a o h => by
    obtain ⟨o', q⟩ := T.th a o h
    exact (U.old a o' q).trans (T.old a o h), fun a o h np => U.kp a o (T.kp a o h np) (fun z => z), fun a o h => by
    obtain ⟨o', q⟩ := T.th a o h
    exact U.th a o' q⟩
theorem FrOk.put {G H G1 H1 : Hp} {p : Addr} {o : HO} (T : FrOk (fr1 G H p) G1 H1) (hg : G1 p = none) (hh : ∃ u, H1 p = some u) : FrOk (fr1 G H p) G1 (upd H1 p o) :=
  ⟨fun a u h => by
    have ne : a ≠ p := fun z => by rw [z, hg] at h; cases h
    rw [upd_ne ne]
    exact T.ex a u h, T.old, fun a u h np => by
    rw [upd_ne np]
    exact T.kp a u h np, fun a u h => by
    by_cases z : a = p
    · exact ⟨o, by rw [z, upd_same]⟩
    · rw [upd_ne z]
      exact T.th a u h⟩
/-- a body that stores the fields of the thing in slot 0 -/
def wI (K : PySem.W.Frag) (C : Addr) (ts : TS) (ρ : Sls) (fs : List (Str × D)) (Φ : List (Str × D) → Prop) : Prop := ∀ (σ : St) (Ga Ha G H : Hp) (x dx : Addr) (fvs : List (Str × V)), SRel K (fr0 G H) G H σ ρ → noOw ρ = true → σ[0]? = some (some (.ref x)) →
  FrOk (fr1 Ga Ha x) G H → G x = none → H x = some (.ins C dx fvs) → RepF K G fvs fs → ∀ Q : VK,
  (∀ (fs' : List (Str × D)) (fvs' : List (Str × V)) (G' H' : Hp), Φ fs' → FrOk (fr1 Ga Ha x) G' H' → G' x = none → H' x = some (.ins C dx fvs') → RepF K G' fvs' fs' → Q .non H') → ts { nx := fun _ H' => Q .non H', rt := Q } σ H
theorem wI_fld {C : Addr} {f : Str} {rest : TS} {fs : List (Str × D)} {ns : List Str} {Φ : List (Str × D) → Prop} (oc : OC K C ns) (hf : f ∈ ns) (hl : fs.length < 1000) (h : ∀ F, wE K F te ρ fun ρ1 d => noOw ρ1 = true ∧ wI K C rest ρ1 (putD f d fs) Φ) : wI K C (tSeq (sFld K (tVar 0) te f) rest) ρ fs Φ :=
  fun σ Ga Ha G H x dx fvs S no h0 T gx hx rf Q q => h (fr0 G H) σ G H S _ fun v d ρ1 G1 H1 ⟨no1, h1⟩ S1 r1 e1 => by
    have gx1 : G1 x = none := (S1.fr.old x _ hx).trans gx
    have hx1 : H1 x = some (.ins C dx fvs) := S1.fr.kp x _ hx (fun z => z)
    have T1 := T.next S1.fr
    have T2 := T1.put (o := .ins C dx (putF f v fvs)) gx1 ⟨_, hx1⟩
    refine ⟨.ref x, h0, x, C, dx, fvs, rfl, hx1, oc.cl, oc.no f hf, by rw [rf.len]; exact hl, ?_⟩
    exact h1 σ Ga Ha G1 _ x dx _ (S1.anew no1 (Ex.refl G1) T2.ex) no1 h0 T2 gx1 upd_same ((rf.up e1).put r1) Q q
theorem wI_end {C : Addr} {fs : List (Str × D)} {Φ : List (Str × D) → Prop} (p : Φ fs) : wI K C tNext ρ fs Φ := fun σ Ga Ha G H x dx fvs S no h0 T gx hx rf Q q => q fs fvs G H p T gx hx rf
theorem wI_last {C : Addr} {ts : TS} {fs : List (Str × D)} {Φ : List (Str × D) → Prop} (h : wI K C (tSeq ts tNext) ρ fs Φ) : wI K C ts ρ fs Φ := fun σ Ga Ha G H x dx fvs S no h0 T gx hx rf Q q => h σ Ga Ha G H x dx fvs S no h0 T gx hx rf Q q
theorem wI_if {C : Addr} {t : TT} {ts tu rest : TS} {fs : List (Str × D)} {Φ : List (Str × D) → Prop} (h : ∀ F, wT K F t ρ fun ρ1 b => noOw ρ1 = true ∧ Ways b (wI K C (tSeq ts rest) ρ1 fs Φ) (wI K C (tSeq tu rest) ρ1 fs Φ)) : wI K C (tSeq (tIfS t ts tu) rest) ρ fs Φ :=
  fun σ Ga Ha G H x dx fvs S no h0 T gx hx rf Q q => h (fr0 G H) σ G H S _ fun b ρ1 G1 H1 ⟨no1, w⟩ S1 e1 => by
    have gx1 : G1 x = none := (S1.fr.old x _ hx).trans gx
    have hx1 : H1 x = some (.ins C dx fvs) := S1.fr.kp x _ hx (fun z => z)
    have T1 := T.next S1.fr
    have S2 := S1.anew no1 (Ex.refl G1) S1.ex
    cases b with
    | true => rw [if_pos rfl]; exact w.yes rfl σ Ga Ha G1 H1 x dx fvs S2 no1 h0 T1 gx1 hx1 (rf.up e1) Q q
    | false => rw [if_neg (fun z => nomatch z)]; exact w.no rfl σ Ga Ha G1 H1 x dx fvs S2 no1 h0 T1 gx1 hx1 (rf.up e1) Q q
theorem wI_skip {C : Addr} {rest : TS} {fs : List (Str × D)} {Φ : List (Str × D) → Prop} (h : wI K C rest ρ fs Φ) : wI K C (tSeq tNext rest) ρ fs Φ := fun σ Ga Ha G H x dx fvs S no h0 T gx hx rf Q q => h σ Ga Ha G H x dx fvs S no h0 T gx hx rf Q q
/-- an __init__'s body against its promise -/
def stI (N : List Str) (ds : List D) : Sls := .un :: (ds.map .fz ++ List.replicate (N.length - (ds.length + 1)) .un)
theorem noOw_app : ∀ (as bs : Sls), noOw as = true → noOw bs = true → noOw (as ++ bs) = true
  | [], _, _, h => h
  | .ow _ _ :: _, _, h, _ => by cases h
  | .un :: r, bs, h, g => noOw_app r bs h g
  | .fz _ :: r, bs, h, g => noOw_app r bs h g
theorem noOw_fz : ∀ ds : List D, noOw (ds.map Sl.fz) = true
  | [] => rfl
  | _ :: ds => noOw_fz ds
theorem noOw_un : ∀ n : Nat, noOw (List.replicate n Sl.un) = true
  | 0 => rfl
  | n + 1 => by rw [List.replicate_succ]; exact noOw_un n
theorem noOw_stI {N : List Str} {ds : List D} : noOw (stI N ds) = true := noOw_app _ _ (noOw_fz ds) (noOw_un _)
theorem srelI {N : List Str} {p : Addr} {vs : List V} {ds : List D} {G H : Hp} (e : Ex G H) (r : RepL K G vs ds) : SRel K (fr0 G H) G H (start N (.ref p :: vs)) (stI N ds) := by
  have hs : start N (.ref p :: vs) = some (.ref p) :: (vs.map some ++ List.replicate (N.length - (vs.length + 1)) none) := rfl
  refine ⟨⟨e, fun _ _ _ => rfl, fun a o h _ => h, fun a o h => ⟨o, h⟩⟩, ?_, fun i s o h1 h2 => ?_, fun i j q l m di dj h => (noOw_at noOw_stI h).elim, fun i l di q h => (noOw_at noOw_stI h).elim⟩
  · rw [hs]
    unfold stI
    rw [List.length_cons, List.length_cons, List.length_append, List.length_append, List.length_map, List.length_map, List.length_replicate, List.length_replicate, r.length]
  · rw [hs] at h2
    unfold stI at h1
    cases i with
    | zero =>
      simp only [List.getElem?_cons_zero, Option.some.injEq] at h1
      subst h1
      cases o <;> trivial
    | succ i =>
      rw [List.getElem?_cons_succ] at h1 h2
      by_cases hl : i < ds.length
      · rw [List.getElem?_append_left (by rw [List.length_map]; exact hl), List.getElem?_map, List.getElem?_eq_getElem hl] at h1
        cases h1
        obtain ⟨v, hv, rv⟩ := r.get (List.getElem?_eq_getElem hl)
        rw [List.getElem?_append_left (by rw [List.length_map, r.length]; exact hl), List.getElem?_map, hv] at h2
        cases h2
        exact rv
      · rw [List.getElem?_append_right (by rw [List.length_map]; omega)] at h1
        have z := (List.mem_replicate.mp (List.mem_of_getElem? h1)).2
        subst z
        cases o <;> trivial
theorem bodyI {C : Addr} {W : WI} {t : TS} {N : List Str} {vs : List V} {H : Hp} {Q : VK} {E : XK} (h : spI K C W vs H Q E) (hb : ∀ (ds : List D) (Φ : List (Str × D) → Prop), W ds Φ → wI K C t (stI N ds) [] Φ) : t { nx := fun _ H' => Q .non H', rt := Q } (start N vs) H := by
  obtain ⟨G, x, dx, ws, ds, Φ, rfl, e, gx, hx, r, hW, hQ⟩ := h
  exact hb ds Φ hW _ G H G H x dx [] (srelI e r) noOw_stI rfl ⟨e, fun _ _ _ => rfl, fun _ _ h _ => h, fun _ o h => ⟨o, h⟩⟩ gx hx .nil Q hQ
theorem spI_len {C : Addr} {W : WI} {vs : List V} {H : Hp} {Q : VK} {E : XK} {n : Nat} (hl : ∀ ds Φ, W ds Φ → ds.length + 1 = n) (h : spI K C W vs H Q E) : vs.length = n := by
  obtain ⟨G, x, dx, ws, ds, Φ, rfl, e, gx, hx, r, hW, hQ⟩ := h
  rw [List.length_cons, r.length]
  exact hl ds Φ hW
end
/-! ### promises that nobody can ask for -/
theorem FnOk.vac {P : Program} {w : World} {K : PySem.W.Frag} {mg : Str → Option Value} {base : Heap} {k : Nat} {f : Addr} {fd : FuncData} {ps : List Str} {sp : Sp} (h : ∀ vs H Q E, ¬ sp vs H Q E) : FnOk P w K mg base L2.CX0 k f fd ps sp :=
  ⟨fun vs H Q E q => (h vs H Q E q).elim, fun A up s H gs us vs Q E _ _ _ _ q => (h vs H Q E q).elim⟩
theorem sp0_no {K : PySem.W.Frag} {W : W0} {vs : List V} {H : Hp} {Q : VK} {E : XK} (h : ∀ ds Φ X, ¬ W ds Φ X) : ¬ sp0 K W vs H Q E := fun ⟨_, ds, Φ, X, _, _, hW, _⟩ => h ds Φ X hW
theorem sp1_no {K : PySem.W.Frag} {W : W1} {vs : List V} {H : Hp} {Q : VK} {E : XK} (h : ∀ ds es Φ X, ¬ W ds es Φ X) : ¬ sp1 K W vs H Q E := fun ⟨_, _, _, ds, _, es, Φ, X, _, _, _, _, _, _, hW, _⟩ => h ds es Φ X hW
/-! ### one class beside others -/
theorem ref_beq (C : Addr) : (Value.ref C == Value.ref C) = true := by simp
theorem cls_some {K : PySem.W.Frag} {C : Addr} (h : PySem.W.mroIn K C (.type "object") = some true) : (PySem.W.clsIn K C).isSome = true := by
  unfold PySem.W.mroIn at h
  cases e : PySem.W.clsIn K C with
  | none => rw [e] at h; cases h
  | some d => rfl
theorem kit_sub {K : PySem.W.Frag} {C C' : Addr} {b : Bool} (hm : PySem.W.mroIn K C' (.type "object") = some true) (ht : PySem.W.typeIn K (.ref C') = some (.type "type")) (hs : PySem.W.subIn K (.ref C) (.ref C') = some b) : PySem.W.kitCls K (.ref C) (.ref C') = some b := by
  show (if ((PySem.W.clsIn K C').isSome && PySem.W.typeIn K (.ref C') == some (.type "type")) = true then PySem.W.subIn K (.ref C) (.ref C') else none) = some b
  rw [cls_some hm, ht, if_pos (by simp), hs]
theorem one_own {K : PySem.W.Frag} {C C' : Addr} (hm : PySem.W.mroIn K C' (.type "object") = some true) (ht : PySem.W.typeIn K (.ref C') = some (.type "type")) (hs : PySem.W.subIn K (.ref C) (.ref C') = some true) : PySem.W.kitOne K (.ref C) (.ref C') = some true := by
  unfold PySem.W.kitOne
  split
  · rfl
  · exact kit_sub hm ht hs
theorem any_own {K : PySem.W.Frag} {C : Addr} : ∀ Cs : List Addr, C ∈ Cs → (∀ y ∈ Cs, y = C ∨ ∃ b, PySem.W.kitCls K (.ref C) (.ref y) = some b) → PySem.W.kitAny K (.ref C) (Cs.map Value.ref) = some true
  | [], h, _ => nomatch h
  | y :: r, h, k => by
    rw [List.map_cons]
    unfold PySem.W.kitAny PySem.W.kitOne
    by_cases e : (Value.ref C == Value.ref y) = true
    · rw [if_pos e]
    · rw [if_neg e]
      rcases k y (.head _) with z | ⟨b, z⟩
      · rw [z] at e
        exact absurd (ref_beq C) e
      · rw [z]
        cases b with
        | true => rfl
        | false =>
          refine any_own r ?_ fun x hx => k x (.tail _ hx)
          rcases List.mem_cons.mp h with q | q
          · rw [q] at e
            exact absurd (ref_beq y) e
          · exact q
end DL
namespace DL
open PySem L2 PyProof.Rows
open Evl (Ex)
/-- each text once, by first places -/
def once (ss : List Str) : List Str := ss.foldl (fun acc s => if s ∈ acc then acc else acc ++ [s]) []
def kvD (l : List Str) : List (Key × V) := l.map fun s => (.inr s, .bl true)
theorem kvD_put (l : List Str) (s : Str) : putK (kvD l) (.inr s) (.bl true) = kvD (if s ∈ l then l else l ++ [s]) := by
  unfold putK kvD
  have e : ((l.map fun s => ((.inr s : Key), V.bl true)).any fun kv => decide (kv.1 = .inr s)) = decide (s ∈ l) := by
    induction l with
    | nil => rfl
    | cons a l ih =>
      rw [List.map_cons, List.any_cons, ih]
      by_cases h : a = s
      · subst h
        simp
      · have h1 : ¬ ((.inr a : Key) = .inr s) := fun z => h (Sum.inr.inj z)
        have h2 : ¬ s = a := fun z => h z.symm
        simp [h1, h2, List.mem_cons]
  rw [e]
  by_cases h : s ∈ l
  · rw [if_pos (decide_eq_true h), if_pos h, List.map_map]
    refine List.map_congr_left fun a _ => ?_
    show (if (.inr a : Key) = .inr s then ((.inr a : Key), V.bl true) else ((.inr a : Key), V.bl true)) = _
    by_cases z : (.inr a : Key) = .inr s
    · rw [if_pos z]
    · rw [if_neg z]
  · rw [if_neg (by rw [decide_eq_false h]; exact fun z => nomatch z), if_neg h, List.map_append]
    rfl
theorem once_snoc (l : List Str) (s : Str) : once (l ++ [s]) = if s ∈ once l then once l else once l ++ [s] := by
  unfold once
  rw [List.foldl_append]
  rfl
theorem once_len (l : List Str) : (once l).length ≤ l.length := by
  suffices h : ∀ (l acc : List Str), (l.foldl (fun acc s => if s ∈ acc then acc else acc ++ [s]) acc).length ≤ acc.length + l.length by
    have := h l []
    simpa [once] using this
  intro l
  induction l with
  | nil => intro acc; exact Nat.le_refl _
  | cons a l ih =>
    intro acc
    rw [List.foldl_cons]
    refine Nat.le_trans (ih _) ?_
    split
    · rw [List.length_cons]; omega
    · rw [List.length_append, List.length_cons, List.length_cons]; simp; omega
section
variable {K : PySem.W.Frag} {F : Fr} {ρ : Sls} {P : Sls → D → Prop} {te ta tb : TE} {r : R2} {x y : D}
abbrev rLD : List V → Hp → VK → Prop := fun xs H Q => ∃ (a : Addr) (kvs : List (Key × V)), xs = [.ref a] ∧ Rd H a (.dK kvs) ∧ ∀ p, H p = none → Q (.ref p) (upd H p (.lst (kvs.map fun kv => kV kv.1)))
theorem wO_once {i j : Nat} {ss : List Str} {PO : Sls → List D → Prop} (h : ρ[i]? = some (.fz (.lst (ss.map D.str)))) (hj : j < ρ.length) (hij : i ≠ j) (hl : ss.length ≤ 100000) (p : PO ρ ((once ss).map D.str)) :
    wO K F (tCB rLD (tCons (tDc (iList K (tVar i)) (gName j) tYes (tVar j) (tC (.bl true)) [j]) tNil)) ρ PO := fun σ G H S Q q => by
  obtain ⟨v, e, rv⟩ := S.fz h
  cases rv with
  | lst ga ra =>
    rename_i a vs
    obtain rfl := ra.strs
    have ha := S.ex _ _ ga
    refine ⟨.ref a, e, a, rfl, ⟨_, SqL.of ha⟩, fun Dd hD => ?_⟩
    have ne : a ≠ Dd := fun z => by rw [z, hD] at ha; cases ha
    have seq : ∀ o, SqL K (upd H Dd o) a (ss.map V.str) := fun o => SqL.of (by rw [upd_ne ne]; exact ha)
    refine ⟨fun n m H' => m = ss.length - n ∧ n ≤ ss.length ∧ H' = upd H Dd (.dK (kvD (once (ss.take n)))), ⟨ss.length, by simp, Nat.zero_le _, rfl⟩, ?_⟩
    rintro n m H' ⟨rfl, hn, rfl⟩
    by_cases he : n = ss.length
    · left
      subst he
      refine ⟨⟨_, seq _, by rw [List.length_map]; exact Nat.le_refl _⟩, Dd, _, rfl, Rd.of upd_same, fun b hb => ?_⟩
      rw [List.take_length] at hb ⊢
      have S2 := S.alloc (o := .dK (kvD (once ss))) hD
      have ek : ((kvD (once ss)).map fun kv => kV kv.1) = (once ss).map V.str := by
        unfold kvD
        rw [List.map_map]
        rfl
      rw [ek]
      have rr : RepL K G ((once ss).map V.str) ((once ss).map D.str) := RepL.ofStrs _
      exact q b _ _ ρ G _ p (S2.alloc hb) (Own.alloc S2 hb rr) (Ex.refl G)
    · right
      have hlt : n < ss.length := by omega
      have hs : (ss.map V.str)[n]? = some (V.str ss[n]) := by rw [List.getElem?_map, List.getElem?_eq_getElem hlt]; rfl
      refine ⟨⟨_, _, seq _, hs⟩, fun H2 => H2 = upd H Dd (.dK (kvD (once (ss.take (n + 1))))), fun H2 hH => ⟨ss.length - (n + 1), by omega, rfl, hlt, hH⟩, ?_⟩
      rintro w H2 ⟨rfl, hw⟩
      have ew := hw _ (seq _)
      rw [hs] at ew
      cases ew
      have hlen : j < σ.length := by rw [S.len]; exact hj
      have hw1 : (wipe σ [j]).length = σ.length := by
        show (σ.set j none).length = _
        rw [List.length_set]
      refine ⟨?_, ?_⟩
      · show ((wipe σ [j]).set j _).set j none = _
        rw [List.set_set]
        show (σ.set j none).set j none = _
        rw [List.set_set]
        rfl
      · dsimp only [tYes]
        rw [if_pos rfl]
        refine ⟨V.str ss[n], ?_, _, .inr ss[n], rfl, upd_same, ?_, ?_⟩
        · rw [List.getElem?_set_self (by rw [hw1]; exact hlen)]
        · refine Nat.lt_of_le_of_lt (m := 100000) ?_ (by decide)
          unfold kvD
          rw [List.length_map]
          have := once_len (ss.take n)
          rw [List.length_take] at this
          omega
        · rw [kvD_put, ← once_snoc, upd_upd]
          congr 3
          rw [List.take_succ_eq_append_getElem hlt]
/-! ### some more readings -/
theorem wT_truT {P' : Sls → Bool → Prop} {b : Bool} (h : wE K F ta ρ fun ρ1 x => ∃ ds, x = .tup ds ∧ b = !ds.isEmpty ∧ P' ρ1 b) : wT K F (fun σ H Q => ta σ H fun x H' => ∃ k, TruV K x H' k ∧ Q k H') ρ P' := fun σ G H S Q q =>
  h σ G H S _ fun v x ρ1 G1 H1 h1 S1 r1 e1 => by
    obtain ⟨ds, rfl, rfl, p⟩ := h1
    cases r1 with
    | tup h1 h2 =>
      rename_i vs
      refine ⟨!ds.isEmpty, .inr (.inl ⟨_, Evl.ex_t S1.ex h1, ?_⟩), q _ ρ1 G1 H1 p S1 e1⟩
      cases h2 <;> rfl
theorem wE_slT {tl th : TO} (h : wE K F te ρ fun ρ1 x => ∃ ds, x = .tup ds ∧ wP K F tl ρ1 fun ρ2 lo => wP K F th ρ2 fun ρ3 hi => ¬ (HT.sIx ds.length 0 lo = 0 ∧ HT.sIx ds.length ds.length hi = ds.length) ∧ P ρ3 (.tup (cutD ds lo hi))) : wE K F (tSl (rSlT K) te tl th) ρ P := fun σ G H S Q q =>
  h σ G H S _ fun v x ρ1 G1 H1 h1 S1 r1 e1 => by
    obtain ⟨ds, rfl, hl⟩ := h1
    refine hl σ G1 H1 S1 _ fun lo ρ2 G2 H2 h2 S2 e2 => h2 σ G2 H2 S2 _ fun hi ρ3 G3 H3 h3 S3 e3 => ?_
    have r3 := (r1.up e2).up e3
    cases r3 with
    | tup t1 t2 =>
      rename_i av vs
      refine ⟨_, _, rfl, Evl.ex_t S3.ex t1, by rw [t2.length]; exact h3.1, fun b hb => ?_⟩
      have S4 := S3.new (o := .tup (cutV vs lo hi)) hb
      exact q _ _ ρ3 _ _ h3.2 S4 (.tup (.inl (.inl upd_same)) (t2.cut.up (Ex.new (S3.fr.freshG hb)))) (((e1.trans e2).trans e3).trans (Ex.new (S3.fr.freshG hb)))
theorem wC_reprD {ds : List D} {pd : PyData} (h : toPy (.tup ds) = some pd) (h1 : pd.showable = true) (h2 : pd.hasDict = false) (h3 : pd.depth ≤ 60) (h4 : pd.shown.length ≤ sizeLine) (p : P ρ (.str pd.shown)) : wC K F (rReprD K) [.tup ds] ρ P := fun σ G H vs S rs Q q => by
  cases rs with
  | cons r1 t1 =>
    cases t1
    have dp := Rep.dp S.ex _ _ _ r1 h
    cases r1 with
    | tup a b => exact ⟨_, pd, rfl, dp, h1, h2, h3, h4, q _ _ ρ G H p S (.str _) (Ex.refl G)⟩
def mx (i j : Int) : Int := if i < j then j else i
theorem wC_max3 {i j k : Int} (p : P ρ (.int (mx (mx i j) k))) : wC K F (rNuC3 nuMax3) [.int i, .int j, .int k] ρ P := fun σ G H vs S rs Q q => by
  cases rs with
  | cons r1 t1 =>
    cases t1 with
    | cons r2 t2 =>
      cases t2 with
      | cons r3 t3 =>
        cases t3
        cases r1
        cases r2
        cases r3
        refine ⟨_, _, _, .int (mx (mx i j) k), rfl, ?_, q _ _ ρ G H p S (.int _) (Ex.refl G)⟩
        show ((some (decide (i < j))).map fun c => if c = true then V.int j else V.int i).bind (fun m => nuMax2 m (.int k)) = _
        have e1 : (if decide (i < j) = true then V.int j else V.int i) = V.int (mx i j) := by
          unfold mx
          by_cases z : i < j
          · rw [if_pos (decide_eq_true z), if_pos z]
          · rw [if_neg (by rw [decide_eq_false z]; exact fun z => nomatch z), if_neg z]
        rw [Option.map_some, Option.bind_some, e1]
        show (some (decide (mx i j < k))).map (fun c => if c = true then V.int k else V.int (mx i j)) = _
        have e2 : (if decide (mx i j < k) = true then V.int k else V.int (mx i j)) = V.int (mx (mx i j) k) := by
          generalize mx i j = m
          unfold mx
          by_cases z : m < k
          · rw [if_pos (decide_eq_true z), if_pos z]
          · rw [if_neg (by rw [decide_eq_false z]; exact fun z => nomatch z), if_neg z]
        rw [Option.map_some, e2]
theorem wC_maxL {ns : List Int} {m : Int} (hm : m ∈ ns) (ha : ∀ y ∈ ns, y ≤ m) (p : P ρ (.int m)) : wC K F (rMax K) [.lst (ns.map D.int)] ρ P := fun σ G H vs S rs Q q => by
  cases rs with
  | cons r1 t1 =>
    cases t1
    cases r1 with
    | lst a b =>
      obtain rfl := b.ints
      refine ⟨_, ns, rfl, SqL.of (S.ex _ _ a), List.length_pos_of_mem hm, fun z hz hy => ?_⟩
      have e : z = m := Int.le_antisymm (ha z hz) (hy m hm)
      subst e
      exact q _ _ ρ G H p S (.int _) (Ex.refl G)
end
end DL
namespace K22
open PySem L2 DL
open Evl (Ex)
def top (i : Nat) : Stmt := PySem.Challenge.pw_beatrows_k22_terms_told.main.body.getD i (.Pass ⟨0, 0, 0, 0⟩)
abbrev s_is_whole : Stmt := top 12
abbrev N_is_whole : List Str := ["thing"]
theorem sc_is_whole : FnScope N_is_whole ["thing"] (defScope s_is_whole) := ⟨rfl, rfl, rfl, by decide +kernel, rfl, by decide +kernel, by decide +kernel⟩
abbrev s_is_within : Stmt := top 13
abbrev N_is_within : List Str := ["thing", "low", "high"]
theorem sc_is_within : FnScope N_is_within ["thing", "low", "high"] (defScope s_is_within) := ⟨rfl, rfl, rfl, by decide +kernel, rfl, by decide +kernel, by decide +kernel⟩
abbrev s_is_name : Stmt := top 14
abbrev N_is_name : List Str := ["thing", "sign"]
theorem sc_is_name : FnScope N_is_name ["thing"] (defScope s_is_name) := ⟨rfl, rfl, rfl, by decide +kernel, rfl, by decide +kernel, by decide +kernel⟩
abbrev s_is_pointed : Stmt := top 15
abbrev N_is_pointed : List Str := ["thing", "part"]
theorem sc_is_pointed : FnScope N_is_pointed ["thing"] (defScope s_is_pointed) := ⟨rfl, rfl, rfl, by decide +kernel, rfl, by decide +kernel, by decide +kernel⟩
abbrev s_is_value : Stmt := top 16
abbrev N_is_value : List Str := ["thing"]
theorem sc_is_value : FnScope N_is_value ["thing"] (defScope s_is_value) := ⟨rfl, rfl, rfl, by decide +kernel, rfl, by decide +kernel, by decide +kernel⟩
abbrev s_each_once : Stmt := top 17
abbrev N_each_once : List Str := ["names", "name"]
theorem sc_each_once : FnScope N_each_once ["names"] (defScope s_each_once) := ⟨rfl, rfl, rfl, by decide +kernel, rfl, by decide +kernel, by decide +kernel⟩
abbrev s_ops_told : Stmt := top 20
abbrev N_ops_told : List Str := []
theorem sc_ops_told : FnScope N_ops_told [] (defScope s_ops_told) := ⟨rfl, rfl, rfl, by decide +kernel, rfl, by decide +kernel, by decide +kernel⟩
abbrev s_Name_told : Stmt := inClass (top 24) 5
abbrev N_Name_told : List Str := ["self"]
theorem sc_Name_told : FnScope N_Name_told ["self"] (defScope s_Name_told) := ⟨rfl, rfl, rfl, by decide +kernel, rfl, by decide +kernel, by decide +kernel⟩
abbrev s_Value_told : Stmt := inClass (top 25) 5
abbrev N_Value_told : List Str := ["self"]
theorem sc_Value_told : FnScope N_Value_told ["self"] (defScope s_Value_told) := ⟨rfl, rfl, rfl, by decide +kernel, rfl, by decide +kernel, by decide +kernel⟩
abbrev s_Two_told : Stmt := inClass (top 26) 5
abbrev N_Two_told : List Str := ["self"]
theorem sc_Two_told : FnScope N_Two_told ["self"] (defScope s_Two_told) := ⟨rfl, rfl, rfl, by decide +kernel, rfl, by decide +kernel, by decide +kernel⟩
abbrev s_Not_told : Stmt := inClass (top 27) 5
abbrev N_Not_told : List Str := ["self"]
theorem sc_Not_told : FnScope N_Not_told ["self"] (defScope s_Not_told) := ⟨rfl, rfl, rfl, by decide +kernel, rfl, by decide +kernel, by decide +kernel⟩
abbrev s_Pick_told : Stmt := inClass (top 28) 5
abbrev N_Pick_told : List Str := ["self"]
theorem sc_Pick_told : FnScope N_Pick_told ["self"] (defScope s_Pick_told) := ⟨rfl, rfl, rfl, by decide +kernel, rfl, by decide +kernel, by decide +kernel⟩
abbrev s_Name_levels : Stmt := inClass (top 24) 2
abbrev N_Name_levels : List Str := ["self"]
theorem sc_Name_levels : FnScope N_Name_levels ["self"] (defScope s_Name_levels) := ⟨rfl, rfl, rfl, by decide +kernel, rfl, by decide +kernel, by decide +kernel⟩
abbrev s_Value_levels : Stmt := inClass (top 25) 2
abbrev N_Value_levels : List Str := ["self"]
theorem sc_Value_levels : FnScope N_Value_levels ["self"] (defScope s_Value_levels) := ⟨rfl, rfl, rfl, by decide +kernel, rfl, by decide +kernel, by decide +kernel⟩
abbrev s_Two_levels : Stmt := inClass (top 26) 2
abbrev N_Two_levels : List Str := ["self"]
theorem sc_Two_levels : FnScope N_Two_levels ["self"] (defScope s_Two_levels) := ⟨rfl, rfl, rfl, by decide +kernel, rfl, by decide +kernel, by decide +kernel⟩
abbrev s_Not_levels : Stmt := inClass (top 27) 2
abbrev N_Not_levels : List Str := ["self"]
theorem sc_Not_levels : FnScope N_Not_levels ["self"] (defScope s_Not_levels) := ⟨rfl, rfl, rfl, by decide +kernel, rfl, by decide +kernel, by decide +kernel⟩
abbrev s_Pick_levels : Stmt := inClass (top 28) 2
abbrev N_Pick_levels : List Str := ["self"]
theorem sc_Pick_levels : FnScope N_Pick_levels ["self"] (defScope s_Pick_levels) := ⟨rfl, rfl, rfl, by decide +kernel, rfl, by decide +kernel, by decide +kernel⟩
abbrev s_Name_names : Stmt := inClass (top 24) 1
abbrev N_Name_names : List Str := ["self"]
theorem sc_Name_names : FnScope N_Name_names ["self"] (defScope s_Name_names) := ⟨rfl, rfl, rfl, by decide +kernel, rfl, by decide +kernel, by decide +kernel⟩
abbrev s_Value_names : Stmt := inClass (top 25) 1
abbrev N_Value_names : List Str := ["self"]
theorem sc_Value_names : FnScope N_Value_names ["self"] (defScope s_Value_names) := ⟨rfl, rfl, rfl, by decide +kernel, rfl, by decide +kernel, by decide +kernel⟩
abbrev s_Two_names : Stmt := inClass (top 26) 1
abbrev N_Two_names : List Str := ["self"]
theorem sc_Two_names : FnScope N_Two_names ["self"] (defScope s_Two_names) := ⟨rfl, rfl, rfl, by decide +kernel, rfl, by decide +kernel, by decide +kernel⟩
abbrev s_Not_names : Stmt := inClass (top 27) 1
abbrev N_Not_names : List Str := ["self"]
theorem sc_Not_names : FnScope N_Not_names ["self"] (defScope s_Not_names) := ⟨rfl, rfl, rfl, by decide +kernel, rfl, by decide +kernel, by decide +kernel⟩
abbrev s_Pick_names : Stmt := inClass (top 28) 1
abbrev N_Pick_names : List Str := ["self"]
theorem sc_Pick_names : FnScope N_Pick_names ["self"] (defScope s_Pick_names) := ⟨rfl, rfl, rfl, by decide +kernel, rfl, by decide +kernel, by decide +kernel⟩
abbrev s__inner : Stmt := top 30
abbrev N__inner : List Str := ["thing"]
theorem sc__inner : FnScope N__inner ["thing"] (defScope s__inner) := ⟨rfl, rfl, rfl, by decide +kernel, rfl, by decide +kernel, by decide +kernel⟩
abbrev s_Name_init : Stmt := inClass (top 24) 0
abbrev N_Name_init : List Str := ["self", "name"]
theorem sc_Name_init : FnScope N_Name_init ["self", "name"] (defScope s_Name_init) := ⟨rfl, rfl, rfl, by decide +kernel, rfl, by decide +kernel, by decide +kernel⟩
abbrev s_Value_init : Stmt := inClass (top 25) 0
abbrev N_Value_init : List Str := ["self", "value"]
theorem sc_Value_init : FnScope N_Value_init ["self", "value"] (defScope s_Value_init) := ⟨rfl, rfl, rfl, by decide +kernel, rfl, by decide +kernel, by decide +kernel⟩
abbrev s_Two_init : Stmt := inClass (top 26) 0
abbrev N_Two_init : List Str := ["self", "op", "one", "other"]
theorem sc_Two_init : FnScope N_Two_init ["self", "op", "one", "other"] (defScope s_Two_init) := ⟨rfl, rfl, rfl, by decide +kernel, rfl, by decide +kernel, by decide +kernel⟩
abbrev s_Not_init : Stmt := inClass (top 27) 0
abbrev N_Not_init : List Str := ["self", "one"]
theorem sc_Not_init : FnScope N_Not_init ["self", "one"] (defScope s_Not_init) := ⟨rfl, rfl, rfl, by decide +kernel, rfl, by decide +kernel, by decide +kernel⟩
abbrev s_Pick_init : Stmt := inClass (top 28) 0
abbrev N_Pick_init : List Str := ["self", "by", "one", "other"]
theorem sc_Pick_init : FnScope N_Pick_init ["self", "by", "one", "other"] (defScope s_Pick_init) := ⟨rfl, rfl, rfl, by decide +kernel, rfl, by decide +kernel, by decide +kernel⟩
abbrev s__made_of : Stmt := top 31
abbrev N__made_of : List Str := ["told", "shape"]
theorem sc__made_of : FnScope N__made_of ["told"] (defScope s__made_of) := ⟨rfl, rfl, rfl, by decide +kernel, rfl, by decide +kernel, by decide +kernel⟩
abbrev s_term_of : Stmt := top 29
abbrev N_term_of : List Str := ["told"]
theorem sc_term_of : FnScope N_term_of ["told"] (defScope s_term_of) := ⟨rfl, rfl, rfl, by decide +kernel, rfl, by decide +kernel, by decide +kernel⟩
abbrev s__law_cell_at : Stmt := top 33
abbrev N__law_cell_at : List Str := ["script", "k"]
theorem sc__law_cell_at : FnScope N__law_cell_at ["script", "k"] (defScope s__law_cell_at) := ⟨rfl, rfl, rfl, by decide +kernel, rfl, by decide +kernel, by decide +kernel⟩
abbrev s__law_box : Stmt := top 34
abbrev N__law_box : List Str := ["cell"]
theorem sc__law_box : FnScope N__law_box ["cell"] (defScope s__law_box) := ⟨rfl, rfl, rfl, by decide +kernel, rfl, by decide +kernel, by decide +kernel⟩
abbrev s__law_take : Stmt := top 35
abbrev N__law_take : List Str := ["box", "many", "number"]
theorem sc__law_take : FnScope N__law_take ["box", "many"] (defScope s__law_take) := ⟨rfl, rfl, rfl, by decide +kernel, rfl, by decide +kernel, by decide +kernel⟩
abbrev s__law_value : Stmt := top 36
abbrev N__law_value : List Str := ["box", "way"]
theorem sc__law_value : FnScope N__law_value ["box"] (defScope s__law_value) := ⟨rfl, rfl, rfl, by decide +kernel, rfl, by decide +kernel, by decide +kernel⟩
abbrev s__law_told : Stmt := top 37
abbrev N__law_told : List Str := ["box", "left", "names", "way", "parts", "k", "op", "one"]
theorem sc__law_told : FnScope N__law_told ["box", "left", "names"] (defScope s__law_told) := ⟨rfl, rfl, rfl, by decide +kernel, rfl, by decide +kernel, by decide +kernel⟩
abbrev s__law_made : Stmt := top 38
abbrev N__law_made : List Str := ["told"]
theorem sc__law_made : FnScope N__law_made ["told"] (defScope s__law_made) := ⟨rfl, rfl, rfl, by decide +kernel, rfl, by decide +kernel, by decide +kernel⟩
abbrev s__law_names : Stmt := top 39
abbrev N__law_names : List Str := ["told", "found", "one", "name"]
theorem sc__law_names : FnScope N__law_names ["told"] (defScope s__law_names) := ⟨rfl, rfl, rfl, by decide +kernel, rfl, by decide +kernel, by decide +kernel⟩
abbrev s__law_levels : Stmt := top 40
abbrev N__law_levels : List Str := ["told", "one"]
theorem sc__law_levels : FnScope N__law_levels ["told"] (defScope s__law_levels) := ⟨rfl, rfl, rfl, by decide +kernel, rfl, by decide +kernel, by decide +kernel⟩
abbrev s__law_right : Stmt := top 41
abbrev N__law_right : List Str := ["term", "told", "found"]
theorem sc__law_right : FnScope N__law_right ["term", "told"] (defScope s__law_right) := ⟨rfl, rfl, rfl, by decide +kernel, rfl, by decide +kernel, by decide +kernel⟩
abbrev s_law : Stmt := top 42
abbrev N_law : List Str := ["script", "names", "k", "box", "told", "term", "both", "third"]
theorem sc_law : FnScope N_law ["script"] (defScope s_law) := ⟨rfl, rfl, rfl, by decide +kernel, rfl, by decide +kernel, by decide +kernel⟩
local macro_rules | `(tactic| walk_at "nm") => `(tactic| dsimp only [st0, st1, List.map, List.length_cons, List.length_nil, List.replicate, List.set_cons_zero, List.set_cons_succ, List.cons_append, List.nil_append, wipeU, wipeS, unloc, restS, rest1, List.contains, List.elem, Nat.reduceBEq, Nat.reduceAdd, Nat.reduceSub, Nat.zero_add, cond_true, cond_false])
local macro_rules | `(tactic| walk_at "sd") => `(tactic| first
  | (show (0 : Int) < _; omega)
  | (show _ ∨ _; first | (left; constructor <;> omega) | (right; constructor <;> omega))
  | (show _ ∧ _; constructor <;> omega)
  | (show _ ∧ _ ∧ _; exact ⟨by decide, by decide, by decide⟩))
local macro_rules | `(tactic| walk_at "w1") => `(tactic| first
  | with_reducible refine wE_int ?_
  | with_reducible refine wE_bl ?_
  | with_reducible refine wE_str ?_
  | with_reducible refine wE_non ?_
  | with_reducible refine wE_ty ?_
  | ((with_reducible refine wE_var (d := ?_) ?_ ?_); rotate_left; (· rfl))
  | ((with_reducible refine wE_xOc (l := ?_) (ds := ?_) (d := ?_) ?_ ?_ ?_); rotate_left 3; (· rfl); (· rfl))
  | ((with_reducible refine wE_isLO (l := ?_) (ds := ?_) ?_ ?_); rotate_left 2; (· rfl))
  | ((with_reducible refine wE_neO (l := ?_) (ds := ?_) (ps := ?_) ?_ ?_ ?_ ?_); rotate_left 3; (· rfl); (· rfl); (· kernel_rfl))
  | with_reducible refine wE_op ?_
  | with_reducible refine wE_tup (wA_cons ?_)
  | with_reducible refine wE_ofO (wO_lst ?_)
  | with_reducible refine wE_cb (wA_cons ?_)
  | with_reducible refine wE_andV ?_
  | with_reducible refine wE_orV ?_
  | with_reducible refine wE_notV ?_
  | with_reducible refine wE_chain ?_
  | with_reducible refine wE_if ?_
  | with_reducible refine wE_call eok0 (wA_cons ?_)
  | ((with_reducible refine wE_con (d := ?_) ?_ ?_); rotate_left; (· assumption))
  | with_reducible refine wE_un ?_
  | with_reducible refine rsp_fz ?_
  | with_reducible refine rsp_ow ?_
  | with_reducible refine wE_call eok0 (wA_nil ?_)
  | ((with_reducible refine wRO_E (wRO_plusL ?_ ?_)); (· exact Nat.le_of_ble_eq_true rfl))
  | with_reducible refine wA_cons ?_
  | with_reducible refine wA_nil ?_
  | with_reducible refine wT_test ?_
  | with_reducible refine wT_B ?_
  | with_reducible refine wT_not ?_
  | with_reducible refine wT_and ?_
  | with_reducible refine wT_or ?_
  | with_reducible refine onB_bl ?_
  | with_reducible refine wR_plusI ?_
  | with_reducible refine wR_subI ?_
  | with_reducible refine wR_subB ?_
  | with_reducible refine wR_I0 ?_
  | with_reducible refine wR_B0 ?_
  | ((with_reducible refine wR_xL (d := ?_) ?_ ?_); rotate_left; (· rfl))
  | ((with_reducible refine wR_xT (d := ?_) ?_ ?_); rotate_left; (· rfl))
  | ((with_reducible refine wR_inT ?_ ?_ ?_); (· rfl); (· rfl))
  | ((with_reducible refine wR_niT ?_ ?_ ?_); (· rfl); (· rfl))
  | ((with_reducible refine wR_inL ?_ ?_ ?_); (· rfl); (· rfl))
  | ((with_reducible refine wR_niL ?_ ?_ ?_); (· rfl); (· rfl))
  | with_reducible refine wR_inSg ?_
  | ((with_reducible refine wR_inD (a := ?_) (es := ?_) ?_ ?_ ?_ ?_ ?_); rotate_left 2; (· rfl); (· rfl); (· kernel_rfl); (· kernel_rfl))
  | with_reducible refine wE_dnew ?_
  | with_reducible refine wE_disp1 ?_
  | with_reducible refine wR_niSg ?_
  | with_reducible refine wR_leS ?_
  | ((with_reducible refine wR_isTF ?_ ?_); (· rfl))
  | ((with_reducible refine wR_notTF ?_ ?_); (· rfl))
  | with_reducible refine wR_isN ?_
  | with_reducible refine wR_notN ?_
  | ((with_reducible refine wR_eqS ?_ ?_ ?_); (· assumption); (· first | assumption | exact okS_of (by decide +kernel)))
  | ((with_reducible refine wR_neS ?_ ?_ ?_); (· assumption); (· first | assumption | exact okS_of (by decide +kernel)))
  | ((with_reducible refine wR_eqD (a := ?_) (b := ?_) ?_ ?_ ?_ ?_ ?_); rotate_left 2; (· rfl); (· rfl); (· kernel_rfl); (· kernel_rfl))
  | ((with_reducible refine wR_neD (a := ?_) (b := ?_) ?_ ?_ ?_ ?_ ?_); rotate_left 2; (· rfl); (· rfl); (· kernel_rfl); (· kernel_rfl))
  | ((with_reducible refine wR_I ?_ ?_); (· walk_at "sd"))
  | (refine And.intro (Nat.le_of_ble_eq_true rfl) ?_)
  | with_reducible refine wC_neg ?_
  | with_reducible refine wC_max2 ?_
  | with_reducible refine wC_min2 ?_
  | with_reducible refine wC_abs ?_
  | with_reducible refine wC_intB ?_
  | with_reducible refine wC_intI ?_
  | ((with_reducible refine wC_len (n := ?_) ?_ ?_); rotate_left; (· rfl))
  | ((with_reducible refine wC_isInt ?_ ?_); (· rfl))
  | ((with_reducible refine wC_isBool ?_ ?_); (· rfl))
  | ((with_reducible refine wC_isStr ?_ ?_); (· rfl))
  | ((with_reducible refine wC_isList ?_ ?_); (· rfl))
  | ((with_reducible refine wC_isTuple ?_ ?_); (· rfl))
  | ((with_reducible refine wC_isDict ?_ ?_); (· rfl))
  | ((with_reducible refine wS_seq ?_); (try walk_at "nm"))
  | with_reducible refine wS_set ?_
  | with_reducible refine wS_ret ?_
  | with_reducible refine wS_next ?_
  | with_reducible refine wS_if ?_
  | ((with_reducible refine wS_set0 ?_))
  | ((with_reducible refine wS_set1 ?_))
  | ((with_reducible refine wS_set2 ?_))
  | (refine ⟨_, _, rfl, Nat.lt_of_sub_eq_succ rfl, ?_⟩)
  | with_reducible refine wS_asg ?_
  | with_reducible refine ways_t ?_
  | with_reducible refine ways_f ?_
  | ((with_reducible refine ways_ev_t ?_ ?_); (· rfl))
  | ((with_reducible refine ways_ev_f ?_ ?_); (· rfl))
  | with_reducible refine wT_yes ?_
  | ((with_reducible refine compL_nil ?_); (try walk_at "nm"))
  | ((with_reducible refine compL_cons (fun _ => ?_)); (try walk_at "nm"))
  | ((with_reducible refine forS_nil ?_); (try walk_at "nm"))
  | ((with_reducible refine forS_cons ?_); (try walk_at "nm"))
  | ((with_reducible refine wE_ofO (wO_lcL (tgt_tup2 ?_ ?_) ?_)); (· decide); (· decide))
  | ((with_reducible refine wE_ofO (wO_lcL (tgt_name ?_) ?_)); (· decide))
  | with_reducible refine wE_countF ?_
  | with_reducible refine wE_join ?_
  | with_reducible refine wE_upper ?_
  | with_reducible refine wE_slS ?_
  | with_reducible refine wE_ofO (wO_split ?_)
  | with_reducible refine wS_forL ?_
  | with_reducible refine wS_forR1 ?_
  | with_reducible refine rso_ow ?_
  | (refine ⟨_, rfl, Nat.le_of_ble_eq_true rfl, ?_⟩)
  | (refine ⟨_, rfl, (show wE _ _ _ _ _ from ?_)⟩)
  | (refine ⟨_, rfl, (show forS _ _ _ _ _ _ _ from ?_)⟩)
  | (refine And.intro (show flatD _ = true from rfl) (And.intro (show List.all _ flatD = true from rfl) ?_))
  | with_reducible refine wG_name ?_
  | with_reducible refine wG_tup2 ?_)
local macro_rules | `(tactic| walk_at "w") => `(tactic| repeat walk_at "w1")
local macro_rules | `(tactic| walk_at "wm") => `(tactic| repeat first | ((with_reducible refine wR_modB ?_ ?_); (· omega); intro _ _ _) | walk_at "w1")
/-- a field of the thing in a slot is read -/
theorem wE_fd {K : PySem.W.Frag} {F : Fr} {ρ : Sls} {P : Sls → D → Prop} {i : Nat} {f : Str} {C : Addr} {fs : List (Str × D)} {ns : List Str} {d : D} (o : OC K C ns) (h : ρ[i]? = some (.fz (.obj C fs))) (hf : f ∈ ns) (hl : fs.lookup f = some d) (p : P ρ d) : wE K F (tFld K (tVar i) f) ρ P :=
  wE_fld (wE_var h ⟨C, fs, ns, d, rfl, o, hf, hl, p⟩)
theorem wR_neStr {K : PySem.W.Frag} {F : Fr} {ρ : Sls} {P : Sls → D → Prop} {a b : Str} (p : P ρ (.bl (!decide (V.str a = V.str b)))) : wR K F rNe (.str a) (.str b) ρ P := fun σ G H vx vy S rx ry Q q => by
  cases rx
  cases ry
  exact ⟨rfl, q _ _ ρ G H p S (.bl _) (Ex.refl G)⟩
local macro_rules | `(tactic| walk_at "c1") => `(tactic| first
  | ((with_reducible refine wE_con (d := D.adr _) (fun _ => Rep.adr _) ?_))
  | ((with_reducible refine wE_fd (ns := _) (by assumption) rfl (by decide +kernel) rfl ?_))
  | with_reducible refine wE_make (wA_cons ?_)
  | with_reducible refine wR_neStr ?_
  | walk_at "w1")
local macro_rules | `(tactic| walk_at "c") => `(tactic| repeat walk_at "c1")
/-- a list of three numbers from which things are drawn -/
def Box (ds : List D) : Prop := ∃ a b c : Int, ds = [.int a, .int b, .int c] ∧ 0 ≤ a ∧ 0 ≤ b
abbrev W__law_take : W1 := fun ds es Φ _ => ∃ m : Int, es = [.int m] ∧ Box ds ∧ 0 < m ∧ m < 1073741824 ∧ ∀ (ds' : List D) (r : Int), Box ds' → 0 ≤ r → r < m → Φ ds' (.fz (.int r))
abbrev W__law_box : W0 := fun ds Φ _ => ∃ c : Int, ds = [.int c] ∧ ∀ ds', Box ds' → Φ (.ow ds')
abbrev W__law_cell_at : W0 := fun ds Φ _ => ∃ (ns : List Int) (k : Int), ds = [.scr ns, .int k] ∧ 0 ≤ k ∧ ∀ n : Int, Φ (.fz (.int n))
def isW : D → Bool
  | .int _ => true
  | _ => false
abbrev W_is_whole : W0 := fun ds Φ _ => ∃ d, ds = [d] ∧ (tyD d).isSome = true ∧ Φ (.fz (.bl (isW d)))
def isWin (d : D) (lo hi : Int) : Bool := match d with
  | .int n => decide (lo ≤ n) && decide (n ≤ hi)
  | _ => false
abbrev W_is_within : W0 := fun ds Φ _ => ∃ d lo hi, ds = [d, .int lo, .int hi] ∧ (tyD d).isSome = true ∧ Φ (.fz (.bl (isWin d lo hi)))
def inB (d : D) : Bool := match d with
  | .bl _ => true
  | d => isWin d (-1000000000) 1000000000
abbrev W_is_value : W0 := fun ds Φ _ => ∃ d, ds = [d] ∧ (tyD d).isSome = true ∧ Φ (.fz (.bl (inB d)))
/-- a value: a number within the bounds, or a truth -/
inductive Va where
  | n (i : Int)
  | t (b : Bool)
def Va.d : Va → D
  | .n i => .int i
  | .t b => .bl b
def Va.ok : Va → Prop
  | .n i => -1000000000 ≤ i ∧ i ≤ 1000000000
  | .t _ => True
abbrev Bd (i : Int) : Prop := -1000000000 ≤ i ∧ i ≤ 1000000000
theorem eqi (a b : Int) : PyData.eqv (.int a) (.int b) = (a == b) := by simp only [PyData.eqv]
theorem eqi_same (a : Int) : PyData.eqv (.int a) (.int a) = true := by rw [eqi]; exact beq_self_eq_true a
theorem eqs (a b : Str) : PyData.eqv (.str a) (.str b) = (a == b) := by simp only [PyData.eqv]
abbrev ownW : List Str := ["node", "in", "out", "before", "when", "hold", "like", "same", "call", "true", "false", "mod", "beat", "desk"]
def letter (c : Nat) : Bool := decide (97 ≤ c) && decide (c ≤ 122)
theorem mem_letters (c : Nat) : decide (c ∈ (Str.ofString "abcdefghijklmnopqrstuvwxyz").cps.toList) = letter c := by
  have e : (Str.ofString "abcdefghijklmnopqrstuvwxyz").cps.toList = [97, 98, 99, 100, 101, 102, 103, 104, 105, 106, 107, 108, 109, 110, 111, 112, 113, 114, 115, 116, 117, 118, 119, 120, 121, 122] := by decide +kernel
  rw [e]
  unfold letter
  rw [← Bool.decide_and]
  apply decide_eq_decide.mpr
  simp only [List.mem_cons, List.not_mem_nil, or_false]
  omega
structure Gd (d : D) : Prop where
  ty : (tyD d).isSome = true
  ln : ∀ s, d = .str s → s.length ≤ 1000 ∧ okS s
def inOwn (s : Str) : Bool := inD (.str s) (ownW.map .str)
def nameS (s : Str) : Bool := (decide ((1 : Int) ≤ (s.length : Int)) && decide ((s.length : Int) ≤ 8)) && (!inOwn s && s.cps.toList.all letter)
def isNm : D → Bool
  | .str s => nameS s
  | _ => false
def isPt : D → Bool
  | .str s => !decide ((80 : Int) < (s.length : Int)) && (Txt.split s ".").all nameS
  | _ => false
abbrev W_is_name : W0 := fun ds Φ _ => ∃ d, ds = [d] ∧ Gd d ∧ Φ (.fz (.bl (isNm d)))
abbrev W_is_pointed : W0 := fun ds Φ _ => ∃ d, ds = [d] ∧ Gd d ∧ Φ (.fz (.bl (isPt d)))
theorem len_str {s : Str} (h : s.length ≤ 1000) : lenD (.str s) = some s.length := if_pos (Nat.le_trans h (by decide))
theorem all_map_bl (l : List Nat) (f : Nat → Bool) : (l.map f).all id = l.all f := by
  rw [List.all_map]
  rfl
theorem Gd.str {s : Str} (h : s.length ≤ 1000) (h2 : okS s) : Gd (.str s) := ⟨rfl, fun z e => by cases e; exact ⟨h, h2⟩⟩
theorem part_gd {s p : Str} (hs : s.length ≤ 1000) (hok : okS s) (h : p ∈ Txt.split s ".") : Gd (.str p) :=
  Gd.str (Nat.le_trans ((split_bd s "." (by decide +kernel)).2 p h) hs) (split_ok hok p h)
theorem part_ln {s : Str} (hs : s.length ≤ 1000) : ((Txt.split s ".").map D.str).length ≤ 100000 := by
  have := (split_bd s "." (by decide +kernel)).1
  rw [List.length_map]
  omega
/-- where the classes of terms stand -/
structure TC where
  nm : Addr
  vl : Addr
  tw : Addr
  nt : Addr
  pk : Addr
  tm : Addr
/-- a term -/
inductive Tm where
  | nm (s : Str)
  | vl (v : D)
  | tw (op : Str) (a b : Tm)
  | nt (a : Tm)
  | pk (a b e : Tm)
namespace Tm
def tag : Tm → Nat
  | .nm _ => 0 | .vl _ => 1 | .tw _ _ _ => 2 | .nt _ => 3 | .pk _ _ _ => 4
def d (c : TC) : Tm → D
  | .nm s => .obj c.nm [("_name", .str s)]
  | .vl v => .obj c.vl [("_value", v)]
  | .tw op a b => .obj c.tw [("_op", .str op), ("_one", a.d c), ("_other", b.d c)]
  | .nt a => .obj c.nt [("_one", a.d c)]
  | .pk a b e => .obj c.pk [("_by", a.d c), ("_one", b.d c), ("_other", e.d c)]
def cl (c : TC) : Tm → Addr
  | .nm _ => c.nm | .vl _ => c.vl | .tw _ _ _ => c.tw | .nt _ => c.nt | .pk _ _ _ => c.pk
def fs (c : TC) : Tm → List (Str × D)
  | .nm s => [("_name", .str s)]
  | .vl v => [("_value", v)]
  | .tw op a b => [("_op", .str op), ("_one", a.d c), ("_other", b.d c)]
  | .nt a => [("_one", a.d c)]
  | .pk a b e => [("_by", a.d c), ("_one", b.d c), ("_other", e.d c)]
theorem d_obj (c : TC) : ∀ t : Tm, t.d c = .obj (t.cl c) (t.fs c)
  | .nm _ => rfl | .vl _ => rfl | .tw _ _ _ => rfl | .nt _ => rfl | .pk _ _ _ => rfl
def told : Tm → D
  | .nm s => .tup [.str "name", .str s]
  | .vl v => .tup [.str "value", v]
  | .tw op a b => .tup [.str "two", .str op, a.told, b.told]
  | .nt a => .tup [.str "not", a.told]
  | .pk a b e => .tup [.str "pick", a.told, b.told, e.told]
def lv : Tm → Nat
  | .nm _ => 1
  | .vl _ => 1
  | .tw _ a b => 1 + max a.lv b.lv
  | .nt a => 1 + a.lv
  | .pk a b e => 1 + max (max a.lv b.lv) e.lv
def ns : Tm → List Str
  | .nm s => [s]
  | .vl _ => []
  | .tw _ a b => once (a.ns ++ b.ns)
  | .nt a => a.ns
  | .pk a b e => once (a.ns ++ b.ns ++ e.ns)
end Tm
abbrev opsL : List Str := ["+", "-", "*", "/", "mod", "<", "=", "&", "|"]
def vok : D → Prop
  | .bl _ => True
  | .int i => -1000000000 ≤ i ∧ i ≤ 1000000000
  | _ => False
def gdN (s : Str) : Prop := s.length ≤ 100 ∧ okS s ∧ isPt (.str s) = true
def Tm.ok : Tm → Prop
  | .nm s => gdN s
  | .vl v => vok v
  | .tw op a b => op ∈ opsL ∧ a.ok ∧ b.ok
  | .nt a => a.ok
  | .pk a b e => a.ok ∧ b.ok ∧ e.ok
theorem Tm.lv_pos : ∀ t : Tm, 1 ≤ t.lv
  | .nm _ => Nat.le_refl _
  | .vl _ => Nat.le_refl _
  | .tw _ _ _ => Nat.le_add_right _ _
  | .nt _ => Nat.le_add_right _ _
  | .pk _ _ _ => Nat.le_add_right _ _
theorem Tm.ns_len : ∀ t : Tm, t.ns.length ≤ 3 ^ t.lv
  | .nm _ => by show 1 ≤ 3 ^ 1; decide
  | .vl _ => by show 0 ≤ 3 ^ 1; decide
  | .tw _ a b => by
    have h1 := ns_len a
    have h2 := ns_len b
    have h3 := once_len (a.ns ++ b.ns)
    rw [List.length_append] at h3
    have e1 : 3 ^ a.lv ≤ 3 ^ max a.lv b.lv := Nat.pow_le_pow_right (by decide) (Nat.le_max_left _ _)
    have e2 : 3 ^ b.lv ≤ 3 ^ max a.lv b.lv := Nat.pow_le_pow_right (by decide) (Nat.le_max_right _ _)
    show (once (a.ns ++ b.ns)).length ≤ 3 ^ (1 + max a.lv b.lv)
    rw [Nat.pow_add]
    omega
  | .nt a => by
    have h1 := ns_len a
    show a.ns.length ≤ 3 ^ (1 + a.lv)
    rw [Nat.pow_add]
    omega
  | .pk a b e => by
    have h1 := ns_len a
    have h2 := ns_len b
    have h4 := ns_len e
    have h3 := once_len (a.ns ++ b.ns ++ e.ns)
    rw [List.length_append, List.length_append] at h3
    have e1 : 3 ^ a.lv ≤ 3 ^ max (max a.lv b.lv) e.lv := Nat.pow_le_pow_right (by decide) (Nat.le_trans (Nat.le_max_left _ _) (Nat.le_max_left _ _))
    have e2 : 3 ^ b.lv ≤ 3 ^ max (max a.lv b.lv) e.lv := Nat.pow_le_pow_right (by decide) (Nat.le_trans (Nat.le_max_right _ _) (Nat.le_max_left _ _))
    have e3 : 3 ^ e.lv ≤ 3 ^ max (max a.lv b.lv) e.lv := Nat.pow_le_pow_right (by decide) (Nat.le_max_right _ _)
    show (once (a.ns ++ b.ns ++ e.ns)).length ≤ 3 ^ (1 + max (max a.lv b.lv) e.lv)
    rw [Nat.pow_add]
    omega
theorem Tm.ns_small {t : Tm} {n : Nat} (h : t.lv ≤ n) (hn : n ≤ 5) : t.ns.length ≤ 243 :=
  Nat.le_trans t.ns_len (Nat.le_trans (Nat.pow_le_pow_right (by decide) (Nat.le_trans h hn)) (by decide))
theorem mx_nat (i j : Nat) : mx (i : Int) (j : Int) = ((max i j : Nat) : Int) := by
  unfold mx
  split <;> omega
/-- what is known of the classes -/
def TC.all (c : TC) : List Addr := [c.nm, c.vl, c.tw, c.nt, c.pk]
structure Txt (K : PySem.W.Frag) (mg : Str → Option Value) (c : TC) : Prop where
  nm : OC K c.nm ["_name"]
  vl : OC K c.vl ["_value"]
  tw : OC K c.tw ["_op", "_one", "_other"]
  nt : OC K c.nt ["_one"]
  pk : OC K c.pk ["_by", "_one", "_other"]
  any : ∀ t : Tm, PySem.W.kitAny K (.ref (t.cl c)) (c.all.map Value.ref) = some true
  sub : ∀ t : Tm, PySem.W.kitOne K (.ref (t.cl c)) (.ref c.tm) = some true
theorem Txt.kd {K : PySem.W.Frag} {mg : Str → Option Value} {c : TC} (T : Txt K mg c) : ∀ t : Tm, kdD K (t.d c) (.ref (t.cl c))
  | .nm _ => .inl ⟨_, _, _, rfl, T.nm, rfl⟩
  | .vl _ => .inl ⟨_, _, _, rfl, T.vl, rfl⟩
  | .tw _ _ _ => .inl ⟨_, _, _, rfl, T.tw, rfl⟩
  | .nt _ => .inl ⟨_, _, _, rfl, T.nt, rfl⟩
  | .pk _ _ _ => .inl ⟨_, _, _, rfl, T.pk, rfl⟩
def vias (K : PySem.W.Frag) (c : TC) (W : Nat → W0) : List (Addr × Sp) := [(c.nm, sp0 K (W 0)), (c.vl, sp0 K (W 1)), (c.tw, sp0 K (W 2)), (c.nt, sp0 K (W 3)), (c.pk, sp0 K (W 4))]
theorem vias_mem {K : PySem.W.Frag} {c : TC} {W : Nat → W0} : ∀ t : Tm, (t.cl c, sp0 K (W t.tag)) ∈ vias K c W
  | .nm _ => .head _
  | .vl _ => .tail _ (.head _)
  | .tw _ _ _ => .tail _ (.tail _ (.head _))
  | .nt _ => .tail _ (.tail _ (.tail _ (.head _)))
  | .pk _ _ _ => .tail _ (.tail _ (.tail _ (.tail _ (.head _))))
theorem vias_all {K : PySem.W.Frag} {c : TC} {W : Nat → W0} {P : Addr × Sp → Prop} (h0 : P (c.nm, sp0 K (W 0))) (h1 : P (c.vl, sp0 K (W 1))) (h2 : P (c.tw, sp0 K (W 2))) (h3 : P (c.nt, sp0 K (W 3))) (h4 : P (c.pk, sp0 K (W 4))) : ∀ z ∈ vias K c W, P z := by
  intro z hz
  rcases List.mem_cons.mp hz with rfl | hz
  · exact h0
  rcases List.mem_cons.mp hz with rfl | hz
  · exact h1
  rcases List.mem_cons.mp hz with rfl | hz
  · exact h2
  rcases List.mem_cons.mp hz with rfl | hz
  · exact h3
  rcases List.mem_cons.mp hz with rfl | hz
  · exact h4
  cases hz
section
variable {K : PySem.W.Frag} {F : Fr} {ρ : Sls} {P : Sls → D → Prop} {ta : TE} {c : TC} {W : Nat → W0}
theorem wE_tm {m : Str} (hm : ∀ t : Tm, (t.fs c).lookup m = none) (h : wE K F ta ρ fun ρ1 x => ∃ t : Tm, x = t.d c ∧ W t.tag [t.d c] (RsP (P ρ1)) X0) : wE K F (tVia (vias K c W) m L2.E0 ta) ρ P :=
  wE_via eok0 (wE_mono h fun ρ1 x ⟨t, e, hW⟩ => ⟨t.cl c, t.fs c, W t.tag, e.trans (t.d_obj c), vias_mem t, hm t, by rw [e]; exact hW⟩)
theorem wO_tm {m : Str} {PO : Sls → List D → Prop} (hm : ∀ t : Tm, (t.fs c).lookup m = none) (h : wE K F ta ρ fun ρ1 x => ∃ t : Tm, x = t.d c ∧ W t.tag [t.d c] (RsO (PO ρ1)) X0) : wO K F (tVia (vias K c W) m L2.E0 ta) ρ PO :=
  wO_via eok0 (wE_mono h fun ρ1 x ⟨t, e, hW⟩ => ⟨t.cl c, t.fs c, W t.tag, e.trans (t.d_obj c), vias_mem t, hm t, by rw [e]; exact hW⟩)
end
theorem nf_told (c : TC) : ∀ t : Tm, (t.fs c).lookup ("told" : Str) = none
  | .nm _ => rfl | .vl _ => rfl | .tw _ _ _ => rfl | .nt _ => rfl | .pk _ _ _ => rfl
theorem nf_names (c : TC) : ∀ t : Tm, (t.fs c).lookup ("names" : Str) = none
  | .nm _ => rfl | .vl _ => rfl | .tw _ _ _ => rfl | .nt _ => rfl | .pk _ _ _ => rfl
theorem nf_levels (c : TC) : ∀ t : Tm, (t.fs c).lookup ("levels" : Str) = none
  | .nm _ => rfl | .vl _ => rfl | .tw _ _ _ => rfl | .nt _ => rfl | .pk _ _ _ => rfl
abbrev W_told (c : TC) (n : Nat) (tag : Nat) : W0 := fun ds Φ _ => ∃ t : Tm, ds = [t.d c] ∧ t.tag = tag ∧ t.lv ≤ n ∧ Φ (.fz t.told)
abbrev W_levels (c : TC) (n : Nat) (tag : Nat) : W0 := fun ds Φ _ => ∃ t : Tm, ds = [t.d c] ∧ t.tag = tag ∧ t.lv ≤ n ∧ Φ (.fz (.int t.lv))
abbrev W_names (c : TC) (n : Nat) (tag : Nat) : W0 := fun ds Φ _ => ∃ t : Tm, ds = [t.d c] ∧ t.tag = tag ∧ t.lv ≤ n ∧ t.lv ≤ 5 ∧ Φ (.ow (t.ns.map .str))
abbrev W_each_once : W0 := fun ds Φ _ => ∃ ss : List Str, ds = [.lst (ss.map .str)] ∧ ss.length ≤ 10000 ∧ Φ (.ow ((once ss).map .str))
abbrev W_ops_told : W0 := fun ds Φ _ => ds = [] ∧ Φ (.ow (opsL.map .str))
abbrev W__inner (c : TC) : W0 := fun ds Φ _ => ∃ t : Tm, ds = [t.d c] ∧ t.lv ≤ 4 ∧ Φ (.fz (t.d c))
abbrev W_Name_init (c : TC) : WI := fun ds Φ => ∃ s : Str, ds = [.str s] ∧ gdN s ∧ Φ [("_name", .str s)]
abbrev W_Value_init (c : TC) : WI := fun ds Φ => ∃ v : D, ds = [v] ∧ vok v ∧ Φ [("_value", v)]
abbrev W_Two_init (c : TC) : WI := fun ds Φ => ∃ (op : Str) (a b : Tm), ds = [.str op, a.d c, b.d c] ∧ op ∈ opsL ∧ a.lv ≤ 4 ∧ b.lv ≤ 4 ∧ Φ [("_op", .str op), ("_one", a.d c), ("_other", b.d c)]
abbrev W_Not_init (c : TC) : WI := fun ds Φ => ∃ a : Tm, ds = [a.d c] ∧ a.lv ≤ 4 ∧ Φ [("_one", a.d c)]
abbrev W_Pick_init (c : TC) : WI := fun ds Φ => ∃ a b e : Tm, ds = [a.d c, b.d c, e.d c] ∧ a.lv ≤ 4 ∧ b.lv ≤ 4 ∧ e.lv ≤ 4 ∧ Φ [("_by", a.d c), ("_one", b.d c), ("_other", e.d c)]
abbrev W__made_of (c : TC) (n : Nat) : W0 := fun ds Φ _ => ∃ t : Tm, ds = [t.told] ∧ t.ok ∧ t.lv ≤ n ∧ t.lv ≤ 5 ∧ Φ (.fz (t.d c))
abbrev W_term_of (c : TC) : W0 := fun ds Φ _ => ∃ t : Tm, ds = [t.told] ∧ t.ok ∧ t.lv ≤ 5 ∧ Φ (.fz (t.d c))
theorem ops_in : ∀ op ∈ opsL, inD (.str op) (opsL.map .str) = true := by
  intro op h
  have e : (opsL.all fun o => inD (.str o) (opsL.map .str)) = true := by decide +kernel
  exact List.all_eq_true.mp e op h
theorem gdN.gd {s : Str} (h : gdN s) : Gd (.str s) := Gd.str (Nat.le_trans h.1 (by decide)) h.2.1
/-- names behind names, those that stand there already left out -/
def addN (acc ns : List Str) : List Str := acc ++ ns.filter fun s => decide (s ∉ acc)
theorem addN_nil (ns : List Str) : addN [] ns = ns := by
  unfold addN
  rw [List.nil_append]
  exact List.filter_eq_self.mpr fun s _ => decide_eq_true (List.not_mem_nil)
def stepN (acc : List Str) (s : Str) : List Str := if s ∈ acc then acc else acc ++ [s]
theorem once_eq (l : List Str) : once l = l.foldl stepN [] := rfl
theorem foldN : ∀ (m acc : List Str), m.Nodup → m.foldl stepN acc = addN acc m
  | [], acc, _ => by show acc = acc ++ []; rw [List.append_nil]
  | s :: m, acc, h => by
    have hs := (List.nodup_cons.mp h).1
    have hm := (List.nodup_cons.mp h).2
    rw [List.foldl_cons, foldN m _ hm]
    unfold addN stepN
    rw [List.filter_cons]
    by_cases z : s ∈ acc
    · rw [if_pos z, if_neg (by rw [decide_eq_false (not_not_intro z)]; exact fun q => nomatch q)]
    · rw [if_neg z, if_pos (decide_eq_true z), List.append_assoc]
      congr 1
      rw [List.singleton_append]
      congr 1
      refine List.filter_congr fun x hx => ?_
      have ne : x ≠ s := fun q => hs (by rw [← q]; exact hx)
      refine decide_eq_decide.mpr ?_
      rw [List.mem_append, List.mem_singleton]
      exact ⟨fun q y => q (.inl y), fun q y => y.elim q ne⟩
theorem once_nodup (l : List Str) : (once l).Nodup := by
  rw [once_eq]
  suffices h : ∀ (l acc : List Str), acc.Nodup → (l.foldl stepN acc).Nodup from h l [] List.nodup_nil
  intro l
  induction l with
  | nil => exact fun acc h => h
  | cons a l ih =>
    intro acc h
    rw [List.foldl_cons]
    refine ih _ ?_
    unfold stepN
    by_cases z : a ∈ acc
    · rw [if_pos z]; exact h
    · rw [if_neg z]
      rw [List.nodup_append]
      exact ⟨h, List.nodup_cons.mpr ⟨List.not_mem_nil, List.nodup_nil⟩, fun x hx y hy q => by
        rw [List.mem_singleton] at hy
        exact z (by rw [← hy, ← q]; exact hx)⟩
theorem Tm.nodup : ∀ t : Tm, t.ns.Nodup
  | .nm s => List.nodup_cons.mpr ⟨List.not_mem_nil, List.nodup_nil⟩
  | .vl _ => List.nodup_nil
  | .tw _ a b => once_nodup _
  | .nt a => nodup a
  | .pk a b e => once_nodup _
theorem once_two {a b : List Str} (ha : a.Nodup) (hb : b.Nodup) : once (a ++ b) = addN (addN [] a) b := by
  rw [once_eq, List.foldl_append, foldN _ _ ha, foldN _ _ hb]
theorem once_three {a b e : List Str} (ha : a.Nodup) (hb : b.Nodup) (he : e.Nodup) : once (a ++ b ++ e) = addN (addN (addN [] a) b) e := by
  rw [once_eq, List.foldl_append, List.foldl_append, foldN _ _ ha, foldN _ _ hb, foldN _ _ he]
theorem inD_str (s : Str) (fs : List Str) : inD (.str s) (fs.map .str) = decide (s ∈ fs) := by
  unfold inD inV
  induction fs with
  | nil => rfl
  | cons a r ih =>
    rw [List.map_cons, List.map_cons, List.any_cons, ih]
    show ((a == s) || decide (s ∈ r)) = _
    rw [Bool.eq_iff_iff]
    simp only [Bool.or_eq_true, beq_iff_eq, decide_eq_true_eq, List.mem_cons]
    exact ⟨fun q => q.imp Eq.symm id, fun q => q.imp Eq.symm id⟩
theorem flat_strs (l : List Str) : (l.map D.str).all flatD = true := by
  induction l with
  | nil => rfl
  | cons a r ih => rw [List.map_cons, List.all_cons, ih]; rfl
theorem flt_names (ns fs : List Str) : ((ns.map D.str).filter fun d => !inD d (fs.map D.str)).map id = (ns.filter fun s => decide (s ∉ fs)).map D.str := by
  rw [List.map_id]
  induction ns with
  | nil => rfl
  | cons a r ih =>
    rw [List.map_cons, List.filter_cons, List.filter_cons, ih, inD_str]
    by_cases z : a ∈ fs
    · rw [decide_eq_true z, if_neg (by decide), if_neg (by rw [decide_eq_false (not_not_intro z)]; decide)]
    · rw [decide_eq_false z, if_pos (by decide), if_pos (decide_eq_true z)]
      rfl
theorem addN_len (acc ns : List Str) : (addN acc ns).length ≤ acc.length + ns.length := by
  unfold addN
  rw [List.length_append]
  have := List.length_filter_le (fun s => decide (s ∉ acc)) ns
  omega
/-! the texts of told terms -/
def Tm.py : Tm → PyData
  | .nm s => .tuple [.str "name", .str s]
  | .vl (.bl b) => .tuple [.str "value", .bool b]
  | .vl (.int i) => .tuple [.str "value", .int i]
  | .vl _ => .none
  | .tw op a b => .tuple [.str "two", .str op, a.py, b.py]
  | .nt a => .tuple [.str "not", a.py]
  | .pk a b e => .tuple [.str "pick", a.py, b.py, e.py]
theorem Tm.toPy : ∀ t : Tm, t.ok → DL.toPy t.told = some t.py
  | .nm _, _ => by simp [told, py, DL.toPy, DL.toPyL]
  | .vl v, h => by
    cases v <;> first | exact h.elim | simp [told, py, DL.toPy, DL.toPyL]
  | .tw _ a b, h => by simp [told, py, DL.toPy, DL.toPyL, toPy a h.2.1, toPy b h.2.2]
  | .nt a, h => by simp [told, py, DL.toPy, DL.toPyL, toPy a h]
  | .pk a b e, h => by simp [told, py, DL.toPy, DL.toPyL, toPy a h.1, toPy b h.2.1, toPy e h.2.2]
theorem Tm.py_dict : ∀ t : Tm, t.ok → t.py.hasDict = false
  | .nm _, _ => rfl
  | .vl v, h => by cases v <;> first | exact h.elim | rfl
  | .tw _ a b, h => by simp [py, PyData.hasDict, PyData.hasDictAll, py_dict a h.2.1, py_dict b h.2.2]
  | .nt a, h => by simp [py, PyData.hasDict, PyData.hasDictAll, py_dict a h]
  | .pk a b e, h => by simp [py, PyData.hasDict, PyData.hasDictAll, py_dict a h.1, py_dict b h.2.1, py_dict e h.2.2]
theorem Tm.py_show : ∀ t : Tm, t.ok → t.py.showable = true
  | .nm _, _ => rfl
  | .vl v, h => by
    cases v <;> first | exact h.elim | rfl | skip
    rename_i i
    have hi : i.natAbs.log2 < 1920 := log2_small (by have := h.1; have := h.2; omega)
    simp [py, PyData.showable, PyData.showableAll, hi]
  | .tw _ a b, h => by simp [py, PyData.showable, PyData.showableAll, py_show a h.2.1, py_show b h.2.2]
  | .nt a, h => by simp [py, PyData.showable, PyData.showableAll, py_show a h]
  | .pk a b e, h => by simp [py, PyData.showable, PyData.showableAll, py_show a h.1, py_show b h.2.1, py_show e h.2.2]
theorem Tm.py_depth : ∀ t : Tm, t.py.depth ≤ t.lv
  | .nm _ => by simp [py, PyData.depth, PyData.depthAll, lv]
  | .vl v => by cases v <;> simp [py, PyData.depth, PyData.depthAll, lv]
  | .tw _ a b => by
    have h1 := py_depth a
    have h2 := py_depth b
    simp only [py, PyData.depth, PyData.depthAll, lv]
    omega
  | .nt a => by
    have h1 := py_depth a
    simp only [py, PyData.depth, PyData.depthAll, lv]
    omega
  | .pk a b e => by
    have h1 := py_depth a
    have h2 := py_depth b
    have h3 := py_depth e
    simp only [py, PyData.depth, PyData.depthAll, lv]
    omega
theorem int_text (i : Int) (h : -1000000000 ≤ i ∧ i ≤ 1000000000) : (PyData.shown (.int i)).length ≤ 13 := by
  have e : (PyData.shown (.int i)).length = (toString i).length := ofString_length _
  rw [e]
  have := int_text_length_le10 (a := i) (k := 10) (by decide) (by have := h.1; have := h.2; omega)
  omega
theorem op_small : ∀ op ∈ opsL, op.length ≤ 10 ∧ okS op := by
  intro op h
  have e : (opsL.all fun o => decide (o.length ≤ 10) && (o.cps.toList.all fun c => decide (c < 0x110000))) = true := by decide +kernel
  have := List.all_eq_true.mp e op h
  rw [Bool.and_eq_true] at this
  exact ⟨of_decide_eq_true this.1, okS_of this.2⟩
theorem ok_short {s : Str} (h : okS s) : (s.cps.toList.all fun c => decide (c < 16 ^ 8)) = true :=
  List.all_eq_true.mpr fun c hc => decide_eq_true (Nat.lt_trans (h c hc) (by decide))
theorem Tm.py_short : ∀ t : Tm, t.ok → t.py.leavesShort 13 = true
  | .nm s, h => by
    have h1 := ok_short h.2.1
    have h2 := ok_short (s := "name") (okS_of (by decide +kernel))
    simp only [py, PyData.leavesShort, PyData.leavesShortAll, h1, h2]
    rfl
  | .vl v, h => by
    have h2 := ok_short (s := "value") (okS_of (by decide +kernel))
    cases v <;> first | exact h.elim | skip
    · simp only [py, PyData.leavesShort, PyData.leavesShortAll, h2]
      rfl
    · rename_i i
      have h3 : decide ((PyData.shown (.int i)).length ≤ 13) = true := decide_eq_true (int_text i h)
      simp only [py, PyData.leavesShort, PyData.leavesShortAll, h2, h3]
      rfl
  | .tw op a b, h => by
    have h1 := ok_short (op_small op h.1).2
    have h2 := ok_short (s := "two") (okS_of (by decide +kernel))
    simp only [py, PyData.leavesShort, PyData.leavesShortAll, h1, h2, py_short a h.2.1, py_short b h.2.2]
    rfl
  | .nt a, h => by
    have h2 := ok_short (s := "not") (okS_of (by decide +kernel))
    simp only [py, PyData.leavesShort, PyData.leavesShortAll, h2, py_short a h]
    rfl
  | .pk a b e, h => by
    have h2 := ok_short (s := "pick") (okS_of (by decide +kernel))
    simp only [py, PyData.leavesShort, PyData.leavesShortAll, h2, py_short a h.1, py_short b h.2.1, py_short e h.2.2]
    rfl
theorem pow4 {a m : Nat} (h : a ≤ m) : 4 ^ a ≤ 4 ^ m := Nat.pow_le_pow_right (by decide) h
theorem Tm.py_bulk : ∀ t : Tm, t.ok → t.py.bulk ≤ 200 * 4 ^ t.lv
  | .nm s, h => by
    have e : (Str.ofString "name").cps.size = 4 := by decide +kernel
    have hs : s.cps.size ≤ 100 := h.1
    simp only [py, PyData.bulk, PyData.bulkAll, lv, e]
    omega
  | .vl v, h => by
    have e : (Str.ofString "value").cps.size = 5 := by decide +kernel
    cases v <;> first | exact h.elim | (simp only [py, PyData.bulk, PyData.bulkAll, lv, e]; omega)
  | .tw op a b, h => by
    have e : (Str.ofString "two").cps.size = 3 := by decide +kernel
    have ho : op.cps.size ≤ 10 := (op_small op h.1).1
    have h1 := py_bulk a h.2.1
    have h2 := py_bulk b h.2.2
    have e1 : 4 ^ a.lv ≤ 4 ^ max a.lv b.lv := pow4 (Nat.le_max_left _ _)
    have e2 : 4 ^ b.lv ≤ 4 ^ max a.lv b.lv := pow4 (Nat.le_max_right _ _)
    have e3 : 1 ≤ 4 ^ max a.lv b.lv := Nat.pow_pos (by decide)
    simp only [py, PyData.bulk, PyData.bulkAll, lv, e, Nat.pow_add]
    omega
  | .nt a, h => by
    have e : (Str.ofString "not").cps.size = 3 := by decide +kernel
    have h1 := py_bulk a h
    have e3 : 1 ≤ 4 ^ a.lv := Nat.pow_pos (by decide)
    simp only [py, PyData.bulk, PyData.bulkAll, lv, e, Nat.pow_add]
    omega
  | .pk a b e', h => by
    have e : (Str.ofString "pick").cps.size = 4 := by decide +kernel
    have h1 := py_bulk a h.1
    have h2 := py_bulk b h.2.1
    have h3 := py_bulk e' h.2.2
    have e1 : 4 ^ a.lv ≤ 4 ^ max (max a.lv b.lv) e'.lv := pow4 (Nat.le_trans (Nat.le_max_left _ _) (Nat.le_max_left _ _))
    have e2 : 4 ^ b.lv ≤ 4 ^ max (max a.lv b.lv) e'.lv := pow4 (Nat.le_trans (Nat.le_max_right _ _) (Nat.le_max_left _ _))
    have e4 : 4 ^ e'.lv ≤ 4 ^ max (max a.lv b.lv) e'.lv := pow4 (Nat.le_max_right _ _)
    have e3 : 1 ≤ 4 ^ max (max a.lv b.lv) e'.lv := Nat.pow_pos (by decide)
    simp only [py, PyData.bulk, PyData.bulkAll, lv, e, Nat.pow_add]
    omega
theorem Tm.py_fits {t : Tm} (h : t.ok) (hl : t.lv ≤ 5) : t.py.shown.length ≤ sizeLine := by
  refine PyData.shown_fits_bulk (B := 13) (by decide) (by decide) (py_short t h) ?_
  have h1 := py_bulk t h
  have h2 : 4 ^ t.lv ≤ 4 ^ 5 := Nat.pow_le_pow_right (by decide) hl
  have h3 : (4 : Nat) ^ 5 = 1024 := by decide
  omega
theorem once_mem {l : List Str} {s : Str} (h : s ∈ once l) : s ∈ l := by
  rw [once_eq] at h
  suffices k : ∀ (l acc : List Str), s ∈ l.foldl stepN acc → s ∈ acc ∨ s ∈ l from (k l [] h).elim (fun z => nomatch z) id
  intro l
  induction l with
  | nil => exact fun acc h => .inl h
  | cons a l ih =>
    intro acc h
    rw [List.foldl_cons] at h
    rcases ih _ h with z | z
    · unfold stepN at z
      by_cases q : a ∈ acc
      · rw [if_pos q] at z; exact .inl z
      · rw [if_neg q] at z
        rcases List.mem_append.mp z with z | z
        · exact .inl z
        · rw [List.mem_singleton] at z
          exact .inr (by rw [z]; exact .head _)
    · exact .inr (.tail _ z)
theorem Tm.ns_ok : ∀ t : Tm, t.ok → ∀ s ∈ t.ns, okS s
  | .nm n, h, s, hs => by
    have e : s = n := List.mem_singleton.mp hs
    rw [e]
    exact h.2.1
  | .vl _, _, s, hs => nomatch hs
  | .tw _ a b, h, s, hs => (List.mem_append.mp (once_mem hs)).elim (ns_ok a h.2.1 s) (ns_ok b h.2.2 s)
  | .nt a, h, s, hs => ns_ok a h s hs
  | .pk a b e, h, s, hs => (List.mem_append.mp (once_mem hs)).elim (fun z => (List.mem_append.mp z).elim (ns_ok a h.1 s) (ns_ok b h.2.1 s)) (ns_ok e h.2.2 s)
theorem wC_reprT {K : PySem.W.Frag} {F : Fr} {ρ : Sls} {P : Sls → D → Prop} : ∀ {t : Tm}, t.ok → t.lv ≤ 5 → P ρ (.str t.py.shown) → wC K F (rReprD K) [t.told] ρ P := fun {t} h hl p => by
  have h1 := t.toPy h
  have h2 := t.py_show h
  have h3 := t.py_dict h
  have h4 : t.py.depth ≤ 60 := Nat.le_trans t.py_depth (Nat.le_trans hl (by decide))
  have h5 := Tm.py_fits h hl
  cases t <;> exact wC_reprD h1 h2 h3 h4 h5 p
theorem eqv_strs {l : List Str} (h : ∀ s ∈ l, okS s) : PyData.eqv (.list (l.map .str)) (.list (l.map .str)) = true := SeqAt.eqv_refl _ (SeqAt.canLay_of_shaped (shaped_strs h))
theorem toPy_strs (l : List Str) : DL.toPy (.lst (l.map .str)) = some (.list (l.map .str)) := by
  rw [DL.toPy, toPyL_strs]
  rfl
theorem no_told {c : TC} {K : PySem.W.Frag} {tag : Nat} {vs : List V} {H : Hp} {Q : VK} {E : XK} : ¬ sp0 K (W_told c 0 tag) vs H Q E := sp0_no fun _ _ _ ⟨t, _, _, h, _⟩ => absurd t.lv_pos (by omega)
theorem no_levels {c : TC} {K : PySem.W.Frag} {tag : Nat} {vs : List V} {H : Hp} {Q : VK} {E : XK} : ¬ sp0 K (W_levels c 0 tag) vs H Q E := sp0_no fun _ _ _ ⟨t, _, _, h, _⟩ => absurd t.lv_pos (by omega)
theorem no_names {c : TC} {K : PySem.W.Frag} {tag : Nat} {vs : List V} {H : Hp} {Q : VK} {E : XK} : ¬ sp0 K (W_names c 0 tag) vs H Q E := sp0_no fun _ _ _ ⟨t, _, _, h, _⟩ => absurd t.lv_pos (by omega)
theorem no__made_of {c : TC} {K : PySem.W.Frag} {vs : List V} {H : Hp} {Q : VK} {E : XK} : ¬ sp0 K (W__made_of c 0) vs H Q E := sp0_no fun _ _ _ ⟨t, _, _, h, _⟩ => absurd t.lv_pos (by omega)
theorem mk_any {K : PySem.W.Frag} {c : TC} (a0 : PySem.W.kitAny K (.ref c.nm) (c.all.map Value.ref) = some true) (a1 : PySem.W.kitAny K (.ref c.vl) (c.all.map Value.ref) = some true) (a2 : PySem.W.kitAny K (.ref c.tw) (c.all.map Value.ref) = some true) (a3 : PySem.W.kitAny K (.ref c.nt) (c.all.map Value.ref) = some true) (a4 : PySem.W.kitAny K (.ref c.pk) (c.all.map Value.ref) = some true) : ∀ t : Tm, PySem.W.kitAny K (.ref (t.cl c)) (c.all.map Value.ref) = some true
  | .nm _ => a0 | .vl _ => a1 | .tw _ _ _ => a2 | .nt _ => a3 | .pk _ _ _ => a4
theorem mk_sub {K : PySem.W.Frag} {c : TC} (a0 : PySem.W.kitOne K (.ref c.nm) (.ref c.tm) = some true) (a1 : PySem.W.kitOne K (.ref c.vl) (.ref c.tm) = some true) (a2 : PySem.W.kitOne K (.ref c.tw) (.ref c.tm) = some true) (a3 : PySem.W.kitOne K (.ref c.nt) (.ref c.tm) = some true) (a4 : PySem.W.kitOne K (.ref c.pk) (.ref c.tm) = some true) : ∀ t : Tm, PySem.W.kitOne K (.ref (t.cl c)) (.ref c.tm) = some true
  | .nm _ => a0 | .vl _ => a1 | .tw _ _ _ => a2 | .nt _ => a3 | .pk _ _ _ => a4
abbrev W__law_made (c : TC) (n : Nat) : W0 := W__made_of c n
abbrev W__law_names (c : TC) (n : Nat) : W0 := fun ds Φ _ => ∃ t : Tm, ds = [t.told] ∧ t.ok ∧ t.lv ≤ n ∧ t.lv ≤ 5 ∧ Φ (.fz (.lst (t.ns.map .str)))
abbrev W__law_levels (c : TC) (n : Nat) : W0 := fun ds Φ _ => ∃ t : Tm, ds = [t.told] ∧ t.lv ≤ n ∧ Φ (.fz (.int t.lv))
abbrev W__law_value (c : TC) : W1 := fun ds es Φ _ => es = [] ∧ Box ds ∧ ∀ (ds' : List D) (v : D), Box ds' → vok v → Φ ds' (.fz v)
abbrev W__law_told (c : TC) (n : Nat) : W1 := fun ds es Φ _ => ∃ (l : Nat) (nl : List Str), es = [.int l, .lst (nl.map .str)] ∧ Box ds ∧ 1 ≤ l ∧ l ≤ n ∧ 0 < nl.length ∧ nl.length ≤ 1000 ∧ (∀ s ∈ nl, gdN s) ∧
  ∀ (ds' : List D) (t : Tm), Box ds' → t.ok → t.lv ≤ l → Φ ds' (.fz t.told)
abbrev W__law_right (c : TC) : W0 := fun ds Φ _ => ∃ t : Tm, ds = [t.d c, t.told] ∧ t.ok ∧ t.lv ≤ 5 ∧ Φ (.fz (.bl true))
abbrev W_law : W0 := WLaw
abbrev nlA : List Str := ["a", "ab", "b.a", "x.y.zz", "mmmmmmmm", repS "abcdefgh." 8 ++ "abcdefgh"]
theorem no__law_made {c : TC} {K : PySem.W.Frag} {vs : List V} {H : Hp} {Q : VK} {E : XK} : ¬ sp0 K (W__law_made c 0) vs H Q E := no__made_of
theorem no__law_names {c : TC} {K : PySem.W.Frag} {vs : List V} {H : Hp} {Q : VK} {E : XK} : ¬ sp0 K (W__law_names c 0) vs H Q E := sp0_no fun _ _ _ ⟨t, _, _, h, _⟩ => absurd t.lv_pos (by omega)
theorem no__law_levels {c : TC} {K : PySem.W.Frag} {vs : List V} {H : Hp} {Q : VK} {E : XK} : ¬ sp0 K (W__law_levels c 0) vs H Q E := sp0_no fun _ _ _ ⟨t, _, h, _⟩ => absurd t.lv_pos (by omega)
theorem no__law_told {c : TC} {K : PySem.W.Frag} {vs : List V} {H : Hp} {Q : VK} {E : XK} : ¬ sp1 K (W__law_told c 0) vs H Q E := sp1_no fun _ _ _ _ ⟨l, _, _, _, h, h', _⟩ => by omega

section
variable {P : Program} {w : World} {K : PySem.W.Frag} {mg : Str → Option Value} {base : Heap} {c : TC}
theorem ok_is_whole  {f : Addr} {fd : FuncData} (F : L2.Fun K "is_whole" "is_whole" s_is_whole f fd) (T : Txt K mg c) (m_isinstance : mg "isinstance" = none) (m_bool : mg "bool" = none) (m_int : mg "int" = none) : FnOk P w K mg base L2.CX0 1 f fd ["thing"] (sp0 K W_is_whole) := by
  refine F.ok sc_is_whole (fun vs H Q E h => sp0_len (by rintro _ _ _ ⟨_, rfl, _⟩; rfl) h) (fun cdv A outer s H vs Q E hr h => ⟨_, (pss_one (ps_ret (pe_and (pe_callB call_isi (by rfl) m_isinstance PyProof.Rows.boot_isinstance (pa_cons (pv 0) (pa_cons (pe_bltn (v := .ty "int") (by rfl) m_int PyProof.Rows.boot_int rfl) pa_nil))) (pe_one (pe_not (pe_callB call_isi (by rfl) m_isinstance PyProof.Rows.boot_isinstance (pa_cons (pv 0) (pa_cons (pe_bltn (v := .ty "bool") (by rfl) m_bool PyProof.Rows.boot_bool rfl) pa_nil)))))))), body0 h ?_⟩)
  try dsimp only [cxOf]
  intro ds Φ X F hW hE
  obtain ⟨d, rfl, hd, hΦ⟩ := hW
  cases d <;> first | (cases hd; done) | (walk_at "w"; exact hΦ)

theorem ok_is_within  {f : Addr} {fd : FuncData} (F : L2.Fun K "is_within" "is_within" s_is_within f fd) (T : Txt K mg c) (c_is_whole : Callee P w K mg base 1 "is_whole" (sp0 K W_is_whole)) : FnOk P w K mg base L2.CX0 2 f fd ["thing", "low", "high"] (sp0 K W_is_within) := by
  refine F.ok sc_is_within (fun vs H Q E h => sp0_len (by rintro _ _ _ ⟨_, _, _, rfl, _⟩; rfl) h) (fun cdv A outer s H vs Q E hr h => ⟨_, (pss_one (ps_ret (pe_and (DL.pe_cl c_is_whole hr (by omega) (by rfl) (pa_cons (pv 0) pa_nil)) (pe_one (pe_chain op_le op_le (pv 1) (pv 0) (pv 2)))))), body0 h ?_⟩)
  try dsimp only [cxOf]
  intro ds Φ X F hW hE
  obtain ⟨d, lo, hi, rfl, hd, hΦ⟩ := hW
  cases d <;> first | (cases hd; done) | (walk_at "w"; exact ⟨_, rfl, hd, by walk_at "w"; exact hΦ⟩) | skip
  rename_i n
  walk_at "w"
  refine ⟨_, rfl, hd, rsp_fz ?_⟩
  walk_at "w"
  have e : isWin (.int n) lo hi = (decide (lo ≤ n) && decide (n ≤ hi)) := rfl
  rw [e] at hΦ
  refine ways_dec (fun h => ?_) (fun h => ?_)
  · walk_at "w"
    rw [decide_eq_true h] at hΦ
    exact hΦ
  · walk_at "w"
    rw [decide_eq_false h] at hΦ
    exact hΦ

theorem ok_is_name  {f : Addr} {fd : FuncData} (F : L2.Fun K "is_name" "is_name" s_is_name f fd) (T : Txt K mg c) (m_len : mg "len" = none) (m_isinstance : mg "isinstance" = none) (m_str : mg "str" = none) (m_all : mg "all" = none) (k__NAME_SIGNS : Kon K mg "_NAME_SIGNS" (.int 8)) (k__LETTERS : Kon K mg "_LETTERS" (.str "abcdefghijklmnopqrstuvwxyz")) (k__OWN_WORDS : Kon K mg "_OWN_WORDS" (.tup [(.str "node"), (.str "in"), (.str "out"), (.str "before"), (.str "when"), (.str "hold"), (.str "like"), (.str "same"), (.str "call"), (.str "true"), (.str "false"), (.str "mod"), (.str "beat"), (.str "desk")])) : FnOk P w K mg base L2.CX0 1 f fd ["thing"] (sp0 K W_is_name) := by
  obtain ⟨u__NAME_SIGNS, v__NAME_SIGNS, m__NAME_SIGNS, r__NAME_SIGNS, q__NAME_SIGNS⟩ := k__NAME_SIGNS.ex
  obtain ⟨u__LETTERS, v__LETTERS, m__LETTERS, r__LETTERS, q__LETTERS⟩ := k__LETTERS.ex
  obtain ⟨u__OWN_WORDS, v__OWN_WORDS, m__OWN_WORDS, r__OWN_WORDS, q__OWN_WORDS⟩ := k__OWN_WORDS.ex
  refine F.ok sc_is_name (fun vs H Q E h => sp0_len (by rintro _ _ _ ⟨_, rfl, _⟩; rfl) h) (fun cdv A outer s H vs Q E hr h => ⟨_, (pss_cons (ps_if (PW.pt (pw_or (pt_not (pt_val (pe_callB call_isi (by rfl) m_isinstance PyProof.Rows.boot_isinstance (pa_cons (pv 0) (pa_cons (pe_bltn (v := .ty "str") (by rfl) m_str PyProof.Rows.boot_str rfl) pa_nil))))) (pw_or1 (pt_not (pt_chain op_le op_le pe_int (pe_callB call_len (by rfl) m_len PySem.boot_len (pa_cons (pv 0) pa_nil)) (pe_glob (by rfl) m__NAME_SIGNS r__NAME_SIGNS)))))) (pss_one (ps_ret pe_bl)) pss_nil) (pss_one (ps_ret (pe_and (pe_cmpR op_notIn_seq (pv 0) (pe_glob (by rfl) m__OWN_WORDS r__OWN_WORDS) (by rfl)) (pe_one (pe_callB (cr_all rfl) (by rfl) m_all (by decide +kernel) (pa_cons (pe_lc (own := [("sign", 1)]) (g := (gName 1)) (tt := tYes) rfl sc_is_name.nd (pi_str (pv 0)) (blkOk_by (N := N_is_name) (sc := defScope s_is_name) (by decide +kernel)) (fun _ _ _ _ _ => (pg_name (i := 1) sc_is_name.nd rfl (Or.inl rfl))) (fun _ _ _ _ _ => pts_nil) (fun _ _ _ _ _ => (pe_cmpR op_in_sign (pv 1) (pe_glob (by rfl) m__LETTERS r__LETTERS) (by rfl)))) pa_nil))))))), body0 h ?_⟩)
  try dsimp only [cxOf]
  intro ds Φ X F hW hE
  obtain ⟨d, rfl, ⟨hd, hl⟩, hΦ⟩ := hW
  cases d <;> first | (cases hd; done) | (walk_at "w"; exact hΦ) | skip
  rename_i s
  obtain ⟨hs, hok⟩ := hl s rfl
  walk_at "w"
  refine wC_len (len_str hs) ?_
  walk_at "w"
  have hN : isNm (.str s) = nameS s := rfl
  unfold nameS at hN
  rw [hN] at hΦ
  refine ways_dec (fun h1 => ?_) (fun h1 => ?_)
  · walk_at "w"
    refine ways_not (ways_dec (fun h2 => ?_) (fun h2 => ?_))
    · rw [decide_eq_true h1, decide_eq_true h2] at hΦ
      walk_at "w"
      have hown : inD (.str s) [.str "node", .str "in", .str "out", .str "before", .str "when", .str "hold", .str "like", .str "same", .str "call", .str "true", .str "false", .str "mod", .str "beat", .str "desk"] = inOwn s := rfl
      rw [hown]
      cases ho : inOwn s with
      | true =>
        rw [ho] at hΦ
        walk_at "w"
        exact hΦ
      | false =>
        rw [ho] at hΦ
        walk_at "w"
        refine wE_ofO (wO_lcS (tgt_name (by decide)) ?_)
        walk_at "w"
        refine ⟨s, rfl, by have : s.cps.size ≤ 1000 := hs; omega, ?_⟩
        walk_at "nm"
        refine compL_flt (p := fun _ => true) (f := fun d => match d with | .str z => .bl (letter (z.cps.getD 0 0)) | _ => .non) _ _ (fun F' x hx => ?_) ?_
        · obtain ⟨c, hc, rfl⟩ := List.mem_map.mp hx
          walk_at "w"
          refine ⟨rfl, fun h => (nomatch h), fun _ => ?_⟩
          walk_at "w"
          refine ⟨rfl, ?_⟩
          show D.bl (decide (c ∈ (Str.ofString "abcdefghijklmnopqrstuvwxyz").cps.toList)) = .bl (letter c)
          rw [mem_letters]
        · walk_at "w"
          refine wC_all' (bs := s.cps.toList.map letter) ?_ ?_
          · rw [List.nil_append, List.filter_eq_self.mpr (fun _ _ => rfl)]
            unfold sgD
            rw [List.map_map, List.map_map]
            exact List.map_congr_left fun c _ => rfl
          · rw [all_map_bl]
            exact hΦ
    · rw [decide_eq_true h1, decide_eq_false h2] at hΦ
      walk_at "w"
      exact hΦ
  · rw [decide_eq_false h1] at hΦ
    walk_at "w"
    exact hΦ

theorem ok_is_pointed  {f : Addr} {fd : FuncData} (F : L2.Fun K "is_pointed" "is_pointed" s_is_pointed f fd) (T : Txt K mg c) (c_is_name : Callee P w K mg base 1 "is_name" (sp0 K W_is_name)) (m_len : mg "len" = none) (m_isinstance : mg "isinstance" = none) (m_str : mg "str" = none) (m_all : mg "all" = none) (k__POINTED_SIGNS : Kon K mg "_POINTED_SIGNS" (.int 80)) : FnOk P w K mg base L2.CX0 2 f fd ["thing"] (sp0 K W_is_pointed) := by
  obtain ⟨u__POINTED_SIGNS, v__POINTED_SIGNS, m__POINTED_SIGNS, r__POINTED_SIGNS, q__POINTED_SIGNS⟩ := k__POINTED_SIGNS.ex
  refine F.ok sc_is_pointed (fun vs H Q E h => sp0_len (by rintro _ _ _ ⟨_, rfl, _⟩; rfl) h) (fun cdv A outer s H vs Q E hr h => ⟨_, (pss_cons (ps_if (PW.pt (pw_or (pt_not (pt_val (pe_callB call_isi (by rfl) m_isinstance PyProof.Rows.boot_isinstance (pa_cons (pv 0) (pa_cons (pe_bltn (v := .ty "str") (by rfl) m_str PyProof.Rows.boot_str rfl) pa_nil))))) (pw_or1 (pt_cmpR op_gt (pe_callB call_len (by rfl) m_len PySem.boot_len (pa_cons (pv 0) pa_nil)) (pe_glob (by rfl) m__POINTED_SIGNS r__POINTED_SIGNS) (nomark _))))) (pss_one (ps_ret pe_bl)) pss_nil) (pss_one (ps_ret (pe_callB (cr_all rfl) (by rfl) m_all (by decide +kernel) (pa_cons (pe_lc (own := [("part", 1)]) (g := (gName 1)) (tt := tYes) rfl sc_is_pointed.nd (pi_list (pe_split (pv 0) pe_str)) (blkOk_by (N := N_is_pointed) (sc := defScope s_is_pointed) (by decide +kernel)) (fun _ _ _ _ _ => (pg_name (i := 1) sc_is_pointed.nd rfl (Or.inl rfl))) (fun _ _ _ _ _ => pts_nil) (fun _ _ _ _ _ => (DL.pe_cl c_is_name hr (by omega) (by rfl) (pa_cons (pv 1) pa_nil)))) pa_nil))))), body0 h ?_⟩)
  try dsimp only [cxOf]
  intro ds Φ X F hW hE
  obtain ⟨d, rfl, ⟨hd, hl⟩, hΦ⟩ := hW
  cases d <;> first | (cases hd; done) | (walk_at "w"; exact hΦ) | skip
  rename_i s
  obtain ⟨hs, hok⟩ := hl s rfl
  walk_at "w"
  refine wC_len (len_str hs) ?_
  walk_at "w"
  have hP : isPt (.str s) = (!decide ((80 : Int) < (s.length : Int)) && (Txt.split s ".").all nameS) := rfl
  rw [hP] at hΦ
  refine ways_dec (fun h1 => ?_) (fun h1 => ?_)
  · rw [decide_eq_true h1] at hΦ
    walk_at "w"
    exact hΦ
  · rw [decide_eq_false h1] at hΦ
    walk_at "w"
    refine ⟨_, rfl, by decide +kernel, by omega, _, rfl, part_ln hs, ?_⟩
    walk_at "nm"
    refine compL_flt (p := fun _ => true) (f := fun d => .bl (isNm d)) _ _ (fun F' x hx => ?_) ?_
    · obtain ⟨q, hq, rfl⟩ := List.mem_map.mp hx
      walk_at "w"
      refine ⟨rfl, fun h => (nomatch h), fun _ => ?_⟩
      walk_at "w"
      exact ⟨_, rfl, part_gd hs hok hq, rsp_fz ⟨rfl, rfl⟩⟩
    · walk_at "w"
      refine wC_all' (bs := (Txt.split s ".").map nameS) ?_ ?_
      · rw [List.nil_append, List.filter_eq_self.mpr (fun _ _ => rfl), List.map_map, List.map_map]
        exact List.map_congr_left fun c _ => rfl
      · rw [List.all_map]
        exact hΦ

theorem ok_is_value  {f : Addr} {fd : FuncData} (F : L2.Fun K "is_value" "is_value" s_is_value f fd) (T : Txt K mg c) (c_is_within : Callee P w K mg base 2 "is_within" (sp0 K W_is_within)) (m_isinstance : mg "isinstance" = none) (m_bool : mg "bool" = none) (k__GREATEST : Kon K mg "_GREATEST" (.int 1000000000)) : FnOk P w K mg base L2.CX0 3 f fd ["thing"] (sp0 K W_is_value) := by
  obtain ⟨u__GREATEST, v__GREATEST, m__GREATEST, r__GREATEST, q__GREATEST⟩ := k__GREATEST.ex
  refine F.ok sc_is_value (fun vs H Q E h => sp0_len (by rintro _ _ _ ⟨_, rfl, _⟩; rfl) h) (fun cdv A outer s H vs Q E hr h => ⟨_, (pss_one (ps_ret (pe_or (pe_callB call_isi (by rfl) m_isinstance PyProof.Rows.boot_isinstance (pa_cons (pv 0) (pa_cons (pe_bltn (v := .ty "bool") (by rfl) m_bool PyProof.Rows.boot_bool rfl) pa_nil))) (pe_one (DL.pe_cl c_is_within hr (by omega) (by rfl) (pa_cons (pv 0) (pa_cons (pe_un un_neg (pe_glob (by rfl) m__GREATEST r__GREATEST)) (pa_cons (pe_glob (by rfl) m__GREATEST r__GREATEST) pa_nil)))))))), body0 h ?_⟩)
  try dsimp only [cxOf]
  intro ds Φ X F hW hE
  obtain ⟨d, rfl, hd, hΦ⟩ := hW
  cases d <;> first | (cases hd; done) | (walk_at "w"; exact hΦ) | (walk_at "w"; exact ⟨_, _, _, rfl, hd, hΦ⟩)

theorem ok_each_once  {f : Addr} {fd : FuncData} (F : L2.Fun K "each_once" "each_once" s_each_once f fd) (T : Txt K mg c) (m_list : mg "list" = none) : FnOk P w K mg base L2.CX0 1 f fd ["names"] (sp0 K W_each_once) := by
  refine F.ok sc_each_once (fun vs H Q E h => sp0_len (by rintro _ _ _ ⟨_, rfl, _⟩; rfl) h) (fun cdv A outer s H vs Q E hr h => ⟨_, (pss_one (ps_ret (pe_callTy (call_listD rfl) (by rfl) m_list PyProof.Rows.boot_list (pa_cons (pe_dc (own := [("name", 1)]) (g := (gName 1)) (tt := tYes) rfl sc_each_once.nd (pi_list (pv 0)) (blkOk_by (N := N_each_once) (sc := defScope s_each_once) (by decide +kernel)) (fun _ _ _ _ _ => (pg_name (i := 1) sc_each_once.nd rfl (Or.inl rfl))) (fun _ _ _ _ _ => pts_nil) (fun _ _ _ _ _ => (pv 1)) (fun _ _ _ _ _ => pe_bl)) pa_nil)))), body0 h ?_⟩)
  try dsimp only [cxOf]
  intro ds Φ X F hW hE
  obtain ⟨ss, rfl, hl, hΦ⟩ := hW
  refine wS_retO ?_
  exact wO_once (i := 0) (j := 1) (ss := ss) rfl (Nat.le_of_ble_eq_true rfl) (by decide) (Nat.le_trans hl (by decide)) hΦ

theorem ok_ops_told  {f : Addr} {fd : FuncData} (F : L2.Fun K "ops_told" "ops_told" s_ops_told f fd) (T : Txt K mg c) (m_list : mg "list" = none) (k__OPS : Kon K mg "_OPS" (.tup [(.str "+"), (.str "-"), (.str "*"), (.str "/"), (.str "mod"), (.str "<"), (.str "="), (.str "&"), (.str "|")])) : FnOk P w K mg base L2.CX0 1 f fd [] (sp0 K W_ops_told) := by
  obtain ⟨u__OPS, v__OPS, m__OPS, r__OPS, q__OPS⟩ := k__OPS.ex
  refine F.ok sc_ops_told (fun vs H Q E h => sp0_len (by rintro _ _ _ ⟨rfl, _⟩; rfl) h) (fun cdv A outer s H vs Q E hr h => ⟨_, (pss_one (ps_ret (pe_callTy call_list_of (by rfl) m_list PyProof.Rows.boot_list (pa_cons (pe_glob (by rfl) m__OPS r__OPS) pa_nil)))), body0 h ?_⟩)
  try dsimp only [cxOf]
  intro ds Φ X F hW hE
  obtain ⟨rfl, hΦ⟩ := hW
  refine wS_retO (wO_cb (wA_cons ?_))
  walk_at "w"
  exact wCO_list (.inr rfl) hΦ

theorem ok_Name_told {n : Nat} {f : Addr} {fd : FuncData} (F : L2.Fun K "told" "Name.told" s_Name_told f fd) (T : Txt K mg c)  : FnOk P w K mg base L2.CX0 (0 + n + 1) f fd ["self"] (sp0 K (W_told c (n + 1) 0)) := by
  refine F.ok sc_Name_told (fun vs H Q E h => sp0_len (by rintro _ _ _ ⟨_, rfl, _⟩; rfl) h) (fun cdv A outer s H vs Q E hr h => ⟨_, (pss_one (ps_ret (pe_tup (pa_cons pe_str (pa_cons (pe_fld (pv 0) rfl) pa_nil))))), body0 h ?_⟩)
  try dsimp only [cxOf]
  intro ds Φ X F hW hE
  obtain ⟨t, rfl, ht, hl, hΦ⟩ := hW
  cases t <;> first | (cases ht; done) | skip
  have o := T.nm
  walk_at "c"
  exact hΦ

theorem ok_Value_told {n : Nat} {f : Addr} {fd : FuncData} (F : L2.Fun K "told" "Value.told" s_Value_told f fd) (T : Txt K mg c)  : FnOk P w K mg base L2.CX0 (0 + n + 1) f fd ["self"] (sp0 K (W_told c (n + 1) 1)) := by
  refine F.ok sc_Value_told (fun vs H Q E h => sp0_len (by rintro _ _ _ ⟨_, rfl, _⟩; rfl) h) (fun cdv A outer s H vs Q E hr h => ⟨_, (pss_one (ps_ret (pe_tup (pa_cons pe_str (pa_cons (pe_fld (pv 0) rfl) pa_nil))))), body0 h ?_⟩)
  try dsimp only [cxOf]
  intro ds Φ X F hW hE
  obtain ⟨t, rfl, ht, hl, hΦ⟩ := hW
  cases t <;> first | (cases ht; done) | skip
  have o := T.vl
  walk_at "c"
  exact hΦ

theorem ok_Two_told {n : Nat} {f : Addr} {fd : FuncData} (F : L2.Fun K "told" "Two.told" s_Two_told f fd) (T : Txt K mg c) (v_told : ∀ z ∈ vias K c (W_told c n), MCallee P w K mg base (0 + n) z.1 "told" z.2) : FnOk P w K mg base L2.CX0 (0 + n + 1) f fd ["self"] (sp0 K (W_told c (n + 1) 2)) := by
  refine F.ok sc_Two_told (fun vs H Q E h => sp0_len (by rintro _ _ _ ⟨_, rfl, _⟩; rfl) h) (fun cdv A outer s H vs Q E hr h => ⟨_, (pss_one (ps_ret (pe_tup (pa_cons pe_str (pa_cons (pe_fld (pv 0) rfl) (pa_cons (DL.pe_via v_told hr (by omega) (pe_fld (pv 0) rfl)) (pa_cons (DL.pe_via v_told hr (by omega) (pe_fld (pv 0) rfl)) pa_nil))))))), body0 h ?_⟩)
  try dsimp only [cxOf]
  intro ds Φ X F hW hE
  obtain ⟨t, rfl, ht, hl, hΦ⟩ := hW
  cases t <;> first | (cases ht; done) | skip
  rename_i op a b
  have o := T.tw
  have hl' : 1 + max a.lv b.lv ≤ n + 1 := hl
  walk_at "c"
  refine wE_tm (nf_told c) ?_
  walk_at "c"
  refine ⟨a, rfl, a, rfl, rfl, by omega, rsp_fz ?_⟩
  walk_at "c"
  refine wE_tm (nf_told c) ?_
  walk_at "c"
  refine ⟨b, rfl, b, rfl, rfl, by omega, rsp_fz ?_⟩
  walk_at "c"
  exact hΦ

theorem ok_Not_told {n : Nat} {f : Addr} {fd : FuncData} (F : L2.Fun K "told" "Not.told" s_Not_told f fd) (T : Txt K mg c) (v_told : ∀ z ∈ vias K c (W_told c n), MCallee P w K mg base (0 + n) z.1 "told" z.2) : FnOk P w K mg base L2.CX0 (0 + n + 1) f fd ["self"] (sp0 K (W_told c (n + 1) 3)) := by
  refine F.ok sc_Not_told (fun vs H Q E h => sp0_len (by rintro _ _ _ ⟨_, rfl, _⟩; rfl) h) (fun cdv A outer s H vs Q E hr h => ⟨_, (pss_one (ps_ret (pe_tup (pa_cons pe_str (pa_cons (DL.pe_via v_told hr (by omega) (pe_fld (pv 0) rfl)) pa_nil))))), body0 h ?_⟩)
  try dsimp only [cxOf]
  intro ds Φ X F hW hE
  obtain ⟨t, rfl, ht, hl, hΦ⟩ := hW
  cases t <;> first | (cases ht; done) | skip
  rename_i a
  have o := T.nt
  have hl' : 1 + a.lv ≤ n + 1 := hl
  walk_at "c"
  refine wE_tm (nf_told c) ?_
  walk_at "c"
  refine ⟨a, rfl, a, rfl, rfl, by omega, rsp_fz ?_⟩
  walk_at "c"
  exact hΦ

theorem ok_Pick_told {n : Nat} {f : Addr} {fd : FuncData} (F : L2.Fun K "told" "Pick.told" s_Pick_told f fd) (T : Txt K mg c) (v_told : ∀ z ∈ vias K c (W_told c n), MCallee P w K mg base (0 + n) z.1 "told" z.2) : FnOk P w K mg base L2.CX0 (0 + n + 1) f fd ["self"] (sp0 K (W_told c (n + 1) 4)) := by
  refine F.ok sc_Pick_told (fun vs H Q E h => sp0_len (by rintro _ _ _ ⟨_, rfl, _⟩; rfl) h) (fun cdv A outer s H vs Q E hr h => ⟨_, (pss_one (ps_ret (pe_tup (pa_cons pe_str (pa_cons (DL.pe_via v_told hr (by omega) (pe_fld (pv 0) rfl)) (pa_cons (DL.pe_via v_told hr (by omega) (pe_fld (pv 0) rfl)) (pa_cons (DL.pe_via v_told hr (by omega) (pe_fld (pv 0) rfl)) pa_nil))))))), body0 h ?_⟩)
  try dsimp only [cxOf]
  intro ds Φ X F hW hE
  obtain ⟨t, rfl, ht, hl, hΦ⟩ := hW
  cases t <;> first | (cases ht; done) | skip
  rename_i a b e
  have o := T.pk
  have hl' : 1 + max (max a.lv b.lv) e.lv ≤ n + 1 := hl
  walk_at "c"
  refine wE_tm (nf_told c) ?_
  walk_at "c"
  refine ⟨a, rfl, a, rfl, rfl, by omega, rsp_fz ?_⟩
  walk_at "c"
  refine wE_tm (nf_told c) ?_
  walk_at "c"
  refine ⟨b, rfl, b, rfl, rfl, by omega, rsp_fz ?_⟩
  walk_at "c"
  refine wE_tm (nf_told c) ?_
  walk_at "c"
  refine ⟨e, rfl, e, rfl, rfl, by omega, rsp_fz ?_⟩
  walk_at "c"
  exact hΦ

theorem ok_Name_levels {n : Nat} {f : Addr} {fd : FuncData} (F : L2.Fun K "levels" "Name.levels" s_Name_levels f fd) (T : Txt K mg c)  : FnOk P w K mg base L2.CX0 (0 + n + 1) f fd ["self"] (sp0 K (W_levels c (n + 1) 0)) := by
  refine F.ok sc_Name_levels (fun vs H Q E h => sp0_len (by rintro _ _ _ ⟨_, rfl, _⟩; rfl) h) (fun cdv A outer s H vs Q E hr h => ⟨_, (pss_one (ps_ret pe_int)), body0 h ?_⟩)
  try dsimp only [cxOf]
  intro ds Φ X F hW hE
  obtain ⟨t, rfl, ht, hl, hΦ⟩ := hW
  cases t <;> first | (cases ht; done) | skip
  walk_at "c"
  exact hΦ

theorem ok_Value_levels {n : Nat} {f : Addr} {fd : FuncData} (F : L2.Fun K "levels" "Value.levels" s_Value_levels f fd) (T : Txt K mg c)  : FnOk P w K mg base L2.CX0 (0 + n + 1) f fd ["self"] (sp0 K (W_levels c (n + 1) 1)) := by
  refine F.ok sc_Value_levels (fun vs H Q E h => sp0_len (by rintro _ _ _ ⟨_, rfl, _⟩; rfl) h) (fun cdv A outer s H vs Q E hr h => ⟨_, (pss_one (ps_ret pe_int)), body0 h ?_⟩)
  try dsimp only [cxOf]
  intro ds Φ X F hW hE
  obtain ⟨t, rfl, ht, hl, hΦ⟩ := hW
  cases t <;> first | (cases ht; done) | skip
  walk_at "c"
  exact hΦ

theorem ok_Two_levels {n : Nat} {f : Addr} {fd : FuncData} (F : L2.Fun K "levels" "Two.levels" s_Two_levels f fd) (T : Txt K mg c) (v_levels : ∀ z ∈ vias K c (W_levels c n), MCallee P w K mg base (0 + n) z.1 "levels" z.2) (m_max : mg "max" = none) : FnOk P w K mg base L2.CX0 (0 + n + 1) f fd ["self"] (sp0 K (W_levels c (n + 1) 2)) := by
  refine F.ok sc_Two_levels (fun vs H Q E h => sp0_len (by rintro _ _ _ ⟨_, rfl, _⟩; rfl) h) (fun cdv A outer s H vs Q E hr h => ⟨_, (pss_one (ps_ret (pe_op DL.op_plus pe_int (pe_callB (call_max2 rfl) (by rfl) m_max (by decide +kernel) (pa_cons (DL.pe_via v_levels hr (by omega) (pe_fld (pv 0) rfl)) (pa_cons (DL.pe_via v_levels hr (by omega) (pe_fld (pv 0) rfl)) pa_nil)))))), body0 h ?_⟩)
  try dsimp only [cxOf]
  intro ds Φ X F hW hE
  obtain ⟨t, rfl, ht, hl, hΦ⟩ := hW
  cases t <;> first | (cases ht; done) | skip
  rename_i op a b
  have o := T.tw
  have hl' : 1 + max a.lv b.lv ≤ n + 1 := hl
  walk_at "c"
  refine wE_tm (nf_levels c) ?_
  walk_at "c"
  refine ⟨a, rfl, a, rfl, rfl, by omega, rsp_fz ?_⟩
  walk_at "c"
  refine wE_tm (nf_levels c) ?_
  walk_at "c"
  refine ⟨b, rfl, b, rfl, rfl, by omega, rsp_fz ?_⟩
  walk_at "c"
  have e : (1 : Int) + (if (b.lv : Int) > (a.lv : Int) then (b.lv : Int) else (a.lv : Int)) = ((Tm.tw op a b).lv : Int) := by
    show _ = ((1 + max a.lv b.lv : Nat) : Int)
    split <;> omega
  rw [e]
  exact hΦ

theorem ok_Not_levels {n : Nat} {f : Addr} {fd : FuncData} (F : L2.Fun K "levels" "Not.levels" s_Not_levels f fd) (T : Txt K mg c) (v_levels : ∀ z ∈ vias K c (W_levels c n), MCallee P w K mg base (0 + n) z.1 "levels" z.2) : FnOk P w K mg base L2.CX0 (0 + n + 1) f fd ["self"] (sp0 K (W_levels c (n + 1) 3)) := by
  refine F.ok sc_Not_levels (fun vs H Q E h => sp0_len (by rintro _ _ _ ⟨_, rfl, _⟩; rfl) h) (fun cdv A outer s H vs Q E hr h => ⟨_, (pss_one (ps_ret (pe_op DL.op_plus pe_int (DL.pe_via v_levels hr (by omega) (pe_fld (pv 0) rfl))))), body0 h ?_⟩)
  try dsimp only [cxOf]
  intro ds Φ X F hW hE
  obtain ⟨t, rfl, ht, hl, hΦ⟩ := hW
  cases t <;> first | (cases ht; done) | skip
  rename_i a
  have o := T.nt
  have hl' : 1 + a.lv ≤ n + 1 := hl
  walk_at "c"
  refine wE_tm (nf_levels c) ?_
  walk_at "c"
  refine ⟨a, rfl, a, rfl, rfl, by omega, rsp_fz ?_⟩
  walk_at "c"
  have e : (1 : Int) + (a.lv : Int) = ((Tm.nt a).lv : Int) := by
    show _ = ((1 + a.lv : Nat) : Int)
    omega
  rw [e]
  exact hΦ

theorem ok_Pick_levels {n : Nat} {f : Addr} {fd : FuncData} (F : L2.Fun K "levels" "Pick.levels" s_Pick_levels f fd) (T : Txt K mg c) (v_levels : ∀ z ∈ vias K c (W_levels c n), MCallee P w K mg base (0 + n) z.1 "levels" z.2) (m_max : mg "max" = none) : FnOk P w K mg base L2.CX0 (0 + n + 1) f fd ["self"] (sp0 K (W_levels c (n + 1) 4)) := by
  refine F.ok sc_Pick_levels (fun vs H Q E h => sp0_len (by rintro _ _ _ ⟨_, rfl, _⟩; rfl) h) (fun cdv A outer s H vs Q E hr h => ⟨_, (pss_one (ps_ret (pe_op DL.op_plus pe_int (pe_callB (call_max3Nu rfl) (by rfl) m_max (by decide +kernel) (pa_cons (DL.pe_via v_levels hr (by omega) (pe_fld (pv 0) rfl)) (pa_cons (DL.pe_via v_levels hr (by omega) (pe_fld (pv 0) rfl)) (pa_cons (DL.pe_via v_levels hr (by omega) (pe_fld (pv 0) rfl)) pa_nil))))))), body0 h ?_⟩)
  try dsimp only [cxOf]
  intro ds Φ X F hW hE
  obtain ⟨t, rfl, ht, hl, hΦ⟩ := hW
  cases t <;> first | (cases ht; done) | skip
  rename_i a b e
  have o := T.pk
  have hl' : 1 + max (max a.lv b.lv) e.lv ≤ n + 1 := hl
  walk_at "c"
  refine wE_tm (nf_levels c) ?_
  walk_at "c"
  refine ⟨a, rfl, a, rfl, rfl, by omega, rsp_fz ?_⟩
  walk_at "c"
  refine wE_tm (nf_levels c) ?_
  walk_at "c"
  refine ⟨b, rfl, b, rfl, rfl, by omega, rsp_fz ?_⟩
  walk_at "c"
  refine wE_tm (nf_levels c) ?_
  walk_at "c"
  refine ⟨e, rfl, e, rfl, rfl, by omega, rsp_fz ?_⟩
  walk_at "c"
  refine wC_max3 ?_
  walk_at "c"
  have e1 : (1 : Int) + mx (mx (a.lv : Int) (b.lv : Int)) (e.lv : Int) = ((Tm.pk a b e).lv : Int) := by
    rw [mx_nat, mx_nat]
    show _ = ((1 + max (max a.lv b.lv) e.lv : Nat) : Int)
    omega
  rw [e1]
  exact hΦ

theorem ok_Name_names {n : Nat} {f : Addr} {fd : FuncData} (F : L2.Fun K "names" "Name.names" s_Name_names f fd) (T : Txt K mg c)  : FnOk P w K mg base L2.CX0 (1 + n + 1) f fd ["self"] (sp0 K (W_names c (n + 1) 0)) := by
  refine F.ok sc_Name_names (fun vs H Q E h => sp0_len (by rintro _ _ _ ⟨_, rfl, _⟩; rfl) h) (fun cdv A outer s H vs Q E hr h => ⟨_, (pss_one (ps_ret (pe_lst (pa_cons (pe_fld (pv 0) rfl) pa_nil)))), body0 h ?_⟩)
  try dsimp only [cxOf]
  intro ds Φ X F hW hE
  obtain ⟨t, rfl, ht, hl, h5, hΦ⟩ := hW
  cases t <;> first | (cases ht; done) | skip
  have o := T.nm
  refine wS_retO (wO_lst (wA_cons ?_))
  walk_at "c"
  exact hΦ

theorem ok_Value_names {n : Nat} {f : Addr} {fd : FuncData} (F : L2.Fun K "names" "Value.names" s_Value_names f fd) (T : Txt K mg c)  : FnOk P w K mg base L2.CX0 (1 + n + 1) f fd ["self"] (sp0 K (W_names c (n + 1) 1)) := by
  refine F.ok sc_Value_names (fun vs H Q E h => sp0_len (by rintro _ _ _ ⟨_, rfl, _⟩; rfl) h) (fun cdv A outer s H vs Q E hr h => ⟨_, (pss_one (ps_ret (pe_lst pa_nil))), body0 h ?_⟩)
  try dsimp only [cxOf]
  intro ds Φ X F hW hE
  obtain ⟨t, rfl, ht, hl, h5, hΦ⟩ := hW
  cases t <;> first | (cases ht; done) | skip
  refine wS_retO (wO_lst (wA_nil ?_))
  walk_at "c"
  exact hΦ

theorem ok_Two_names {n : Nat} {f : Addr} {fd : FuncData} (F : L2.Fun K "names" "Two.names" s_Two_names f fd) (T : Txt K mg c) (c_each_once : Callee P w K mg base 1 "each_once" (sp0 K W_each_once)) (v_names : ∀ z ∈ vias K c (W_names c n), MCallee P w K mg base (1 + n) z.1 "names" z.2) : FnOk P w K mg base L2.CX0 (1 + n + 1) f fd ["self"] (sp0 K (W_names c (n + 1) 2)) := by
  refine F.ok sc_Two_names (fun vs H Q E h => sp0_len (by rintro _ _ _ ⟨_, rfl, _⟩; rfl) h) (fun cdv A outer s H vs Q E hr h => ⟨_, (pss_one (ps_ret (DL.pe_cl c_each_once hr (by omega) (by rfl) (pa_cons (pe_op DL.op_plus (DL.pe_via v_names hr (by omega) (pe_fld (pv 0) rfl)) (DL.pe_via v_names hr (by omega) (pe_fld (pv 0) rfl))) pa_nil)))), body0 h ?_⟩)
  try dsimp only [cxOf]
  intro ds Φ X F hW hE
  obtain ⟨t, rfl, ht, hl, h5, hΦ⟩ := hW
  cases t <;> first | (cases ht; done) | skip
  rename_i op a b
  have o := T.tw
  have hl' : 1 + max a.lv b.lv ≤ n + 1 := hl
  have h5' : 1 + max a.lv b.lv ≤ 5 := h5
  have ha := a.ns_small (n := 5) (by omega) (by omega)
  have hb := b.ns_small (n := 5) (by omega) (by omega)
  refine wS_retO (wO_call eok0 (wA_cons ?_))
  walk_at "c"
  refine wE_tm (nf_names c) ?_
  walk_at "c"
  refine ⟨a, rfl, a, rfl, rfl, by omega, by omega, rsp_ow ?_⟩
  refine wE_tm (nf_names c) ?_
  walk_at "c"
  refine ⟨b, rfl, b, rfl, rfl, by omega, by omega, rsp_ow ?_⟩
  refine wRO_E (wRO_plusL ?_ ?_)
  · rw [List.length_map, List.length_map]; omega
  walk_at "c"
  refine ⟨a.ns ++ b.ns, by rw [List.map_append], by rw [List.length_append]; omega, rso_ow ?_⟩
  exact hΦ

theorem ok_Not_names {n : Nat} {f : Addr} {fd : FuncData} (F : L2.Fun K "names" "Not.names" s_Not_names f fd) (T : Txt K mg c) (v_names : ∀ z ∈ vias K c (W_names c n), MCallee P w K mg base (1 + n) z.1 "names" z.2) : FnOk P w K mg base L2.CX0 (1 + n + 1) f fd ["self"] (sp0 K (W_names c (n + 1) 3)) := by
  refine F.ok sc_Not_names (fun vs H Q E h => sp0_len (by rintro _ _ _ ⟨_, rfl, _⟩; rfl) h) (fun cdv A outer s H vs Q E hr h => ⟨_, (pss_one (ps_ret (DL.pe_via v_names hr (by omega) (pe_fld (pv 0) rfl)))), body0 h ?_⟩)
  try dsimp only [cxOf]
  intro ds Φ X F hW hE
  obtain ⟨t, rfl, ht, hl, h5, hΦ⟩ := hW
  cases t <;> first | (cases ht; done) | skip
  rename_i a
  have o := T.nt
  have hl' : 1 + a.lv ≤ n + 1 := hl
  have h5' : 1 + a.lv ≤ 5 := h5
  refine wS_retO (wO_tm (nf_names c) ?_)
  walk_at "c"
  refine ⟨a, rfl, a, rfl, rfl, by omega, by omega, rso_ow ?_⟩
  exact hΦ

theorem ok_Pick_names {n : Nat} {f : Addr} {fd : FuncData} (F : L2.Fun K "names" "Pick.names" s_Pick_names f fd) (T : Txt K mg c) (c_each_once : Callee P w K mg base 1 "each_once" (sp0 K W_each_once)) (v_names : ∀ z ∈ vias K c (W_names c n), MCallee P w K mg base (1 + n) z.1 "names" z.2) : FnOk P w K mg base L2.CX0 (1 + n + 1) f fd ["self"] (sp0 K (W_names c (n + 1) 4)) := by
  refine F.ok sc_Pick_names (fun vs H Q E h => sp0_len (by rintro _ _ _ ⟨_, rfl, _⟩; rfl) h) (fun cdv A outer s H vs Q E hr h => ⟨_, (pss_one (ps_ret (DL.pe_cl c_each_once hr (by omega) (by rfl) (pa_cons (pe_op DL.op_plus (pe_op DL.op_plus (DL.pe_via v_names hr (by omega) (pe_fld (pv 0) rfl)) (DL.pe_via v_names hr (by omega) (pe_fld (pv 0) rfl))) (DL.pe_via v_names hr (by omega) (pe_fld (pv 0) rfl))) pa_nil)))), body0 h ?_⟩)
  try dsimp only [cxOf]
  intro ds Φ X F hW hE
  obtain ⟨t, rfl, ht, hl, h5, hΦ⟩ := hW
  cases t <;> first | (cases ht; done) | skip
  rename_i a b e
  have o := T.pk
  have hl' : 1 + max (max a.lv b.lv) e.lv ≤ n + 1 := hl
  have h5' : 1 + max (max a.lv b.lv) e.lv ≤ 5 := h5
  have ha := a.ns_small (n := 5) (by omega) (by omega)
  have hb := b.ns_small (n := 5) (by omega) (by omega)
  have he := e.ns_small (n := 5) (by omega) (by omega)
  refine wS_retO (wO_call eok0 (wA_cons ?_))
  walk_at "c"
  refine wE_tm (nf_names c) ?_
  walk_at "c"
  refine ⟨a, rfl, a, rfl, rfl, by omega, by omega, rsp_ow ?_⟩
  refine wE_tm (nf_names c) ?_
  walk_at "c"
  refine ⟨b, rfl, b, rfl, rfl, by omega, by omega, rsp_ow ?_⟩
  refine wRO_E (wRO_plusL ?_ ?_)
  · rw [List.length_map, List.length_map]; omega
  refine wE_tm (nf_names c) ?_
  walk_at "c"
  refine ⟨e, rfl, e, rfl, rfl, by omega, by omega, rsp_ow ?_⟩
  refine wRO_E (wRO_plusL ?_ ?_)
  · rw [List.length_append, List.length_map, List.length_map, List.length_map]; omega
  walk_at "c"
  refine ⟨a.ns ++ b.ns ++ e.ns, by rw [List.map_append, List.map_append], by rw [List.length_append, List.length_append]; omega, rso_ow ?_⟩
  exact hΦ

theorem ok__inner  {f : Addr} {fd : FuncData} (F : L2.Fun K "_inner" "_inner" s__inner f fd) (T : Txt K mg c) (v_levels : ∀ z ∈ vias K c (W_levels c 5), MCallee P w K mg base (0 + 5) z.1 "levels" z.2) (g_Pick : mg "Pick" = some (.ref c.pk)) (g_Not : mg "Not" = some (.ref c.nt)) (g_Two : mg "Two" = some (.ref c.tw)) (g_Value : mg "Value" = some (.ref c.vl)) (g_Name : mg "Name" = some (.ref c.nm)) (m_isinstance : mg "isinstance" = none) (k_LEVELS : Kon K mg "LEVELS" (.int 5)) : FnOk P w K mg base L2.CX0 6 f fd ["thing"] (sp0 K (W__inner c)) := by
  obtain ⟨u_LEVELS, v_LEVELS, m_LEVELS, r_LEVELS, q_LEVELS⟩ := k_LEVELS.ex
  refine F.ok sc__inner (fun vs H Q E h => sp0_len (by rintro _ _ _ ⟨_, rfl, _⟩; rfl) h) (fun cdv A outer s H vs Q E hr h => ⟨_, (pss_cons (ps_if (PW.pt (pw_or (pt_not (pt_val (pe_callB call_isiT (by rfl) m_isinstance PyProof.Rows.boot_isinstance (pa_cons (pv 0) (pa_cons (pe_tup (pa_cons (pe_glob (v := .ref c.nm) (by rfl) g_Name rfl) (pa_cons (pe_glob (v := .ref c.vl) (by rfl) g_Value rfl) (pa_cons (pe_glob (v := .ref c.tw) (by rfl) g_Two rfl) (pa_cons (pe_glob (v := .ref c.nt) (by rfl) g_Not rfl) (pa_cons (pe_glob (v := .ref c.pk) (by rfl) g_Pick rfl) pa_nil)))))) pa_nil))))) (pw_or1 (pt_cmpR (op_eqD hr.units) (DL.pe_via v_levels hr (by omega) (pv 0)) (pe_glob (by rfl) m_LEVELS r_LEVELS) (nomark _))))) (pss_one DL.ps_bad) pss_nil) (pss_one (ps_ret (pv 0)))), body0 h ?_⟩)
  try dsimp only [cxOf]
  intro ds Φ X F hW hE
  obtain ⟨t, rfl, hl, hΦ⟩ := hW
  walk_at "nm"
  refine wS_seq (wS_if (wT_or (wT_not (wT_B (wE_isiT (Cs := c.all) (fun _ _ _ q => q) (Nat.le_of_ble_eq_true rfl) ?_)))))
  walk_at "c"
  refine ⟨_, _, T.kd t, T.any t, ?_⟩
  refine onB_bl ?_
  refine ways_f ?_
  walk_at "c"
  refine wE_tm (nf_levels c) ?_
  walk_at "c"
  refine ⟨t, rfl, t, rfl, rfl, by omega, rsp_fz ?_⟩
  walk_at "c"
  refine ways_ev_f ?_ ?_
  · rw [eqi]; exact beq_eq_false_iff_ne.mpr (by omega)
  walk_at "c"
  exact hΦ

theorem ok_Name_init {f : Addr} {fd : FuncData} (F : L2.Fun K "__init__" "Name.__init__" s_Name_init f fd) (T : Txt K mg c) (c_is_pointed : Callee P w K mg base 2 "is_pointed" (sp0 K W_is_pointed)) : FnOk P w K mg base L2.CX0 3 f fd ["self", "name"] (spI K c.nm (W_Name_init c)) := by
  refine F.ok sc_Name_init (fun vs H Q E h => spI_len (by rintro _ _ ⟨_, rfl, _⟩; rfl) h) (fun cdv A outer s H vs Q E hr h => ⟨_, (pss_cons (ps_if (pt_not (pt_val (DL.pe_cl c_is_pointed hr (by omega) (by rfl) (pa_cons (pv 1) pa_nil)))) (pss_one DL.ps_bad) pss_nil) (pss_one (ps_fld (pv 0) (pv 1) rfl))), bodyI h ?_⟩)
  try dsimp only [cxOf]
  intro ds Φ hW
  obtain ⟨s, rfl, hg, hΦ⟩ := hW
  refine wI_if (fun F => ?_)
  walk_at "c"
  refine ⟨_, rfl, hg.gd, rsp_fz ⟨rfl, ways_ev_f (by rw [hg.2.2]; rfl) ?_⟩⟩
  refine wI_skip (wI_last (wI_fld T.nm (by decide +kernel) (Nat.le_of_ble_eq_true rfl) (fun F => ?_)))
  walk_at "c"
  exact ⟨rfl, wI_end hΦ⟩

theorem ok_Value_init {f : Addr} {fd : FuncData} (F : L2.Fun K "__init__" "Value.__init__" s_Value_init f fd) (T : Txt K mg c) (c_is_value : Callee P w K mg base 3 "is_value" (sp0 K W_is_value)) : FnOk P w K mg base L2.CX0 4 f fd ["self", "value"] (spI K c.vl (W_Value_init c)) := by
  refine F.ok sc_Value_init (fun vs H Q E h => spI_len (by rintro _ _ ⟨_, rfl, _⟩; rfl) h) (fun cdv A outer s H vs Q E hr h => ⟨_, (pss_cons (ps_if (pt_not (pt_val (DL.pe_cl c_is_value hr (by omega) (by rfl) (pa_cons (pv 1) pa_nil)))) (pss_one DL.ps_bad) pss_nil) (pss_one (ps_fld (pv 0) (pv 1) rfl))), bodyI h ?_⟩)
  try dsimp only [cxOf]
  intro ds Φ hW
  obtain ⟨v, rfl, hg, hΦ⟩ := hW
  refine wI_if (fun F => ?_)
  walk_at "c"
  have hb : inB v = true ∧ (tyD v).isSome = true := by
    cases v <;> first | exact hg.elim | exact ⟨rfl, rfl⟩ | skip
    refine ⟨?_, rfl⟩
    show (decide _ && decide _) = true
    rw [decide_eq_true hg.1, decide_eq_true hg.2]
    rfl
  refine ⟨_, rfl, hb.2, rsp_fz ⟨rfl, ways_ev_f (by rw [hb.1]; rfl) ?_⟩⟩
  refine wI_skip (wI_last (wI_fld T.vl (by decide +kernel) (Nat.le_of_ble_eq_true rfl) (fun F => ?_)))
  walk_at "c"
  exact ⟨rfl, wI_end hΦ⟩

theorem ok_Two_init {f : Addr} {fd : FuncData} (F : L2.Fun K "__init__" "Two.__init__" s_Two_init f fd) (T : Txt K mg c) (c_ops_told : Callee P w K mg base 1 "ops_told" (sp0 K W_ops_told)) (c__inner : Callee P w K mg base 6 "_inner" (sp0 K (W__inner c))) : FnOk P w K mg base L2.CX0 7 f fd ["self", "op", "one", "other"] (spI K c.tw (W_Two_init c)) := by
  refine F.ok sc_Two_init (fun vs H Q E h => spI_len (by rintro _ _ ⟨_, _, _, rfl, _⟩; rfl) h) (fun cdv A outer s H vs Q E hr h => ⟨_, (pss_cons (ps_if (pt_cmpR op_notIn_seq (pv 1) (DL.pe_cl0 c_ops_told hr (by omega) (by rfl)) (by rfl)) (pss_one DL.ps_bad) pss_nil) (pss_cons (ps_fld (pv 0) (pv 1) rfl) (pss_cons (ps_fld (pv 0) (DL.pe_cl c__inner hr (by omega) (by rfl) (pa_cons (pv 2) pa_nil)) rfl) (pss_one (ps_fld (pv 0) (DL.pe_cl c__inner hr (by omega) (by rfl) (pa_cons (pv 3) pa_nil)) rfl))))), bodyI h ?_⟩)
  try dsimp only [cxOf]
  intro ds Φ hW
  obtain ⟨op, a, b, rfl, ho, ha, hb, hΦ⟩ := hW
  refine wI_if (fun F => ?_)
  walk_at "c"
  refine ⟨rfl, rsp_ow ?_⟩
  refine wR_niL rfl rfl ?_
  walk_at "c"
  refine ⟨rfl, ways_ev_f (by rw [ops_in op ho]; rfl) ?_⟩
  refine wI_skip (wI_fld T.tw (by decide +kernel) (Nat.le_of_ble_eq_true rfl) (fun F => ?_))
  walk_at "c"
  refine ⟨rfl, wI_fld T.tw (by decide +kernel) (Nat.le_of_ble_eq_true rfl) (fun F => ?_)⟩
  walk_at "c"
  refine ⟨a, rfl, ha, rsp_fz ⟨rfl, wI_last (wI_fld T.tw (by decide +kernel) (Nat.le_of_ble_eq_true rfl) (fun F => ?_))⟩⟩
  walk_at "c"
  refine ⟨b, rfl, hb, rsp_fz ⟨rfl, wI_end ?_⟩⟩
  exact hΦ

theorem ok_Not_init {f : Addr} {fd : FuncData} (F : L2.Fun K "__init__" "Not.__init__" s_Not_init f fd) (T : Txt K mg c) (c__inner : Callee P w K mg base 6 "_inner" (sp0 K (W__inner c))) : FnOk P w K mg base L2.CX0 7 f fd ["self", "one"] (spI K c.nt (W_Not_init c)) := by
  refine F.ok sc_Not_init (fun vs H Q E h => spI_len (by rintro _ _ ⟨_, rfl, _⟩; rfl) h) (fun cdv A outer s H vs Q E hr h => ⟨_, (pss_one (ps_fld (pv 0) (DL.pe_cl c__inner hr (by omega) (by rfl) (pa_cons (pv 1) pa_nil)) rfl)), bodyI h ?_⟩)
  try dsimp only [cxOf]
  intro ds Φ hW
  obtain ⟨a, rfl, ha, hΦ⟩ := hW
  refine wI_last (wI_fld T.nt (by decide +kernel) (Nat.le_of_ble_eq_true rfl) (fun F => ?_))
  walk_at "c"
  refine ⟨a, rfl, ha, rsp_fz ⟨rfl, wI_end ?_⟩⟩
  exact hΦ

theorem ok_Pick_init {f : Addr} {fd : FuncData} (F : L2.Fun K "__init__" "Pick.__init__" s_Pick_init f fd) (T : Txt K mg c) (c__inner : Callee P w K mg base 6 "_inner" (sp0 K (W__inner c))) : FnOk P w K mg base L2.CX0 7 f fd ["self", "by", "one", "other"] (spI K c.pk (W_Pick_init c)) := by
  refine F.ok sc_Pick_init (fun vs H Q E h => spI_len (by rintro _ _ ⟨_, _, _, rfl, _⟩; rfl) h) (fun cdv A outer s H vs Q E hr h => ⟨_, (pss_cons (ps_fld (pv 0) (DL.pe_cl c__inner hr (by omega) (by rfl) (pa_cons (pv 1) pa_nil)) rfl) (pss_cons (ps_fld (pv 0) (DL.pe_cl c__inner hr (by omega) (by rfl) (pa_cons (pv 2) pa_nil)) rfl) (pss_one (ps_fld (pv 0) (DL.pe_cl c__inner hr (by omega) (by rfl) (pa_cons (pv 3) pa_nil)) rfl)))), bodyI h ?_⟩)
  try dsimp only [cxOf]
  intro ds Φ hW
  obtain ⟨a, b, e, rfl, ha, hb, he, hΦ⟩ := hW
  refine wI_fld T.pk (by decide +kernel) (Nat.le_of_ble_eq_true rfl) (fun F => ?_)
  walk_at "c"
  refine ⟨a, rfl, ha, rsp_fz ⟨rfl, wI_fld T.pk (by decide +kernel) (Nat.le_of_ble_eq_true rfl) (fun F => ?_)⟩⟩
  walk_at "c"
  refine ⟨b, rfl, hb, rsp_fz ⟨rfl, wI_last (wI_fld T.pk (by decide +kernel) (Nat.le_of_ble_eq_true rfl) (fun F => ?_))⟩⟩
  walk_at "c"
  refine ⟨e, rfl, he, rsp_fz ⟨rfl, wI_end ?_⟩⟩
  exact hΦ

theorem ok__made_of {n : Nat} {f : Addr} {fd : FuncData} (F : L2.Fun K "_made_of" "_made_of" s__made_of f fd) (T : Txt K mg c) (c__made_of : Callee P w K mg base (8 + n) "_made_of" (sp0 K (W__made_of c n))) (n_Name : KCallee P w K mg base 3 "Name" c.nm (spI K c.nm (W_Name_init c))) (n_Value : KCallee P w K mg base 4 "Value" c.vl (spI K c.vl (W_Value_init c))) (n_Not : KCallee P w K mg base 7 "Not" c.nt (spI K c.nt (W_Not_init c))) (n_Two : KCallee P w K mg base 7 "Two" c.tw (spI K c.tw (W_Two_init c))) (n_Pick : KCallee P w K mg base 7 "Pick" c.pk (spI K c.pk (W_Pick_init c))) (m_isinstance : mg "isinstance" = none) (m_tuple : mg "tuple" = none) (m_len : mg "len" = none) : FnOk P w K mg base L2.CX0 (8 + n + 1) f fd ["told"] (sp0 K (W__made_of c (n + 1))) := by
  refine F.ok sc__made_of (fun vs H Q E h => sp0_len (by rintro _ _ _ ⟨_, rfl, _⟩; rfl) h) (fun cdv A outer s H vs Q E hr h => ⟨_, (pss_cons (ps_if (PW.pt (pw_or (pt_not (pt_val (pe_callB call_isi (by rfl) m_isinstance PyProof.Rows.boot_isinstance (pa_cons (pv 0) (pa_cons (pe_bltn (v := .ty "tuple") (by rfl) m_tuple PyProof.Rows.boot_tuple rfl) pa_nil))))) (pw_or1 (pt_not (pt_truth (pv 0) (by intro _; rfl)))))) (pss_one DL.ps_bad) pss_nil) (pss_cons (ps_set (i := 1) sc__made_of.nd rfl (Or.inl rfl) (pe_tup (pa_cons (pe_ix ix_seq (pv 0) pe_int (fun _ _ => rfl)) (pa_cons (pe_callB call_len (by rfl) m_len PySem.boot_len (pa_cons (pv 0) pa_nil)) pa_nil)))) (pss_cons (ps_if (pt_cmpR (op_eqD hr.units) (pv 1) (pe_tup (pa_cons pe_str (pa_cons pe_int pa_nil))) (nomark _)) (pss_one (ps_ret (DL.pe_new1 n_Name hr (by omega) (by rfl) (pa_cons (pe_ix ix_seq (pv 0) pe_int (fun _ _ => rfl)) pa_nil)))) pss_nil) (pss_cons (ps_if (pt_cmpR (op_eqD hr.units) (pv 1) (pe_tup (pa_cons pe_str (pa_cons pe_int pa_nil))) (nomark _)) (pss_one (ps_ret (DL.pe_new1 n_Value hr (by omega) (by rfl) (pa_cons (pe_ix ix_seq (pv 0) pe_int (fun _ _ => rfl)) pa_nil)))) pss_nil) (pss_cons (ps_if (pt_cmpR (op_eqD hr.units) (pv 1) (pe_tup (pa_cons pe_str (pa_cons pe_int pa_nil))) (nomark _)) (pss_one (ps_ret (DL.pe_new1 n_Not hr (by omega) (by rfl) (pa_cons (DL.pe_cl c__made_of hr (by omega) (by rfl) (pa_cons (pe_ix ix_seq (pv 0) pe_int (fun _ _ => rfl)) pa_nil)) pa_nil)))) pss_nil) (pss_cons (ps_if (pt_cmpR (op_eqD hr.units) (pv 1) (pe_tup (pa_cons pe_str (pa_cons pe_int pa_nil))) (nomark _)) (pss_one (ps_ret (DL.pe_new1 n_Two hr (by omega) (by rfl) (pa_cons (pe_ix ix_seq (pv 0) pe_int (fun _ _ => rfl)) (pa_cons (DL.pe_cl c__made_of hr (by omega) (by rfl) (pa_cons (pe_ix ix_seq (pv 0) pe_int (fun _ _ => rfl)) pa_nil)) (pa_cons (DL.pe_cl c__made_of hr (by omega) (by rfl) (pa_cons (pe_ix ix_seq (pv 0) pe_int (fun _ _ => rfl)) pa_nil)) pa_nil)))))) pss_nil) (pss_cons (ps_if (pt_cmpR (op_eqD hr.units) (pv 1) (pe_tup (pa_cons pe_str (pa_cons pe_int pa_nil))) (nomark _)) (pss_one (ps_ret (DL.pe_new1 n_Pick hr (by omega) (by rfl) (pa_cons (DL.pe_cl c__made_of hr (by omega) (by rfl) (pa_cons (pe_ix ix_seq (pv 0) pe_int (fun _ _ => rfl)) pa_nil)) (pa_cons (DL.pe_cl c__made_of hr (by omega) (by rfl) (pa_cons (pe_ix ix_seq (pv 0) pe_int (fun _ _ => rfl)) pa_nil)) (pa_cons (DL.pe_cl c__made_of hr (by omega) (by rfl) (pa_cons (pe_ix ix_seq (pv 0) pe_int (fun _ _ => rfl)) pa_nil)) pa_nil)))))) pss_nil) (pss_one DL.ps_bad)))))))), body0 h ?_⟩)
  try dsimp only [cxOf]
  intro ds Φ X F hW hE
  obtain ⟨t, rfl, hok, hl, h5, hΦ⟩ := hW
  cases t with
  | nm s =>
    dsimp only [Tm.told]
    walk_at "c"
    refine wT_truT (b := true) ?_
    walk_at "c"
    refine ⟨_, rfl, rfl, ?_⟩
    walk_at "c"
    exact ⟨s, rfl, hok, hΦ⟩
  | vl v =>
    dsimp only [Tm.told]
    walk_at "c"
    refine wT_truT (b := true) ?_
    walk_at "c"
    refine ⟨_, rfl, rfl, ?_⟩
    walk_at "c"
    exact ⟨v, rfl, hok, hΦ⟩
  | nt a =>
    have hl' : 1 + a.lv ≤ n + 1 := hl
    have h5' : 1 + a.lv ≤ 5 := h5
    dsimp only [Tm.told]
    walk_at "c"
    refine wT_truT (b := true) ?_
    walk_at "c"
    refine ⟨_, rfl, rfl, ?_⟩
    walk_at "c"
    refine ⟨a, rfl, hok, by omega, by omega, rsp_fz ?_⟩
    walk_at "c"
    exact ⟨a, rfl, by omega, hΦ⟩
  | tw op a b =>
    have hl' : 1 + max a.lv b.lv ≤ n + 1 := hl
    have h5' : 1 + max a.lv b.lv ≤ 5 := h5
    dsimp only [Tm.told]
    walk_at "c"
    refine wT_truT (b := true) ?_
    walk_at "c"
    refine ⟨_, rfl, rfl, ?_⟩
    walk_at "c"
    refine ⟨a, rfl, hok.2.1, by omega, by omega, rsp_fz ?_⟩
    walk_at "c"
    refine ⟨b, rfl, hok.2.2, by omega, by omega, rsp_fz ?_⟩
    walk_at "c"
    exact ⟨op, a, b, rfl, hok.1, by omega, by omega, hΦ⟩
  | pk a b e =>
    have hl' : 1 + max (max a.lv b.lv) e.lv ≤ n + 1 := hl
    have h5' : 1 + max (max a.lv b.lv) e.lv ≤ 5 := h5
    dsimp only [Tm.told]
    walk_at "c"
    refine wT_truT (b := true) ?_
    walk_at "c"
    refine ⟨_, rfl, rfl, ?_⟩
    walk_at "c"
    refine ⟨a, rfl, hok.1, by omega, by omega, rsp_fz ?_⟩
    walk_at "c"
    refine ⟨b, rfl, hok.2.1, by omega, by omega, rsp_fz ?_⟩
    walk_at "c"
    refine ⟨e, rfl, hok.2.2, by omega, by omega, rsp_fz ?_⟩
    walk_at "c"
    exact ⟨a, b, e, rfl, by omega, by omega, by omega, hΦ⟩

theorem ok_term_of  {f : Addr} {fd : FuncData} (F : L2.Fun K "term_of" "term_of" s_term_of f fd) (T : Txt K mg c) (c__made_of : Callee P w K mg base (8 + 5) "_made_of" (sp0 K (W__made_of c 5))) : FnOk P w K mg base L2.CX0 14 f fd ["told"] (sp0 K (W_term_of c)) := by
  refine F.ok sc_term_of (fun vs H Q E h => sp0_len (by rintro _ _ _ ⟨_, rfl, _⟩; rfl) h) (fun cdv A outer s H vs Q E hr h => ⟨_, (pss_one (ps_try_thru0 (pss_one (ps_ret (DL.pe_cl c__made_of hr (by omega) (by rfl) (pa_cons (pv 0) pa_nil)))))), body0 h ?_⟩)
  try dsimp only [cxOf]
  intro ds Φ X F hW hE
  obtain ⟨t, rfl, hok, hl, hΦ⟩ := hW
  walk_at "c"
  exact ⟨t, rfl, hok, hl, hl, hΦ⟩

theorem ok__law_cell_at  {f : Addr} {fd : FuncData} (F : L2.Fun K "_law_cell_at" "_law_cell_at" s__law_cell_at f fd) (T : Txt K mg c) (m_len : mg "len" = none) : FnOk P w K mg base L2.CX0 1 f fd ["script", "k"] (sp0 K W__law_cell_at) := by
  refine F.ok sc__law_cell_at (fun vs H Q E h => sp0_len (by rintro _ _ _ ⟨_, _, rfl, _⟩; rfl) h) (fun cdv A outer s H vs Q E hr h => ⟨_, (pss_cons (ps_if (pt_cmpR op_lt (pv 1) (pe_callB call_len (by rfl) m_len PySem.boot_len (pa_cons (pv 0) pa_nil)) (nomark _)) (pss_one (ps_ret (pe_ix ix_seq (pv 0) (pv 1) (fun _ _ => rfl)))) pss_nil) (pss_one (ps_ret (pe_op DL.op_plus (pe_op op_mul pe_int (pv 1)) pe_int)))), body0 h ?_⟩)
  try dsimp only [cxOf]
  intro ds Φ X F hW hE
  obtain ⟨ns, k, rfl, hk, hΦ⟩ := hW
  walk_at "w"
  refine ways_dec (fun hc => ?_) (fun hc => ?_)
  · walk_at "w"
    obtain ⟨d, _, e⟩ := atI_of hk hc
    exact wR_xScr e (hΦ d)
  · walk_at "w"
    exact hΦ _

theorem ok__law_box  {f : Addr} {fd : FuncData} (F : L2.Fun K "_law_box" "_law_box" s__law_box f fd) (T : Txt K mg c)  : FnOk P w K mg base L2.CX0 1 f fd ["cell"] (sp0 K W__law_box) := by
  refine F.ok sc__law_box (fun vs H Q E h => sp0_len (by rintro _ _ _ ⟨_, rfl, _⟩; rfl) h) (fun cdv A outer s H vs Q E hr h => ⟨_, (pss_cons (ps_if (pt_cmpR op_ge (pv 0) (pe_op op_pow pe_int pe_int) (nomark _)) (pss_one (ps_ret (pe_lst (pa_cons (pv 0) (pa_cons (pe_op op_mod (pv 0) pe_int) (pa_cons pe_int pa_nil)))))) pss_nil) (pss_one (ps_ret (pe_lst (pa_cons pe_int (pa_cons (pe_op op_mod (pv 0) pe_int) (pa_cons pe_int pa_nil))))))), body0 h ?_⟩)
  try dsimp only [cxOf]
  intro ds Φ X F hW hE
  obtain ⟨cc, rfl, hΦ⟩ := hW
  walk_at "w"
  refine ways_dec (fun h => ?_) (fun h => ?_)
  · refine wS_retO (wO_lst (wA_cons ?_))
    walk_at "wm"
    refine hΦ _ ⟨_, _, _, rfl, ?_, by assumption⟩
    have e : (10 : Int) ^ Int.toNat 18 = 1000000000000000000 := by decide
    rw [e] at h
    omega
  · refine wS_next ?_
    refine wS_retO (wO_lst (wA_cons ?_))
    walk_at "wm"
    exact hΦ _ ⟨_, _, _, rfl, by omega, by assumption⟩

theorem ok__law_take  {f : Addr} {fd : FuncData} (F : L2.Fun K "_law_take" "_law_take" s__law_take f fd) (T : Txt K mg c)  : FnOk P w K mg base L2.CX0 1 f fd ["box", "many"] (sp1 K W__law_take) := by
  refine F.ok sc__law_take (fun vs H Q E h => sp1_len (by rintro _ _ _ _ ⟨_, rfl, _⟩; rfl) h) (fun cdv A outer s H vs Q E hr h => ⟨_, (pss_cons (ps_if (pt_cmpR op_gt (pe_ix ix_seq (pv 0) pe_int (fun _ _ => rfl)) pe_int (nomark _)) (pss_cons (ps_set (i := 2) sc__law_take.nd rfl (Or.inl rfl) (pe_op op_mod (pe_ix ix_seq (pv 0) pe_int (fun _ _ => rfl)) (pv 1))) (pss_cons (ps_asg (pe_op op_fdiv (pe_ix ix_seq (pv 0) pe_int (fun _ _ => rfl)) (pv 1)) (pg_sub (pv 0) pe_int set_list)) (pss_one (ps_ret (pv 2))))) pss_nil) (pss_cons (ps_asg (pe_op DL.op_plus (pe_ix ix_seq (pv 0) pe_int (fun _ _ => rfl)) pe_int) (pg_sub (pv 0) pe_int set_list)) (pss_cons (ps_set (i := 2) sc__law_take.nd rfl (Or.inl rfl) (pe_op op_mod (pe_op DL.op_plus (pe_op DL.op_plus (pe_op op_mul (pe_ix ix_seq (pv 0) pe_int (fun _ _ => rfl)) pe_int) (pe_op op_mul pe_int (pe_ix ix_seq (pv 0) pe_int (fun _ _ => rfl)))) pe_int) pe_int)) (pss_cons (ps_set (i := 2) sc__law_take.nd rfl (Or.inl rfl) (pe_op op_mod (pe_op DL.op_plus (pe_op DL.op_plus (pe_op op_mul (pv 2) (pv 2)) (pe_op op_mul pe_int (pe_ix ix_seq (pv 0) pe_int (fun _ _ => rfl)))) pe_int) pe_int)) (pss_one (ps_ret (pe_op op_mod (pe_op op_mod (pe_op op_mul (pv 2) (pv 2)) pe_int) (pv 1)))))))), body1 h ?_⟩)
  try dsimp only [cxOf]
  intro ds es Φ X F hW hE
  obtain ⟨m, rfl, ⟨a, b, c, rfl, ha, hb⟩, hm, hm2, hΦ⟩ := hW
  walk_at "w"
  refine ways_dec (fun hc => ?_) (fun hc => ?_)
  · walk_at "wm"
    exact ⟨_, rfl, hΦ _ _ ⟨_, _, _, rfl, Int.ediv_nonneg ha (Int.le_of_lt hm), hb⟩ (by assumption) (by assumption)⟩
  · walk_at "wm"
    exact ⟨_, rfl, hΦ _ _ ⟨_, _, _, rfl, ha, hb⟩ (by assumption) (by assumption)⟩

theorem ok__law_value  {f : Addr} {fd : FuncData} (F : L2.Fun K "_law_value" "_law_value" s__law_value f fd) (T : Txt K mg c) (c__law_take : Callee P w K mg base 1 "_law_take" (sp1 K W__law_take)) : FnOk P w K mg base L2.CX0 2 f fd ["box"] (sp1 K (W__law_value c)) := by
  refine F.ok sc__law_value (fun vs H Q E h => sp1_len (by rintro _ _ _ _ ⟨rfl, _⟩; rfl) h) (fun cdv A outer s H vs Q E hr h => ⟨_, (pss_cons (ps_set (i := 1) sc__law_value.nd rfl (Or.inl rfl) (DL.pe_cl c__law_take hr (by omega) (by rfl) (pa_cons (pv 0) (pa_cons pe_int pa_nil)))) (pss_cons (ps_if (pt_cmpR op_lt (pv 1) pe_int (nomark _)) (pss_one (ps_ret (pe_cmpR (op_eqD hr.units) (pv 1) pe_int (nomark _)))) pss_nil) (pss_cons (ps_if (pt_cmpR (op_eqD hr.units) (pv 1) pe_int (nomark _)) (pss_one (ps_ret (pe_ix ix_seq (pe_lst (pa_cons (pe_op op_pow pe_int pe_int) (pa_cons (pe_un un_neg (pe_op op_pow pe_int pe_int)) (pa_cons (pe_op op_sub (pe_op op_pow pe_int pe_int) pe_int) (pa_cons (pe_op op_sub pe_int (pe_op op_pow pe_int pe_int)) (pa_cons pe_int (pa_cons (pe_un un_neg pe_int) pa_nil))))))) (DL.pe_cl c__law_take hr (by omega) (by rfl) (pa_cons (pv 0) (pa_cons pe_int pa_nil))) (fun _ _ => rfl)))) pss_nil) (pss_one (ps_ret (pe_op op_sub (DL.pe_cl c__law_take hr (by omega) (by rfl) (pa_cons (pv 0) (pa_cons (pe_ix ix_seq (pe_lst (pa_cons pe_int (pa_cons pe_int (pa_cons pe_int pa_nil)))) (pe_op op_sub (pv 1) pe_int) (fun _ _ => rfl)) pa_nil))) (pe_ix ix_seq (pe_lst (pa_cons pe_int (pa_cons pe_int (pa_cons pe_int pa_nil)))) (pe_op op_sub (pv 1) pe_int) (fun _ _ => rfl)))))))), body1 h ?_⟩)
  try dsimp only [cxOf]
  intro ds es Φ X F hW hE
  obtain ⟨rfl, hB, hΦ⟩ := hW
  walk_at "w"
  refine wE_call1 eok0 ⟨_, _, rfl⟩ (wA_cons ?_)
  walk_at "w"
  refine ⟨_, _, rfl, _, rfl, hB, by decide, by decide, fun ds1 y hB1 h0 h1 => rsp_fz ?_⟩
  walk_at "w"
  refine ways_dec (fun h2 => ?_) (fun h2 => ?_)
  · walk_at "w"
    exact ⟨_, rfl, hΦ _ _ hB1 trivial⟩
  · walk_at "w"
    rw [eqi]
    by_cases h3 : y = 2
    · refine ways_ev_t (by rw [h3]; rfl) ?_
      walk_at "w"
      refine wE_call1 eok0 ⟨_, _, rfl⟩ (wA_cons ?_)
      walk_at "w"
      refine ⟨_, _, rfl, _, rfl, hB1, by decide, by decide, fun ds2 j hB2 hj0 hj1 => rsp_fz ?_⟩
      refine wR_xLAll hj0 hj1 fun d hd => ?_
      have hv : vok d := by
        have e9 : (10 : Int) ^ Int.toNat 9 = 1000000000 := by decide
        simp only [e9, List.mem_cons, List.not_mem_nil, or_false] at hd
        rcases hd with rfl | rfl | rfl | rfl | rfl | rfl <;> (show _ ∧ _; omega)
      exact ⟨_, rfl, hΦ _ _ hB2 hv⟩
    · refine ways_ev_f (beq_eq_false_iff_ne.mpr h3) ?_
      walk_at "w"
      have hy : y = 3 ∨ y = 4 ∨ y = 5 := by omega
      rcases hy with rfl | rfl | rfl
      · refine wE_call1 eok0 ⟨_, _, rfl⟩ (wA_cons ?_)
        walk_at "w"
        refine ⟨_, _, rfl, _, rfl, hB1, by decide, by decide, fun ds2 j hB2 hj0 hj1 => rsp_fz ?_⟩
        walk_at "w"
        exact ⟨_, rfl, hΦ _ _ hB2 (by show _ ∧ _; omega)⟩
      · refine wE_call1 eok0 ⟨_, _, rfl⟩ (wA_cons ?_)
        walk_at "w"
        refine ⟨_, _, rfl, _, rfl, hB1, by decide, by decide, fun ds2 j hB2 hj0 hj1 => rsp_fz ?_⟩
        walk_at "w"
        exact ⟨_, rfl, hΦ _ _ hB2 (by show _ ∧ _; omega)⟩
      · refine wE_call1 eok0 ⟨_, _, rfl⟩ (wA_cons ?_)
        walk_at "w"
        refine ⟨_, _, rfl, _, rfl, hB1, by decide, by decide, fun ds2 j hB2 hj0 hj1 => rsp_fz ?_⟩
        walk_at "w"
        exact ⟨_, rfl, hΦ _ _ hB2 (by show _ ∧ _; omega)⟩

theorem ok__law_told {n : Nat} {f : Addr} {fd : FuncData} (F : L2.Fun K "_law_told" "_law_told" s__law_told f fd) (T : Txt K mg c) (c__law_take : Callee P w K mg base 1 "_law_take" (sp1 K W__law_take)) (c__law_value : Callee P w K mg base 2 "_law_value" (sp1 K (W__law_value c))) (c__law_told : Callee P w K mg base (2 + n) "_law_told" (sp1 K (W__law_told c n))) (m_len : mg "len" = none) (m_range : mg "range" = none) : FnOk P w K mg base L2.CX0 (2 + n + 1) f fd ["box", "left", "names"] (sp1 K (W__law_told c (n + 1))) := by
  refine F.ok sc__law_told (fun vs H Q E h => sp1_len (by rintro _ _ _ _ ⟨_, _, rfl, _⟩; rfl) h) (fun cdv A outer s H vs Q E hr h => ⟨_, (pss_cons (ps_set (i := 3) sc__law_told.nd rfl (Or.inl rfl) (DL.pe_cl c__law_take hr (by omega) (by rfl) (pa_cons (pv 0) (pa_cons pe_int pa_nil)))) (pss_cons (ps_if (PW.pt (pw_or (pt_cmpR (op_eqD hr.units) (pv 1) pe_int (nomark _)) (pw_or1 (pt_cmpR op_lt (pv 3) pe_int (nomark _))))) (pss_cons (ps_if (pt_cmpR (op_eqD hr.units) (DL.pe_cl c__law_take hr (by omega) (by rfl) (pa_cons (pv 0) (pa_cons pe_int pa_nil))) pe_int (nomark _)) (pss_one (ps_ret (pe_tup (pa_cons pe_str (pa_cons (DL.pe_cl c__law_value hr (by omega) (by rfl) (pa_cons (pv 0) pa_nil)) pa_nil))))) pss_nil) (pss_one (ps_ret (pe_tup (pa_cons pe_str (pa_cons (pe_ix ix_seq (pv 2) (DL.pe_cl c__law_take hr (by omega) (by rfl) (pa_cons (pv 0) (pa_cons (pe_callB call_len (by rfl) m_len PySem.boot_len (pa_cons (pv 2) pa_nil)) pa_nil))) (fun _ _ => rfl)) pa_nil)))))) pss_nil) (pss_cons (ps_if (pt_cmpR (op_eqD hr.units) (pv 3) pe_int (nomark _)) (pss_one (ps_ret (pe_tup (pa_cons pe_str (pa_cons (DL.pe_cl c__law_told hr (by omega) (by rfl) (pa_cons (pv 0) (pa_cons (pe_op op_sub (pv 1) pe_int) (pa_cons (pv 2) pa_nil)))) pa_nil))))) pss_nil) (pss_cons (ps_if (pt_cmpR (op_eqD hr.units) (pv 3) pe_int (nomark _)) (pss_cons (ps_setLc (i := 4) (own := [("k", 5)]) (g := (gName 5)) (tt := tYes) rfl sc__law_told.nd rfl rfl (sw_true rfl rfl rfl (by decide +kernel)) (pi_range1 rfl m_range (pa_cons pe_int pa_nil)) (blkOk_by (N := N__law_told) (sc := defScope s__law_told) (by decide +kernel)) (fun _ _ _ _ _ => (pg_name (i := 5) sc__law_told.nd rfl (Or.inl rfl))) (fun _ _ _ _ _ => pts_nil) (fun _ _ _ _ _ => (DL.pe_cl c__law_told hr (by omega) (by rfl) (pa_cons (pv 0) (pa_cons (pe_op op_sub (pv 1) pe_int) (pa_cons (pv 2) pa_nil)))))) (pss_one (ps_ret (pe_tup (pa_cons pe_str (pa_cons (pe_ix ix_seq (pv 4) pe_int (fun _ _ => rfl)) (pa_cons (pe_ix ix_seq (pv 4) pe_int (fun _ _ => rfl)) (pa_cons (pe_ix ix_seq (pv 4) pe_int (fun _ _ => rfl)) pa_nil)))))))) pss_nil) (pss_cons (ps_set (i := 6) sc__law_told.nd rfl (Or.inl rfl) (pe_ix ix_seq (pe_lst (pa_cons pe_str (pa_cons pe_str (pa_cons pe_str (pa_cons pe_str (pa_cons pe_str (pa_cons pe_str (pa_cons pe_str (pa_cons pe_str (pa_cons pe_str pa_nil)))))))))) (DL.pe_cl c__law_take hr (by omega) (by rfl) (pa_cons (pv 0) (pa_cons pe_int pa_nil))) (fun _ _ => rfl))) (pss_cons (ps_set (i := 7) sc__law_told.nd rfl (Or.inl rfl) (DL.pe_cl c__law_told hr (by omega) (by rfl) (pa_cons (pv 0) (pa_cons (pe_op op_sub (pv 1) pe_int) (pa_cons (pv 2) pa_nil))))) (pss_one (ps_ret (pe_tup (pa_cons pe_str (pa_cons (pv 6) (pa_cons (pv 7) (pa_cons (DL.pe_cl c__law_told hr (by omega) (by rfl) (pa_cons (pv 0) (pa_cons (pe_op op_sub (pv 1) pe_int) (pa_cons (pv 2) pa_nil)))) pa_nil))))))))))))), body1 h ?_⟩)
  try dsimp only [cxOf]
  intro ds es Φ X F hW hE
  obtain ⟨l, nl, rfl, hB, hl1, hln, hn0, hn1, hnm, hΦ⟩ := hW
  have e1 : (l : Int) - 1 = ((l - 1 : Nat) : Int) := by omega
  walk_at "w"
  refine wE_call1 eok0 ⟨_, _, rfl⟩ (wA_cons ?_)
  walk_at "w"
  refine ⟨_, _, rfl, _, rfl, hB, by decide, by decide, fun ds1 y hB1 h0 h1 => rsp_fz ?_⟩
  walk_at "w"
  rw [eqi]
  by_cases hl : l = 1
  · refine ways_ev_t (by rw [hl]; rfl) ?_
    walk_at "w"
    refine wE_call1 eok0 ⟨_, _, rfl⟩ (wA_cons (wE_int (wA_nil ⟨_, _, rfl, 3, rfl, hB1, by decide, by decide, fun ds2 z hB2 _ _ => rsp_fz ?_⟩)))
    walk_at "w"
    rw [eqi]
    by_cases hz : z = 0
    · refine ways_ev_t (by rw [hz]; rfl) ?_
      walk_at "w"
      refine wE_call1 eok0 ⟨_, _, rfl⟩ (wA_nil ⟨_, _, rfl, rfl, hB2, fun ds3 v hB3 hv => rsp_fz ?_⟩)
      walk_at "w"
      exact ⟨_, rfl, hΦ _ (.vl v) hB3 hv hl1⟩
    · refine ways_ev_f (beq_eq_false_iff_ne.mpr hz) ?_
      walk_at "w"
      refine wE_call1 eok0 ⟨_, _, rfl⟩ (wA_cons ?_)
      walk_at "w"
      refine ⟨_, _, rfl, _, rfl, hB2, by rw [List.length_map]; omega, by rw [List.length_map]; omega, fun ds3 j hB3 hj0 hj1 => rsp_fz ?_⟩
      refine wR_xLAll hj0 hj1 fun d hd => ?_
      obtain ⟨s, hs, rfl⟩ := List.mem_map.mp hd
      walk_at "w"
      exact ⟨_, rfl, hΦ _ (.nm s) hB3 (hnm s hs) hl1⟩
  refine ways_ev_f (beq_eq_false_iff_ne.mpr (by omega)) ?_
  walk_at "w"
  refine ways_dec (fun h2 => ?_) (fun h2 => ?_)
  · skip
    walk_at "w"
    refine wE_call1 eok0 ⟨_, _, rfl⟩ (wA_cons (wE_int (wA_nil ⟨_, _, rfl, 3, rfl, hB1, by decide, by decide, fun ds2 z hB2 _ _ => rsp_fz ?_⟩)))
    walk_at "w"
    rw [eqi]
    by_cases hz : z = 0
    · refine ways_ev_t (by rw [hz]; rfl) ?_
      walk_at "w"
      refine wE_call1 eok0 ⟨_, _, rfl⟩ (wA_nil ⟨_, _, rfl, rfl, hB2, fun ds3 v hB3 hv => rsp_fz ?_⟩)
      walk_at "w"
      exact ⟨_, rfl, hΦ _ (.vl v) hB3 hv hl1⟩
    · refine ways_ev_f (beq_eq_false_iff_ne.mpr hz) ?_
      walk_at "w"
      refine wE_call1 eok0 ⟨_, _, rfl⟩ (wA_cons ?_)
      walk_at "w"
      refine ⟨_, _, rfl, _, rfl, hB2, by rw [List.length_map]; omega, by rw [List.length_map]; omega, fun ds3 j hB3 hj0 hj1 => rsp_fz ?_⟩
      refine wR_xLAll hj0 hj1 fun d hd => ?_
      obtain ⟨s, hs, rfl⟩ := List.mem_map.mp hd
      walk_at "w"
      exact ⟨_, rfl, hΦ _ (.nm s) hB3 (hnm s hs) hl1⟩
  walk_at "w"
  rw [eqi]
  by_cases hy2 : y = 2
  · refine ways_ev_t (by rw [hy2]; rfl) ?_
    walk_at "w"
    refine wE_call1 eok0 ⟨_, _, rfl⟩ (wA_cons ?_)
    walk_at "w"
    rw [e1]
    refine ⟨_, _, rfl, l - 1, nl, rfl, hB1, by omega, by omega, hn0, hn1, hnm, fun ds2 t hB2 hok hlv => rsp_fz ?_⟩
    walk_at "w"
    exact ⟨_, rfl, hΦ _ (.nt t) hB2 hok (by show 1 + t.lv ≤ l; omega)⟩
  refine ways_ev_f (beq_eq_false_iff_ne.mpr hy2) ?_
  walk_at "w"
  rw [eqi]
  by_cases hy3 : y = 3
  · refine ways_ev_t (by rw [hy3]; rfl) ?_
    walk_at "w"
    refine wE_ofO (wO_lcR1 (tgt_name (by decide)) (wA_cons (wE_int (wA_nil ⟨3, rfl, by decide, by decide, ?_⟩))))
    walk_at "nm"
    refine compL_inv (rng 0 (3 : Int).toNat) (fun i ρ acc => ∃ ds' ts, Box ds' ∧ ρ = [.ow .any ds', .fz (.int l), .fz (.lst (nl.map .str)), .fz (.int y), .un, .un, .un, .un] ∧ acc = ts.map Tm.told ∧ ts.length = i ∧ ∀ t ∈ ts, t.ok ∧ t.lv ≤ l - 1) ⟨ds1, [], hB1, rfl, rfl, rfl, fun _ h => nomatch h⟩ (fun i x ρ2 acc F' hx hI => ?_) (fun ρ2 acc hI => ?_)
    · obtain ⟨ds', ts, hB', rfl, rfl, hl2, hT⟩ := hI
      walk_at "w"
      refine wE_call1 eok0 ⟨_, _, rfl⟩ (wA_cons ?_)
      walk_at "w"
      rw [e1]
      refine ⟨_, _, rfl, l - 1, nl, rfl, hB', by omega, by omega, hn0, hn1, hnm, fun ds2 t hB2 hok hlv => rsp_fz ?_⟩
      refine ⟨ds2, ts ++ [t], hB2, rfl, by rw [List.map_append]; rfl, by rw [List.length_append, hl2]; rfl, fun u hu => ?_⟩
      rcases List.mem_append.mp hu with hu | hu
      · exact hT u hu
      · rw [List.mem_singleton] at hu
        subst hu
        exact ⟨hok, hlv⟩
    · obtain ⟨ds', ts, hB', rfl, rfl, hl2, hT⟩ := hI
      rw [rng_len] at hl2
      match ts, hl2, hT with
      | [ta, tb, te], _, hT =>
        obtain ⟨oa, la⟩ := hT ta (.head _)
        obtain ⟨ob, lb⟩ := hT tb (.tail _ (.head _))
        obtain ⟨oe, le⟩ := hT te (.tail _ (.tail _ (.head _)))
        walk_at "nm"
        walk_at "w"
        exact ⟨_, rfl, hΦ _ (.pk ta tb te) hB' ⟨oa, ob, oe⟩ (by show 1 + max (max ta.lv tb.lv) te.lv ≤ l; omega)⟩
  refine ways_ev_f (beq_eq_false_iff_ne.mpr hy3) ?_
  walk_at "w"
  refine wE_call1 eok0 ⟨_, _, rfl⟩ (wA_cons (wE_int (wA_nil ⟨_, _, rfl, 9, rfl, hB1, by decide, by decide, fun ds2 j hB2 hj0 hj1 => rsp_fz ?_⟩)))
  refine wR_xLAll hj0 hj1 fun d hd => ?_
  obtain ⟨op, hop, rfl⟩ : ∃ op, op ∈ opsL ∧ d = .str op := by
    have hd2 : d ∈ opsL.map D.str := hd
    obtain ⟨op, h, e⟩ := List.mem_map.mp hd2
    exact ⟨op, h, e.symm⟩
  walk_at "w"
  refine wE_call1 eok0 ⟨_, _, rfl⟩ (wA_cons ?_)
  walk_at "w"
  rw [e1]
  refine ⟨_, _, rfl, l - 1, nl, rfl, hB2, by omega, by omega, hn0, hn1, hnm, fun ds3 ta hB3 oka hla => rsp_fz ?_⟩
  walk_at "w"
  refine wE_call1 eok0 ⟨_, _, rfl⟩ (wA_cons ?_)
  walk_at "w"
  rw [e1]
  refine ⟨_, _, rfl, l - 1, nl, rfl, hB3, by omega, by omega, hn0, hn1, hnm, fun ds4 tb hB4 okb hlb => rsp_fz ?_⟩
  walk_at "w"
  exact ⟨_, rfl, hΦ _ (.tw op ta tb) hB4 ⟨hop, oka, okb⟩ (by show 1 + max ta.lv tb.lv ≤ l; omega)⟩

theorem ok__law_made {n : Nat} {f : Addr} {fd : FuncData} (F : L2.Fun K "_law_made" "_law_made" s__law_made f fd) (T : Txt K mg c) (c__law_made : Callee P w K mg base (8 + n) "_law_made" (sp0 K (W__law_made c n))) (n_Name : KCallee P w K mg base 3 "Name" c.nm (spI K c.nm (W_Name_init c))) (n_Value : KCallee P w K mg base 4 "Value" c.vl (spI K c.vl (W_Value_init c))) (n_Not : KCallee P w K mg base 7 "Not" c.nt (spI K c.nt (W_Not_init c))) (n_Pick : KCallee P w K mg base 7 "Pick" c.pk (spI K c.pk (W_Pick_init c))) (n_Two : KCallee P w K mg base 7 "Two" c.tw (spI K c.tw (W_Two_init c))) : FnOk P w K mg base L2.CX0 (8 + n + 1) f fd ["told"] (sp0 K (W__law_made c (n + 1))) := by
  refine F.ok sc__law_made (fun vs H Q E h => sp0_len (by rintro _ _ _ ⟨_, rfl, _⟩; rfl) h) (fun cdv A outer s H vs Q E hr h => ⟨_, (pss_cons (ps_if (pt_cmpR (op_eqD hr.units) (pe_ix ix_seq (pv 0) pe_int (fun _ _ => rfl)) pe_str (nomark _)) (pss_one (ps_ret (DL.pe_new1 n_Name hr (by omega) (by rfl) (pa_cons (pe_ix ix_seq (pv 0) pe_int (fun _ _ => rfl)) pa_nil)))) pss_nil) (pss_cons (ps_if (pt_cmpR (op_eqD hr.units) (pe_ix ix_seq (pv 0) pe_int (fun _ _ => rfl)) pe_str (nomark _)) (pss_one (ps_ret (DL.pe_new1 n_Value hr (by omega) (by rfl) (pa_cons (pe_ix ix_seq (pv 0) pe_int (fun _ _ => rfl)) pa_nil)))) pss_nil) (pss_cons (ps_if (pt_cmpR (op_eqD hr.units) (pe_ix ix_seq (pv 0) pe_int (fun _ _ => rfl)) pe_str (nomark _)) (pss_one (ps_ret (DL.pe_new1 n_Not hr (by omega) (by rfl) (pa_cons (DL.pe_cl c__law_made hr (by omega) (by rfl) (pa_cons (pe_ix ix_seq (pv 0) pe_int (fun _ _ => rfl)) pa_nil)) pa_nil)))) pss_nil) (pss_cons (ps_if (pt_cmpR (op_eqD hr.units) (pe_ix ix_seq (pv 0) pe_int (fun _ _ => rfl)) pe_str (nomark _)) (pss_one (ps_ret (DL.pe_new1 n_Pick hr (by omega) (by rfl) (pa_cons (DL.pe_cl c__law_made hr (by omega) (by rfl) (pa_cons (pe_ix ix_seq (pv 0) pe_int (fun _ _ => rfl)) pa_nil)) (pa_cons (DL.pe_cl c__law_made hr (by omega) (by rfl) (pa_cons (pe_ix ix_seq (pv 0) pe_int (fun _ _ => rfl)) pa_nil)) (pa_cons (DL.pe_cl c__law_made hr (by omega) (by rfl) (pa_cons (pe_ix ix_seq (pv 0) pe_int (fun _ _ => rfl)) pa_nil)) pa_nil)))))) pss_nil) (pss_one (ps_ret (DL.pe_new1 n_Two hr (by omega) (by rfl) (pa_cons (pe_ix ix_seq (pv 0) pe_int (fun _ _ => rfl)) (pa_cons (DL.pe_cl c__law_made hr (by omega) (by rfl) (pa_cons (pe_ix ix_seq (pv 0) pe_int (fun _ _ => rfl)) pa_nil)) (pa_cons (DL.pe_cl c__law_made hr (by omega) (by rfl) (pa_cons (pe_ix ix_seq (pv 0) pe_int (fun _ _ => rfl)) pa_nil)) pa_nil)))))))))), body0 h ?_⟩)
  try dsimp only [cxOf]
  intro ds Φ X F hW hE
  obtain ⟨t, rfl, hok, hl, h5, hΦ⟩ := hW
  cases t with
  | nm s =>
    dsimp only [Tm.told]
    walk_at "c"
    exact ⟨s, rfl, hok, hΦ⟩
  | vl v =>
    dsimp only [Tm.told]
    walk_at "c"
    exact ⟨v, rfl, hok, hΦ⟩
  | nt a =>
    have hl' : 1 + a.lv ≤ n + 1 := hl
    have h5' : 1 + a.lv ≤ 5 := h5
    dsimp only [Tm.told]
    walk_at "c"
    refine ⟨a, rfl, hok, by omega, by omega, rsp_fz ?_⟩
    walk_at "c"
    exact ⟨a, rfl, by omega, hΦ⟩
  | tw op a b =>
    have hl' : 1 + max a.lv b.lv ≤ n + 1 := hl
    have h5' : 1 + max a.lv b.lv ≤ 5 := h5
    dsimp only [Tm.told]
    walk_at "c"
    refine ⟨a, rfl, hok.2.1, by omega, by omega, rsp_fz ?_⟩
    walk_at "c"
    refine ⟨b, rfl, hok.2.2, by omega, by omega, rsp_fz ?_⟩
    walk_at "c"
    exact ⟨op, a, b, rfl, hok.1, by omega, by omega, hΦ⟩
  | pk a b e =>
    have hl' : 1 + max (max a.lv b.lv) e.lv ≤ n + 1 := hl
    have h5' : 1 + max (max a.lv b.lv) e.lv ≤ 5 := h5
    dsimp only [Tm.told]
    walk_at "c"
    refine ⟨a, rfl, hok.1, by omega, by omega, rsp_fz ?_⟩
    walk_at "c"
    refine ⟨b, rfl, hok.2.1, by omega, by omega, rsp_fz ?_⟩
    walk_at "c"
    refine ⟨e, rfl, hok.2.2, by omega, by omega, rsp_fz ?_⟩
    walk_at "c"
    exact ⟨a, b, e, rfl, by omega, by omega, by omega, hΦ⟩

theorem ok__law_names {n : Nat} {f : Addr} {fd : FuncData} (F : L2.Fun K "_law_names" "_law_names" s__law_names f fd) (T : Txt K mg c) (c__law_names : Callee P w K mg base (0 + n) "_law_names" (sp0 K (W__law_names c n))) (m_int : mg "int" = none) : FnOk P w K mg base L2.CX0 (0 + n + 1) f fd ["told"] (sp0 K (W__law_names c (n + 1))) := by
  refine F.ok sc__law_names (fun vs H Q E h => sp0_len (by rintro _ _ _ ⟨_, rfl, _⟩; rfl) h) (fun cdv A outer s H vs Q E hr h => ⟨_, (pss_cons (ps_if (pt_cmpR (op_eqD hr.units) (pe_ix ix_seq (pv 0) pe_int (fun _ _ => rfl)) pe_str (nomark _)) (pss_one (ps_ret (pe_lst (pa_cons (pe_ix ix_seq (pv 0) pe_int (fun _ _ => rfl)) pa_nil)))) pss_nil) (pss_cons (ps_set (i := 1) sc__law_names.nd rfl (Or.inr rfl) (pe_lst pa_nil)) (pss_cons (ps_if (pt_cmpR (op_neD hr.units) (pe_ix ix_seq (pv 0) pe_int (fun _ _ => rfl)) pe_str (nomark _)) (pss_one (ps_for PassesOwn.never rfl (pi_tup (pe_slice sl_tup (pv 0) (po_some (pe_op DL.op_plus pe_int (pe_callTy call_int1 (by rfl) m_int PyProof.Rows.boot_int (pa_cons (pe_cmpR (op_eqD hr.units) (pe_ix ix_seq (pv 0) pe_int (fun _ _ => rfl)) pe_str (nomark _)) pa_nil)))) po_none)) (pg_name (i := 2) sc__law_names.nd rfl (Or.inl rfl)) (pss_one (ps_set (i := 1) sc__law_names.nd rfl (Or.inr rfl) (pe_op DL.op_plus (pv 1) (pe_lc (own := [("name", 3)]) (g := (gName 3)) (tt := _) rfl sc__law_names.nd (pi_list (DL.pe_cl c__law_names hr (by omega) (by rfl) (pa_cons (pv 2) pa_nil))) (blkOk_by (N := N__law_names) (sc := defScope s__law_names) (by decide +kernel)) (fun _ _ _ _ _ => (pg_name (i := 3) sc__law_names.nd rfl (Or.inl rfl))) (fun _ _ _ _ _ => pts_one (pt_cmpR (show OpR _ _ (rIn K true) from op_notIn_seq) (pv 3) (pv 1) (by rfl))) (fun _ _ _ _ _ => (pv 3)))))))) pss_nil) (pss_one (ps_ret (pv 1)))))), body0 h ?_⟩)
  try dsimp only [cxOf]
  intro ds Φ X F hW hE
  obtain ⟨t, rfl, hok, hl, h5, hΦ⟩ := hW
  cases t with
  | nm s =>
    dsimp only [Tm.told]
    walk_at "c"
    exact hΦ
  | vl v =>
    dsimp only [Tm.told]
    walk_at "c"
    exact hΦ
  | nt a =>
    have hl' : 1 + a.lv ≤ n + 1 := hl
    have h5' : 1 + a.lv ≤ 5 := h5
    have na := a.ns_small (n := 5) (by omega) (by omega)
    dsimp only [Tm.told]
    walk_at "c"
    refine wS_forT (wE_slT ?_)
    walk_at "c"
    refine ⟨_, rfl, wP_some ?_⟩
    walk_at "c"
    have e0 : PyData.eqv (.str "not") (.str "two") = false := by rw [eqs]; decide +kernel
    refine ⟨1, by rw [e0]; rfl, wP_no ⟨by show ¬ (HT.sIx 2 0 (some 1) = 0 ∧ HT.sIx 2 2 none = 2); decide, _, rfl, ?_⟩⟩
    have e : cutD [D.str "not", a.told] (some 1) none = [a.told] := rfl
    rw [e]
    refine forS_cons ?_
    refine wG_name ?_
    walk_at "nm"
    refine wS_set (wE_op (wE_var rfl (wE_ofO (wO_lcL (tgt_name (by decide)) ?_))))
    walk_at "c"
    refine ⟨a, rfl, hok, by omega, by omega, rsp_fz ⟨_, rfl, by rw [List.length_map]; omega, ?_⟩⟩
    walk_at "nm"
    refine compL_flt (p := fun _ => true) (f := id) _ _ (fun F' x hx => ?_) ?_
    · obtain ⟨s, hs, rfl⟩ := List.mem_map.mp hx
      walk_at "c"
      refine ⟨rfl, fun _ => rfl, fun _ => ?_⟩
      walk_at "c"
      exact ⟨rfl, rfl⟩
    rw [List.filter_eq_self.mpr (fun _ _ => rfl), List.map_id, List.nil_append]
    refine wRO_E (wRO_plusL ?_ ?_)
    · rw [List.length_map, List.length_nil]
      omega
    rw [List.nil_append]
    walk_at "nm"
    refine forS_nil ?_
    walk_at "c"
    exact hΦ
  | tw op a b =>
    have hl' : 1 + max a.lv b.lv ≤ n + 1 := hl
    have h5' : 1 + max a.lv b.lv ≤ 5 := h5
    have na := a.ns_small (n := 5) (by omega) (by omega)
    have nb := b.ns_small (n := 5) (by omega) (by omega)
    dsimp only [Tm.told]
    walk_at "c"
    refine wS_forT (wE_slT ?_)
    walk_at "c"
    refine ⟨_, rfl, wP_some ?_⟩
    walk_at "c"
    have e0 : PyData.eqv (.str "two") (.str "two") = true := by rw [eqs]; decide +kernel
    refine ⟨2, by rw [e0]; rfl, wP_no ⟨by show ¬ (HT.sIx 4 0 (some 2) = 0 ∧ HT.sIx 4 4 none = 4); decide, _, rfl, ?_⟩⟩
    have e : cutD [D.str "two", D.str op, a.told, b.told] (some 2) none = [a.told, b.told] := rfl
    rw [e]
    refine forS_cons ?_
    refine wG_name ?_
    walk_at "nm"
    refine wS_set (wE_op (wE_var rfl (wE_ofO (wO_lcL (tgt_name (by decide)) ?_))))
    walk_at "c"
    refine ⟨a, rfl, hok.2.1, by omega, by omega, rsp_fz ⟨_, rfl, by rw [List.length_map]; omega, ?_⟩⟩
    walk_at "nm"
    refine compL_flt (p := fun _ => true) (f := id) _ _ (fun F' x hx => ?_) ?_
    · obtain ⟨s, hs, rfl⟩ := List.mem_map.mp hx
      walk_at "c"
      refine ⟨rfl, fun _ => rfl, fun _ => ?_⟩
      walk_at "c"
      exact ⟨rfl, rfl⟩
    rw [List.filter_eq_self.mpr (fun _ _ => rfl), List.map_id, List.nil_append]
    refine wRO_E (wRO_plusL ?_ ?_)
    · rw [List.length_map, List.length_nil]
      omega
    rw [List.nil_append]
    walk_at "nm"
    refine forS_cons ?_
    generalize hf : a.ns = f1
    have hf2 : f1 = addN [] a.ns := by rw [addN_nil, hf]
    have l1 : f1.length ≤ 243 := by rw [← hf]; exact na
    refine wG_name ?_
    walk_at "nm"
    refine wS_set (wE_op (wE_var rfl (wE_ofO (wO_lcL (tgt_name (by decide)) ?_))))
    walk_at "c"
    refine ⟨b, rfl, hok.2.2, by omega, by omega, rsp_fz ⟨_, rfl, by rw [List.length_map]; omega, ?_⟩⟩
    walk_at "nm"
    refine compL_flt (p := fun d => !inD d ((f1).map .str)) (f := id) _ _ (fun F' x hx => ?_) ?_
    · obtain ⟨s, hs, rfl⟩ := List.mem_map.mp hx
      walk_at "c"
      refine wR_niL rfl (flat_strs _) ?_
      walk_at "c"
      refine ⟨rfl, fun _ => rfl, fun _ => ?_⟩
      walk_at "c"
      exact ⟨rfl, rfl⟩
    rw [flt_names, List.nil_append]
    refine wRO_E (wRO_plusL ?_ ?_)
    · rw [List.length_map, List.length_map]
      have := List.length_filter_le (fun s => decide (s ∉ f1)) b.ns
      omega
    rw [← List.map_append]
    walk_at "nm"
    refine forS_nil ?_
    walk_at "c"
    have e1 : f1 ++ b.ns.filter (fun s => decide (s ∉ f1)) = (Tm.tw op a b).ns := by
      rw [hf2]
      exact (once_two a.nodup b.nodup).symm
    rw [e1]
    exact hΦ
  | pk a b g =>
    have hl' : 1 + max (max a.lv b.lv) g.lv ≤ n + 1 := hl
    have h5' : 1 + max (max a.lv b.lv) g.lv ≤ 5 := h5
    have na := a.ns_small (n := 5) (by omega) (by omega)
    have nb := b.ns_small (n := 5) (by omega) (by omega)
    have ng := g.ns_small (n := 5) (by omega) (by omega)
    dsimp only [Tm.told]
    walk_at "c"
    refine wS_forT (wE_slT ?_)
    walk_at "c"
    refine ⟨_, rfl, wP_some ?_⟩
    walk_at "c"
    have e0 : PyData.eqv (.str "pick") (.str "two") = false := by rw [eqs]; decide +kernel
    refine ⟨1, by rw [e0]; rfl, wP_no ⟨by show ¬ (HT.sIx 4 0 (some 1) = 0 ∧ HT.sIx 4 4 none = 4); decide, _, rfl, ?_⟩⟩
    have e : cutD [D.str "pick", a.told, b.told, g.told] (some 1) none = [a.told, b.told, g.told] := rfl
    rw [e]
    refine forS_cons ?_
    refine wG_name ?_
    walk_at "nm"
    refine wS_set (wE_op (wE_var rfl (wE_ofO (wO_lcL (tgt_name (by decide)) ?_))))
    walk_at "c"
    refine ⟨a, rfl, hok.1, by omega, by omega, rsp_fz ⟨_, rfl, by rw [List.length_map]; omega, ?_⟩⟩
    walk_at "nm"
    refine compL_flt (p := fun _ => true) (f := id) _ _ (fun F' x hx => ?_) ?_
    · obtain ⟨s, hs, rfl⟩ := List.mem_map.mp hx
      walk_at "c"
      refine ⟨rfl, fun _ => rfl, fun _ => ?_⟩
      walk_at "c"
      exact ⟨rfl, rfl⟩
    rw [List.filter_eq_self.mpr (fun _ _ => rfl), List.map_id, List.nil_append]
    refine wRO_E (wRO_plusL ?_ ?_)
    · rw [List.length_map, List.length_nil]
      omega
    rw [List.nil_append]
    walk_at "nm"
    refine forS_cons ?_
    generalize hf : a.ns = f1
    have hf2 : f1 = addN [] a.ns := by rw [addN_nil, hf]
    have l1 : f1.length ≤ 243 := by rw [← hf]; exact na
    refine wG_name ?_
    walk_at "nm"
    refine wS_set (wE_op (wE_var rfl (wE_ofO (wO_lcL (tgt_name (by decide)) ?_))))
    walk_at "c"
    refine ⟨b, rfl, hok.2.1, by omega, by omega, rsp_fz ⟨_, rfl, by rw [List.length_map]; omega, ?_⟩⟩
    walk_at "nm"
    refine compL_flt (p := fun d => !inD d ((f1).map .str)) (f := id) _ _ (fun F' x hx => ?_) ?_
    · obtain ⟨s, hs, rfl⟩ := List.mem_map.mp hx
      walk_at "c"
      refine wR_niL rfl (flat_strs _) ?_
      walk_at "c"
      refine ⟨rfl, fun _ => rfl, fun _ => ?_⟩
      walk_at "c"
      exact ⟨rfl, rfl⟩
    rw [flt_names, List.nil_append]
    refine wRO_E (wRO_plusL ?_ ?_)
    · rw [List.length_map, List.length_map]
      have := List.length_filter_le (fun s => decide (s ∉ f1)) b.ns
      omega
    rw [← List.map_append]
    walk_at "nm"
    refine forS_cons ?_
    generalize hg : f1 ++ b.ns.filter (fun s => decide (s ∉ f1)) = f2
    have hg2 : f2 = addN f1 b.ns := hg.symm
    have l2 : f2.length ≤ 486 := by rw [hg2]; have := addN_len f1 b.ns; omega
    refine wG_name ?_
    walk_at "nm"
    refine wS_set (wE_op (wE_var rfl (wE_ofO (wO_lcL (tgt_name (by decide)) ?_))))
    walk_at "c"
    refine ⟨g, rfl, hok.2.2, by omega, by omega, rsp_fz ⟨_, rfl, by rw [List.length_map]; omega, ?_⟩⟩
    walk_at "nm"
    refine compL_flt (p := fun d => !inD d ((f2).map .str)) (f := id) _ _ (fun F' x hx => ?_) ?_
    · obtain ⟨s, hs, rfl⟩ := List.mem_map.mp hx
      walk_at "c"
      refine wR_niL rfl (flat_strs _) ?_
      walk_at "c"
      refine ⟨rfl, fun _ => rfl, fun _ => ?_⟩
      walk_at "c"
      exact ⟨rfl, rfl⟩
    rw [flt_names, List.nil_append]
    refine wRO_E (wRO_plusL ?_ ?_)
    · rw [List.length_map, List.length_map]
      have := List.length_filter_le (fun s => decide (s ∉ f2)) g.ns
      omega
    rw [← List.map_append]
    walk_at "nm"
    refine forS_nil ?_
    walk_at "c"
    have e1 : f2 ++ g.ns.filter (fun s => decide (s ∉ f2)) = (Tm.pk a b g).ns := by
      rw [hg2, hf2]
      exact (once_three a.nodup b.nodup g.nodup).symm
    rw [e1]
    exact hΦ

theorem ok__law_levels {n : Nat} {f : Addr} {fd : FuncData} (F : L2.Fun K "_law_levels" "_law_levels" s__law_levels f fd) (T : Txt K mg c) (c__law_levels : Callee P w K mg base (0 + n) "_law_levels" (sp0 K (W__law_levels c n))) (m_max : mg "max" = none) (m_int : mg "int" = none) : FnOk P w K mg base L2.CX0 (0 + n + 1) f fd ["told"] (sp0 K (W__law_levels c (n + 1))) := by
  refine F.ok sc__law_levels (fun vs H Q E h => sp0_len (by rintro _ _ _ ⟨_, rfl, _⟩; rfl) h) (fun cdv A outer s H vs Q E hr h => ⟨_, (pss_cons (ps_if (pt_cmpR op_in_seq (pe_ix ix_seq (pv 0) pe_int (fun _ _ => rfl)) (pe_tup (pa_cons pe_str (pa_cons pe_str pa_nil))) (by rfl)) (pss_one (ps_ret pe_int)) pss_nil) (pss_one (ps_ret (pe_op DL.op_plus pe_int (pe_callB (cr_max rfl) (by rfl) m_max (by decide +kernel) (pa_cons (pe_lc (own := [("one", 1)]) (g := (gName 1)) (tt := tYes) rfl sc__law_levels.nd (pi_tup (pe_slice sl_tup (pv 0) (po_some (pe_op DL.op_plus pe_int (pe_callTy call_int1 (by rfl) m_int PyProof.Rows.boot_int (pa_cons (pe_cmpR (op_eqD hr.units) (pe_ix ix_seq (pv 0) pe_int (fun _ _ => rfl)) pe_str (nomark _)) pa_nil)))) po_none)) (blkOk_by (N := N__law_levels) (sc := defScope s__law_levels) (by decide +kernel)) (fun _ _ _ _ _ => (pg_name (i := 1) sc__law_levels.nd rfl (Or.inl rfl))) (fun _ _ _ _ _ => pts_nil) (fun _ _ _ _ _ => (DL.pe_cl c__law_levels hr (by omega) (by rfl) (pa_cons (pv 1) pa_nil)))) pa_nil)))))), body0 h ?_⟩)
  try dsimp only [cxOf]
  intro ds Φ X F hW hE
  obtain ⟨t, rfl, hl, hΦ⟩ := hW
  cases t with
  | nm s =>
    dsimp only [Tm.told]
    walk_at "c"
    exact hΦ
  | vl v =>
    dsimp only [Tm.told]
    walk_at "c"
    exact hΦ
  | nt a =>
    have hl' : 1 + a.lv ≤ n + 1 := hl
    dsimp only [Tm.told]
    walk_at "c"
    refine wE_ofO (wO_lcT (tgt_name (by decide)) (wE_slT ?_))
    walk_at "c"
    refine ⟨_, rfl, wP_some ?_⟩
    walk_at "c"
    have e0 : PyData.eqv (.str "not") (.str "two") = false := by rw [eqs]; decide +kernel
    refine ⟨1, by rw [e0]; rfl, wP_no ⟨by show ¬ (HT.sIx 2 0 (some 1) = 0 ∧ HT.sIx 2 2 none = 2); decide, _, rfl, Nat.le_of_ble_eq_true rfl, ?_⟩⟩
    have e : cutD [D.str "not", a.told] (some 1) none = [a.told] := rfl
    rw [e]
    walk_at "nm"
    walk_at "c"
    refine ⟨a, rfl, by omega, rsp_fz ?_⟩
    walk_at "c"
    refine wC_maxL (ns := [(a.lv : Int)]) (m := (a.lv : Int)) (.head _) (fun y hy => ?_) ?_
    · rcases List.mem_cons.mp hy with rfl | hy
      · exact Int.le_refl _
      · cases hy
    walk_at "c"
    have e1 : (1 : Int) + (a.lv : Int) = ((Tm.nt a).lv : Int) := by
      show _ = ((1 + a.lv : Nat) : Int)
      omega
    rw [e1]
    exact hΦ
  | tw op a b =>
    have hl' : 1 + max a.lv b.lv ≤ n + 1 := hl
    dsimp only [Tm.told]
    walk_at "c"
    refine wE_ofO (wO_lcT (tgt_name (by decide)) (wE_slT ?_))
    walk_at "c"
    refine ⟨_, rfl, wP_some ?_⟩
    walk_at "c"
    have e0 : PyData.eqv (.str "two") (.str "two") = true := by rw [eqs]; decide +kernel
    refine ⟨2, by rw [e0]; rfl, wP_no ⟨by show ¬ (HT.sIx 4 0 (some 2) = 0 ∧ HT.sIx 4 4 none = 4); decide, _, rfl, Nat.le_of_ble_eq_true rfl, ?_⟩⟩
    have e : cutD [D.str "two", D.str op, a.told, b.told] (some 2) none = [a.told, b.told] := rfl
    rw [e]
    walk_at "nm"
    walk_at "c"
    refine ⟨a, rfl, by omega, rsp_fz ?_⟩
    walk_at "c"
    refine ⟨b, rfl, by omega, rsp_fz ?_⟩
    walk_at "c"
    refine wC_maxL (ns := [(a.lv : Int), (b.lv : Int)]) (m := ((max a.lv b.lv : Nat) : Int)) ?_ (fun y hy => ?_) ?_
    · rw [List.mem_cons, List.mem_singleton]; omega
    · rw [List.mem_cons, List.mem_singleton] at hy; omega
    walk_at "c"
    have e1 : (1 : Int) + ((max a.lv b.lv : Nat) : Int) = ((Tm.tw op a b).lv : Int) := by
      show _ = ((1 + max a.lv b.lv : Nat) : Int)
      omega
    rw [e1]
    exact hΦ
  | pk a b g =>
    have hl' : 1 + max (max a.lv b.lv) g.lv ≤ n + 1 := hl
    dsimp only [Tm.told]
    walk_at "c"
    refine wE_ofO (wO_lcT (tgt_name (by decide)) (wE_slT ?_))
    walk_at "c"
    refine ⟨_, rfl, wP_some ?_⟩
    walk_at "c"
    have e0 : PyData.eqv (.str "pick") (.str "two") = false := by rw [eqs]; decide +kernel
    refine ⟨1, by rw [e0]; rfl, wP_no ⟨by show ¬ (HT.sIx 4 0 (some 1) = 0 ∧ HT.sIx 4 4 none = 4); decide, _, rfl, Nat.le_of_ble_eq_true rfl, ?_⟩⟩
    have e : cutD [D.str "pick", a.told, b.told, g.told] (some 1) none = [a.told, b.told, g.told] := rfl
    rw [e]
    walk_at "nm"
    walk_at "c"
    refine ⟨a, rfl, by omega, rsp_fz ?_⟩
    walk_at "c"
    refine ⟨b, rfl, by omega, rsp_fz ?_⟩
    walk_at "c"
    refine ⟨g, rfl, by omega, rsp_fz ?_⟩
    walk_at "c"
    refine wC_maxL (ns := [(a.lv : Int), (b.lv : Int), (g.lv : Int)]) (m := ((max (max a.lv b.lv) g.lv : Nat) : Int)) ?_ (fun y hy => ?_) ?_
    · rw [List.mem_cons, List.mem_cons, List.mem_singleton]; omega
    · rw [List.mem_cons, List.mem_cons, List.mem_singleton] at hy; omega
    walk_at "c"
    have e1 : (1 : Int) + ((max (max a.lv b.lv) g.lv : Nat) : Int) = ((Tm.pk a b g).lv : Int) := by
      show _ = ((1 + max (max a.lv b.lv) g.lv : Nat) : Int)
      omega
    rw [e1]
    exact hΦ

theorem ok__law_right {f : Addr} {fd : FuncData} (F : L2.Fun K "_law_right" "_law_right" s__law_right f fd) (T : Txt K mg c) (c__law_levels : Callee P w K mg base (0 + 5) "_law_levels" (sp0 K (W__law_levels c 5))) (c__law_names : Callee P w K mg base (0 + 5) "_law_names" (sp0 K (W__law_names c 5))) (v_levels : ∀ z ∈ vias K c (W_levels c 5), MCallee P w K mg base (0 + 5) z.1 "levels" z.2) (v_told : ∀ z ∈ vias K c (W_told c 5), MCallee P w K mg base (0 + 5) z.1 "told" z.2) (v_names : ∀ z ∈ vias K c (W_names c 5), MCallee P w K mg base (1 + 5) z.1 "names" z.2) (g_Term : mg "Term" = some (.ref c.tm)) (m_repr : mg "repr" = none) (m_isinstance : mg "isinstance" = none) (m_list : mg "list" = none) (m_bool : mg "bool" = none) : FnG P w K mg base 7 f fd ["term", "told"] (sp0 K (W__law_right c)) := by
  refine FnG.of F sc__law_right (fun vs H Q E h => sp0_len (by rintro _ _ _ ⟨_, rfl, _⟩; rfl) h) (fun cdv A outer s H vs Q E hq hr h => ⟨_, (pss_cons (ps_if (PW.pt (pw_or (pt_not (pt_val (pe_callB call_isi (by rfl) m_isinstance PyProof.Rows.boot_isinstance (pa_cons (pv 0) (pa_cons (pe_glob (v := .ref c.tm) (by rfl) g_Term rfl) pa_nil))))) (pw_or (pt_cmpR op_ne (pe_callB (DL.call_reprD hq hr.units) (by rfl) m_repr PyProof.Rows.bootS_repr (pa_cons (DL.pe_via v_told hr (by omega) (pv 0)) pa_nil)) (pe_callB (DL.call_reprD hq hr.units) (by rfl) m_repr PyProof.Rows.bootS_repr (pa_cons (pv 1) pa_nil)) (nomark _)) (pw_or1 (pt_cmpR (op_neD hr.units) (DL.pe_via v_levels hr (by omega) (pv 0)) (DL.pe_cl c__law_levels hr (by omega) (by rfl) (pa_cons (pv 1) pa_nil)) (nomark _)))))) (pss_one (ps_ret pe_bl)) pss_nil) (pss_cons (ps_set (i := 2) sc__law_right.nd rfl (Or.inl rfl) (DL.pe_via v_names hr (by omega) (pv 0))) (pss_cons (ps_if (PW.pt (pw_or (pt_not (pt_val (pe_callB call_isi (by rfl) m_isinstance PyProof.Rows.boot_isinstance (pa_cons (pv 2) (pa_cons (pe_bltn (v := .ty "list") (by rfl) m_list PyProof.Rows.boot_list rfl) pa_nil))))) (pw_or1 (pt_cmpR (op_neD hr.units) (pv 2) (DL.pe_cl c__law_names hr (by omega) (by rfl) (pa_cons (pv 1) pa_nil)) (nomark _))))) (pss_one (ps_ret pe_bl)) pss_nil) (pss_cons (ps_expr (pe_bm PySem.F.plainAttrs_list PySem.F.slot_list_append PySem.F.type_list_append mt_append (pv 2) (pa_cons pe_str pa_nil))) (pss_one (ps_ret (pe_and (pe_cmpR (op_eqD hr.units) (DL.pe_via v_names hr (by omega) (pv 0)) (DL.pe_cl c__law_names hr (by omega) (by rfl) (pa_cons (pv 1) pa_nil)) (nomark _)) (pe_one (pe_not (pe_callB call_isi (by rfl) m_isinstance PyProof.Rows.boot_isinstance (pa_cons (DL.pe_via v_levels hr (by omega) (pv 0)) (pa_cons (pe_bltn (v := .ty "bool") (by rfl) m_bool PyProof.Rows.boot_bool rfl) pa_nil)))))))))))), body0 h ?_⟩)
  try dsimp only [cxOf]
  intro ds Φ X F hW hE
  obtain ⟨t, rfl, hok, h5, hΦ⟩ := hW
  have hns := t.ns_ok hok
  have hln := t.ns_small h5 (Nat.le_refl _)
  walk_at "c"
  refine wC_isiO (T.kd t) (T.sub t) ?_
  walk_at "c"
  refine wE_tm (nf_told c) ?_
  walk_at "c"
  refine ⟨t, rfl, t, rfl, rfl, h5, rsp_fz ?_⟩
  walk_at "c"
  refine wC_reprT hok h5 ?_
  walk_at "c"
  refine wC_reprT hok h5 ?_
  refine wR_neStr ?_
  refine onB_bl ?_
  refine ways_ev_f (by simp) ?_
  walk_at "c"
  refine wE_tm (nf_levels c) ?_
  walk_at "c"
  refine ⟨t, rfl, t, rfl, rfl, h5, rsp_fz ?_⟩
  walk_at "c"
  refine ⟨t, rfl, h5, rsp_fz ?_⟩
  walk_at "c"
  refine ways_ev_f (by rw [eqi_same]; rfl) ?_
  refine wS_next ?_
  refine wS_seq ?_
  refine wS_setO (wO_tm (nf_names c) ?_)
  walk_at "c"
  refine ⟨t, rfl, t, rfl, rfl, h5, h5, rso_ow ?_⟩
  refine wS_seq (wS_if (wT_or (wT_not (wT_B (wE_isLO (l := .loc) (ds := t.ns.map D.str) rfl ?_)))))
  refine onB_bl ?_
  refine ways_f ?_
  refine wT_test (wE_neO (l := .loc) (ds := t.ns.map D.str) (ps := t.ns.map PyData.str) rfl (toPyL_strs _) (shaped_strs hns) ?_)
  walk_at "c"
  refine ⟨t, rfl, hok, h5, h5, rsp_fz ⟨.list (t.ns.map .str), rfl, toPy_strs _, shaped_strs hns, ?_⟩⟩
  rw [eqv_strs hns]
  walk_at "c"
  refine wS_append ⟨_, _, rfl⟩ (wE_str ⟨_, _, rfl, by rw [List.length_map]; omega, ?_⟩)
  walk_at "nm"
  refine wS_ret (wE_andV (wE_op ?_))
  refine wE_tm (nf_names c) ?_
  walk_at "c"
  refine ⟨t, rfl, t, rfl, rfl, h5, h5, rsp_ow ?_⟩
  walk_at "c"
  refine ⟨t, rfl, hok, h5, h5, rsp_fz ?_⟩
  refine wR_eqD (a := .list (t.ns.map .str)) (b := .list (t.ns.map .str)) (toPy_strs _) (toPy_strs _) (shaped_strs hns) (shaped_strs hns) ?_
  rw [eqv_strs hns]
  walk_at "c"
  refine wE_tm (nf_levels c) ?_
  walk_at "c"
  refine ⟨t, rfl, t, rfl, rfl, h5, rsp_fz ?_⟩
  walk_at "c"
  exact hΦ

theorem ok_law {f : Addr} {fd : FuncData} (F : L2.Fun K "law" "law" s_law f fd) (T : Txt K mg c) (c__law_box : Callee P w K mg base 1 "_law_box" (sp0 K W__law_box)) (c__law_cell_at : Callee P w K mg base 1 "_law_cell_at" (sp0 K W__law_cell_at)) (c__law_told : Callee P w K mg base (2 + 5) "_law_told" (sp1 K (W__law_told c 5))) (c__law_take : Callee P w K mg base 1 "_law_take" (sp1 K W__law_take)) (c__law_made : Callee P w K mg base (8 + 5) "_law_made" (sp0 K (W__law_made c 5))) (c__law_right : CalleeG P w K mg base 7 "_law_right" (sp0 K (W__law_right c))) (c_term_of : Callee P w K mg base 14 "term_of" (sp0 K (W_term_of c))) (c__law_levels : Callee P w K mg base (0 + 5) "_law_levels" (sp0 K (W__law_levels c 5))) (v_told : ∀ z ∈ vias K c (W_told c 5), MCallee P w K mg base (0 + 5) z.1 "told" z.2) (n_Two : KCallee P w K mg base 7 "Two" c.tw (spI K c.tw (W_Two_init c))) (n_Not : KCallee P w K mg base 7 "Not" c.nt (spI K c.nt (W_Not_init c))) (n_Name : KCallee P w K mg base 3 "Name" c.nm (spI K c.nm (W_Name_init c))) (n_Pick : KCallee P w K mg base 7 "Pick" c.pk (spI K c.pk (W_Pick_init c))) (n_Value : KCallee P w K mg base 4 "Value" c.vl (spI K c.vl (W_Value_init c))) (m_range : mg "range" = none) (m_max : mg "max" = none) (m_min : mg "min" = none) (m_len : mg "len" = none) : FnG P w K mg base 15 f fd ["script"] (sp0 K W_law) := by
  refine FnG.of F sc_law (fun vs H Q E h => sp0_len (by rintro _ _ _ ⟨_, _, rfl, _⟩; rfl) h) (fun cdv A outer s H vs Q E hq hr h => ⟨_, (pss_cons (ps_set (i := 1) sc_law.nd rfl (Or.inl rfl) (pe_lst (pa_cons pe_str (pa_cons pe_str (pa_cons pe_str (pa_cons pe_str (pa_cons pe_str (pa_cons (pe_op DL.op_plus (pe_op DL.op_repS pe_str pe_int) pe_str) pa_nil)))))))) (pss_cons (ps_for PassesOwn.never rfl (pi_range1 rfl m_range (pa_cons (pe_callB (call_max2 rfl) (by rfl) m_max (by decide +kernel) (pa_cons pe_int (pa_cons (pe_callB (call_min2 rfl) (by rfl) m_min (by decide +kernel) (pa_cons (pe_callB call_len (by rfl) m_len PySem.boot_len (pa_cons (pv 0) pa_nil)) (pa_cons pe_int pa_nil))) pa_nil))) pa_nil)) (pg_name (i := 2) sc_law.nd rfl (Or.inl rfl)) (pss_cons (ps_set (i := 3) sc_law.nd rfl (Or.inl rfl) (DL.pe_cl c__law_box hr (by omega) (by rfl) (pa_cons (DL.pe_cl c__law_cell_at hr (by omega) (by rfl) (pa_cons (pv 0) (pa_cons (pv 2) pa_nil))) pa_nil))) (pss_cons (ps_set (i := 4) sc_law.nd rfl (Or.inl rfl) (DL.pe_cl c__law_told hr (by omega) (by rfl) (pa_cons (pv 3) (pa_cons (pe_op DL.op_plus pe_int (DL.pe_cl c__law_take hr (by omega) (by rfl) (pa_cons (pv 3) (pa_cons pe_int pa_nil)))) (pa_cons (pv 1) pa_nil))))) (pss_cons (ps_set (i := 5) sc_law.nd rfl (Or.inl rfl) (DL.pe_cl c__law_made hr (by omega) (by rfl) (pa_cons (pv 4) pa_nil))) (pss_cons (ps_if (PW.pt (pw_or (pt_not (pt_val (DL.pe_clG c__law_right hq hr (by omega) (by rfl) (pa_cons (pv 5) (pa_cons (pv 4) pa_nil))))) (pw_or1 (pt_not (pt_val (DL.pe_clG c__law_right hq hr (by omega) (by rfl) (pa_cons (DL.pe_cl c_term_of hr (by omega) (by rfl) (pa_cons (DL.pe_via v_told hr (by omega) (pv 5)) pa_nil)) (pa_cons (pv 4) pa_nil)))))))) (pss_one (ps_ret pe_bl)) pss_nil) (pss_cons (ps_if (PW.pt (pw_or (pt_not (pt_val (DL.pe_clG c__law_right hq hr (by omega) (by rfl) (pa_cons (DL.pe_cl c_term_of hr (by omega) (by rfl) (pa_cons (pv 4) pa_nil)) (pa_cons (pv 4) pa_nil))))) (pw_or1 (pt_not (pt_val (DL.pe_clG c__law_right hq hr (by omega) (by rfl) (pa_cons (pv 5) (pa_cons (pv 4) pa_nil)))))))) (pss_one (ps_ret pe_bl)) pss_nil) (pss_one (ps_if (pt_cmpR op_lt (DL.pe_cl c__law_levels hr (by omega) (by rfl) (pa_cons (pv 4) pa_nil)) pe_int (nomark _)) (pss_cons (ps_set (i := 6) sc_law.nd rfl (Or.inl rfl) (DL.pe_new1 n_Two hr (by omega) (by rfl) (pa_cons pe_str (pa_cons (pv 5) (pa_cons (DL.pe_new1 n_Not hr (by omega) (by rfl) (pa_cons (DL.pe_new1 n_Name hr (by omega) (by rfl) (pa_cons pe_str pa_nil)) pa_nil)) pa_nil))))) (pss_cons (ps_if (pt_not (pt_val (DL.pe_clG c__law_right hq hr (by omega) (by rfl) (pa_cons (pv 6) (pa_cons (pe_tup (pa_cons pe_str (pa_cons pe_str (pa_cons (pv 4) (pa_cons (pe_tup (pa_cons pe_str (pa_cons (pe_tup (pa_cons pe_str (pa_cons pe_str pa_nil))) pa_nil))) pa_nil))))) pa_nil))))) (pss_one (ps_ret pe_bl)) pss_nil) (pss_cons (ps_set (i := 7) sc_law.nd rfl (Or.inl rfl) (DL.pe_new1 n_Pick hr (by omega) (by rfl) (pa_cons (DL.pe_new1 n_Value hr (by omega) (by rfl) (pa_cons pe_bl pa_nil)) (pa_cons (pv 5) (pa_cons (pv 5) pa_nil))))) (pss_cons (ps_if (pt_not (pt_val (DL.pe_clG c__law_right hq hr (by omega) (by rfl) (pa_cons (pv 7) (pa_cons (pe_tup (pa_cons pe_str (pa_cons (pe_tup (pa_cons pe_str (pa_cons pe_bl pa_nil))) (pa_cons (pv 4) (pa_cons (pv 4) pa_nil))))) pa_nil))))) (pss_one (ps_ret pe_bl)) pss_nil) (pss_one (ps_if (pt_not (pt_val (DL.pe_clG c__law_right hq hr (by omega) (by rfl) (pa_cons (pv 5) (pa_cons (pv 4) pa_nil))))) (pss_one (ps_ret pe_bl)) pss_nil)))))) pss_nil)))))))) (pss_one (ps_ret pe_bl)))), body0 h ?_⟩)
  try dsimp only [cxOf]
  intro ds Φ X F hW hE
  obtain ⟨ns, hl, rfl, hΦ⟩ := hW
  walk_at "w"
  refine wR_repS (by decide) (by decide) (by decide +kernel) (by decide +kernel) (by decide +kernel) ?_
  refine wE_str ?_
  refine wR_plusS (by decide +kernel) ?_
  walk_at "w"
  refine ⟨_, rfl, by split <;> split <;> omega, by split <;> split <;> omega, ?_⟩
  have hnl : (nlA.all fun s => decide (s.length ≤ 100) && (s.cps.toList.all fun c => decide (c < 0x110000)) && isPt (.str s)) = true := by decide +kernel
  have hgd : ∀ s ∈ nlA, gdN s := fun s hs => by
    have := List.all_eq_true.mp hnl s hs
    simp only [Bool.and_eq_true, decide_eq_true_eq] at this
    exact ⟨this.1.1, okS_of this.1.2, this.2⟩
  refine forS_inv _ (fun _ ρ => ∃ s2 s3 s4 s5 s6 s7, ρ = [.fz (.scr ns), .fz (.lst (nlA.map .str)), s2, s3, s4, s5, s6, s7]) ⟨_, _, _, _, _, _, rfl⟩ (fun i x ρ2 hx hI => ?_) (fun ρ2 hI => ?_)
  · obtain ⟨s2, s3, s4, s5, s6, s7, rfl⟩ := hI
    obtain ⟨_, rfl⟩ := rng_at hx
    refine wG_name ?_
    refine wS_seq ?_
    walk_at "nm"
    refine wS_setO (wO_call eok0 (wA_cons ?_))
    walk_at "w"
    refine ⟨ns, _, rfl, by omega, fun c => rsp_fz ?_⟩
    walk_at "w"
    refine ⟨c, rfl, fun ds hB => rso_ow ?_⟩
    walk_at "w"
    refine wE_call1 eok0 ⟨_, _, rfl⟩ (wA_cons ?_)
    walk_at "w"
    refine wE_call1 eok0 ⟨_, _, rfl⟩ (wA_cons (wE_int (wA_nil ⟨_, _, rfl, 5, rfl, hB, by decide, by decide, fun ds1 r hB1 hr0 hr1 => rsp_fz ?_⟩)))
    walk_at "w"
    refine ⟨_, _, rfl, (1 + r).toNat, nlA, ?_, hB1, by omega, by omega, by decide, by decide, hgd, fun ds2 t hB2 hok hlv => rsp_fz ?_⟩
    · rw [Int.toNat_of_nonneg (by omega)]
      rfl
    have h5 : t.lv ≤ 5 := by omega
    walk_at "w"
    refine ⟨t, rfl, hok, h5, h5, rsp_fz ?_⟩
    walk_at "w"
    refine ⟨t, rfl, hok, h5, rsp_fz ?_⟩
    walk_at "w"
    refine wE_tm (nf_told _) ?_
    walk_at "c"
    refine ⟨t, rfl, t, rfl, rfl, h5, rsp_fz ?_⟩
    walk_at "c"
    refine ⟨t, rfl, hok, h5, rsp_fz ?_⟩
    walk_at "c"
    refine ⟨t, rfl, hok, h5, rsp_fz ?_⟩
    walk_at "c"
    refine ⟨t, rfl, hok, h5, rsp_fz ?_⟩
    walk_at "c"
    refine ⟨t, rfl, hok, h5, rsp_fz ?_⟩
    walk_at "c"
    refine ⟨t, rfl, hok, h5, rsp_fz ?_⟩
    walk_at "c"
    refine ⟨t, rfl, h5, rsp_fz ?_⟩
    walk_at "c"
    refine ways_dec (fun h4 => ?_) (fun h4 => ?_)
    · have hg : gdN "a" := ⟨by decide +kernel, okS_of (by decide +kernel), by decide +kernel⟩
      have hv : vok (.bl true) := trivial
      have l1 := t.lv_pos
      walk_at "c"
      refine ⟨_, rfl, hg, ?_⟩
      walk_at "c"
      refine ⟨.nm "a", rfl, by show 1 ≤ 4; decide, ?_⟩
      walk_at "c"
      refine ⟨"+", t, .nt (.nm "a"), rfl, .head _, by omega, by show 1 + 1 ≤ 4; decide, ?_⟩
      walk_at "c"
      refine ⟨.tw "+" t (.nt (.nm "a")), rfl, ⟨.head _, hok, hg⟩, by show 1 + max t.lv (1 + 1) ≤ 5; omega, rsp_fz ?_⟩
      walk_at "c"
      refine ⟨_, rfl, hv, ?_⟩
      walk_at "c"
      refine ⟨.vl (.bl true), t, t, rfl, by show 1 ≤ 4; decide, by omega, by omega, ?_⟩
      walk_at "c"
      refine ⟨.pk (.vl (.bl true)) t t, rfl, ⟨hv, hok, hok⟩, by show 1 + max (max 1 t.lv) t.lv ≤ 5; omega, rsp_fz ?_⟩
      walk_at "c"
      refine ⟨t, rfl, hok, h5, rsp_fz ?_⟩
      walk_at "c"
      exact ⟨_, _, _, _, _, _, rfl⟩
    · walk_at "c"
      exact ⟨_, _, _, _, _, _, rfl⟩
  · obtain ⟨s2, s3, s4, s5, s6, s7, rfl⟩ := hI
    walk_at "w"
    exact hΦ

end
theorem all_mk {l : PySem.W.OpenLaw} {w : World} {K : PySem.W.Frag} {h : Heap} {mg : Str → Option Value} {fa f0 f1 f2 f3 f4 f5 f6 f7 f8 f9 f10 f11 f12 f13 f14 f15 f16 f17 f18 f19 f20 f21 f22 f23 f24 f25 f26 f27 f28 f29 f30 f31 f32 f33 f34 f35 f36 f37 f38 f39 C_Name C_Value C_Two C_Not C_Pick C_Term : Addr} (X : K.In h) (G : h.Ns mainGlobals mg) (hfa : mg "law" = some (.ref fa))
    {od0 an0 od1 an1 od2 an2 od3 an3 od4 an4 od5 an5 od6 an6 od7 an7 od8 an8 od9 an9 od10 an10 od11 an11 od12 an12 od13 an13 od14 an14 od15 an15 od16 an16 od17 an17 od18 an18 od19 an19 od20 an20 od21 an21 od22 an22 od23 an23 od24 an24 od25 an25 od26 an26 od27 an27 od28 an28 od29 an29 od30 an30 od31 an31 od32 an32 od33 an33 od34 an34 od35 an35 od36 an36 od37 an37 od38 an38 od39 an39 : Option Addr} {sl0 sl1 sl2 sl3 sl4 sl5 sl6 sl7 sl8 sl9 sl10 sl11 sl12 sl13 sl14 sl15 sl16 sl17 sl18 sl19 sl20 sl21 sl22 sl23 sl24 sl25 sl26 sl27 sl28 sl29 sl30 sl31 sl32 sl33 sl34 sl35 sl36 sl37 sl38 sl39 : Array (Option Value)} {oc0 kV0 dc0 pm0 cd0 ct0 oc1 kV1 dc1 pm1 cd1 ct1 oc2 kV2 dc2 pm2 cd2 ct2 oc3 kV3 dc3 pm3 cd3 ct3 oc4 kV4 dc4 pm4 cd4 ct4 oc5 kV5 dc5 pm5 cd5 ct5 oc6 kV6 dc6 pm6 cd6 ct6 oc7 kV7 dc7 pm7 cd7 ct7 oc8 kV8 dc8 pm8 cd8 ct8 oc9 kV9 dc9 pm9 cd9 ct9 oc10 kV10 dc10 pm10 cd10 ct10 oc11 kV11 dc11 pm11 cd11 ct11 oc12 kV12 dc12 pm12 cd12 ct12 oc13 kV13 dc13 pm13 cd13 ct13 oc14 kV14 dc14 pm14 cd14 ct14 oc15 kV15 dc15 pm15 cd15 ct15 oc16 kV16 dc16 pm16 cd16 ct16 oc17 kV17 dc17 pm17 cd17 ct17 oc18 kV18 dc18 pm18 cd18 ct18 oc19 kV19 dc19 pm19 cd19 ct19 oc20 kV20 dc20 pm20 cd20 ct20 oc21 kV21 dc21 pm21 cd21 ct21 oc22 kV22 dc22 pm22 cd22 ct22 oc23 kV23 dc23 pm23 cd23 ct23 oc24 kV24 dc24 pm24 cd24 ct24 oc25 kV25 dc25 pm25 cd25 ct25 oc26 kV26 dc26 pm26 cd26 ct26 oc27 kV27 dc27 pm27 cd27 ct27 oc28 kV28 dc28 pm28 cd28 ct28 oc29 kV29 dc29 pm29 cd29 ct29 oc30 kV30 dc30 pm30 cd30 ct30 oc31 kV31 dc31 pm31 cd31 ct31 oc32 kV32 dc32 pm32 cd32 ct32 oc33 kV33 dc33 pm33 cd33 ct33 oc34 kV34 dc34 pm34 cd34 ct34 oc35 kV35 dc35 pm35 cd35 ct35 oc36 kV36 dc36 pm36 cd36 ct36 oc37 kV37 dc37 pm37 cd37 ct37 oc38 kV38 dc38 pm38 cd38 ct38 oc39 kV39 dc39 pm39 cd39 ct39 : Value}
    (aC_Name : PySem.W.nsIn K mainGlobals "Name" = some (some (.ref C_Name)))
    (aC_Value : PySem.W.nsIn K mainGlobals "Value" = some (some (.ref C_Value)))
    (aC_Two : PySem.W.nsIn K mainGlobals "Two" = some (some (.ref C_Two)))
    (aC_Not : PySem.W.nsIn K mainGlobals "Not" = some (some (.ref C_Not)))
    (aC_Pick : PySem.W.nsIn K mainGlobals "Pick" = some (some (.ref C_Pick)))
    (aC_Term : PySem.W.nsIn K mainGlobals "Term" = some (some (.ref C_Term)))
    (a0 : PySem.W.nsIn K mainGlobals "is_whole" = some (some (.ref f0)))
    (l0 : K.lookup f0 = some ⟨oc0, od0, .func (PySem.W.fnOf "is_whole" "is_whole" (defArgs s_is_whole) (defBody s_is_whole) (defScope s_is_whole) .none kV0 dc0 pm0 an0 cd0 ct0), sl0⟩) (c0 : PySem.W.codeIn K cd0 "is_whole" = true) (k0 : PySem.W.keepIn K (.ref f0) = true)
    (a1 : PySem.W.nsIn K mainGlobals "is_within" = some (some (.ref f1)))
    (l1 : K.lookup f1 = some ⟨oc1, od1, .func (PySem.W.fnOf "is_within" "is_within" (defArgs s_is_within) (defBody s_is_within) (defScope s_is_within) .none kV1 dc1 pm1 an1 cd1 ct1), sl1⟩) (c1 : PySem.W.codeIn K cd1 "is_within" = true) (k1 : PySem.W.keepIn K (.ref f1) = true)
    (a2 : PySem.W.nsIn K mainGlobals "is_name" = some (some (.ref f2)))
    (l2 : K.lookup f2 = some ⟨oc2, od2, .func (PySem.W.fnOf "is_name" "is_name" (defArgs s_is_name) (defBody s_is_name) (defScope s_is_name) .none kV2 dc2 pm2 an2 cd2 ct2), sl2⟩) (c2 : PySem.W.codeIn K cd2 "is_name" = true) (k2 : PySem.W.keepIn K (.ref f2) = true)
    (a3 : PySem.W.nsIn K mainGlobals "is_pointed" = some (some (.ref f3)))
    (l3 : K.lookup f3 = some ⟨oc3, od3, .func (PySem.W.fnOf "is_pointed" "is_pointed" (defArgs s_is_pointed) (defBody s_is_pointed) (defScope s_is_pointed) .none kV3 dc3 pm3 an3 cd3 ct3), sl3⟩) (c3 : PySem.W.codeIn K cd3 "is_pointed" = true) (k3 : PySem.W.keepIn K (.ref f3) = true)
    (a4 : PySem.W.nsIn K mainGlobals "is_value" = some (some (.ref f4)))
    (l4 : K.lookup f4 = some ⟨oc4, od4, .func (PySem.W.fnOf "is_value" "is_value" (defArgs s_is_value) (defBody s_is_value) (defScope s_is_value) .none kV4 dc4 pm4 an4 cd4 ct4), sl4⟩) (c4 : PySem.W.codeIn K cd4 "is_value" = true) (k4 : PySem.W.keepIn K (.ref f4) = true)
    (a5 : PySem.W.nsIn K mainGlobals "each_once" = some (some (.ref f5)))
    (l5 : K.lookup f5 = some ⟨oc5, od5, .func (PySem.W.fnOf "each_once" "each_once" (defArgs s_each_once) (defBody s_each_once) (defScope s_each_once) .none kV5 dc5 pm5 an5 cd5 ct5), sl5⟩) (c5 : PySem.W.codeIn K cd5 "each_once" = true) (k5 : PySem.W.keepIn K (.ref f5) = true)
    (a6 : PySem.W.nsIn K mainGlobals "ops_told" = some (some (.ref f6)))
    (l6 : K.lookup f6 = some ⟨oc6, od6, .func (PySem.W.fnOf "ops_told" "ops_told" (defArgs s_ops_told) (defBody s_ops_told) (defScope s_ops_told) .none kV6 dc6 pm6 an6 cd6 ct6), sl6⟩) (c6 : PySem.W.codeIn K cd6 "ops_told" = true) (k6 : PySem.W.keepIn K (.ref f6) = true)
    (a7 : PySem.W.findIn K (.ref C_Name) "told" = some (some (.ref f7))) (i7 : PySem.W.isFn K (.ref f7) = true)
    (l7 : K.lookup f7 = some ⟨oc7, od7, .func (PySem.W.fnOf "told" "Name.told" (defArgs s_Name_told) (defBody s_Name_told) (defScope s_Name_told) .none kV7 dc7 pm7 an7 cd7 ct7), sl7⟩) (c7 : PySem.W.codeIn K cd7 "Name.told" = true) (k7 : PySem.W.keepIn K (.ref f7) = true)
    (a8 : PySem.W.findIn K (.ref C_Value) "told" = some (some (.ref f8))) (i8 : PySem.W.isFn K (.ref f8) = true)
    (l8 : K.lookup f8 = some ⟨oc8, od8, .func (PySem.W.fnOf "told" "Value.told" (defArgs s_Value_told) (defBody s_Value_told) (defScope s_Value_told) .none kV8 dc8 pm8 an8 cd8 ct8), sl8⟩) (c8 : PySem.W.codeIn K cd8 "Value.told" = true) (k8 : PySem.W.keepIn K (.ref f8) = true)
    (a9 : PySem.W.findIn K (.ref C_Two) "told" = some (some (.ref f9))) (i9 : PySem.W.isFn K (.ref f9) = true)
    (l9 : K.lookup f9 = some ⟨oc9, od9, .func (PySem.W.fnOf "told" "Two.told" (defArgs s_Two_told) (defBody s_Two_told) (defScope s_Two_told) .none kV9 dc9 pm9 an9 cd9 ct9), sl9⟩) (c9 : PySem.W.codeIn K cd9 "Two.told" = true) (k9 : PySem.W.keepIn K (.ref f9) = true)
    (a10 : PySem.W.findIn K (.ref C_Not) "told" = some (some (.ref f10))) (i10 : PySem.W.isFn K (.ref f10) = true)
    (l10 : K.lookup f10 = some ⟨oc10, od10, .func (PySem.W.fnOf "told" "Not.told" (defArgs s_Not_told) (defBody s_Not_told) (defScope s_Not_told) .none kV10 dc10 pm10 an10 cd10 ct10), sl10⟩) (c10 : PySem.W.codeIn K cd10 "Not.told" = true) (k10 : PySem.W.keepIn K (.ref f10) = true)
    (a11 : PySem.W.findIn K (.ref C_Pick) "told" = some (some (.ref f11))) (i11 : PySem.W.isFn K (.ref f11) = true)
    (l11 : K.lookup f11 = some ⟨oc11, od11, .func (PySem.W.fnOf "told" "Pick.told" (defArgs s_Pick_told) (defBody s_Pick_told) (defScope s_Pick_told) .none kV11 dc11 pm11 an11 cd11 ct11), sl11⟩) (c11 : PySem.W.codeIn K cd11 "Pick.told" = true) (k11 : PySem.W.keepIn K (.ref f11) = true)
    (a12 : PySem.W.findIn K (.ref C_Name) "levels" = some (some (.ref f12))) (i12 : PySem.W.isFn K (.ref f12) = true)
    (l12 : K.lookup f12 = some ⟨oc12, od12, .func (PySem.W.fnOf "levels" "Name.levels" (defArgs s_Name_levels) (defBody s_Name_levels) (defScope s_Name_levels) .none kV12 dc12 pm12 an12 cd12 ct12), sl12⟩) (c12 : PySem.W.codeIn K cd12 "Name.levels" = true) (k12 : PySem.W.keepIn K (.ref f12) = true)
    (a13 : PySem.W.findIn K (.ref C_Value) "levels" = some (some (.ref f13))) (i13 : PySem.W.isFn K (.ref f13) = true)
    (l13 : K.lookup f13 = some ⟨oc13, od13, .func (PySem.W.fnOf "levels" "Value.levels" (defArgs s_Value_levels) (defBody s_Value_levels) (defScope s_Value_levels) .none kV13 dc13 pm13 an13 cd13 ct13), sl13⟩) (c13 : PySem.W.codeIn K cd13 "Value.levels" = true) (k13 : PySem.W.keepIn K (.ref f13) = true)
    (a14 : PySem.W.findIn K (.ref C_Two) "levels" = some (some (.ref f14))) (i14 : PySem.W.isFn K (.ref f14) = true)
    (l14 : K.lookup f14 = some ⟨oc14, od14, .func (PySem.W.fnOf "levels" "Two.levels" (defArgs s_Two_levels) (defBody s_Two_levels) (defScope s_Two_levels) .none kV14 dc14 pm14 an14 cd14 ct14), sl14⟩) (c14 : PySem.W.codeIn K cd14 "Two.levels" = true) (k14 : PySem.W.keepIn K (.ref f14) = true)
    (a15 : PySem.W.findIn K (.ref C_Not) "levels" = some (some (.ref f15))) (i15 : PySem.W.isFn K (.ref f15) = true)
    (l15 : K.lookup f15 = some ⟨oc15, od15, .func (PySem.W.fnOf "levels" "Not.levels" (defArgs s_Not_levels) (defBody s_Not_levels) (defScope s_Not_levels) .none kV15 dc15 pm15 an15 cd15 ct15), sl15⟩) (c15 : PySem.W.codeIn K cd15 "Not.levels" = true) (k15 : PySem.W.keepIn K (.ref f15) = true)
    (a16 : PySem.W.findIn K (.ref C_Pick) "levels" = some (some (.ref f16))) (i16 : PySem.W.isFn K (.ref f16) = true)
    (l16 : K.lookup f16 = some ⟨oc16, od16, .func (PySem.W.fnOf "levels" "Pick.levels" (defArgs s_Pick_levels) (defBody s_Pick_levels) (defScope s_Pick_levels) .none kV16 dc16 pm16 an16 cd16 ct16), sl16⟩) (c16 : PySem.W.codeIn K cd16 "Pick.levels" = true) (k16 : PySem.W.keepIn K (.ref f16) = true)
    (a17 : PySem.W.findIn K (.ref C_Name) "names" = some (some (.ref f17))) (i17 : PySem.W.isFn K (.ref f17) = true)
    (l17 : K.lookup f17 = some ⟨oc17, od17, .func (PySem.W.fnOf "names" "Name.names" (defArgs s_Name_names) (defBody s_Name_names) (defScope s_Name_names) .none kV17 dc17 pm17 an17 cd17 ct17), sl17⟩) (c17 : PySem.W.codeIn K cd17 "Name.names" = true) (k17 : PySem.W.keepIn K (.ref f17) = true)
    (a18 : PySem.W.findIn K (.ref C_Value) "names" = some (some (.ref f18))) (i18 : PySem.W.isFn K (.ref f18) = true)
    (l18 : K.lookup f18 = some ⟨oc18, od18, .func (PySem.W.fnOf "names" "Value.names" (defArgs s_Value_names) (defBody s_Value_names) (defScope s_Value_names) .none kV18 dc18 pm18 an18 cd18 ct18), sl18⟩) (c18 : PySem.W.codeIn K cd18 "Value.names" = true) (k18 : PySem.W.keepIn K (.ref f18) = true)
    (a19 : PySem.W.findIn K (.ref C_Two) "names" = some (some (.ref f19))) (i19 : PySem.W.isFn K (.ref f19) = true)
    (l19 : K.lookup f19 = some ⟨oc19, od19, .func (PySem.W.fnOf "names" "Two.names" (defArgs s_Two_names) (defBody s_Two_names) (defScope s_Two_names) .none kV19 dc19 pm19 an19 cd19 ct19), sl19⟩) (c19 : PySem.W.codeIn K cd19 "Two.names" = true) (k19 : PySem.W.keepIn K (.ref f19) = true)
    (a20 : PySem.W.findIn K (.ref C_Not) "names" = some (some (.ref f20))) (i20 : PySem.W.isFn K (.ref f20) = true)
    (l20 : K.lookup f20 = some ⟨oc20, od20, .func (PySem.W.fnOf "names" "Not.names" (defArgs s_Not_names) (defBody s_Not_names) (defScope s_Not_names) .none kV20 dc20 pm20 an20 cd20 ct20), sl20⟩) (c20 : PySem.W.codeIn K cd20 "Not.names" = true) (k20 : PySem.W.keepIn K (.ref f20) = true)
    (a21 : PySem.W.findIn K (.ref C_Pick) "names" = some (some (.ref f21))) (i21 : PySem.W.isFn K (.ref f21) = true)
    (l21 : K.lookup f21 = some ⟨oc21, od21, .func (PySem.W.fnOf "names" "Pick.names" (defArgs s_Pick_names) (defBody s_Pick_names) (defScope s_Pick_names) .none kV21 dc21 pm21 an21 cd21 ct21), sl21⟩) (c21 : PySem.W.codeIn K cd21 "Pick.names" = true) (k21 : PySem.W.keepIn K (.ref f21) = true)
    (a22 : PySem.W.nsIn K mainGlobals "_inner" = some (some (.ref f22)))
    (l22 : K.lookup f22 = some ⟨oc22, od22, .func (PySem.W.fnOf "_inner" "_inner" (defArgs s__inner) (defBody s__inner) (defScope s__inner) .none kV22 dc22 pm22 an22 cd22 ct22), sl22⟩) (c22 : PySem.W.codeIn K cd22 "_inner" = true) (k22 : PySem.W.keepIn K (.ref f22) = true)
    (a23 : PySem.W.findIn K (.ref C_Name) "__init__" = some (some (.ref f23))) (i23 : PySem.W.isFn K (.ref f23) = true)
    (l23 : K.lookup f23 = some ⟨oc23, od23, .func (PySem.W.fnOf "__init__" "Name.__init__" (defArgs s_Name_init) (defBody s_Name_init) (defScope s_Name_init) .none kV23 dc23 pm23 an23 cd23 ct23), sl23⟩) (c23 : PySem.W.codeIn K cd23 "Name.__init__" = true) (k23 : PySem.W.keepIn K (.ref f23) = true)
    (a24 : PySem.W.findIn K (.ref C_Value) "__init__" = some (some (.ref f24))) (i24 : PySem.W.isFn K (.ref f24) = true)
    (l24 : K.lookup f24 = some ⟨oc24, od24, .func (PySem.W.fnOf "__init__" "Value.__init__" (defArgs s_Value_init) (defBody s_Value_init) (defScope s_Value_init) .none kV24 dc24 pm24 an24 cd24 ct24), sl24⟩) (c24 : PySem.W.codeIn K cd24 "Value.__init__" = true) (k24 : PySem.W.keepIn K (.ref f24) = true)
    (a25 : PySem.W.findIn K (.ref C_Two) "__init__" = some (some (.ref f25))) (i25 : PySem.W.isFn K (.ref f25) = true)
    (l25 : K.lookup f25 = some ⟨oc25, od25, .func (PySem.W.fnOf "__init__" "Two.__init__" (defArgs s_Two_init) (defBody s_Two_init) (defScope s_Two_init) .none kV25 dc25 pm25 an25 cd25 ct25), sl25⟩) (c25 : PySem.W.codeIn K cd25 "Two.__init__" = true) (k25 : PySem.W.keepIn K (.ref f25) = true)
    (a26 : PySem.W.findIn K (.ref C_Not) "__init__" = some (some (.ref f26))) (i26 : PySem.W.isFn K (.ref f26) = true)
    (l26 : K.lookup f26 = some ⟨oc26, od26, .func (PySem.W.fnOf "__init__" "Not.__init__" (defArgs s_Not_init) (defBody s_Not_init) (defScope s_Not_init) .none kV26 dc26 pm26 an26 cd26 ct26), sl26⟩) (c26 : PySem.W.codeIn K cd26 "Not.__init__" = true) (k26 : PySem.W.keepIn K (.ref f26) = true)
    (a27 : PySem.W.findIn K (.ref C_Pick) "__init__" = some (some (.ref f27))) (i27 : PySem.W.isFn K (.ref f27) = true)
    (l27 : K.lookup f27 = some ⟨oc27, od27, .func (PySem.W.fnOf "__init__" "Pick.__init__" (defArgs s_Pick_init) (defBody s_Pick_init) (defScope s_Pick_init) .none kV27 dc27 pm27 an27 cd27 ct27), sl27⟩) (c27 : PySem.W.codeIn K cd27 "Pick.__init__" = true) (k27 : PySem.W.keepIn K (.ref f27) = true)
    (a28 : PySem.W.nsIn K mainGlobals "_made_of" = some (some (.ref f28)))
    (l28 : K.lookup f28 = some ⟨oc28, od28, .func (PySem.W.fnOf "_made_of" "_made_of" (defArgs s__made_of) (defBody s__made_of) (defScope s__made_of) .none kV28 dc28 pm28 an28 cd28 ct28), sl28⟩) (c28 : PySem.W.codeIn K cd28 "_made_of" = true) (k28 : PySem.W.keepIn K (.ref f28) = true)
    (a29 : PySem.W.nsIn K mainGlobals "term_of" = some (some (.ref f29)))
    (l29 : K.lookup f29 = some ⟨oc29, od29, .func (PySem.W.fnOf "term_of" "term_of" (defArgs s_term_of) (defBody s_term_of) (defScope s_term_of) .none kV29 dc29 pm29 an29 cd29 ct29), sl29⟩) (c29 : PySem.W.codeIn K cd29 "term_of" = true) (k29 : PySem.W.keepIn K (.ref f29) = true)
    (a30 : PySem.W.nsIn K mainGlobals "_law_cell_at" = some (some (.ref f30)))
    (l30 : K.lookup f30 = some ⟨oc30, od30, .func (PySem.W.fnOf "_law_cell_at" "_law_cell_at" (defArgs s__law_cell_at) (defBody s__law_cell_at) (defScope s__law_cell_at) .none kV30 dc30 pm30 an30 cd30 ct30), sl30⟩) (c30 : PySem.W.codeIn K cd30 "_law_cell_at" = true) (k30 : PySem.W.keepIn K (.ref f30) = true)
    (a31 : PySem.W.nsIn K mainGlobals "_law_box" = some (some (.ref f31)))
    (l31 : K.lookup f31 = some ⟨oc31, od31, .func (PySem.W.fnOf "_law_box" "_law_box" (defArgs s__law_box) (defBody s__law_box) (defScope s__law_box) .none kV31 dc31 pm31 an31 cd31 ct31), sl31⟩) (c31 : PySem.W.codeIn K cd31 "_law_box" = true) (k31 : PySem.W.keepIn K (.ref f31) = true)
    (a32 : PySem.W.nsIn K mainGlobals "_law_take" = some (some (.ref f32)))
    (l32 : K.lookup f32 = some ⟨oc32, od32, .func (PySem.W.fnOf "_law_take" "_law_take" (defArgs s__law_take) (defBody s__law_take) (defScope s__law_take) .none kV32 dc32 pm32 an32 cd32 ct32), sl32⟩) (c32 : PySem.W.codeIn K cd32 "_law_take" = true) (k32 : PySem.W.keepIn K (.ref f32) = true)
    (a33 : PySem.W.nsIn K mainGlobals "_law_value" = some (some (.ref f33)))
    (l33 : K.lookup f33 = some ⟨oc33, od33, .func (PySem.W.fnOf "_law_value" "_law_value" (defArgs s__law_value) (defBody s__law_value) (defScope s__law_value) .none kV33 dc33 pm33 an33 cd33 ct33), sl33⟩) (c33 : PySem.W.codeIn K cd33 "_law_value" = true) (k33 : PySem.W.keepIn K (.ref f33) = true)
    (a34 : PySem.W.nsIn K mainGlobals "_law_told" = some (some (.ref f34)))
    (l34 : K.lookup f34 = some ⟨oc34, od34, .func (PySem.W.fnOf "_law_told" "_law_told" (defArgs s__law_told) (defBody s__law_told) (defScope s__law_told) .none kV34 dc34 pm34 an34 cd34 ct34), sl34⟩) (c34 : PySem.W.codeIn K cd34 "_law_told" = true) (k34 : PySem.W.keepIn K (.ref f34) = true)
    (a35 : PySem.W.nsIn K mainGlobals "_law_made" = some (some (.ref f35)))
    (l35 : K.lookup f35 = some ⟨oc35, od35, .func (PySem.W.fnOf "_law_made" "_law_made" (defArgs s__law_made) (defBody s__law_made) (defScope s__law_made) .none kV35 dc35 pm35 an35 cd35 ct35), sl35⟩) (c35 : PySem.W.codeIn K cd35 "_law_made" = true) (k35 : PySem.W.keepIn K (.ref f35) = true)
    (a36 : PySem.W.nsIn K mainGlobals "_law_names" = some (some (.ref f36)))
    (l36 : K.lookup f36 = some ⟨oc36, od36, .func (PySem.W.fnOf "_law_names" "_law_names" (defArgs s__law_names) (defBody s__law_names) (defScope s__law_names) .none kV36 dc36 pm36 an36 cd36 ct36), sl36⟩) (c36 : PySem.W.codeIn K cd36 "_law_names" = true) (k36 : PySem.W.keepIn K (.ref f36) = true)
    (a37 : PySem.W.nsIn K mainGlobals "_law_levels" = some (some (.ref f37)))
    (l37 : K.lookup f37 = some ⟨oc37, od37, .func (PySem.W.fnOf "_law_levels" "_law_levels" (defArgs s__law_levels) (defBody s__law_levels) (defScope s__law_levels) .none kV37 dc37 pm37 an37 cd37 ct37), sl37⟩) (c37 : PySem.W.codeIn K cd37 "_law_levels" = true) (k37 : PySem.W.keepIn K (.ref f37) = true)
    (a38 : PySem.W.nsIn K mainGlobals "_law_right" = some (some (.ref f38)))
    (l38 : K.lookup f38 = some ⟨oc38, od38, .func (PySem.W.fnOf "_law_right" "_law_right" (defArgs s__law_right) (defBody s__law_right) (defScope s__law_right) .none kV38 dc38 pm38 an38 cd38 ct38), sl38⟩) (c38 : PySem.W.codeIn K cd38 "_law_right" = true) (k38 : PySem.W.keepIn K (.ref f38) = true)
    (a39 : PySem.W.nsIn K mainGlobals "law" = some (some (.ref f39)))
    (l39 : K.lookup f39 = some ⟨oc39, od39, .func (PySem.W.fnOf "law" "law" (defArgs s_law) (defBody s_law) (defScope s_law) .none kV39 dc39 pm39 an39 cd39 ct39), sl39⟩) (c39 : PySem.W.codeIn K cd39 "law" = true) (k39 : PySem.W.keepIn K (.ref f39) = true)
    (z_isinstance : PySem.W.nsIn K mainGlobals "isinstance" = some none)
    (z_bool : PySem.W.nsIn K mainGlobals "bool" = some none)
    (z_int : PySem.W.nsIn K mainGlobals "int" = some none)
    (z_len : PySem.W.nsIn K mainGlobals "len" = some none)
    (z_str : PySem.W.nsIn K mainGlobals "str" = some none)
    (z_all : PySem.W.nsIn K mainGlobals "all" = some none)
    (z_list : PySem.W.nsIn K mainGlobals "list" = some none)
    (z_max : PySem.W.nsIn K mainGlobals "max" = some none)
    (z_tuple : PySem.W.nsIn K mainGlobals "tuple" = some none)
    (z_range : PySem.W.nsIn K mainGlobals "range" = some none)
    (z_repr : PySem.W.nsIn K mainGlobals "repr" = some none)
    (z_min : PySem.W.nsIn K mainGlobals "min" = some none)
    {tk__NAME_SIGNS : Tok} (g__NAME_SIGNS : PySem.W.nsIn K mainGlobals "_NAME_SIGNS" = some (some (.int 8 tk__NAME_SIGNS)))
    {tk__LETTERS : Tok} (g__LETTERS : PySem.W.nsIn K mainGlobals "_LETTERS" = some (some (.str "abcdefghijklmnopqrstuvwxyz" tk__LETTERS)))
    {ka__OWN_WORDS : Addr} {ko__OWN_WORDS : Obj} {kn__OWN_WORDS : Nat} {kt0__OWN_WORDS kt1__OWN_WORDS kt2__OWN_WORDS kt3__OWN_WORDS kt4__OWN_WORDS kt5__OWN_WORDS kt6__OWN_WORDS kt7__OWN_WORDS kt8__OWN_WORDS kt9__OWN_WORDS kt10__OWN_WORDS kt11__OWN_WORDS kt12__OWN_WORDS kt13__OWN_WORDS : Tok} (g__OWN_WORDS : PySem.W.nsIn K mainGlobals "_OWN_WORDS" = some (some (.ref ka__OWN_WORDS)))
    (gl__OWN_WORDS : K.lookup ka__OWN_WORDS = some ko__OWN_WORDS) (gc__OWN_WORDS : ko__OWN_WORDS.cls = .type "tuple") (gd__OWN_WORDS : ko__OWN_WORDS.data = .seq #[.str "node" kt0__OWN_WORDS, .str "in" kt1__OWN_WORDS, .str "out" kt2__OWN_WORDS, .str "before" kt3__OWN_WORDS, .str "when" kt4__OWN_WORDS, .str "hold" kt5__OWN_WORDS, .str "like" kt6__OWN_WORDS, .str "same" kt7__OWN_WORDS, .str "call" kt8__OWN_WORDS, .str "true" kt9__OWN_WORDS, .str "false" kt10__OWN_WORDS, .str "mod" kt11__OWN_WORDS, .str "beat" kt12__OWN_WORDS, .str "desk" kt13__OWN_WORDS] kn__OWN_WORDS)
    {tk__POINTED_SIGNS : Tok} (g__POINTED_SIGNS : PySem.W.nsIn K mainGlobals "_POINTED_SIGNS" = some (some (.int 80 tk__POINTED_SIGNS)))
    {tk__GREATEST : Tok} (g__GREATEST : PySem.W.nsIn K mainGlobals "_GREATEST" = some (some (.int 1000000000 tk__GREATEST)))
    {ka__OPS : Addr} {ko__OPS : Obj} {kn__OPS : Nat} {kt0__OPS kt1__OPS kt2__OPS kt3__OPS kt4__OPS kt5__OPS kt6__OPS kt7__OPS kt8__OPS : Tok} (g__OPS : PySem.W.nsIn K mainGlobals "_OPS" = some (some (.ref ka__OPS)))
    (gl__OPS : K.lookup ka__OPS = some ko__OPS) (gc__OPS : ko__OPS.cls = .type "tuple") (gd__OPS : ko__OPS.data = .seq #[.str "+" kt0__OPS, .str "-" kt1__OPS, .str "*" kt2__OPS, .str "/" kt3__OPS, .str "mod" kt4__OPS, .str "<" kt5__OPS, .str "=" kt6__OPS, .str "&" kt7__OPS, .str "|" kt8__OPS] kn__OPS)
    {tk_LEVELS : Tok} (g_LEVELS : PySem.W.nsIn K mainGlobals "LEVELS" = some (some (.int 5 tk_LEVELS)))
    (pg_Name : PySem.W.plainGet K C_Name Str.empty = true) (hd_Name : PySem.W.hasDictIn K C_Name = true) (po_Name : PySem.W.plainOver K C_Name = true) (sa_Name : PySem.W.findIn K (.ref C_Name) "__setattr__" = some (some (.builtin "object.__setattr__")))
    (mk_Name : PySem.W.makesIn K C_Name = true) (kc_Name : PySem.W.keepIn K (.ref C_Name) = true) (cc_Name : PySem.W.findIn K (.ref C_Name) "__class__" = some (some (.builtin "object.__class__"))) (cm_Name : PySem.W.mroIn K C_Name (.type "object") = some true)
    (no_Name_name : PySem.W.findIn K (.ref C_Name) "_name" = some none)
    (pg_Value : PySem.W.plainGet K C_Value Str.empty = true) (hd_Value : PySem.W.hasDictIn K C_Value = true) (po_Value : PySem.W.plainOver K C_Value = true) (sa_Value : PySem.W.findIn K (.ref C_Value) "__setattr__" = some (some (.builtin "object.__setattr__")))
    (mk_Value : PySem.W.makesIn K C_Value = true) (kc_Value : PySem.W.keepIn K (.ref C_Value) = true) (cc_Value : PySem.W.findIn K (.ref C_Value) "__class__" = some (some (.builtin "object.__class__"))) (cm_Value : PySem.W.mroIn K C_Value (.type "object") = some true)
    (no_Value_value : PySem.W.findIn K (.ref C_Value) "_value" = some none)
    (pg_Two : PySem.W.plainGet K C_Two Str.empty = true) (hd_Two : PySem.W.hasDictIn K C_Two = true) (po_Two : PySem.W.plainOver K C_Two = true) (sa_Two : PySem.W.findIn K (.ref C_Two) "__setattr__" = some (some (.builtin "object.__setattr__")))
    (mk_Two : PySem.W.makesIn K C_Two = true) (kc_Two : PySem.W.keepIn K (.ref C_Two) = true) (cc_Two : PySem.W.findIn K (.ref C_Two) "__class__" = some (some (.builtin "object.__class__"))) (cm_Two : PySem.W.mroIn K C_Two (.type "object") = some true)
    (no_Two_op : PySem.W.findIn K (.ref C_Two) "_op" = some none)
    (no_Two_one : PySem.W.findIn K (.ref C_Two) "_one" = some none)
    (no_Two_other : PySem.W.findIn K (.ref C_Two) "_other" = some none)
    (pg_Not : PySem.W.plainGet K C_Not Str.empty = true) (hd_Not : PySem.W.hasDictIn K C_Not = true) (po_Not : PySem.W.plainOver K C_Not = true) (sa_Not : PySem.W.findIn K (.ref C_Not) "__setattr__" = some (some (.builtin "object.__setattr__")))
    (mk_Not : PySem.W.makesIn K C_Not = true) (kc_Not : PySem.W.keepIn K (.ref C_Not) = true) (cc_Not : PySem.W.findIn K (.ref C_Not) "__class__" = some (some (.builtin "object.__class__"))) (cm_Not : PySem.W.mroIn K C_Not (.type "object") = some true)
    (no_Not_one : PySem.W.findIn K (.ref C_Not) "_one" = some none)
    (pg_Pick : PySem.W.plainGet K C_Pick Str.empty = true) (hd_Pick : PySem.W.hasDictIn K C_Pick = true) (po_Pick : PySem.W.plainOver K C_Pick = true) (sa_Pick : PySem.W.findIn K (.ref C_Pick) "__setattr__" = some (some (.builtin "object.__setattr__")))
    (mk_Pick : PySem.W.makesIn K C_Pick = true) (kc_Pick : PySem.W.keepIn K (.ref C_Pick) = true) (cc_Pick : PySem.W.findIn K (.ref C_Pick) "__class__" = some (some (.builtin "object.__class__"))) (cm_Pick : PySem.W.mroIn K C_Pick (.type "object") = some true)
    (no_Pick_by : PySem.W.findIn K (.ref C_Pick) "_by" = some none)
    (no_Pick_one : PySem.W.findIn K (.ref C_Pick) "_one" = some none)
    (no_Pick_other : PySem.W.findIn K (.ref C_Pick) "_other" = some none)
    (cg : PySem.W.specialIn K (.builtin "object.__class__") "__get__" = some (some (.builtin "getset_descriptor.__get__"))) (ct : PySem.W.takesIn K (.builtin "object.__class__") = some true)
    (ty_Name : PySem.W.typeIn K (.ref C_Name) = some (.type "type"))
    (ty_Value : PySem.W.typeIn K (.ref C_Value) = some (.type "type"))
    (ty_Two : PySem.W.typeIn K (.ref C_Two) = some (.type "type"))
    (ty_Not : PySem.W.typeIn K (.ref C_Not) = some (.type "type"))
    (ty_Pick : PySem.W.typeIn K (.ref C_Pick) = some (.type "type"))
    (ty_Term : PySem.W.typeIn K (.ref C_Term) = some (.type "type"))
    (cm_Term : PySem.W.mroIn K C_Term (.type "object") = some true)
    (su_Name_Value : PySem.W.subIn K (.ref C_Name) (.ref C_Value) = some false)
    (su_Name_Two : PySem.W.subIn K (.ref C_Name) (.ref C_Two) = some false)
    (su_Name_Not : PySem.W.subIn K (.ref C_Name) (.ref C_Not) = some false)
    (su_Name_Pick : PySem.W.subIn K (.ref C_Name) (.ref C_Pick) = some false)
    (su_Value_Name : PySem.W.subIn K (.ref C_Value) (.ref C_Name) = some false)
    (su_Value_Two : PySem.W.subIn K (.ref C_Value) (.ref C_Two) = some false)
    (su_Value_Not : PySem.W.subIn K (.ref C_Value) (.ref C_Not) = some false)
    (su_Value_Pick : PySem.W.subIn K (.ref C_Value) (.ref C_Pick) = some false)
    (su_Two_Name : PySem.W.subIn K (.ref C_Two) (.ref C_Name) = some false)
    (su_Two_Value : PySem.W.subIn K (.ref C_Two) (.ref C_Value) = some false)
    (su_Two_Not : PySem.W.subIn K (.ref C_Two) (.ref C_Not) = some false)
    (su_Two_Pick : PySem.W.subIn K (.ref C_Two) (.ref C_Pick) = some false)
    (su_Not_Name : PySem.W.subIn K (.ref C_Not) (.ref C_Name) = some false)
    (su_Not_Value : PySem.W.subIn K (.ref C_Not) (.ref C_Value) = some false)
    (su_Not_Two : PySem.W.subIn K (.ref C_Not) (.ref C_Two) = some false)
    (su_Not_Pick : PySem.W.subIn K (.ref C_Not) (.ref C_Pick) = some false)
    (su_Pick_Name : PySem.W.subIn K (.ref C_Pick) (.ref C_Name) = some false)
    (su_Pick_Value : PySem.W.subIn K (.ref C_Pick) (.ref C_Value) = some false)
    (su_Pick_Two : PySem.W.subIn K (.ref C_Pick) (.ref C_Two) = some false)
    (su_Pick_Not : PySem.W.subIn K (.ref C_Pick) (.ref C_Not) = some false)
    (st_Name : PySem.W.subIn K (.ref C_Name) (.ref C_Term) = some true)
    (st_Value : PySem.W.subIn K (.ref C_Value) (.ref C_Term) = some true)
    (st_Two : PySem.W.subIn K (.ref C_Two) (.ref C_Term) = some true)
    (st_Not : PySem.W.subIn K (.ref C_Not) (.ref C_Term) = some true)
    (st_Pick : PySem.W.subIn K (.ref C_Pick) (.ref C_Term) = some true)
    : ∃ fd : FuncData, (∀ (s : Shared) (v : Value), BindsTo s fd ⟨[v], []⟩ [("script", v)]) ∧ ∀ base : Heap, K.In base → base.Ns mainGlobals mg → FnG l.prog w K mg base 15 fa fd ["script"] (sp0 K W_law) := by
  have e := hfa.symm.trans (PySem.W.mg_of X G a39)
  cases e
  let c : TC := ⟨C_Name, C_Value, C_Two, C_Not, C_Pick, C_Term⟩
  have F0 := L2.fun_mk (st := s_is_whole) l0 c0 k0
  have b0 := F0.binds (ps := ["thing"]) fun _ _ _ _ _ _ us hl => match us, hl with | [_], _ => rfl
  have F1 := L2.fun_mk (st := s_is_within) l1 c1 k1
  have b1 := F1.binds (ps := ["thing", "low", "high"]) fun _ _ _ _ _ _ us hl => match us, hl with | [_, _, _], _ => rfl
  have F2 := L2.fun_mk (st := s_is_name) l2 c2 k2
  have b2 := F2.binds (ps := ["thing"]) fun _ _ _ _ _ _ us hl => match us, hl with | [_], _ => rfl
  have F3 := L2.fun_mk (st := s_is_pointed) l3 c3 k3
  have b3 := F3.binds (ps := ["thing"]) fun _ _ _ _ _ _ us hl => match us, hl with | [_], _ => rfl
  have F4 := L2.fun_mk (st := s_is_value) l4 c4 k4
  have b4 := F4.binds (ps := ["thing"]) fun _ _ _ _ _ _ us hl => match us, hl with | [_], _ => rfl
  have F5 := L2.fun_mk (st := s_each_once) l5 c5 k5
  have b5 := F5.binds (ps := ["names"]) fun _ _ _ _ _ _ us hl => match us, hl with | [_], _ => rfl
  have F6 := L2.fun_mk (st := s_ops_told) l6 c6 k6
  have b6 := F6.binds (ps := []) fun _ _ _ _ _ _ us hl => match us, hl with | [], _ => rfl
  have F7 := L2.fun_mk (st := s_Name_told) l7 c7 k7
  have b7 := F7.binds (ps := ["self"]) fun _ _ _ _ _ _ us hl => match us, hl with | [_], _ => rfl
  have F8 := L2.fun_mk (st := s_Value_told) l8 c8 k8
  have b8 := F8.binds (ps := ["self"]) fun _ _ _ _ _ _ us hl => match us, hl with | [_], _ => rfl
  have F9 := L2.fun_mk (st := s_Two_told) l9 c9 k9
  have b9 := F9.binds (ps := ["self"]) fun _ _ _ _ _ _ us hl => match us, hl with | [_], _ => rfl
  have F10 := L2.fun_mk (st := s_Not_told) l10 c10 k10
  have b10 := F10.binds (ps := ["self"]) fun _ _ _ _ _ _ us hl => match us, hl with | [_], _ => rfl
  have F11 := L2.fun_mk (st := s_Pick_told) l11 c11 k11
  have b11 := F11.binds (ps := ["self"]) fun _ _ _ _ _ _ us hl => match us, hl with | [_], _ => rfl
  have F12 := L2.fun_mk (st := s_Name_levels) l12 c12 k12
  have b12 := F12.binds (ps := ["self"]) fun _ _ _ _ _ _ us hl => match us, hl with | [_], _ => rfl
  have F13 := L2.fun_mk (st := s_Value_levels) l13 c13 k13
  have b13 := F13.binds (ps := ["self"]) fun _ _ _ _ _ _ us hl => match us, hl with | [_], _ => rfl
  have F14 := L2.fun_mk (st := s_Two_levels) l14 c14 k14
  have b14 := F14.binds (ps := ["self"]) fun _ _ _ _ _ _ us hl => match us, hl with | [_], _ => rfl
  have F15 := L2.fun_mk (st := s_Not_levels) l15 c15 k15
  have b15 := F15.binds (ps := ["self"]) fun _ _ _ _ _ _ us hl => match us, hl with | [_], _ => rfl
  have F16 := L2.fun_mk (st := s_Pick_levels) l16 c16 k16
  have b16 := F16.binds (ps := ["self"]) fun _ _ _ _ _ _ us hl => match us, hl with | [_], _ => rfl
  have F17 := L2.fun_mk (st := s_Name_names) l17 c17 k17
  have b17 := F17.binds (ps := ["self"]) fun _ _ _ _ _ _ us hl => match us, hl with | [_], _ => rfl
  have F18 := L2.fun_mk (st := s_Value_names) l18 c18 k18
  have b18 := F18.binds (ps := ["self"]) fun _ _ _ _ _ _ us hl => match us, hl with | [_], _ => rfl
  have F19 := L2.fun_mk (st := s_Two_names) l19 c19 k19
  have b19 := F19.binds (ps := ["self"]) fun _ _ _ _ _ _ us hl => match us, hl with | [_], _ => rfl
  have F20 := L2.fun_mk (st := s_Not_names) l20 c20 k20
  have b20 := F20.binds (ps := ["self"]) fun _ _ _ _ _ _ us hl => match us, hl with | [_], _ => rfl
  have F21 := L2.fun_mk (st := s_Pick_names) l21 c21 k21
  have b21 := F21.binds (ps := ["self"]) fun _ _ _ _ _ _ us hl => match us, hl with | [_], _ => rfl
  have F22 := L2.fun_mk (st := s__inner) l22 c22 k22
  have b22 := F22.binds (ps := ["thing"]) fun _ _ _ _ _ _ us hl => match us, hl with | [_], _ => rfl
  have F23 := L2.fun_mk (st := s_Name_init) l23 c23 k23
  have b23 := F23.binds (ps := ["self", "name"]) fun _ _ _ _ _ _ us hl => match us, hl with | [_, _], _ => rfl
  have F24 := L2.fun_mk (st := s_Value_init) l24 c24 k24
  have b24 := F24.binds (ps := ["self", "value"]) fun _ _ _ _ _ _ us hl => match us, hl with | [_, _], _ => rfl
  have F25 := L2.fun_mk (st := s_Two_init) l25 c25 k25
  have b25 := F25.binds (ps := ["self", "op", "one", "other"]) fun _ _ _ _ _ _ us hl => match us, hl with | [_, _, _, _], _ => rfl
  have F26 := L2.fun_mk (st := s_Not_init) l26 c26 k26
  have b26 := F26.binds (ps := ["self", "one"]) fun _ _ _ _ _ _ us hl => match us, hl with | [_, _], _ => rfl
  have F27 := L2.fun_mk (st := s_Pick_init) l27 c27 k27
  have b27 := F27.binds (ps := ["self", "by", "one", "other"]) fun _ _ _ _ _ _ us hl => match us, hl with | [_, _, _, _], _ => rfl
  have F28 := L2.fun_mk (st := s__made_of) l28 c28 k28
  have b28 := F28.binds (ps := ["told"]) fun _ _ _ _ _ _ us hl => match us, hl with | [_], _ => rfl
  have F29 := L2.fun_mk (st := s_term_of) l29 c29 k29
  have b29 := F29.binds (ps := ["told"]) fun _ _ _ _ _ _ us hl => match us, hl with | [_], _ => rfl
  have F30 := L2.fun_mk (st := s__law_cell_at) l30 c30 k30
  have b30 := F30.binds (ps := ["script", "k"]) fun _ _ _ _ _ _ us hl => match us, hl with | [_, _], _ => rfl
  have F31 := L2.fun_mk (st := s__law_box) l31 c31 k31
  have b31 := F31.binds (ps := ["cell"]) fun _ _ _ _ _ _ us hl => match us, hl with | [_], _ => rfl
  have F32 := L2.fun_mk (st := s__law_take) l32 c32 k32
  have b32 := F32.binds (ps := ["box", "many"]) fun _ _ _ _ _ _ us hl => match us, hl with | [_, _], _ => rfl
  have F33 := L2.fun_mk (st := s__law_value) l33 c33 k33
  have b33 := F33.binds (ps := ["box"]) fun _ _ _ _ _ _ us hl => match us, hl with | [_], _ => rfl
  have F34 := L2.fun_mk (st := s__law_told) l34 c34 k34
  have b34 := F34.binds (ps := ["box", "left", "names"]) fun _ _ _ _ _ _ us hl => match us, hl with | [_, _, _], _ => rfl
  have F35 := L2.fun_mk (st := s__law_made) l35 c35 k35
  have b35 := F35.binds (ps := ["told"]) fun _ _ _ _ _ _ us hl => match us, hl with | [_], _ => rfl
  have F36 := L2.fun_mk (st := s__law_names) l36 c36 k36
  have b36 := F36.binds (ps := ["told"]) fun _ _ _ _ _ _ us hl => match us, hl with | [_], _ => rfl
  have F37 := L2.fun_mk (st := s__law_levels) l37 c37 k37
  have b37 := F37.binds (ps := ["told"]) fun _ _ _ _ _ _ us hl => match us, hl with | [_], _ => rfl
  have F38 := L2.fun_mk (st := s__law_right) l38 c38 k38
  have b38 := F38.binds (ps := ["term", "told"]) fun _ _ _ _ _ _ us hl => match us, hl with | [_, _], _ => rfl
  have F39 := L2.fun_mk (st := s_law) l39 c39 k39
  have m_isinstance := PySem.W.mg_none_of X G z_isinstance
  have m_bool := PySem.W.mg_none_of X G z_bool
  have m_int := PySem.W.mg_none_of X G z_int
  have m_len := PySem.W.mg_none_of X G z_len
  have m_str := PySem.W.mg_none_of X G z_str
  have m_all := PySem.W.mg_none_of X G z_all
  have m_list := PySem.W.mg_none_of X G z_list
  have m_max := PySem.W.mg_none_of X G z_max
  have m_tuple := PySem.W.mg_none_of X G z_tuple
  have m_range := PySem.W.mg_none_of X G z_range
  have m_repr := PySem.W.mg_none_of X G z_repr
  have m_min := PySem.W.mg_none_of X G z_min
  have g_Pick : mg "Pick" = some (.ref c.pk) := PySem.W.mg_of X G aC_Pick
  have g_Not : mg "Not" = some (.ref c.nt) := PySem.W.mg_of X G aC_Not
  have g_Two : mg "Two" = some (.ref c.tw) := PySem.W.mg_of X G aC_Two
  have g_Value : mg "Value" = some (.ref c.vl) := PySem.W.mg_of X G aC_Value
  have g_Name : mg "Name" = some (.ref c.nm) := PySem.W.mg_of X G aC_Name
  have g_Term : mg "Term" = some (.ref c.tm) := PySem.W.mg_of X G aC_Term
  have o_Name : OC K c.nm ["_name"] := ⟨⟨pg_Name, hd_Name, po_Name, sa_Name⟩, fun f hf => by
    simp only [List.mem_cons, List.not_mem_nil, or_false] at hf
    rcases hf with rfl
    · exact no_Name_name, cc_Name, cg, ct, cm_Name⟩
  have o_Value : OC K c.vl ["_value"] := ⟨⟨pg_Value, hd_Value, po_Value, sa_Value⟩, fun f hf => by
    simp only [List.mem_cons, List.not_mem_nil, or_false] at hf
    rcases hf with rfl
    · exact no_Value_value, cc_Value, cg, ct, cm_Value⟩
  have o_Two : OC K c.tw ["_op", "_one", "_other"] := ⟨⟨pg_Two, hd_Two, po_Two, sa_Two⟩, fun f hf => by
    simp only [List.mem_cons, List.not_mem_nil, or_false] at hf
    rcases hf with rfl | rfl | rfl
    · exact no_Two_op
    · exact no_Two_one
    · exact no_Two_other, cc_Two, cg, ct, cm_Two⟩
  have o_Not : OC K c.nt ["_one"] := ⟨⟨pg_Not, hd_Not, po_Not, sa_Not⟩, fun f hf => by
    simp only [List.mem_cons, List.not_mem_nil, or_false] at hf
    rcases hf with rfl
    · exact no_Not_one, cc_Not, cg, ct, cm_Not⟩
  have o_Pick : OC K c.pk ["_by", "_one", "_other"] := ⟨⟨pg_Pick, hd_Pick, po_Pick, sa_Pick⟩, fun f hf => by
    simp only [List.mem_cons, List.not_mem_nil, or_false] at hf
    rcases hf with rfl | rfl | rfl
    · exact no_Pick_by
    · exact no_Pick_one
    · exact no_Pick_other, cc_Pick, cg, ct, cm_Pick⟩
  have any_Name : PySem.W.kitAny K (.ref C_Name) [.ref C_Name, .ref C_Value, .ref C_Two, .ref C_Not, .ref C_Pick] = some true := any_own [C_Name, C_Value, C_Two, C_Not, C_Pick] (by simp) fun y hy => by
    simp only [List.mem_cons, List.not_mem_nil, or_false] at hy
    rcases hy with rfl | rfl | rfl | rfl | rfl
    · exact .inl rfl
    · exact .inr ⟨_, kit_sub cm_Value ty_Value su_Name_Value⟩
    · exact .inr ⟨_, kit_sub cm_Two ty_Two su_Name_Two⟩
    · exact .inr ⟨_, kit_sub cm_Not ty_Not su_Name_Not⟩
    · exact .inr ⟨_, kit_sub cm_Pick ty_Pick su_Name_Pick⟩
  have any_Value : PySem.W.kitAny K (.ref C_Value) [.ref C_Name, .ref C_Value, .ref C_Two, .ref C_Not, .ref C_Pick] = some true := any_own [C_Name, C_Value, C_Two, C_Not, C_Pick] (by simp) fun y hy => by
    simp only [List.mem_cons, List.not_mem_nil, or_false] at hy
    rcases hy with rfl | rfl | rfl | rfl | rfl
    · exact .inr ⟨_, kit_sub cm_Name ty_Name su_Value_Name⟩
    · exact .inl rfl
    · exact .inr ⟨_, kit_sub cm_Two ty_Two su_Value_Two⟩
    · exact .inr ⟨_, kit_sub cm_Not ty_Not su_Value_Not⟩
    · exact .inr ⟨_, kit_sub cm_Pick ty_Pick su_Value_Pick⟩
  have any_Two : PySem.W.kitAny K (.ref C_Two) [.ref C_Name, .ref C_Value, .ref C_Two, .ref C_Not, .ref C_Pick] = some true := any_own [C_Name, C_Value, C_Two, C_Not, C_Pick] (by simp) fun y hy => by
    simp only [List.mem_cons, List.not_mem_nil, or_false] at hy
    rcases hy with rfl | rfl | rfl | rfl | rfl
    · exact .inr ⟨_, kit_sub cm_Name ty_Name su_Two_Name⟩
    · exact .inr ⟨_, kit_sub cm_Value ty_Value su_Two_Value⟩
    · exact .inl rfl
    · exact .inr ⟨_, kit_sub cm_Not ty_Not su_Two_Not⟩
    · exact .inr ⟨_, kit_sub cm_Pick ty_Pick su_Two_Pick⟩
  have any_Not : PySem.W.kitAny K (.ref C_Not) [.ref C_Name, .ref C_Value, .ref C_Two, .ref C_Not, .ref C_Pick] = some true := any_own [C_Name, C_Value, C_Two, C_Not, C_Pick] (by simp) fun y hy => by
    simp only [List.mem_cons, List.not_mem_nil, or_false] at hy
    rcases hy with rfl | rfl | rfl | rfl | rfl
    · exact .inr ⟨_, kit_sub cm_Name ty_Name su_Not_Name⟩
    · exact .inr ⟨_, kit_sub cm_Value ty_Value su_Not_Value⟩
    · exact .inr ⟨_, kit_sub cm_Two ty_Two su_Not_Two⟩
    · exact .inl rfl
    · exact .inr ⟨_, kit_sub cm_Pick ty_Pick su_Not_Pick⟩
  have any_Pick : PySem.W.kitAny K (.ref C_Pick) [.ref C_Name, .ref C_Value, .ref C_Two, .ref C_Not, .ref C_Pick] = some true := any_own [C_Name, C_Value, C_Two, C_Not, C_Pick] (by simp) fun y hy => by
    simp only [List.mem_cons, List.not_mem_nil, or_false] at hy
    rcases hy with rfl | rfl | rfl | rfl | rfl
    · exact .inr ⟨_, kit_sub cm_Name ty_Name su_Pick_Name⟩
    · exact .inr ⟨_, kit_sub cm_Value ty_Value su_Pick_Value⟩
    · exact .inr ⟨_, kit_sub cm_Two ty_Two su_Pick_Two⟩
    · exact .inr ⟨_, kit_sub cm_Not ty_Not su_Pick_Not⟩
    · exact .inl rfl
  have sub_Name := one_own cm_Term ty_Term st_Name
  have sub_Value := one_own cm_Term ty_Term st_Value
  have sub_Two := one_own cm_Term ty_Term st_Two
  have sub_Not := one_own cm_Term ty_Term st_Not
  have sub_Pick := one_own cm_Term ty_Term st_Pick
  have T : Txt K mg c := ⟨o_Name, o_Value, o_Two, o_Not, o_Pick, mk_any any_Name any_Value any_Two any_Not any_Pick, mk_sub sub_Name sub_Value sub_Two sub_Not sub_Pick⟩
  have k__NAME_SIGNS : Kon K mg "_NAME_SIGNS" (.int 8) := ⟨_, .int 8, PySem.W.mg_of X G g__NAME_SIGNS, ⟨_, rfl⟩, fun _ => .int _⟩
  have k__LETTERS : Kon K mg "_LETTERS" (.str "abcdefghijklmnopqrstuvwxyz") := ⟨_, .str "abcdefghijklmnopqrstuvwxyz", PySem.W.mg_of X G g__LETTERS, ⟨_, rfl⟩, fun _ => .str _⟩
  have k__OWN_WORDS : Kon K mg "_OWN_WORDS" (.tup [(.str "node"), (.str "in"), (.str "out"), (.str "before"), (.str "when"), (.str "hold"), (.str "like"), (.str "same"), (.str "call"), (.str "true"), (.str "false"), (.str "mod"), (.str "beat"), (.str "desk")]) := ⟨_, .ref ka__OWN_WORDS, PySem.W.mg_of X G g__OWN_WORDS, rfl, fun G => .tup (xs := [.str "node", .str "in", .str "out", .str "before", .str "when", .str "hold", .str "like", .str "same", .str "call", .str "true", .str "false", .str "mod", .str "beat", .str "desk"]) (.inr ⟨_, _, _, gl__OWN_WORDS, gc__OWN_WORDS, gd__OWN_WORDS, by show 14 ≤ sizeLine; decide, .cons ⟨_, rfl⟩ (.cons ⟨_, rfl⟩ (.cons ⟨_, rfl⟩ (.cons ⟨_, rfl⟩ (.cons ⟨_, rfl⟩ (.cons ⟨_, rfl⟩ (.cons ⟨_, rfl⟩ (.cons ⟨_, rfl⟩ (.cons ⟨_, rfl⟩ (.cons ⟨_, rfl⟩ (.cons ⟨_, rfl⟩ (.cons ⟨_, rfl⟩ (.cons ⟨_, rfl⟩ (.cons ⟨_, rfl⟩ (.nil))))))))))))))⟩) (.cons (.str _) (.cons (.str _) (.cons (.str _) (.cons (.str _) (.cons (.str _) (.cons (.str _) (.cons (.str _) (.cons (.str _) (.cons (.str _) (.cons (.str _) (.cons (.str _) (.cons (.str _) (.cons (.str _) (.cons (.str _) (.nil)))))))))))))))⟩
  have k__POINTED_SIGNS : Kon K mg "_POINTED_SIGNS" (.int 80) := ⟨_, .int 80, PySem.W.mg_of X G g__POINTED_SIGNS, ⟨_, rfl⟩, fun _ => .int _⟩
  have k__GREATEST : Kon K mg "_GREATEST" (.int 1000000000) := ⟨_, .int 1000000000, PySem.W.mg_of X G g__GREATEST, ⟨_, rfl⟩, fun _ => .int _⟩
  have k__OPS : Kon K mg "_OPS" (.tup [(.str "+"), (.str "-"), (.str "*"), (.str "/"), (.str "mod"), (.str "<"), (.str "="), (.str "&"), (.str "|")]) := ⟨_, .ref ka__OPS, PySem.W.mg_of X G g__OPS, rfl, fun G => .tup (xs := [.str "+", .str "-", .str "*", .str "/", .str "mod", .str "<", .str "=", .str "&", .str "|"]) (.inr ⟨_, _, _, gl__OPS, gc__OPS, gd__OPS, by show 9 ≤ sizeLine; decide, .cons ⟨_, rfl⟩ (.cons ⟨_, rfl⟩ (.cons ⟨_, rfl⟩ (.cons ⟨_, rfl⟩ (.cons ⟨_, rfl⟩ (.cons ⟨_, rfl⟩ (.cons ⟨_, rfl⟩ (.cons ⟨_, rfl⟩ (.cons ⟨_, rfl⟩ (.nil)))))))))⟩) (.cons (.str _) (.cons (.str _) (.cons (.str _) (.cons (.str _) (.cons (.str _) (.cons (.str _) (.cons (.str _) (.cons (.str _) (.cons (.str _) (.nil))))))))))⟩
  have k_LEVELS : Kon K mg "LEVELS" (.int 5) := ⟨_, .int 5, PySem.W.mg_of X G g_LEVELS, ⟨_, rfl⟩, fun _ => .int _⟩
  refine ⟨PySem.W.fnOf "law" "law" (defArgs s_law) (defBody s_law) (defScope s_law) .none kV39 dc39 pm39 an39 cd39 ct39, fun s v => .of_eq rfl, fun base _ _ => ?_⟩
  have c_is_whole : Callee l.prog w K mg base 1 "is_whole" (sp0 K W_is_whole) := ⟨f0, _, _, ok_is_whole F0 T m_isinstance m_bool m_int, PySem.W.mg_of X G a0, k0, b0⟩
  have c_is_within : Callee l.prog w K mg base 2 "is_within" (sp0 K W_is_within) := ⟨f1, _, _, ok_is_within F1 T c_is_whole, PySem.W.mg_of X G a1, k1, b1⟩
  have c_is_name : Callee l.prog w K mg base 1 "is_name" (sp0 K W_is_name) := ⟨f2, _, _, ok_is_name F2 T m_len m_isinstance m_str m_all k__NAME_SIGNS k__LETTERS k__OWN_WORDS, PySem.W.mg_of X G a2, k2, b2⟩
  have c_is_pointed : Callee l.prog w K mg base 2 "is_pointed" (sp0 K W_is_pointed) := ⟨f3, _, _, ok_is_pointed F3 T c_is_name m_len m_isinstance m_str m_all k__POINTED_SIGNS, PySem.W.mg_of X G a3, k3, b3⟩
  have c_is_value : Callee l.prog w K mg base 3 "is_value" (sp0 K W_is_value) := ⟨f4, _, _, ok_is_value F4 T c_is_within m_isinstance m_bool k__GREATEST, PySem.W.mg_of X G a4, k4, b4⟩
  have c_each_once : Callee l.prog w K mg base 1 "each_once" (sp0 K W_each_once) := ⟨f5, _, _, ok_each_once F5 T m_list, PySem.W.mg_of X G a5, k5, b5⟩
  have c_ops_told : Callee l.prog w K mg base 1 "ops_told" (sp0 K W_ops_told) := ⟨f6, _, _, ok_ops_told F6 T m_list k__OPS, PySem.W.mg_of X G a6, k6, b6⟩
  have V_told : ∀ n, ∀ z ∈ vias K c (W_told c n), MCallee l.prog w K mg base (0 + n) z.1 "told" z.2 := by
    intro n
    induction n with
    | zero => exact vias_all ⟨⟨f7, _, _, o_Name.cl, ⟨a7, i7, k7⟩, FnOk.vac fun _ _ _ _ => no_told, b7⟩⟩ ⟨⟨f8, _, _, o_Value.cl, ⟨a8, i8, k8⟩, FnOk.vac fun _ _ _ _ => no_told, b8⟩⟩ ⟨⟨f9, _, _, o_Two.cl, ⟨a9, i9, k9⟩, FnOk.vac fun _ _ _ _ => no_told, b9⟩⟩ ⟨⟨f10, _, _, o_Not.cl, ⟨a10, i10, k10⟩, FnOk.vac fun _ _ _ _ => no_told, b10⟩⟩ ⟨⟨f11, _, _, o_Pick.cl, ⟨a11, i11, k11⟩, FnOk.vac fun _ _ _ _ => no_told, b11⟩⟩
    | succ n ih => exact vias_all ⟨⟨f7, _, _, o_Name.cl, ⟨a7, i7, k7⟩, ok_Name_told F7 T , b7⟩⟩ ⟨⟨f8, _, _, o_Value.cl, ⟨a8, i8, k8⟩, ok_Value_told F8 T , b8⟩⟩ ⟨⟨f9, _, _, o_Two.cl, ⟨a9, i9, k9⟩, ok_Two_told F9 T ih, b9⟩⟩ ⟨⟨f10, _, _, o_Not.cl, ⟨a10, i10, k10⟩, ok_Not_told F10 T ih, b10⟩⟩ ⟨⟨f11, _, _, o_Pick.cl, ⟨a11, i11, k11⟩, ok_Pick_told F11 T ih, b11⟩⟩
  have v_told := V_told 5
  have V_levels : ∀ n, ∀ z ∈ vias K c (W_levels c n), MCallee l.prog w K mg base (0 + n) z.1 "levels" z.2 := by
    intro n
    induction n with
    | zero => exact vias_all ⟨⟨f12, _, _, o_Name.cl, ⟨a12, i12, k12⟩, FnOk.vac fun _ _ _ _ => no_levels, b12⟩⟩ ⟨⟨f13, _, _, o_Value.cl, ⟨a13, i13, k13⟩, FnOk.vac fun _ _ _ _ => no_levels, b13⟩⟩ ⟨⟨f14, _, _, o_Two.cl, ⟨a14, i14, k14⟩, FnOk.vac fun _ _ _ _ => no_levels, b14⟩⟩ ⟨⟨f15, _, _, o_Not.cl, ⟨a15, i15, k15⟩, FnOk.vac fun _ _ _ _ => no_levels, b15⟩⟩ ⟨⟨f16, _, _, o_Pick.cl, ⟨a16, i16, k16⟩, FnOk.vac fun _ _ _ _ => no_levels, b16⟩⟩
    | succ n ih => exact vias_all ⟨⟨f12, _, _, o_Name.cl, ⟨a12, i12, k12⟩, ok_Name_levels F12 T , b12⟩⟩ ⟨⟨f13, _, _, o_Value.cl, ⟨a13, i13, k13⟩, ok_Value_levels F13 T , b13⟩⟩ ⟨⟨f14, _, _, o_Two.cl, ⟨a14, i14, k14⟩, ok_Two_levels F14 T ih m_max, b14⟩⟩ ⟨⟨f15, _, _, o_Not.cl, ⟨a15, i15, k15⟩, ok_Not_levels F15 T ih, b15⟩⟩ ⟨⟨f16, _, _, o_Pick.cl, ⟨a16, i16, k16⟩, ok_Pick_levels F16 T ih m_max, b16⟩⟩
  have v_levels := V_levels 5
  have V_names : ∀ n, ∀ z ∈ vias K c (W_names c n), MCallee l.prog w K mg base (1 + n) z.1 "names" z.2 := by
    intro n
    induction n with
    | zero => exact vias_all ⟨⟨f17, _, _, o_Name.cl, ⟨a17, i17, k17⟩, FnOk.vac fun _ _ _ _ => no_names, b17⟩⟩ ⟨⟨f18, _, _, o_Value.cl, ⟨a18, i18, k18⟩, FnOk.vac fun _ _ _ _ => no_names, b18⟩⟩ ⟨⟨f19, _, _, o_Two.cl, ⟨a19, i19, k19⟩, FnOk.vac fun _ _ _ _ => no_names, b19⟩⟩ ⟨⟨f20, _, _, o_Not.cl, ⟨a20, i20, k20⟩, FnOk.vac fun _ _ _ _ => no_names, b20⟩⟩ ⟨⟨f21, _, _, o_Pick.cl, ⟨a21, i21, k21⟩, FnOk.vac fun _ _ _ _ => no_names, b21⟩⟩
    | succ n ih => exact vias_all ⟨⟨f17, _, _, o_Name.cl, ⟨a17, i17, k17⟩, ok_Name_names F17 T , b17⟩⟩ ⟨⟨f18, _, _, o_Value.cl, ⟨a18, i18, k18⟩, ok_Value_names F18 T , b18⟩⟩ ⟨⟨f19, _, _, o_Two.cl, ⟨a19, i19, k19⟩, ok_Two_names F19 T c_each_once ih, b19⟩⟩ ⟨⟨f20, _, _, o_Not.cl, ⟨a20, i20, k20⟩, ok_Not_names F20 T ih, b20⟩⟩ ⟨⟨f21, _, _, o_Pick.cl, ⟨a21, i21, k21⟩, ok_Pick_names F21 T c_each_once ih, b21⟩⟩
  have v_names := V_names 5
  have c__inner : Callee l.prog w K mg base 6 "_inner" (sp0 K (W__inner c)) := ⟨f22, _, _, ok__inner F22 T v_levels g_Pick g_Not g_Two g_Value g_Name m_isinstance k_LEVELS, PySem.W.mg_of X G a22, k22, b22⟩
  have n_Name : KCallee l.prog w K mg base 3 "Name" c.nm (spI K c.nm (W_Name_init c)) := ⟨f23, _, _, ⟨mk_Name, a23, i23, kc_Name⟩, ok_Name_init F23 T c_is_pointed, PySem.W.mg_of X G aC_Name, b23⟩
  have n_Value : KCallee l.prog w K mg base 4 "Value" c.vl (spI K c.vl (W_Value_init c)) := ⟨f24, _, _, ⟨mk_Value, a24, i24, kc_Value⟩, ok_Value_init F24 T c_is_value, PySem.W.mg_of X G aC_Value, b24⟩
  have n_Two : KCallee l.prog w K mg base 7 "Two" c.tw (spI K c.tw (W_Two_init c)) := ⟨f25, _, _, ⟨mk_Two, a25, i25, kc_Two⟩, ok_Two_init F25 T c_ops_told c__inner, PySem.W.mg_of X G aC_Two, b25⟩
  have n_Not : KCallee l.prog w K mg base 7 "Not" c.nt (spI K c.nt (W_Not_init c)) := ⟨f26, _, _, ⟨mk_Not, a26, i26, kc_Not⟩, ok_Not_init F26 T c__inner, PySem.W.mg_of X G aC_Not, b26⟩
  have n_Pick : KCallee l.prog w K mg base 7 "Pick" c.pk (spI K c.pk (W_Pick_init c)) := ⟨f27, _, _, ⟨mk_Pick, a27, i27, kc_Pick⟩, ok_Pick_init F27 T c__inner, PySem.W.mg_of X G aC_Pick, b27⟩
  have R__made_of : ∀ n, Callee l.prog w K mg base (8 + n) "_made_of" (sp0 K (W__made_of c n)) := by
    intro n
    induction n with
    | zero => exact ⟨f28, _, _, FnOk.vac fun _ _ _ _ => no__made_of, PySem.W.mg_of X G a28, k28, b28⟩
    | succ n ih => exact ⟨f28, _, _, ok__made_of F28 T ih n_Name n_Value n_Not n_Two n_Pick m_isinstance m_tuple m_len, PySem.W.mg_of X G a28, k28, b28⟩
  have c__made_of := R__made_of 5
  have c_term_of : Callee l.prog w K mg base 14 "term_of" (sp0 K (W_term_of c)) := ⟨f29, _, _, ok_term_of F29 T c__made_of, PySem.W.mg_of X G a29, k29, b29⟩
  have c__law_cell_at : Callee l.prog w K mg base 1 "_law_cell_at" (sp0 K W__law_cell_at) := ⟨f30, _, _, ok__law_cell_at F30 T m_len, PySem.W.mg_of X G a30, k30, b30⟩
  have c__law_box : Callee l.prog w K mg base 1 "_law_box" (sp0 K W__law_box) := ⟨f31, _, _, ok__law_box F31 T , PySem.W.mg_of X G a31, k31, b31⟩
  have c__law_take : Callee l.prog w K mg base 1 "_law_take" (sp1 K W__law_take) := ⟨f32, _, _, ok__law_take F32 T , PySem.W.mg_of X G a32, k32, b32⟩
  have c__law_value : Callee l.prog w K mg base 2 "_law_value" (sp1 K (W__law_value c)) := ⟨f33, _, _, ok__law_value F33 T c__law_take, PySem.W.mg_of X G a33, k33, b33⟩
  have R__law_told : ∀ n, Callee l.prog w K mg base (2 + n) "_law_told" (sp1 K (W__law_told c n)) := by
    intro n
    induction n with
    | zero => exact ⟨f34, _, _, FnOk.vac fun _ _ _ _ => no__law_told, PySem.W.mg_of X G a34, k34, b34⟩
    | succ n ih => exact ⟨f34, _, _, ok__law_told F34 T c__law_take c__law_value ih m_len m_range, PySem.W.mg_of X G a34, k34, b34⟩
  have c__law_told := R__law_told 5
  have R__law_made : ∀ n, Callee l.prog w K mg base (8 + n) "_law_made" (sp0 K (W__law_made c n)) := by
    intro n
    induction n with
    | zero => exact ⟨f35, _, _, FnOk.vac fun _ _ _ _ => no__law_made, PySem.W.mg_of X G a35, k35, b35⟩
    | succ n ih => exact ⟨f35, _, _, ok__law_made F35 T ih n_Name n_Value n_Not n_Pick n_Two, PySem.W.mg_of X G a35, k35, b35⟩
  have c__law_made := R__law_made 5
  have R__law_names : ∀ n, Callee l.prog w K mg base (0 + n) "_law_names" (sp0 K (W__law_names c n)) := by
    intro n
    induction n with
    | zero => exact ⟨f36, _, _, FnOk.vac fun _ _ _ _ => no__law_names, PySem.W.mg_of X G a36, k36, b36⟩
    | succ n ih => exact ⟨f36, _, _, ok__law_names F36 T ih m_int, PySem.W.mg_of X G a36, k36, b36⟩
  have c__law_names := R__law_names 5
  have R__law_levels : ∀ n, Callee l.prog w K mg base (0 + n) "_law_levels" (sp0 K (W__law_levels c n)) := by
    intro n
    induction n with
    | zero => exact ⟨f37, _, _, FnOk.vac fun _ _ _ _ => no__law_levels, PySem.W.mg_of X G a37, k37, b37⟩
    | succ n ih => exact ⟨f37, _, _, ok__law_levels F37 T ih m_max m_int, PySem.W.mg_of X G a37, k37, b37⟩
  have c__law_levels := R__law_levels 5
  have c__law_right : CalleeG l.prog w K mg base 7 "_law_right" (sp0 K (W__law_right c)) := ⟨f38, _, _, ok__law_right F38 T c__law_levels c__law_names v_levels v_told v_names g_Term m_repr m_isinstance m_list m_bool, PySem.W.mg_of X G a38, k38, b38⟩
  exact ok_law F39 T c__law_box c__law_cell_at c__law_told c__law_take c__law_made c__law_right c_term_of c__law_levels v_told n_Two n_Not n_Name n_Pick n_Value m_range m_max m_min m_len
end K22
open PySem PySem.W PyProof.Rows
set_option maxRecDepth 100000 in
set_option maxHeartbeats 0 in
theorem PySem.Challenge.cw_beatrows_k22_terms_told_holds : PySem.Challenge.rw_beatrows_k22_terms_told.Holds := by
  w_on; o_law; k_head; (case hw => w_witness2)
  k_fill
  refine DL.walk_go (l := PySem.Challenge.rw_beatrows_k22_terms_told) (n := 63) (k := 15) (W := DL.WLaw) (x := "script") rfl (by decide) rfl ⟨rfl, by decide, by decide⟩ (fun w h Y => PySem.W.kIn_of Y) rfl ?F
  case F =>
    intro w mg fa h KX G hmg
    refine' K22.all_mk KX G hmg ?aC_Name ?aC_Value ?aC_Two ?aC_Not ?aC_Pick ?aC_Term ?a0 ?l0 ?c0 ?k0 ?a1 ?l1 ?c1 ?k1 ?a2 ?l2 ?c2 ?k2 ?a3 ?l3 ?c3 ?k3 ?a4 ?l4 ?c4 ?k4 ?a5 ?l5 ?c5 ?k5 ?a6 ?l6 ?c6 ?k6 ?a7 ?i7 ?l7 ?c7 ?k7 ?a8 ?i8 ?l8 ?c8 ?k8 ?a9 ?i9 ?l9 ?c9 ?k9 ?a10 ?i10 ?l10 ?c10 ?k10 ?a11 ?i11 ?l11 ?c11 ?k11 ?a12 ?i12 ?l12 ?c12 ?k12 ?a13 ?i13 ?l13 ?c13 ?k13 ?a14 ?i14 ?l14 ?c14 ?k14 ?a15 ?i15 ?l15 ?c15 ?k15 ?a16 ?i16 ?l16 ?c16 ?k16 ?a17 ?i17 ?l17 ?c17 ?k17 ?a18 ?i18 ?l18 ?c18 ?k18 ?a19 ?i19 ?l19 ?c19 ?k19 ?a20 ?i20 ?l20 ?c20 ?k20 ?a21 ?i21 ?l21 ?c21 ?k21 ?a22 ?l22 ?c22 ?k22 ?a23 ?i23 ?l23 ?c23 ?k23 ?a24 ?i24 ?l24 ?c24 ?k24 ?a25 ?i25 ?l25 ?c25 ?k25 ?a26 ?i26 ?l26 ?c26 ?k26 ?a27 ?i27 ?l27 ?c27 ?k27 ?a28 ?l28 ?c28 ?k28 ?a29 ?l29 ?c29 ?k29 ?a30 ?l30 ?c30 ?k30 ?a31 ?l31 ?c31 ?k31 ?a32 ?l32 ?c32 ?k32 ?a33 ?l33 ?c33 ?k33 ?a34 ?l34 ?c34 ?k34 ?a35 ?l35 ?c35 ?k35 ?a36 ?l36 ?c36 ?k36 ?a37 ?l37 ?c37 ?k37 ?a38 ?l38 ?c38 ?k38 ?a39 ?l39 ?c39 ?k39 ?z_isinstance ?z_bool ?z_int ?z_len ?z_str ?z_all ?z_list ?z_max ?z_tuple ?z_range ?z_repr ?z_min ?g__NAME_SIGNS ?g__LETTERS ?g__OWN_WORDS ?gl__OWN_WORDS ?gc__OWN_WORDS ?gd__OWN_WORDS ?g__POINTED_SIGNS ?g__GREATEST ?g__OPS ?gl__OPS ?gc__OPS ?gd__OPS ?g_LEVELS ?pg_Name ?hd_Name ?po_Name ?sa_Name ?mk_Name ?kc_Name ?cc_Name ?cm_Name ?no_Name_name ?pg_Value ?hd_Value ?po_Value ?sa_Value ?mk_Value ?kc_Value ?cc_Value ?cm_Value ?no_Value_value ?pg_Two ?hd_Two ?po_Two ?sa_Two ?mk_Two ?kc_Two ?cc_Two ?cm_Two ?no_Two_op ?no_Two_one ?no_Two_other ?pg_Not ?hd_Not ?po_Not ?sa_Not ?mk_Not ?kc_Not ?cc_Not ?cm_Not ?no_Not_one ?pg_Pick ?hd_Pick ?po_Pick ?sa_Pick ?mk_Pick ?kc_Pick ?cc_Pick ?cm_Pick ?no_Pick_by ?no_Pick_one ?no_Pick_other ?cg ?ct ?ty_Name ?ty_Value ?ty_Two ?ty_Not ?ty_Pick ?ty_Term ?cm_Term ?su_Name_Value ?su_Name_Two ?su_Name_Not ?su_Name_Pick ?su_Value_Name ?su_Value_Two ?su_Value_Not ?su_Value_Pick ?su_Two_Name ?su_Two_Value ?su_Two_Not ?su_Two_Pick ?su_Not_Name ?su_Not_Value ?su_Not_Two ?su_Not_Pick ?su_Pick_Name ?su_Pick_Value ?su_Pick_Two ?su_Pick_Not ?st_Name ?st_Value ?st_Two ?st_Not ?st_Pick
    (case aC_Name => k_is)
    (case aC_Value => k_is)
    (case aC_Two => k_is)
    (case aC_Not => k_is)
    (case aC_Pick => k_is)
    (case aC_Term => k_is)
    (case a0 => k_is)
    (case l0 => k_is)
    (case c0 => k_is)
    (case k0 => k_is)
    (case a1 => k_is)
    (case l1 => k_is)
    (case c1 => k_is)
    (case k1 => k_is)
    (case a2 => k_is)
    (case l2 => k_is)
    (case c2 => k_is)
    (case k2 => k_is)
    (case a3 => k_is)
    (case l3 => k_is)
    (case c3 => k_is)
    (case k3 => k_is)
    (case a4 => k_is)
    (case l4 => k_is)
    (case c4 => k_is)
    (case k4 => k_is)
    (case a5 => k_is)
    (case l5 => k_is)
    (case c5 => k_is)
    (case k5 => k_is)
    (case a6 => k_is)
    (case l6 => k_is)
    (case c6 => k_is)
    (case k6 => k_is)
    (case a7 => k_is)
    (case i7 => k_is)
    (case l7 => k_is)
    (case c7 => k_is)
    (case k7 => k_is)
    (case a8 => k_is)
    (case i8 => k_is)
    (case l8 => k_is)
    (case c8 => k_is)
    (case k8 => k_is)
    (case a9 => k_is)
    (case i9 => k_is)
    (case l9 => k_is)
    (case c9 => k_is)
    (case k9 => k_is)
    (case a10 => k_is)
    (case i10 => k_is)
    (case l10 => k_is)
    (case c10 => k_is)
    (case k10 => k_is)
    (case a11 => k_is)
    (case i11 => k_is)
    (case l11 => k_is)
    (case c11 => k_is)
    (case k11 => k_is)
    (case a12 => k_is)
    (case i12 => k_is)
    (case l12 => k_is)
    (case c12 => k_is)
    (case k12 => k_is)
    (case a13 => k_is)
    (case i13 => k_is)
    (case l13 => k_is)
    (case c13 => k_is)
    (case k13 => k_is)
    (case a14 => k_is)
    (case i14 => k_is)
    (case l14 => k_is)
    (case c14 => k_is)
    (case k14 => k_is)
    (case a15 => k_is)
    (case i15 => k_is)
    (case l15 => k_is)
    (case c15 => k_is)
    (case k15 => k_is)
    (case a16 => k_is)
    (case i16 => k_is)
    (case l16 => k_is)
    (case c16 => k_is)
    (case k16 => k_is)
    (case a17 => k_is)
    (case i17 => k_is)
    (case l17 => k_is)
    (case c17 => k_is)
    (case k17 => k_is)
    (case a18 => k_is)
    (case i18 => k_is)
    (case l18 => k_is)
    (case c18 => k_is)
    (case k18 => k_is)
    (case a19 => k_is)
    (case i19 => k_is)
    (case l19 => k_is)
    (case c19 => k_is)
    (case k19 => k_is)
    (case a20 => k_is)
    (case i20 => k_is)
    (case l20 => k_is)
    (case c20 => k_is)
    (case k20 => k_is)
    (case a21 => k_is)
    (case i21 => k_is)
    (case l21 => k_is)
    (case c21 => k_is)
    (case k21 => k_is)
    (case a22 => k_is)
    (case l22 => k_is)
    (case c22 => k_is)
    (case k22 => k_is)
    (case a23 => k_is)
    (case i23 => k_is)
    (case l23 => k_is)
    (case c23 => k_is)
    (case k23 => k_is)
    (case a24 => k_is)
    (case i24 => k_is)
    (case l24 => k_is)
    (case c24 => k_is)
    (case k24 => k_is)
    (case a25 => k_is)
    (case i25 => k_is)
    (case l25 => k_is)
    (case c25 => k_is)
    (case k25 => k_is)
    (case a26 => k_is)
    (case i26 => k_is)
    (case l26 => k_is)
    (case c26 => k_is)
    (case k26 => k_is)
    (case a27 => k_is)
    (case i27 => k_is)
    (case l27 => k_is)
    (case c27 => k_is)
    (case k27 => k_is)
    (case a28 => k_is)
    (case l28 => k_is)
    (case c28 => k_is)
    (case k28 => k_is)
    (case a29 => k_is)
    (case l29 => k_is)
    (case c29 => k_is)
    (case k29 => k_is)
    (case a30 => k_is)
    (case l30 => k_is)
    (case c30 => k_is)
    (case k30 => k_is)
    (case a31 => k_is)
    (case l31 => k_is)
    (case c31 => k_is)
    (case k31 => k_is)
    (case a32 => k_is)
    (case l32 => k_is)
    (case c32 => k_is)
    (case k32 => k_is)
    (case a33 => k_is)
    (case l33 => k_is)
    (case c33 => k_is)
    (case k33 => k_is)
    (case a34 => k_is)
    (case l34 => k_is)
    (case c34 => k_is)
    (case k34 => k_is)
    (case a35 => k_is)
    (case l35 => k_is)
    (case c35 => k_is)
    (case k35 => k_is)
    (case a36 => k_is)
    (case l36 => k_is)
    (case c36 => k_is)
    (case k36 => k_is)
    (case a37 => k_is)
    (case l37 => k_is)
    (case c37 => k_is)
    (case k37 => k_is)
    (case a38 => k_is)
    (case l38 => k_is)
    (case c38 => k_is)
    (case k38 => k_is)
    (case a39 => k_is)
    (case l39 => k_is)
    (case c39 => k_is)
    (case k39 => k_is)
    (case z_isinstance => k_is)
    (case z_bool => k_is)
    (case z_int => k_is)
    (case z_len => k_is)
    (case z_str => k_is)
    (case z_all => k_is)
    (case z_list => k_is)
    (case z_max => k_is)
    (case z_tuple => k_is)
    (case z_range => k_is)
    (case z_repr => k_is)
    (case z_min => k_is)
    (case g__NAME_SIGNS => k_is)
    (case g__LETTERS => k_is)
    (case g__OWN_WORDS => k_is)
    (case gl__OWN_WORDS => k_is)
    (case gc__OWN_WORDS => rfl)
    (case gd__OWN_WORDS => rfl)
    (case g__POINTED_SIGNS => k_is)
    (case g__GREATEST => k_is)
    (case g__OPS => k_is)
    (case gl__OPS => k_is)
    (case gc__OPS => rfl)
    (case gd__OPS => rfl)
    (case g_LEVELS => k_is)
    (case pg_Name => k_is)
    (case hd_Name => k_is)
    (case po_Name => k_is)
    (case sa_Name => k_is)
    (case mk_Name => k_is)
    (case kc_Name => k_is)
    (case cc_Name => k_is)
    (case cm_Name => k_is)
    (case no_Name_name => k_is)
    (case pg_Value => k_is)
    (case hd_Value => k_is)
    (case po_Value => k_is)
    (case sa_Value => k_is)
    (case mk_Value => k_is)
    (case kc_Value => k_is)
    (case cc_Value => k_is)
    (case cm_Value => k_is)
    (case no_Value_value => k_is)
    (case pg_Two => k_is)
    (case hd_Two => k_is)
    (case po_Two => k_is)
    (case sa_Two => k_is)
    (case mk_Two => k_is)
    (case kc_Two => k_is)
    (case cc_Two => k_is)
    (case cm_Two => k_is)
    (case no_Two_op => k_is)
    (case no_Two_one => k_is)
    (case no_Two_other => k_is)
    (case pg_Not => k_is)
    (case hd_Not => k_is)
    (case po_Not => k_is)
    (case sa_Not => k_is)
    (case mk_Not => k_is)
    (case kc_Not => k_is)
    (case cc_Not => k_is)
    (case cm_Not => k_is)
    (case no_Not_one => k_is)
    (case pg_Pick => k_is)
    (case hd_Pick => k_is)
    (case po_Pick => k_is)
    (case sa_Pick => k_is)
    (case mk_Pick => k_is)
    (case kc_Pick => k_is)
    (case cc_Pick => k_is)
    (case cm_Pick => k_is)
    (case no_Pick_by => k_is)
    (case no_Pick_one => k_is)
    (case no_Pick_other => k_is)
    (case cg => k_is)
    (case ct => k_is)
    (case ty_Name => k_is)
    (case ty_Value => k_is)
    (case ty_Two => k_is)
    (case ty_Not => k_is)
    (case ty_Pick => k_is)
    (case ty_Term => k_is)
    (case cm_Term => k_is)
    (case su_Name_Value => k_is)
    (case su_Name_Two => k_is)
    (case su_Name_Not => k_is)
    (case su_Name_Pick => k_is)
    (case su_Value_Name => k_is)
    (case su_Value_Two => k_is)
    (case su_Value_Not => k_is)
    (case su_Value_Pick => k_is)
    (case su_Two_Name => k_is)
    (case su_Two_Value => k_is)
    (case su_Two_Not => k_is)
    (case su_Two_Pick => k_is)
    (case su_Not_Name => k_is)
    (case su_Not_Value => k_is)
    (case su_Not_Two => k_is)
    (case su_Not_Pick => k_is)
    (case su_Pick_Name => k_is)
    (case su_Pick_Value => k_is)
    (case su_Pick_Two => k_is)
    (case su_Pick_Not => k_is)
    (case st_Name => k_is)
    (case st_Value => k_is)
    (case st_Two => k_is)
    (case st_Not => k_is)
    (case st_Pick => k_is)
