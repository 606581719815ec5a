import PyProof.Rows.All
import Wide.All
import OpenK.AllK
import Wide.FinOn
import HandS.ForMost
import HandS.ForExc
import HandS.IsInst
import HandS.Evl
import HandS.TupLe
import HandS.SetFor
import HandS.Walk
import HandS.Text
import HandS.Style
import HandS.Deep
import HandS.StrMore
import HandS.Replace
import PySem.Challenge.RW_beatrows_k14_sums_undone
set_option Elab.async false
set_option linter.all false
set_option autoImplicit false
set_option maxRecDepth 100000
set_option maxHeartbeats 4000000
namespace DL
open PySem L2
open Evl (Ex)
abbrev St := L2.St

/-! ### data, and what represents it in a heap -/
inductive D where
  | non | bl (b : Bool) | int (i : Int) | str (x : Str) | ty (n : String) | adr (a : Addr)
  | lst (xs : List D) | tup (xs : List D) | scr (ns : List Int) | dct (kvs : List (Key × D)) | obj (C : Addr) (fs : List (Str × D))

mutual
inductive Rep (K : PySem.W.Frag) (G : Hp) : V → D → Prop
  | non : Rep K G .non .non
  | bl (b : Bool) : Rep K G (.bl b) (.bl b)
  | int (i : Int) : Rep K G (.int i) (.int i)
  | str (x : Str) : Rep K G (.str x) (.str x)
  | ty (n : String) : Rep K G (.ty n) (.ty n)
  | adr (a : Addr) : Rep K G (.ref a) (.adr a)
  | lst {a : Addr} {xs : List V} {ds : List D} : G a = some (.lst xs) → RepL K G xs ds → Rep K G (.ref a) (.lst ds)
  | tup {a : Addr} {xs : List V} {ds : List D} : SqT K G a xs → RepL K G xs ds → Rep K G (.ref a) (.tup ds)
  | scr {a : Addr} {ns : List Int} : SqL K G a (ns.map V.int) → Rep K G (.ref a) (.scr ns)
  | dct {a : Addr} {kvs : List (Key × V)} {ds : List (Key × D)} : G a = some (.dK kvs) → RepK K G kvs ds → Rep K G (.ref a) (.dct ds)
  | obj {a C dx : Addr} {fs : List (Str × V)} {ds : List (Str × D)} : G a = some (.ins C dx fs) → RepF K G fs ds → Rep K G (.ref a) (.obj C ds)
inductive RepL (K : PySem.W.Frag) (G : Hp) : List V → List D → Prop
  | nil : RepL K G [] []
  | cons {v : V} {vs : List V} {d : D} {ds : List D} : Rep K G v d → RepL K G vs ds → RepL K G (v :: vs) (d :: ds)
inductive RepK (K : PySem.W.Frag) (G : Hp) : List (Key × V) → List (Key × D) → Prop
  | nil : RepK K G [] []
  | cons {k : Key} {v : V} {vs : List (Key × V)} {d : D} {ds : List (Key × D)} : Rep K G v d → RepK K G vs ds → RepK K G ((k, v) :: vs) ((k, d) :: ds)
inductive RepF (K : PySem.W.Frag) (G : Hp) : List (Str × V) → List (Str × D) → Prop
  | nil : RepF K G [] []
  | cons {k : Str} {v : V} {vs : List (Str × V)} {d : D} {ds : List (Str × D)} : Rep K G v d → RepF K G vs ds → RepF K G ((k, v) :: vs) ((k, d) :: ds)
end

section
variable {K : PySem.W.Frag} {G G' H H' : Hp}
mutual
theorem Rep.mono (e : Ex G G') : ∀ (d : D) (v : V), Rep K G v d → Rep K G' v d
  | .non, _, h => by cases h; exact .non
  | .bl b, _, h => by cases h; exact .bl b
  | .int i, _, h => by cases h; exact .int i
  | .str x, _, h => by cases h; exact .str x
  | .ty n, _, h => by cases h; exact .ty n
  | .adr a, _, h => by cases h; exact .adr a
  | .lst ds, _, h => by cases h with | lst h1 h2 => exact .lst (e _ _ h1) (RepL.mono e ds _ h2)
  | .tup ds, _, h => by cases h with | tup h1 h2 => exact .tup (Evl.ex_t e h1) (RepL.mono e ds _ h2)
  | .scr ns, _, h => by cases h with | scr h1 => exact .scr (Evl.ex_l e h1)
  | .dct ds, _, h => by cases h with | dct h1 h2 => exact .dct (e _ _ h1) (RepK.mono e ds _ h2)
  | .obj C ds, _, h => by cases h with | obj h1 h2 => exact .obj (e _ _ h1) (RepF.mono e ds _ h2)
theorem RepL.mono (e : Ex G G') : ∀ (ds : List D) (vs : List V), RepL K G vs ds → RepL K G' vs ds
  | [], _, h => by cases h; exact .nil
  | d :: ds, _, h => by cases h with | cons h1 h2 => exact .cons (Rep.mono e d _ h1) (RepL.mono e ds _ h2)
theorem RepK.mono (e : Ex G G') : ∀ (ds : List (Key × D)) (vs : List (Key × V)), RepK K G vs ds → RepK K G' vs ds
  | [], _, h => by cases h; exact .nil
  | (k, d) :: ds, _, h => by cases h with | cons h1 h2 => exact .cons (Rep.mono e d _ h1) (RepK.mono e ds _ h2)
theorem RepF.mono (e : Ex G G') : ∀ (ds : List (Str × D)) (vs : List (Str × V)), RepF K G vs ds → RepF K G' vs ds
  | [], _, h => by cases h; exact .nil
  | (k, d) :: ds, _, h => by cases h with | cons h1 h2 => exact .cons (Rep.mono e d _ h1) (RepF.mono e ds _ h2)
end
theorem Rep.up (e : Ex G G') {d : D} {v : V} (h : Rep K G v d) : Rep K G' v d := Rep.mono e d v h
theorem RepL.up (e : Ex G G') {ds : List D} {vs : List V} (h : RepL K G vs ds) : RepL K G' vs ds := RepL.mono e ds vs h
theorem RepL.length : ∀ {vs : List V} {ds : List D}, RepL K G vs ds → vs.length = ds.length
  | _, _, .nil => rfl
  | _, _, .cons _ t => congrArg (· + 1) (RepL.length t)
theorem RepL.get : ∀ {vs : List V} {ds : List D} {i : Nat} {d : D}, RepL K G vs ds → ds[i]? = some d → ∃ v, vs[i]? = some v ∧ Rep K G v d
  | _, _, _, _, .nil, e => by simp at e
  | _, _, 0, _, .cons r _, e => by simp at e; subst e; exact ⟨_, rfl, r⟩
  | _, _, i + 1, _, .cons _ t, e => by
    obtain ⟨u, h1, h2⟩ := RepL.get (i := i) t (by simpa using e)
    exact ⟨u, by simpa using h1, h2⟩
theorem RepL.getV : ∀ {vs : List V} {ds : List D} {i : Nat} {v : V}, RepL K G vs ds → vs[i]? = some v → ∃ d, ds[i]? = some d ∧ Rep K G v d
  | _, _, _, _, .nil, e => by simp at e
  | _, _, 0, _, .cons r _, e => by simp at e; subst e; exact ⟨_, rfl, r⟩
  | _, _, i + 1, _, .cons _ t, e => by
    obtain ⟨u, h1, h2⟩ := RepL.getV (i := i) t (by simpa using e)
    exact ⟨u, by simpa using h1, h2⟩
theorem RepL.append : ∀ {vs ws : List V} {ds es : List D}, RepL K G vs ds → RepL K G ws es → RepL K G (vs ++ ws) (ds ++ es)
  | _, _, _, _, .nil, s => s
  | _, _, _, _, .cons r t, s => .cons r (RepL.append t s)
theorem RepL.set : ∀ {vs : List V} {ds : List D} (i : Nat) {v : V} {d : D}, Rep K G v d → RepL K G vs ds → RepL K G (vs.set i v) (ds.set i d)
  | _, _, _, _, _, _, .nil => .nil
  | _, _, 0, _, _, r, .cons _ t => .cons r t
  | _, _, i + 1, _, _, r, .cons q t => .cons q (RepL.set i r t)
theorem RepL.drop : ∀ {vs : List V} {ds : List D} (i : Nat), RepL K G vs ds → RepL K G (vs.drop i) (ds.drop i)
  | _, _, 0, h => h
  | _, _, _ + 1, .nil => .nil
  | _, _, i + 1, .cons _ t => RepL.drop i t
theorem RepL.take : ∀ {vs : List V} {ds : List D} (i : Nat), RepL K G vs ds → RepL K G (vs.take i) (ds.take i)
  | _, _, 0, _ => .nil
  | _, _, _ + 1, .nil => .nil
  | _, _, i + 1, .cons r t => .cons r (RepL.take i t)
theorem RepL.ints : ∀ {vs : List V} {ns : List Int}, RepL K G vs (ns.map D.int) → vs = ns.map V.int
  | _, [], h => by cases h; rfl
  | _, n :: ns, h => by
    cases h with
    | cons r t =>
      cases r
      rw [RepL.ints t]
      rfl
theorem RepL.strs : ∀ {vs : List V} {ns : List Str}, RepL K G vs (ns.map D.str) → vs = ns.map V.str
  | _, [], h => by cases h; rfl
  | _, n :: ns, h => by
    cases h with
    | cons r t =>
      cases r
      rw [RepL.strs t]
      rfl
theorem RepL.bls : ∀ {vs : List V} {ns : List Bool}, RepL K G vs (ns.map D.bl) → vs = ns.map V.bl
  | _, [], h => by cases h; rfl
  | _, n :: ns, h => by
    cases h with
    | cons r t =>
      cases r
      rw [RepL.bls t]
      rfl
theorem RepL.ofStrs : ∀ (ns : List Str), RepL K G (ns.map V.str) (ns.map D.str)
  | [] => .nil
  | n :: ns => .cons (.str n) (RepL.ofStrs ns)
theorem RepL.ofInts : ∀ (ns : List Int), RepL K G (ns.map V.int) (ns.map D.int)
  | [] => .nil
  | n :: ns => .cons (.int n) (RepL.ofInts ns)
end

/-! ### slots, frames, states -/
/-- whose a list is: the def's own; a parameter's; one of both -/
inductive Kd where
  | loc | par | any
inductive Sl where
  | un
  | fz (d : D)
  | ow (k : Kd) (ds : List D)

abbrev Sls := List Sl

structure Fr where
  G0 : Hp
  H0 : Hp
  P : Addr → Prop

def SlR (K : PySem.W.Frag) (G H : Hp) : Option V → Sl → Prop
  | _, .un => True
  | some v, .fz d => Rep K G v d
  | some v, .ow _ ds => ∃ p vs, v = .ref p ∧ G p = none ∧ H p = some (.lst vs) ∧ RepL K G vs ds
  | none, _ => False

structure FrOk (F : Fr) (G H : Hp) : Prop where
  ex : Ex G H
  old : ∀ a o, F.H0 a = some o → G a = F.G0 a
  kp : ∀ a o, F.H0 a = some o → ¬ F.P a → H a = some o
  th : ∀ a o, F.H0 a = some o → ∃ o', H a = some o'

def OwnK (F : Fr) (p : Addr) : Kd → Prop
  | .loc => F.H0 p = none
  | .par => F.P p
  | .any => F.H0 p = none ∨ F.P p
theorem OwnK.or {F : Fr} {p : Addr} : ∀ {k : Kd}, OwnK F p k → F.H0 p = none ∨ F.P p
  | .loc, h => .inl h
  | .par, h => .inr h
  | .any, h => h
structure SRel (K : PySem.W.Frag) (F : Fr) (G H : Hp) (σ : St) (ρ : Sls) : Prop where
  fr : FrOk F G H
  len : σ.length = ρ.length
  sl : ∀ (i : Nat) (s : Sl) (o : Option V), ρ[i]? = some s → σ[i]? = some o → SlR K G H o s
  dis : ∀ (i j : Nat) (p : Addr) (l m : Kd) (di dj : List D), ρ[i]? = some (.ow l di) → ρ[j]? = some (.ow m dj) → σ[i]? = some (some (.ref p)) → σ[j]? = some (some (.ref p)) → i = j
  own : ∀ (i : Nat) (l : Kd) (ds : List D) (p : Addr), ρ[i]? = some (.ow l ds) → σ[i]? = some (some (.ref p)) → OwnK F p l

section
variable {K : PySem.W.Frag} {F : Fr} {G G' H H' : Hp} {σ : St} {ρ : Sls}
theorem FrOk.fresh (f : FrOk F G H) {p : Addr} (h : H p = none) : F.H0 p = none := by
  cases e : F.H0 p with
  | none => rfl
  | some o =>
    obtain ⟨o', q⟩ := f.th p o e
    rw [h] at q
    cases q
theorem FrOk.freshG (f : FrOk F G H) {p : Addr} (h : H p = none) : G p = none := by
  cases e : G p with
  | none => rfl
  | some o =>
    rw [f.ex p o e] at h
    cases h
theorem SRel.ex (S : SRel K F G H σ ρ) : Ex G H := S.fr.ex
theorem SRel.fz (S : SRel K F G H σ ρ) {i : Nat} {d : D} (h : ρ[i]? = some (.fz d)) : ∃ v, σ[i]? = some (some v) ∧ Rep K G v d := by
  have hl : i < σ.length := by rw [S.len]; exact (List.getElem?_eq_some_iff.mp h).1
  have e : σ[i]? = some σ[i] := List.getElem?_eq_getElem hl
  have q := S.sl i _ _ h e
  cases hv : σ[i] with
  | none => rw [hv] at q; exact q.elim
  | some v => rw [hv] at q e; exact ⟨v, e, q⟩
theorem SRel.ow (S : SRel K F G H σ ρ) {i : Nat} {l : Kd} {ds : List D} (h : ρ[i]? = some (.ow l ds)) : ∃ p vs, σ[i]? = some (some (.ref p)) ∧ G p = none ∧ H p = some (.lst vs) ∧ RepL K G vs ds := by
  have hl : i < σ.length := by rw [S.len]; exact (List.getElem?_eq_some_iff.mp h).1
  have e : σ[i]? = some σ[i] := List.getElem?_eq_getElem hl
  have q := S.sl i _ _ h e
  cases hv : σ[i] with
  | none => rw [hv] at q; exact q.elim
  | some v =>
    rw [hv] at q e
    obtain ⟨p, vs, rfl, q⟩ := q
    exact ⟨p, vs, e, q⟩
theorem SlR.up {o : Option V} {s : Sl} (e : Ex G G') (n : ∀ p, G p = none → (∃ o, H p = some o) → G' p = none) (k : ∀ p o, H p = some o → G p = none → H' p = some o) (h : SlR K G H o s) : SlR K G' H' o s := by
  cases s with
  | un => cases o <;> trivial
  | fz d =>
    cases o with
    | none => exact h
    | some v => exact Rep.up e h
  | ow l ds =>
    cases o with
    | none => exact h
    | some v =>
      obtain ⟨p, vs, rfl, h1, h2, h3⟩ := h
      exact ⟨p, vs, rfl, n p h1 ⟨_, h2⟩, k p _ h2 h1, RepL.up e h3⟩
/-- a new object, not known -/
theorem SRel.alloc (S : SRel K F G H σ ρ) {p : Addr} {o : HO} (h : H p = none) : SRel K F G (upd H p o) σ ρ := by
  have e : Ex H (upd H p o) := Ex.new h
  refine ⟨⟨S.ex.trans e, S.fr.old, fun a u q np => e a u (S.fr.kp a u q np), fun a u q => ?_⟩, S.len, fun i s o h1 h2 => (S.sl i s o h1 h2).up (Ex.refl G) (fun p h _ => h) (fun p o q _ => e p o q), S.dis, S.own⟩
  obtain ⟨o', q'⟩ := S.fr.th a u q
  exact ⟨o', e a o' q'⟩
/-- an object that is nobody's own comes to be known -/
theorem SRel.freeze (S : SRel K F G H σ ρ) {p : Addr} {o : HO} (hg : G p = none) (h : H p = some o) (hf : F.H0 p = none) (hn : ∀ (i : Nat) (l : Kd) (ds : List D), ρ[i]? = some (.ow l ds) → σ[i]? ≠ some (some (.ref p))) : SRel K F (upd G p o) H σ ρ := by
  have e : Ex G (upd G p o) := Ex.new hg
  refine ⟨⟨fun a u q => ?_, fun a u q => ?_, S.fr.kp, S.fr.th⟩, S.len, fun i s w h1 h2 => ?_, S.dis, S.own⟩
  · by_cases hp : a = p
    · subst hp
      rw [upd_same] at q
      cases q
      exact h
    · rw [upd_ne hp] at q
      exact S.ex a u q
  · have hp : a ≠ p := fun z => by rw [z, hf] at q; cases q
    rw [upd_ne hp]
    exact S.fr.old a u q
  · have q := S.sl i s w h1 h2
    cases s with
    | un => cases w <;> trivial
    | fz d =>
      cases w with
      | none => exact q
      | some v => exact Rep.up e q
    | ow l ds =>
      cases w with
      | none => exact q
      | some v =>
        obtain ⟨a, vs, rfl, q1, q2, q3⟩ := q
        have ha : a ≠ p := fun z => hn i l ds h1 (by rw [h2, z])
        exact ⟨a, vs, rfl, by rw [upd_ne ha]; exact q1, q2, RepL.up e q3⟩
theorem SRel.notOwn (S : SRel K F G H σ ρ) {p : Addr} (h : H p = none) : ∀ (i : Nat) (l : Kd) (ds : List D), ρ[i]? = some (.ow l ds) → σ[i]? ≠ some (some (.ref p)) := fun i l ds hi hz => by
  obtain ⟨q, vs, e1, _, e3, _⟩ := S.ow hi
  rw [hz] at e1
  cases e1
  rw [h] at e3
  cases e3
/-- a new object, known -/
theorem SRel.new (S : SRel K F G H σ ρ) {p : Addr} {o : HO} (h : H p = none) : SRel K F (upd G p o) (upd H p o) σ ρ :=
  (S.alloc h).freeze (S.fr.freshG h) upd_same (S.fr.fresh h) (S.notOwn h)
/-- a slot's own list is changed -/
theorem SRel.mut (S : SRel K F G H σ ρ) {i : Nat} {l : Kd} {ds es : List D} {p : Addr} {ws : List V} (hi : ρ[i]? = some (.ow l ds)) (hp : σ[i]? = some (some (.ref p))) (hw : RepL K G ws es) :
    SRel K F G (upd H p (.lst ws)) σ (ρ.set i (.ow l es)) := by
  obtain ⟨p', vs, e1, e2, e3, e4⟩ := S.ow hi
  rw [hp] at e1
  cases e1
  have hl : i < ρ.length := (List.getElem?_eq_some_iff.mp hi).1
  have get : ∀ (j : Nat) (s : Sl), (ρ.set i (.ow l es))[j]? = some s → (j = i ∧ s = .ow l es) ∨ (j ≠ i ∧ ρ[j]? = some s) := fun j s h => by
    by_cases hj : j = i
    · subst hj
      rw [List.getElem?_set_self hl] at h
      cases h
      exact .inl ⟨rfl, rfl⟩
    · rw [List.getElem?_set_ne (Ne.symm hj)] at h
      exact .inr ⟨hj, h⟩
  refine ⟨⟨fun a u q => ?_, S.fr.old, fun a u q np => ?_, fun a u q => ?_⟩, by rw [List.length_set]; exact S.len, fun j s w h1 h2 => ?_, fun a b q m n da db h1 h2 h3 h4 => ?_, fun j m da q h1 h2 => ?_⟩
  · have ha : a ≠ p := fun z => by rw [z, e2] at q; cases q
    rw [upd_ne ha]
    exact S.ex a u q
  · have ha : a ≠ p := fun z => by
      subst z
      rcases (S.own i l ds a hi hp).or with z | z
      · rw [z] at q; cases q
      · exact np z
    rw [upd_ne ha]
    exact S.fr.kp a u q np
  · by_cases ha : a = p
    · subst ha
      exact ⟨_, upd_same⟩
    · rw [upd_ne ha]
      exact S.fr.th a u q
  · rcases get j s h1 with ⟨rfl, rfl⟩ | ⟨hj, h1⟩
    · rw [hp] at h2
      cases h2
      exact ⟨p, ws, rfl, e2, upd_same, hw⟩
    · have q := S.sl j s w h1 h2
      cases s with
      | un => cases w <;> trivial
      | fz d =>
        cases w with
        | none => exact q
        | some v => exact q
      | ow m dj =>
        cases w with
        | none => exact q
        | some v =>
          obtain ⟨a, us, rfl, q1, q2, q3⟩ := q
          have ha : a ≠ p := fun z => by
            subst z
            exact hj (S.dis j i a m l dj ds h1 hi h2 hp)
          exact ⟨a, us, rfl, q1, by rw [upd_ne ha]; exact q2, q3⟩
  · have h1' : ∃ m' da', ρ[a]? = some (.ow m' da') := by
      rcases get a _ h1 with ⟨rfl, _⟩ | ⟨_, h⟩
      · exact ⟨_, _, hi⟩
      · exact ⟨_, _, h⟩
    have h2' : ∃ m' da', ρ[b]? = some (.ow m' da') := by
      rcases get b _ h2 with ⟨rfl, _⟩ | ⟨_, h⟩
      · exact ⟨_, _, hi⟩
      · exact ⟨_, _, h⟩
    obtain ⟨_, _, h1'⟩ := h1'
    obtain ⟨_, _, h2'⟩ := h2'
    exact S.dis a b q _ _ _ _ h1' h2' h3 h4
  · rcases get j _ h1 with ⟨rfl, e⟩ | ⟨_, h⟩
    · cases e
      exact S.own j l ds q hi h2
    · exact S.own j m da q h h2
/-- a slot is stored: a known thing -/
theorem SRel.set (S : SRel K F G H σ ρ) {i : Nat} {v : V} {d : D} (r : Rep K G v d) : SRel K F G H (σ.set i (some v)) (ρ.set i (.fz d)) := by
  have get : ∀ (j : Nat) (s : Sl), (ρ.set i (.fz d))[j]? = some s → (j = i ∧ s = .fz d) ∨ (j ≠ i ∧ ρ[j]? = some s) := fun j s h => by
    by_cases hj : j = i
    · subst hj
      have hl : j < ρ.length := by
        have := (List.getElem?_eq_some_iff.mp h).1
        rwa [List.length_set] at this
      rw [List.getElem?_set_self hl] at h
      cases h
      exact .inl ⟨rfl, rfl⟩
    · rw [List.getElem?_set_ne (Ne.symm hj)] at h
      exact .inr ⟨hj, h⟩
  have getv : ∀ (j : Nat) (w : Option V), j ≠ i → (σ.set i (some v))[j]? = some w → σ[j]? = some w := fun j w hj h => by
    rw [List.getElem?_set_ne (Ne.symm hj)] at h
    exact h
  refine ⟨S.fr, by rw [List.length_set, List.length_set]; exact S.len, fun j s w h1 h2 => ?_, fun a b q m n da db h1 h2 h3 h4 => ?_, fun j m da q h1 h2 => ?_⟩
  · rcases get j s h1 with ⟨rfl, rfl⟩ | ⟨hj, h1⟩
    · have hl : j < σ.length := by
        have := (List.getElem?_eq_some_iff.mp h2).1
        rwa [List.length_set] at this
      rw [List.getElem?_set_self hl] at h2
      cases h2
      exact r
    · exact S.sl j s w h1 (getv j w hj h2)
  · rcases get a _ h1 with ⟨_, e⟩ | ⟨ha, h1⟩
    · cases e
    · rcases get b _ h2 with ⟨_, e⟩ | ⟨hb, h2⟩
      · cases e
      · exact S.dis a b q _ _ _ _ h1 h2 (getv a _ ha h3) (getv b _ hb h4)
  · rcases get j _ h1 with ⟨_, e⟩ | ⟨hj, h1⟩
    · cases e
    · exact S.own j m da q h1 (getv j _ hj h2)
/-- a slot is stored: a list of its own -/
theorem SRel.setO (S : SRel K F G H σ ρ) {i : Nat} {p : Addr} {vs : List V} {ds : List D} (hg : G p = none) (h : H p = some (.lst vs)) (hr : RepL K G vs ds) (hf : F.H0 p = none) (hn : ∀ (i : Nat) (l : Kd) (ds : List D), ρ[i]? = some (.ow l ds) → σ[i]? ≠ some (some (.ref p))) :
    SRel K F G H (σ.set i (some (.ref p))) (ρ.set i (.ow .loc ds)) := by
  have get : ∀ (j : Nat) (s : Sl), (ρ.set i (.ow .loc ds))[j]? = some s → (j = i ∧ s = .ow .loc ds) ∨ (j ≠ i ∧ ρ[j]? = some s) := fun j s h => by
    by_cases hj : j = i
    · subst hj
      have hl : j < ρ.length := by
        have := (List.getElem?_eq_some_iff.mp h).1
        rwa [List.length_set] at this
      rw [List.getElem?_set_self hl] at h
      cases h
      exact .inl ⟨rfl, rfl⟩
    · rw [List.getElem?_set_ne (Ne.symm hj)] at h
      exact .inr ⟨hj, h⟩
  have getv : ∀ (j : Nat) (w : Option V), j ≠ i → (σ.set i (some (V.ref p)))[j]? = some w → σ[j]? = some w := fun j w hj h => by
    rw [List.getElem?_set_ne (Ne.symm hj)] at h
    exact h
  have gets : ∀ (w : Option V), (σ.set i (some (V.ref p)))[i]? = some w → w = some (V.ref p) := fun w h2 => by
    have hl : i < σ.length := by
      have := (List.getElem?_eq_some_iff.mp h2).1
      rwa [List.length_set] at this
    rw [List.getElem?_set_self hl] at h2
    cases h2
    rfl
  refine ⟨S.fr, by rw [List.length_set, List.length_set]; exact S.len, fun j s w h1 h2 => ?_, fun a b q m n da db h1 h2 h3 h4 => ?_, fun j m da q h1 h2 => ?_⟩
  · rcases get j s h1 with ⟨rfl, rfl⟩ | ⟨hj, h1⟩
    · rw [gets w h2]
      exact ⟨p, vs, rfl, hg, h, hr⟩
    · exact S.sl j s w h1 (getv j w hj h2)
  · rcases get a _ h1 with ⟨rfl, e⟩ | ⟨ha, h1⟩
    · rcases get b _ h2 with ⟨rfl, e⟩ | ⟨hb, h2⟩
      · rfl
      · have e1 := gets _ h3
        cases e1
        exact absurd (getv b _ hb h4) (hn b n db h2)
    · rename_i h1'
      rcases get b _ h2 with ⟨rfl, e⟩ | ⟨hb, h2⟩
      · have e1 := gets _ h4
        cases e1
        exact absurd (getv a _ ha h3) (hn a m da (by assumption))
      · exact S.dis a b q _ _ _ _ h1 h2 (getv a _ ha h3) (getv b _ hb h4)
  · rcases get j _ h1 with ⟨rfl, e⟩ | ⟨hj, h1⟩
    · have e1 := gets _ h2
      cases e1
      cases e
      exact hf
    · exact S.own j m da q h1 (getv j _ hj h2)
/-- a slot is forgotten -/
theorem SRel.wipe1 (S : SRel K F G H σ ρ) (i : Nat) (w : Option V) : SRel K F G H (σ.set i w) (ρ.set i .un) := by
  have get : ∀ (j : Nat) (s : Sl), (ρ.set i .un)[j]? = some s → (j = i ∧ s = .un) ∨ (j ≠ i ∧ ρ[j]? = some s) := fun j s h => by
    by_cases hj : j = i
    · subst hj
      have hl : j < ρ.length := by
        have := (List.getElem?_eq_some_iff.mp h).1
        rwa [List.length_set] at this
      rw [List.getElem?_set_self hl] at h
      cases h
      exact .inl ⟨rfl, rfl⟩
    · rw [List.getElem?_set_ne (Ne.symm hj)] at h
      exact .inr ⟨hj, h⟩
  have getv : ∀ (j : Nat) (u : Option V), j ≠ i → (σ.set i w)[j]? = some u → σ[j]? = some u := fun j u hj h => by
    rw [List.getElem?_set_ne (Ne.symm hj)] at h
    exact h
  refine ⟨S.fr, by rw [List.length_set, List.length_set]; exact S.len, fun j s u h1 h2 => ?_, fun a b q m n da db h1 h2 h3 h4 => ?_, fun j m da q h1 h2 => ?_⟩
  · rcases get j s h1 with ⟨rfl, rfl⟩ | ⟨hj, h1⟩
    · cases u <;> trivial
    · exact S.sl j s u h1 (getv j u hj h2)
  · rcases get a _ h1 with ⟨_, e⟩ | ⟨ha, h1⟩
    · cases e
    · rcases get b _ h2 with ⟨_, e⟩ | ⟨hb, h2⟩
      · cases e
      · exact S.dis a b q _ _ _ _ h1 h2 (getv a _ ha h3) (getv b _ hb h4)
  · rcases get j _ h1 with ⟨_, e⟩ | ⟨hj, h1⟩
    · cases e
    · exact S.own j m da q h1 (getv j _ hj h2)
/-- the same state, told from here on -/
def here (G H : Hp) (σ : St) (ρ : Sls) : Fr := ⟨G, H, fun a => ∃ (i : Nat) (l : Kd) (ds : List D), ρ[i]? = some (.ow l ds) ∧ σ[i]? = some (some (.ref a))⟩
def unloc : Sl → Sl
  | .ow _ ds => .ow .any ds
  | s => s
theorem SRel.reframe (S : SRel K F G H σ ρ) : SRel K (here G H σ ρ) G H σ (ρ.map unloc) := by
  have get : ∀ (j : Nat) (s : Sl), (ρ.map unloc)[j]? = some s → ∃ s', ρ[j]? = some s' ∧ s = unloc s' := fun j s h => by
    rw [List.getElem?_map] at h
    cases e : ρ[j]? with
    | none => rw [e] at h; cases h
    | some s' => rw [e] at h; cases h; exact ⟨s', rfl, rfl⟩
  have geto : ∀ (j : Nat) (l : Kd) (ds : List D), (ρ.map unloc)[j]? = some (.ow l ds) → l = .any ∧ ∃ l', ρ[j]? = some (.ow l' ds) := fun j l ds h => by
    obtain ⟨s', h1, h2⟩ := get j _ h
    cases s' with
    | un => cases h2
    | fz d => cases h2
    | ow l' ds' => cases h2; exact ⟨rfl, l', h1⟩
  refine ⟨⟨S.ex, fun a o _ => rfl, fun a o h _ => h, fun a o h => ⟨o, h⟩⟩, by rw [List.length_map]; exact S.len, fun j s w h1 h2 => ?_, fun a b q m n da db h1 h2 h3 h4 => ?_, fun j m da q h1 h2 => ?_⟩
  · obtain ⟨s', h1', rfl⟩ := get j s h1
    have q := S.sl j s' w h1' h2
    cases s' with
    | un => exact q
    | fz d => exact q
    | ow l ds => cases w <;> exact q
  · obtain ⟨_, _, h1⟩ := geto a _ _ h1
    obtain ⟨_, _, h2⟩ := geto b _ _ h2
    exact S.dis a b q _ _ _ _ h1 h2 h3 h4
  · obtain ⟨e, l', h1'⟩ := geto j _ _ h1
    subst e
    exact .inr ⟨j, l', da, h1', h2⟩
theorem FrOk.back (S : SRel K F G H σ ρ) (T : FrOk (here G H σ ρ) G' H') : FrOk F G' H' := by
  refine ⟨T.ex, fun a o h => ?_, fun a o h np => ?_, fun a o h => ?_⟩
  · obtain ⟨o', q⟩ := S.fr.th a o h
    exact (T.old a o' q).trans (S.fr.old a o h)
  · have q := S.fr.kp a o h np
    refine T.kp a o q ?_
    rintro ⟨i, l, ds, h1, h2⟩
    rcases (S.own i l ds a h1 h2).or with z | z
    · rw [h] at z; cases z
    · exact np z
  · obtain ⟨o', q⟩ := S.fr.th a o h
    exact T.th a o' q
theorem FrOk.grow (T : FrOk (here G H σ ρ) G' H') (e : Ex G H) : Ex G G' := fun a o h => by
  rw [T.old a o (e a o h)]
  exact h
end
end DL
namespace DL
open PySem L2
open Evl (Ex)

/-! ### judgements over data -/
section
variable (K : PySem.W.Frag) (F : Fr)
def wE (te : TE) (ρ : Sls) (P : Sls → D → Prop) : Prop := ∀ (σ : St) (G H : Hp), SRel K F G H σ ρ → ∀ Q : VK,
  (∀ (v : V) (d : D) (ρ' : Sls) (G' H' : Hp), P ρ' d → SRel K F G' H' σ ρ' → Rep K G' v d → Ex G G' → Q v H') → te σ H Q
def wT (tt : TT) (ρ : Sls) (P : Sls → Bool → Prop) : Prop := ∀ (σ : St) (G H : Hp), SRel K F G H σ ρ → ∀ Q : Bool → Hp → Prop,
  (∀ (b : Bool) (ρ' : Sls) (G' H' : Hp), P ρ' b → SRel K F G' H' σ ρ' → Ex G G' → Q b H') → tt σ H Q
def wA (ta : TA) (ρ : Sls) (P : Sls → List D → Prop) : Prop := ∀ (σ : St) (G H : Hp), SRel K F G H σ ρ → ∀ Q : List V → Hp → Prop,
  (∀ (vs : List V) (ds : List D) (ρ' : Sls) (G' H' : Hp), P ρ' ds → SRel K F G' H' σ ρ' → RepL K G' vs ds → Ex G G' → Q vs H') → ta σ H Q
/-- a new list of its own -/
structure Own (G H : Hp) (σ : St) (ρ : Sls) (p : Addr) (vs : List V) (ds : List D) : Prop where
  g : G p = none
  h : H p = some (.lst vs)
  r : RepL K G vs ds
  f : F.H0 p = none
  n : ∀ (i : Nat) (l : Kd) (ds : List D), ρ[i]? = some (.ow l ds) → σ[i]? ≠ some (some (.ref p))
def wO (te : TE) (ρ : Sls) (P : Sls → List D → Prop) : Prop := ∀ (σ : St) (G H : Hp), SRel K F G H σ ρ → ∀ Q : VK,
  (∀ (p : Addr) (vs : List V) (ds : List D) (ρ' : Sls) (G' H' : Hp), P ρ' ds → SRel K F G' H' σ ρ' → Own K F G' H' σ ρ' p vs ds → Ex G G' → Q (.ref p) H') → te σ H Q
/-- an operation on values -/
def wR (r : R2) (x y : D) (ρ : Sls) (P : Sls → D → Prop) : Prop := ∀ (σ : St) (G H : Hp) (vx vy : V), SRel K F G H σ ρ → Rep K G vx x → Rep K G vy y → ∀ Q : VK,
  (∀ (v : V) (d : D) (ρ' : Sls) (G' H' : Hp), P ρ' d → SRel K F G' H' σ ρ' → Rep K G' v d → Ex G G' → Q v H') → r vx vy H Q
def wRO (r : R2) (x y : D) (ρ : Sls) (P : Sls → List D → Prop) : Prop := ∀ (σ : St) (G H : Hp) (vx vy : V), SRel K F G H σ ρ → Rep K G vx x → Rep K G vy y → ∀ Q : VK,
  (∀ (p : Addr) (vs : List V) (ds : List D) (ρ' : Sls) (G' H' : Hp), P ρ' ds → SRel K F G' H' σ ρ' → Own K F G' H' σ ρ' p vs ds → Ex G G' → Q (.ref p) H') → r vx vy H Q
def wC (r : List V → Hp → VK → Prop) (xs : List D) (ρ : Sls) (P : Sls → D → Prop) : Prop := ∀ (σ : St) (G H : Hp) (vs : List V), SRel K F G H σ ρ → RepL K G vs xs → ∀ Q : VK,
  (∀ (v : V) (d : D) (ρ' : Sls) (G' H' : Hp), P ρ' d → SRel K F G' H' σ ρ' → Rep K G' v d → Ex G G' → Q v H') → r vs H Q
def wCO (r : List V → Hp → VK → Prop) (xs : List D) (ρ : Sls) (P : Sls → List D → Prop) : Prop := ∀ (σ : St) (G H : Hp) (vs : List V), SRel K F G H σ ρ → RepL K G vs xs → ∀ Q : VK,
  (∀ (p : Addr) (ws : List V) (ds : List D) (ρ' : Sls) (G' H' : Hp), P ρ' ds → SRel K F G' H' σ ρ' → Own K F G' H' σ ρ' p ws ds → Ex G G' → Q (.ref p) H') → r vs H Q
/-- a target -/
def wG (g : TG) (x : D) (ρ : Sls) (P : Sls → Prop) : Prop := ∀ (σ : St) (G H : Hp) (v : V), SRel K F G H σ ρ → Rep K G v x → ∀ Q : St → Hp → Prop,
  (∀ (ρ' : Sls) (σ' : St) (G' H' : Hp), P ρ' → SRel K F G' H' σ' ρ' → Ex G G' → Q σ' H') → g v σ H Q
structure Out where
  nx : Sls → Prop
  rt : Sls → D → Prop
  ro : Sls → List D → Prop := fun _ _ => False
  bk : Sls → Prop := fun _ => False
  ct : Sls → Prop := fun _ => False
structure DOk (G0 : Hp) (D1 : Ends) (O : Out) : Prop where
  nx : ∀ (ρ : Sls) (σ : St) (G H : Hp), O.nx ρ → SRel K F G H σ ρ → Ex G0 G → D1.nx σ H
  rt : ∀ (ρ : Sls) (σ : St) (G H : Hp) (v : V) (d : D), O.rt ρ d → SRel K F G H σ ρ → Ex G0 G → Rep K G v d → D1.rt v H
  ro : ∀ (ρ : Sls) (σ : St) (G H : Hp) (p : Addr) (vs : List V) (ds : List D), O.ro ρ ds → SRel K F G H σ ρ → Ex G0 G → G p = none → H p = some (.lst vs) → RepL K G vs ds → F.H0 p = none → D1.rt (.ref p) H
  bk : ∀ (ρ : Sls) (σ : St) (G H : Hp), O.bk ρ → SRel K F G H σ ρ → Ex G0 G → D1.bk σ H
  ct : ∀ (ρ : Sls) (σ : St) (G H : Hp), O.ct ρ → SRel K F G H σ ρ → Ex G0 G → D1.ct σ H
def wS (ts : TS) (ρ : Sls) (O : Out) : Prop := ∀ (σ : St) (G H : Hp), SRel K F G H σ ρ → ∀ D1 : Ends, DOk K F G D1 O → ts D1 σ H
end

section
variable {K : PySem.W.Frag} {F : Fr} {ρ : Sls} {P : Sls → D → Prop} {te ta tb : TE} {r : R2} {x y : D}

theorem wE_mono {P' : Sls → D → Prop} (h : wE K F te ρ P) (m : ∀ ρ d, P ρ d → P' ρ d) : wE K F te ρ P' := fun σ G H S Q q => h σ G H S Q fun v d ρ' G' H' p => q v d ρ' G' H' (m _ _ p)
theorem wT_mono {tt : TT} {P P' : Sls → Bool → Prop} (h : wT K F tt ρ P) (m : ∀ ρ d, P ρ d → P' ρ d) : wT K F tt ρ P' := fun σ G H S Q q => h σ G H S Q fun v d ρ' G' p => q v d ρ' G' (m _ _ p)
theorem wA_mono {ta : TA} {P P' : Sls → List D → Prop} (h : wA K F ta ρ P) (m : ∀ ρ d, P ρ d → P' ρ d) : wA K F ta ρ P' := fun σ G H S Q q => h σ G H S Q fun v d ρ' G' H' p => q v d ρ' G' H' (m _ _ p)
theorem wO_mono {P P' : Sls → List D → Prop} (h : wO K F te ρ P) (m : ∀ ρ d, P ρ d → P' ρ d) : wO K F te ρ P' := fun σ G H S Q q => h σ G H S Q fun v ws d ρ' G' H' p => q v ws d ρ' G' H' (m _ _ p)
theorem wG_mono {g : TG} {x : D} {P P' : Sls → Prop} (h : wG K F g x ρ P) (m : ∀ ρ, P ρ → P' ρ) : wG K F g x ρ P' := fun σ G H v S r Q q => h σ G H v S r Q fun ρ' σ' G' H' p => q ρ' σ' G' H' (m _ p)
theorem wS_mono {ts : TS} {O O' : Out} (h : wS K F ts ρ O) (nx : ∀ ρ, O.nx ρ → O'.nx ρ) (rt : ∀ ρ d, O.rt ρ d → O'.rt ρ d) (ro : ∀ ρ d, O.ro ρ d → O'.ro ρ d) (bk : ∀ ρ, O.bk ρ → O'.bk ρ) (ct : ∀ ρ, O.ct ρ → O'.ct ρ) : wS K F ts ρ O' := fun σ G H S D1 q =>
  h σ G H S D1 ⟨fun a b c d e => q.nx a b c d (nx _ e), fun a b c d e f g => q.rt a b c d e f (rt _ _ g), fun a b c d e f g i => q.ro a b c d e f g (ro _ _ i), fun a b c d e => q.bk a b c d (bk _ e), fun a b c d e => q.ct a b c d (ct _ e)⟩

/-! names, constants -/
theorem wE_var {i : Nat} {d : D} (h : ρ[i]? = some (.fz d)) (p : P ρ d) : wE K F (tVar i) ρ P := fun σ G H S Q q => by
  obtain ⟨v, e, r⟩ := S.fz h
  exact ⟨v, e, q v d ρ G H p S r (Ex.refl G)⟩
theorem wE_int {i : Int} (p : P ρ (.int i)) : wE K F (tC (.int i)) ρ P := fun σ G H S Q q => q _ _ ρ G H p S (.int i) (Ex.refl G)
theorem wE_bl {i : Bool} (p : P ρ (.bl i)) : wE K F (tC (.bl i)) ρ P := fun σ G H S Q q => q _ _ ρ G H p S (.bl i) (Ex.refl G)
theorem wE_str {i : Str} (p : P ρ (.str i)) : wE K F (tC (.str i)) ρ P := fun σ G H S Q q => q _ _ ρ G H p S (.str i) (Ex.refl G)
theorem wE_non (p : P ρ .non) : wE K F (tC .non) ρ P := fun σ G H S Q q => q _ _ ρ G H p S .non (Ex.refl G)
theorem wE_ty {n : String} (p : P ρ (.ty n)) : wE K F (tC (.ty n)) ρ P := fun σ G H S Q q => q _ _ ρ G H p S (.ty n) (Ex.refl G)
theorem wE_con {v : V} {d : D} (hc : ∀ G, Rep K G v d) (p : P ρ d) : wE K F (tC v) ρ P := fun σ G H S Q q => q _ _ ρ G H p S (hc G) (Ex.refl G)
/-- an own list is taken as it stands from now on -/
theorem SRel.freezeAt {G H : Hp} {σ : St} (S : SRel K F G H σ ρ) {i : Nat} {ds : List D} (h : ρ[i]? = some (.ow .loc ds)) : ∃ p vs G', σ[i]? = some (some (.ref p)) ∧ SRel K F G' H σ (ρ.set i (.fz (.lst ds))) ∧ Ex G G' ∧ G' p = some (.lst vs) ∧ RepL K G' vs ds := by
  obtain ⟨p, vs, e, hg, hh, hr⟩ := S.ow h
  have hf : F.H0 p = none := S.own i .loc ds p h e
  have S1 : SRel K F G H σ (ρ.set i .un) := by
    have q := S.wipe1 i (some (.ref p))
    have e1 : σ.set i (some (.ref p)) = σ := by
      apply List.ext_getElem?
      intro j
      by_cases hj : j = i
      · subst hj
        rw [List.getElem?_set_self (List.getElem?_eq_some_iff.mp e).1, e]
      · rw [List.getElem?_set_ne (Ne.symm hj)]
    rw [e1] at q
    exact q
  have hn : ∀ (j : Nat) (l : Kd) (es : List D), (ρ.set i .un)[j]? = some (.ow l es) → σ[j]? ≠ some (some (.ref p)) := fun j l es h1 h2 => by
    by_cases hj : j = i
    · subst hj
      rw [List.getElem?_set_self (List.getElem?_eq_some_iff.mp h).1] at h1
      cases h1
    · rw [List.getElem?_set_ne (Ne.symm hj)] at h1
      exact hj (S.dis j i p l .loc es ds h1 h h2 e)
  have S2 := S1.freeze (o := .lst vs) hg hh hf hn
  have ex : Ex G (upd G p (.lst vs)) := Ex.new hg
  have S3 := S2.set (i := i) (v := .ref p) (d := .lst ds) (.lst upd_same (RepL.up ex hr))
  have e1 : σ.set i (some (.ref p)) = σ := by
    apply List.ext_getElem?
    intro j
    by_cases hj : j = i
    · subst hj
      rw [List.getElem?_set_self (List.getElem?_eq_some_iff.mp e).1, e]
    · rw [List.getElem?_set_ne (Ne.symm hj)]
  rw [e1, List.set_set] at S3
  exact ⟨p, vs, _, e, S3, ex, upd_same, RepL.up ex hr⟩
theorem wE_varF {i : Nat} {ds : List D} (h : ρ[i]? = some (.ow .loc ds)) (p : P (ρ.set i (.fz (.lst ds))) (.lst ds)) : wE K F (tVar i) ρ P := fun σ G H S Q q => by
  obtain ⟨a, vs, G', e, S', ex, hg, hr⟩ := S.freezeAt h
  exact ⟨.ref a, e, q _ _ _ G' H p S' (.lst hg hr) ex⟩
/-- an own list made is taken as a thing -/
theorem Own.freeze {G H : Hp} {σ : St} {p : Addr} {vs : List V} {ds : List D} (S : SRel K F G H σ ρ) (o : Own K F G H σ ρ p vs ds) : ∃ G', SRel K F G' H σ ρ ∧ Ex G G' ∧ Rep K G' (.ref p) (.lst ds) :=
  ⟨upd G p (.lst vs), S.freeze o.g o.h o.f o.n, Ex.new o.g, .lst upd_same (RepL.up (Ex.new o.g) o.r)⟩
theorem wE_ofO (h : wO K F te ρ fun ρ' ds => P ρ' (.lst ds)) : wE K F te ρ P := fun σ G H S Q q => h σ G H S Q fun p vs ds ρ' G' H' pp S' o ex => by
  obtain ⟨G2, S2, e2, r2⟩ := o.freeze S'
  exact q _ _ ρ' G2 H' pp S2 r2 (ex.trans e2)
theorem wRO_E (h : wRO K F r x y ρ fun ρ' ds => P ρ' (.lst ds)) : wR K F r x y ρ P := fun σ G H vx vy S rx ry Q q => h σ G H vx vy S rx ry Q fun p vs ds ρ' G' H' pp S' o ex => by
  obtain ⟨G2, S2, e2, r2⟩ := o.freeze S'
  exact q _ _ ρ' G2 H' pp S2 r2 (ex.trans e2)

/-! operators -/
theorem wE_op (h : wE K F ta ρ fun ρ1 x => wE K F tb ρ1 fun ρ2 y => wR K F r x y ρ2 P) : wE K F (tOp r ta tb) ρ P := fun σ G H S Q q =>
  h σ G H S _ fun vx x ρ1 G1 H1 h1 S1 r1 e1 => h1 σ G1 H1 S1 _ fun vy y ρ2 G2 H2 h2 S2 r2 e2 =>
    h2 σ G2 H2 vx vy S2 (r1.up e2) r2 Q fun v d ρ' G' H' p S' r' e' => q v d ρ' G' H' p S' r' ((e1.trans e2).trans e')
theorem wO_op {P : Sls → List D → Prop} (h : wE K F ta ρ fun ρ1 x => wE K F tb ρ1 fun ρ2 y => wRO K F r x y ρ2 P) : wO K F (tOp r ta tb) ρ P := fun σ G H S Q q =>
  h σ G H S _ fun vx x ρ1 G1 H1 h1 S1 r1 e1 => h1 σ G1 H1 S1 _ fun vy y ρ2 G2 H2 h2 S2 r2 e2 =>
    h2 σ G2 H2 vx vy S2 (r1.up e2) r2 Q fun p vs d ρ' G' H' pp S' r' e' => q p vs d ρ' G' H' pp S' r' ((e1.trans e2).trans e')
theorem wR_I0 {g : Int → Int → Int} {i j : Int} (p : P ρ (.int (g i j))) : wR K F (rI0 fun i j => .int (g i j)) (.int i) (.int j) ρ P := fun σ G H vx vy S rx ry Q q => by
  cases rx
  cases ry
  exact ⟨i, j, rfl, rfl, q _ _ ρ G H p S (.int _) (Ex.refl G)⟩
theorem wR_B0 {g : Int → Int → Bool} {i j : Int} (p : P ρ (.bl (g i j))) : wR K F (rI0 fun i j => .bl (g i j)) (.int i) (.int j) ρ P := fun σ G H vx vy S rx ry Q q => by
  cases rx
  cases ry
  exact ⟨i, j, rfl, rfl, q _ _ ρ G H p S (.bl _) (Ex.refl G)⟩
theorem wR_I {C : Int → Int → Prop} {g : Int → Int → Int} {i j : Int} (hc : C i j) (p : P ρ (.int (g i j))) : wR K F (rI C fun i j => .int (g i j)) (.int i) (.int j) ρ P := fun σ G H vx vy S rx ry Q q => by
  cases rx
  cases ry
  exact ⟨i, j, rfl, rfl, hc, q _ _ ρ G H p S (.int _) (Ex.refl G)⟩
/-! data that == goes through -/
mutual
def toPy : D → Option PyData
  | .non => some .none
  | .bl b => some (.bool b)
  | .int i => some (.int i)
  | .str x => some (.str x)
  | .lst xs => (toPyL xs).map .list
  | .tup xs => (toPyL xs).map .tuple
  | .scr _ => none
  | .ty _ => none
  | .adr _ => none
  | .dct _ => none
  | .obj _ _ => none
def toPyL : List D → Option (List PyData)
  | [] => some []
  | d :: ds => match toPy d, toPyL ds with
    | some p, some ps => some (p :: ps)
    | _, _ => none
end
mutual
theorem Rep.dp {G H : Hp} (ex : Ex G H) : ∀ (d : D) (v : V) (p : PyData), Rep K G v d → toPy d = some p → Dp K H v p
  | .non, _, _, h, e => by cases h; simp [toPy] at e; subst e; exact .non
  | .bl b, _, _, h, e => by cases h; simp [toPy] at e; subst e; exact .bl b
  | .int b, _, _, h, e => by cases h; simp [toPy] at e; subst e; exact .int b
  | .str b, _, _, h, e => by cases h; simp [toPy] at e; subst e; exact .str b
  | .lst ds, _, _, h, e => by
    cases h with
    | lst h1 h2 =>
      simp only [toPy, Option.map_eq_some_iff] at e
      obtain ⟨ps, e1, rfl⟩ := e
      exact .lst (SqL.of (ex _ _ h1)) (RepL.dp ex ds _ ps h2 e1)
  | .tup ds, _, _, h, e => by
    cases h with
    | tup h1 h2 =>
      simp only [toPy, Option.map_eq_some_iff] at e
      obtain ⟨ps, e1, rfl⟩ := e
      exact .tup (Evl.ex_t ex h1) (RepL.dp ex ds _ ps h2 e1)
  | .scr _, _, _, _, e => by simp [toPy] at e
  | .ty _, _, _, _, e => by simp [toPy] at e
  | .adr _, _, _, _, e => by simp [toPy] at e
  | .dct _, _, _, _, e => by simp [toPy] at e
  | .obj _ _, _, _, _, e => by simp [toPy] at e
theorem RepL.dp {G H : Hp} (ex : Ex G H) : ∀ (ds : List D) (vs : List V) (ps : List PyData), RepL K G vs ds → toPyL ds = some ps → DpAll K H vs ps
  | [], _, _, h, e => by cases h; simp [toPyL] at e; subst e; exact .nil
  | d :: ds, _, _, h, e => by
    cases h with
    | cons h1 h2 =>
      rw [toPyL] at e
      cases e1 : toPy d with
      | none => rw [e1] at e; cases e
      | some p =>
        cases e2 : toPyL ds with
        | none => rw [e1, e2] at e; cases e
        | some ps =>
          rw [e1, e2] at e
          cases e
          exact .cons (Rep.dp ex d _ p h1 e1) (RepL.dp ex ds _ ps h2 e2)
end
theorem wR_eqD {a b : PyData} (h1 : toPy x = some a) (h2 : toPy y = some b) (s1 : SeqAt.shaped a = true) (s2 : SeqAt.shaped b = true) (p : P ρ (.bl (PyData.eqv a b))) : wR K F (rEqD K) x y ρ P := fun σ G H vx vy S rx ry Q q =>
  ⟨a, b, Rep.dp S.ex x vx a rx h1, Rep.dp S.ex y vy b ry h2, s1, s2, q _ _ ρ G H p S (.bl _) (Ex.refl G)⟩
theorem wR_neD {a b : PyData} (h1 : toPy x = some a) (h2 : toPy y = some b) (s1 : SeqAt.shaped a = true) (s2 : SeqAt.shaped b = true) (p : P ρ (.bl (!PyData.eqv a b))) : wR K F (rNeD K) x y ρ P := fun σ G H vx vy S rx ry Q q =>
  ⟨a, b, Rep.dp S.ex x vx a rx h1, Rep.dp S.ex y vy b ry h2, s1, s2, q _ _ ρ G H p S (.bl _) (Ex.refl G)⟩
/-- is None -/
def isN : D → Bool
  | .non => true
  | _ => false
theorem Rep.isN {G : Hp} {v : V} {d : D} (h : Rep K G v d) : decide (v = .non) = DL.isN d := by
  cases h <;> first | rfl | (exact decide_eq_false (fun z => nomatch z))
theorem wR_isN (p : P ρ (.bl (isN x))) : wR K F (fun x y H Q => y = .non ∧ Q (.bl (decide (x = .non))) H) x .non ρ P := fun σ G H vx vy S rx ry Q q => by
  cases ry
  refine ⟨rfl, ?_⟩
  rw [rx.isN]
  exact q _ _ ρ G H p S (.bl _) (Ex.refl G)
theorem wR_notN (p : P ρ (.bl (!isN x))) : wR K F (fun x y H Q => y = .non ∧ Q (.bl (!decide (x = .non))) H) x .non ρ P := fun σ G H vx vy S rx ry Q q => by
  cases ry
  refine ⟨rfl, ?_⟩
  rw [rx.isN]
  exact q _ _ ρ G H p S (.bl _) (Ex.refl G)
/-- items -/
theorem atI_rep {G : Hp} {vs : List V} {ds : List D} {i : Int} {d : D} (h : RepL K G vs ds) (e : atI ds i = some d) : ∃ v, atI vs i = some v ∧ Rep K G v d := by
  unfold atI at e ⊢
  rw [h.length]
  cases q : ixN ds.length i with
  | none => rw [q] at e; cases e
  | some j =>
    rw [q] at e
    obtain ⟨v, h1, h2⟩ := h.get (i := j) (by simpa using e)
    exact ⟨v, by simpa using h1, h2⟩
theorem wR_ixL {ds : List D} {i : Int} {d : D} (h : atI ds i = some d) (p : P ρ d) : wR K F (rIxL K) (.lst ds) (.int i) ρ P := fun σ G H vx vy S rx ry Q q => by
  cases ry
  cases rx with
  | lst h1 h2 =>
    obtain ⟨v, e, r⟩ := atI_rep h2 h
    exact ⟨_, _, i, v, rfl, rfl, SqL.of (S.ex _ _ h1), e, q _ _ ρ G H p S r (Ex.refl G)⟩
theorem wR_ixT {ds : List D} {i : Int} {d : D} (h : atI ds i = some d) (p : P ρ d) : wR K F (rIxT K) (.tup ds) (.int i) ρ P := fun σ G H vx vy S rx ry Q q => by
  cases ry
  cases rx with
  | tup h1 h2 =>
    obtain ⟨v, e, r⟩ := atI_rep h2 h
    exact ⟨_, _, i, v, rfl, rfl, Evl.ex_t S.ex h1, e, q _ _ ρ G H p S r (Ex.refl G)⟩
theorem atI_of {α : Type} {ds : List α} {i : Int} (h0 : 0 ≤ i) (h1 : i < (ds.length : Int)) : ∃ d, d ∈ ds ∧ atI ds i = some d := by
  have hl : i.toNat < ds.length := by omega
  refine ⟨ds[i.toNat], List.getElem_mem hl, ?_⟩
  have e : i = (i.toNat : Int) := by omega
  conv => lhs; rw [e]
  exact atI_nat (List.getElem?_eq_getElem hl)
/-- an item of a written list at a drawn place -/
theorem wR_ixLAll {ds : List D} {i : Int} (h0 : 0 ≤ i) (h1 : i < (ds.length : Int)) (p : ∀ d, d ∈ ds → P ρ d) : wR K F (rIxL K) (.lst ds) (.int i) ρ P := by
  obtain ⟨d, hm, e⟩ := atI_of h0 h1
  exact wR_ixL e (p d hm)
theorem wR_ixScr {ns : List Int} {i : Int} {n : Int} (h : atI ns i = some n) (p : P ρ (.int n)) : wR K F (rIxL K) (.scr ns) (.int i) ρ P := fun σ G H vx vy S rx ry Q q => by
  cases ry
  cases rx with
  | scr h1 =>
    refine ⟨_, _, i, .int n, rfl, rfl, Evl.ex_l S.ex h1, ?_, q _ _ ρ G H p S (.int n) (Ex.refl G)⟩
    unfold atI at h ⊢
    rw [List.length_map]
    cases e : ixN ns.length i with
    | none => rw [e] at h; cases h
    | some j =>
      rw [e] at h
      simp only [Option.bind_some] at h ⊢
      rw [List.getElem?_map, h]
      rfl
/-- an item of an own list -/
theorem wE_ixO {i : Nat} {l : Kd} {ds : List D} (h : ρ[i]? = some (.ow l ds)) (hb : wE K F tb ρ fun ρ2 y => ∃ (k : Int) (ds2 : List D) (d : D), y = .int k ∧ ρ2[i]? = some (.ow l ds2) ∧ atI ds2 k = some d ∧ P ρ2 d) : wE K F (tOp (rIxL K) (tVar i) tb) ρ P := fun σ G H S Q q => by
  obtain ⟨p, vs, e, hg, hh, hr⟩ := S.ow h
  refine ⟨.ref p, e, hb σ G H S _ fun vy y ρ2 G2 H2 hp S2 r2 e2 => ?_⟩
  obtain ⟨k, ds2, d, rfl, hi2, ha, pp⟩ := hp
  obtain ⟨p2, vs2, e', hg2, hh2, hr2⟩ := S2.ow hi2
  rw [e] at e'
  cases e'
  cases r2
  obtain ⟨v, ev, rv⟩ := atI_rep hr2 ha
  exact ⟨p, vs2, k, v, rfl, rfl, SqL.of hh2, ev, q _ _ ρ2 G2 H2 pp S2 rv e2⟩

/-- a truth -/
def onB (P : Bool → Prop) : D → Prop
  | .bl b => P b
  | _ => False
theorem onB_bl {P : Bool → Prop} {b : Bool} (p : P b) : onB P (.bl b) := p
theorem onB_ex {P : Bool → Prop} : ∀ {d : D}, onB P d → ∃ b, d = .bl b ∧ P b
  | .bl b, h => ⟨b, rfl, h⟩
  | .non, h => h.elim
  | .int _, h => h.elim
  | .str _, h => h.elim
  | .ty _, h => h.elim
  | .adr _, h => h.elim
  | .lst _, h => h.elim
  | .tup _, h => h.elim
  | .scr _, h => h.elim
  | .dct _, h => h.elim
  | .obj _ _, h => h.elim
/-- two ways, told apart by a truth -/
structure Ways (b : Bool) (A B : Prop) : Prop where
  yes : b = true → A
  no : b = false → B
theorem ways {b : Bool} {A B : Prop} (h1 : b = true → A) (h2 : b = false → B) : Ways b A B := ⟨h1, h2⟩
theorem ways_t {A B : Prop} (h1 : A) : Ways true A B := ⟨fun _ => h1, fun z => (nomatch z)⟩
theorem ways_f {A B : Prop} (h1 : B) : Ways false A B := ⟨fun z => (nomatch z), fun _ => h1⟩
theorem ways_not {b : Bool} {A B : Prop} (h : Ways b B A) : Ways (!b) A B := by
  cases b with
  | true => exact ways_f (h.yes rfl)
  | false => exact ways_t (h.no rfl)
theorem ways_dec {p : Prop} {h : Decidable p} {A B : Prop} (h1 : p → A) (h2 : ¬ p → B) : Ways (@decide p h) A B := ⟨fun z => h1 (of_decide_eq_true z), fun z => h2 (of_decide_eq_false z)⟩
theorem ways_ev_t {b : Bool} {A B : Prop} (e : b = true) (h : A) : Ways b A B := by rw [e]; exact ways_t h
theorem ways_ev_f {b : Bool} {A B : Prop} (e : b = false) (h : B) : Ways b A B := by rw [e]; exact ways_f h
theorem ways_same {b : Bool} {A : Prop} (h : A) : Ways b A A := ⟨fun _ => h, fun _ => h⟩

/-! and, or, not, if as values -/
theorem wE_andV (h : wE K F ta ρ fun ρ1 => onB fun b => Ways b (wE K F tb ρ1 P) (P ρ1 (.bl false))) : wE K F (tAndV ta tb) ρ P := fun σ G H S Q q =>
  h σ G H S _ fun vx x ρ1 G1 H1 h1 S1 r1 e1 => by
    obtain ⟨b, rfl, ⟨ht, hf⟩⟩ := onB_ex h1
    cases r1
    refine ⟨b, rfl, ?_⟩
    cases b with
    | true => exact ht rfl σ G1 H1 S1 Q fun v d ρ' G' H' p S' r' e' => q v d ρ' G' H' p S' r' (e1.trans e')
    | false => exact q _ _ ρ1 G1 H1 (hf rfl) S1 (.bl false) e1
theorem wE_orV (h : wE K F ta ρ fun ρ1 => onB fun b => Ways b (P ρ1 (.bl true)) (wE K F tb ρ1 P)) : wE K F (tOrV ta tb) ρ P := fun σ G H S Q q =>
  h σ G H S _ fun vx x ρ1 G1 H1 h1 S1 r1 e1 => by
    obtain ⟨b, rfl, ⟨hf, ht⟩⟩ := onB_ex h1
    cases r1
    refine ⟨b, rfl, ?_⟩
    cases b with
    | false => exact ht rfl σ G1 H1 S1 Q fun v d ρ' G' H' p S' r' e' => q v d ρ' G' H' p S' r' (e1.trans e')
    | true => exact q _ _ ρ1 G1 H1 (hf rfl) S1 (.bl true) e1
theorem wE_notV (h : wE K F ta ρ fun ρ1 => onB fun b => P ρ1 (.bl (!b))) : wE K F (tNotV ta) ρ P := fun σ G H S Q q =>
  h σ G H S _ fun vx x ρ1 G1 H1 h1 S1 r1 e1 => by
    obtain ⟨b, rfl, hp⟩ := onB_ex h1
    cases r1
    exact ⟨b, rfl, q _ _ ρ1 G1 H1 hp S1 (.bl _) e1⟩
theorem wE_if {t : TT} (h : wT K F t ρ fun ρ1 b => Ways b (wE K F ta ρ1 P) (wE K F tb ρ1 P)) : wE K F (tIf t ta tb) ρ P := fun σ G H S Q q =>
  h σ G H S _ fun b ρ1 G1 H1 h1 S1 e1 => by
    cases b with
    | true => exact h1.1 rfl σ G1 H1 S1 Q fun v d ρ' G' H' p S' r' e' => q v d ρ' G' H' p S' r' (e1.trans e')
    | false => exact h1.2 rfl σ G1 H1 S1 Q fun v d ρ' G' H' p S' r' e' => q v d ρ' G' H' p S' r' (e1.trans e')
theorem wE_chain {r' : R2} {tc : TE} (h : wE K F ta ρ fun ρ1 x => wE K F tb ρ1 fun ρ2 y => wR K F r x y ρ2 fun ρ3 => onB fun b => Ways b (wE K F tc ρ3 fun ρ4 w => wR K F r' y w ρ4 P) (P ρ3 (.bl false))) : wE K F (tChain r r' ta tb tc) ρ P := fun σ G H S Q q =>
  h σ G H S _ fun vx x ρ1 G1 H1 h1 S1 r1 e1 => h1 σ G1 H1 S1 _ fun vy y ρ2 G2 H2 h2 S2 r2 e2 =>
    h2 σ G2 H2 vx vy S2 (r1.up e2) r2 _ fun v d ρ3 G3 H3 hp S3 r3 e3 => by
      obtain ⟨b, rfl, ⟨ht, hf⟩⟩ := onB_ex hp
      cases r3
      refine ⟨b, rfl, ?_⟩
      cases b with
      | true => exact ht rfl σ G3 H3 S3 _ fun vw w ρ4 G4 H4 h4 S4 r4 e4 => h4 σ G4 H4 vy vw S4 ((r2.up e3).up e4) r4 Q fun v d ρ' G' H' p S' r' e' => q v d ρ' G' H' p S' r' (((e1.trans e2).trans e3).trans (e4.trans e'))
      | false => exact q _ _ ρ3 G3 H3 (hf rfl) S3 (.bl false) ((e1.trans e2).trans e3)

/-! tests -/
section
variable {t u : TT} {PB : Sls → Bool → Prop}
theorem wT_test (h : wE K F te ρ fun ρ1 => onB (PB ρ1)) : wT K F (tTest te) ρ PB := fun σ G H S Q q =>
  h σ G H S _ fun vx x ρ1 G1 H1 h1 S1 r1 e1 => by
    obtain ⟨b, rfl, hp⟩ := onB_ex h1
    cases r1
    exact ⟨b, rfl, q _ ρ1 G1 H1 hp S1 e1⟩
theorem wT_B (h : wE K F te ρ fun ρ1 => onB (PB ρ1)) : wT K F (tB te) ρ PB := wT_test h
theorem wT_not (h : wT K F t ρ fun ρ1 b => PB ρ1 (!b)) : wT K F (tNot t) ρ PB := fun σ G H S Q q => h σ G H S _ fun b ρ1 G1 H1 h1 S1 e1 => q _ ρ1 G1 H1 h1 S1 e1
theorem wT_and (h : wT K F t ρ fun ρ1 b => Ways b (wT K F u ρ1 PB) (PB ρ1 false)) : wT K F (tAnd t u) ρ PB := fun σ G H S Q q =>
  h σ G H S _ fun b ρ1 G1 H1 h1 S1 e1 => by
    cases b with
    | true => exact h1.1 rfl σ G1 H1 S1 Q fun b ρ' G' H' p S' e' => q b ρ' G' H' p S' (e1.trans e')
    | false => exact q _ ρ1 G1 H1 (h1.2 rfl) S1 e1
theorem wT_or (h : wT K F t ρ fun ρ1 b => Ways b (PB ρ1 true) (wT K F u ρ1 PB)) : wT K F (tOr t u) ρ PB := fun σ G H S Q q =>
  h σ G H S _ fun b ρ1 G1 H1 h1 S1 e1 => by
    cases b with
    | false => exact h1.2 rfl σ G1 H1 S1 Q fun b ρ' G' H' p S' e' => q b ρ' G' H' p S' (e1.trans e')
    | true => exact q _ ρ1 G1 H1 (h1.1 rfl) S1 e1
end

/-! arguments, displays -/
theorem wA_nil {PA : Sls → List D → Prop} (p : PA ρ []) : wA K F tNil ρ PA := fun σ G H S Q q => q _ _ ρ G H p S .nil (Ex.refl G)
theorem wA_cons {PA : Sls → List D → Prop} {tr : TA} (h : wE K F ta ρ fun ρ1 x => wA K F tr ρ1 fun ρ2 xs => PA ρ2 (x :: xs)) : wA K F (tCons ta tr) ρ PA := fun σ G H S Q q =>
  h σ G H S _ fun vx x ρ1 G1 H1 h1 S1 r1 e1 => h1 σ G1 H1 S1 _ fun vs xs ρ2 G2 H2 h2 S2 r2 e2 => q _ _ ρ2 G2 H2 h2 S2 (.cons (r1.up e2) r2) (e1.trans e2)
theorem wE_tup {t : TA} (h : wA K F t ρ fun ρ1 ds => ds.length ≤ 100000 ∧ P ρ1 (.tup ds)) : wE K F (tTup t) ρ P := fun σ G H S Q q =>
  h σ G H S _ fun vs ds ρ1 G1 H1 h1 S1 r1 e1 => ⟨Evl.sz_of (by rw [r1.length]; exact h1.1), fun p hp =>
    q _ _ ρ1 (upd G1 p (.tup vs)) _ h1.2 (S1.new hp) (.tup (SqT.of upd_same) (r1.up (Ex.new (S1.fr.freshG hp)))) (e1.trans (Ex.new (S1.fr.freshG hp)))⟩
theorem Own.alloc {G H : Hp} {σ : St} {p : Addr} {vs : List V} {ds : List D} (S : SRel K F G H σ ρ) (hp : H p = none) (r : RepL K G vs ds) : Own K F G (upd H p (.lst vs)) σ ρ p vs ds :=
  ⟨S.fr.freshG hp, upd_same, r, S.fr.fresh hp, S.notOwn hp⟩
theorem wO_lst {t : TA} {PO : Sls → List D → Prop} (h : wA K F t ρ fun ρ1 ds => ds.length ≤ 100000 ∧ PO ρ1 ds) : wO K F (tLst t) ρ PO := fun σ G H S Q q =>
  h σ G H S _ fun vs ds ρ1 G1 H1 h1 S1 r1 e1 => ⟨Evl.sz_of (by rw [r1.length]; exact h1.1), fun p hp => q _ vs ds ρ1 G1 _ h1.2 (S1.alloc hp) (.alloc S1 hp r1) e1⟩

/-! list operators -/
theorem wRO_cat {xs ys : List D} {PO : Sls → List D → Prop} (hl : xs.length + ys.length ≤ 100000) (p : PO ρ (xs ++ ys)) : wRO K F rCat (.lst xs) (.lst ys) ρ PO := fun σ G H vx vy S rx ry Q q => by
  cases rx with
  | lst h1 h2 =>
    cases ry with
    | lst h3 h4 => exact ⟨_, _, _, _, rfl, rfl, S.ex _ _ h1, S.ex _ _ h3, Evl.sz_of (by rw [h2.length, h4.length]; exact hl), fun a ha => q _ _ _ ρ G _ p (S.alloc ha) (.alloc S ha (h2.append h4)) (Ex.refl G)⟩
/-- in, among flat things -/
def flatD : D → Bool
  | .non => true
  | .bl _ => true
  | .int _ => true
  | .str _ => true
  | _ => false
def valD : D → V
  | .non => .non
  | .bl b => .bl b
  | .int i => .int i
  | .str x => .str x
  | _ => .non
theorem Rep.flat {G : Hp} {v : V} {d : D} (h : Rep K G v d) (f : flatD d = true) : v = valD d ∧ flatV v = true := by
  cases h <;> first | exact ⟨rfl, rfl⟩ | cases f
theorem RepL.flat {G : Hp} : ∀ {vs : List V} {ds : List D}, RepL K G vs ds → ds.all flatD = true → vs = ds.map valD ∧ vs.all flatV = true
  | _, _, .nil, _ => ⟨rfl, rfl⟩
  | _, _, .cons r t, f => by
    rw [List.all_cons, Bool.and_eq_true] at f
    obtain ⟨e1, f1⟩ := r.flat f.1
    obtain ⟨e2, f2⟩ := RepL.flat t f.2
    refine ⟨by rw [e1, e2]; rfl, by rw [List.all_cons, f1, f2]; rfl⟩
def inD (x : D) (ds : List D) : Bool := inV (valD x) (ds.map valD)
theorem wR_inL {ds : List D} (hx : flatD x = true) (hd : ds.all flatD = true) (p : P ρ (.bl (inD x ds))) : wR K F (rIn K false) x (.lst ds) ρ P := fun σ G H vx vy S rx ry Q q => by
  obtain ⟨e1, f1⟩ := rx.flat hx
  cases ry with
  | lst h1 h2 =>
    obtain ⟨e2, f2⟩ := h2.flat hd
    refine ⟨_, _, rfl, .inl (SqL.of (S.ex _ _ h1)), f1, f2, ?_⟩
    subst e1 e2
    exact q _ _ ρ G H p S (.bl _) (Ex.refl G)
theorem wR_niL {ds : List D} (hx : flatD x = true) (hd : ds.all flatD = true) (p : P ρ (.bl (!inD x ds))) : wR K F (rIn K true) x (.lst ds) ρ P := fun σ G H vx vy S rx ry Q q => by
  obtain ⟨e1, f1⟩ := rx.flat hx
  cases ry with
  | lst h1 h2 =>
    obtain ⟨e2, f2⟩ := h2.flat hd
    refine ⟨_, _, rfl, .inl (SqL.of (S.ex _ _ h1)), f1, f2, ?_⟩
    subst e1 e2
    exact q _ _ ρ G H p S (.bl _) (Ex.refl G)
theorem wR_inT {ds : List D} (hx : flatD x = true) (hd : ds.all flatD = true) (p : P ρ (.bl (inD x ds))) : wR K F (rIn K false) x (.tup ds) ρ P := fun σ G H vx vy S rx ry Q q => by
  obtain ⟨e1, f1⟩ := rx.flat hx
  cases ry with
  | tup h1 h2 =>
    obtain ⟨e2, f2⟩ := h2.flat hd
    refine ⟨_, _, rfl, .inr (Evl.ex_t S.ex h1), f1, f2, ?_⟩
    subst e1 e2
    exact q _ _ ρ G H p S (.bl _) (Ex.refl G)
theorem wR_niT {ds : List D} (hx : flatD x = true) (hd : ds.all flatD = true) (p : P ρ (.bl (!inD x ds))) : wR K F (rIn K true) x (.tup ds) ρ P := fun σ G H vx vy S rx ry Q q => by
  obtain ⟨e1, f1⟩ := rx.flat hx
  cases ry with
  | tup h1 h2 =>
    obtain ⟨e2, f2⟩ := h2.flat hd
    refine ⟨_, _, rfl, .inr (Evl.ex_t S.ex h1), f1, f2, ?_⟩
    subst e1 e2
    exact q _ _ ρ G H p S (.bl _) (Ex.refl G)

/-! built-ins -/
theorem wE_cb {r : List V → Hp → VK → Prop} {t : TA} (h : wA K F t ρ fun ρ1 ds => wC K F r ds ρ1 P) : wE K F (tCB r t) ρ P := fun σ G H S Q q =>
  h σ G H S _ fun vs ds ρ1 G1 H1 h1 S1 r1 e1 => h1 σ G1 H1 vs S1 r1 Q fun v d ρ' G' H' p S' r' e' => q v d ρ' G' H' p S' r' (e1.trans e')
theorem wO_cb {r : List V → Hp → VK → Prop} {t : TA} {PO : Sls → List D → Prop} (h : wA K F t ρ fun ρ1 ds => wCO K F r ds ρ1 PO) : wO K F (tCB r t) ρ PO := fun σ G H S Q q =>
  h σ G H S _ fun vs ds ρ1 G1 H1 h1 S1 r1 e1 => h1 σ G1 H1 vs S1 r1 Q fun p ws d ρ' G' H' pp S' r' e' => q p ws d ρ' G' H' pp S' r' (e1.trans e')
/-- len -/
def lenD : D → Option Nat
  | .lst xs => some xs.length
  | .tup xs => some xs.length
  | .scr ns => some ns.length
  | .str x => if x.length ≤ 100000 then some x.length else none
  | _ => none
theorem wC_len {n : Nat} (h : lenD x = some n) (p : P ρ (.int n)) : wC K F (fun xs H Q => ∃ x n, xs = [x] ∧ LenV K x H n ∧ Q (.int n) H) [x] ρ P := fun σ G H vs S rs Q q => by
  cases rs with
  | cons rx rr =>
    cases rr
    refine ⟨_, n, rfl, ?_, q _ _ ρ G H p S (.int n) (Ex.refl G)⟩
    cases rx with
    | lst h1 h2 => cases h; exact .inl ⟨_, SqL.of (S.ex _ _ h1), h2.length.symm⟩
    | tup h1 h2 => cases h; exact .inr ⟨_, Evl.ex_t S.ex h1, h2.length.symm⟩
    | scr h1 => cases h; exact .inl ⟨_, Evl.ex_l S.ex h1, by rw [List.length_map]⟩
    | str s =>
      have h' : (if s.length ≤ 100000 then some s.length else none) = some n := h
      by_cases hs : s.length ≤ 100000
      · rw [if_pos hs] at h'
        cases h'
        exact ⟨Evl.sz_of hs, rfl⟩
      · rw [if_neg hs] at h'
        cases h'
    | _ => cases h
theorem wC_max2 {i j : Int} (p : P ρ (.int (if j > i then j else i))) : wC K F (fun xs H Q => ∃ i j, xs = [.int i, .int j] ∧ Q (.int (if j > i then j else i)) H) [.int i, .int j] ρ P := fun σ G H vs S rs Q q => by
  cases rs with
  | cons r1 rr =>
    cases rr with
    | cons r2 rr =>
      cases rr; cases r1; cases r2
      exact ⟨i, j, rfl, q _ _ ρ G H p S (.int _) (Ex.refl G)⟩
theorem wC_min2 {i j : Int} (p : P ρ (.int (if j < i then j else i))) : wC K F (fun xs H Q => ∃ i j, xs = [.int i, .int j] ∧ Q (.int (if j < i then j else i)) H) [.int i, .int j] ρ P := fun σ G H vs S rs Q q => by
  cases rs with
  | cons r1 rr =>
    cases rr with
    | cons r2 rr =>
      cases rr; cases r1; cases r2
      exact ⟨i, j, rfl, q _ _ ρ G H p S (.int _) (Ex.refl G)⟩
theorem wC_abs {i : Int} (p : P ρ (.int (if i < 0 then -i else i))) : wC K F (fun xs H Q => ∃ i, xs = [.int i] ∧ Q (.int (if i < 0 then -i else i)) H) [.int i] ρ P := fun σ G H vs S rs Q q => by
  cases rs with
  | cons r1 rr =>
    cases rr; cases r1
    exact ⟨i, rfl, q _ _ ρ G H p S (.int _) (Ex.refl G)⟩
theorem wC_intB {b : Bool} (p : P ρ (.int (if b then 1 else 0))) : wC K F (fun xs H Q => (∃ i, xs = [.int i] ∧ Q (.int i) H) ∨ ∃ k, xs = [.bl k] ∧ Q (.int (if k then 1 else 0)) H) [.bl b] ρ P := fun σ G H vs S rs Q q => by
  cases rs with
  | cons r1 rr =>
    cases rr; cases r1
    exact .inr ⟨b, rfl, q _ _ ρ G H p S (.int _) (Ex.refl G)⟩
theorem wC_intI {b : Int} (p : P ρ (.int b)) : wC K F (fun xs H Q => (∃ i, xs = [.int i] ∧ Q (.int i) H) ∨ ∃ k, xs = [.bl k] ∧ Q (.int (if k then 1 else 0)) H) [.int b] ρ P := fun σ G H vs S rs Q q => by
  cases rs with
  | cons r1 rr =>
    cases rr; cases r1
    exact .inl ⟨b, rfl, q _ _ ρ G H p S (.int _) (Ex.refl G)⟩
theorem wCO_list {d : D} {ds : List D} {PO : Sls → List D → Prop} (hd : d = .lst ds ∨ d = .tup ds) (p : PO ρ ds) : wCO K F (fun xs H Q => ∃ p ys, xs = [.ref p] ∧ (SqL K H p ys ∨ SqT K H p ys) ∧ ∀ l, H l = none → Q (.ref l) (upd H l (.lst ys))) [d] ρ PO := fun σ G H vs S rs Q q => by
  cases rs with
  | cons r1 rr =>
    cases rr
    rcases hd with rfl | rfl
    · cases r1 with
      | lst h1 h2 => exact ⟨_, _, rfl, .inl (SqL.of (S.ex _ _ h1)), fun a ha => q _ _ _ ρ G _ p (S.alloc ha) (.alloc S ha h2) (Ex.refl G)⟩
    · cases r1 with
      | tup h1 h2 => exact ⟨_, _, rfl, .inr (Evl.ex_t S.ex h1), fun a ha => q _ _ _ ρ G _ p (S.alloc ha) (.alloc S ha h2) (Ex.refl G)⟩
/-- isinstance -/
def tyD : D → Option String
  | .non => some "NoneType"
  | .bl _ => some "bool"
  | .int _ => some "int"
  | .str _ => some "str"
  | .lst _ => some "list"
  | .tup _ => some "tuple"
  | .dct _ => some "dict"
  | _ => none
theorem Rep.tyx {G H : Hp} (ex : Ex G H) {v : V} {d : D} {n : String} (h : Rep K G v d) (e : tyD d = some n) : TyX K H v (.type n) := by
  cases h with
  | non => cases e; exact .base .non
  | bl b => cases e; exact .base (.bl b)
  | int b => cases e; exact .base (.int b)
  | str b => cases e; exact .base (.str b)
  | lst h1 h2 => cases e; exact .base (.lst (ex _ _ h1))
  | tup h1 h2 =>
    cases e
    rcases h1 with (h1 | ⟨o, h1⟩) | ⟨o, its, n, h1, h2, _⟩
    · exact .base (.tup (ex _ _ h1))
    · exact .fTuple (ex _ _ h1)
    · exact .kTuple h1 h2
  | dct h1 h2 => cases e; exact .base (.dK (ex _ _ h1))
  | _ => cases e
theorem wC_isi {c : String} {n : String} {b : Bool} (h1 : tyD x = some n) (h2 : kitB n c = some b) (p : P ρ (.bl b)) : wC K F (rIsi K) [x, .ty c] ρ P := fun σ G H vs S rs Q q => by
  cases rs with
  | cons r1 rr =>
    cases rr with
    | cons r2 rr =>
      cases rr; cases r2
      exact ⟨_, _, .type n, .type c, b, rfl, .ty c, r1.tyx S.ex h1, kit_ty h2, q _ _ ρ G H p S (.bl b) (Ex.refl G)⟩

/-! targets -/
theorem wG_name {i : Nat} {PN : Sls → Prop} (p : PN (ρ.set i (.fz x))) : wG K F (gName i) x ρ PN := fun σ G H v S r Q q => q _ _ G H p (S.set r) (Ex.refl G)
theorem wG_tup2 {i j : Nat} {a b : D} {PN : Sls → Prop} (p : PN ((ρ.set i (.fz a)).set j (.fz b))) : wG K F (gTup K 2 (gCons (gName i) (gCons (gName j) gNil))) (.tup [a, b]) ρ PN := fun σ G H v S r Q q => by
  cases r with
  | tup h1 h2 =>
    cases h2 with
    | cons r1 rr =>
      cases rr with
      | cons r2 rr =>
        cases rr
        exact ⟨_, _, rfl, Evl.ex_t S.ex h1, rfl, _, _, rfl, _, _, rfl, rfl, q _ _ G H p ((S.set r1).set r2) (Ex.refl G)⟩
theorem wG_tup3 {i j k : Nat} {a b c : D} {PN : Sls → Prop} (p : PN (((ρ.set i (.fz a)).set j (.fz b)).set k (.fz c))) : wG K F (gTup K 3 (gCons (gName i) (gCons (gName j) (gCons (gName k) gNil)))) (.tup [a, b, c]) ρ PN := fun σ G H v S r Q q => by
  cases r with
  | tup h1 h2 =>
    cases h2 with
    | cons r1 rr =>
      cases rr with
      | cons r2 rr =>
        cases rr with
        | cons r3 rr =>
          cases rr
          exact ⟨_, _, rfl, Evl.ex_t S.ex h1, rfl, _, _, rfl, _, _, rfl, _, _, rfl, rfl, q _ _ G H p (((S.set r1).set r2).set r3) (Ex.refl G)⟩

/-! statements -/
section
variable {O : Out} {ts tu : TS} {g : TG}
theorem DOk.from {G0 G1 : Hp} {D1 : Ends} (k : DOk K F G0 D1 O) (e : Ex G0 G1) : DOk K F G1 D1 O :=
  ⟨fun a b c d h S x => k.nx a b c d h S (e.trans x), fun a b c d v w h S x => k.rt a b c d v w h S (e.trans x), fun a b c d p v w h S x => k.ro a b c d p v w h S (e.trans x), fun a b c d h S x => k.bk a b c d h S (e.trans x), fun a b c d h S x => k.ct a b c d h S (e.trans x)⟩
theorem wS_seq (h : wS K F ts ρ { O with nx := fun ρ1 => wS K F tu ρ1 O }) : wS K F (tSeq ts tu) ρ O := fun σ G H S D1 k =>
  h σ G H S { D1 with nx := tu D1 } ⟨fun ρ1 σ1 G1 H1 h1 S1 e1 => h1 σ1 G1 H1 S1 D1 (k.from e1), k.rt, k.ro, k.bk, k.ct⟩
theorem wS_next (p : O.nx ρ) : wS K F tNext ρ O := fun σ G H S D1 k => k.nx ρ σ G H p S (Ex.refl G)
theorem wS_brk (p : O.bk ρ) : wS K F tBreak ρ O := fun σ G H S D1 k => k.bk ρ σ G H p S (Ex.refl G)
theorem wS_ct (p : O.ct ρ) : wS K F tCont ρ O := fun σ G H S D1 k => k.ct ρ σ G H p S (Ex.refl G)
theorem wS_asg (h : wE K F te ρ fun ρ1 x => wG K F g x ρ1 O.nx) : wS K F (tAsg te g) ρ O := fun σ G H S D1 k =>
  h σ G H S _ fun v x ρ1 G1 H1 h1 S1 r1 e1 => h1 σ G1 H1 v S1 r1 _ fun ρ2 σ2 G2 H2 h2 S2 e2 => k.nx ρ2 σ2 G2 H2 h2 S2 (e1.trans e2)
theorem wS_set {i : Nat} (h : wE K F te ρ fun ρ1 x => O.nx (ρ1.set i (.fz x))) : wS K F (tAsg te (gName i)) ρ O := wS_asg (wE_mono h fun _ _ p => wG_name p)
theorem wS_setO {i : Nat} (h : wO K F te ρ fun ρ1 ds => O.nx (ρ1.set i (.ow .loc ds))) : wS K F (tAsg te (gName i)) ρ O := fun σ G H S D1 k =>
  h σ G H S _ fun p vs ds ρ1 G1 H1 h1 S1 o e1 => k.nx _ _ G1 H1 h1 (S1.setO o.g o.h o.r o.f o.n) e1
theorem wS_drop (h : wE K F te ρ fun ρ1 _ => O.nx ρ1) : wS K F (tDrop te) ρ O := fun σ G H S D1 k =>
  h σ G H S _ fun v x ρ1 G1 H1 h1 S1 r1 e1 => k.nx ρ1 σ G1 H1 h1 S1 e1
theorem wS_ret (h : wE K F te ρ fun ρ1 x => O.rt ρ1 x) : wS K F (tRet te) ρ O := fun σ G H S D1 k =>
  h σ G H S _ fun v x ρ1 G1 H1 h1 S1 r1 e1 => k.rt ρ1 σ G1 H1 v x h1 S1 e1 r1
theorem wS_retO (h : wO K F te ρ fun ρ1 ds => O.ro ρ1 ds) : wS K F (tRet te) ρ O := fun σ G H S D1 k =>
  h σ G H S _ fun p vs ds ρ1 G1 H1 h1 S1 o e1 => k.ro ρ1 σ G1 H1 p vs ds h1 S1 e1 o.g o.h o.r o.f
theorem wS_retN (p : O.rt ρ .non) : wS K F tRetN ρ O := fun σ G H S D1 k => k.rt ρ σ G H .non .non p S (Ex.refl G) .non
theorem wS_if {t : TT} (h : wT K F t ρ fun ρ1 b => Ways b (wS K F ts ρ1 O) (wS K F tu ρ1 O)) : wS K F (tIfS t ts tu) ρ O := fun σ G H S D1 k =>
  h σ G H S _ fun b ρ1 G1 H1 h1 S1 e1 => by
    cases b with
    | true => exact h1.1 rfl σ G1 H1 S1 D1 (k.from e1)
    | false => exact h1.2 rfl σ G1 H1 S1 D1 (k.from e1)
/-- own[i] = e -/
theorem wS_setIx {i : Nat} {ti : TE} (h : wE K F te ρ fun ρ1 x => ∃ (l1 : Kd) (ds1 : List D), ρ1[i]? = some (.ow l1 ds1) ∧ wE K F ti ρ1 fun ρ2 y => ∃ (l : Kd) (ds : List D) (j : Nat), y = .int (j : Int) ∧ ρ2[i]? = some (.ow l ds) ∧ j < ds.length ∧ O.nx (ρ2.set i (.ow l (ds.set j x)))) :
    wS K F (tAsg te (gSub (tVar i) ti rSetL)) ρ O := fun σ G H S D1 k =>
  h σ G H S _ fun v x ρ1 G1 H1 h1 S1 r1 e1 => by
    obtain ⟨l1, ds1, hi1, h1⟩ := h1
    obtain ⟨p, vs1, hp, _⟩ := S1.ow hi1
    refine ⟨.ref p, hp, h1 σ G1 H1 S1 _ fun vy y ρ2 G2 H2 h2 S2 r2 e2 => ?_⟩
    obtain ⟨l, ds, j, rfl, hi, hj, hn⟩ := h2
    cases r2
    obtain ⟨p', vs, e', hg, hh, hr⟩ := S2.ow hi
    rw [hp] at e'
    cases e'
    exact ⟨p, vs, _, j, rfl, rfl, hh, Evl.ixN_nat (by rw [hr.length]; exact hj), k.nx _ _ G2 _ hn (S2.mut hi hp (RepL.set j (r1.up e2) hr)) (e1.trans e2)⟩
/-- own.append(e) -/
theorem wS_append {i : Nat} (h0 : ∃ (l1 : Kd) (ds1 : List D), ρ[i]? = some (.ow l1 ds1)) (h : wE K F te ρ fun ρ1 x => ∃ (l : Kd) (ds : List D), ρ1[i]? = some (.ow l ds) ∧ ds.length < 100000 ∧ O.nx (ρ1.set i (.ow l (ds ++ [x])))) :
    wS K F (tDrop (tBM K "list" rAppend (tVar i) (tCons te tNil))) ρ O := fun σ G H S D1 k => by
  obtain ⟨l1, ds1, hi1⟩ := h0
  obtain ⟨p, vs1, hp, hg1, hh1, hr1⟩ := S.ow hi1
  refine ⟨.ref p, hp, .inl ⟨rfl, vs1, SqL.of hh1⟩, h σ G H S _ fun v x ρ1 G1 H1 h1 S1 r1 e1 => ?_⟩
  obtain ⟨l, ds, hi, hl, hn⟩ := h1
  obtain ⟨p', vs, e', hg, hh, hr⟩ := S1.ow hi
  rw [hp] at e'
  cases e'
  exact ⟨p, vs, v, rfl, rfl, hh, Evl.sz_lt (by rw [hr.length]; exact hl), k.nx _ _ G1 _ hn (S1.mut hi hp (hr.append (.cons r1 .nil))) e1⟩
end
end
end DL
namespace DL
open PySem L2
open Evl (Ex)

/-! ### loops -/
section
variable (K : PySem.W.Frag) (F : Fr)
def forS (g : TG) (tb : TS) (O : Out) : List D → Sls → Prop
  | [], ρ => O.nx ρ
  | x :: r, ρ => wG K F g x ρ fun ρ3 => wS K F tb ρ3 { nx := forS g tb O r, ct := forS g tb O r, bk := O.nx, rt := O.rt, ro := O.ro }
end
section
variable {K : PySem.W.Frag} {F : Fr} {ρ : Sls} {O : Out} {g : TG} {tb : TS}
/-- a loop by its word -/
theorem forS_inv (ds : List D) (Inv : Nat → Sls → Prop) (h0 : Inv 0 ρ) (hs : ∀ (i : Nat) (x : D) (ρ2 : Sls), ds[i]? = some x → Inv i ρ2 → wG K F g x ρ2 fun ρ3 => wS K F tb ρ3 { nx := Inv (i + 1), ct := Inv (i + 1), bk := O.nx, rt := O.rt, ro := O.ro })
    (hd : ∀ ρ2, Inv ds.length ρ2 → O.nx ρ2) : forS K F g tb O ds ρ := by
  have key : ∀ (k : Nat) (es : List D), ds = ds.take k ++ es → k ≤ ds.length → ∀ ρ2, Inv k ρ2 → forS K F g tb O es ρ2 := by
    intro k es
    induction es generalizing k with
    | nil =>
      intro e hk ρ2 hi
      have hl : ds.length = k := by
        have := congrArg List.length e
        rw [List.append_nil, List.length_take] at this
        omega
      exact hd ρ2 (hl ▸ hi)
    | cons x r ih =>
      intro e hk ρ2 hi
      have hlt : k < ds.length := by
        have := congrArg List.length e
        rw [List.length_append, List.length_take, List.length_cons] at this
        omega
      have hx : ds[k]? = some x := by
        rw [e, List.getElem?_append_right (by rw [List.length_take]; omega), List.length_take, Nat.min_eq_left hk, Nat.sub_self]
        rfl
      have e' : ds = ds.take (k + 1) ++ r := by
        rw [List.take_add_one, hx]
        simpa using e
      show wG K F g x ρ2 fun ρ3 => wS K F tb ρ3 { nx := forS K F g tb O r, ct := forS K F g tb O r, bk := O.nx, rt := O.rt, ro := O.ro }
      exact wG_mono (hs k x ρ2 hx hi) fun ρ3 h3 => wS_mono h3 (fun ρ4 h4 => ih (k + 1) e' hlt ρ4 h4) (fun _ _ h => h) (fun _ _ h => h) (fun _ h => h) (fun ρ4 h4 => ih (k + 1) e' hlt ρ4 h4)
  exact key 0 ds (by simp) (Nat.zero_le _) ρ h0
theorem drop_at {ds : List D} {i : Nat} {d : D} (h : ds[i]? = some d) : ds.drop i = d :: ds.drop (i + 1) := by
  have hl := (List.getElem?_eq_some_iff.mp h).1
  rw [List.drop_eq_getElem_cons hl, (List.getElem?_eq_some_iff.mp h).2]
/-- one turn of a loop, from the data's loop to the heap's -/
theorem for_turn {σ : St} {G1 G2 H2 : Hp} {D1 : Ends} {G0 : Hp} (k : DOk K F G0 D1 O) (e0 : Ex G0 G1) {ds : List D} {i : Nat} {d : D} {v : V} {ρ2 : Sls} (S2 : SRel K F G2 H2 σ ρ2) (e2 : Ex G1 G2) (hd : ds[i]? = some d) (r : Rep K G2 v d) (f : forS K F g tb O (ds.drop i) ρ2) :
    g v σ H2 fun σ3 H3 => tb { D1 with nx := fun σ' H' => ∃ G' ρ', SRel K F G' H' σ' ρ' ∧ Ex G1 G' ∧ forS K F g tb O (ds.drop (i + 1)) ρ', ct := fun σ' H' => ∃ G' ρ', SRel K F G' H' σ' ρ' ∧ Ex G1 G' ∧ forS K F g tb O (ds.drop (i + 1)) ρ', bk := D1.nx } σ3 H3 := by
  rw [drop_at hd] at f
  refine f σ G2 H2 v S2 r _ fun ρ3 σ3 G3 H3 h3 S3 e3 => ?_
  exact h3 σ3 G3 H3 S3 _ ⟨fun ρ' σ' G' H' h S' x => ⟨G', ρ', S', (e2.trans e3).trans x, h⟩, fun a b c dd v w h S x => k.rt a b c dd v w h S ((e0.trans e2).trans (e3.trans x)), fun a b c dd p v w h S x => k.ro a b c dd p v w h S ((e0.trans e2).trans (e3.trans x)), fun a b c dd h S x => k.nx a b c dd h S ((e0.trans e2).trans (e3.trans x)), fun ρ' σ' G' H' h S' x => ⟨G', ρ', S', (e2.trans e3).trans x, h⟩⟩
theorem wS_forL {tl : TE} (h : wE K F tl ρ fun ρ1 d => ∃ ds, d = .lst ds ∧ forS K F g tb O ds ρ1) : wS K F (tFor (iList K tl) g tb) ρ O := fun σ G H S D1 k =>
  h σ G H S _ fun v d ρ1 G1 H1 h1 S1 r1 e1 => by
    obtain ⟨ds, rfl, f⟩ := h1
    cases r1 with
    | lst ha hr =>
      rename_i a xs
      refine ⟨a, rfl, ⟨xs, SqL.of (S1.ex _ _ ha)⟩, for_list (K := K) (a := a) (xs := xs) (fun i σ' H' => ∃ G' ρ', SRel K F G' H' σ' ρ' ∧ Ex G1 G' ∧ forS K F g tb O (ds.drop i) ρ') ⟨G1, ρ1, S1, Ex.refl G1, f⟩ (fun i σ' H' _ ⟨G', ρ', S', e', _⟩ => SqL.of (S'.ex _ _ (e' _ _ ha))) ?_ ?_⟩
      · rintro i x σ' H' hx ⟨G', ρ', S', e', f'⟩
        obtain ⟨d, hd, rd⟩ := hr.getV hx
        exact for_turn k e1 S' e' hd (rd.up e') f'
      · rintro σ' H' ⟨G', ρ', S', e', f'⟩
        rw [hr.length, List.drop_length] at f'
        exact k.nx ρ' σ' G' H' f' S' (e1.trans e')
theorem wS_forT {tl : TE} (h : wE K F tl ρ fun ρ1 d => ∃ ds, d = .tup ds ∧ forS K F g tb O ds ρ1) : wS K F (tFor (iTup K tl) g tb) ρ O := fun σ G H S D1 k =>
  h σ G H S _ fun v d ρ1 G1 H1 h1 S1 r1 e1 => by
    obtain ⟨ds, rfl, f⟩ := h1
    cases r1 with
    | tup ha hr =>
      rename_i a xs
      refine ⟨a, rfl, ⟨xs, Evl.ex_t S1.ex ha⟩, for_tup (K := K) (a := a) (xs := xs) (fun i σ' H' => ∃ G' ρ', SRel K F G' H' σ' ρ' ∧ Ex G1 G' ∧ forS K F g tb O (ds.drop i) ρ') ⟨G1, ρ1, S1, Ex.refl G1, f⟩ (fun i σ' H' _ ⟨G', ρ', S', e', _⟩ => Evl.ex_t (e'.trans S'.ex) ha) ?_ ?_⟩
      · rintro i x σ' H' hx ⟨G', ρ', S', e', f'⟩
        obtain ⟨d, hd, rd⟩ := hr.getV hx
        exact for_turn k e1 S' e' hd (rd.up e') f'
      · rintro σ' H' ⟨G', ρ', S', e', f'⟩
        rw [hr.length, List.drop_length] at f'
        exact k.nx ρ' σ' G' H' f' S' (e1.trans e')
def rng (lo : Int) (n : Nat) : List D := (List.range n).map fun (k : Nat) => D.int (lo + (k : Int))
theorem rng_get {lo : Int} {n i : Nat} (h : i < n) : (rng lo n)[i]? = some (.int (lo + (i : Int))) := by
  unfold rng
  rw [List.getElem?_map, List.getElem?_range h]
  rfl
theorem rng_len {lo : Int} {n : Nat} : (rng lo n).length = n := by
  unfold rng
  rw [List.length_map, List.length_range]
theorem for_rng {σ : St} {G1 H1 : Hp} {D1 : Ends} {G0 : Hp} (k : DOk K F G0 D1 O) (e0 : Ex G0 G1) {lo : Int} {n : Nat} {ρ1 : Sls} (S1 : SRel K F G1 H1 σ ρ1) (f : forS K F g tb O (rng lo n) ρ1) :
    ∃ W : Nat → Nat → St → Hp → Prop, (∃ m, W 0 m σ H1) ∧ ∀ i m σ H, W i m σ H →
      ((Itr lo n).stop i H ∧ D1.nx σ H) ∨ ((Itr lo n).go i H ∧ ∃ N : St → Hp → Prop, (∀ σ' H', N σ' H' → ∃ m', m' < m ∧ W (i + 1) m' σ' H') ∧ ∀ x H', (Itr lo n).yld i H x H' → g x σ H' fun σ2 H2 => tb { D1 with nx := N, ct := N, bk := D1.nx } σ2 H2) := by
  refine for_range (lo := lo) (n := n) (fun i σ' H' => ∃ G' ρ', SRel K F G' H' σ' ρ' ∧ Ex G1 G' ∧ forS K F g tb O ((rng lo n).drop i) ρ') ⟨G1, ρ1, S1, Ex.refl G1, f⟩ ?_ ?_
  · rintro i σ' H' hi ⟨G', ρ', S', e', f'⟩
    exact for_turn k e0 S' e' (rng_get hi) (.int _) f'
  · rintro σ' H' ⟨G', ρ', S', e', f'⟩
    have q : (rng lo n).drop n = [] := List.drop_eq_nil_of_le (by rw [rng_len]; exact Nat.le_refl n)
    rw [q] at f'
    exact k.nx ρ' σ' G' H' f' S' (e0.trans e')
theorem wS_forR1 {ta : TA} (h : wA K F ta ρ fun ρ1 ds => ∃ n : Int, ds = [.int n] ∧ -(2 ^ 62) ≤ n ∧ n < 2 ^ 62 ∧ forS K F g tb O (rng 0 n.toNat) ρ1) : wS K F (tFor (iRng1 ta) g tb) ρ O := fun σ G H S D1 k =>
  h σ G H S _ fun vs ds ρ1 G1 H1 h1 S1 r1 e1 => by
    obtain ⟨n, rfl, h2, h3, f⟩ := h1
    cases r1 with
    | cons ra rr =>
      cases rr; cases ra
      exact ⟨n, rfl, h2, h3, for_rng k e1 S1 f⟩
theorem wS_forR2 {ta : TA} (h : wA K F ta ρ fun ρ1 ds => ∃ m n : Int, ds = [.int m, .int n] ∧ (-(2 ^ 62) ≤ m ∧ m < 2 ^ 62 ∧ -(2 ^ 62) ≤ n ∧ n < 2 ^ 62) ∧ forS K F g tb O (rng m (n - m).toNat) ρ1) : wS K F (tFor (iRng2 ta) g tb) ρ O := fun σ G H S D1 k =>
  h σ G H S _ fun vs ds ρ1 G1 H1 h1 S1 r1 e1 => by
    obtain ⟨m, n, rfl, h2, f⟩ := h1
    cases r1 with
    | cons ra rr =>
      cases rr with
      | cons rb rr =>
        cases rr; cases ra; cases rb
        exact ⟨m, n, rfl, h2, for_rng k e1 S1 f⟩
end

/-! ### comprehensions -/
def wipeS (ρ : Sls) : List Nat → Sls
  | [] => ρ
  | v :: vs => (wipeS ρ vs).set v .un
def rest1 (vs : List Nat) (k : Nat) : Sl → Sl → Sl
  | .un, .ow _ _ => .un
  | .un, .un => .un
  | .un, .fz d => cond (vs.contains k) .un (.fz d)
  | .fz d, .ow _ _ => .fz d
  | .fz d, .un => .fz d
  | .fz d, .fz e => cond (vs.contains k) (.fz d) (.fz e)
  | .ow l ds, .ow m es => cond (vs.contains k) .un (.ow l es)
  | .ow l ds, .un => .un
  | .ow l ds, .fz d => cond (vs.contains k) .un (.fz d)
def restS (vs : List Nat) : Nat → Sls → Sls → Sls
  | k, a :: as, b :: bs => rest1 vs k a b :: restS vs (k + 1) as bs
  | _, _, _ => []
theorem restS_len (vs : List Nat) : ∀ (k : Nat) (as bs : Sls), as.length = bs.length → (restS vs k as bs).length = as.length
  | _, [], [], _ => rfl
  | k, a :: as, b :: bs, h => congrArg (· + 1) (restS_len vs (k + 1) as bs (by simpa using h))
  | _, [], _ :: _, h => by simp at h
  | _, _ :: _, [], h => by simp at h
theorem restS_get (vs : List Nat) : ∀ (k : Nat) (as bs : Sls) (i : Nat) (s : Sl), (restS vs k as bs)[i]? = some s → ∃ a b, as[i]? = some a ∧ bs[i]? = some b ∧ s = rest1 vs (k + i) a b
  | k, a :: as, b :: bs, 0, s, h => ⟨a, b, rfl, rfl, by rw [restS] at h; simpa using h.symm⟩
  | k, a :: as, b :: bs, i + 1, s, h => by
    rw [restS] at h
    obtain ⟨a', b', h1, h2, h3⟩ := restS_get vs (k + 1) as bs i s (by simpa using h)
    exact ⟨a', b', by simpa using h1, by simpa using h2, by rw [h3]; congr 1; omega⟩
  | _, [], _, _, _, h => by simp [restS] at h
  | _, _ :: _, [], _, _, h => by simp [restS] at h
section
variable {K : PySem.W.Frag} {F : Fr} {ρ : Sls}
theorem SRel.wipes {G H : Hp} {σ : St} (S : SRel K F G H σ ρ) : ∀ vs : List Nat, SRel K F G H (wipe σ vs) (wipeS ρ vs)
  | [] => S
  | v :: vs => (SRel.wipes S vs).wipe1 v none
theorem SRel.back {G H G' H' : Hp} {σ σ' : St} {ρ' : Sls} (S : SRel K F G H σ ρ) (T : SRel K (here G H σ ρ) G' H' σ' ρ') : SRel K F G' H' σ' (ρ'.map unloc) := by
  have geto : ∀ (j : Nat) (l : Kd) (ds : List D), (ρ'.map unloc)[j]? = some (.ow l ds) → l = .any ∧ ∃ l', ρ'[j]? = some (.ow l' ds) := fun j l ds h => by
    rw [List.getElem?_map] at h
    cases e : ρ'[j]? with
    | none => rw [e] at h; cases h
    | some s' =>
      rw [e] at h
      cases s' with
      | un => cases h
      | fz d => cases h
      | ow l' ds' => cases h; exact ⟨rfl, l', rfl⟩
  refine ⟨FrOk.back S T.fr, by rw [List.length_map]; exact T.len, fun j s w h1 h2 => ?_, fun a b q m n da db h1 h2 h3 h4 => ?_, fun i l ds p h1 h2 => ?_⟩
  · rw [List.getElem?_map] at h1
    cases e : ρ'[j]? with
    | none => rw [e] at h1; cases h1
    | some s' =>
      rw [e] at h1
      cases h1
      have q := T.sl j s' w e h2
      cases s' with
      | un => exact q
      | fz d => exact q
      | ow l ds => cases w <;> exact q
  · obtain ⟨_, _, h1⟩ := geto a _ _ h1
    obtain ⟨_, _, h2⟩ := geto b _ _ h2
    exact T.dis a b q _ _ _ _ h1 h2 h3 h4
  · obtain ⟨rfl, l', h1'⟩ := geto i _ _ h1
    rcases (T.own i l' ds p h1' h2).or with z | ⟨j, l2, ds', h3, h4⟩
    · exact .inl (S.fr.fresh z)
    · exact (S.own j l2 ds' p h3 h4).or
theorem wipe_get {σ : St} {i : Nat} : ∀ {vs : List Nat}, i ∉ vs → (wipe σ vs)[i]? = σ[i]?
  | [], _ => rfl
  | v :: vs, h => by
    have h1 : i ≠ v := fun z => h (by rw [z]; exact List.mem_cons_self ..)
    have h2 : i ∉ vs := fun z => h (List.mem_cons_of_mem _ z)
    unfold wipe
    rw [List.getElem?_set_ne (Ne.symm h1)]
    exact wipe_get h2
/-- behind a comprehension: the slots as they were, what is the owners' own as it is -/
theorem SRel.rest {G G' H H' : Hp} {σ : St} {ρ' : Sls} {vs : List Nat} (S : SRel K F G H σ ρ) (e : Ex G G') (T : SRel K F G' H' (wipe σ vs) ρ') : SRel K F G' H' σ (restS vs 0 ρ ρ') := by
  have hl : ρ.length = ρ'.length := by
    have h1 := S.len
    have h2 := T.len
    rw [wipe_length] at h2
    omega
  have geto : ∀ (i : Nat) (l : Kd) (ds : List D), (restS vs 0 ρ ρ')[i]? = some (.ow l ds) → i ∉ vs ∧ (∃ m, ρ'[i]? = some (.ow m ds)) ∧ ∃ es, ρ[i]? = some (.ow l es) := fun i l ds h => by
    obtain ⟨a, b, h1, h2, h3⟩ := restS_get vs 0 ρ ρ' i _ h
    rw [Nat.zero_add] at h3
    by_cases c : vs.contains i = true
    · cases a <;> cases b <;> simp only [rest1, c, cond_true] at h3 <;> cases h3
    · have cm : i ∉ vs := fun z => c (by simpa using z)
      have cf : vs.contains i = false := Bool.eq_false_iff.mpr c
      cases a <;> cases b <;> simp only [rest1, cf, cond_false] at h3 <;> cases h3
      exact ⟨cm, ⟨_, h2⟩, _, h1⟩
  refine ⟨T.fr, by rw [restS_len vs 0 ρ ρ' hl]; exact S.len, fun i s o h1 h2 => ?_, fun i j p l m di dj h1 h2 h3 h4 => ?_, fun i l ds p h1 h2 => ?_⟩
  · obtain ⟨a, b, q1, q2, rfl⟩ := restS_get vs 0 ρ ρ' i _ h1
    rw [Nat.zero_add]
    have qa := S.sl i a o q1 h2
    have fzq : ∀ {d : D}, SlR K G H o (.fz d) → SlR K G' H' o (.fz d) := fun {d} q => by
      cases o with
      | none => exact q
      | some v => exact Rep.up e q
    have unq : SlR K G' H' o .un := by cases o <;> trivial
    by_cases c : vs.contains i = true
    · cases a <;> cases b <;> simp only [rest1, c, cond_true] <;> first | exact unq | exact fzq qa
    · have cm : i ∉ vs := fun z => c (by simpa using z)
      have cf : vs.contains i = false := Bool.eq_false_iff.mpr c
      have qb := T.sl i b o q2 (by rw [wipe_get cm]; exact h2)
      cases a <;> cases b <;> simp only [rest1, cf, cond_false] <;> first | exact unq | exact fzq qa | exact qb | (cases o <;> exact qb)
  · obtain ⟨n1, ⟨m1, k1⟩, _⟩ := geto i _ _ h1
    obtain ⟨n2, ⟨m2, k2⟩, _⟩ := geto j _ _ h2
    exact T.dis i j p _ _ _ _ k1 k2 (by rw [wipe_get n1]; exact h3) (by rw [wipe_get n2]; exact h4)
  · obtain ⟨n1, _, es, k2⟩ := geto i _ _ h1
    exact S.own i l es p k2 h2
end
theorem SRel.unlocs {G H : Hp} {σ : St} {K : PySem.W.Frag} {F : Fr} {ρ : Sls} (S : SRel K F G H σ ρ) : SRel K F G H σ (ρ.map unloc) := by
  have geto : ∀ (j : Nat) (l : Kd) (ds : List D), (ρ.map unloc)[j]? = some (.ow l ds) → l = .any ∧ ∃ l', ρ[j]? = some (.ow l' ds) := fun j l ds h => by
    rw [List.getElem?_map] at h
    cases e : ρ[j]? with
    | none => rw [e] at h; cases h
    | some s' =>
      rw [e] at h
      cases s' with
      | un => cases h
      | fz d => cases h
      | ow l' ds' => cases h; exact ⟨rfl, l', rfl⟩
  refine ⟨S.fr, by rw [List.length_map]; exact S.len, fun j s w h1 h2 => ?_, fun a b q m n da db h1 h2 h3 h4 => ?_, fun i l ds p h1 h2 => ?_⟩
  · rw [List.getElem?_map] at h1
    cases e : ρ[j]? with
    | none => rw [e] at h1; cases h1
    | some s' =>
      rw [e] at h1
      cases h1
      have q := S.sl j s' w e h2
      cases s' with
      | un => exact q
      | fz d => exact q
      | ow l ds => cases w <;> exact q
  · obtain ⟨_, _, h1⟩ := geto a _ _ h1
    obtain ⟨_, _, h2⟩ := geto b _ _ h2
    exact S.dis a b q _ _ _ _ h1 h2 h3 h4
  · obtain ⟨rfl, l', h1'⟩ := geto i _ _ h1
    exact (S.own i l' ds p h1' h2).or
theorem unloc_unloc : ∀ s : Sl, unloc (unloc s) = unloc s
  | .un => rfl
  | .fz _ => rfl
  | .ow _ _ => rfl
theorem map_unloc (ρ : Sls) : (ρ.map unloc).map unloc = ρ.map unloc := by
  rw [List.map_map]
  exact List.map_congr_left fun s _ => unloc_unloc s
theorem wipeS_unloc (ρ : Sls) : ∀ vs : List Nat, wipeS (ρ.map unloc) vs = (wipeS ρ vs).map unloc
  | [] => rfl
  | v :: vs => by
    show (wipeS (ρ.map unloc) vs).set v .un = ((wipeS ρ vs).set v .un).map unloc
    rw [wipeS_unloc ρ vs, List.map_set]
    rfl
def wipeU (ρ : Sls) (vs : List Nat) : Sls := (wipeS ρ vs).map unloc
section
variable (K : PySem.W.Frag) (g : TG) (tt : TT) (te : TE) (vs : List Nat)
def compL : List D → Sls → List D → (Sls → List D → Prop) → Prop
  | [], ρ, acc, P => P ρ acc
  | x :: r, ρ, acc, P => ∀ F, wG K F g x ρ fun ρ2 => wT K F tt ρ2 fun ρ3 b => Ways b (wE K F te ρ3 fun ρ4 y => compL r (wipeU ρ4 vs) (acc ++ [y]) P) (compL r (wipeU ρ3 vs) acc P)
end
/-- the target's slots are those that are wiped -/
def Tgt (g : TG) (vs : List Nat) : Prop := ∀ (x : V) (σ : St) (H : Hp) (Q Q' : St → Hp → Prop), g x (wipe σ vs) H Q → (∀ σ2 H2, wipe σ2 vs = wipe σ vs → Q σ2 H2 → Q' σ2 H2) → g x (wipe σ vs) H Q'
theorem wipe_set {σ : St} {w : Option V} : ∀ {vs : List Nat} {i : Nat}, i ∈ vs → wipe (σ.set i w) vs = wipe σ vs
  | v :: vs, i, h => by
    unfold wipe
    by_cases hi : i = v
    · subst hi
      by_cases hm : i ∈ vs
      · rw [wipe_set hm]
      · have : ∀ us : List Nat, i ∉ us → wipe (σ.set i w) us = (wipe σ us).set i w := by
          intro us
          induction us with
          | nil => intro _; rfl
          | cons u us ih =>
            intro hu
            have h1 : i ≠ u := fun z => hu (by rw [z]; exact List.mem_cons_self ..)
            have h2 : i ∉ us := fun z => hu (List.mem_cons_of_mem _ z)
            unfold wipe
            rw [ih h2, List.set_comm _ _ h1]
        rw [this vs hm, List.set_set]
    · rw [wipe_set ((List.mem_cons.mp h).resolve_left hi)]
theorem wipe_wipe {σ : St} : ∀ {vs us : List Nat}, (∀ v ∈ vs, v ∈ us) → wipe (wipe σ vs) us = wipe σ us
  | [], _, _ => rfl
  | v :: vs, us, h => by
    show wipe ((wipe σ vs).set v none) us = wipe σ us
    rw [wipe_set (h v (List.mem_cons_self ..)), wipe_wipe fun w hw => h w (List.mem_cons_of_mem _ hw)]
theorem tgt_name {i : Nat} {vs : List Nat} (h : i ∈ vs) : Tgt (gName i) vs := fun x σ H Q Q' q m => m _ _ (by rw [wipe_set h, wipe_wipe fun v hv => hv]) q
theorem tgt_tup2 {K : PySem.W.Frag} {i j : Nat} {vs : List Nat} (h : i ∈ vs) (h' : j ∈ vs) : Tgt (gTup K 2 (gCons (gName i) (gCons (gName j) gNil))) vs := fun x σ H Q Q' q m => by
  obtain ⟨a, xs, h1, h2, h3, v, r, h4, v', r', h5, h6, q⟩ := q
  refine ⟨a, xs, h1, h2, h3, v, r, h4, v', r', h5, h6, m _ _ ?_ q⟩
  rw [wipe_set h', wipe_set h, wipe_wipe fun v hv => hv]
theorem tgt_tup3 {K : PySem.W.Frag} {i j k : Nat} {vs : List Nat} (h : i ∈ vs) (h' : j ∈ vs) (h'' : k ∈ vs) : Tgt (gTup K 3 (gCons (gName i) (gCons (gName j) (gCons (gName k) gNil)))) vs := fun x σ H Q Q' q m => by
  obtain ⟨a, xs, h1, h2, h3, v, r, h4, v', r', h5, v'', r'', h6, h7, q⟩ := q
  refine ⟨a, xs, h1, h2, h3, v, r, h4, v', r', h5, v'', r'', h6, h7, m _ _ ?_ q⟩
  rw [wipe_set h'', wipe_set h', wipe_set h, wipe_wipe fun v hv => hv]
section
variable {K : PySem.W.Frag} {F : Fr} {ρ : Sls} {g : TG} {tt : TT} {te : TE} {vs : List Nat}
/-- what stands between two turns of a comprehension whose list is at Dl -/
structure CompAt (K : PySem.W.Frag) (F : Fr) (g : TG) (tt : TT) (te : TE) (vs : List Nat) (σ : St) (G1 : Hp) (Dl : Addr) (P : Sls → List D → Prop) (n : Nat) (r : List D) (H' G' : Hp) (ρ' : Sls) (acc : List D) (vacc : List V) : Prop where
  S : SRel K F G' H' (wipe σ vs) ρ'
  e : Ex G1 G'
  hg : G' Dl = none
  hh : H' Dl = some (.lst vacc)
  hr : RepL K G' vacc acc
  hno : ∀ (i : Nat) (l : Kd) (ds : List D), ρ'[i]? = some (.ow l ds) → (wipe σ vs)[i]? ≠ some (some (.ref Dl))
  hf : F.H0 Dl = none
  hl : acc.length ≤ n
  u : ρ'.map unloc = ρ'
  c : compL K g tt te vs r ρ' acc P
abbrev CompEx (K : PySem.W.Frag) (F : Fr) (g : TG) (tt : TT) (te : TE) (vs : List Nat) (σ : St) (G1 : Hp) (Dl : Addr) (P : Sls → List D → Prop) (n : Nat) (r : List D) (H' : Hp) : Prop := ∃ G' ρ' acc vacc, CompAt K F g tt te vs σ G1 Dl P n r H' G' ρ' acc vacc
/-- a list that is nobody's own is changed -/
theorem SRel.other {G H : Hp} {σ : St} (S : SRel K F G H σ ρ) {p : Addr} {o : HO} (hg : G p = none) (hf : F.H0 p = none) (hn : ∀ (i : Nat) (l : Kd) (ds : List D), ρ[i]? = some (.ow l ds) → σ[i]? ≠ some (some (.ref p))) : SRel K F G (upd H p o) σ ρ := by
  refine ⟨⟨fun a u q => ?_, S.fr.old, fun a u q np => ?_, fun a u q => ?_⟩, S.len, fun i s w h1 h2 => ?_, S.dis, S.own⟩
  · have ha : a ≠ p := fun z => by rw [z, hg] at q; cases q
    rw [upd_ne ha]
    exact S.ex a u q
  · have ha : a ≠ p := fun z => by rw [z, hf] at q; cases q
    rw [upd_ne ha]
    exact S.fr.kp a u q np
  · have ha : a ≠ p := fun z => by rw [z, hf] at q; cases q
    rw [upd_ne ha]
    exact S.fr.th a u q
  · have q := S.sl i s w h1 h2
    cases s with
    | un => cases w <;> trivial
    | fz d =>
      cases w with
      | none => exact q
      | some v => exact q
    | ow l ds =>
      cases w with
      | none => exact q
      | some v =>
        obtain ⟨a, us, rfl, q1, q2, q3⟩ := q
        have ha : a ≠ p := fun z => hn i l ds h1 (by rw [h2, z])
        exact ⟨a, us, rfl, q1, by rw [upd_ne ha]; exact q2, q3⟩
theorem comp_turn (hT : Tgt g vs) {σ : St} {G1 H2 : Hp} {Dl : Addr} {P : Sls → List D → Prop} {n : Nat} {d : D} {r : List D} {x : V} (hn : n < 100000) (c : CompEx K F g tt te vs σ G1 Dl P n (d :: r) H2) (hx : ∀ G', Ex G1 G' → Rep K G' x d) :
    g x (wipe σ vs) H2 fun σ2 H3 => wipe σ2 vs = wipe σ vs ∧ tt σ2 H3 fun b H4 =>
      if b = true then te σ2 H4 fun y H5 => ∃ acc, H5 Dl = some (.lst acc) ∧ acc.length < sizeLine ∧ CompEx K F g tt te vs σ G1 Dl P (n + 1) r (upd H5 Dl (.lst (acc ++ [y]))) else CompEx K F g tt te vs σ G1 Dl P (n + 1) r H4 := by
  obtain ⟨G', ρ', acc, vacc, S', e', hg, hh, hr, hno, hf, hl, hu, hc⟩ := c
  have R := S'.reframe
  rw [hu] at R
  -- from the turn's own frame to the loop's
  have back : ∀ {G'' H'' : Hp} {σ'' : St} {ρ'' : Sls}, SRel K (here G' H2 (wipe σ vs) ρ') G'' H'' σ'' ρ'' → wipe σ'' vs = wipe σ vs → SRel K F G'' H'' (wipe σ vs) (wipeU ρ'' vs) ∧ Ex G' G'' ∧ G'' Dl = none ∧ H'' Dl = some (.lst vacc) ∧ (∀ (i : Nat) (l : Kd) (ds : List D), (wipeU ρ'' vs)[i]? = some (.ow l ds) → (wipe σ vs)[i]? ≠ some (some (.ref Dl))) := by
    intro G'' H'' σ'' ρ'' T hw
    have W := (S'.back T).wipes vs
    rw [hw, wipeS_unloc] at W
    have W1 := T.unlocs.wipes vs
    rw [hw, wipeS_unloc] at W1
    have hD : H'' Dl = some (.lst vacc) := T.fr.kp Dl _ hh (by
      rintro ⟨i, l, ds, h1, h2⟩
      exact hno i l ds h1 h2)
    refine ⟨W, FrOk.grow T.fr S'.ex, ?_, hD, fun i l ds h z => ?_⟩
    · rw [T.fr.old Dl _ hh]
      exact hg
    · rcases (W1.own i l ds Dl h z).or with q | ⟨j, l', ds', k1, k2⟩
      · have q' : H2 Dl = none := q
        rw [hh] at q'
        cases q'
      · exact hno j l' ds' k1 k2
  refine hT x σ H2 _ _ (hc (here G' H2 (wipe σ vs) ρ') (wipe σ vs) G' H2 x R (hx G' e') (fun σ3 H3 => ∃ ρ3 G3, wT K (here G' H2 (wipe σ vs) ρ') tt ρ3 _ ∧ SRel K (here G' H2 (wipe σ vs) ρ') G3 H3 σ3 ρ3 ∧ Ex G' G3) fun ρ3 σ3 G3 H3 h3 S3 e3 => ⟨ρ3, G3, h3, S3, e3⟩) ?_
  rintro σ3 H3 hw ⟨ρ3, G3, h3, S3, e3⟩
  refine ⟨hw, h3 σ3 G3 H3 S3 _ fun b ρ4 G4 H4 h4 S4 e4 => ?_⟩
  cases b with
  | false =>
    obtain ⟨B1, B2, B3, B4, B5⟩ := back S4 hw
    exact ⟨G4, wipeU ρ4 vs, acc, vacc, B1, e'.trans B2, B3, B4, RepL.up B2 hr, B5, hf, Nat.le_succ_of_le hl, map_unloc _, h4.2 rfl⟩
  | true =>
    refine h4.1 rfl σ3 G4 H4 S4 _ fun y dy ρ5 G5 H5 h5 S5 r5 e5 => ?_
    obtain ⟨B1, B2, B3, B4, B5⟩ := back S5 hw
    refine ⟨vacc, B4, Evl.sz_lt (by rw [hr.length]; omega), G5, wipeU ρ5 vs, acc ++ [dy], vacc ++ [y], B1.other B3 hf B5, e'.trans B2, B3, upd_same, (RepL.up B2 hr).append (.cons r5 .nil), B5, hf, by rw [List.length_append, List.length_singleton]; omega, map_unloc _, h5⟩
theorem comp_start {σ : St} {G1 H1 : Hp} (S1 : SRel K F G1 H1 σ ρ) {ds : List D} {P : Sls → List D → Prop} (c : compL K g tt te vs ds (wipeU ρ vs) [] P) {Dl : Addr} (hD : H1 Dl = none) : CompEx K F g tt te vs σ G1 Dl P 0 ds (upd H1 Dl (.lst [])) := by
  have W := (S1.wipes vs).unlocs
  exact ⟨G1, wipeU ρ vs, [], [], W.alloc hD, Ex.refl G1, W.fr.freshG hD, upd_same, .nil, W.notOwn hD, W.fr.fresh hD, Nat.le_refl _, map_unloc _, c⟩
theorem comp_end {σ : St} {G1 H1 H' : Hp} (S1 : SRel K F G1 H1 σ ρ) {Dl : Addr} {n : Nat} {P : Sls → List D → Prop} (c : CompEx K F g tt te vs σ G1 Dl (fun ρ' acc => P (restS vs 0 ρ ρ') acc) n [] H') (hD : H1 Dl = none) :
    ∃ G' ρ' acc vacc, P ρ' acc ∧ SRel K F G' H' σ ρ' ∧ Own K F G' H' σ ρ' Dl vacc acc ∧ Ex G1 G' := by
  obtain ⟨G', ρ', acc, vacc, S', e', hg, hh, hr, hno, hf, hl, hu, hc⟩ := c
  have T := S1.rest e' S'
  refine ⟨G', _, acc, vacc, hc, T, ⟨hg, hh, hr, hf, fun i l ds h z => ?_⟩, e'⟩
  obtain ⟨a, b, q1, q2, q3⟩ := restS_get vs 0 ρ _ i _ h
  rw [Nat.zero_add] at q3
  by_cases cc : vs.contains i = true
  · cases a <;> cases b <;> simp only [rest1, cc, cond_true] at q3 <;> cases q3
  · have cm : i ∉ vs := fun z => cc (by simpa using z)
    cases a <;> cases b <;> simp only [rest1, Bool.eq_false_iff.mpr cc, cond_false] at q3 <;> cases q3
    exact hno i _ _ q2 (by rw [wipe_get cm]; exact z)
variable {P : Sls → List D → Prop}
theorem wO_lcL {tl : TE} (hT : Tgt g vs) (h : wE K F tl ρ fun ρ1 d => ∃ ds, d = .lst ds ∧ ds.length ≤ 100000 ∧ compL K g tt te vs ds (wipeU ρ1 vs) [] fun ρ' acc => P (restS vs 0 ρ1 ρ') acc) : wO K F (tLc (iList K tl) g tt te vs) ρ P := fun σ G H S Q q =>
  h σ G H S _ fun v d ρ1 G1 H1 h1 S1 r1 e1 => by
    obtain ⟨ds, rfl, hl, f⟩ := h1
    cases r1 with
    | lst ha hr =>
      rename_i a xs
      refine ⟨a, rfl, ⟨xs, SqL.of (S1.ex _ _ ha)⟩, fun Dl hD => lc_list (K := K) (a := a) (xs := xs) (fun i H' => CompEx K F g tt te vs σ G1 Dl (fun ρ' acc => P (restS vs 0 ρ1 ρ') acc) i (ds.drop i) H') (comp_start S1 f hD) (fun i H' _ c => ?_) (fun i x H' hx c => ?_) fun H' c => ?_⟩
      · obtain ⟨G', ρ', acc, vacc, c⟩ := c
        exact SqL.of (c.S.ex _ _ (c.e _ _ ha))
      · obtain ⟨d, hd, rd⟩ := hr.getV hx
        rw [drop_at hd] at c
        have hlt := (List.getElem?_eq_some_iff.mp hd).1
        exact comp_turn hT (by omega) c fun G' e' => rd.up e'
      · rw [hr.length, List.drop_length] at c
        obtain ⟨G', ρ', acc, vacc, p, S', o, e'⟩ := comp_end (P := P) S1 c hD
        exact q _ _ _ ρ' G' H' p S' o (e1.trans e')
theorem wO_lcT {tl : TE} (hT : Tgt g vs) (h : wE K F tl ρ fun ρ1 d => ∃ ds, d = .tup ds ∧ ds.length ≤ 100000 ∧ compL K g tt te vs ds (wipeU ρ1 vs) [] fun ρ' acc => P (restS vs 0 ρ1 ρ') acc) : wO K F (tLc (iTup K tl) g tt te vs) ρ P := fun σ G H S Q q =>
  h σ G H S _ fun v d ρ1 G1 H1 h1 S1 r1 e1 => by
    obtain ⟨ds, rfl, hl, f⟩ := h1
    cases r1 with
    | tup ha hr =>
      rename_i a xs
      refine ⟨a, rfl, ⟨xs, Evl.ex_t S1.ex ha⟩, fun Dl hD => lc_tup (K := K) (a := a) (xs := xs) (fun i H' => CompEx K F g tt te vs σ G1 Dl (fun ρ' acc => P (restS vs 0 ρ1 ρ') acc) i (ds.drop i) H') (comp_start S1 f hD) (fun i H' _ c => ?_) (fun i x H' hx c => ?_) fun H' c => ?_⟩
      · obtain ⟨G', ρ', acc, vacc, c⟩ := c
        exact Evl.ex_t (c.e.trans c.S.ex) ha
      · obtain ⟨d, hd, rd⟩ := hr.getV hx
        rw [drop_at hd] at c
        have hlt := (List.getElem?_eq_some_iff.mp hd).1
        exact comp_turn hT (by omega) c fun G' e' => rd.up e'
      · rw [hr.length, List.drop_length] at c
        obtain ⟨G', ρ', acc, vacc, p, S', o, e'⟩ := comp_end (P := P) S1 c hD
        exact q _ _ _ ρ' G' H' p S' o (e1.trans e')
theorem comp_rng (hT : Tgt g vs) {σ : St} {G1 H1 : Hp} (S1 : SRel K F G1 H1 σ ρ) {lo : Int} {n : Nat} (hn : n ≤ 100000) (f : compL K g tt te vs (rng lo n) (wipeU ρ vs) [] fun ρ' acc => P (restS vs 0 ρ ρ') acc) {Q : VK}
    (q : ∀ (p : Addr) (vs : List V) (ds : List D) (ρ' : Sls) (G' H' : Hp), P ρ' ds → SRel K F G' H' σ ρ' → Own K F G' H' σ ρ' p vs ds → Ex G1 G' → Q (.ref p) H') : ∀ Dl, H1 Dl = none → ∃ W : Nat → Nat → Hp → Prop, (∃ m, W 0 m (upd H1 Dl (.lst []))) ∧ ∀ i m H, W i m H →
      ((Itr lo n).stop i H ∧ Q (.ref Dl) H) ∨ ((Itr lo n).go i H ∧ ∃ Nx : Hp → Prop, (∀ H', Nx H' → ∃ m', m' < m ∧ W (i + 1) m' H') ∧ ∀ x H', (Itr lo n).yld i H x H' → g x (wipe σ vs) H' fun σ2 H2 => wipe σ2 vs = wipe σ vs ∧ tt σ2 H2 fun b H3 =>
        if b = true then te σ2 H3 fun y H4 => ∃ acc, H4 Dl = some (.lst acc) ∧ acc.length < sizeLine ∧ Nx (upd H4 Dl (.lst (acc ++ [y]))) else Nx H3) := fun Dl hD => by
  refine lc_range (lo := lo) (n := n) (Qd := fun H => Q (.ref Dl) H) (fun i H' => CompEx K F g tt te vs σ G1 Dl (fun ρ' acc => P (restS vs 0 ρ ρ') acc) i ((rng lo n).drop i) H') (comp_start S1 f hD) (fun i H' hi c => ?_) fun H' c => ?_
  · rw [drop_at (rng_get hi)] at c
    exact comp_turn hT (by omega) c fun G' e' => .int _
  · have z : (rng lo n).drop n = [] := List.drop_eq_nil_of_le (by rw [rng_len]; exact Nat.le_refl n)
    rw [z] at c
    obtain ⟨G', ρ', acc, vacc, p, S', o, e'⟩ := comp_end (P := P) S1 c hD
    exact q _ _ _ ρ' G' H' p S' o e'
theorem wO_lcR1 {ta : TA} (hT : Tgt g vs) (h : wA K F ta ρ fun ρ1 ds => ∃ n : Int, ds = [.int n] ∧ -(2 ^ 62) ≤ n ∧ n ≤ 100000 ∧ compL K g tt te vs (rng 0 n.toNat) (wipeU ρ1 vs) [] fun ρ' acc => P (restS vs 0 ρ1 ρ') acc) : wO K F (tLc (iRng1 ta) g tt te vs) ρ P := fun σ G H S Q q =>
  h σ G H S _ fun vs' ds ρ1 G1 H1 h1 S1 r1 e1 => by
    obtain ⟨n, rfl, h2, h3, f⟩ := h1
    cases r1 with
    | cons ra rr =>
      cases rr; cases ra
      exact ⟨n, rfl, h2, by omega, comp_rng hT S1 (by omega) f fun p ws ds ρ' G' H' pp S' o e' => q p ws ds ρ' G' H' pp S' o (e1.trans e')⟩
end
end DL
namespace DL
open PySem L2
open Evl (Ex)

/-! ### promises of defs, over data -/
inductive Rs where
  | fz (d : D)
  | ow (ds : List D)
def RsR (K : PySem.W.Frag) (F : Fr) (G' H' : Hp) (v : V) : Rs → Prop
  | .fz d => Rep K G' v d
  | .ow ds => ∃ p vs, v = .ref p ∧ G' p = none ∧ H' p = some (.lst vs) ∧ RepL K G' vs ds ∧ F.H0 p = none
def RsP (P : D → Prop) : Rs → Prop
  | .fz d => P d
  | .ow ds => P (.lst ds)
def RsO (P : List D → Prop) : Rs → Prop
  | .fz _ => False
  | .ow ds => P ds
abbrev XD := Addr → List (Str × D) → Prop
/-- what is wished of what is raised -/
def EOk (K : PySem.W.Frag) (F : Fr) (E : XK) (X : XD) : Prop := ∀ (C : Addr) (fs : List (Str × D)) (d : Addr) (G' H' : Hp) (fvs : List (Str × V)), X C fs → FrOk F G' H' → H' d = some (.xd fvs) → RepF K G' fvs fs → E (.ref C) (some d) H'
def fr0 (G H : Hp) : Fr := ⟨G, H, fun _ => False⟩
def fr1 (G H : Hp) (p : Addr) : Fr := ⟨G, H, fun a => a = p⟩
abbrev X0 : XD := fun _ _ => False
theorem eok0 {K : PySem.W.Frag} {F : Fr} {E : XK} : EOk K F E X0 := fun _ _ _ _ _ _ h => h.elim
/-- things in, a thing out -/
abbrev W0 := List D → (Rs → Prop) → XD → Prop
def sp0 (K : PySem.W.Frag) (W : W0) : Sp := fun vs H Q E => ∃ (G : Hp) (ds : List D) (Φ : Rs → Prop) (X : XD), Ex G H ∧ RepL K G vs ds ∧ W ds Φ X ∧
  (∀ (r : Rs) (v : V) (G' H' : Hp), Φ r → FrOk (fr0 G H) G' H' → RsR K (fr0 G H) G' H' v r → Q v H') ∧ EOk K (fr0 G H) E X
/-- an own list ahead, which the def may change -/
abbrev W1 := List D → List D → (List D → Rs → Prop) → XD → Prop
def sp1 (K : PySem.W.Frag) (W : W1) : Sp := fun vs H Q E => ∃ (G : Hp) (p : Addr) (us : List V) (ds : List D) (ws : List V) (es : List D) (Φ : List D → Rs → Prop) (X : XD), vs = .ref p :: ws ∧ Ex G H ∧ G p = none ∧ H p = some (.lst us) ∧ RepL K G us ds ∧ RepL K G ws es ∧ W ds es Φ X ∧
  (∀ (ds' : List D) (r : Rs) (v : V) (G' H' : Hp) (us' : List V), Φ ds' r → FrOk (fr1 G H p) G' H' → G' p = none → H' p = some (.lst us') → RepL K G' us' ds' → RsR K (fr1 G H p) G' H' v r → Q v H') ∧ EOk K (fr1 G H p) E X
section
variable {K : PySem.W.Frag} {F : Fr} {ρ : Sls} {P : Sls → D → Prop} {ta : TA}
theorem FrOk.after0 {G H G' H' : Hp} (f : FrOk F G H) (T : FrOk (fr0 G H) G' H') : FrOk F G' H' := ⟨T.ex, fun a o h => by
    obtain ⟨o', q⟩ := f.th a o h
    exact (T.old a o' q).trans (f.old a o h), fun a o h np => T.kp a o (f.kp a o h np) (fun z => z), fun a o h => by
    obtain ⟨o', q⟩ := f.th a o h
    exact T.th a o' q⟩
theorem SRel.after0 {G H G' H' : Hp} {σ : St} (S : SRel K F G H σ ρ) (T : FrOk (fr0 G H) G' H') : SRel K F G' H' σ ρ ∧ Ex G G' := by
  have e : Ex G G' := fun a o h => by
    rw [T.old a o (S.ex a o h)]
    exact h
  refine ⟨⟨S.fr.after0 T, S.len, fun i s o h1 h2 => (S.sl i s o h1 h2).up e (fun p hg ⟨o, hh⟩ => (T.old p o hh).trans hg) (fun p o hh _ => T.kp p o hh (fun z => z)), S.dis, S.own⟩, e⟩
theorem RsR.own {G H G' H' : Hp} {σ : St} {v : V} {r : Rs} {ds : List D} (S : SRel K F G H σ ρ) (T : FrOk (fr0 G H) G' H') (h : RsR K (fr0 G H) G' H' v (.ow ds)) : ∃ p vs, v = .ref p ∧ Own K F G' H' σ ρ p vs ds := by
  obtain ⟨p, vs, rfl, h1, h2, h3, h4⟩ := h
  exact ⟨p, vs, rfl, h1, h2, h3, S.fr.fresh h4, S.notOwn h4⟩
theorem EOk.after0 {G H : Hp} {σ : St} {E : XK} {X : XD} (S : SRel K F G H σ ρ) (hE : EOk K F E X) : EOk K (fr0 G H) E X := fun C fs d G' H' fvs h T hd hr => hE C fs d G' H' fvs h (S.fr.after0 T) hd hr
theorem wE_call {W : W0} {E : XK} {X : XD} (hE : EOk K F E X) (h : wA K F ta ρ fun ρ1 ds => W ds (RsP (P ρ1)) X) : wE K F (tCall (sp0 K W) [] E ta) ρ P := fun σ G H S Q q =>
  h σ G H S _ fun vs ds ρ1 G1 H1 h1 S1 r1 e1 => by
    rw [List.append_nil]
    refine ⟨G1, ds, _, X, S1.ex, r1, h1, fun r v G' H' hr T rr => ?_, EOk.after0 S1 hE⟩
    obtain ⟨S2, e2⟩ := S1.after0 T
    cases r with
    | fz d => exact q v d ρ1 G' H' hr S2 rr (e1.trans e2)
    | ow ds' =>
      obtain ⟨p, vs', rfl, o⟩ := RsR.own (r := .ow ds') S1 T rr
      obtain ⟨G3, S3, e3, r3⟩ := o.freeze S2
      exact q _ _ ρ1 G3 H' hr S3 r3 ((e1.trans e2).trans e3)
theorem wO_call {W : W0} {E : XK} {X : XD} {PO : Sls → List D → Prop} (hE : EOk K F E X) (h : wA K F ta ρ fun ρ1 ds => W ds (RsO (PO ρ1)) X) : wO K F (tCall (sp0 K W) [] E ta) ρ PO := fun σ G H S Q q =>
  h σ G H S _ fun vs ds ρ1 G1 H1 h1 S1 r1 e1 => by
    rw [List.append_nil]
    refine ⟨G1, ds, _, X, S1.ex, r1, h1, fun r v G' H' hr T rr => ?_, EOk.after0 S1 hE⟩
    obtain ⟨S2, e2⟩ := S1.after0 T
    cases r with
    | fz d => exact hr.elim
    | ow ds' =>
      obtain ⟨p, vs', rfl, o⟩ := RsR.own (r := .ow ds') S1 T rr
      exact q p vs' ds' ρ1 G' H' hr S2 o (e1.trans e2)
/-- behind a call that may change slot i's own list -/
theorem FrOk.after1 {G H G' H' : Hp} {σ : St} {i : Nat} {l : Kd} {ds : List D} {p : Addr} (S : SRel K F G H σ ρ) (hi : ρ[i]? = some (.ow l ds)) (hp : σ[i]? = some (some (.ref p))) (T : FrOk (fr1 G H p) G' H') : FrOk F G' H' := ⟨T.ex, fun a o h => by
    obtain ⟨o', q⟩ := S.fr.th a o h
    exact (T.old a o' q).trans (S.fr.old a o h), fun a o h np => T.kp a o (S.fr.kp a o h np) (fun z => by
      have z' : a = p := z
      subst z'
      rcases (S.own i l ds a hi hp).or with w | w
      · rw [w] at h; cases h
      · exact np w), fun a o h => by
    obtain ⟨o', q⟩ := S.fr.th a o h
    exact T.th a o' q⟩
theorem SRel.after1 {G H G' H' : Hp} {σ : St} {i : Nat} {l : Kd} {ds ds' : List D} {p : Addr} {us : List V} (S : SRel K F G H σ ρ) (hi : ρ[i]? = some (.ow l ds)) (hp : σ[i]? = some (some (.ref p))) (T : FrOk (fr1 G H p) G' H') (hg : G' p = none) (hh : H' p = some (.lst us)) (hr : RepL K G' us ds') :
    SRel K F G' H' σ (ρ.set i (.ow l ds')) ∧ Ex G G' := by
  have e : Ex G G' := fun a o h => by
    rw [T.old a o (S.ex a o h)]
    exact h
  have hl : i < ρ.length := (List.getElem?_eq_some_iff.mp hi).1
  have get : ∀ (j : Nat) (s : Sl), (ρ.set i (.ow l ds'))[j]? = some s → (j = i ∧ s = .ow l ds') ∨ (j ≠ i ∧ ρ[j]? = some s) := fun j s h => by
    by_cases hj : j = i
    · subst hj
      rw [List.getElem?_set_self hl] at h
      cases h
      exact .inl ⟨rfl, rfl⟩
    · rw [List.getElem?_set_ne (Ne.symm hj)] at h
      exact .inr ⟨hj, h⟩
  have geto : ∀ (j : Nat) (m : Kd) (es : List D), (ρ.set i (.ow l ds'))[j]? = some (.ow m es) → ∃ es', ρ[j]? = some (.ow m es') := fun j m es h => by
    rcases get j _ h with ⟨rfl, z⟩ | ⟨_, h⟩
    · cases z
      exact ⟨_, hi⟩
    · exact ⟨_, h⟩
  refine ⟨⟨FrOk.after1 S hi hp T, by rw [List.length_set]; exact S.len, fun j s w h1 h2 => ?_, fun a b q m n da db h1 h2 h3 h4 => ?_, fun j m da q h1 h2 => ?_⟩, e⟩
  · rcases get j s h1 with ⟨rfl, rfl⟩ | ⟨hj, h1⟩
    · rw [hp] at h2
      cases h2
      exact ⟨p, us, rfl, hg, hh, hr⟩
    · have q := S.sl j s w h1 h2
      cases s with
      | un => cases w <;> trivial
      | fz d =>
        cases w with
        | none => exact q
        | some v => exact Rep.up e q
      | ow m dj =>
        cases w with
        | none => exact q
        | some v =>
          obtain ⟨a, vs, rfl, q1, q2, q3⟩ := q
          have ha : a ≠ p := fun z => by
            subst z
            exact hj (S.dis j i a m l dj ds h1 hi h2 hp)
          exact ⟨a, vs, rfl, (T.old a _ q2).trans q1, T.kp a _ q2 ha, RepL.up e q3⟩
  · obtain ⟨_, h1⟩ := geto a _ _ h1
    obtain ⟨_, h2⟩ := geto b _ _ h2
    exact S.dis a b q _ _ _ _ h1 h2 h3 h4
  · obtain ⟨es', h1⟩ := geto j _ _ h1
    exact S.own j m es' q h1 h2
theorem EOk.after1 {G H : Hp} {σ : St} {i : Nat} {l : Kd} {ds : List D} {p : Addr} {E : XK} {X : XD} (S : SRel K F G H σ ρ) (hi : ρ[i]? = some (.ow l ds)) (hp : σ[i]? = some (some (.ref p))) (hE : EOk K F E X) : EOk K (fr1 G H p) E X := fun C fs d G' H' fvs h T hd hr => hE C fs d G' H' fvs h (FrOk.after1 S hi hp T) hd hr
theorem wE_call1 {W : W1} {E : XK} {X : XD} {i : Nat} {tr : TA} (hE : EOk K F E X) (hi : ∃ (l : Kd) (ds : List D), ρ[i]? = some (.ow l ds)) (h : wA K F tr ρ fun ρ1 es => ∃ (l : Kd) (ds : List D), ρ1[i]? = some (.ow l ds) ∧ W ds es (fun ds' r => RsP (P (ρ1.set i (.ow l ds'))) r) X) :
    wE K F (tCall (sp1 K W) [] E (tCons (tVar i) tr)) ρ P := fun σ G H S Q q => by
  obtain ⟨l0, ds0, hi⟩ := hi
  obtain ⟨p, us0, hp, _⟩ := S.ow hi
  refine ⟨.ref p, hp, h σ G H S _ fun vs es ρ1 G1 H1 h1 S1 r1 e1 => ?_⟩
  obtain ⟨l, ds, hi1, hW⟩ := h1
  obtain ⟨p', us, hp', hg, hh, hr⟩ := S1.ow hi1
  rw [hp] at hp'
  cases hp'
  show sp1 K W ((V.ref p :: vs) ++ []) H1 Q E
  rw [List.append_nil]
  refine ⟨G1, p, us, ds, vs, es, _, X, rfl, S1.ex, hg, hh, hr, r1, hW, fun ds' r v G' H' us' hΦ T hg' hh' hr' rr => ?_, EOk.after1 S1 hi1 hp hE⟩
  obtain ⟨S2, e2⟩ := S1.after1 hi1 hp T hg' hh' hr'
  cases r with
  | fz d => exact q v d _ G' H' hΦ S2 rr (e1.trans e2)
  | ow ds2 =>
    obtain ⟨a, ws, rfl, k1, k2, k3, k4⟩ := rr
    have o : Own K F G' H' σ (ρ1.set i (.ow l ds')) a ws ds2 := ⟨k1, k2, k3, S1.fr.fresh k4, fun j m es hj => by
      by_cases hji : j = i
      · subst hji
        intro z
        rw [hp] at z
        cases z
        have k4' : H1 p = none := k4
        rw [hh] at k4'
        cases k4'
      · rw [List.getElem?_set_ne (Ne.symm hji)] at hj
        exact S1.notOwn (show H1 a = none from k4) j m es hj⟩
    obtain ⟨G3, S3, e3, r3⟩ := o.freeze S2
    exact q _ _ _ G3 H' hΦ S3 r3 ((e1.trans e2).trans e3)

/-! ### a def's body against its promise -/
def st0 (N : List Str) (ds : List D) : Sls := ds.map .fz ++ List.replicate (N.length - ds.length) .un
def out0 (Φ : Rs → Prop) : Out := { nx := fun _ => Φ (.fz .non), rt := fun _ d => Φ (.fz d), ro := fun _ ds => Φ (.ow ds) }
theorem start_get {N : List Str} {vs : List V} {i : Nat} {o : Option V} (h : (start N vs)[i]? = some o) : (i < vs.length ∧ o = vs[i]?) ∨ (vs.length ≤ i ∧ o = none) := by
  unfold L2.start at h
  by_cases hl : i < vs.length
  · rw [List.getElem?_append_left (by rw [List.length_map]; exact hl), List.getElem?_map, List.getElem?_eq_getElem hl] at h
    cases h
    exact .inl ⟨hl, (List.getElem?_eq_getElem hl).symm⟩
  · rw [List.getElem?_append_right (by rw [List.length_map]; omega)] at h
    refine .inr ⟨by omega, ?_⟩
    have := List.mem_of_getElem? h
    exact (List.mem_replicate.mp this).2
theorem st0_get {N : List Str} {ds : List D} {i : Nat} {s : Sl} (h : (st0 N ds)[i]? = some s) : (∃ d, ds[i]? = some d ∧ s = .fz d) ∨ s = .un := by
  unfold st0 at h
  by_cases hl : i < ds.length
  · rw [List.getElem?_append_left (by rw [List.length_map]; exact hl), List.getElem?_map, List.getElem?_eq_getElem hl] at h
    cases h
    exact .inl ⟨ds[i], List.getElem?_eq_getElem hl, rfl⟩
  · rw [List.getElem?_append_right (by rw [List.length_map]; omega)] at h
    exact .inr (List.mem_replicate.mp (List.mem_of_getElem? h)).2
theorem srel0 {N : List Str} {vs : List V} {ds : List D} {G H : Hp} (e : Ex G H) (r : RepL K G vs ds) : SRel K (fr0 G H) G H (start N vs) (st0 N ds) := by
  refine ⟨⟨e, fun _ _ _ => rfl, fun a o h _ => h, fun a o h => ⟨o, h⟩⟩, ?_, fun i s o h1 h2 => ?_, fun i j p l m di dj h1 => ?_, fun i l di p h1 => ?_⟩
  · unfold L2.start st0
    rw [List.length_append, List.length_append, List.length_map, List.length_map, List.length_replicate, List.length_replicate, r.length]
  · rcases st0_get h1 with ⟨d, hd, rfl⟩ | rfl
    · obtain ⟨v, hv, rv⟩ := r.get hd
      rcases start_get h2 with ⟨_, z⟩ | ⟨z, _⟩
      · rw [z, hv]
        exact rv
      · rw [List.getElem?_eq_none z] at hv
        cases hv
    · cases o <;> trivial
  · rcases st0_get h1 with ⟨_, _, z⟩ | z <;> cases z
  · rcases st0_get h1 with ⟨_, _, z⟩ | z <;> cases z
theorem body0 {W : W0} {t : TS} {N : List Str} {vs : List V} {H : Hp} {Q : VK} {E : XK} (h : sp0 K W vs H Q E) (hb : ∀ (ds : List D) (Φ : Rs → Prop) (X : XD) (F : Fr), W ds Φ X → EOk K F E X → wS K F t (st0 N ds) (out0 Φ)) : t { nx := fun _ H' => Q .non H', rt := Q } (start N vs) H := by
  obtain ⟨G, ds, Φ, X, e, r, hW, hQ, hE⟩ := h
  exact hb ds Φ X (fr0 G H) hW hE _ G H (srel0 e r) _ ⟨fun ρ σ G' H' h S _ => hQ _ _ G' H' h S.fr .non, fun ρ σ G' H' v d h S _ rr => hQ _ v G' H' h S.fr rr, fun ρ σ G' H' p ws ds' h S _ h1 h2 h3 h4 => hQ _ _ G' H' h S.fr ⟨p, ws, rfl, h1, h2, h3, h4⟩, fun _ _ _ _ h => h.elim, fun _ _ _ _ h => h.elim⟩
theorem sp0_len {W : W0} {vs : List V} {H : Hp} {Q : VK} {E : XK} {n : Nat} (hl : ∀ ds Φ X, W ds Φ X → ds.length = n) (h : sp0 K W vs H Q E) : vs.length = n := by
  obtain ⟨G, ds, Φ, X, e, r, hW, hQ, hE⟩ := h
  rw [r.length]
  exact hl ds Φ X hW
def st1 (N : List Str) (ds es : List D) : Sls := .ow .par ds :: (es.map .fz ++ List.replicate (N.length - (es.length + 1)) .un)
def out1 (Φ : List D → Rs → Prop) : Out := { nx := fun ρ => ∃ ds, ρ[0]? = some (.ow .par ds) ∧ Φ ds (.fz .non), rt := fun ρ d => ∃ ds, ρ[0]? = some (.ow .par ds) ∧ Φ ds (.fz d), ro := fun ρ es => ∃ ds, ρ[0]? = some (.ow .par ds) ∧ Φ ds (.ow es) }
theorem srel1 {N : List Str} {p : Addr} {us vs : List V} {ds es : List D} {G H : Hp} (e : Ex G H) (hg : G p = none) (hh : H p = some (.lst us)) (hr : RepL K G us ds) (r : RepL K G vs es) : SRel K (fr1 G H p) G H (start N (.ref p :: vs)) (st1 N ds es) := by
  have es1 : st1 N ds es = .ow .par ds :: (es.map .fz ++ List.replicate (N.length - (es.length + 1)) .un) := rfl
  have get : ∀ (i : Nat) (s : Sl), (st1 N ds es)[i]? = some s → (i = 0 ∧ s = .ow .par ds) ∨ (∃ j d, i = j + 1 ∧ es[j]? = some d ∧ s = .fz d) ∨ s = .un := fun i s h => by
    cases i with
    | zero => cases h; exact .inl ⟨rfl, rfl⟩
    | succ j =>
      right
      have h' : (es.map Sl.fz ++ List.replicate (N.length - (es.length + 1)) Sl.un)[j]? = some s := h
      by_cases hl : j < es.length
      · rw [List.getElem?_append_left (by rw [List.length_map]; exact hl), List.getElem?_map, List.getElem?_eq_getElem hl] at h'
        cases h'
        exact .inl ⟨j, es[j], rfl, List.getElem?_eq_getElem hl, rfl⟩
      · rw [List.getElem?_append_right (by rw [List.length_map]; omega)] at h'
        exact .inr (List.mem_replicate.mp (List.mem_of_getElem? h')).2
  have s0 : ∀ o, (start N (.ref p :: vs))[0]? = some o → o = some (.ref p) := fun o h => by
    rcases start_get h with ⟨_, z⟩ | ⟨z, _⟩
    · exact z
    · simp at z
  refine ⟨⟨e, fun _ _ _ => rfl, fun a o h _ => h, fun a o h => ⟨o, h⟩⟩, ?_, fun i s o h1 h2 => ?_, fun i j q l m di dj h1 h2 _ _ => ?_, fun i l di q h1 h2 => ?_⟩
  · unfold L2.start st1
    simp only [List.length_append, List.length_map, List.length_cons, List.length_replicate, r.length]
    omega
  · rcases get i s h1 with ⟨rfl, rfl⟩ | ⟨j, d, rfl, hd, rfl⟩ | rfl
    · rw [s0 o h2]
      exact ⟨p, us, rfl, hg, hh, hr⟩
    · obtain ⟨v, hv, rv⟩ := r.get hd
      rcases start_get h2 with ⟨_, z⟩ | ⟨z, _⟩
      · rw [z, List.getElem?_cons_succ, hv]
        exact rv
      · rw [List.length_cons] at z
        rw [List.getElem?_eq_none (by omega)] at hv
        cases hv
    · cases o <;> trivial
  · rcases get i _ h1 with ⟨rfl, _⟩ | ⟨_, _, _, _, z⟩ | z
    · rcases get j _ h2 with ⟨rfl, _⟩ | ⟨_, _, _, _, z⟩ | z
      · rfl
      · cases z
      · cases z
    · cases z
    · cases z
  · rcases get i _ h1 with ⟨rfl, z⟩ | ⟨_, _, _, _, z⟩ | z
    · cases z
      have := s0 _ h2
      cases this
      exact rfl
    · cases z
    · cases z
theorem body1 {W : W1} {t : TS} {N : List Str} {vs : List V} {H : Hp} {Q : VK} {E : XK} (h : sp1 K W vs H Q E) (hb : ∀ (ds es : List D) (Φ : List D → Rs → Prop) (X : XD) (F : Fr), W ds es Φ X → EOk K F E X → wS K F t (st1 N ds es) (out1 Φ)) : t { nx := fun _ H' => Q .non H', rt := Q } (start N vs) H := by
  obtain ⟨G, p, us, ds, ws, es, Φ, X, rfl, e, hg, hh, hr, r, hW, hQ, hE⟩ := h
  have key : ∀ {ρ : Sls} {σ : St} {G' H' : Hp} {ds' : List D}, SRel K (fr1 G H p) G' H' σ ρ → ρ[0]? = some (.ow .par ds') → ∃ us', G' p = none ∧ H' p = some (.lst us') ∧ RepL K G' us' ds' := fun {ρ σ G' H' ds'} S h0 => by
    obtain ⟨p', us', h1, h2, h3, h4⟩ := S.ow h0
    have z : p' = p := S.own 0 .par ds' p' h0 h1
    subst z
    exact ⟨us', h2, h3, h4⟩
  refine hb ds es Φ X (fr1 G H p) hW hE _ G H (srel1 e hg hh hr r) _ ⟨fun ρ σ G' H' h S _ => ?_, fun ρ σ G' H' v d h S _ rr => ?_, fun ρ σ G' H' q zs ds' h S _ h1 h2 h3 h4 => ?_, fun _ _ _ _ h => h.elim, fun _ _ _ _ h => h.elim⟩
  · obtain ⟨ds', h0, hΦ⟩ := h
    obtain ⟨us', k1, k2, k3⟩ := key S h0
    exact hQ ds' _ _ G' H' us' hΦ S.fr k1 k2 k3 .non
  · obtain ⟨ds', h0, hΦ⟩ := h
    obtain ⟨us', k1, k2, k3⟩ := key S h0
    exact hQ ds' _ v G' H' us' hΦ S.fr k1 k2 k3 rr
  · obtain ⟨es', h0, hΦ⟩ := h
    obtain ⟨us', k1, k2, k3⟩ := key S h0
    exact hQ es' _ _ G' H' us' hΦ S.fr k1 k2 k3 ⟨q, zs, rfl, h1, h2, h3, h4⟩
theorem sp1_len {W : W1} {vs : List V} {H : Hp} {Q : VK} {E : XK} {n : Nat} (hl : ∀ ds es Φ X, W ds es Φ X → es.length + 1 = n) (h : sp1 K W vs H Q E) : vs.length = n := by
  obtain ⟨G, p, us, ds, ws, es, Φ, X, rfl, e, hg, hh, hr, r, hW, hQ, hE⟩ := h
  rw [List.length_cons, r.length]
  exact hl ds es Φ X hW
/-- the law: a list of at most 63 ints is handed in, True comes out -/
def WLaw : W0 := fun ds Φ _ => ∃ ns : List Int, ns.length ≤ 63 ∧ ds = [.scr ns] ∧ Φ (.fz (.bl true))
theorem law_sp (K : PySem.W.Frag) (H : Hp) (a : Addr) (ns : List Int) (hl : ns.length ≤ 63) (ho : Only H) (hS : SqL K H a (ns.map V.int)) : sp0 K WLaw [.ref a] H (fun v _ => v = .bl true) fun _ _ _ => False :=
  ⟨H, [.scr ns], fun r => r = .fz (.bl true), X0, Ex.refl H, .cons (.scr hS) .nil, ⟨ns, hl, rfl, rfl⟩, fun r v G' H' hr _ rr => by
    subst hr
    cases rr
    rfl, eok0⟩
end
end DL
namespace DL
open PySem L2
open Evl (Ex)

/-! ### rules of one's own at the level of the hand layer -/
/-- a def of the module that may be called by its name -/
structure Callee (P : Program) (w : World) (K : PySem.W.Frag) (mg : Str → Option Value) (base : Heap) (k : Nat) (x : Str) (sp : Sp) : Prop where
  ex : ∃ (f : Addr) (fd : FuncData) (ps : List Str), FnOk P w K mg base L2.CX0 k f fd ps sp ∧ mg x = some (.ref f) ∧ PySem.W.keepIn K (.ref f) = true ∧ Binds K fd ps []
theorem Callee.mono {P : Program} {w : World} {K : PySem.W.Frag} {mg : Str → Option Value} {base : Heap} {j k : Nat} {x : Str} {sp : Sp} (c : Callee P w K mg base j x sp) (h : j ≤ k) : Callee P w K mg base k x sp := by
  obtain ⟨f, fd, ps, F, r⟩ := c.ex
  exact ⟨f, fd, ps, F.mono h, r⟩
section
variable {X : Cx} {k j : Nat} {x : Str} {sp : Sp} {p pos : Pos} {e : Expr} {es : List Expr} {t : TA}
theorem pe_cl (c : Callee X.prog X.w X.K X.mg X.base k x sp) (hr : Room j X.A) (hk : k ≤ j) (hg : Gl X x) (ha : PA X (e :: es) t)
    (hd : (x == ("__debug__" : Str)) = false := by decide) (he : starEach (e :: es) X.env = (false, eval e X.env) :: starEach es X.env := by rfl) (hpl : (backTo pos (starEach es X.env)).any (·.1) = false := by rfl) : PE X (.Call (.Name x p) (e :: es) [] pos) (tCall sp [] L2.E0 t) := by
  obtain ⟨f, fd, ps, F, hm, hkp, hb⟩ := c.ex
  exact pe_call F (hr.mono hk) hg hm hkp hb .nil pass0 ha hd he hpl
theorem pe_cl0 (c : Callee X.prog X.w X.K X.mg X.base k x sp) (hr : Room j X.A) (hk : k ≤ j) (hg : Gl X x)
    (hd : (x == ("__debug__" : Str)) = false := by decide) : PE X (.Call (.Name x p) [] [] pos) (tCall sp [] L2.E0 tNil) := by
  obtain ⟨f, fd, ps, F, hm, hkp, hb⟩ := c.ex
  exact pe_call0 F (hr.mono hk) hg hm hkp hb .nil pass0 hd
/-- a constant of the module -/
structure Kon (K : PySem.W.Frag) (mg : Str → Option Value) (x : Str) (d : D) : Prop where
  ex : ∃ u v, mg x = some u ∧ RelV v u ∧ ∀ G, Rep K G v d
/-- + of numbers, of lists, of texts -/
def rPlus : R2 := fun x y H Q => (rI0 fun i j => .int (i + j)) x y H Q ∨ rCat x y H Q ∨ (∃ i j, x = .str i ∧ y = .str j ∧ i.length + j.length ≤ sizeLine ∧ Q (.str (i ++ j)) H)
theorem op_plus : OpR X (binaryOp .Add) rPlus := op_add.or (op_cat.or op_add_str)
/-- is True, is False -/
def rIsTF (neg : Bool) : R2 := fun x y H Q => ∃ b : Bool, y = .bl b ∧ ((∃ a : Bool, x = .bl a ∧ Q (.bl (xor neg (decide (a = b)))) H) ∨ ((∀ a, x ≠ .bl a) ∧ (∀ n, x ≠ .ty n) ∧ Q (.bl neg) H))
end
/-- list.count of flat things -/
def rCntF (K : PySem.W.Frag) : V → List V → Hp → VK → Prop := fun x xs H Q => ∃ (p : Addr) (ys : List V) (y : V), x = .ref p ∧ xs = [y] ∧ SqL K H p ys ∧ flatV y = true ∧ ys.all flatV = true ∧ Q (.int ((ys.countP fun z => eqV z y : Nat) : Int)) H
theorem countP_eqU {x : V} : ∀ {xs : List V} {us : List Value}, Vals xs us → xs.all flatV = true → us.countP (eqU x) = xs.countP fun y => eqV y x
  | _, _, .nil, _ => rfl
  | _, _, .cons r t, f => by
    rw [List.all_cons, Bool.and_eq_true] at f
    rw [List.countP_cons, List.countP_cons, countP_eqU t f.2, eqU_of r f.1]
theorem mt_countF {X : Cx} : MtR X "list.count" (rCntF X.K) := by
  intro pins s σ H x xs v us Q I rx rxs h
  obtain ⟨p, ys, y, rfl, rfl, hs, fy, fys, q⟩ := h
  cases rx
  obtain ⟨u, rfl, ru⟩ := rxs.one
  obtain ⟨its, rv, ⟨⟨cls, dd, data, sl⟩, n, ho, hc, hdn, hd⟩, hlen⟩ := I.list hs
  simp only at hc hd
  subst hc hd
  refine call_meets PySem.F.slot_list_count ⟨_, ho, rfl⟩ PySem.F.entry_list_count (PySem.F.args_list_count_2 _ _)
    (SeqAt.list_countAt p its.toArray n dd sl u (eqU y)) ⟨ho, fun z hz => mem_eqAt ru fy rv fys z (by simpa using hz), ?_⟩
  have ec : its.toArray.toList.countP (eqU y) = ys.countP fun z => eqV z y := by
    rw [← countP_eqU rv fys]
  refine ⟨.int _, H, I.tok _, ⟨s.toks, ?_⟩, q⟩
  show Value.int ((its.toArray.toList.countP (eqU y) : Nat) : Int) s.toks = _
  rw [ec]

theorem rso_ow {P : List D → Prop} {ds : List D} (h : P ds) : RsO P (.ow ds) := h
theorem rng_at {lo : Int} {n i : Nat} {x : D} (h : (rng lo n)[i]? = some x) : i < n ∧ x = .int (lo + (i : Int)) := by
  have hl := (List.getElem?_eq_some_iff.mp h).1
  rw [rng_len] at hl
  rw [rng_get hl] at h
  cases h
  exact ⟨hl, rfl⟩
theorem rsp_fz {P : D → Prop} {d : D} (h : P d) : RsP P (.fz d) := h
section
variable {K : PySem.W.Frag} {F : Fr} {g : TG} {tt : TT} {te : TE} {vs : List Nat} {ρ : Sls} {acc : List D} {P : Sls → List D → Prop} {x : D} {r : List D} {tb : TS} {O : Out}
theorem compL_nil (h : P ρ acc) : compL K g tt te vs [] ρ acc P := h
theorem compL_cons (h : ∀ F, wG K F g x ρ fun ρ2 => wT K F tt ρ2 fun ρ3 b => Ways b (wE K F te ρ3 fun ρ4 y => compL K g tt te vs r (wipeU ρ4 vs) (acc ++ [y]) P) (compL K g tt te vs r (wipeU ρ3 vs) acc P)) : compL K g tt te vs (x :: r) ρ acc P := h
theorem forS_nil (h : O.nx ρ) : forS K F g tb O [] ρ := h
theorem forS_cons (h : wG K F g x ρ fun ρ3 => wS K F tb ρ3 { nx := forS K F g tb O r, ct := forS K F g tb O r, bk := O.nx, rt := O.rt, ro := O.ro }) : forS K F g tb O (x :: r) ρ := h
theorem wT_yes {PB : Sls → Bool → Prop} (h : PB ρ true) : wT K F tYes ρ PB := fun σ G H S Q q => q true ρ G H h S (Ex.refl G)
end
/-! ### their readings over data -/
section
variable {K : PySem.W.Frag} {F : Fr} {ρ : Sls} {P : Sls → D → Prop} {te ta tb : TE} {r : R2} {x y : D}
theorem wE_un {rr : V → Hp → VK → Prop} (h : wE K F ta ρ fun ρ1 x => wC K F (fun vs H Q => ∃ v, vs = [v] ∧ rr v H Q) [x] ρ1 P) : wE K F (tUn rr ta) ρ P := fun σ G H S Q q =>
  h σ G H S _ fun v x ρ1 G1 H1 h1 S1 r1 e1 => by
    obtain ⟨v', e, z⟩ := h1 σ G1 H1 [v] S1 (.cons r1 .nil) Q fun w d ρ' G' H' p S' r' e' => q w d ρ' G' H' p S' r' (e1.trans e')
    cases e
    exact z
theorem wC_neg {i : Int} (p : P ρ (.int (-i))) : wC K F (fun vs H Q => ∃ v, vs = [v] ∧ rU (fun i => .int (-i)) v H Q) [.int i] ρ P := fun σ G H vs S rs Q q => by
  cases rs with
  | cons r1 rr =>
    cases rr; cases r1
    exact ⟨_, rfl, i, rfl, q _ _ ρ G H p S (.int _) (Ex.refl G)⟩
/-- a rest by a positive number, of which its bounds alone are told -/
theorem wR_modB {i j : Int} (hj : 0 < j) (p : ∀ r : Int, 0 ≤ r → r < j → P ρ (.int r)) : wR K F (rI (fun _ j => 0 < j) fun i j => .int (i % j)) (.int i) (.int j) ρ P := wR_I hj (p _ (Int.emod_nonneg _ (by omega)) (Int.emod_lt_of_pos _ hj))
theorem wS_set0 {O : Out} {i : Nat} (h : wE K F te ρ fun ρ1 x => ∃ (l : Kd) (ds : List D), ρ1[i]? = some (.ow l ds) ∧ 0 < ds.length ∧ O.nx (ρ1.set i (.ow l (ds.set 0 x)))) : wS K F (tAsg te (gSub (tVar i) (tC (.int 0)) rSetL)) ρ O :=
  wS_setIx (wE_mono h fun ρ1 x ⟨l, ds, h1, h3, h4⟩ => ⟨l, ds, h1, wE_int ⟨l, ds, 0, rfl, h1, h3, h4⟩⟩)
theorem wS_set1 {O : Out} {i : Nat} (h : wE K F te ρ fun ρ1 x => ∃ (l : Kd) (ds : List D), ρ1[i]? = some (.ow l ds) ∧ 1 < ds.length ∧ O.nx (ρ1.set i (.ow l (ds.set 1 x)))) : wS K F (tAsg te (gSub (tVar i) (tC (.int 1)) rSetL)) ρ O :=
  wS_setIx (wE_mono h fun ρ1 x ⟨l, ds, h1, h3, h4⟩ => ⟨l, ds, h1, wE_int ⟨l, ds, 1, rfl, h1, h3, h4⟩⟩)
theorem wS_set2 {O : Out} {i : Nat} (h : wE K F te ρ fun ρ1 x => ∃ (l : Kd) (ds : List D), ρ1[i]? = some (.ow l ds) ∧ 2 < ds.length ∧ O.nx (ρ1.set i (.ow l (ds.set 2 x)))) : wS K F (tAsg te (gSub (tVar i) (tC (.int 2)) rSetL)) ρ O :=
  wS_setIx (wE_mono h fun ρ1 x ⟨l, ds, h1, h3, h4⟩ => ⟨l, ds, h1, wE_int ⟨l, ds, 2, rfl, h1, h3, h4⟩⟩)
theorem wR_plusI {i j : Int} (p : P ρ (.int (i + j))) : wR K F rPlus (.int i) (.int j) ρ P := fun σ G H vx vy S rx ry Q q => .inl (wR_I0 (g := fun i j => i + j) p σ G H vx vy S rx ry Q q)
theorem wRO_plusL {xs ys : List D} {PO : Sls → List D → Prop} (hl : xs.length + ys.length ≤ 100000) (p : PO ρ (xs ++ ys)) : wRO K F rPlus (.lst xs) (.lst ys) ρ PO := fun σ G H vx vy S rx ry Q q => .inr (.inl (wRO_cat hl p σ G H vx vy S rx ry Q q))
theorem wR_plusS {a b : Str} (hl : a.length + b.length ≤ 100000) (p : P ρ (.str (a ++ b))) : wR K F rPlus (.str a) (.str b) ρ P := fun σ G H vx vy S rx ry Q q => by
  cases rx
  cases ry
  exact .inr (.inr ⟨a, b, rfl, rfl, Evl.sz_of hl, q _ _ ρ G H p S (.str _) (Ex.refl G)⟩)
theorem wR_xL {ds : List D} {i : Int} {d : D} (h : atI ds i = some d) (p : P ρ d) : wR K F (rIx K) (.lst ds) (.int i) ρ P := fun σ G H vx vy S rx ry Q q => .inl (wR_ixL h p σ G H vx vy S rx ry Q q)
theorem wR_xT {ds : List D} {i : Int} {d : D} (h : atI ds i = some d) (p : P ρ d) : wR K F (rIx K) (.tup ds) (.int i) ρ P := fun σ G H vx vy S rx ry Q q => .inr (.inl (wR_ixT h p σ G H vx vy S rx ry Q q))
theorem wR_xLAll {ds : List D} {i : Int} (h0 : 0 ≤ i) (h1 : i < (ds.length : Int)) (p : ∀ d, d ∈ ds → P ρ d) : wR K F (rIx K) (.lst ds) (.int i) ρ P := fun σ G H vx vy S rx ry Q q => .inl (wR_ixLAll h0 h1 p σ G H vx vy S rx ry Q q)
theorem wR_xScr {ns : List Int} {i : Int} {n : Int} (h : atI ns i = some n) (p : P ρ (.int n)) : wR K F (rIx K) (.scr ns) (.int i) ρ P := fun σ G H vx vy S rx ry Q q => .inl (wR_ixScr h p σ G H vx vy S rx ry Q q)
theorem wR_xS {z : Str} {i : Int} {c : Nat} (hl : z.length ≤ 100000) (h : atI z.cps.toList i = some c) (p : P ρ (.str ⟨#[c]⟩)) : wR K F (rIx K) (.str z) (.int i) ρ P := fun σ G H vx vy S rx ry Q q => by
  cases rx
  cases ry
  exact .inr (.inr ⟨z, i, c, rfl, rfl, Evl.sz_of hl, h, q _ _ ρ G H p S (.str _) (Ex.refl G)⟩)
theorem wE_xO {i : Nat} {l : Kd} {ds : List D} (h : ρ[i]? = some (.ow l ds)) (hb : wE K F tb ρ fun ρ2 y => ∃ (k : Int) (ds2 : List D) (d : D), y = .int k ∧ ρ2[i]? = some (.ow l ds2) ∧ atI ds2 k = some d ∧ P ρ2 d) : wE K F (tOp (rIx K) (tVar i) tb) ρ P := fun σ G H S Q q => by
  obtain ⟨p, vs, e, hg, hh, hr⟩ := S.ow h
  refine ⟨.ref p, e, hb σ G H S _ fun vy y ρ2 G2 H2 hp S2 r2 e2 => ?_⟩
  obtain ⟨k, ds2, d, rfl, hi2, ha, pp⟩ := hp
  obtain ⟨p2, vs2, e', hg2, hh2, hr2⟩ := S2.ow hi2
  rw [e] at e'
  cases e'
  cases r2
  obtain ⟨v, ev, rv⟩ := atI_rep hr2 ha
  exact .inl ⟨p, vs2, k, v, rfl, rfl, SqL.of hh2, ev, q _ _ ρ2 G2 H2 pp S2 rv e2⟩
/-- own[c], c a written place -/
theorem wE_xOc {i : Nat} {l : Kd} {ds : List D} {k : Int} {d : D} (h : ρ[i]? = some (.ow l ds)) (ha : atI ds k = some d) (p : P ρ d) : wE K F (tOp (rIx K) (tVar i) (tC (.int k))) ρ P := wE_xO h (wE_int ⟨k, ds, d, rfl, h, ha, p⟩)
theorem wS_setIxc {O : Out} {i : Nat} {l : Kd} {k : Int} {j : Nat} (h : wE K F te ρ fun ρ1 x => ∃ ds : List D, ρ1[i]? = some (.ow l ds) ∧ k = (j : Int) ∧ j < ds.length ∧ O.nx (ρ1.set i (.ow l (ds.set j x)))) : wS K F (tAsg te (gSub (tVar i) (tC (.int k)) rSetL)) ρ O :=
  wS_setIx (wE_mono h fun ρ1 x ⟨ds, h1, h2, h3, h4⟩ => ⟨l, ds, h1, wE_int ⟨l, ds, j, by rw [h2], h1, h3, h4⟩⟩)
theorem wE_countF {t : TE} (h : wE K F ta ρ fun ρ1 x => ∃ ds, x = .lst ds ∧ wE K F t ρ1 fun ρ2 y => flatD y = true ∧ ds.all flatD = true ∧ P ρ2 (.int (((ds.map valD).countP fun z => eqV z (valD y) : Nat) : Int))) : wE K F (tBM K "list" (rCntF K) ta (tCons t tNil)) ρ P := fun σ G H S Q q =>
  h σ G H S _ fun v x ρ1 G1 H1 h1 S1 r1 e1 => by
    obtain ⟨ds, rfl, h2⟩ := h1
    cases r1 with
    | lst ha hr =>
      refine ⟨.inl ⟨rfl, _, SqL.of (S1.ex _ _ ha)⟩, h2 σ G1 H1 S1 _ fun vy y ρ2 G2 H2 hp S2 r2 e2 => ?_⟩
      obtain ⟨fy, fd, p⟩ := hp
      obtain ⟨ev, fv⟩ := r2.flat fy
      obtain ⟨ew, fw⟩ := hr.flat fd
      subst ev ew
      exact ⟨_, _, _, rfl, rfl, SqL.of (S2.ex _ _ (e2 _ _ ha)), fv, fw, q _ _ ρ2 G2 H2 p S2 (.int _) (e1.trans e2)⟩
/-! isinstance, by the built-in class -/
theorem wC_isiG {c : String} {f : D → Bool} (h : ∀ (n : String) (y : D), tyD y = some n → kitB n c = some (f y)) (hx : (tyD x).isSome = true) (p : P ρ (.bl (f x))) : wC K F (rIsi K) [x, .ty c] ρ P := by
  cases e : tyD x with
  | none => rw [e] at hx; cases hx
  | some n => exact wC_isi e (h n x e) p
def intD : D → Bool
  | .int _ => true
  | .bl _ => true
  | _ => false
def boolD : D → Bool
  | .bl _ => true
  | _ => false
def strD : D → Bool
  | .str _ => true
  | _ => false
def lstD : D → Bool
  | .lst _ => true
  | _ => false
def tupD : D → Bool
  | .tup _ => true
  | _ => false
def dctD : D → Bool
  | .dct _ => true
  | _ => false
theorem kit_int (n : String) (y : D) (e : tyD y = some n) : kitB n "int" = some (intD y) := by
  cases y <;> cases e <;> first | (show kitB _ _ = some true; decide +kernel) | (show kitB _ _ = some false; decide +kernel)
theorem kit_bool (n : String) (y : D) (e : tyD y = some n) : kitB n "bool" = some (boolD y) := by
  cases y <;> cases e <;> first | (show kitB _ _ = some true; decide +kernel) | (show kitB _ _ = some false; decide +kernel)
theorem kit_str (n : String) (y : D) (e : tyD y = some n) : kitB n "str" = some (strD y) := by
  cases y <;> cases e <;> first | (show kitB _ _ = some true; decide +kernel) | (show kitB _ _ = some false; decide +kernel)
theorem kit_list (n : String) (y : D) (e : tyD y = some n) : kitB n "list" = some (lstD y) := by
  cases y <;> cases e <;> first | (show kitB _ _ = some true; decide +kernel) | (show kitB _ _ = some false; decide +kernel)
theorem kit_tuple (n : String) (y : D) (e : tyD y = some n) : kitB n "tuple" = some (tupD y) := by
  cases y <;> cases e <;> first | (show kitB _ _ = some true; decide +kernel) | (show kitB _ _ = some false; decide +kernel)
theorem kit_dict (n : String) (y : D) (e : tyD y = some n) : kitB n "dict" = some (dctD y) := by
  cases y <;> cases e <;> first | (show kitB _ _ = some true; decide +kernel) | (show kitB _ _ = some false; decide +kernel)
theorem wC_isInt (hx : (tyD x).isSome = true) (p : P ρ (.bl (intD x))) : wC K F (rIsi K) [x, .ty "int"] ρ P := wC_isiG kit_int hx p
theorem wC_isBool (hx : (tyD x).isSome = true) (p : P ρ (.bl (boolD x))) : wC K F (rIsi K) [x, .ty "bool"] ρ P := wC_isiG kit_bool hx p
theorem wC_isStr (hx : (tyD x).isSome = true) (p : P ρ (.bl (strD x))) : wC K F (rIsi K) [x, .ty "str"] ρ P := wC_isiG kit_str hx p
theorem wC_isList (hx : (tyD x).isSome = true) (p : P ρ (.bl (lstD x))) : wC K F (rIsi K) [x, .ty "list"] ρ P := wC_isiG kit_list hx p
theorem wC_isTuple (hx : (tyD x).isSome = true) (p : P ρ (.bl (tupD x))) : wC K F (rIsi K) [x, .ty "tuple"] ρ P := wC_isiG kit_tuple hx p
theorem wC_isDict (hx : (tyD x).isSome = true) (p : P ρ (.bl (dctD x))) : wC K F (rIsi K) [x, .ty "dict"] ρ P := wC_isiG kit_dict hx p
/-- a constant of the module -/
theorem wC_all {bs : List Bool} (p : P ρ (.bl (bs.all id))) : wC K F (rAll K) [.lst (bs.map D.bl)] ρ P := fun σ G H vs S rs Q q => by
  cases rs with
  | cons r1 rr =>
    cases rr
    cases r1 with
    | lst h1 h2 =>
      have e := h2.bls
      subst e
      exact ⟨_, bs, rfl, SqL.of (S.ex _ _ h1), q _ _ ρ G H p S (.bl _) (Ex.refl G)⟩
theorem wC_any {bs : List Bool} (p : P ρ (.bl (bs.any id))) : wC K F (rAny K) [.lst (bs.map D.bl)] ρ P := fun σ G H vs S rs Q q => by
  cases rs with
  | cons r1 rr =>
    cases rr
    cases r1 with
    | lst h1 h2 =>
      have e := h2.bls
      subst e
      exact ⟨_, bs, rfl, SqL.of (S.ex _ _ h1), q _ _ ρ G H p S (.bl _) (Ex.refl G)⟩
end
end DL
namespace DL
open PySem L2
open Evl (Ex)
section
variable {K : PySem.W.Frag} {F : Fr} {ρ : Sls} {P : Sls → D → Prop} {te ta tb : TE} {r : R2} {x y : D}
theorem rsp_ow {P : D → Prop} {ds : List D} (h : P (.lst ds)) : RsP P (.ow ds) := h
/-! ### parts of a slice, parts of lists -/
def wP (K : PySem.W.Frag) (F : Fr) (t : TO) (ρ : Sls) (P : Sls → Option Int → Prop) : Prop := ∀ (σ : St) (G H : Hp), SRel K F G H σ ρ → ∀ Q : Option Int → Hp → Prop,
  (∀ (o : Option Int) (ρ' : Sls) (G' H' : Hp), P ρ' o → SRel K F G' H' σ ρ' → Ex G G' → Q o H') → t σ H Q
theorem wP_no {PP : Sls → Option Int → Prop} (p : PP ρ none) : wP K F tNoPart ρ PP := fun σ G H S Q q => q none ρ G H p S (Ex.refl G)
theorem wP_some {PP : Sls → Option Int → Prop} (h : wE K F te ρ fun ρ1 x => ∃ i, x = .int i ∧ PP ρ1 (some i)) : wP K F (tPart te) ρ PP := fun σ G H S Q q =>
  h σ G H S _ fun v x ρ1 G1 H1 h1 S1 r1 e1 => by
    obtain ⟨i, rfl, p⟩ := h1
    cases r1
    exact ⟨i, rfl, q _ ρ1 G1 H1 p S1 e1⟩
def cutD {α : Type} (xs : List α) (lo hi : Option Int) : List α := (xs.drop (HT.sIx xs.length 0 lo)).take (HT.sIx xs.length xs.length hi - HT.sIx xs.length 0 lo)
theorem cutD_mem {α : Type} {xs : List α} {lo hi : Option Int} {d : α} (h : d ∈ cutD xs lo hi) : d ∈ xs := List.mem_of_mem_drop (List.mem_of_mem_take h)
theorem RepL.cut {G : Hp} {vs : List V} {ds : List D} {lo hi : Option Int} (h : RepL K G vs ds) : RepL K G (cutV vs lo hi) (cutD ds lo hi) := by
  unfold cutV cutD
  rw [h.length]
  exact RepL.take _ (RepL.drop _ h)
theorem wO_slL {tl th : TO} {PO : Sls → List D → Prop} (h : wE K F te ρ fun ρ1 x => ∃ ds, x = .lst ds ∧ wP K F tl ρ1 fun ρ2 lo => wP K F th ρ2 fun ρ3 hi => PO ρ3 (cutD ds lo hi)) : wO K F (tSl (rSlL K) te tl th) ρ PO := fun σ G H S Q q =>
  h σ G H S _ fun v x ρ1 G1 H1 h1 S1 r1 e1 => by
    obtain ⟨ds, rfl, h1⟩ := h1
    cases r1 with
    | lst ha hr =>
      exact h1 σ G1 H1 S1 _ fun lo ρ2 G2 H2 h2 S2 e2 => h2 σ G2 H2 S2 _ fun hi ρ3 G3 H3 p S3 e3 =>
        ⟨_, _, rfl, SqL.of (S3.ex _ _ (e3 _ _ (e2 _ _ ha))), fun a hn => q _ _ _ ρ3 G3 _ p (S3.alloc hn) (.alloc S3 hn (RepL.cut (RepL.up (e2.trans e3) hr))) ((e1.trans e2).trans e3)⟩
/-! ### an own list compared -/
theorem Own.dp {G H : Hp} {σ : St} {i : Nat} {l : Kd} {ds : List D} {ps : List PyData} (S : SRel K F G H σ ρ) (h : ρ[i]? = some (.ow l ds)) (ht : toPyL ds = some ps) : ∃ p, σ[i]? = some (some (.ref p)) ∧ Dp K H (.ref p) (.list ps) := by
  obtain ⟨p, vs, e, hg, hh, hr⟩ := S.ow h
  exact ⟨p, e, .lst (SqL.of hh) (RepL.dp S.ex ds vs ps hr ht)⟩
theorem wE_neO {i : Nat} {l : Kd} {ds : List D} {ps : List PyData} (h : ρ[i]? = some (.ow l ds)) (ht : toPyL ds = some ps) (s1 : SeqAt.shaped (.list ps) = true)
    (hb : wE K F tb ρ fun ρ2 y => ∃ b, ρ2[i]? = some (.ow l ds) ∧ toPy y = some b ∧ SeqAt.shaped b = true ∧ P ρ2 (.bl (!PyData.eqv (.list ps) b))) : wE K F (tOp (rNeD K) (tVar i) tb) ρ P := fun σ G H S Q q => by
  obtain ⟨p, e, d1⟩ := Own.dp S h ht
  refine ⟨.ref p, e, hb σ G H S _ fun vy y ρ2 G2 H2 h2 S2 r2 e2 => ?_⟩
  obtain ⟨b, h2, hy, sb, pp⟩ := h2
  obtain ⟨p', e', d2⟩ := Own.dp S2 h2 ht
  rw [e] at e'
  cases e'
  exact ⟨_, b, d2, Rep.dp S2.ex y vy b r2 hy, s1, sb, q _ _ ρ2 G2 H2 pp S2 (.bl _) e2⟩
theorem wE_eqO {i : Nat} {l : Kd} {ds : List D} {ps : List PyData} (h : ρ[i]? = some (.ow l ds)) (ht : toPyL ds = some ps) (s1 : SeqAt.shaped (.list ps) = true)
    (hb : wE K F tb ρ fun ρ2 y => ∃ b, ρ2[i]? = some (.ow l ds) ∧ toPy y = some b ∧ SeqAt.shaped b = true ∧ P ρ2 (.bl (PyData.eqv (.list ps) b))) : wE K F (tOp (rEqD K) (tVar i) tb) ρ P := fun σ G H S Q q => by
  obtain ⟨p, e, d1⟩ := Own.dp S h ht
  refine ⟨.ref p, e, hb σ G H S _ fun vy y ρ2 G2 H2 h2 S2 r2 e2 => ?_⟩
  obtain ⟨b, h2, hy, sb, pp⟩ := h2
  obtain ⟨p', e', d2⟩ := Own.dp S2 h2 ht
  rw [e] at e'
  cases e'
  exact ⟨_, b, d2, Rep.dp S2.ex y vy b r2 hy, s1, sb, q _ _ ρ2 G2 H2 pp S2 (.bl _) e2⟩
/-! ### a truth less a truth -/
def rSubB : R2 := fun x y H Q => (rI0 fun i j => .int (i - j)) x y H Q ∨ ∃ p q, x = .bl p ∧ y = .bl q ∧ Q (.int (PyProof.Rows.b2i p - PyProof.Rows.b2i q)) H
theorem op_subbb {X : Cx} : OpR X (binaryOp .Sub) (fun x y H Q => ∃ p q, x = .bl p ∧ y = .bl q ∧ Q (.int (PyProof.Rows.b2i p - PyProof.Rows.b2i q)) H) := by
  intro pins s σ H x y v u Q I rx ry h
  obtain ⟨p, q, rfl, rfl, z⟩ := h
  cases rx
  cases ry
  exact PyProof.Rows.sub_bool ⟨.int _, H, I.tok _, ⟨_, rfl⟩, z⟩
theorem op_subB {X : Cx} : OpR X (binaryOp .Sub) rSubB := op_sub.or op_subbb
theorem wR_subI {i j : Int} (p : P ρ (.int (i - j))) : wR K F rSubB (.int i) (.int j) ρ P := fun σ G H vx vy S rx ry Q q => .inl (wR_I0 (g := fun i j => i - j) p σ G H vx vy S rx ry Q q)
theorem wR_subB {i j : Bool} (p : P ρ (.int (PyProof.Rows.b2i i - PyProof.Rows.b2i j))) : wR K F rSubB (.bl i) (.bl j) ρ P := fun σ G H vx vy S rx ry Q q => by
  cases rx
  cases ry
  exact .inr ⟨i, j, rfl, rfl, q _ _ ρ G H p S (.int _) (Ex.refl G)⟩
end
end DL
namespace DL
open PySem L2
open Evl (Ex)
/-! ### texts -/
/-- the signs of a text -/
def sgD (z : Str) : List D := z.cps.toList.map fun c => D.str ⟨#[c]⟩
theorem sgD_len (z : Str) : (sgD z).length = z.cps.size := by
  unfold sgD
  rw [List.length_map, Array.length_toList]
theorem sgD_get {z : Str} {i c : Nat} (h : z.cps[i]? = some c) : (sgD z)[i]? = some (.str ⟨#[c]⟩) := by
  unfold sgD
  rw [List.getElem?_map, Array.getElem?_toList, h]
  rfl
section
variable {K : PySem.W.Frag} {F : Fr} {ρ : Sls} {g : TG} {tb : TS} {O : Out} {tt : TT} {te tl : TE} {vs : List Nat} {PO : Sls → List D → Prop}
theorem wO_lcS (hT : Tgt g vs) (h : wE K F tl ρ fun ρ1 d => ∃ z, d = .str z ∧ z.cps.size ≤ 100000 ∧ compL K g tt te vs (sgD z) (wipeU ρ1 vs) [] fun ρ' acc => PO (restS vs 0 ρ1 ρ') acc) : wO K F (tLc (iStr tl) g tt te vs) ρ PO := fun σ G H S Q q =>
  h σ G H S _ fun v d ρ1 G1 H1 h1 S1 r1 e1 => by
    obtain ⟨z, rfl, hl, f⟩ := h1
    cases r1
    refine ⟨z, rfl, fun Dl hD => lc_it walk_str (fun i H' => CompEx K F g tt te vs σ G1 Dl (fun ρ' acc => PO (restS vs 0 ρ1 ρ') acc) i ((sgD z).drop i) H') (comp_start S1 f hD) (fun _ _ _ _ => trivial) (fun i x H' H'' hi c y => ?_) fun H' c => ?_⟩
    · obtain ⟨rfl, c', hc, rfl⟩ := y
      rw [drop_at (sgD_get hc)] at c
      exact comp_turn hT (by omega) c fun G' e' => .str _
    · rw [show (sgD z).drop z.cps.size = [] from List.drop_eq_nil_of_le (by rw [sgD_len]; exact Nat.le_refl _)] at c
      obtain ⟨G', ρ', acc, vacc, p, S', o, e'⟩ := comp_end (P := PO) S1 c hD
      exact q _ _ _ ρ' G' H' p S' o (e1.trans e')
theorem wS_forS (h : wE K F tl ρ fun ρ1 d => ∃ z, d = .str z ∧ forS K F g tb O (sgD z) ρ1) : wS K F (tFor (iStr tl) g tb) ρ O := fun σ G H S D1 k =>
  h σ G H S _ fun v d ρ1 G1 H1 h1 S1 r1 e1 => by
    obtain ⟨z, rfl, f⟩ := h1
    cases r1
    refine ⟨z, rfl, for_it walk_str (fun i σ' H' => ∃ G' ρ', SRel K F G' H' σ' ρ' ∧ Ex G1 G' ∧ forS K F g tb O ((sgD z).drop i) ρ') ⟨G1, ρ1, S1, Ex.refl G1, f⟩ (fun _ _ _ _ _ => trivial) ?_ ?_⟩
    · rintro i x σ' H' H'' hi ⟨G', ρ', S', e', f'⟩ ⟨rfl, c, hc, rfl⟩
      exact for_turn k e1 S' e' (sgD_get hc) (.str _) f'
    · rintro σ' H' ⟨G', ρ', S', e', f'⟩
      rw [show (sgD z).drop z.cps.size = [] from List.drop_eq_nil_of_le (by rw [sgD_len]; exact Nat.le_refl _)] at f'
      exact k.nx ρ' σ' G' H' f' S' (e1.trans e')
/-- a comprehension by its word -/
theorem compL_inv {acc0 : List D} {P : Sls → List D → Prop} (ds : List D) (Inv : Nat → Sls → List D → Prop) (h0 : Inv 0 ρ acc0)
    (hs : ∀ (i : Nat) (x : D) (ρ2 : Sls) (acc : List D) (F : Fr), ds[i]? = some x → Inv i ρ2 acc → wG K F g x ρ2 fun ρ3 => wT K F tt ρ3 fun ρ4 b => Ways b (wE K F te ρ4 fun ρ5 y => Inv (i + 1) (wipeU ρ5 vs) (acc ++ [y])) (Inv (i + 1) (wipeU ρ4 vs) acc))
    (hd : ∀ (ρ2 : Sls) (acc : List D), Inv ds.length ρ2 acc → P ρ2 acc) : compL K g tt te vs ds ρ acc0 P := by
  have key : ∀ (k : Nat) (es : List D), ds = ds.take k ++ es → k ≤ ds.length → ∀ ρ2 acc, Inv k ρ2 acc → compL K g tt te vs es ρ2 acc P := by
    intro k es
    induction es generalizing k with
    | nil =>
      intro e hk ρ2 acc hi
      have hl : ds.length = k := by
        have := congrArg List.length e
        rw [List.append_nil, List.length_take] at this
        omega
      exact hd ρ2 acc (hl ▸ hi)
    | cons x r ih =>
      intro e hk ρ2 acc hi
      have hlt : k < ds.length := by
        have := congrArg List.length e
        rw [List.length_append, List.length_take, List.length_cons] at this
        omega
      have hx : ds[k]? = some x := by
        rw [e, List.getElem?_append_right (by rw [List.length_take]; omega), List.length_take, Nat.min_eq_left hk, Nat.sub_self]
        rfl
      have e' : ds = ds.take (k + 1) ++ r := by
        rw [List.take_add_one, hx]
        simpa using e
      intro F'
      refine wG_mono (hs k x ρ2 acc F' hx hi) fun ρ3 h3 => wT_mono h3 fun ρ4 b h4 => ⟨fun hb => wE_mono (h4.1 hb) fun ρ5 y h5 => ih (k + 1) e' hlt _ _ h5, fun hb => ih (k + 1) e' hlt _ _ (h4.2 hb)⟩
  exact key 0 ds (by simp) (Nat.zero_le _) ρ acc0 h0
end
section
variable {K : PySem.W.Frag} {F : Fr} {ρ : Sls} {P : Sls → D → Prop} {PO : Sls → List D → Prop} {te to ta tb : TE} {r : R2} {x y : D}
abbrev rJoin (K : PySem.W.Frag) : V → List V → Hp → VK → Prop := fun x xs H Q => ∃ a p, ∃ ys : List Str, x = .str a ∧ xs = [.ref p] ∧ (SqL K H p (ys.map V.str) ∨ SqT K H p (ys.map V.str)) ∧
  (ys.map (·.length)).sum + ys.length * a.length ≤ 16777216 ∧ Q (.str (Txt.join a ys)) H
theorem wE_join (h : wE K F to ρ fun ρ1 x => ∃ a, x = .str a ∧ wE K F te ρ1 fun ρ2 y => ∃ ys : List Str, y = .lst (ys.map D.str) ∧ (ys.map (·.length)).sum + ys.length * a.length ≤ 16777216 ∧ P ρ2 (.str (Txt.join a ys))) : wE K F (tM1 (rJoin K) to te) ρ P := fun σ G H S Q q =>
  h σ G H S _ fun v x ρ1 G1 H1 h1 S1 r1 e1 => by
    obtain ⟨a, rfl, h2⟩ := h1
    cases r1
    refine ⟨⟨a, rfl⟩, h2 σ G1 H1 S1 _ fun w y ρ2 G2 H2 hp S2 r2 e2 => ?_⟩
    obtain ⟨ys, rfl, hl, p⟩ := hp
    cases r2 with
    | lst ha hr =>
      rw [RepL.strs hr] at ha
      exact ⟨a, _, ys, rfl, rfl, .inl (SqL.of (S2.ex _ _ ha)), hl, q _ _ ρ2 G2 H2 p S2 (.str _) (e1.trans e2)⟩
abbrev rSplit : V → List V → Hp → VK → Prop := fun x xs H Q => ∃ a b, x = .str a ∧ xs = [.str b] ∧ (b.length == 0) = false ∧ a.length + 2 ≤ sizeLine ∧ rNewStrs (Txt.split a b) H Q
theorem wO_split (h : wE K F to ρ fun ρ1 x => ∃ a, x = .str a ∧ wE K F te ρ1 fun ρ2 y => ∃ b : Str, y = .str b ∧ (b.length == 0) = false ∧ a.length + 2 ≤ 100000 ∧ PO ρ2 ((Txt.split a b).map D.str)) : wO K F (tM1 rSplit to te) ρ PO := fun σ G H S Q q =>
  h σ G H S _ fun v x ρ1 G1 H1 h1 S1 r1 e1 => by
    obtain ⟨a, rfl, h2⟩ := h1
    cases r1
    refine ⟨⟨a, rfl⟩, h2 σ G1 H1 S1 _ fun w y ρ2 G2 H2 hp S2 r2 e2 => ?_⟩
    obtain ⟨b, rfl, hb, hl, p⟩ := hp
    cases r2
    exact ⟨a, b, rfl, rfl, hb, Evl.sz_of hl, fun l hn => q _ _ _ ρ2 G2 _ p (S2.alloc hn) (.alloc S2 hn (RepL.ofStrs _)) (e1.trans e2)⟩
abbrev rUpper : V → List V → Hp → VK → Prop := fun x xs H Q => ∃ a, x = .str a ∧ xs = [] ∧ a.length ≤ 5592405 ∧ Q (.str (Txt.upper a)) H
theorem wE_upper (h : wE K F to ρ fun ρ1 x => ∃ a, x = .str a ∧ a.length ≤ 5592405 ∧ P ρ1 (.str (Txt.upper a))) : wE K F (tM0 rUpper to) ρ P := fun σ G H S Q q =>
  h σ G H S _ fun v x ρ1 G1 H1 h1 S1 r1 e1 => by
    obtain ⟨a, rfl, hl, p⟩ := h1
    cases r1
    exact ⟨⟨a, rfl⟩, a, rfl, rfl, hl, q _ _ ρ1 G1 H1 p S1 (.str _) e1⟩
theorem wE_slS {tl th : TO} (h : wE K F te ρ fun ρ1 x => ∃ z, x = .str z ∧ z.length ≤ 100000 ∧ wP K F tl ρ1 fun ρ2 lo => wP K F th ρ2 fun ρ3 hi => P ρ3 (.str (cutS z lo hi))) : wE K F (tSl rSlS te tl th) ρ P := fun σ G H S Q q =>
  h σ G H S _ fun v x ρ1 G1 H1 h1 S1 r1 e1 => by
    obtain ⟨z, rfl, hz, h1⟩ := h1
    cases r1
    exact h1 σ G1 H1 S1 _ fun lo ρ2 G2 H2 h2 S2 e2 => h2 σ G2 H2 S2 _ fun hi ρ3 G3 H3 p S3 e3 => ⟨z, rfl, Evl.sz_of hz, q _ _ ρ3 G3 H3 p S3 (.str _) ((e1.trans e2).trans e3)⟩
abbrev rLeS : R2 := fun x y H Q => ∃ i j, x = .str i ∧ y = .str j ∧ Q (.bl (!decide (j.cps.toList < i.cps.toList))) H
theorem wR_leS {a b : Str} (p : P ρ (.bl (!decide (b.cps.toList < a.cps.toList)))) : wR K F rLeS (.str a) (.str b) ρ P := fun σ G H vx vy S rx ry Q q => by
  cases rx
  cases ry
  exact ⟨a, b, rfl, rfl, q _ _ ρ G H p S (.bl _) (Ex.refl G)⟩
abbrev rInSg : R2 := fun x y H Q => ∃ (c : Nat) (z : Str), x = .str ⟨#[c]⟩ ∧ y = .str z ∧ Q (.bl (decide (c ∈ z.cps.toList))) H
theorem wR_inSg {c : Nat} {z : Str} (p : P ρ (.bl (decide (c ∈ z.cps.toList)))) : wR K F rInSg (.str ⟨#[c]⟩) (.str z) ρ P := fun σ G H vx vy S rx ry Q q => by
  cases rx
  cases ry
  exact ⟨c, z, rfl, rfl, q _ _ ρ G H p S (.bl _) (Ex.refl G)⟩
abbrev rNiSg : R2 := fun x y H Q => ∃ (c : Nat) (z : Str), x = .str ⟨#[c]⟩ ∧ y = .str z ∧ Q (.bl (!decide (c ∈ z.cps.toList))) H
theorem wR_niSg {c : Nat} {z : Str} (p : P ρ (.bl (!decide (c ∈ z.cps.toList)))) : wR K F rNiSg (.str ⟨#[c]⟩) (.str z) ρ P := fun σ G H vx vy S rx ry Q q => by
  cases rx
  cases ry
  exact ⟨c, z, rfl, rfl, q _ _ ρ G H p S (.bl _) (Ex.refl G)⟩
/-! is True, is False -/
theorem op_isTF {X : Cx} : OpR X (compareOp .Is) (rIsTF false) := by
  intro pins s σ H x y v u Q I rx ry h
  obtain ⟨b, rfl, h⟩ := h
  cases (show u = Value.bool b from ry)
  rcases h with ⟨a, rfl, q⟩ | ⟨h1, h2, q⟩
  · cases (show v = Value.bool a from rx)
    by_cases e : a = b
    · subst e
      exact wpAny_is_self rfl ⟨.bl true, H, I, rfl, by simpa using q⟩
    · exact wpAny_is_other rfl (fun z => e (Value.bool.inj z)) ⟨.bl false, H, I, rfl, by simpa [e] using q⟩
  · cases x with
    | bl a => exact absurd rfl (h1 a)
    | ty n => exact absurd rfl (h2 n)
    | non => cases (show v = Value.none from rx); exact wpAny_is_other rfl (fun z => nomatch z) ⟨.bl false, H, I, rfl, q⟩
    | int i => obtain ⟨t, rfl⟩ := rx; exact wpAny_is_other rfl (fun z => nomatch z) ⟨.bl false, H, I, rfl, q⟩
    | str i => obtain ⟨t, rfl⟩ := rx; exact wpAny_is_other rfl (fun z => nomatch z) ⟨.bl false, H, I, rfl, q⟩
    | byt i => obtain ⟨t, rfl⟩ := rx; exact wpAny_is_other rfl (fun z => nomatch z) ⟨.bl false, H, I, rfl, q⟩
    | flt i => obtain ⟨t, rfl⟩ := rx; exact wpAny_is_other rfl (fun z => nomatch z) ⟨.bl false, H, I, rfl, q⟩
    | ref a => cases (show v = Value.ref a from rx); exact wpAny_is_other rfl (fun z => nomatch z) ⟨.bl false, H, I, rfl, q⟩
theorem op_notTF {X : Cx} : OpR X (compareOp .IsNot) (rIsTF true) := by
  intro pins s σ H x y v u Q I rx ry h
  obtain ⟨b, rfl, h⟩ := h
  cases (show u = Value.bool b from ry)
  rcases h with ⟨a, rfl, q⟩ | ⟨h1, h2, q⟩
  · cases (show v = Value.bool a from rx)
    by_cases e : a = b
    · subst e
      exact wpAny_isNot_self rfl ⟨.bl false, H, I, rfl, by simpa using q⟩
    · exact wpAny_isNot_other rfl (fun z => e (Value.bool.inj z)) ⟨.bl true, H, I, rfl, by simpa [e] using q⟩
  · cases x with
    | bl a => exact absurd rfl (h1 a)
    | ty n => exact absurd rfl (h2 n)
    | non => cases (show v = Value.none from rx); exact wpAny_isNot_other rfl (fun z => nomatch z) ⟨.bl true, H, I, rfl, q⟩
    | int i => obtain ⟨t, rfl⟩ := rx; exact wpAny_isNot_other rfl (fun z => nomatch z) ⟨.bl true, H, I, rfl, q⟩
    | str i => obtain ⟨t, rfl⟩ := rx; exact wpAny_isNot_other rfl (fun z => nomatch z) ⟨.bl true, H, I, rfl, q⟩
    | byt i => obtain ⟨t, rfl⟩ := rx; exact wpAny_isNot_other rfl (fun z => nomatch z) ⟨.bl true, H, I, rfl, q⟩
    | flt i => obtain ⟨t, rfl⟩ := rx; exact wpAny_isNot_other rfl (fun z => nomatch z) ⟨.bl true, H, I, rfl, q⟩
    | ref a => cases (show v = Value.ref a from rx); exact wpAny_isNot_other rfl (fun z => nomatch z) ⟨.bl true, H, I, rfl, q⟩
def isTF (b : Bool) : D → Bool
  | .bl a => decide (a = b)
  | _ => false
def tyFree : D → Bool
  | .ty _ => false
  | _ => true
theorem Rep.notBl {G : Hp} {v : V} {d : D} (h : Rep K G v d) (f : tyFree d = true) : (∃ a, d = .bl a ∧ v = .bl a) ∨ ((∀ a, v ≠ .bl a) ∧ (∀ n, v ≠ .ty n) ∧ ∀ b, isTF b d = false) := by
  cases h <;> first | exact .inl ⟨_, rfl, rfl⟩ | (cases f; done) | exact .inr ⟨fun _ z => (nomatch z), fun _ z => (nomatch z), fun _ => rfl⟩
theorem wR_isTF {b : Bool} (f : tyFree x = true) (p : P ρ (.bl (isTF b x))) : wR K F (rIsTF false) x (.bl b) ρ P := fun σ G H vx vy S rx ry Q q => by
  cases ry
  rcases rx.notBl f with ⟨a, rfl, rfl⟩ | ⟨h1, h2, h3⟩
  · exact ⟨b, rfl, .inl ⟨a, rfl, by rw [Bool.false_xor]; exact q _ _ ρ G H p S (.bl _) (Ex.refl G)⟩⟩
  · refine ⟨b, rfl, .inr ⟨h1, h2, ?_⟩⟩
    rw [h3 b] at p
    exact q _ _ ρ G H p S (.bl _) (Ex.refl G)
theorem wR_notTF {b : Bool} (f : tyFree x = true) (p : P ρ (.bl (!isTF b x))) : wR K F (rIsTF true) x (.bl b) ρ P := fun σ G H vx vy S rx ry Q q => by
  cases ry
  rcases rx.notBl f with ⟨a, rfl, rfl⟩ | ⟨h1, h2, h3⟩
  · exact ⟨b, rfl, .inl ⟨a, rfl, by rw [Bool.true_xor]; exact q _ _ ρ G H p S (.bl _) (Ex.refl G)⟩⟩
  · refine ⟨b, rfl, .inr ⟨h1, h2, ?_⟩⟩
    rw [h3 b] at p
    exact q _ _ ρ G H p S (.bl _) (Ex.refl G)
/-! dicts written out -/
theorem wE_dnew (p : P ρ (.dct [])) : wE K F tDNewK ρ P := fun σ G H S Q q => fun a ha => q _ _ ρ (upd G a (.dK [])) _ p (S.new ha) (.dct upd_same .nil) (Ex.new (S.fr.freshG ha))
theorem wE_disp1 {k z : Str} (p : P ρ (.dct [(.inr k, .str z)])) : wE K F (tDisp [(tC (.str k), tC (.str z))]) ρ P := fun σ G H S Q q => fun a ha => by
  refine ⟨upd_same, [(.inr k, .str z)], rfl, by show 1 ≤ 15; decide, ?_⟩
  have e : upd (upd H a (.dK [])) a (.dK [((.inr k : Key), V.str z)]) = upd H a (.dK [((.inr k : Key), V.str z)]) := by
    funext b
    by_cases hb : b = a
    · subst hb; rw [upd_same, upd_same]
    · rw [upd_ne hb, upd_ne hb, upd_ne hb]
  have e2 : mergeK [] [((.inr k : Key), V.str z)] = [((.inr k : Key), V.str z)] := rfl
  rw [e2, e]
  exact q _ _ ρ (upd G a (.dK [((.inr k : Key), V.str z)])) _ p (S.new ha) (.dct upd_same (.cons (.str z) .nil)) (Ex.new (S.fr.freshG ha))
open PySem.Builtin.Str in
theorem split_bd (x y : Str) (hy : 0 < y.length) : (Txt.split x y).length ≤ x.length + 1 ∧ ∀ p ∈ Txt.split x y, p.length ≤ x.length := by
  unfold Txt.split
  split
  · exact ⟨by simp, fun p hp => by rw [List.mem_singleton] at hp; rw [hp]; exact Nat.le_refl _⟩
  · split
    · exact ⟨by simp, fun p hp => by rw [List.mem_singleton] at hp; rw [hp]; exact Nat.le_refl _⟩
    · generalize hq : partsBetween x (occurrences x y 0 x.length (x.length + 1)) y.length = ps
      have h1 : glued y ps = x := by rw [← hq]; exact PySem.StrLaws.glued_between_self x y _
      have h2 := PySem.size_glued y ps
      rw [h1] at h2
      refine ⟨?_, fun p hp => ?_⟩
      · have h3 : (ps.length - 1) * 1 ≤ (ps.length - 1) * y.length := Nat.mul_le_mul_left _ hy
        omega
      · have h3 : ∀ (l : List Str), p ∈ l → p.length ≤ (l.map (·.length)).sum := by
          intro l
          induction l with
          | nil => intro h; cases h
          | cons a r ih =>
            intro h
            rw [List.map_cons, List.sum_cons]
            rcases List.mem_cons.mp h with rfl | h
            · omega
            · have := ih h
              omega
        have := h3 ps hp
        omega
open PySem.Builtin.Str in
theorem join_len (a : Str) (ys : List Str) : (Txt.join a ys).length ≤ (ys.map (·.length)).sum + ys.length * a.length := by
  show (glued a ys).length ≤ _
  rw [PySem.size_glued a ys]
  have : (ys.length - 1) * a.length ≤ ys.length * a.length := Nat.mul_le_mul_right _ (by omega)
  omega
theorem compL_flt {g : TG} {tt : TT} {te : TE} {vs : List Nat} {ρ0 : Sls} {PC : Sls → List D → Prop} {p : D → Bool} {f : D → D} : ∀ (ds acc : List D),
    (∀ (F : Fr) (x : D), x ∈ ds → wG K F g x ρ0 fun ρ3 => wT K F tt ρ3 fun ρ4 b => b = p x ∧ (b = false → wipeU ρ4 vs = ρ0) ∧ (b = true → wE K F te ρ4 fun ρ5 y => wipeU ρ5 vs = ρ0 ∧ y = f x)) →
    PC ρ0 (acc ++ (ds.filter p).map f) → compL K g tt te vs ds ρ0 acc PC
  | [], acc, _, h => by
    rw [List.filter_nil, List.map_nil, List.append_nil] at h
    exact h
  | x :: r, acc, hs, h => fun F => by
    refine wG_mono (hs F x (List.mem_cons_self ..)) fun ρ3 h3 => wT_mono h3 fun ρ4 b h4 => ?_
    obtain ⟨hb, hf, ht⟩ := h4
    rw [List.filter_cons] at h
    cases b with
    | true =>
      rw [if_pos hb.symm] at h
      refine ways_t (wE_mono (ht rfl) fun ρ5 y h5 => ?_)
      obtain ⟨e1, e2⟩ := h5
      rw [e1, e2]
      refine compL_flt r _ (fun F x' hx' => hs F x' (List.mem_cons_of_mem _ hx')) ?_
      rw [List.append_assoc]
      exact h
    | false =>
      rw [if_neg (by rw [← hb]; exact Bool.false_ne_true)] at h
      refine ways_f ?_
      rw [hf rfl]
      exact compL_flt r _ (fun F x' hx' => hs F x' (List.mem_cons_of_mem _ hx')) h
theorem wC_all' {l : List D} {bs : List Bool} (e : l = bs.map D.bl) (p : P ρ (.bl (bs.all id))) : wC K F (rAll K) [.lst l] ρ P := by
  subst e
  exact wC_all p
/-! a text times a number -/
def repS (x : Str) (n : Nat) : Str := ⟨(List.replicate n x.cps).foldl (· ++ ·) #[]⟩
def rRepS : R2 := fun x y H Q => ∃ z k, x = .str z ∧ y = .int k ∧ 2 ≤ k ∧ k ≤ 10000 ∧ 0 < z.length ∧ z.length * k.toNat ≤ 100000 ∧ (repS z k.toNat).length ≤ 100000 ∧ Q (.str (repS z k.toNat)) H
theorem op_repS {X : Cx} : OpR X (binaryOp .Mult) rRepS := by
  intro pins s σ H x y v u Q I rx ry h
  obtain ⟨z, k, rfl, rfl, h1, h2, h3, h4, h5, q⟩ := h
  obtain ⟨t, rfl⟩ := rx
  obtain ⟨t', rfl⟩ := ry
  have hz : z.length ≤ 100000 := by
    have h6 : z.length * 1 ≤ z.length * k.toNat := Nat.mul_le_mul_left _ (by omega)
    omega
  have hc : (k == 1 || z.length == 0) = false := by
    rw [Bool.or_eq_false_iff]
    exact ⟨beq_eq_false_iff_ne.mpr (by omega), beq_eq_false_iff_ne.mpr (by omega)⟩
  refine PySem.P.mul_str ?_ (fun _ _ => ?_) (fun _ _ => ?_) ?_
  · rw [decide_eq_false (show ¬ k < -(2 ^ 63 : Int) by omega), decide_eq_false (show ¬ k ≥ 2 ^ 63 by omega)]
    rfl
  · have h6 : (100000 : Int) ≤ (2 ^ 63 - 1) / k := by
      rw [Int.le_ediv_iff_mul_le (by omega)]
      omega
    omega
  · exact decide_eq_false (Nat.not_lt.mpr (Nat.le_trans h4 (by decide)))
  · rw [if_neg (show ¬ k < 1 by omega), if_neg (by rw [hc]; exact Bool.false_ne_true)]
    exact ⟨Evl.sz_of h5, ⟨.str _, H, I.tok _, ⟨_, rfl⟩, q⟩⟩
theorem wR_repS {z : Str} {k : Int} (h1 : 2 ≤ k) (h2 : k ≤ 10000) (h3 : 0 < z.length) (h4 : z.length * k.toNat ≤ 100000) (h5 : (repS z k.toNat).length ≤ 100000) (p : P ρ (.str (repS z k.toNat))) : wR K F rRepS (.str z) (.int k) ρ P := fun σ G H vx vy S rx ry Q q => by
  cases rx
  cases ry
  exact ⟨z, k, rfl, rfl, h1, h2, h3, h4, h5, q _ _ ρ G H p S (.str _) (Ex.refl G)⟩
/-- a sign of a text at a drawn place -/
theorem wR_xSAll {z : Str} {i : Int} (hl : z.length ≤ 100000) (h0 : 0 ≤ i) (h1 : i < (z.cps.toList.length : Int)) (p : ∀ c, c ∈ z.cps.toList → P ρ (.str ⟨#[c]⟩)) : wR K F (rIx K) (.str z) (.int i) ρ P := by
  obtain ⟨c, hm, e⟩ := atI_of h0 h1
  exact wR_xS hl e (p c hm)
/-- str(number) -/
abbrev rStrI : List V → Hp → VK → Prop := fun xs H Q => ∃ i, xs = [.int i] ∧ i.natAbs.log2 < 1920 ∧ Q (.str (toString i)) H
theorem wC_strI {i : Int} (h : i.natAbs.log2 < 1920) (p : P ρ (.str (Str.ofString (toString i)))) : wC K F rStrI [.int i] ρ P := fun σ G H vs S rs Q q => by
  cases rs with
  | cons r1 rr =>
    cases rr; cases r1
    exact ⟨i, rfl, h, q _ _ ρ G H p S (.str _) (Ex.refl G)⟩
end
end DL
namespace DL
open PySem L2
open Evl (Ex)
/-! ### texts whose signs are signs -/
def okS (s : Str) : Prop := ∀ c ∈ s.cps.toList, c < 0x110000
theorem okS_strOk {s : Str} (h : okS s) : PyData.strOk s = true := by
  unfold PyData.strOk
  rw [Array.all_eq_true_iff_forall_mem]
  intro c hc
  exact decide_eq_true (h c (by simpa using hc))
theorem okS_of {s : Str} (h : (s.cps.toList.all fun c => decide (c < 0x110000)) = true) : okS s := fun c hc => of_decide_eq_true (List.all_eq_true.mp h c hc)
theorem cps_app (a b : Str) : (a ++ b).cps.toList = a.cps.toList ++ b.cps.toList := by
  show (a.cps ++ b.cps).toList = _
  rw [Array.toList_append]
theorem len_app (a b : Str) : (a ++ b).length = a.length + b.length := by
  show (a.cps ++ b.cps).size = _
  rw [Array.size_append]
  rfl
theorem okS_app {a b : Str} (h : okS a) (h' : okS b) : okS (a ++ b) := fun c hc => by
  rw [cps_app] at hc
  rcases List.mem_append.mp hc with q | q
  · exact h c q
  · exact h' c q
theorem okS_cut {z : Str} {lo hi : Option Int} (h : okS z) : okS (cutS z lo hi) := fun c hc => by
  have hc' : c ∈ ((z.cps.toList.drop (HT.sIx z.length 0 lo)).take (HT.sIx z.length z.length hi - HT.sIx z.length 0 lo)).toArray.toList := hc
  exact h c (List.mem_of_mem_drop (List.mem_of_mem_take (by simpa using hc')))
theorem okS_sg {z : Str} {c : Nat} (h : okS z) (hc : c ∈ z.cps.toList) : okS ⟨#[c]⟩ := fun d hd => by
  have : d = c := by simpa using hd
  rw [this]
  exact h c hc
theorem join_mem (y : Str) : ∀ (ps : List Str) (p : Str) (c : Nat), p ∈ ps → c ∈ p.cps.toList → c ∈ (Str.join y ps).cps.toList
  | [], _, _, h, _ => by cases h
  | [x], p, c, h, hc => by
    rw [List.mem_singleton] at h
    subst h
    exact hc
  | x :: z :: r, p, c, h, hc => by
    show c ∈ (x ++ y ++ Str.join y (z :: r)).cps.toList
    rw [cps_app, cps_app]
    rcases List.mem_cons.mp h with rfl | h
    · exact List.mem_append_left _ (List.mem_append_left _ hc)
    · exact List.mem_append_right _ (join_mem y (z :: r) p c h hc)
theorem okS_join {a : Str} (ha : okS a) : ∀ (ys : List Str), (∀ y ∈ ys, okS y) → okS (Str.join a ys)
  | [], _ => fun c hc => by
    have : c ∈ (#[] : Array Nat).toList := hc
    simp at this
  | [x], h => h x (List.mem_cons_self ..)
  | x :: z :: r, h => okS_app (a := x ++ a) (okS_app (h x (List.mem_cons_self ..)) ha) (okS_join ha (z :: r) fun y hy => h y (List.mem_cons_of_mem _ hy))
theorem okS_joinT {a : Str} {ys : List Str} (ha : okS a) (h : ∀ y ∈ ys, okS y) : okS (Txt.join a ys) := by
  show okS (PySem.Builtin.Str.glued a ys)
  rw [PySem.StrLaws.glued_eq_join]
  exact okS_join ha ys h
open PySem.Builtin.Str in
theorem split_ok {x y : Str} (h : okS x) : ∀ p ∈ Txt.split x y, okS p := by
  unfold Txt.split
  split
  · intro p hp; rw [List.mem_singleton] at hp; rw [hp]; exact h
  · split
    · intro p hp; rw [List.mem_singleton] at hp; rw [hp]; exact h
    · intro p hp c hc
      have h1 := PySem.StrLaws.glued_between_self x y (x.length + 1)
      rw [PySem.StrLaws.glued_eq_join] at h1
      refine h c ?_
      rw [← h1]
      exact join_mem y _ p c hp hc
theorem toPyL_strs : ∀ ss : List Str, toPyL (ss.map D.str) = some (ss.map PyData.str)
  | [] => rfl
  | s :: ss => by
    rw [List.map_cons, toPyL, toPyL_strs ss]
    rfl
theorem lay_strs : ∀ ss : List Str, (∀ s ∈ ss, okS s) → PyData.canLayAll0 (ss.map PyData.str) = true
  | [], _ => by simp [PyData.canLayAll0]
  | s :: ss, h => by
    simp only [List.map_cons, PyData.canLayAll0, PyData.canLay0, Bool.and_eq_true]
    exact ⟨okS_strOk (h s (List.mem_cons_self ..)), lay_strs ss fun t ht => h t (List.mem_cons_of_mem _ ht)⟩
theorem depth_strs : ∀ ss : List Str, PyData.depthAll (ss.map PyData.str) = 0
  | [] => by simp [PyData.depthAll]
  | s :: ss => by
    simp only [List.map_cons, PyData.depthAll, PyData.depth, depth_strs ss]
    rfl
theorem shaped_strs {ss : List Str} (h : ∀ s ∈ ss, okS s) : SeqAt.shaped (.list (ss.map PyData.str)) = true := by
  show (PyData.canLay0 (.list (ss.map PyData.str)) && decide (PyData.depth (.list (ss.map PyData.str)) ≤ 64)) = true
  rw [Bool.and_eq_true]
  refine ⟨by simp only [PyData.canLay0]; exact lay_strs ss h, decide_eq_true ?_⟩
  simp only [PyData.depth, depth_strs]
  decide
section
variable {K : PySem.W.Frag} {F : Fr} {ρ : Sls} {P : Sls → D → Prop}
theorem wR_eqNil {l : List D} {ss : List Str} (e : l = ss.map D.str) (h : ∀ s ∈ ss, okS s) (p : P ρ (.bl ss.isEmpty)) : wR K F (rEqD K) (.lst l) (.lst []) ρ P := by
  subst e
  refine wR_eqD (a := .list (ss.map PyData.str)) (b := .list []) (by rw [toPy, toPyL_strs]; rfl) rfl (shaped_strs h) (by kernel_rfl) ?_
  have e : PyData.eqv (.list (ss.map PyData.str)) (.list []) = ss.isEmpty := by
    cases ss with
    | nil => simp [PyData.eqv, PyData.eqvAll]
    | cons s ss => simp [PyData.eqv, PyData.eqvAll]
  rw [e]
  exact p
end
theorem le_a (c : Nat) : (!decide (([c] : List Nat) < (Str.ofString "a").cps.toList)) = decide (97 ≤ c) := by
  have e : (Str.ofString "a").cps.toList = [97] := by decide +kernel
  rw [e, ← decide_not]
  apply decide_eq_decide.mpr
  rw [List.cons_lt_cons_iff]
  simp
theorem le_z (c : Nat) : (!decide ((Str.ofString "z").cps.toList < ([c] : List Nat))) = decide (c ≤ 122) := by
  have e : (Str.ofString "z").cps.toList = [122] := by decide +kernel
  rw [e, ← decide_not]
  apply decide_eq_decide.mpr
  rw [List.cons_lt_cons_iff]
  simp
end DL
namespace DL
open PySem L2
open Evl (Ex)
theorem units65 {k : Nat} {A : Around} (r : Room k A) : A.units + 65 < cLine := by
  have := r.un
  omega
section
variable {K : PySem.W.Frag} {F : Fr} {ρ : Sls} {P : Sls → D → Prop} {x : D}
theorem wR_inD {ds : List D} {a : PyData} {es : List PyData} (h1 : toPy x = some a) (h2 : toPyL ds = some es) (s1 : SeqAt.shaped a = true) (s2 : SeqAt.shaped (.list es) = true) (p : P ρ (.bl (es.any fun z => PyData.eqv z a))) : wR K F (rInD K) x (.lst ds) ρ P := fun σ G H vx vy S rx ry Q q =>
  ⟨a, es, Rep.dp S.ex x vx a rx h1, Rep.dp S.ex (.lst ds) vy (.list es) ry (by rw [toPy, h2]; rfl), s1, s2, q _ _ ρ G H p S (.bl _) (Ex.refl G)⟩
theorem wE_isLO {i : Nat} {l : Kd} {ds : List D} (h : ρ[i]? = some (.ow l ds)) (p : P ρ (.bl true)) : wE K F (tCB (rIsi K) (tCons (tVar i) (tCons (tC (.ty "list")) tNil))) ρ P := fun σ G H S Q q => by
  obtain ⟨a, vs, e, hg, hh, hr⟩ := S.ow h
  exact ⟨.ref a, e, _, _, .type "list", .type "list", true, rfl, .ty "list", .base (.lst hh), kit_ty (kit_list "list" (.lst []) rfl), q _ _ ρ G H p S (.bl true) (Ex.refl G)⟩
end
theorem log2_small {n : Nat} (h : n ≤ 2 ^ 40) : n.log2 < 1920 := by
  by_cases h0 : n = 0
  · subst h0
    decide
  · rw [Nat.log2_lt h0]
    exact Nat.lt_of_le_of_lt h (Nat.pow_lt_pow_right (by decide) (by decide))
end DL
namespace DL
open PySem L2
open Evl (Ex)
section
variable {K : PySem.W.Frag} {F : Fr} {ρ : Sls} {P : Sls → D → Prop} {te to : TE} {tb : TS} {tc : TT} {O : Out}
/-- a while loop by its word and a number that gets less -/
theorem wS_while (Inv : Nat → Sls → Prop) (h0 : ∃ m, Inv m ρ) (hs : ∀ (m : Nat) (ρ2 : Sls), Inv m ρ2 → wT K F tc ρ2 fun ρ3 b => Ways b (wS K F tb ρ3 { nx := fun ρ' => ∃ m', m' < m ∧ Inv m' ρ', ct := fun ρ' => ∃ m', m' < m ∧ Inv m' ρ', bk := O.nx, rt := O.rt, ro := O.ro }) (O.nx ρ3)) : wS K F (tWhile tc tb) ρ O := fun σ G H S D1 k => by
  obtain ⟨m0, i0⟩ := h0
  refine ⟨fun m σ' H' => ∃ G' ρ', Inv m ρ' ∧ SRel K F G' H' σ' ρ' ∧ Ex G G', ⟨m0, G, ρ, i0, S, Ex.refl G⟩, ?_⟩
  rintro m σ1 H1 ⟨G1, ρ1, i1, S1, e1⟩
  refine hs m ρ1 i1 σ1 G1 H1 S1 _ fun b ρ2 G2 H2 h2 S2 e2 => ?_
  cases b with
  | false => exact k.nx ρ2 σ1 G2 H2 (h2.2 rfl) S2 (e1.trans e2)
  | true =>
    refine ⟨fun σ' H' => ∃ m', m' < m ∧ ∃ G' ρ', Inv m' ρ' ∧ SRel K F G' H' σ' ρ' ∧ Ex G G', fun σ' H' z => z, ?_⟩
    refine h2.1 rfl σ1 G2 H2 S2 _ ⟨?_, ?_, ?_, ?_, ?_⟩
    · rintro ρ' σ' G' H' ⟨m', hm, i'⟩ S' x
      exact ⟨m', hm, G', ρ', i', S', (e1.trans e2).trans x⟩
    · exact fun a b c d v w h S' x => k.rt a b c d v w h S' ((e1.trans e2).trans x)
    · exact fun a b c d p v w h S' x => k.ro a b c d p v w h S' ((e1.trans e2).trans x)
    · exact fun a b c d h S' x => k.nx a b c d h S' ((e1.trans e2).trans x)
    · rintro ρ' σ' G' H' ⟨m', hm, i'⟩ S' x
      exact ⟨m', hm, G', ρ', i', S', (e1.trans e2).trans x⟩
/-! a method of a text with a text -/
abbrev rM1 (g : Str → Str → V) : V → List V → Hp → VK → Prop := fun x xs H Q => ∃ a b, x = .str a ∧ xs = [.str b] ∧ Q (g a b) H
theorem wE_m1 {g : Str → Str → V} {f : Str → Str → D} (hg : ∀ a b G, Rep K G (g a b) (f a b)) (h : wE K F to ρ fun ρ1 x => ∃ a, x = .str a ∧ wE K F te ρ1 fun ρ2 y => ∃ b, y = .str b ∧ P ρ2 (f a b)) : wE K F (tM1 (rM1 g) to te) ρ P := fun σ G H S Q q =>
  h σ G H S _ fun v x ρ1 G1 H1 h1 S1 r1 e1 => by
    obtain ⟨a, rfl, h2⟩ := h1
    cases r1
    refine ⟨⟨a, rfl⟩, h2 σ G1 H1 S1 _ fun w y ρ2 G2 H2 hp S2 r2 e2 => ?_⟩
    obtain ⟨b, rfl, p⟩ := hp
    cases r2
    exact ⟨a, b, rfl, rfl, q _ _ ρ2 G2 H2 p S2 (hg a b G2) (e1.trans e2)⟩
abbrev rRmp : V → List V → Hp → VK → Prop := fun x xs H Q => ∃ a b, x = .str a ∧ xs = [.str b] ∧ a.length ≤ sizeLine ∧ Q (.str (Txt.removeprefix a b)) H
theorem wE_rmp (h : wE K F to ρ fun ρ1 x => ∃ a, x = .str a ∧ a.length ≤ 100000 ∧ wE K F te ρ1 fun ρ2 y => ∃ b, y = .str b ∧ P ρ2 (.str (Txt.removeprefix a b))) : wE K F (tM1 rRmp to te) ρ P := fun σ G H S Q q =>
  h σ G H S _ fun v x ρ1 G1 H1 h1 S1 r1 e1 => by
    obtain ⟨a, rfl, hl, h2⟩ := h1
    cases r1
    refine ⟨⟨a, rfl⟩, h2 σ G1 H1 S1 _ fun w y ρ2 G2 H2 hp S2 r2 e2 => ?_⟩
    obtain ⟨b, rfl, p⟩ := hp
    cases r2
    exact ⟨a, b, rfl, rfl, Evl.sz_of hl, q _ _ ρ2 G2 H2 p S2 (.str _) (e1.trans e2)⟩
/-- int of a text -/
abbrev rIntS : List V → Hp → VK → Prop := fun xs H Q => ∃ a n, xs = [.str a] ∧ PySem.intText? a = some n ∧ a.length ≤ 640 ∧ Q (.int n) H
theorem wC_intS {a : Str} {n : Int} (h : PySem.intText? a = some n) (hl : a.length ≤ 640) (p : P ρ (.int n)) : wC K F rIntS [.str a] ρ P := fun σ G H vs S rs Q q => by
  cases rs with
  | cons r1 rr =>
    cases rr; cases r1
    exact ⟨a, n, rfl, h, hl, q _ _ ρ G H p S (.int n) (Ex.refl G)⟩
theorem shaped_str {a : Str} (h : okS a) : SeqAt.shaped (.str a) = true := by
  show (PyData.canLay0 (.str a) && decide (PyData.depth (.str a) ≤ 64)) = true
  rw [Bool.and_eq_true]
  exact ⟨by simp only [PyData.canLay0]; exact okS_strOk h, decide_eq_true (by simp only [PyData.depth]; decide)⟩
theorem wR_eqS {a b : Str} (ha : okS a) (hb : okS b) (p : P ρ (.bl (a == b))) : wR K F (rEqD K) (.str a) (.str b) ρ P := by
  refine wR_eqD rfl rfl (shaped_str ha) (shaped_str hb) ?_
  have e : PyData.eqv (.str a) (.str b) = (a == b) := by simp only [PyData.eqv]
  rw [e]
  exact p
theorem wR_neS {a b : Str} (ha : okS a) (hb : okS b) (p : P ρ (.bl (!(a == b)))) : wR K F (rNeD K) (.str a) (.str b) ρ P := by
  refine wR_neD rfl rfl (shaped_str ha) (shaped_str hb) ?_
  have e : PyData.eqv (.str a) (.str b) = (a == b) := by simp only [PyData.eqv]
  rw [e]
  exact p
theorem wR_neNil {l : List D} {ss : List Str} (e : l = ss.map D.str) (h : ∀ s ∈ ss, okS s) (p : P ρ (.bl (!ss.isEmpty))) : wR K F (rNeD K) (.lst l) (.lst []) ρ P := by
  subst e
  refine wR_neD (a := .list (ss.map PyData.str)) (b := .list []) (by rw [toPy, toPyL_strs]; rfl) rfl (shaped_strs h) (by kernel_rfl) ?_
  have e : PyData.eqv (.list (ss.map PyData.str)) (.list []) = ss.isEmpty := by
    cases ss with
    | nil => simp [PyData.eqv, PyData.eqvAll]
    | cons s ss => simp [PyData.eqv, PyData.eqvAll]
  rw [e]
  exact p
abbrev rIdxS : V → List V → Hp → VK → Prop := fun x xs H Q => ∃ a b i rest, x = .str a ∧ xs = [.str b] ∧ Builtin.Str.occurrences a b 0 a.length 1 = i :: rest ∧ Q (.int (i : Nat)) H
theorem wE_idxS (h : wE K F to ρ fun ρ1 x => ∃ a, x = .str a ∧ wE K F te ρ1 fun ρ2 y => ∃ b i rest, y = .str b ∧ Builtin.Str.occurrences a b 0 a.length 1 = i :: rest ∧ P ρ2 (.int (i : Nat))) : wE K F (tM1 rIdxS to te) ρ P := fun σ G H S Q q =>
  h σ G H S _ fun v x ρ1 G1 H1 h1 S1 r1 e1 => by
    obtain ⟨a, rfl, h2⟩ := h1
    cases r1
    refine ⟨⟨a, rfl⟩, h2 σ G1 H1 S1 _ fun w y ρ2 G2 H2 hp S2 r2 e2 => ?_⟩
    obtain ⟨b, i, rest, rfl, ho, p⟩ := hp
    cases r2
    exact ⟨a, b, i, rest, rfl, rfl, ho, q _ _ ρ2 G2 H2 p S2 (.int _) (e1.trans e2)⟩
end
end DL
namespace K14
open PySem L2 DL
open Evl (Ex)
def top (i : Nat) : Stmt := PySem.Challenge.pw_beatrows_k14_sums_undone.main.body.getD i (.Pass ⟨0, 0, 0, 0⟩)
abbrev s__law_box : Stmt := top 12
abbrev N__law_box : List Str := ["cell"]
theorem sc__law_box : FnScope N__law_box ["cell"] (defScope s__law_box) := ⟨rfl, rfl, rfl, by decide +kernel, rfl, by decide +kernel, by decide +kernel⟩
abbrev s__law_cell_at : Stmt := top 11
abbrev N__law_cell_at : List Str := ["script", "k"]
theorem sc__law_cell_at : FnScope N__law_cell_at ["script", "k"] (defScope s__law_cell_at) := ⟨rfl, rfl, rfl, by decide +kernel, rfl, by decide +kernel, by decide +kernel⟩
abbrev s__law_take : Stmt := top 13
abbrev N__law_take : List Str := ["box", "many", "digit", "number", "high", "low"]
theorem sc__law_take : FnScope N__law_take ["box", "many"] (defScope s__law_take) := ⟨rfl, rfl, rfl, by decide +kernel, rfl, by decide +kernel, by decide +kernel⟩
abbrev s__law_number : Stmt := top 14
abbrev N__law_number : List Str := ["box", "most", "near", "number"]
theorem sc__law_number : FnScope N__law_number ["box"] (defScope s__law_number) := ⟨rfl, rfl, rfl, by decide +kernel, rfl, by decide +kernel, by decide +kernel⟩
abbrev s_is_whole : Stmt := top 2
abbrev N_is_whole : List Str := ["thing"]
theorem sc_is_whole : FnScope N_is_whole ["thing"] (defScope s_is_whole) := ⟨rfl, rfl, rfl, by decide +kernel, rfl, by decide +kernel, by decide +kernel⟩
abbrev s_contrary : Stmt := top 7
abbrev N_contrary : List Str := ["one"]
theorem sc_contrary : FnScope N_contrary ["one"] (defScope s_contrary) := ⟨rfl, rfl, rfl, by decide +kernel, rfl, by decide +kernel, by decide +kernel⟩
abbrev s__takes : Stmt := top 8
abbrev N__takes : List Str := ["op", "one", "other"]
theorem sc__takes : FnScope N__takes ["op", "one", "other"] (defScope s__takes) := ⟨rfl, rfl, rfl, by decide +kernel, rfl, by decide +kernel, by decide +kernel⟩
abbrev s__outcome : Stmt := top 9
abbrev N__outcome : List Str := ["op", "one", "other"]
theorem sc__outcome : FnScope N__outcome ["op", "one", "other"] (defScope s__outcome) := ⟨rfl, rfl, rfl, by decide +kernel, rfl, by decide +kernel, by decide +kernel⟩
abbrev s_is_within : Stmt := top 3
abbrev N_is_within : List Str := ["thing", "low", "high"]
theorem sc_is_within : FnScope N_is_within ["thing", "low", "high"] (defScope s_is_within) := ⟨rfl, rfl, rfl, by decide +kernel, rfl, by decide +kernel, by decide +kernel⟩
abbrev s_is_value : Stmt := top 4
abbrev N_is_value : List Str := ["thing"]
theorem sc_is_value : FnScope N_is_value ["thing"] (defScope s_is_value) := ⟨rfl, rfl, rfl, by decide +kernel, rfl, by decide +kernel, by decide +kernel⟩
abbrev s_reckoned : Stmt := top 6
abbrev N_reckoned : List Str := ["op", "one", "other", "value"]
theorem sc_reckoned : FnScope N_reckoned ["op", "one", "other"] (defScope s_reckoned) := ⟨rfl, rfl, rfl, by decide +kernel, rfl, by decide +kernel, by decide +kernel⟩
abbrev s__law_same : Stmt := top 15
abbrev N__law_same : List Str := ["one", "other"]
theorem sc__law_same : FnScope N__law_same ["one", "other"] (defScope s__law_same) := ⟨rfl, rfl, rfl, by decide +kernel, rfl, by decide +kernel, by decide +kernel⟩
abbrev s__law_truths_right : Stmt := top 18
abbrev N__law_truths_right : List Str := ["one", "other", "no", "less", "both", "some"]
theorem sc__law_truths_right : FnScope N__law_truths_right ["one", "other"] (defScope s__law_truths_right) := ⟨rfl, rfl, rfl, by decide +kernel, rfl, by decide +kernel, by decide +kernel⟩
abbrev s__law_compared : Stmt := top 17
abbrev N__law_compared : List Str := ["one", "other", "found", "truth", "word"]
theorem sc__law_compared : FnScope N__law_compared ["one", "other"] (defScope s__law_compared) := ⟨rfl, rfl, rfl, by decide +kernel, rfl, by decide +kernel, by decide +kernel⟩
abbrev s__law_sums_right : Stmt := top 16
abbrev N__law_sums_right : List Str := ["one", "other", "total", "word", "quotient", "great", "rest"]
theorem sc__law_sums_right : FnScope N__law_sums_right ["one", "other"] (defScope s__law_sums_right) := ⟨rfl, rfl, rfl, by decide +kernel, rfl, by decide +kernel, by decide +kernel⟩
abbrev s_law : Stmt := top 19
abbrev N_law : List Str := ["script", "k", "box", "one", "other", "truth", "more", "op"]
theorem sc_law : FnScope N_law ["script"] (defScope s_law) := ⟨rfl, rfl, rfl, by decide +kernel, rfl, by decide +kernel, by decide +kernel⟩
local macro_rules | `(tactic| walk_at "nm") => `(tactic| dsimp only [st0, st1, List.map, List.length_cons, List.length_nil, List.replicate, List.set_cons_zero, List.set_cons_succ, List.cons_append, List.nil_append, wipeU, wipeS, unloc, restS, rest1, List.contains, List.elem, Nat.reduceBEq, Nat.reduceAdd, Nat.reduceSub, Nat.zero_add, cond_true, cond_false])
local macro_rules | `(tactic| walk_at "sd") => `(tactic| first
  | (show (0 : Int) < _; omega)
  | (show _ ∨ _; first | (left; constructor <;> omega) | (right; constructor <;> omega))
  | (show _ ∧ _; constructor <;> omega)
  | (show _ ∧ _ ∧ _; exact ⟨by decide, by decide, by decide⟩))
local macro_rules | `(tactic| walk_at "w1") => `(tactic| first
  | with_reducible refine wE_int ?_
  | with_reducible refine wE_bl ?_
  | with_reducible refine wE_str ?_
  | with_reducible refine wE_non ?_
  | with_reducible refine wE_ty ?_
  | ((with_reducible refine wE_var (d := ?_) ?_ ?_); rotate_left; (· rfl))
  | ((with_reducible refine wE_xOc (l := ?_) (ds := ?_) (d := ?_) ?_ ?_ ?_); rotate_left 3; (· rfl); (· rfl))
  | ((with_reducible refine wE_isLO (l := ?_) (ds := ?_) ?_ ?_); rotate_left 2; (· rfl))
  | ((with_reducible refine wE_neO (l := ?_) (ds := ?_) (ps := ?_) ?_ ?_ ?_ ?_); rotate_left 3; (· rfl); (· rfl); (· kernel_rfl))
  | with_reducible refine wE_op ?_
  | with_reducible refine wE_tup (wA_cons ?_)
  | with_reducible refine wE_ofO (wO_lst ?_)
  | with_reducible refine wE_cb (wA_cons ?_)
  | with_reducible refine wE_andV ?_
  | with_reducible refine wE_orV ?_
  | with_reducible refine wE_notV ?_
  | with_reducible refine wE_chain ?_
  | with_reducible refine wE_if ?_
  | with_reducible refine wE_call eok0 (wA_cons ?_)
  | ((with_reducible refine wE_con (d := ?_) ?_ ?_); rotate_left; (· assumption))
  | with_reducible refine wE_un ?_
  | with_reducible refine rsp_fz ?_
  | with_reducible refine rsp_ow ?_
  | with_reducible refine wE_call eok0 (wA_nil ?_)
  | ((with_reducible refine wRO_E (wRO_plusL ?_ ?_)); (· exact Nat.le_of_ble_eq_true rfl))
  | with_reducible refine wA_cons ?_
  | with_reducible refine wA_nil ?_
  | with_reducible refine wT_test ?_
  | with_reducible refine wT_B ?_
  | with_reducible refine wT_not ?_
  | with_reducible refine wT_and ?_
  | with_reducible refine wT_or ?_
  | with_reducible refine onB_bl ?_
  | with_reducible refine wR_plusI ?_
  | with_reducible refine wR_subI ?_
  | with_reducible refine wR_subB ?_
  | with_reducible refine wR_I0 ?_
  | with_reducible refine wR_B0 ?_
  | ((with_reducible refine wR_xL (d := ?_) ?_ ?_); rotate_left; (· rfl))
  | ((with_reducible refine wR_xT (d := ?_) ?_ ?_); rotate_left; (· rfl))
  | ((with_reducible refine wR_inT ?_ ?_ ?_); (· rfl); (· rfl))
  | ((with_reducible refine wR_niT ?_ ?_ ?_); (· rfl); (· rfl))
  | ((with_reducible refine wR_inL ?_ ?_ ?_); (· rfl); (· rfl))
  | ((with_reducible refine wR_niL ?_ ?_ ?_); (· rfl); (· rfl))
  | with_reducible refine wR_inSg ?_
  | ((with_reducible refine wR_inD (a := ?_) (es := ?_) ?_ ?_ ?_ ?_ ?_); rotate_left 2; (· rfl); (· rfl); (· kernel_rfl); (· kernel_rfl))
  | with_reducible refine wE_dnew ?_
  | with_reducible refine wE_disp1 ?_
  | with_reducible refine wR_niSg ?_
  | with_reducible refine wR_leS ?_
  | ((with_reducible refine wR_isTF ?_ ?_); (· rfl))
  | ((with_reducible refine wR_notTF ?_ ?_); (· rfl))
  | with_reducible refine wR_isN ?_
  | with_reducible refine wR_notN ?_
  | ((with_reducible refine wR_eqS ?_ ?_ ?_); (· assumption); (· first | assumption | exact okS_of (by decide +kernel)))
  | ((with_reducible refine wR_neS ?_ ?_ ?_); (· assumption); (· first | assumption | exact okS_of (by decide +kernel)))
  | ((with_reducible refine wR_eqD (a := ?_) (b := ?_) ?_ ?_ ?_ ?_ ?_); rotate_left 2; (· rfl); (· rfl); (· kernel_rfl); (· kernel_rfl))
  | ((with_reducible refine wR_neD (a := ?_) (b := ?_) ?_ ?_ ?_ ?_ ?_); rotate_left 2; (· rfl); (· rfl); (· kernel_rfl); (· kernel_rfl))
  | ((with_reducible refine wR_I ?_ ?_); (· walk_at "sd"))
  | (refine And.intro (Nat.le_of_ble_eq_true rfl) ?_)
  | with_reducible refine wC_neg ?_
  | with_reducible refine wC_max2 ?_
  | with_reducible refine wC_min2 ?_
  | with_reducible refine wC_abs ?_
  | with_reducible refine wC_intB ?_
  | with_reducible refine wC_intI ?_
  | ((with_reducible refine wC_len (n := ?_) ?_ ?_); rotate_left; (· rfl))
  | ((with_reducible refine wC_isInt ?_ ?_); (· rfl))
  | ((with_reducible refine wC_isBool ?_ ?_); (· rfl))
  | ((with_reducible refine wC_isStr ?_ ?_); (· rfl))
  | ((with_reducible refine wC_isList ?_ ?_); (· rfl))
  | ((with_reducible refine wC_isTuple ?_ ?_); (· rfl))
  | ((with_reducible refine wC_isDict ?_ ?_); (· rfl))
  | ((with_reducible refine wS_seq ?_); (try walk_at "nm"))
  | with_reducible refine wS_set ?_
  | with_reducible refine wS_ret ?_
  | with_reducible refine wS_next ?_
  | with_reducible refine wS_if ?_
  | ((with_reducible refine wS_set0 ?_))
  | ((with_reducible refine wS_set1 ?_))
  | ((with_reducible refine wS_set2 ?_))
  | (refine ⟨_, _, rfl, Nat.lt_of_sub_eq_succ rfl, ?_⟩)
  | with_reducible refine wS_asg ?_
  | with_reducible refine ways_t ?_
  | with_reducible refine ways_f ?_
  | ((with_reducible refine ways_ev_t ?_ ?_); (· rfl))
  | ((with_reducible refine ways_ev_f ?_ ?_); (· rfl))
  | with_reducible refine wT_yes ?_
  | ((with_reducible refine compL_nil ?_); (try walk_at "nm"))
  | ((with_reducible refine compL_cons (fun _ => ?_)); (try walk_at "nm"))
  | ((with_reducible refine forS_nil ?_); (try walk_at "nm"))
  | ((with_reducible refine forS_cons ?_); (try walk_at "nm"))
  | ((with_reducible refine wE_ofO (wO_lcL (tgt_tup2 ?_ ?_) ?_)); (· decide); (· decide))
  | ((with_reducible refine wE_ofO (wO_lcL (tgt_name ?_) ?_)); (· decide))
  | with_reducible refine wE_countF ?_
  | with_reducible refine wE_join ?_
  | with_reducible refine wE_upper ?_
  | with_reducible refine wE_slS ?_
  | with_reducible refine wE_ofO (wO_split ?_)
  | with_reducible refine wS_forL ?_
  | with_reducible refine wS_forR1 ?_
  | with_reducible refine rso_ow ?_
  | (refine ⟨_, rfl, Nat.le_of_ble_eq_true rfl, ?_⟩)
  | (refine ⟨_, rfl, (show wE _ _ _ _ _ from ?_)⟩)
  | (refine ⟨_, rfl, (show forS _ _ _ _ _ _ _ from ?_)⟩)
  | (refine And.intro (show flatD _ = true from rfl) (And.intro (show List.all _ flatD = true from rfl) ?_))
  | with_reducible refine wG_name ?_
  | with_reducible refine wG_tup2 ?_)
local macro_rules | `(tactic| walk_at "w") => `(tactic| repeat walk_at "w1")
local macro_rules | `(tactic| walk_at "wm") => `(tactic| repeat first | ((with_reducible refine wR_modB ?_ ?_); (· omega); intro _ _ _) | walk_at "w1")
/-- a list of three numbers from which things are drawn -/
def Box (ds : List D) : Prop := ∃ a b c : Int, ds = [.int a, .int b, .int c] ∧ 0 ≤ a ∧ 0 ≤ b
abbrev W__law_take : W1 := fun ds es Φ _ => ∃ m : Int, es = [.int m] ∧ Box ds ∧ 0 < m ∧ m < 1073741824 ∧ ∀ (ds' : List D) (r : Int), Box ds' → 0 ≤ r → r < m → Φ ds' (.fz (.int r))
abbrev W__law_box : W0 := fun ds Φ _ => ∃ c : Int, ds = [.int c] ∧ ∀ ds', Box ds' → Φ (.ow ds')
abbrev W__law_cell_at : W0 := fun ds Φ _ => ∃ (ns : List Int) (k : Int), ds = [.scr ns, .int k] ∧ 0 ≤ k ∧ ∀ n : Int, Φ (.fz (.int n))
def isW : D → Bool
  | .int _ => true
  | _ => false
abbrev W_is_whole : W0 := fun ds Φ _ => ∃ d, ds = [d] ∧ (tyD d).isSome = true ∧ Φ (.fz (.bl (isW d)))
def isWin (d : D) (lo hi : Int) : Bool := match d with
  | .int n => decide (lo ≤ n) && decide (n ≤ hi)
  | _ => false
abbrev W_is_within : W0 := fun ds Φ _ => ∃ d lo hi, ds = [d, .int lo, .int hi] ∧ (tyD d).isSome = true ∧ Φ (.fz (.bl (isWin d lo hi)))
def inB (d : D) : Bool := match d with
  | .bl _ => true
  | d => isWin d (-1000000000) 1000000000
abbrev W_is_value : W0 := fun ds Φ _ => ∃ d, ds = [d] ∧ (tyD d).isSome = true ∧ Φ (.fz (.bl (inB d)))
inductive Op where
  | add | sub | mul | div | md | lt | eq | an | or
def Op.s : Op → Str
  | .add => "+"
  | .sub => "-"
  | .mul => "*"
  | .div => "/"
  | .md => "mod"
  | .lt => "<"
  | .eq => "="
  | .an => "&"
  | .or => "|"
/-- a value: a number within the bounds, or a truth -/
inductive Va where
  | n (i : Int)
  | t (b : Bool)
def Va.d : Va → D
  | .n i => .int i
  | .t b => .bl b
def Va.ok : Va → Prop
  | .n i => -1000000000 ≤ i ∧ i ≤ 1000000000
  | .t _ => True
inductive Res where
  | int (i : Int) | bl (b : Bool) | kind | nought | great
  deriving DecidableEq
def Res.v : Res → D
  | .int i => .int i
  | .bl b => .bl b
  | _ => .non
def Res.w : Res → D
  | .kind => .str "kind"
  | .nought => .str "nought"
  | .great => .str "great"
  | _ => .non
def Res.d (r : Res) : D := .tup [r.v, r.w]
def tk (o : Op) (x y : Va) : Bool := match o, x, y with
  | .eq, .n _, .n _ => true
  | .eq, .t _, .t _ => true
  | .an, .t _, .t _ => true
  | .or, .t _, .t _ => true
  | .an, _, _ => false
  | .or, _, _ => false
  | .eq, _, _ => false
  | _, .n _, .n _ => true
  | _, _, _ => false
abbrev W__takes : W0 := fun ds Φ _ => ∃ o x y, ds = [.str (Op.s o), Va.d x, Va.d y] ∧ Φ (.fz (.bl (tk o x y)))
def oc (o : Op) (x y : Va) : D := match o, x, y with
  | .add, .n a, .n b => .int (a + b)
  | .sub, .n a, .n b => .int (a - b)
  | .mul, .n a, .n b => .int (a * b)
  | .div, .n a, .n b => .int (a.fdiv b)
  | .md, .n a, .n b => .int (a.fmod b)
  | .lt, .n a, .n b => .bl (decide (a < b))
  | .eq, .n a, .n b => .bl (a == b)
  | .eq, .t a, .t b => .bl (a == b)
  | .an, .t a, .t b => .bl (a && b)
  | .or, .t a, .t b => .bl (a || b)
  | _, _, _ => .non
def isDm : Op → Bool
  | .div => true
  | .md => true
  | _ => false
def nul (o : Op) (y : Va) : Bool := match o, y with
  | .div, .n b => decide (b = 0)
  | .md, .n b => decide (b = 0)
  | _, _ => false
abbrev W__outcome : W0 := fun ds Φ _ => ∃ o x y, ds = [.str (Op.s o), Va.d x, Va.d y] ∧ x.ok ∧ y.ok ∧ tk o x y = true ∧ nul o y = false ∧ Φ (.fz (oc o x y))
def fin (d : D) : Res := match d with
  | .bl b => .bl b
  | .int i => if -1000000000 ≤ i ∧ i ≤ 1000000000 then .int i else .great
  | _ => .great
def rk (o : Op) (x y : Va) : Res := if tk o x y = true then (if nul o y = true then .nought else fin (oc o x y)) else .kind
abbrev W_reckoned : W0 := fun ds Φ _ => ∃ o x y, ds = [.str (Op.s o), Va.d x, Va.d y] ∧ x.ok ∧ y.ok ∧ Φ (.fz (rk o x y).d)
def ct (x : Va) : Res := match x with
  | .n _ => .kind
  | .t b => .bl (!b)
abbrev W_contrary : W0 := fun ds Φ _ => ∃ x, ds = [Va.d x] ∧ Φ (.fz (ct x).d)

theorem eqi (a b : Int) : PyData.eqv (.int a) (.int b) = (a == b) := by simp only [PyData.eqv]
theorem eqt2 (a b c d : PyData) : PyData.eqv (.tuple [a, b]) (.tuple [c, d]) = (PyData.eqv a c && PyData.eqv b d) := by simp only [PyData.eqv, PyData.eqvAll, Bool.and_true]
theorem eqi_same (a : Int) : PyData.eqv (.int a) (.int a) = true := by rw [eqi]; exact beq_self_eq_true a
theorem eqt_same (a : Int) : PyData.eqv (.tuple [.int a, .none]) (.tuple [.int a, .none]) = true := by rw [eqt2, eqi_same]; simp only [PyData.eqv, Bool.and_true]
theorem fin_t : ∀ {d : D}, inB d = true → (fin d).d = .tup [d, .non]
  | .bl b, _ => rfl
  | .int i, h => by
    have h' : (decide ((-1000000000 : Int) ≤ i) && decide (i ≤ 1000000000)) = true := h
    rw [Bool.and_eq_true, decide_eq_true_eq, decide_eq_true_eq] at h'
    show (if -1000000000 ≤ i ∧ i ≤ 1000000000 then Res.int i else .great).d = _
    rw [if_pos h']
    rfl
  | .non, h => by cases h
  | .str _, h => by cases h
  | .ty _, h => by cases h
  | .adr _, h => by cases h
  | .lst _, h => by cases h
  | .tup _, h => by cases h
  | .scr _, h => by cases h
  | .dct _, h => by cases h
  | .obj _ _, h => by cases h
theorem fin_f : ∀ {d : D}, inB d = false → (fin d).d = .tup [.non, .str "great"]
  | .bl b, h => by cases h
  | .int i, h => by
    have h' : (decide ((-1000000000 : Int) ≤ i) && decide (i ≤ 1000000000)) = false := h
    show (if -1000000000 ≤ i ∧ i ≤ 1000000000 then Res.int i else .great).d = _
    rw [if_neg (fun c => by rw [decide_eq_true c.1, decide_eq_true c.2] at h'; cases h')]
    rfl
  | .non, _ => rfl
  | .str _, _ => rfl
  | .ty _, _ => rfl
  | .adr _, _ => rfl
  | .lst _, _ => rfl
  | .tup _, _ => rfl
  | .scr _, _ => rfl
  | .dct _, _ => rfl
  | .obj _ _, _ => rfl
section
variable {o : Op} {x y : Va} {Φ : Rs → Prop} {X : XD}
theorem rk_int {i : Int} (hx : x.ok) (hy : y.ok) (e : rk o x y = .int i) (h : Φ (.fz (.tup [.int i, .non]))) : W_reckoned [.str o.s, x.d, y.d] Φ X := ⟨o, x, y, rfl, hx, hy, by rw [e]; exact h⟩
theorem rk_bl {b : Bool} (hx : x.ok) (hy : y.ok) (e : rk o x y = .bl b) (h : Φ (.fz (.tup [.bl b, .non]))) : W_reckoned [.str o.s, x.d, y.d] Φ X := ⟨o, x, y, rfl, hx, hy, by rw [e]; exact h⟩
theorem rk_kind (hx : x.ok) (hy : y.ok) (e : rk o x y = .kind) (h : Φ (.fz (.tup [.non, .str "kind"]))) : W_reckoned [.str o.s, x.d, y.d] Φ X := ⟨o, x, y, rfl, hx, hy, by rw [e]; exact h⟩
theorem rk_nought (hx : x.ok) (hy : y.ok) (e : rk o x y = .nought) (h : Φ (.fz (.tup [.non, .str "nought"]))) : W_reckoned [.str o.s, x.d, y.d] Φ X := ⟨o, x, y, rfl, hx, hy, by rw [e]; exact h⟩
theorem rk_great (hx : x.ok) (hy : y.ok) (e : rk o x y = .great) (h : Φ (.fz (.tup [.non, .str "great"]))) : W_reckoned [.str o.s, x.d, y.d] Φ X := ⟨o, x, y, rfl, hx, hy, by rw [e]; exact h⟩
end

theorem ct_t {b : Bool} {Φ : Rs → Prop} {X : XD} (h : Φ (.fz (.tup [.bl (!b), .non]))) : W_contrary [.bl b] Φ X := ⟨.t b, rfl, h⟩
theorem ct_n {i : Int} {Φ : Rs → Prop} {X : XD} (h : Φ (.fz (.tup [.non, .str "kind"]))) : W_contrary [.int i] Φ X := ⟨.n i, rfl, h⟩
theorem kind_nt {o : Op} {a : Int} {b : Bool} : rk o (.n a) (.t b) = .kind := by cases o <;> rfl
theorem kind_tn {o : Op} {a : Int} {b : Bool} : rk o (.t b) (.n a) = .kind := by cases o <;> rfl

abbrev Bd (i : Int) : Prop := -1000000000 ≤ i ∧ i ≤ 1000000000
theorem fin_pos {i : Int} (h : Bd i) : fin (.int i) = .int i := if_pos h
theorem fin_neg {i : Int} (h : ¬ Bd i) : fin (.int i) = .great := if_neg h
theorem rk_div {a b : Int} (hb : b ≠ 0) : rk .div (.n a) (.n b) = fin (.int (a.fdiv b)) := by
  show (if decide (b = 0) = true then Res.nought else fin (.int (a.fdiv b))) = _
  rw [decide_eq_false hb]
  rfl
theorem rk_md {a b : Int} (hb : b ≠ 0) : rk .md (.n a) (.n b) = fin (.int (a.fmod b)) := by
  show (if decide (b = 0) = true then Res.nought else fin (.int (a.fmod b))) = _
  rw [decide_eq_false hb]
  rfl
theorem fmod_bd {a b : Int} (hb : b ≠ 0) : (0 < b → 0 ≤ a.fmod b ∧ a.fmod b < b) ∧ (b < 0 → b < a.fmod b ∧ a.fmod b ≤ 0) :=
  ⟨fun h => ⟨Int.fmod_nonneg_of_pos a h, Int.fmod_lt_of_pos a h⟩, fun h => by
    have h1 : (-a).fmod (-b) = -(a.fmod b) := by rw [Int.neg_fmod_neg]
    have h2 := Int.fmod_nonneg_of_pos (-a) (show 0 < -b by omega)
    have h3 := Int.fmod_lt_of_pos (-a) (show 0 < -b by omega)
    omega⟩
theorem mul_up {b q : Int} (h1 : 1 ≤ b) (hq : 0 ≤ q) : q ≤ b * q := by
  have h := Int.mul_le_mul_of_nonneg_right h1 hq
  rwa [Int.one_mul] at h
theorem fdiv_bd {a b : Int} (ha : Bd a) (hb : b ≠ 0) : Bd (a.fdiv b) := by
  have e : b * a.fdiv b + a.fmod b = a := Int.mul_fdiv_add_fmod a b
  have hm := fmod_bd (a := a) hb
  obtain ⟨ha1, ha2⟩ := ha
  generalize a.fdiv b = q at e
  generalize a.fmod b = r at e hm
  rcases Int.lt_or_gt_of_ne hb with h | h
  · obtain ⟨h1, h2⟩ := hm.2 h
    refine ⟨Classical.byContradiction fun c => ?_, Classical.byContradiction fun c => ?_⟩
    · have h3 := mul_up (show 1 ≤ -b by omega) (show 0 ≤ -q - 1 by omega)
      have h4 : -b * (-q - 1) = b * q + b := by rw [Int.mul_sub, Int.neg_mul_neg, Int.mul_one]; omega
      omega
    · have h3 := mul_up (show 1 ≤ -b by omega) (show 0 ≤ q by omega)
      have h4 : -b * q = -(b * q) := Int.neg_mul _ _
      omega
  · obtain ⟨h1, h2⟩ := hm.1 h
    refine ⟨Classical.byContradiction fun c => ?_, Classical.byContradiction fun c => ?_⟩
    · have h3 := mul_up (show 1 ≤ b by omega) (show 0 ≤ -q - 1 by omega)
      have h4 : b * (-q - 1) = -(b * q) - b := by rw [Int.mul_sub, Int.mul_neg, Int.mul_one]
      omega
    · have h3 := mul_up (show 1 ≤ b by omega) (show 0 ≤ q by omega)
      omega
abbrev W__law_same : W0 := fun ds Φ _ => ∃ r : Res, ds = [r.d, r.d] ∧ Φ (.fz (.bl true))
abbrev W__law_number : W1 := fun ds es Φ _ => es = [] ∧ Box ds ∧ ∀ (ds' : List D) (r : Int), Box ds' → -1000000000 ≤ r → r ≤ 1000000000 → Φ ds' (.fz (.int r))
abbrev W__law_sums_right : W0 := fun ds Φ _ => ∃ a b : Int, ds = [.int a, .int b] ∧ (Va.n a).ok ∧ (Va.n b).ok ∧ Φ (.fz (.bl true))
abbrev W__law_compared : W0 := fun ds Φ _ => ∃ a b : Int, ds = [.int a, .int b] ∧ (Va.n a).ok ∧ (Va.n b).ok ∧ Φ (.fz (.bl true))
abbrev W__law_truths_right : W0 := fun ds Φ _ => ∃ a b : Bool, ds = [.bl a, .bl b] ∧ Φ (.fz (.bl true))
abbrev W_law : W0 := WLaw
theorem same_b {b c : Bool} {Φ : Rs → Prop} {X : XD} (e : b = c) (h : Φ (.fz (.bl true))) : W__law_same [.tup [.bl b, .non], .tup [.bl c, .non]] Φ X := ⟨.bl b, by subst e; rfl, h⟩
theorem same_i {b c : Int} {Φ : Rs → Prop} {X : XD} (e : b = c) (h : Φ (.fz (.bl true))) : W__law_same [.tup [.int b, .non], .tup [.int c, .non]] Φ X := ⟨.int b, by subst e; rfl, h⟩
theorem same_g {Φ : Rs → Prop} {X : XD} (h : Φ (.fz (.bl true))) : W__law_same [.tup [.non, .str "great"], .tup [.non, .str "great"]] Φ X := ⟨.great, rfl, h⟩
local macro_rules | `(tactic| walk_at "wk") => `(tactic| repeat first
  | walk_at "w1"
  | with_reducible refine ct_t ?_
  | with_reducible refine ct_n ?_
  | ((with_reducible refine same_b ?_ ?_); (· rfl))
  | with_reducible refine same_g ?_
  | refine rk_bl (o := .an) (x := .t _) (y := .t _) trivial trivial rfl ?_
  | refine rk_bl (o := .or) (x := .t _) (y := .t _) trivial trivial rfl ?_
  | refine rk_bl (o := .eq) (x := .t _) (y := .t _) trivial trivial rfl ?_)

section
variable {P : Program} {w : World} {K : PySem.W.Frag} {mg : Str → Option Value} {base : Heap}
theorem ok__law_box {f : Addr} {fd : FuncData} (F : L2.Fun K "_law_box" "_law_box" s__law_box f fd) (m_max : mg "max" = none) (m_int : mg "int" = none) : FnOk P w K mg base L2.CX0 1 f fd ["cell"] (sp0 K W__law_box) := by
  refine F.ok sc__law_box (fun vs H Q E h => sp0_len (by rintro _ _ _ ⟨_, rfl, _⟩; rfl) h) (fun cdv A outer s H vs Q E hr h => ⟨_, (pss_one (ps_ret (pe_lst (pa_cons (pe_op op_mul (pe_callB (call_max2 rfl) (by rfl) m_max (by decide +kernel) (pa_cons pe_int (pa_cons (pv 0) pa_nil))) (pe_callTy call_int1 (by rfl) m_int PyProof.Rows.boot_int (pa_cons (pe_cmpR op_ge (pv 0) (pe_op op_pow pe_int pe_int) (nomark _)) pa_nil))) (pa_cons (pe_op op_mod (pv 0) pe_int) (pa_cons pe_int pa_nil)))))), body0 h ?_⟩)
  try dsimp only [cxOf]
  intro ds Φ X F hW hE
  obtain ⟨c, rfl, hΦ⟩ := hW
  refine wS_retO (wO_lst (wA_cons ?_))
  walk_at "wm"
  refine hΦ _ ⟨_, _, _, rfl, ?_, by assumption⟩
  split <;> split <;> omega

theorem ok__law_cell_at {f : Addr} {fd : FuncData} (F : L2.Fun K "_law_cell_at" "_law_cell_at" s__law_cell_at f fd) (m_len : mg "len" = none) : FnOk P w K mg base L2.CX0 1 f fd ["script", "k"] (sp0 K W__law_cell_at) := by
  refine F.ok sc__law_cell_at (fun vs H Q E h => sp0_len (by rintro _ _ _ ⟨_, _, rfl, _⟩; rfl) h) (fun cdv A outer s H vs Q E hr h => ⟨_, (pss_cons (ps_if (pt_cmpR op_lt (pv 1) (pe_callB call_len (by rfl) m_len PySem.boot_len (pa_cons (pv 0) pa_nil)) (nomark _)) (pss_one (ps_ret (pe_ix ix_seq (pv 0) (pv 1) (fun _ _ => rfl)))) pss_nil) (pss_one (ps_ret (pe_op DL.op_plus (pe_op op_mul pe_int (pv 1)) pe_int)))), body0 h ?_⟩)
  try dsimp only [cxOf]
  intro ds Φ X F hW hE
  obtain ⟨ns, k, rfl, hk, hΦ⟩ := hW
  walk_at "w"
  refine ways_dec (fun hc => ?_) (fun hc => ?_)
  · walk_at "w"
    obtain ⟨d, _, e⟩ := atI_of hk hc
    exact wR_xScr e (hΦ d)
  · walk_at "w"
    exact hΦ _

theorem ok__law_take {f : Addr} {fd : FuncData} (F : L2.Fun K "_law_take" "_law_take" s__law_take f fd)  : FnOk P w K mg base L2.CX0 1 f fd ["box", "many"] (sp1 K W__law_take) := by
  refine F.ok sc__law_take (fun vs H Q E h => sp1_len (by rintro _ _ _ _ ⟨_, rfl, _⟩; rfl) h) (fun cdv A outer s H vs Q E hr h => ⟨_, (pss_cons (ps_if (pt_cmpR op_gt (pe_ix ix_seq (pv 0) pe_int (fun _ _ => rfl)) pe_int (nomark _)) (pss_cons (ps_set (i := 2) sc__law_take.nd rfl (Or.inl rfl) (pe_op op_mod (pe_ix ix_seq (pv 0) pe_int (fun _ _ => rfl)) (pv 1))) (pss_cons (ps_asg (pe_op op_fdiv (pe_ix ix_seq (pv 0) pe_int (fun _ _ => rfl)) (pv 1)) (pg_sub (pv 0) pe_int set_list)) (pss_one (ps_ret (pv 2))))) pss_nil) (pss_cons (ps_asg (pe_op DL.op_plus (pe_ix ix_seq (pv 0) pe_int (fun _ _ => rfl)) pe_int) (pg_sub (pv 0) pe_int set_list)) (pss_cons (ps_set (i := 3) sc__law_take.nd rfl (Or.inl rfl) (pe_op op_mod (pe_op op_mul (pe_op DL.op_plus (pe_ix ix_seq (pv 0) pe_int (fun _ _ => rfl)) (pe_op op_mul pe_int (pe_ix ix_seq (pv 0) pe_int (fun _ _ => rfl)))) pe_int) pe_int)) (pss_cons (ps_set (i := 3) sc__law_take.nd rfl (Or.inl rfl) (pe_op op_mod (pe_op op_mul (pv 3) (pv 3)) pe_int)) (pss_cons (ps_set (i := 4) sc__law_take.nd rfl (Or.inl rfl) (pe_op op_fdiv (pe_op op_mod (pe_op op_mul (pe_op DL.op_plus (pv 3) (pe_ix ix_seq (pv 0) pe_int (fun _ _ => rfl))) (pe_op DL.op_plus (pv 3) pe_int)) pe_int) pe_int)) (pss_cons (ps_set (i := 5) sc__law_take.nd rfl (Or.inl rfl) (pe_op op_mod (pe_op DL.op_plus (pe_op op_mul (pv 3) pe_int) (pe_op op_mul pe_int (pe_ix ix_seq (pv 0) pe_int (fun _ _ => rfl)))) pe_int)) (pss_one (ps_ret (pe_op op_mod (pe_op DL.op_plus (pe_op op_mul (pv 4) pe_int) (pe_op op_mod (pe_op op_mul (pv 5) (pv 5)) pe_int)) (pv 1)))))))))), body1 h ?_⟩)
  try dsimp only [cxOf]
  intro ds es Φ X F hW hE
  obtain ⟨m, rfl, ⟨a, b, c, rfl, ha, hb⟩, hm, hm2, hΦ⟩ := hW
  walk_at "w"
  refine ways_dec (fun hc => ?_) (fun hc => ?_)
  · walk_at "wm"
    exact ⟨_, rfl, hΦ _ _ ⟨_, _, _, rfl, Int.ediv_nonneg ha (Int.le_of_lt hm), hb⟩ (by assumption) (by assumption)⟩
  · walk_at "wm"
    exact ⟨_, rfl, hΦ _ _ ⟨_, _, _, rfl, ha, hb⟩ (by assumption) (by assumption)⟩

theorem ok__law_number {f : Addr} {fd : FuncData} (F : L2.Fun K "_law_number" "_law_number" s__law_number f fd) (c__law_take : Callee P w K mg base 1 "_law_take" (sp1 K W__law_take)) : FnOk P w K mg base L2.CX0 2 f fd ["box"] (sp1 K W__law_number) := by
  refine F.ok sc__law_number (fun vs H Q E h => sp1_len (by rintro _ _ _ _ ⟨rfl, _⟩; rfl) h) (fun cdv A outer s H vs Q E hr h => ⟨_, (pss_cons (ps_set (i := 1) sc__law_number.nd rfl (Or.inl rfl) (pe_op op_pow pe_int pe_int)) (pss_cons (ps_set (i := 2) sc__law_number.nd rfl (Or.inl rfl) (pe_lst (pa_cons pe_int (pa_cons pe_int (pa_cons (pe_un un_neg pe_int) (pa_cons (pv 1) (pa_cons (pe_op op_sub pe_int (pv 1)) (pa_cons (pe_op op_sub (pv 1) pe_int) (pa_cons pe_int (pa_cons (pe_un un_neg pe_int) pa_nil)))))))))) (pss_cons (ps_set (i := 3) sc__law_number.nd rfl (Or.inl rfl) (DL.pe_cl c__law_take hr (by decide) (by rfl) (pa_cons (pv 0) (pa_cons (pe_ix ix_seq (pe_lst (pa_cons pe_int (pa_cons pe_int (pa_cons pe_int (pa_cons (pe_op DL.op_plus (pe_op op_pow pe_int pe_int) pe_int) pa_nil))))) (DL.pe_cl c__law_take hr (by decide) (by rfl) (pa_cons (pv 0) (pa_cons pe_int pa_nil))) (fun _ _ => rfl)) pa_nil)))) (pss_one (ps_ret (pe_ix ix_seq (pe_op DL.op_plus (pv 2) (pe_lst (pa_cons (pv 3) (pa_cons (pe_op op_sub pe_int (pv 3)) (pa_cons (pv 3) (pa_cons (pe_op op_sub pe_int (pv 3)) pa_nil)))))) (DL.pe_cl c__law_take hr (by decide) (by rfl) (pa_cons (pv 0) (pa_cons pe_int pa_nil))) (fun _ _ => rfl))))))), body1 h ?_⟩)
  try dsimp only [cxOf]
  intro ds es Φ X F hW hE
  obtain ⟨rfl, hB, hΦ⟩ := hW
  walk_at "w"
  refine wE_call1 eok0 ⟨_, _, rfl⟩ (wA_cons ?_)
  walk_at "w"
  refine wE_call1 eok0 ⟨_, _, rfl⟩ (wA_cons ?_)
  walk_at "w"
  refine ⟨_, _, rfl, _, rfl, hB, by decide, by decide, fun ds1 k hB1 h0 h1 => rsp_fz ?_⟩
  refine wR_xLAll h0 h1 fun d hd => ?_
  have hd2 : ∃ m : Int, d = .int m ∧ 0 < m ∧ m ≤ 1000000001 := by
    simp only [List.mem_cons, List.not_mem_nil, or_false] at hd
    rcases hd with rfl | rfl | rfl | rfl <;> exact ⟨_, rfl, by decide, by decide⟩
  obtain ⟨m, rfl, hm, hm2⟩ := hd2
  walk_at "w"
  refine ⟨_, _, rfl, m, rfl, hB1, hm, by omega, fun ds2 r hB2 hr0 hr1 => rsp_fz ?_⟩
  walk_at "w"
  refine wE_call1 eok0 ⟨_, _, rfl⟩ (wA_cons ?_)
  walk_at "w"
  refine ⟨_, _, rfl, 12, rfl, hB2, by decide, by decide, fun ds3 j hB3 hj0 hj1 => rsp_fz ?_⟩
  refine wR_xLAll hj0 hj1 fun d hd => ?_
  have hd3 : ∃ m : Int, d = .int m ∧ -1000000000 ≤ m ∧ m ≤ 1000000000 := by
    have e9 : (10 : Int) ^ Int.toNat 9 = 1000000000 := by decide
    simp only [e9, List.cons_append, List.nil_append, List.mem_cons, List.not_mem_nil, or_false] at hd
    rcases hd with rfl | rfl | rfl | rfl | rfl | rfl | rfl | rfl | rfl | rfl | rfl | rfl <;> exact ⟨_, rfl, by omega, by omega⟩
  obtain ⟨n, rfl, hn, hn2⟩ := hd3
  exact ⟨_, rfl, hΦ _ _ hB3 hn hn2⟩

theorem ok_is_whole {f : Addr} {fd : FuncData} (F : L2.Fun K "is_whole" "is_whole" s_is_whole f fd) (m_isinstance : mg "isinstance" = none) (m_bool : mg "bool" = none) (m_int : mg "int" = none) : FnOk P w K mg base L2.CX0 1 f fd ["thing"] (sp0 K W_is_whole) := by
  refine F.ok sc_is_whole (fun vs H Q E h => sp0_len (by rintro _ _ _ ⟨_, rfl, _⟩; rfl) h) (fun cdv A outer s H vs Q E hr h => ⟨_, (pss_one (ps_ret (pe_and (pe_callB call_isi (by rfl) m_isinstance PyProof.Rows.boot_isinstance (pa_cons (pv 0) (pa_cons (pe_bltn (v := .ty "int") (by rfl) m_int PyProof.Rows.boot_int rfl) pa_nil))) (pe_one (pe_not (pe_callB call_isi (by rfl) m_isinstance PyProof.Rows.boot_isinstance (pa_cons (pv 0) (pa_cons (pe_bltn (v := .ty "bool") (by rfl) m_bool PyProof.Rows.boot_bool rfl) pa_nil)))))))), body0 h ?_⟩)
  try dsimp only [cxOf]
  intro ds Φ X F hW hE
  obtain ⟨d, rfl, hd, hΦ⟩ := hW
  cases d <;> first | (cases hd; done) | (walk_at "w"; exact hΦ)

theorem ok_contrary {f : Addr} {fd : FuncData} (F : L2.Fun K "contrary" "contrary" s_contrary f fd) (c_is_whole : Callee P w K mg base 1 "is_whole" (sp0 K W_is_whole)) : FnOk P w K mg base L2.CX0 2 f fd ["one"] (sp0 K W_contrary) := by
  refine F.ok sc_contrary (fun vs H Q E h => sp0_len (by rintro _ _ _ ⟨_, rfl, _⟩; rfl) h) (fun cdv A outer s H vs Q E hr h => ⟨_, (pss_cons (ps_if (pt_val (DL.pe_cl c_is_whole hr (by decide) (by rfl) (pa_cons (pv 0) pa_nil))) (pss_one (ps_ret (pe_tup (pa_cons pe_non (pa_cons pe_str pa_nil))))) pss_nil) (pss_one (ps_ret (pe_tup (pa_cons (pe_not (pv 0)) (pa_cons pe_non pa_nil)))))), body0 h ?_⟩)
  try dsimp only [cxOf]
  intro ds Φ X F hW hE
  obtain ⟨x, rfl, hΦ⟩ := hW
  cases x <;> (dsimp only [Va.d]; walk_at "w"; exact ⟨_, rfl, rfl, by walk_at "w"; exact hΦ⟩)

theorem ok__takes {f : Addr} {fd : FuncData} (F : L2.Fun K "_takes" "_takes" s__takes f fd) (c_is_whole : Callee P w K mg base 1 "is_whole" (sp0 K W_is_whole)) : FnOk P w K mg base L2.CX0 2 f fd ["op", "one", "other"] (sp0 K W__takes) := by
  refine F.ok sc__takes (fun vs H Q E h => sp0_len (by rintro _ _ _ ⟨_, _, _, rfl, _⟩; rfl) h) (fun cdv A outer s H vs Q E hr h => ⟨_, (pss_cons (ps_if (pt_cmpR (op_eqD hr.units) (pv 0) pe_str (nomark _)) (pss_one (ps_ret (pe_cmpR (op_eqD hr.units) (DL.pe_cl c_is_whole hr (by decide) (by rfl) (pa_cons (pv 1) pa_nil)) (DL.pe_cl c_is_whole hr (by decide) (by rfl) (pa_cons (pv 2) pa_nil)) (nomark _)))) pss_nil) (pss_cons (ps_if (pt_cmpR op_in_seq (pv 0) (pe_tup (pa_cons pe_str (pa_cons pe_str pa_nil))) (by rfl)) (pss_one (ps_ret (pe_and (pe_not (DL.pe_cl c_is_whole hr (by decide) (by rfl) (pa_cons (pv 1) pa_nil))) (pe_one (pe_not (DL.pe_cl c_is_whole hr (by decide) (by rfl) (pa_cons (pv 2) pa_nil))))))) pss_nil) (pss_one (ps_ret (pe_and (DL.pe_cl c_is_whole hr (by decide) (by rfl) (pa_cons (pv 1) pa_nil)) (pe_one (DL.pe_cl c_is_whole hr (by decide) (by rfl) (pa_cons (pv 2) pa_nil)))))))), body0 h ?_⟩)
  try dsimp only [cxOf]
  intro ds Φ X F hW hE
  obtain ⟨o, x, y, rfl, hΦ⟩ := hW
  cases o <;> cases x <;> cases y <;> (walk_at "w"; first | exact hΦ | exact ⟨_, rfl, rfl, by walk_at "w"; first | exact hΦ | exact ⟨_, rfl, rfl, by walk_at "w"; exact hΦ⟩⟩)

theorem ok__outcome {f : Addr} {fd : FuncData} (F : L2.Fun K "_outcome" "_outcome" s__outcome f fd)  : FnOk P w K mg base L2.CX0 1 f fd ["op", "one", "other"] (sp0 K W__outcome) := by
  refine F.ok sc__outcome (fun vs H Q E h => sp0_len (by rintro _ _ _ ⟨_, _, _, rfl, _⟩; rfl) h) (fun cdv A outer s H vs Q E hr h => ⟨_, (pss_cons (ps_if (pt_cmpR (op_eqD hr.units) (pv 0) pe_str (nomark _)) (pss_one (ps_ret (pe_op DL.op_plus (pv 1) (pv 2)))) pss_nil) (pss_cons (ps_if (pt_cmpR (op_eqD hr.units) (pv 0) pe_str (nomark _)) (pss_one (ps_ret (pe_op op_sub (pv 1) (pv 2)))) pss_nil) (pss_cons (ps_if (pt_cmpR (op_eqD hr.units) (pv 0) pe_str (nomark _)) (pss_one (ps_ret (pe_op op_mul (pv 1) (pv 2)))) pss_nil) (pss_cons (ps_if (pt_cmpR (op_eqD hr.units) (pv 0) pe_str (nomark _)) (pss_one (ps_ret (pe_op op_fdivN (pv 1) (pv 2)))) pss_nil) (pss_cons (ps_if (pt_cmpR (op_eqD hr.units) (pv 0) pe_str (nomark _)) (pss_one (ps_ret (pe_op op_modN (pv 1) (pv 2)))) pss_nil) (pss_cons (ps_if (pt_cmpR (op_eqD hr.units) (pv 0) pe_str (nomark _)) (pss_one (ps_ret (pe_cmpR op_lt (pv 1) (pv 2) (nomark _)))) pss_nil) (pss_cons (ps_if (pt_cmpR (op_eqD hr.units) (pv 0) pe_str (nomark _)) (pss_one (ps_ret (pe_cmpR (op_eqD hr.units) (pv 1) (pv 2) (nomark _)))) pss_nil) (pss_cons (ps_if (pt_cmpR (op_eqD hr.units) (pv 0) pe_str (nomark _)) (pss_one (ps_ret (pe_and (pv 1) (pe_one (pv 2))))) pss_nil) (pss_one (ps_ret (pe_or (pv 1) (pe_one (pv 2))))))))))))), body0 h ?_⟩)
  try dsimp only [cxOf]
  intro ds Φ X F hW hE
  obtain ⟨o, x, y, rfl, hx, hy, ht, hn, hΦ⟩ := hW
  cases o <;> cases x <;> cases y <;> first | (cases ht; done) | skip
  all_goals dsimp only [Va.d]
  all_goals try dsimp only [Va.ok] at hx hy
  all_goals walk_at "w"
  all_goals first | exact hΦ | skip
  case div.n.n => first
    | exact wR_I ⟨of_decide_eq_false hn, by omega⟩ hΦ
  case md.n.n => first
    | exact wR_I (of_decide_eq_false hn) hΦ
  case an.t.t b c => cases b <;> (walk_at "w"; exact hΦ)
  case or.t.t b c => cases b <;> (walk_at "w"; exact hΦ)

theorem ok_is_within {f : Addr} {fd : FuncData} (F : L2.Fun K "is_within" "is_within" s_is_within f fd) (c_is_whole : Callee P w K mg base 1 "is_whole" (sp0 K W_is_whole)) : FnOk P w K mg base L2.CX0 2 f fd ["thing", "low", "high"] (sp0 K W_is_within) := by
  refine F.ok sc_is_within (fun vs H Q E h => sp0_len (by rintro _ _ _ ⟨_, _, _, rfl, _⟩; rfl) h) (fun cdv A outer s H vs Q E hr h => ⟨_, (pss_one (ps_ret (pe_and (DL.pe_cl c_is_whole hr (by decide) (by rfl) (pa_cons (pv 0) pa_nil)) (pe_one (pe_chain op_le op_le (pv 1) (pv 0) (pv 2)))))), body0 h ?_⟩)
  try dsimp only [cxOf]
  intro ds Φ X F hW hE
  obtain ⟨d, lo, hi, rfl, hd, hΦ⟩ := hW
  cases d <;> first | (cases hd; done) | (walk_at "w"; exact ⟨_, rfl, hd, by walk_at "w"; exact hΦ⟩) | skip
  rename_i n
  walk_at "w"
  refine ⟨_, rfl, hd, rsp_fz ?_⟩
  walk_at "w"
  have e : isWin (.int n) lo hi = (decide (lo ≤ n) && decide (n ≤ hi)) := rfl
  rw [e] at hΦ
  refine ways_dec (fun h => ?_) (fun h => ?_)
  · walk_at "w"
    rw [decide_eq_true h] at hΦ
    exact hΦ
  · walk_at "w"
    rw [decide_eq_false h] at hΦ
    exact hΦ

theorem ok_is_value {f : Addr} {fd : FuncData} (F : L2.Fun K "is_value" "is_value" s_is_value f fd) (c_is_within : Callee P w K mg base 2 "is_within" (sp0 K W_is_within)) (m_isinstance : mg "isinstance" = none) (m_bool : mg "bool" = none) (k__GREATEST : Kon K mg "_GREATEST" (.int 1000000000)) : FnOk P w K mg base L2.CX0 3 f fd ["thing"] (sp0 K W_is_value) := by
  obtain ⟨u__GREATEST, v__GREATEST, m__GREATEST, r__GREATEST, q__GREATEST⟩ := k__GREATEST.ex
  refine F.ok sc_is_value (fun vs H Q E h => sp0_len (by rintro _ _ _ ⟨_, rfl, _⟩; rfl) h) (fun cdv A outer s H vs Q E hr h => ⟨_, (pss_one (ps_ret (pe_or (pe_callB call_isi (by rfl) m_isinstance PyProof.Rows.boot_isinstance (pa_cons (pv 0) (pa_cons (pe_bltn (v := .ty "bool") (by rfl) m_bool PyProof.Rows.boot_bool rfl) pa_nil))) (pe_one (DL.pe_cl c_is_within hr (by decide) (by rfl) (pa_cons (pv 0) (pa_cons (pe_un un_neg (pe_glob (by rfl) m__GREATEST r__GREATEST)) (pa_cons (pe_glob (by rfl) m__GREATEST r__GREATEST) pa_nil)))))))), body0 h ?_⟩)
  try dsimp only [cxOf]
  intro ds Φ X F hW hE
  obtain ⟨d, rfl, hd, hΦ⟩ := hW
  cases d <;> first | (cases hd; done) | (walk_at "w"; exact hΦ) | (walk_at "w"; exact ⟨_, _, _, rfl, hd, hΦ⟩)

theorem ok_reckoned {f : Addr} {fd : FuncData} (F : L2.Fun K "reckoned" "reckoned" s_reckoned f fd) (c__takes : Callee P w K mg base 2 "_takes" (sp0 K W__takes)) (c__outcome : Callee P w K mg base 1 "_outcome" (sp0 K W__outcome)) (c_is_value : Callee P w K mg base 3 "is_value" (sp0 K W_is_value)) : FnOk P w K mg base L2.CX0 4 f fd ["op", "one", "other"] (sp0 K W_reckoned) := by
  refine F.ok sc_reckoned (fun vs H Q E h => sp0_len (by rintro _ _ _ ⟨_, _, _, rfl, _⟩; rfl) h) (fun cdv A outer s H vs Q E hr h => ⟨_, (pss_cons (ps_if (pt_not (pt_val (DL.pe_cl c__takes hr (by decide) (by rfl) (pa_cons (pv 0) (pa_cons (pv 1) (pa_cons (pv 2) pa_nil)))))) (pss_one (ps_ret (pe_tup (pa_cons pe_non (pa_cons pe_str pa_nil))))) pss_nil) (pss_cons (ps_if (PW.pt (pw_and (pt_cmpR op_in_seq (pv 0) (pe_tup (pa_cons pe_str (pa_cons pe_str pa_nil))) (by rfl)) (pw_and1 (pt_cmpR (op_eqD hr.units) (pv 2) pe_int (nomark _))))) (pss_one (ps_ret (pe_tup (pa_cons pe_non (pa_cons pe_str pa_nil))))) pss_nil) (pss_cons (ps_set (i := 3) sc_reckoned.nd rfl (Or.inl rfl) (DL.pe_cl c__outcome hr (by decide) (by rfl) (pa_cons (pv 0) (pa_cons (pv 1) (pa_cons (pv 2) pa_nil))))) (pss_cons (ps_if (pt_not (pt_val (DL.pe_cl c_is_value hr (by decide) (by rfl) (pa_cons (pv 3) pa_nil)))) (pss_one (ps_ret (pe_tup (pa_cons pe_non (pa_cons pe_str pa_nil))))) pss_nil) (pss_one (ps_ret (pe_tup (pa_cons (pv 3) (pa_cons pe_non pa_nil))))))))), body0 h ?_⟩)
  try dsimp only [cxOf]
  intro ds Φ X F hW hE
  obtain ⟨o, x, y, rfl, hx, hy, hΦ⟩ := hW
  walk_at "w"
  refine ⟨o, x, y, rfl, rsp_fz ?_⟩
  walk_at "w"
  cases ht : tk o x y with
  | false =>
    walk_at "w"
    have e : rk o x y = .kind := by unfold rk; rw [if_neg (by rw [ht]; exact Bool.false_ne_true)]
    rw [e] at hΦ
    exact hΦ
  | true =>
    refine ways_f ?_
    have done : nul o y = false → wS K F (tSeq (tAsg (tCall (sp0 K W__outcome) [] E0 (tCons (tVar 0) (tCons (tVar 1) (tCons (tVar 2) tNil)))) (gName 3)) (tSeq (tIfS (tNot (tB (tCall (sp0 K W_is_value) [] E0 (tCons (tVar 3) tNil)))) (tRet (tTup (tCons (tC .non) (tCons (tC (.str "great")) tNil)))) tNext) (tRet (tTup (tCons (tVar 3) (tCons (tC .non) tNil)))))) (st0 N_reckoned [.str o.s, x.d, y.d]) (out0 Φ) := fun hn => by
      walk_at "w"
      refine ⟨o, x, y, rfl, hx, hy, ht, hn, rsp_fz ?_⟩
      walk_at "w"
      have hty : (tyD (oc o x y)).isSome = true := by cases o <;> cases x <;> cases y <;> first | rfl | (cases ht; done)
      refine ⟨_, rfl, hty, rsp_fz ?_⟩
      walk_at "w"
      have e : rk o x y = fin (oc o x y) := by unfold rk; rw [if_pos ht, if_neg (by rw [hn]; exact Bool.false_ne_true)]
      rw [e] at hΦ
      cases hb : inB (oc o x y) with
      | true =>
        rw [fin_t hb] at hΦ
        walk_at "w"
        exact hΦ
      | false =>
        rw [fin_f hb] at hΦ
        walk_at "w"
        exact hΦ
    walk_at "w"
    cases hd : isDm o with
    | false =>
      refine ways_ev_f (by cases o <;> first | rfl | cases hd) ?_
      walk_at "w1"; walk_at "w1"
      exact done (by cases o <;> first | rfl | cases hd)
    | true =>
      refine ways_ev_t (by cases o <;> first | rfl | cases hd) ?_
      obtain ⟨b, rfl⟩ : ∃ b, y = .n b := by cases o <;> first | (cases hd; done) | (cases x <;> cases y <;> first | (cases ht; done) | exact ⟨_, rfl⟩)
      walk_at "w"
      rw [eqi]
      refine ways (fun hc => ?_) (fun hc => ?_)
      · walk_at "w"
        have hn : nul o (.n b) = true := by cases o <;> first | (cases hd; done) | exact hc
        have e : rk o x (.n b) = .nought := by unfold rk; rw [if_pos ht, if_pos hn]
        rw [e] at hΦ
        exact hΦ
      · walk_at "w1"
        exact done (by cases o <;> first | (cases hd; done) | exact hc)

theorem ok__law_same {f : Addr} {fd : FuncData} (F : L2.Fun K "_law_same" "_law_same" s__law_same f fd) (m_isinstance : mg "isinstance" = none) (m_bool : mg "bool" = none) : FnOk P w K mg base L2.CX0 1 f fd ["one", "other"] (sp0 K W__law_same) := by
  refine F.ok sc__law_same (fun vs H Q E h => sp0_len (by rintro _ _ _ ⟨_, rfl, _⟩; rfl) h) (fun cdv A outer s H vs Q E hr h => ⟨_, (pss_one (ps_ret (pe_and (pe_cmpR (op_eqD hr.units) (pv 0) (pv 1) (nomark _)) (pe_one (pe_cmpR (op_eqD hr.units) (pe_callB call_isi (by rfl) m_isinstance PyProof.Rows.boot_isinstance (pa_cons (pe_ix ix_seq (pv 0) pe_int (fun _ _ => rfl)) (pa_cons (pe_bltn (v := .ty "bool") (by rfl) m_bool PyProof.Rows.boot_bool rfl) pa_nil))) (pe_callB call_isi (by rfl) m_isinstance PyProof.Rows.boot_isinstance (pa_cons (pe_ix ix_seq (pv 1) pe_int (fun _ _ => rfl)) (pa_cons (pe_bltn (v := .ty "bool") (by rfl) m_bool PyProof.Rows.boot_bool rfl) pa_nil))) (nomark _)))))), body0 h ?_⟩)
  try dsimp only [cxOf]
  intro ds Φ X F hW hE
  obtain ⟨r, rfl, hΦ⟩ := hW
  cases r <;> dsimp only [Res.d, Res.v, Res.w]
  all_goals walk_at "w"
  all_goals first
    | exact hΦ
    | (refine ways_ev_t (by rw [eqt2]; simp only [PyData.eqv, Bool.and_true, beq_self_eq_true]) ?_
       walk_at "w"
       exact hΦ)

theorem ok__law_truths_right {f : Addr} {fd : FuncData} (F : L2.Fun K "_law_truths_right" "_law_truths_right" s__law_truths_right f fd) (c_contrary : Callee P w K mg base 2 "contrary" (sp0 K W_contrary)) (c_reckoned : Callee P w K mg base 4 "reckoned" (sp0 K W_reckoned)) (c__law_same : Callee P w K mg base 1 "_law_same" (sp0 K W__law_same)) (m_isinstance : mg "isinstance" = none) (m_bool : mg "bool" = none) : FnOk P w K mg base L2.CX0 5 f fd ["one", "other"] (sp0 K W__law_truths_right) := by
  refine F.ok sc__law_truths_right (fun vs H Q E h => sp0_len (by rintro _ _ _ ⟨_, _, rfl, _⟩; rfl) h) (fun cdv A outer s H vs Q E hr h => ⟨_, (pss_cons (ps_set (i := 2) sc__law_truths_right.nd rfl (Or.inl rfl) (pe_ix ix_seq (DL.pe_cl c_contrary hr (by decide) (by rfl) (pa_cons (pv 0) pa_nil)) pe_int (fun _ _ => rfl))) (pss_cons (ps_set (i := 3) sc__law_truths_right.nd rfl (Or.inl rfl) (pe_ix ix_seq (DL.pe_cl c_contrary hr (by decide) (by rfl) (pa_cons (pv 1) pa_nil)) pe_int (fun _ _ => rfl))) (pss_cons (ps_if (PW.pt (pw_or (pt_cmpR (op_neD hr.units) (DL.pe_cl c_contrary hr (by decide) (by rfl) (pa_cons (pv 2) pa_nil)) (pe_tup (pa_cons (pv 0) (pa_cons pe_non pa_nil))) (nomark _)) (pw_or (pt_cmpR op_notN (pe_ix ix_seq (DL.pe_cl c_contrary hr (by decide) (by rfl) (pa_cons (pv 0) pa_nil)) pe_int (fun _ _ => rfl)) pe_non (nomark _)) (pw_or1 (pt_not (pt_val (pe_callB call_isi (by rfl) m_isinstance PyProof.Rows.boot_isinstance (pa_cons (pv 2) (pa_cons (pe_bltn (v := .ty "bool") (by rfl) m_bool PyProof.Rows.boot_bool rfl) pa_nil))))))))) (pss_one (ps_ret pe_bl)) pss_nil) (pss_cons (ps_set (i := 4) sc__law_truths_right.nd rfl (Or.inl rfl) (DL.pe_cl c_reckoned hr (by decide) (by rfl) (pa_cons pe_str (pa_cons (pv 0) (pa_cons (pv 1) pa_nil))))) (pss_cons (ps_set (i := 5) sc__law_truths_right.nd rfl (Or.inl rfl) (DL.pe_cl c_reckoned hr (by decide) (by rfl) (pa_cons pe_str (pa_cons (pv 2) (pa_cons (pv 3) pa_nil))))) (pss_cons (ps_if (PW.pt (pw_or (pt_not (pt_val (DL.pe_cl c__law_same hr (by decide) (by rfl) (pa_cons (DL.pe_cl c_contrary hr (by decide) (by rfl) (pa_cons (pe_ix ix_seq (pv 4) pe_int (fun _ _ => rfl)) pa_nil)) (pa_cons (pv 5) pa_nil))))) (pw_or1 (pt_not (pt_val (DL.pe_cl c__law_same hr (by decide) (by rfl) (pa_cons (pv 4) (pa_cons (DL.pe_cl c_reckoned hr (by decide) (by rfl) (pa_cons pe_str (pa_cons (pv 1) (pa_cons (pv 0) pa_nil)))) pa_nil)))))))) (pss_one (ps_ret pe_bl)) pss_nil) (pss_one (ps_ret (DL.pe_cl c__law_same hr (by decide) (by rfl) (pa_cons (DL.pe_cl c_reckoned hr (by decide) (by rfl) (pa_cons pe_str (pa_cons (pv 0) (pa_cons (pv 1) pa_nil)))) (pa_cons (DL.pe_cl c_contrary hr (by decide) (by rfl) (pa_cons (pe_ix ix_seq (DL.pe_cl c_reckoned hr (by decide) (by rfl) (pa_cons pe_str (pa_cons (pv 0) (pa_cons (pv 3) pa_nil)))) pe_int (fun _ _ => rfl)) pa_nil)) pa_nil))))))))))), body0 h ?_⟩)
  try dsimp only [cxOf]
  intro ds Φ X F hW hE
  obtain ⟨a, b, rfl, hΦ⟩ := hW
  cases a <;> cases b
  all_goals walk_at "wk"
  all_goals first | exact hΦ | skip

theorem ok__law_compared {f : Addr} {fd : FuncData} (F : L2.Fun K "_law_compared" "_law_compared" s__law_compared f fd) (c_reckoned : Callee P w K mg base 4 "reckoned" (sp0 K W_reckoned)) (m_isinstance : mg "isinstance" = none) (m_bool : mg "bool" = none) : FnOk P w K mg base L2.CX0 5 f fd ["one", "other"] (sp0 K W__law_compared) := by
  refine F.ok sc__law_compared (fun vs H Q E h => sp0_len (by rintro _ _ _ ⟨_, _, rfl, _⟩; rfl) h) (fun cdv A outer s H vs Q E hr h => ⟨_, (pss_cons (ps_set (i := 2) sc__law_compared.nd rfl (Or.inl rfl) (pe_lst (pa_cons (DL.pe_cl c_reckoned hr (by decide) (by rfl) (pa_cons pe_str (pa_cons (pv 0) (pa_cons (pv 1) pa_nil)))) (pa_cons (DL.pe_cl c_reckoned hr (by decide) (by rfl) (pa_cons pe_str (pa_cons (pv 1) (pa_cons (pv 0) pa_nil)))) (pa_cons (DL.pe_cl c_reckoned hr (by decide) (by rfl) (pa_cons pe_str (pa_cons (pv 0) (pa_cons (pv 1) pa_nil)))) pa_nil))))) (pss_cons (ps_if (pt_cmpR (op_neD hr.units) (pe_lc (own := [("truth", 3), ("word", 4)]) (g := (gTup K 2 (gCons (gName 3) (gCons (gName 4) gNil)))) (tt := _) rfl sc__law_compared.nd (pi_list (pv 2)) (blkOk_by (N := N__law_compared) (sc := defScope s__law_compared) (by decide +kernel)) (fun _ _ _ _ _ => (show PG _ _ (gTup K 2 _) from pg_tup rfl (pgs_cons (pg_name (i := 3) sc__law_compared.nd rfl (Or.inl rfl)) (pgs_cons (pg_name (i := 4) sc__law_compared.nd rfl (Or.inl rfl)) pgs_nil)))) (fun _ _ _ _ _ => pts_one (PW.pt (pw_or (pt_cmpR op_notN (pv 4) pe_non (nomark _)) (pw_or1 (pt_not (pt_val (pe_callB (show CallR _ _ (rIsi K) from call_isi) (by rfl) m_isinstance PyProof.Rows.boot_isinstance (pa_cons (pv 3) (pa_cons (pe_bltn (v := .ty "bool") (by rfl) m_bool PyProof.Rows.boot_bool rfl) pa_nil))))))))) (fun _ _ _ _ _ => (pv 4))) (pe_lst pa_nil) (nomark _)) (pss_one (ps_ret pe_bl)) pss_nil) (pss_one (ps_ret (pe_and (pe_cmpR (op_eqD hr.units) (pe_bm PySem.F.plainAttrs_list PySem.F.slot_list_count PySem.F.type_list_count DL.mt_countF (pe_lc (own := [("truth", 3), ("word", 4)]) (g := (gTup K 2 (gCons (gName 3) (gCons (gName 4) gNil)))) (tt := tYes) rfl sc__law_compared.nd (pi_list (pv 2)) (blkOk_by (N := N__law_compared) (sc := defScope s__law_compared) (by decide +kernel)) (fun _ _ _ _ _ => (show PG _ _ (gTup K 2 _) from pg_tup rfl (pgs_cons (pg_name (i := 3) sc__law_compared.nd rfl (Or.inl rfl)) (pgs_cons (pg_name (i := 4) sc__law_compared.nd rfl (Or.inl rfl)) pgs_nil)))) (fun _ _ _ _ _ => pts_nil) (fun _ _ _ _ _ => (pv 3))) (pa_cons pe_bl pa_nil)) pe_int (nomark _)) (pe_one (pe_cmpR (op_eqD hr.units) (DL.pe_cl c_reckoned hr (by decide) (by rfl) (pa_cons pe_str (pa_cons (pv 1) (pa_cons (pv 0) pa_nil)))) (pe_ix ix_seq (pv 2) pe_int (fun _ _ => rfl)) (nomark _)))))))), body0 h ?_⟩)
  try dsimp only [cxOf]
  intro ds Φ X F hW hE
  obtain ⟨a, b, rfl, ha, hb, hΦ⟩ := hW
  obtain ⟨x, y, z, e1, e2, e3, e4, hm⟩ : ∃ x y z : Bool, rk .lt (.n a) (.n b) = .bl x ∧ rk .lt (.n b) (.n a) = .bl y ∧ rk .eq (.n a) (.n b) = .bl z ∧ rk .eq (.n b) (.n a) = .bl z ∧ ((x = true ∧ y = false ∧ z = false) ∨ (x = false ∧ y = true ∧ z = false) ∨ (x = false ∧ y = false ∧ z = true)) := by
    refine ⟨decide (a < b), decide (b < a), a == b, rfl, rfl, rfl, by rw [show (a == b) = (b == a) from Bool.beq_comm]; rfl, ?_⟩
    rcases Int.lt_trichotomy a b with h | h | h
    · exact .inl ⟨decide_eq_true h, decide_eq_false (by omega), by simpa using (by omega : a ≠ b)⟩
    · exact .inr (.inr ⟨decide_eq_false (by omega), decide_eq_false (by omega), by simpa using h⟩)
    · exact .inr (.inl ⟨decide_eq_false (by omega), decide_eq_true h, by simpa using (by omega : a ≠ b)⟩)
  rcases hm with ⟨rfl, rfl, rfl⟩ | ⟨rfl, rfl, rfl⟩ | ⟨rfl, rfl, rfl⟩
  all_goals
    walk_at "w"
    refine rk_bl (o := .lt) (x := .n a) (y := .n b) ha hb e1 ?_
    walk_at "w"
    refine rk_bl (o := .lt) (x := .n b) (y := .n a) hb ha e2 ?_
    walk_at "w"
    refine rk_bl (o := .eq) (x := .n a) (y := .n b) ha hb e3 ?_
    walk_at "w"
    refine rk_bl (o := .eq) (x := .n b) (y := .n a) hb ha e4 ?_
    walk_at "w"
    exact hΦ

theorem ok__law_sums_right {f : Addr} {fd : FuncData} (F : L2.Fun K "_law_sums_right" "_law_sums_right" s__law_sums_right f fd) (c_reckoned : Callee P w K mg base 4 "reckoned" (sp0 K W_reckoned)) (c__law_same : Callee P w K mg base 1 "_law_same" (sp0 K W__law_same)) (m_abs : mg "abs" = none) : FnOk P w K mg base L2.CX0 5 f fd ["one", "other"] (sp0 K W__law_sums_right) := by
  refine F.ok sc__law_sums_right (fun vs H Q E h => sp0_len (by rintro _ _ _ ⟨_, _, rfl, _⟩; rfl) h) (fun cdv A outer s H vs Q E hr h => ⟨_, (pss_cons (ps_asg (DL.pe_cl c_reckoned hr (by decide) (by rfl) (pa_cons pe_str (pa_cons (pv 0) (pa_cons (pv 1) pa_nil)))) (show PG _ _ (gTup K 2 _) from pg_tup rfl (pgs_cons (pg_name (i := 2) sc__law_sums_right.nd rfl (Or.inl rfl)) (pgs_cons (pg_name (i := 3) sc__law_sums_right.nd rfl (Or.inl rfl)) pgs_nil)))) (pss_cons (ps_if (PW.pt (pw_or (pt_not (pt_val (DL.pe_cl c__law_same hr (by decide) (by rfl) (pa_cons (pe_tup (pa_cons (pv 2) (pa_cons (pv 3) pa_nil))) (pa_cons (DL.pe_cl c_reckoned hr (by decide) (by rfl) (pa_cons pe_str (pa_cons (pv 1) (pa_cons (pv 0) pa_nil)))) pa_nil))))) (pw_or1 (pt_cmpR op_notIn_seq (pv 3) (pe_lst (pa_cons pe_non (pa_cons pe_str pa_nil))) (by rfl))))) (pss_one (ps_ret pe_bl)) pss_nil) (pss_cons (ps_if (PW.pt (pw_and (pt_cmpR op_isN (pv 3) pe_non (nomark _)) (pw_and1 (pt_cmpR (op_neD hr.units) (DL.pe_cl c_reckoned hr (by decide) (by rfl) (pa_cons pe_str (pa_cons (pv 2) (pa_cons (pv 1) pa_nil)))) (pe_tup (pa_cons (pv 0) (pa_cons pe_non pa_nil))) (nomark _))))) (pss_one (ps_ret pe_bl)) pss_nil) (pss_cons (ps_if (PW.pt (pw_and (pt_cmpR op_isN (pv 3) pe_non (nomark _)) (pw_and1 (pt_cmpR (op_neD hr.units) (DL.pe_cl c_reckoned hr (by decide) (by rfl) (pa_cons pe_str (pa_cons (pv 2) (pa_cons (pv 0) pa_nil)))) (pe_tup (pa_cons (pv 1) (pa_cons pe_non pa_nil))) (nomark _))))) (pss_one (ps_ret pe_bl)) pss_nil) (pss_cons (ps_if (pt_not (pt_val (DL.pe_cl c__law_same hr (by decide) (by rfl) (pa_cons (DL.pe_cl c_reckoned hr (by decide) (by rfl) (pa_cons pe_str (pa_cons (pv 0) (pa_cons (pv 1) pa_nil)))) (pa_cons (DL.pe_cl c_reckoned hr (by decide) (by rfl) (pa_cons pe_str (pa_cons (pv 1) (pa_cons (pv 0) pa_nil)))) pa_nil))))) (pss_one (ps_ret pe_bl)) pss_nil) (pss_cons (ps_if (pt_cmpR (op_eqD hr.units) (pv 1) pe_int (nomark _)) (pss_one (ps_ret (pe_chain (op_eqD hr.units) (op_eqD hr.units) (DL.pe_cl c_reckoned hr (by decide) (by rfl) (pa_cons pe_str (pa_cons (pv 0) (pa_cons (pv 1) pa_nil)))) (DL.pe_cl c_reckoned hr (by decide) (by rfl) (pa_cons pe_str (pa_cons (pv 0) (pa_cons (pv 1) pa_nil)))) (pe_tup (pa_cons pe_non (pa_cons pe_str pa_nil)))))) pss_nil) (pss_cons (ps_asg (DL.pe_cl c_reckoned hr (by decide) (by rfl) (pa_cons pe_str (pa_cons (pv 0) (pa_cons (pv 1) pa_nil)))) (show PG _ _ (gTup K 2 _) from pg_tup rfl (pgs_cons (pg_name (i := 4) sc__law_sums_right.nd rfl (Or.inl rfl)) (pgs_cons (pg_name (i := 5) sc__law_sums_right.nd rfl (Or.inl rfl)) pgs_nil)))) (pss_cons (ps_asg (DL.pe_cl c_reckoned hr (by decide) (by rfl) (pa_cons pe_str (pa_cons (pv 0) (pa_cons (pv 1) pa_nil)))) (show PG _ _ (gTup K 2 _) from pg_tup rfl (pgs_cons (pg_name (i := 6) sc__law_sums_right.nd rfl (Or.inl rfl)) (pgs_cons (pg_name (i := 3) sc__law_sums_right.nd rfl (Or.inl rfl)) pgs_nil)))) (pss_cons (ps_if (PW.pt (pw_or (pt_cmpR op_notN (pv 3) pe_non (nomark _)) (pw_or1 (pt_cmpR op_notN (pv 5) pe_non (nomark _))))) (pss_one (ps_ret pe_bl)) pss_nil) (pss_one (ps_ret (pe_and (pe_cmpR (op_eqD hr.units) (pe_op DL.op_plus (pe_op op_mul (pv 4) (pv 1)) (pv 6)) (pv 0) (nomark _)) (pe_and (pe_cmpR op_lt (pe_callB call_abs (by rfl) m_abs PyProof.Rows.boot_abs (pa_cons (pv 6) pa_nil)) (pe_callB call_abs (by rfl) m_abs PyProof.Rows.boot_abs (pa_cons (pv 1) pa_nil)) (nomark _)) (pe_one (pe_or (pe_cmpR (op_eqD hr.units) (pv 6) pe_int (nomark _)) (pe_one (pe_cmpR (op_eqD hr.units) (pe_cmpR op_lt (pv 6) pe_int (nomark _)) (pe_cmpR op_lt (pv 1) pe_int (nomark _)) (nomark _)))))))))))))))))), body0 h ?_⟩)
  try dsimp only [cxOf]
  intro ds Φ X F hW hE
  obtain ⟨a, b, rfl, ha, hb, hΦ⟩ := hW
  have hA : Bd a := ha
  have hB : Bd b := hb
  obtain ⟨ha1, ha2⟩ := hA
  obtain ⟨hb1, hb2⟩ := hB
  have hadd : rk .add (.n b) (.n a) = rk .add (.n a) (.n b) := by
    show fin (.int (b + a)) = fin (.int (a + b))
    rw [Int.add_comm]
  have hmul : rk .mul (.n b) (.n a) = rk .mul (.n a) (.n b) := by
    show fin (.int (b * a)) = fin (.int (a * b))
    rw [Int.mul_comm]
  walk_at "w"
  by_cases h : Bd (a + b)
  case' pos =>
    have e : rk .add (.n a) (.n b) = .int (a + b) := fin_pos h
    refine rk_int (o := .add) (x := .n a) (y := .n b) ha hb e ?_
    walk_at "w"
    refine rk_int (o := .add) (x := .n b) (y := .n a) hb ha (hadd.trans e) ?_
    walk_at "w"
    refine same_i rfl ?_
    walk_at "w"
    refine rk_int (o := .sub) (x := .n (a + b)) (y := .n b) h hb ((fin_pos (show Bd (a + b - b) by show _ ∧ _; omega)).trans (congrArg Res.int (show a + b - b = a by omega))) ?_
    walk_at "w"
    refine ways_ev_f (by rw [eqt_same]; rfl) ?_
    walk_at "w"
    refine rk_int (o := .sub) (x := .n (a + b)) (y := .n a) h ha ((fin_pos (show Bd (a + b - a) by show _ ∧ _; omega)).trans (congrArg Res.int (show a + b - a = b by omega))) ?_
    walk_at "w"
    refine ways_ev_f (by rw [eqt_same]; rfl) ?_
    walk_at "w"
  case' neg =>
    have e : rk .add (.n a) (.n b) = .great := fin_neg h
    refine rk_great (o := .add) (x := .n a) (y := .n b) ha hb e ?_
    walk_at "w"
    refine rk_great (o := .add) (x := .n b) (y := .n a) hb ha (hadd.trans e) ?_
    walk_at "w"
    refine same_g ?_
    walk_at "w"
  all_goals rcases Decidable.em (Bd (a * b)) with h2 | h2
  all_goals first
    | (have e2 : rk .mul (.n a) (.n b) = .int (a * b) := fin_pos h2
       refine rk_int (o := .mul) (x := .n a) (y := .n b) ha hb e2 ?_
       walk_at "w"
       refine rk_int (o := .mul) (x := .n b) (y := .n a) hb ha (hmul.trans e2) ?_
       walk_at "w"
       refine same_i rfl ?_
       walk_at "w")
    | (have e2 : rk .mul (.n a) (.n b) = .great := fin_neg h2
       refine rk_great (o := .mul) (x := .n a) (y := .n b) ha hb e2 ?_
       walk_at "w"
       refine rk_great (o := .mul) (x := .n b) (y := .n a) hb ha (hmul.trans e2) ?_
       walk_at "w"
       refine same_g ?_
       walk_at "w")
  all_goals rw [eqi]
  all_goals refine ways (fun hc => ?_) (fun hc => ?_)
  all_goals first
    | (have hb0 : b = 0 := by simpa using hc
       subst hb0
       walk_at "w"
       refine rk_nought (o := .div) (x := .n a) (y := .n 0) ha hb rfl ?_
       walk_at "w"
       refine rk_nought (o := .md) (x := .n a) (y := .n 0) ha hb rfl ?_
       walk_at "w"
       exact hΦ)
    | (have hb0 : b ≠ 0 := by simpa using hc
       have hq := fdiv_bd (a := a) ⟨ha1, ha2⟩ hb0
       have hr := fmod_bd (a := a) hb0
       have hr2 : Bd (a.fmod b) := by
         rcases Int.lt_or_gt_of_ne hb0 with z | z
         · have := hr.2 z
           exact ⟨by omega, by omega⟩
         · have := hr.1 z
           exact ⟨by omega, by omega⟩
       have ed : a.fdiv b * b + a.fmod b = a := by rw [Int.mul_comm]; exact Int.mul_fdiv_add_fmod a b
       walk_at "w"
       refine rk_int (o := .div) (x := .n a) (y := .n b) ha hb ((rk_div hb0).trans (fin_pos hq)) ?_
       walk_at "w"
       refine rk_int (o := .md) (x := .n a) (y := .n b) ha hb ((rk_md hb0).trans (fin_pos hr2)) ?_
       obtain ⟨hq1, hq2⟩ := hq
       walk_at "w"
       refine ways_ev_t (by rw [eqi, ed]; exact beq_self_eq_true a) ?_
       walk_at "w"
       have hab : (if a.fmod b < 0 then -a.fmod b else a.fmod b) < (if b < 0 then -b else b) := by
         rcases Int.lt_or_gt_of_ne hb0 with z | z
         · have := hr.2 z
           rw [if_pos z]
           split <;> omega
         · have := hr.1 z
           rw [if_neg (show ¬ b < 0 by omega)]
           split <;> omega
       refine ways_ev_t (decide_eq_true hab) ?_
       walk_at "w"
       refine ways (fun _ => hΦ) (fun hz => ?_)
       walk_at "w"
       have hz0 : a.fmod b ≠ 0 := by rw [eqi] at hz; simpa using hz
       have es : PyData.eqv (.bool (decide (a.fmod b < 0))) (.bool (decide (b < 0))) = true := by
         rcases Int.lt_or_gt_of_ne hb0 with z | z
         · have := hr.2 z
           rw [decide_eq_true z, decide_eq_true (show a.fmod b < 0 by omega)]; rfl
         · have := hr.1 z
           rw [decide_eq_false (show ¬ b < 0 by omega), decide_eq_false (show ¬ a.fmod b < 0 by omega)]; rfl
       show Φ (.fz (.bl (PyData.eqv (.bool (decide (a.fmod b < 0))) (.bool (decide (b < 0))))))
       rw [es]
       exact hΦ)

theorem ok_law {f : Addr} {fd : FuncData} (F : L2.Fun K "law" "law" s_law f fd) (c__law_box : Callee P w K mg base 1 "_law_box" (sp0 K W__law_box)) (c__law_cell_at : Callee P w K mg base 1 "_law_cell_at" (sp0 K W__law_cell_at)) (c__law_number : Callee P w K mg base 2 "_law_number" (sp1 K W__law_number)) (c__law_take : Callee P w K mg base 1 "_law_take" (sp1 K W__law_take)) (c__law_truths_right : Callee P w K mg base 5 "_law_truths_right" (sp0 K W__law_truths_right)) (c__law_compared : Callee P w K mg base 5 "_law_compared" (sp0 K W__law_compared)) (c__law_sums_right : Callee P w K mg base 5 "_law_sums_right" (sp0 K W__law_sums_right)) (c_reckoned : Callee P w K mg base 4 "reckoned" (sp0 K W_reckoned)) (c_contrary : Callee P w K mg base 2 "contrary" (sp0 K W_contrary)) (m_range : mg "range" = none) (m_max : mg "max" = none) (m_min : mg "min" = none) (m_len : mg "len" = none) : FnOk P w K mg base L2.CX0 6 f fd ["script"] (sp0 K W_law) := by
  refine F.ok sc_law (fun vs H Q E h => sp0_len (by rintro _ _ _ ⟨_, _, rfl, _⟩; rfl) h) (fun cdv A outer s H vs Q E hr h => ⟨_, (pss_cons (ps_for PassesOwn.never rfl (pi_range1 rfl m_range (pa_cons (pe_callB (call_max2 rfl) (by rfl) m_max (by decide +kernel) (pa_cons pe_int (pa_cons (pe_callB (call_min2 rfl) (by rfl) m_min (by decide +kernel) (pa_cons pe_int (pa_cons (pe_callB call_len (by rfl) m_len PySem.boot_len (pa_cons (pv 0) pa_nil)) pa_nil))) pa_nil))) pa_nil)) (pg_name (i := 1) sc_law.nd rfl (Or.inl rfl)) (pss_cons (ps_set (i := 2) sc_law.nd rfl (Or.inl rfl) (DL.pe_cl c__law_box hr (by decide) (by rfl) (pa_cons (DL.pe_cl c__law_cell_at hr (by decide) (by rfl) (pa_cons (pv 0) (pa_cons (pv 1) pa_nil))) pa_nil))) (pss_cons (ps_set (i := 3) sc_law.nd rfl (Or.inl rfl) (DL.pe_cl c__law_number hr (by decide) (by rfl) (pa_cons (pv 2) pa_nil))) (pss_cons (ps_set (i := 4) sc_law.nd rfl (Or.inl rfl) (DL.pe_cl c__law_number hr (by decide) (by rfl) (pa_cons (pv 2) pa_nil))) (pss_cons (ps_set (i := 5) sc_law.nd rfl (Or.inl rfl) (pe_cmpR (op_eqD hr.units) (DL.pe_cl c__law_take hr (by decide) (by rfl) (pa_cons (pv 2) (pa_cons pe_int pa_nil))) pe_int (nomark _))) (pss_cons (ps_set (i := 6) sc_law.nd rfl (Or.inl rfl) (pe_cmpR (op_eqD hr.units) (DL.pe_cl c__law_take hr (by decide) (by rfl) (pa_cons (pv 2) (pa_cons pe_int pa_nil))) pe_int (nomark _))) (pss_cons (ps_if (PW.pt (pw_or (pt_not (pt_val (DL.pe_cl c__law_sums_right hr (by decide) (by rfl) (pa_cons (pv 3) (pa_cons (pv 4) pa_nil))))) (pw_or (pt_not (pt_val (DL.pe_cl c__law_compared hr (by decide) (by rfl) (pa_cons (pv 3) (pa_cons (pv 4) pa_nil))))) (pw_or1 (pt_not (pt_val (DL.pe_cl c__law_truths_right hr (by decide) (by rfl) (pa_cons (pv 5) (pa_cons (pv 6) pa_nil))))))))) (pss_one (ps_ret pe_bl)) pss_nil) (pss_cons (ps_if (PW.pt (pw_or (pt_cmpR (op_neD hr.units) (DL.pe_cl c_contrary hr (by decide) (by rfl) (pa_cons (pv 3) pa_nil)) (pe_tup (pa_cons pe_non (pa_cons pe_str pa_nil))) (nomark _)) (pw_or1 (pt_cmpR (op_neD hr.units) (DL.pe_cl c_reckoned hr (by decide) (by rfl) (pa_cons pe_str (pa_cons (pv 5) (pa_cons (pv 3) pa_nil)))) (pe_tup (pa_cons pe_non (pa_cons pe_str pa_nil))) (nomark _))))) (pss_one (ps_ret pe_bl)) pss_nil) (pss_one (ps_for PassesOwn.never rfl (pi_list (pe_lst (pa_cons pe_str (pa_cons pe_str (pa_cons pe_str (pa_cons pe_str (pa_cons pe_str (pa_cons pe_str (pa_cons pe_str (pa_cons pe_str pa_nil)))))))))) (pg_name (i := 7) sc_law.nd rfl (Or.inl rfl)) (pss_one (ps_if (PW.pt (pw_or (pt_cmpR (op_neD hr.units) (DL.pe_cl c_reckoned hr (by decide) (by rfl) (pa_cons (pv 7) (pa_cons (pv 3) (pa_cons (pv 5) pa_nil)))) (pe_tup (pa_cons pe_non (pa_cons pe_str pa_nil))) (nomark _)) (pw_or1 (pt_cmpR (op_neD hr.units) (DL.pe_cl c_reckoned hr (by decide) (by rfl) (pa_cons (pv 7) (pa_cons (pv 5) (pa_cons (pv 3) pa_nil)))) (pe_tup (pa_cons pe_non (pa_cons pe_str pa_nil))) (nomark _))))) (pss_one (ps_ret pe_bl)) pss_nil)))))))))))) (pss_one (ps_ret pe_bl))), body0 h ?_⟩)
  try dsimp only [cxOf]
  intro ds Φ X F hW hE
  obtain ⟨ns, hl, rfl, hΦ⟩ := hW
  walk_at "w"
  refine ⟨_, rfl, by split <;> split <;> omega, by split <;> split <;> omega, ?_⟩
  refine forS_inv _ (fun _ ρ => ∃ s1 s2 s3 s4 s5 s6 s7, ρ = [.fz (.scr ns), s1, s2, s3, s4, s5, s6, s7]) ⟨_, _, _, _, _, _, _, rfl⟩ (fun i x ρ2 hx hI => ?_) (fun ρ2 hI => ?_)
  · obtain ⟨s1, s2, s3, s4, s5, s6, s7, rfl⟩ := hI
    obtain ⟨_, rfl⟩ := rng_at hx
    refine wG_name ?_
    refine wS_seq ?_
    walk_at "nm"
    refine wS_setO (wO_call eok0 (wA_cons ?_))
    walk_at "w"
    refine ⟨ns, _, rfl, by omega, fun c => rsp_fz ?_⟩
    walk_at "w"
    refine ⟨c, rfl, fun ds hB => rso_ow ?_⟩
    walk_at "w"
    refine wE_call1 eok0 ⟨_, _, rfl⟩ (wA_nil ⟨_, _, rfl, rfl, hB, fun ds1 a hB1 ha1 ha2 => rsp_fz ?_⟩)
    walk_at "w"
    refine wE_call1 eok0 ⟨_, _, rfl⟩ (wA_nil ⟨_, _, rfl, rfl, hB1, fun ds2 b hB2 hb1 hb2 => rsp_fz ?_⟩)
    walk_at "w"
    refine wE_call1 eok0 ⟨_, _, rfl⟩ (wA_cons (wE_int (wA_nil ⟨_, _, rfl, 2, rfl, hB2, by decide, by decide, fun ds3 r hB3 _ _ => rsp_fz ?_⟩)))
    walk_at "w"
    generalize PyData.eqv (.int r) (.int 0) = t
    refine wE_call1 eok0 ⟨_, _, rfl⟩ (wA_cons (wE_int (wA_nil ⟨_, _, rfl, 2, rfl, hB3, by decide, by decide, fun ds4 r2 hB4 _ _ => rsp_fz ?_⟩)))
    walk_at "w"
    generalize PyData.eqv (.int r2) (.int 0) = u
    have hA : (Va.n a).ok := ⟨ha1, ha2⟩
    have hC : (Va.n b).ok := ⟨hb1, hb2⟩
    refine ⟨a, b, rfl, hA, hC, rsp_fz ?_⟩
    walk_at "w"
    refine ⟨a, b, rfl, hA, hC, rsp_fz ?_⟩
    walk_at "w"
    refine ⟨t, u, rfl, rsp_fz ?_⟩
    walk_at "wk"
    refine rk_kind (o := .eq) (x := .t t) (y := .n a) trivial hA kind_tn ?_
    walk_at "w"
    refine rk_kind (o := .add) (x := .n a) (y := .t t) hA trivial kind_nt ?_
    walk_at "w"
    refine rk_kind (o := .add) (x := .t t) (y := .n a) trivial hA kind_tn ?_
    walk_at "w"
    refine rk_kind (o := .sub) (x := .n a) (y := .t t) hA trivial kind_nt ?_
    walk_at "w"
    refine rk_kind (o := .sub) (x := .t t) (y := .n a) trivial hA kind_tn ?_
    walk_at "w"
    refine rk_kind (o := .mul) (x := .n a) (y := .t t) hA trivial kind_nt ?_
    walk_at "w"
    refine rk_kind (o := .mul) (x := .t t) (y := .n a) trivial hA kind_tn ?_
    walk_at "w"
    refine rk_kind (o := .div) (x := .n a) (y := .t t) hA trivial kind_nt ?_
    walk_at "w"
    refine rk_kind (o := .div) (x := .t t) (y := .n a) trivial hA kind_tn ?_
    walk_at "w"
    refine rk_kind (o := .md) (x := .n a) (y := .t t) hA trivial kind_nt ?_
    walk_at "w"
    refine rk_kind (o := .md) (x := .t t) (y := .n a) trivial hA kind_tn ?_
    walk_at "w"
    refine rk_kind (o := .lt) (x := .n a) (y := .t t) hA trivial kind_nt ?_
    walk_at "w"
    refine rk_kind (o := .lt) (x := .t t) (y := .n a) trivial hA kind_tn ?_
    walk_at "w"
    refine rk_kind (o := .an) (x := .n a) (y := .t t) hA trivial kind_nt ?_
    walk_at "w"
    refine rk_kind (o := .an) (x := .t t) (y := .n a) trivial hA kind_tn ?_
    walk_at "w"
    refine rk_kind (o := .or) (x := .n a) (y := .t t) hA trivial kind_nt ?_
    walk_at "w"
    refine rk_kind (o := .or) (x := .t t) (y := .n a) trivial hA kind_tn ?_
    walk_at "w"
    exact ⟨_, _, _, _, _, _, _, rfl⟩
  · obtain ⟨s1, s2, s3, s4, s5, s6, s7, rfl⟩ := hI
    walk_at "w"
    exact hΦ

end
theorem all_mk {l : PySem.W.OpenLaw} {w : World} {K : PySem.W.Frag} {h : Heap} {mg : Str → Option Value} {fa f0 f1 f2 f3 f4 f5 f6 f7 f8 f9 f10 f11 f12 f13 f14 f15 : Addr} (X : K.In h) (G : h.Ns mainGlobals mg) (hfa : mg "law" = some (.ref fa))
    {od0 an0 od1 an1 od2 an2 od3 an3 od4 an4 od5 an5 od6 an6 od7 an7 od8 an8 od9 an9 od10 an10 od11 an11 od12 an12 od13 an13 od14 an14 od15 an15 : Option Addr} {sl0 sl1 sl2 sl3 sl4 sl5 sl6 sl7 sl8 sl9 sl10 sl11 sl12 sl13 sl14 sl15 : Array (Option Value)} {oc0 kV0 dc0 pm0 cd0 ct0 oc1 kV1 dc1 pm1 cd1 ct1 oc2 kV2 dc2 pm2 cd2 ct2 oc3 kV3 dc3 pm3 cd3 ct3 oc4 kV4 dc4 pm4 cd4 ct4 oc5 kV5 dc5 pm5 cd5 ct5 oc6 kV6 dc6 pm6 cd6 ct6 oc7 kV7 dc7 pm7 cd7 ct7 oc8 kV8 dc8 pm8 cd8 ct8 oc9 kV9 dc9 pm9 cd9 ct9 oc10 kV10 dc10 pm10 cd10 ct10 oc11 kV11 dc11 pm11 cd11 ct11 oc12 kV12 dc12 pm12 cd12 ct12 oc13 kV13 dc13 pm13 cd13 ct13 oc14 kV14 dc14 pm14 cd14 ct14 oc15 kV15 dc15 pm15 cd15 ct15 : Value}
    (a0 : PySem.W.nsIn K mainGlobals "_law_box" = some (some (.ref f0))) (l0 : K.lookup f0 = some ⟨oc0, od0, .func (PySem.W.fnOf "_law_box" "_law_box" (defArgs s__law_box) (defBody s__law_box) (defScope s__law_box) .none kV0 dc0 pm0 an0 cd0 ct0), sl0⟩) (c0 : PySem.W.codeIn K cd0 "_law_box" = true) (k0 : PySem.W.keepIn K (.ref f0) = true)
    (a1 : PySem.W.nsIn K mainGlobals "_law_cell_at" = some (some (.ref f1))) (l1 : K.lookup f1 = some ⟨oc1, od1, .func (PySem.W.fnOf "_law_cell_at" "_law_cell_at" (defArgs s__law_cell_at) (defBody s__law_cell_at) (defScope s__law_cell_at) .none kV1 dc1 pm1 an1 cd1 ct1), sl1⟩) (c1 : PySem.W.codeIn K cd1 "_law_cell_at" = true) (k1 : PySem.W.keepIn K (.ref f1) = true)
    (a2 : PySem.W.nsIn K mainGlobals "_law_take" = some (some (.ref f2))) (l2 : K.lookup f2 = some ⟨oc2, od2, .func (PySem.W.fnOf "_law_take" "_law_take" (defArgs s__law_take) (defBody s__law_take) (defScope s__law_take) .none kV2 dc2 pm2 an2 cd2 ct2), sl2⟩) (c2 : PySem.W.codeIn K cd2 "_law_take" = true) (k2 : PySem.W.keepIn K (.ref f2) = true)
    (a3 : PySem.W.nsIn K mainGlobals "_law_number" = some (some (.ref f3))) (l3 : K.lookup f3 = some ⟨oc3, od3, .func (PySem.W.fnOf "_law_number" "_law_number" (defArgs s__law_number) (defBody s__law_number) (defScope s__law_number) .none kV3 dc3 pm3 an3 cd3 ct3), sl3⟩) (c3 : PySem.W.codeIn K cd3 "_law_number" = true) (k3 : PySem.W.keepIn K (.ref f3) = true)
    (a4 : PySem.W.nsIn K mainGlobals "is_whole" = some (some (.ref f4))) (l4 : K.lookup f4 = some ⟨oc4, od4, .func (PySem.W.fnOf "is_whole" "is_whole" (defArgs s_is_whole) (defBody s_is_whole) (defScope s_is_whole) .none kV4 dc4 pm4 an4 cd4 ct4), sl4⟩) (c4 : PySem.W.codeIn K cd4 "is_whole" = true) (k4 : PySem.W.keepIn K (.ref f4) = true)
    (a5 : PySem.W.nsIn K mainGlobals "contrary" = some (some (.ref f5))) (l5 : K.lookup f5 = some ⟨oc5, od5, .func (PySem.W.fnOf "contrary" "contrary" (defArgs s_contrary) (defBody s_contrary) (defScope s_contrary) .none kV5 dc5 pm5 an5 cd5 ct5), sl5⟩) (c5 : PySem.W.codeIn K cd5 "contrary" = true) (k5 : PySem.W.keepIn K (.ref f5) = true)
    (a6 : PySem.W.nsIn K mainGlobals "_takes" = some (some (.ref f6))) (l6 : K.lookup f6 = some ⟨oc6, od6, .func (PySem.W.fnOf "_takes" "_takes" (defArgs s__takes) (defBody s__takes) (defScope s__takes) .none kV6 dc6 pm6 an6 cd6 ct6), sl6⟩) (c6 : PySem.W.codeIn K cd6 "_takes" = true) (k6 : PySem.W.keepIn K (.ref f6) = true)
    (a7 : PySem.W.nsIn K mainGlobals "_outcome" = some (some (.ref f7))) (l7 : K.lookup f7 = some ⟨oc7, od7, .func (PySem.W.fnOf "_outcome" "_outcome" (defArgs s__outcome) (defBody s__outcome) (defScope s__outcome) .none kV7 dc7 pm7 an7 cd7 ct7), sl7⟩) (c7 : PySem.W.codeIn K cd7 "_outcome" = true) (k7 : PySem.W.keepIn K (.ref f7) = true)
    (a8 : PySem.W.nsIn K mainGlobals "is_within" = some (some (.ref f8))) (l8 : K.lookup f8 = some ⟨oc8, od8, .func (PySem.W.fnOf "is_within" "is_within" (defArgs s_is_within) (defBody s_is_within) (defScope s_is_within) .none kV8 dc8 pm8 an8 cd8 ct8), sl8⟩) (c8 : PySem.W.codeIn K cd8 "is_within" = true) (k8 : PySem.W.keepIn K (.ref f8) = true)
    (a9 : PySem.W.nsIn K mainGlobals "is_value" = some (some (.ref f9))) (l9 : K.lookup f9 = some ⟨oc9, od9, .func (PySem.W.fnOf "is_value" "is_value" (defArgs s_is_value) (defBody s_is_value) (defScope s_is_value) .none kV9 dc9 pm9 an9 cd9 ct9), sl9⟩) (c9 : PySem.W.codeIn K cd9 "is_value" = true) (k9 : PySem.W.keepIn K (.ref f9) = true)
    (a10 : PySem.W.nsIn K mainGlobals "reckoned" = some (some (.ref f10))) (l10 : K.lookup f10 = some ⟨oc10, od10, .func (PySem.W.fnOf "reckoned" "reckoned" (defArgs s_reckoned) (defBody s_reckoned) (defScope s_reckoned) .none kV10 dc10 pm10 an10 cd10 ct10), sl10⟩) (c10 : PySem.W.codeIn K cd10 "reckoned" = true) (k10 : PySem.W.keepIn K (.ref f10) = true)
    (a11 : PySem.W.nsIn K mainGlobals "_law_same" = some (some (.ref f11))) (l11 : K.lookup f11 = some ⟨oc11, od11, .func (PySem.W.fnOf "_law_same" "_law_same" (defArgs s__law_same) (defBody s__law_same) (defScope s__law_same) .none kV11 dc11 pm11 an11 cd11 ct11), sl11⟩) (c11 : PySem.W.codeIn K cd11 "_law_same" = true) (k11 : PySem.W.keepIn K (.ref f11) = true)
    (a12 : PySem.W.nsIn K mainGlobals "_law_truths_right" = some (some (.ref f12))) (l12 : K.lookup f12 = some ⟨oc12, od12, .func (PySem.W.fnOf "_law_truths_right" "_law_truths_right" (defArgs s__law_truths_right) (defBody s__law_truths_right) (defScope s__law_truths_right) .none kV12 dc12 pm12 an12 cd12 ct12), sl12⟩) (c12 : PySem.W.codeIn K cd12 "_law_truths_right" = true) (k12 : PySem.W.keepIn K (.ref f12) = true)
    (a13 : PySem.W.nsIn K mainGlobals "_law_compared" = some (some (.ref f13))) (l13 : K.lookup f13 = some ⟨oc13, od13, .func (PySem.W.fnOf "_law_compared" "_law_compared" (defArgs s__law_compared) (defBody s__law_compared) (defScope s__law_compared) .none kV13 dc13 pm13 an13 cd13 ct13), sl13⟩) (c13 : PySem.W.codeIn K cd13 "_law_compared" = true) (k13 : PySem.W.keepIn K (.ref f13) = true)
    (a14 : PySem.W.nsIn K mainGlobals "_law_sums_right" = some (some (.ref f14))) (l14 : K.lookup f14 = some ⟨oc14, od14, .func (PySem.W.fnOf "_law_sums_right" "_law_sums_right" (defArgs s__law_sums_right) (defBody s__law_sums_right) (defScope s__law_sums_right) .none kV14 dc14 pm14 an14 cd14 ct14), sl14⟩) (c14 : PySem.W.codeIn K cd14 "_law_sums_right" = true) (k14 : PySem.W.keepIn K (.ref f14) = true)
    (a15 : PySem.W.nsIn K mainGlobals "law" = some (some (.ref f15))) (l15 : K.lookup f15 = some ⟨oc15, od15, .func (PySem.W.fnOf "law" "law" (defArgs s_law) (defBody s_law) (defScope s_law) .none kV15 dc15 pm15 an15 cd15 ct15), sl15⟩) (c15 : PySem.W.codeIn K cd15 "law" = true) (k15 : PySem.W.keepIn K (.ref f15) = true)
    (z_max : PySem.W.nsIn K mainGlobals "max" = some none)
    (z_int : PySem.W.nsIn K mainGlobals "int" = some none)
    (z_len : PySem.W.nsIn K mainGlobals "len" = some none)
    (z_isinstance : PySem.W.nsIn K mainGlobals "isinstance" = some none)
    (z_bool : PySem.W.nsIn K mainGlobals "bool" = some none)
    (z_abs : PySem.W.nsIn K mainGlobals "abs" = some none)
    (z_range : PySem.W.nsIn K mainGlobals "range" = some none)
    (z_min : PySem.W.nsIn K mainGlobals "min" = some none)
    {tk__GREATEST : Tok} (g__GREATEST : PySem.W.nsIn K mainGlobals "_GREATEST" = some (some (.int 1000000000 tk__GREATEST)))
    : ∃ fd : FuncData, (∀ (s : Shared) (v : Value), BindsTo s fd ⟨[v], []⟩ [("script", v)]) ∧ ∀ base : Heap, K.In base → base.Ns mainGlobals mg → FnOk l.prog w K mg base L2.CX0 6 fa fd ["script"] (sp0 K W_law) := by
  have e := hfa.symm.trans (PySem.W.mg_of X G a15)
  cases e
  have F0 := L2.fun_mk (st := s__law_box) l0 c0 k0
  have b0 := F0.binds (ps := ["cell"]) fun _ _ _ _ _ _ us hl => match us, hl with | [_], _ => rfl
  have F1 := L2.fun_mk (st := s__law_cell_at) l1 c1 k1
  have b1 := F1.binds (ps := ["script", "k"]) fun _ _ _ _ _ _ us hl => match us, hl with | [_, _], _ => rfl
  have F2 := L2.fun_mk (st := s__law_take) l2 c2 k2
  have b2 := F2.binds (ps := ["box", "many"]) fun _ _ _ _ _ _ us hl => match us, hl with | [_, _], _ => rfl
  have F3 := L2.fun_mk (st := s__law_number) l3 c3 k3
  have b3 := F3.binds (ps := ["box"]) fun _ _ _ _ _ _ us hl => match us, hl with | [_], _ => rfl
  have F4 := L2.fun_mk (st := s_is_whole) l4 c4 k4
  have b4 := F4.binds (ps := ["thing"]) fun _ _ _ _ _ _ us hl => match us, hl with | [_], _ => rfl
  have F5 := L2.fun_mk (st := s_contrary) l5 c5 k5
  have b5 := F5.binds (ps := ["one"]) fun _ _ _ _ _ _ us hl => match us, hl with | [_], _ => rfl
  have F6 := L2.fun_mk (st := s__takes) l6 c6 k6
  have b6 := F6.binds (ps := ["op", "one", "other"]) fun _ _ _ _ _ _ us hl => match us, hl with | [_, _, _], _ => rfl
  have F7 := L2.fun_mk (st := s__outcome) l7 c7 k7
  have b7 := F7.binds (ps := ["op", "one", "other"]) fun _ _ _ _ _ _ us hl => match us, hl with | [_, _, _], _ => rfl
  have F8 := L2.fun_mk (st := s_is_within) l8 c8 k8
  have b8 := F8.binds (ps := ["thing", "low", "high"]) fun _ _ _ _ _ _ us hl => match us, hl with | [_, _, _], _ => rfl
  have F9 := L2.fun_mk (st := s_is_value) l9 c9 k9
  have b9 := F9.binds (ps := ["thing"]) fun _ _ _ _ _ _ us hl => match us, hl with | [_], _ => rfl
  have F10 := L2.fun_mk (st := s_reckoned) l10 c10 k10
  have b10 := F10.binds (ps := ["op", "one", "other"]) fun _ _ _ _ _ _ us hl => match us, hl with | [_, _, _], _ => rfl
  have F11 := L2.fun_mk (st := s__law_same) l11 c11 k11
  have b11 := F11.binds (ps := ["one", "other"]) fun _ _ _ _ _ _ us hl => match us, hl with | [_, _], _ => rfl
  have F12 := L2.fun_mk (st := s__law_truths_right) l12 c12 k12
  have b12 := F12.binds (ps := ["one", "other"]) fun _ _ _ _ _ _ us hl => match us, hl with | [_, _], _ => rfl
  have F13 := L2.fun_mk (st := s__law_compared) l13 c13 k13
  have b13 := F13.binds (ps := ["one", "other"]) fun _ _ _ _ _ _ us hl => match us, hl with | [_, _], _ => rfl
  have F14 := L2.fun_mk (st := s__law_sums_right) l14 c14 k14
  have b14 := F14.binds (ps := ["one", "other"]) fun _ _ _ _ _ _ us hl => match us, hl with | [_, _], _ => rfl
  have F15 := L2.fun_mk (st := s_law) l15 c15 k15
  have m_max := PySem.W.mg_none_of X G z_max
  have m_int := PySem.W.mg_none_of X G z_int
  have m_len := PySem.W.mg_none_of X G z_len
  have m_isinstance := PySem.W.mg_none_of X G z_isinstance
  have m_bool := PySem.W.mg_none_of X G z_bool
  have m_abs := PySem.W.mg_none_of X G z_abs
  have m_range := PySem.W.mg_none_of X G z_range
  have m_min := PySem.W.mg_none_of X G z_min
  have k__GREATEST : Kon K mg "_GREATEST" (.int 1000000000) := ⟨_, .int 1000000000, PySem.W.mg_of X G g__GREATEST, ⟨_, rfl⟩, fun _ => .int _⟩
  refine ⟨PySem.W.fnOf "law" "law" (defArgs s_law) (defBody s_law) (defScope s_law) .none kV15 dc15 pm15 an15 cd15 ct15, fun s v => .of_eq rfl, fun base _ _ => ?_⟩
  have c__law_box : Callee l.prog w K mg base 1 "_law_box" (sp0 K W__law_box) := ⟨f0, _, _, ok__law_box F0 m_max m_int, PySem.W.mg_of X G a0, k0, b0⟩
  have c__law_cell_at : Callee l.prog w K mg base 1 "_law_cell_at" (sp0 K W__law_cell_at) := ⟨f1, _, _, ok__law_cell_at F1 m_len, PySem.W.mg_of X G a1, k1, b1⟩
  have c__law_take : Callee l.prog w K mg base 1 "_law_take" (sp1 K W__law_take) := ⟨f2, _, _, ok__law_take F2 , PySem.W.mg_of X G a2, k2, b2⟩
  have c__law_number : Callee l.prog w K mg base 2 "_law_number" (sp1 K W__law_number) := ⟨f3, _, _, ok__law_number F3 c__law_take, PySem.W.mg_of X G a3, k3, b3⟩
  have c_is_whole : Callee l.prog w K mg base 1 "is_whole" (sp0 K W_is_whole) := ⟨f4, _, _, ok_is_whole F4 m_isinstance m_bool m_int, PySem.W.mg_of X G a4, k4, b4⟩
  have c_contrary : Callee l.prog w K mg base 2 "contrary" (sp0 K W_contrary) := ⟨f5, _, _, ok_contrary F5 c_is_whole, PySem.W.mg_of X G a5, k5, b5⟩
  have c__takes : Callee l.prog w K mg base 2 "_takes" (sp0 K W__takes) := ⟨f6, _, _, ok__takes F6 c_is_whole, PySem.W.mg_of X G a6, k6, b6⟩
  have c__outcome : Callee l.prog w K mg base 1 "_outcome" (sp0 K W__outcome) := ⟨f7, _, _, ok__outcome F7 , PySem.W.mg_of X G a7, k7, b7⟩
  have c_is_within : Callee l.prog w K mg base 2 "is_within" (sp0 K W_is_within) := ⟨f8, _, _, ok_is_within F8 c_is_whole, PySem.W.mg_of X G a8, k8, b8⟩
  have c_is_value : Callee l.prog w K mg base 3 "is_value" (sp0 K W_is_value) := ⟨f9, _, _, ok_is_value F9 c_is_within m_isinstance m_bool k__GREATEST, PySem.W.mg_of X G a9, k9, b9⟩
  have c_reckoned : Callee l.prog w K mg base 4 "reckoned" (sp0 K W_reckoned) := ⟨f10, _, _, ok_reckoned F10 c__takes c__outcome c_is_value, PySem.W.mg_of X G a10, k10, b10⟩
  have c__law_same : Callee l.prog w K mg base 1 "_law_same" (sp0 K W__law_same) := ⟨f11, _, _, ok__law_same F11 m_isinstance m_bool, PySem.W.mg_of X G a11, k11, b11⟩
  have c__law_truths_right : Callee l.prog w K mg base 5 "_law_truths_right" (sp0 K W__law_truths_right) := ⟨f12, _, _, ok__law_truths_right F12 c_contrary c_reckoned c__law_same m_isinstance m_bool, PySem.W.mg_of X G a12, k12, b12⟩
  have c__law_compared : Callee l.prog w K mg base 5 "_law_compared" (sp0 K W__law_compared) := ⟨f13, _, _, ok__law_compared F13 c_reckoned m_isinstance m_bool, PySem.W.mg_of X G a13, k13, b13⟩
  have c__law_sums_right : Callee l.prog w K mg base 5 "_law_sums_right" (sp0 K W__law_sums_right) := ⟨f14, _, _, ok__law_sums_right F14 c_reckoned c__law_same m_abs, PySem.W.mg_of X G a14, k14, b14⟩
  exact ok_law F15 c__law_box c__law_cell_at c__law_number c__law_take c__law_truths_right c__law_compared c__law_sums_right c_reckoned c_contrary m_range m_max m_min m_len
end K14
open PySem PySem.W PyProof.Rows
set_option maxRecDepth 100000 in
set_option maxHeartbeats 0 in
theorem PySem.Challenge.cw_beatrows_k14_sums_undone_holds : PySem.Challenge.rw_beatrows_k14_sums_undone.Holds := by
  w_on; o_law; k_head; (case hw => w_witness2)
  k_fill
  refine L2.walk_ofK (l := PySem.Challenge.rw_beatrows_k14_sums_undone) (n := 63) (k := 6) (x := "script") (CX := L2.CX0) (sp := fun K => DL.sp0 K K14.W_law) rfl (by decide) rfl ⟨rfl, by decide, by decide⟩ (fun w h Y => PySem.W.kIn_of Y) ?F (fun K H a ns hl ho hS => DL.law_sp K H a ns hl ho hS) (fun _ _ _ _ h => h)
  case F =>
    intro w mg fa h KX G hmg
    refine' K14.all_mk KX G hmg ?a0 ?l0 ?c0 ?k0 ?a1 ?l1 ?c1 ?k1 ?a2 ?l2 ?c2 ?k2 ?a3 ?l3 ?c3 ?k3 ?a4 ?l4 ?c4 ?k4 ?a5 ?l5 ?c5 ?k5 ?a6 ?l6 ?c6 ?k6 ?a7 ?l7 ?c7 ?k7 ?a8 ?l8 ?c8 ?k8 ?a9 ?l9 ?c9 ?k9 ?a10 ?l10 ?c10 ?k10 ?a11 ?l11 ?c11 ?k11 ?a12 ?l12 ?c12 ?k12 ?a13 ?l13 ?c13 ?k13 ?a14 ?l14 ?c14 ?k14 ?a15 ?l15 ?c15 ?k15 ?z_max ?z_int ?z_len ?z_isinstance ?z_bool ?z_abs ?z_range ?z_min ?g__GREATEST
    (case a0 => k_is)
    (case l0 => k_is)
    (case c0 => k_is)
    (case k0 => k_is)
    (case a1 => k_is)
    (case l1 => k_is)
    (case c1 => k_is)
    (case k1 => k_is)
    (case a2 => k_is)
    (case l2 => k_is)
    (case c2 => k_is)
    (case k2 => k_is)
    (case a3 => k_is)
    (case l3 => k_is)
    (case c3 => k_is)
    (case k3 => k_is)
    (case a4 => k_is)
    (case l4 => k_is)
    (case c4 => k_is)
    (case k4 => k_is)
    (case a5 => k_is)
    (case l5 => k_is)
    (case c5 => k_is)
    (case k5 => k_is)
    (case a6 => k_is)
    (case l6 => k_is)
    (case c6 => k_is)
    (case k6 => k_is)
    (case a7 => k_is)
    (case l7 => k_is)
    (case c7 => k_is)
    (case k7 => k_is)
    (case a8 => k_is)
    (case l8 => k_is)
    (case c8 => k_is)
    (case k8 => k_is)
    (case a9 => k_is)
    (case l9 => k_is)
    (case c9 => k_is)
    (case k9 => k_is)
    (case a10 => k_is)
    (case l10 => k_is)
    (case c10 => k_is)
    (case k10 => k_is)
    (case a11 => k_is)
    (case l11 => k_is)
    (case c11 => k_is)
    (case k11 => k_is)
    (case a12 => k_is)
    (case l12 => k_is)
    (case c12 => k_is)
    (case k12 => k_is)
    (case a13 => k_is)
    (case l13 => k_is)
    (case c13 => k_is)
    (case k13 => k_is)
    (case a14 => k_is)
    (case l14 => k_is)
    (case c14 => k_is)
    (case k14 => k_is)
    (case a15 => k_is)
    (case l15 => k_is)
    (case c15 => k_is)
    (case k15 => k_is)
    (case z_max => k_is)
    (case z_int => k_is)
    (case z_len => k_is)
    (case z_isinstance => k_is)
    (case z_bool => k_is)
    (case z_abs => k_is)
    (case z_range => k_is)
    (case z_min => k_is)
    (case g__GREATEST => k_is)
