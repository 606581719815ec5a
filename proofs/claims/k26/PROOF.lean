import PyProof.Rows.All
import HandS.ForMost
import HandS.ForExc
import HandS.Head0
import HandS.Head1
import HandS.Head2
import HandS.HeadEnd
import HandS.HeadHook1
import HandS.HeadHook2
import HandS.HeadNt
import Wide.All
import OpenK.AllK
import Wide.FinOn
import HandS.IsInst
import HandS.Evl
import HandS.NestedHot
import HandS.TupLe
import HandS.SetFor
import HandS.Walk
import HandS.Text
import HandS.Style
import HandS.Deep
import HandS.StrMore
import HandS.More
import HandS.DictComp
import PyProof.ReprRoads
import PyProof.ReprBulk
import HandS.Flt
import HandS.ExcInit
import HandS.ExcField
import HandS.ExcOwn
import HandS.WordsExc
import HandS.ForDict
import HandS.ListItems
import KE.KExcIs
import KE.KEqNest
import PyProof.NeKinds
import HandS.FStr
import KE.GoesComp
import KE.KAsSuite
import HandS.RaiseMore
import HandS.Dict
import HandS.WordsDict
import HandS.NestedK
import HandS.EndTab
import HandS.ExcValue
import HandS.Replace
import HandS.Wide
import PySem.Challenge.RW_beatrows_k26_whole_terms_alike
set_option Elab.async false
set_option linter.all false
set_option autoImplicit false
set_option maxRecDepth 100000
set_option maxHeartbeats 4000000
namespace DL
open PySem PySem.Spec PyProof.Rows L2
/-! ### texts laid at the top -/
def strsB : List Value → List Str → Bool
  | [], [] => true
  | .str y _ :: r, x :: l => decide (y = x) && strsB r l
  | _, _ => false
def konI (K : PySem.W.Frag) (x : Str) (i : Int) : Bool := match PySem.W.nsIn K mainGlobals x with
  | some (some (.int j _)) => decide (j = i)
  | _ => false
def konS (K : PySem.W.Frag) (x z : Str) : Bool := match PySem.W.nsIn K mainGlobals x with
  | some (some (.str y _)) => decide (y = z)
  | _ => false
def konT (K : PySem.W.Frag) (x : Str) (l : List Str) : Bool := decide (PySem.W.nsIn K mainGlobals x = some (some (.ref (He.ga K x)))) && match K.lookup (He.ga K x) with
  | some ⟨.type t, _, .seq its _, _⟩ => decide (t = "tuple") && strsB its.toList l
  | _ => false
def slotB : List (Option Value) → Bool
  | [_, _, _, _, some (.builtin n), _] => decide (n = "ValueError.__new__")
  | _ => false
def mroB (C : Addr) : List Value → Bool
  | .ref C' :: bm => decide (C' = C) && PySem.HandSPX.refsVE bm
  | _ => false
def oexB (K : PySem.W.Frag) (C : Addr) : Bool := match K.lookup C with
  | some ⟨.type t, _, .cls cd, sl⟩ => decide (t = "type") && (mroB C cd.mro && (cd.hasDict && (!cd.hasDel && slotB sl.toList)))
  | _ => false
theorem oexB_ok {K : PySem.W.Frag} {C : Addr} (c : oexB K C = true) : ∃ nm q N bs bm sn sub ab col dd k0 k1 k2 k3 k5, K.lookup C = some (excClassObj nm q C N bs bm true sn sub ab col dd k0 k1 k2 k3 k5 "ValueError.__new__") ∧ PySem.HandSPX.refsVE bm = true := by
  unfold oexB at c
  cases e : K.lookup C with
  | none => rw [e] at c; cases c
  | some o =>
    rw [e] at c
    obtain ⟨cls, dd, data, ⟨sl⟩⟩ := o
    cases cls with
    | type t =>
      cases data with
      | cls cd =>
        obtain ⟨h1, h2⟩ := He.ba c
        obtain ⟨h2, h3⟩ := He.ba h2
        obtain ⟨h3, h4⟩ := He.ba h3
        obtain ⟨h4, h5⟩ := He.ba h4
        have et : t = "type" := of_decide_eq_true h1
        subst et
        obtain ⟨nm, bs, mro, ns, q, hd, sn, sub, ab, col, hdl⟩ := cd
        have h3' : hd = true := h3
        have h4' : hdl = false := by
          have z : (!hdl) = true := h4
          cases hdl with
          | true => cases z
          | false => rfl
        subst h3' h4'
        have h2' : mroB C mro = true := h2
        have h5' : slotB sl = true := h5
        match mro, h2' with
        | .ref C' :: bm, h2' =>
          obtain ⟨q1, q2⟩ := He.ba h2'
          have ec : C' = C := of_decide_eq_true q1
          subst ec
          match sl, h5' with
          | [k0, k1, k2, k3, some (.builtin n), k5], h5' =>
            have en : n = "ValueError.__new__" := of_decide_eq_true h5'
            subst en
            exact ⟨nm, q, ns, bs, bm, sn, sub, ab, col, dd, k0, k1, k2, k3, k5, rfl, q2⟩
      | _ => cases c
    | _ => cases c
def clsAt (K : PySem.W.Frag) (a b : Value) (m : Str) (v : Value) : Bool := match PySem.W.findCls K a b m with
  | some (.val u) => decide (u = v)
  | _ => false
theorem clsAt_ok {K : PySem.W.Frag} {a b : Value} {m : Str} {v : Value} (c : clsAt K a b m v = true) : PySem.W.findCls K a b m = some (.val v) := by
  unfold clsAt at c
  cases e : PySem.W.findCls K a b m with
  | none => rw [e] at c; cases c
  | some u =>
    rw [e] at c
    cases u with
    | val w =>
      have z : w = v := of_decide_eq_true c
      rw [z]
    | _ => cases c
/-! ### the head by kernel runs, addresses written out -/
def hookA {α : Type} (as : List Addr) (ob : PySem.W.Frag → α) (v : α) : PySem.W.Hook where
  α := α
  obs := fun s => ob (He.frG s.heap.get? as)
  val := fun _ => v
  says := fun _ h => ∃ K : PySem.W.Frag, K.In h ∧ ob K = v
  of := fun _ _ e => ⟨_, He.frG_in, e⟩
  keeps := fun _ _ _ ⟨K, hK, c⟩ k => ⟨K, PySem.W.Frag.In.keeps hK k, c⟩
theorem hookA_eq {α : Type} {as : List Addr} {ob : PySem.W.Frag → α} {v : α} {g : Addr → Option Obj} {s : Shared} (h : ∀ a, g a = s.heap.get? a) : ob (He.frG g as) = (hookA as ob v).obs s := by
  have e : g = s.heap.get? := funext h
  rw [e] <;> rfl
/-! .. with a table of codes that is empty -/
def tabE : Option Obj → Bool
  | some ⟨.none, none, .fields ps, sl⟩ => ps.isEmpty && sl.isEmpty
  | _ => false
theorem tabE_ok {o : Option Obj} (h : tabE o = true) : o = some { cls := .none, data := .fields #[] } := by
  unfold tabE at h
  split at h
  · rename_i ps sl
    rw [Bool.and_eq_true] at h
    rw [Array.isEmpty_iff.mp h.1, Array.isEmpty_iff.mp h.2]
  · cases h
theorem frG_none {g : Addr → Option Obj} {b : Addr} : ∀ {as : List Addr}, b ∉ as → (He.frG g as).lookup b = none
  | [], _ => rfl
  | c :: r, n => by
    have ih := frG_none (g := g) (as := r) fun z => n (.tail _ z)
    have nb : (b == c) = false := beq_eq_false_iff_ne.mpr fun z => n (z ▸ .head _)
    unfold He.frG at ih ⊢
    rw [List.filterMap_cons]
    cases hb : g c with
    | none => exact ih
    | some u =>
      show List.lookup b ((c, u) :: _) = none
      rw [List.lookup, nb]
      exact ih
def hookT {α β : Type} (as : List Addr) (tb : Addr) (no : tb ∉ as) (oA : PySem.W.Frag → α) (oB : PySem.W.Frag → β) (vA : α) (vB : β) : PySem.W.Hook where
  α := α × (β × Bool)
  obs := fun s => (oA (He.frG s.heap.get? as), (oB (He.frG s.heap.get? as), tabE (s.heap.get? tb)))
  val := fun _ => (vA, (vB, true))
  says := fun _ h => ∃ K : PySem.W.Frag, K.In h ∧ (oA K, oB K) = (vA, vB) ∧ K.lookup tb = none ∧ h.get? tb = some { cls := .none, data := .fields #[] }
  of := fun _ s e => by
    simp only [Prod.mk.injEq] at e
    obtain ⟨e1, e2, e3⟩ := e
    exact ⟨He.frG s.heap.get? as, He.frG_in, by rw [e1, e2], frG_none no, tabE_ok e3⟩
  keeps := fun _ _ _ ⟨K, hK, c, n, t⟩ k => ⟨K, PySem.W.Frag.In.keeps hK k, c, n, k _ _ t⟩
theorem hookT_eq {α β : Type} {as : List Addr} {tb : Addr} {no : tb ∉ as} {oA : PySem.W.Frag → α} {oB : PySem.W.Frag → β} {vA : α} {vB : β} {g : Addr → Option Obj} {s : Shared} (h : ∀ a, g a = s.heap.get? a) : (oA (He.frG g as), (oB (He.frG g as), tabE (g tb))) = (hookT as tb no oA oB vA vB).obs s := by
  have e : g = s.heap.get? := funext h
  rw [e] <;> rfl
/-- two looks behind one top, each by a run of its own -/
theorem run_pair {S A B C D : Type} {x : Option S} {f : S → A} {g : S → B} {o1 : S → C} {o2 : S → D} {a : A} {b : B} {v1 : C} {v2 : D}
    (h1 : x.map (fun s => (f s, g s, o1 s)) = some (a, b, v1)) (h2 : x.map o2 = some v2) : x.map (fun s => (f s, g s, (o1 s, o2 s))) = some (a, b, (v1, v2)) := by
  cases x with
  | none => cases h1
  | some s =>
    have e1 := Option.some.inj h1
    have e2 := Option.some.inj h2
    simp only [Prod.mk.injEq] at e1
    obtain ⟨q1, q2, q3⟩ := e1
    show some (f s, g s, (o1 s, o2 s)) = _
    rw [q1, q2, q3, e2]
/-- a def at its address -/
def fnA (K : PySem.W.Frag) (f : Addr) : He.FnW := match K.lookup f with
  | some ⟨_, _, .func fd, _⟩ => some (fd.name, fd.qualname, fd.params, fd.body, fd.scope, fd.globals, fd.closure, fd.builtins)
  | _ => none
def fnV (x q : Str) (st : Stmt) : He.FnW := some (x, q, defArgs st, .stmts (defBody st), defScope st, mainGlobals, [], builtinsNs)
def fnB (K : PySem.W.Frag) (f : Addr) (q : Str) : Bool := match K.lookup f with
  | some ⟨_, _, .func fd, _⟩ => (match fd.defaults with
    | .none => PySem.W.codeIn K fd.code q
    | _ => false)
  | _ => false
theorem fn_of {K : PySem.W.Frag} {f : Addr} {x q : Str} {st : Stmt} (e : fnA K f = fnV x q st) (c : fnB K f q = true) : ∃ fd, L2.Fun K x q st f fd := by
  unfold fnA at e
  unfold fnB at c
  cases z : K.lookup f with
  | none =>
    rw [z] at c
    cases c
  | some o =>
    obtain ⟨oc, od, dt, osl⟩ := o
    rw [z] at c e
    cases dt with
    | func fd =>
      obtain ⟨n1, n2, n3, n4, n5, n6, n7, n8, n9, n10, n11, n12, n13, n14, n15⟩ := fd
      have e2 : (some (n1, n2, n3, n4, n5, n6, n7, n15) : He.FnW) = some (x, q, defArgs st, .stmts (defBody st), defScope st, mainGlobals, [], builtinsNs) := e
      simp only [Option.some.injEq, Prod.mk.injEq] at e2
      obtain ⟨h1, h2, h3, h4, h5, h6, h7, h8⟩ := e2
      subst h1 h2 h3 h4 h5 h6 h7 h8
      cases n8 with
      | none =>
        have c3 : PySem.W.codeIn K n13 n2 = true := c
        exact ⟨_, ⟨oc, od, n9, n10, n11, n12, n13, n14, osl, rfl, z, c3⟩, by
          show (match K.lookup f with
            | some ⟨_, _, .func _, _⟩ => true
            | some ⟨_, _, .cls _, _⟩ => PySem.W.specialIn K (.ref f) "__call__" == some (some (.builtin "type.__call__"))
            | _ => false) = true
          rw [z]⟩
      | _ => cases c
    | _ => cases c
/-- the results of looks, laid side by side -/
abbrev ObT : Type := List (Option (Option Value)) × List Bool × List (Option Bool) × List (Option Value) × List He.FnW
theorem ob_get {α : Type} {l m : List α} (e : l = m) (i : Nat) {x y : α} (h1 : l[i]? = some x) (h2 : m[i]? = some y) : x = y := by
  rw [e] at h1
  exact Option.some.inj (h1.symm.trans h2)
theorem bs_get {l : List Bool} {n : Nat} (e : l = List.replicate n true) (i : Nat) {x : Bool} (h1 : l[i]? = some x) : x = true := by
  rw [e] at h1
  exact (List.mem_replicate.mp (List.mem_of_getElem? h1)).2
/-- the code object of the def at f -/
def cdAt (K : PySem.W.Frag) (f c : Addr) : Bool := match K.lookup f with
  | some ⟨_, _, .func fd, _⟩ => decide (fd.code = .ref c)
  | _ => false
end DL
namespace K26
open PySem L2 DL
def top (i : Nat) : Stmt := PySem.Challenge.pw_beatrows_k26_whole_terms_alike.main.body.getD i (.Pass ⟨0, 0, 0, 0⟩)
abbrev s_is_whole : Stmt := top 14
abbrev s_is_within : Stmt := top 15
abbrev s_is_name : Stmt := top 16
abbrev s_is_pointed : Stmt := top 17
abbrev s_is_value : Stmt := top 18
abbrev s_value_text : Stmt := top 19
abbrev s__is_number_text : Stmt := top 21
abbrev s_value_of : Stmt := top 20
abbrev s_name_for : Stmt := top 23
abbrev s_ops_told : Stmt := top 26
abbrev s__takes : Stmt := top 29
abbrev s__outcome : Stmt := top 30
abbrev s_reckoned : Stmt := top 27
abbrev s_contrary : Stmt := top 28
abbrev s_Name_told : Stmt := inClass (top 34) 5
abbrev s_Value_told : Stmt := inClass (top 35) 5
abbrev s_Two_told : Stmt := inClass (top 36) 5
abbrev s_Not_told : Stmt := inClass (top 37) 5
abbrev s_Pick_told : Stmt := inClass (top 38) 5
abbrev s_Name_levels : Stmt := inClass (top 34) 2
abbrev s_Value_levels : Stmt := inClass (top 35) 2
abbrev s_Two_levels : Stmt := inClass (top 36) 2
abbrev s_Not_levels : Stmt := inClass (top 37) 2
abbrev s_Pick_levels : Stmt := inClass (top 38) 2
abbrev s_Name_words : Stmt := inClass (top 34) 6
abbrev s_Value_words : Stmt := inClass (top 35) 6
abbrev s_Two_words : Stmt := inClass (top 36) 6
abbrev s_Not_words : Stmt := inClass (top 37) 6
abbrev s_Pick_words : Stmt := inClass (top 38) 6
abbrev s__inner : Stmt := top 40
abbrev s_Name_init : Stmt := inClass (top 34) 0
abbrev s_Value_init : Stmt := inClass (top 35) 0
abbrev s_Two_init : Stmt := inClass (top 36) 0
abbrev s_Not_init : Stmt := inClass (top 37) 0
abbrev s_Pick_init : Stmt := inClass (top 38) 0
abbrev s__made_of : Stmt := top 41
abbrev s_term_of : Stmt := top 39
abbrev s_Name_renamed : Stmt := inClass (top 34) 4
abbrev s_Value_renamed : Stmt := inClass (top 35) 4
abbrev s_Two_renamed : Stmt := inClass (top 36) 4
abbrev s_Not_renamed : Stmt := inClass (top 37) 4
abbrev s_Pick_renamed : Stmt := inClass (top 38) 4
abbrev s_Name_reckoned_by : Stmt := inClass (top 34) 3
abbrev s_Value_reckoned_by : Stmt := inClass (top 35) 3
abbrev s_Two_reckoned_by : Stmt := inClass (top 36) 3
abbrev s_Not_reckoned_by : Stmt := inClass (top 37) 3
abbrev s_Pick_reckoned_by : Stmt := inClass (top 38) 3
abbrev s__word_at : Stmt := top 48
abbrev s__behind : Stmt := top 47
abbrev s__pick_at : Stmt := top 46
abbrev s__bracket_at : Stmt := top 45
abbrev s__term_at : Stmt := top 44
abbrev s_read_term : Stmt := top 43
abbrev s__law_cell_at : Stmt := top 50
abbrev s__law_box : Stmt := top 51
abbrev s__law_take : Stmt := top 52
abbrev s__law_value : Stmt := top 53
abbrev s__law_told : Stmt := top 54
abbrev s__law_made : Stmt := top 55
abbrev s__law_sum : Stmt := top 56
abbrev s__law_due : Stmt := top 57
abbrev s__law_all : Stmt := top 58
abbrev s__law_joined : Stmt := top 59
abbrev s__law_given : Stmt := top 60
abbrev s_law : Stmt := top 61
abbrev s_BeatError_init : Stmt := inClass (top 1) 0
abbrev s_NoName_init : Stmt := inClass (top 3) 0
abbrev s_NoText_init : Stmt := inClass (top 5) 0
def ol0 (K : PySem.W.Frag) : List (Option (Option Value)) := [PySem.W.nsIn K mainGlobals "Name",
  PySem.W.nsIn K mainGlobals "Value",
  PySem.W.nsIn K mainGlobals "Two",
  PySem.W.nsIn K mainGlobals "Not",
  PySem.W.nsIn K mainGlobals "Pick",
  PySem.W.nsIn K mainGlobals "Term",
  PySem.W.nsIn K mainGlobals "NoName",
  PySem.W.nsIn K mainGlobals "NoText",
  PySem.W.nsIn K mainGlobals "BeatError",
  PySem.W.nsIn K mainGlobals "is_whole",
  PySem.W.nsIn K mainGlobals "is_within",
  PySem.W.nsIn K mainGlobals "is_name",
  PySem.W.nsIn K mainGlobals "is_pointed",
  PySem.W.nsIn K mainGlobals "is_value",
  PySem.W.nsIn K mainGlobals "value_text",
  PySem.W.nsIn K mainGlobals "_is_number_text",
  PySem.W.nsIn K mainGlobals "value_of",
  PySem.W.nsIn K mainGlobals "name_for",
  PySem.W.nsIn K mainGlobals "ops_told",
  PySem.W.nsIn K mainGlobals "_takes",
  PySem.W.nsIn K mainGlobals "_outcome",
  PySem.W.nsIn K mainGlobals "reckoned",
  PySem.W.nsIn K mainGlobals "contrary",
  PySem.W.findIn K (.ref 324) "told",
  PySem.W.findIn K (.ref 385) "told",
  PySem.W.findIn K (.ref 446) "told",
  PySem.W.findIn K (.ref 507) "told",
  PySem.W.findIn K (.ref 568) "told",
  PySem.W.findIn K (.ref 324) "levels",
  PySem.W.findIn K (.ref 385) "levels"]
def ov0 : List (Option (Option Value)) := [some (some (.ref 324)), some (some (.ref 385)), some (some (.ref 446)), some (some (.ref 507)), some (some (.ref 568)), some (some (.ref 261)), some (some (.ref 70)), some (some (.ref 108)), some (some (.ref 31)), some (some (.ref 118)), some (some (.ref 125)), some (some (.ref 130)), some (some (.ref 135)), some (some (.ref 142)), some (some (.ref 149)), some (some (.ref 161)), some (some (.ref 156)), some (some (.ref 173)), some (some (.ref 181)), some (some (.ref 202)), some (some (.ref 209)), some (some (.ref 188)), some (some (.ref 195)), some (some (.ref 314)), some (some (.ref 375)), some (some (.ref 436)), some (some (.ref 497)), some (some (.ref 558)), some (some (.ref 293)), some (some (.ref 354))]
def ol1 (K : PySem.W.Frag) : List (Option (Option Value)) := [PySem.W.findIn K (.ref 446) "levels",
  PySem.W.findIn K (.ref 507) "levels",
  PySem.W.findIn K (.ref 568) "levels",
  PySem.W.findIn K (.ref 324) "words",
  PySem.W.findIn K (.ref 385) "words",
  PySem.W.findIn K (.ref 446) "words",
  PySem.W.findIn K (.ref 507) "words",
  PySem.W.findIn K (.ref 568) "words",
  PySem.W.nsIn K mainGlobals "_inner",
  PySem.W.findIn K (.ref 324) "__init__",
  PySem.W.findIn K (.ref 385) "__init__",
  PySem.W.findIn K (.ref 446) "__init__",
  PySem.W.findIn K (.ref 507) "__init__",
  PySem.W.findIn K (.ref 568) "__init__",
  PySem.W.nsIn K mainGlobals "_made_of",
  PySem.W.nsIn K mainGlobals "term_of",
  PySem.W.findIn K (.ref 324) "renamed",
  PySem.W.findIn K (.ref 385) "renamed",
  PySem.W.findIn K (.ref 446) "renamed",
  PySem.W.findIn K (.ref 507) "renamed",
  PySem.W.findIn K (.ref 568) "renamed",
  PySem.W.findIn K (.ref 324) "reckoned_by",
  PySem.W.findIn K (.ref 385) "reckoned_by",
  PySem.W.findIn K (.ref 446) "reckoned_by",
  PySem.W.findIn K (.ref 507) "reckoned_by",
  PySem.W.findIn K (.ref 568) "reckoned_by",
  PySem.W.nsIn K mainGlobals "_word_at",
  PySem.W.nsIn K mainGlobals "_behind",
  PySem.W.nsIn K mainGlobals "_pick_at",
  PySem.W.nsIn K mainGlobals "_bracket_at"]
def ov1 : List (Option (Option Value)) := [some (some (.ref 415)), some (some (.ref 476)), some (some (.ref 537)), some (some (.ref 321)), some (some (.ref 382)), some (some (.ref 443)), some (some (.ref 504)), some (some (.ref 565)), some (some (.ref 584)), some (some (.ref 279)), some (some (.ref 340)), some (some (.ref 401)), some (some (.ref 462)), some (some (.ref 523)), some (some (.ref 591)), some (some (.ref 577)), some (some (.ref 307)), some (some (.ref 368)), some (some (.ref 429)), some (some (.ref 490)), some (some (.ref 551)), some (some (.ref 300)), some (some (.ref 361)), some (some (.ref 422)), some (some (.ref 483)), some (some (.ref 544)), some (some (.ref 633)), some (some (.ref 626)), some (some (.ref 619)), some (some (.ref 612))]
def ol2 (K : PySem.W.Frag) : List (Option (Option Value)) := [PySem.W.nsIn K mainGlobals "_term_at",
  PySem.W.nsIn K mainGlobals "read_term",
  PySem.W.nsIn K mainGlobals "_law_cell_at",
  PySem.W.nsIn K mainGlobals "_law_box",
  PySem.W.nsIn K mainGlobals "_law_take",
  PySem.W.nsIn K mainGlobals "_law_value",
  PySem.W.nsIn K mainGlobals "_law_told",
  PySem.W.nsIn K mainGlobals "_law_made",
  PySem.W.nsIn K mainGlobals "_law_sum",
  PySem.W.nsIn K mainGlobals "_law_due",
  PySem.W.nsIn K mainGlobals "_law_all",
  PySem.W.nsIn K mainGlobals "_law_joined",
  PySem.W.nsIn K mainGlobals "_law_given",
  PySem.W.nsIn K mainGlobals "law",
  PySem.W.specialIn K (.ref 31) "__getattribute__",
  PySem.W.findIn K (.ref 70) "__init__",
  PySem.W.findIn K (.ref 70) "__setattr__",
  PySem.W.findIn K (.ref 70) "found",
  PySem.W.findIn K (.ref 70) "__getattribute__",
  PySem.W.findIn K (.ref 70) "__getattr__",
  PySem.W.findIn K (.ref 70) "__class__",
  PySem.W.findIn K (.ref 108) "__init__",
  PySem.W.findIn K (.ref 108) "__setattr__",
  PySem.W.findIn K (.ref 108) "at",
  PySem.W.findIn K (.ref 108) "__getattribute__",
  PySem.W.findIn K (.ref 108) "__getattr__",
  PySem.W.findIn K (.ref 108) "__class__",
  PySem.W.nsIn K mainGlobals "isinstance",
  PySem.W.nsIn K mainGlobals "bool",
  PySem.W.nsIn K mainGlobals "int"]
def ov2 : List (Option (Option Value)) := [some (some (.ref 605)), some (some (.ref 598)), some (some (.ref 640)), some (some (.ref 647)), some (some (.ref 654)), some (some (.ref 661)), some (some (.ref 666)), some (some (.ref 673)), some (some (.ref 678)), some (some (.ref 685)), some (some (.ref 692)), some (some (.ref 699)), some (some (.ref 706)), some (some (.ref 711)), some (some (.builtin "type.__getattribute__")), some (some (.ref 67)), some (some (.builtin "object.__setattr__")), some none, some (some (.builtin "BaseException.__getattribute__")), some none, some (some (.builtin "object.__class__")), some (some (.ref 105)), some (some (.builtin "object.__setattr__")), some none, some (some (.builtin "BaseException.__getattribute__")), some none, some (some (.builtin "object.__class__")), some none, some none, some none]
def ol3 (K : PySem.W.Frag) : List (Option (Option Value)) := [PySem.W.nsIn K mainGlobals "len",
  PySem.W.nsIn K mainGlobals "str",
  PySem.W.nsIn K mainGlobals "all",
  PySem.W.nsIn K mainGlobals "list",
  PySem.W.nsIn K mainGlobals "max",
  PySem.W.nsIn K mainGlobals "tuple",
  PySem.W.nsIn K mainGlobals "range",
  PySem.W.nsIn K mainGlobals "abs",
  PySem.W.nsIn K mainGlobals "min",
  PySem.W.nsIn K mainGlobals "repr",
  PySem.W.nsIn K mainGlobals "ValueError",
  PySem.W.findIn K (.ref 324) "__setattr__",
  PySem.W.findIn K (.ref 324) "__class__",
  PySem.W.findIn K (.ref 324) "_name",
  PySem.W.findIn K (.ref 385) "__setattr__",
  PySem.W.findIn K (.ref 385) "__class__",
  PySem.W.findIn K (.ref 385) "_value",
  PySem.W.findIn K (.ref 446) "__setattr__",
  PySem.W.findIn K (.ref 446) "__class__",
  PySem.W.findIn K (.ref 446) "_op",
  PySem.W.findIn K (.ref 446) "_one",
  PySem.W.findIn K (.ref 446) "_other",
  PySem.W.findIn K (.ref 507) "__setattr__",
  PySem.W.findIn K (.ref 507) "__class__",
  PySem.W.findIn K (.ref 507) "_one",
  PySem.W.findIn K (.ref 568) "__setattr__",
  PySem.W.findIn K (.ref 568) "__class__",
  PySem.W.findIn K (.ref 568) "_by",
  PySem.W.findIn K (.ref 568) "_one",
  PySem.W.findIn K (.ref 568) "_other"]
def ov3 : List (Option (Option Value)) := [some none, some none, some none, some none, some none, some none, some none, some none, some none, some none, some none, some (some (.builtin "object.__setattr__")), some (some (.builtin "object.__class__")), some none, some (some (.builtin "object.__setattr__")), some (some (.builtin "object.__class__")), some none, some (some (.builtin "object.__setattr__")), some (some (.builtin "object.__class__")), some none, some none, some none, some (some (.builtin "object.__setattr__")), some (some (.builtin "object.__class__")), some none, some (some (.builtin "object.__setattr__")), some (some (.builtin "object.__class__")), some none, some none, some none]
def ol4 (K : PySem.W.Frag) : List (Option (Option Value)) := [PySem.W.specialIn K (.builtin "object.__class__") "__get__"]
def ov4 : List (Option (Option Value)) := [some (some (.builtin "getset_descriptor.__get__"))]
def oL (K : PySem.W.Frag) : List (List (Option (Option Value))) := [ol0 K, ol1 K, ol2 K, ol3 K, ol4 K]
def oV : List (List (Option (Option Value))) := [ov0, ov1, ov2, ov3, ov4]
def bl0 (K : PySem.W.Frag) : List (Bool) := [PySem.W.isFn K (.ref 314),
  PySem.W.isFn K (.ref 375),
  PySem.W.isFn K (.ref 436),
  PySem.W.isFn K (.ref 497),
  PySem.W.isFn K (.ref 558),
  PySem.W.isFn K (.ref 293),
  PySem.W.isFn K (.ref 354),
  PySem.W.isFn K (.ref 415),
  PySem.W.isFn K (.ref 476),
  PySem.W.isFn K (.ref 537),
  PySem.W.isFn K (.ref 321),
  PySem.W.isFn K (.ref 382),
  PySem.W.isFn K (.ref 443),
  PySem.W.isFn K (.ref 504),
  PySem.W.isFn K (.ref 565),
  PySem.W.isFn K (.ref 279),
  PySem.W.isFn K (.ref 340),
  PySem.W.isFn K (.ref 401),
  PySem.W.isFn K (.ref 462),
  PySem.W.isFn K (.ref 523),
  PySem.W.isFn K (.ref 307),
  PySem.W.isFn K (.ref 368),
  PySem.W.isFn K (.ref 429),
  PySem.W.isFn K (.ref 490),
  PySem.W.isFn K (.ref 551),
  PySem.W.isFn K (.ref 300),
  PySem.W.isFn K (.ref 361),
  PySem.W.isFn K (.ref 422),
  PySem.W.isFn K (.ref 483),
  PySem.W.isFn K (.ref 544)]
def bv0 : List (Bool) := [true, true, true, true, true, true, true, true, true, true, true, true, true, true, true, true, true, true, true, true, true, true, true, true, true, true, true, true, true, true]
def bl1 (K : PySem.W.Frag) : List (Bool) := [PySem.W.readsIn K 31 (.type "type"),
  clsAt K (.ref 31) (.type "type") "__init__" (.ref 28),
  clsAt K (.type "ValueError") (.type "type") "__init__" (.builtin "ValueError.__init__"),
  oexB K 70,
  PySem.W.keepIn K (.ref 70),
  PySem.W.hasDictIn K 70,
  (PySem.W.clsIn K 70).isSome,
  oexB K 108,
  PySem.W.keepIn K (.ref 108),
  PySem.W.hasDictIn K 108,
  (PySem.W.clsIn K 108).isSome,
  konI K "_NAME_SIGNS" 8,
  konS K "_LETTERS" "abcdefghijklmnopqrstuvwxyz",
  konT K "_OWN_WORDS" ["node", "in", "out", "before", "when", "hold", "like", "same", "call", "true", "false", "mod", "beat", "desk"],
  konI K "_POINTED_SIGNS" 80,
  konI K "_GREATEST" 1000000000,
  konI K "_GREATEST_SIGNS" 10,
  konS K "_FIGURES" "0123456789",
  konT K "_OPS" ["+", "-", "*", "/", "mod", "<", "=", "&", "|"],
  konI K "LEVELS" 5,
  PySem.W.plainGet K 324 Str.empty,
  PySem.W.hasDictIn K 324,
  PySem.W.plainOver K 324,
  PySem.W.makesIn K 324,
  PySem.W.keepIn K (.ref 324),
  PySem.W.plainGet K 385 Str.empty,
  PySem.W.hasDictIn K 385,
  PySem.W.plainOver K 385,
  PySem.W.makesIn K 385,
  PySem.W.keepIn K (.ref 385)]
def bv1 : List (Bool) := [true, true, true, true, true, true, true, true, true, true, true, true, true, true, true, true, true, true, true, true, true, true, true, true, true, true, true, true, true, true]
def bl2 (K : PySem.W.Frag) : List (Bool) := [PySem.W.plainGet K 446 Str.empty,
  PySem.W.hasDictIn K 446,
  PySem.W.plainOver K 446,
  PySem.W.makesIn K 446,
  PySem.W.keepIn K (.ref 446),
  PySem.W.plainGet K 507 Str.empty,
  PySem.W.hasDictIn K 507,
  PySem.W.plainOver K 507,
  PySem.W.makesIn K 507,
  PySem.W.keepIn K (.ref 507),
  PySem.W.plainGet K 568 Str.empty,
  PySem.W.hasDictIn K 568,
  PySem.W.plainOver K 568,
  PySem.W.makesIn K 568,
  PySem.W.keepIn K (.ref 568),
  PySem.W.codeHdIn K 705 701,
  cdAt K 706 705]
def bv2 : List (Bool) := [true, true, true, true, true, true, true, true, true, true, true, true, true, true, true, true, true]
def bL (K : PySem.W.Frag) : List (List (Bool)) := [bl0 K, bl1 K, bl2 K]
def bV : List (List (Bool)) := [bv0, bv1, bv2]
def sl0 (K : PySem.W.Frag) : List (Option Bool) := [PySem.W.subIn K (.ref 70) (.type "BaseException"),
  PySem.W.mroIn K 70 (.type "object"),
  PySem.W.subIn K (.ref 70) (.ref 70),
  PySem.W.subIn K (.ref 108) (.type "BaseException"),
  PySem.W.mroIn K 108 (.type "object"),
  PySem.W.subIn K (.ref 108) (.ref 108),
  PySem.W.mroIn K 324 (.type "object"),
  PySem.W.mroIn K 385 (.type "object"),
  PySem.W.mroIn K 446 (.type "object"),
  PySem.W.mroIn K 507 (.type "object"),
  PySem.W.mroIn K 568 (.type "object"),
  PySem.W.mroIn K 261 (.type "object"),
  PySem.W.subIn K (.ref 324) (.ref 261),
  PySem.W.subIn K (.ref 324) (.ref 385),
  PySem.W.subIn K (.ref 324) (.ref 446),
  PySem.W.subIn K (.ref 324) (.ref 507),
  PySem.W.subIn K (.ref 324) (.ref 568),
  PySem.W.subIn K (.ref 385) (.ref 261),
  PySem.W.subIn K (.ref 385) (.ref 324),
  PySem.W.subIn K (.ref 385) (.ref 446),
  PySem.W.subIn K (.ref 385) (.ref 507),
  PySem.W.subIn K (.ref 385) (.ref 568),
  PySem.W.subIn K (.ref 446) (.ref 261),
  PySem.W.subIn K (.ref 446) (.ref 324),
  PySem.W.subIn K (.ref 446) (.ref 385),
  PySem.W.subIn K (.ref 446) (.ref 507),
  PySem.W.subIn K (.ref 446) (.ref 568),
  PySem.W.subIn K (.ref 507) (.ref 261),
  PySem.W.subIn K (.ref 507) (.ref 324),
  PySem.W.subIn K (.ref 507) (.ref 385)]
def sv0 : List (Option Bool) := [some true, some true, some true, some true, some true, some true, some true, some true, some true, some true, some true, some true, some true, some false, some false, some false, some false, some true, some false, some false, some false, some false, some true, some false, some false, some false, some false, some true, some false, some false]
def sl1 (K : PySem.W.Frag) : List (Option Bool) := [PySem.W.subIn K (.ref 507) (.ref 446),
  PySem.W.subIn K (.ref 507) (.ref 568),
  PySem.W.subIn K (.ref 568) (.ref 261),
  PySem.W.subIn K (.ref 568) (.ref 324),
  PySem.W.subIn K (.ref 568) (.ref 385),
  PySem.W.subIn K (.ref 568) (.ref 446),
  PySem.W.subIn K (.ref 568) (.ref 507),
  PySem.W.takesIn K (.builtin "object.__class__")]
def sv1 : List (Option Bool) := [some false, some false, some true, some false, some false, some false, some false, some true]
def sL (K : PySem.W.Frag) : List (List (Option Bool)) := [sl0 K, sl1 K]
def sV : List (List (Option Bool)) := [sv0, sv1]
def tl0 (K : PySem.W.Frag) : List (Option Value) := [PySem.W.typeIn K (.ref 67),
  PySem.W.typeIn K (.ref 70),
  PySem.W.typeIn K (.ref 105),
  PySem.W.typeIn K (.ref 108),
  PySem.W.typeIn K (.ref 324),
  PySem.W.typeIn K (.ref 385),
  PySem.W.typeIn K (.ref 446),
  PySem.W.typeIn K (.ref 507),
  PySem.W.typeIn K (.ref 568),
  PySem.W.typeIn K (.ref 261)]
def tv0 : List (Option Value) := [some (.type "function"), some (.type "type"), some (.type "function"), some (.type "type"), some (.type "type"), some (.type "type"), some (.type "type"), some (.type "type"), some (.type "type"), some (.type "type")]
def tL (K : PySem.W.Frag) : List (List (Option Value)) := [tl0 K]
def tV : List (List (Option Value)) := [tv0]
def fl0 (K : PySem.W.Frag) : List (He.FnW) := [fnA K 118,
  fnA K 125,
  fnA K 130,
  fnA K 135,
  fnA K 142,
  fnA K 149,
  fnA K 161,
  fnA K 156,
  fnA K 173,
  fnA K 181,
  fnA K 202,
  fnA K 209,
  fnA K 188,
  fnA K 195,
  fnA K 314,
  fnA K 375,
  fnA K 436,
  fnA K 497,
  fnA K 558,
  fnA K 293,
  fnA K 354,
  fnA K 415,
  fnA K 476,
  fnA K 537,
  fnA K 321,
  fnA K 382,
  fnA K 443,
  fnA K 504,
  fnA K 565,
  fnA K 584]
def fv0 : List (He.FnW) := [fnV "is_whole" "is_whole" s_is_whole, fnV "is_within" "is_within" s_is_within, fnV "is_name" "is_name" s_is_name, fnV "is_pointed" "is_pointed" s_is_pointed, fnV "is_value" "is_value" s_is_value, fnV "value_text" "value_text" s_value_text, fnV "_is_number_text" "_is_number_text" s__is_number_text, fnV "value_of" "value_of" s_value_of, fnV "name_for" "name_for" s_name_for, fnV "ops_told" "ops_told" s_ops_told, fnV "_takes" "_takes" s__takes, fnV "_outcome" "_outcome" s__outcome, fnV "reckoned" "reckoned" s_reckoned, fnV "contrary" "contrary" s_contrary, fnV "told" "Name.told" s_Name_told, fnV "told" "Value.told" s_Value_told, fnV "told" "Two.told" s_Two_told, fnV "told" "Not.told" s_Not_told, fnV "told" "Pick.told" s_Pick_told, fnV "levels" "Name.levels" s_Name_levels, fnV "levels" "Value.levels" s_Value_levels, fnV "levels" "Two.levels" s_Two_levels, fnV "levels" "Not.levels" s_Not_levels, fnV "levels" "Pick.levels" s_Pick_levels, fnV "words" "Name.words" s_Name_words, fnV "words" "Value.words" s_Value_words, fnV "words" "Two.words" s_Two_words, fnV "words" "Not.words" s_Not_words, fnV "words" "Pick.words" s_Pick_words, fnV "_inner" "_inner" s__inner]
def fl1 (K : PySem.W.Frag) : List (He.FnW) := [fnA K 279,
  fnA K 340,
  fnA K 401,
  fnA K 462,
  fnA K 523,
  fnA K 591,
  fnA K 577,
  fnA K 307,
  fnA K 368,
  fnA K 429,
  fnA K 490,
  fnA K 551,
  fnA K 300,
  fnA K 361,
  fnA K 422,
  fnA K 483,
  fnA K 544,
  fnA K 633,
  fnA K 626,
  fnA K 619,
  fnA K 612,
  fnA K 605,
  fnA K 598,
  fnA K 640,
  fnA K 647,
  fnA K 654,
  fnA K 661,
  fnA K 666,
  fnA K 673,
  fnA K 678]
def fv1 : List (He.FnW) := [fnV "__init__" "Name.__init__" s_Name_init, fnV "__init__" "Value.__init__" s_Value_init, fnV "__init__" "Two.__init__" s_Two_init, fnV "__init__" "Not.__init__" s_Not_init, fnV "__init__" "Pick.__init__" s_Pick_init, fnV "_made_of" "_made_of" s__made_of, fnV "term_of" "term_of" s_term_of, fnV "renamed" "Name.renamed" s_Name_renamed, fnV "renamed" "Value.renamed" s_Value_renamed, fnV "renamed" "Two.renamed" s_Two_renamed, fnV "renamed" "Not.renamed" s_Not_renamed, fnV "renamed" "Pick.renamed" s_Pick_renamed, fnV "reckoned_by" "Name.reckoned_by" s_Name_reckoned_by, fnV "reckoned_by" "Value.reckoned_by" s_Value_reckoned_by, fnV "reckoned_by" "Two.reckoned_by" s_Two_reckoned_by, fnV "reckoned_by" "Not.reckoned_by" s_Not_reckoned_by, fnV "reckoned_by" "Pick.reckoned_by" s_Pick_reckoned_by, fnV "_word_at" "_word_at" s__word_at, fnV "_behind" "_behind" s__behind, fnV "_pick_at" "_pick_at" s__pick_at, fnV "_bracket_at" "_bracket_at" s__bracket_at, fnV "_term_at" "_term_at" s__term_at, fnV "read_term" "read_term" s_read_term, fnV "_law_cell_at" "_law_cell_at" s__law_cell_at, fnV "_law_box" "_law_box" s__law_box, fnV "_law_take" "_law_take" s__law_take, fnV "_law_value" "_law_value" s__law_value, fnV "_law_told" "_law_told" s__law_told, fnV "_law_made" "_law_made" s__law_made, fnV "_law_sum" "_law_sum" s__law_sum]
def fl2 (K : PySem.W.Frag) : List (He.FnW) := [fnA K 685,
  fnA K 692,
  fnA K 699,
  fnA K 706,
  fnA K 711,
  fnA K 28,
  fnA K 67,
  fnA K 105]
def fv2 : List (He.FnW) := [fnV "_law_due" "_law_due" s__law_due, fnV "_law_all" "_law_all" s__law_all, fnV "_law_joined" "_law_joined" s__law_joined, fnV "_law_given" "_law_given" s__law_given, fnV "law" "law" s_law, fnV "__init__" "BeatError.__init__" s_BeatError_init, fnV "__init__" "NoName.__init__" s_NoName_init, fnV "__init__" "NoText.__init__" s_NoText_init]
def fL (K : PySem.W.Frag) : List (List (He.FnW)) := [fl0 K, fl1 K, fl2 K]
def fV : List (List (He.FnW)) := [fv0, fv1, fv2]
def gl0 (K : PySem.W.Frag) : List (Bool) := [fnB K 118 "is_whole",
  fnB K 125 "is_within",
  fnB K 130 "is_name",
  fnB K 135 "is_pointed",
  fnB K 142 "is_value",
  fnB K 149 "value_text",
  fnB K 161 "_is_number_text",
  fnB K 156 "value_of",
  fnB K 173 "name_for",
  fnB K 181 "ops_told",
  fnB K 202 "_takes",
  fnB K 209 "_outcome",
  fnB K 188 "reckoned",
  fnB K 195 "contrary",
  fnB K 314 "Name.told",
  fnB K 375 "Value.told",
  fnB K 436 "Two.told",
  fnB K 497 "Not.told",
  fnB K 558 "Pick.told",
  fnB K 293 "Name.levels",
  fnB K 354 "Value.levels",
  fnB K 415 "Two.levels",
  fnB K 476 "Not.levels",
  fnB K 537 "Pick.levels",
  fnB K 321 "Name.words",
  fnB K 382 "Value.words",
  fnB K 443 "Two.words",
  fnB K 504 "Not.words",
  fnB K 565 "Pick.words",
  fnB K 584 "_inner"]
def gv0 : List (Bool) := [true, true, true, true, true, true, true, true, true, true, true, true, true, true, true, true, true, true, true, true, true, true, true, true, true, true, true, true, true, true]
def gl1 (K : PySem.W.Frag) : List (Bool) := [fnB K 279 "Name.__init__",
  fnB K 340 "Value.__init__",
  fnB K 401 "Two.__init__",
  fnB K 462 "Not.__init__",
  fnB K 523 "Pick.__init__",
  fnB K 591 "_made_of",
  fnB K 577 "term_of",
  fnB K 307 "Name.renamed",
  fnB K 368 "Value.renamed",
  fnB K 429 "Two.renamed",
  fnB K 490 "Not.renamed",
  fnB K 551 "Pick.renamed",
  fnB K 300 "Name.reckoned_by",
  fnB K 361 "Value.reckoned_by",
  fnB K 422 "Two.reckoned_by",
  fnB K 483 "Not.reckoned_by",
  fnB K 544 "Pick.reckoned_by",
  fnB K 633 "_word_at",
  fnB K 626 "_behind",
  fnB K 619 "_pick_at",
  fnB K 612 "_bracket_at",
  fnB K 605 "_term_at",
  fnB K 598 "read_term",
  fnB K 640 "_law_cell_at",
  fnB K 647 "_law_box",
  fnB K 654 "_law_take",
  fnB K 661 "_law_value",
  fnB K 666 "_law_told",
  fnB K 673 "_law_made",
  fnB K 678 "_law_sum"]
def gv1 : List (Bool) := [true, true, true, true, true, true, true, true, true, true, true, true, true, true, true, true, true, true, true, true, true, true, true, true, true, true, true, true, true, true]
def gl2 (K : PySem.W.Frag) : List (Bool) := [fnB K 685 "_law_due",
  fnB K 692 "_law_all",
  fnB K 699 "_law_joined",
  fnB K 706 "_law_given",
  fnB K 711 "law",
  fnB K 28 "BeatError.__init__",
  fnB K 67 "NoName.__init__",
  fnB K 105 "NoText.__init__"]
def gv2 : List (Bool) := [true, true, true, true, true, true, true, true]
def gL (K : PySem.W.Frag) : List (List (Bool)) := [gl0 K, gl1 K, gl2 K]
def gV : List (List (Bool)) := [gv0, gv1, gv2]
abbrev AlA : Type := List (List (Option (Option Value))) × List (List (Bool)) × List (List (Option Bool)) × List (List (Option Value))
abbrev AlB : Type := List (List (He.FnW)) × List (List (Bool))
def obA (K : PySem.W.Frag) : AlA := (oL K, bL K, sL K, tL K)
def vA : AlA := (oV, bV, sV, tV)
def obB (K : PySem.W.Frag) : AlB := (fL K, gL K)
def vB : AlB := (fV, gV)
def as0 : List Addr := [3, 2, 31, 30, 51, 50, 70, 69, 89, 88, 108, 107, 261, 260, 324, 323, 385, 384, 446, 445, 507, 506, 568, 567, 118, 117, 125, 124, 130, 129, 135, 134, 142, 141, 149, 148, 161, 160, 156, 155]
def as1 : List Addr := [173, 172, 181, 180, 202, 201, 209, 208, 188, 187, 195, 194, 314, 313, 375, 374, 436, 435, 497, 496, 558, 557, 293, 292, 354, 353, 415, 414, 476, 475, 537, 536, 321, 320, 382, 381, 443, 442, 504, 503]
def as2 : List Addr := [565, 564, 584, 583, 279, 278, 340, 339, 401, 400, 462, 461, 523, 522, 591, 590, 577, 576, 307, 306, 368, 367, 429, 428, 490, 489, 551, 550, 300, 299, 361, 360, 422, 421, 483, 482, 544, 543, 633, 632]
def as3 : List Addr := [626, 625, 619, 618, 612, 611, 605, 604, 598, 597, 640, 639, 647, 646, 654, 653, 661, 660, 666, 665, 673, 672, 678, 677, 685, 684, 692, 691, 699, 698, 706, 705, 711, 710, 28, 27, 67, 66, 105, 104]
def as4 : List Addr := [111, 174]
def asX : List Addr := as0 ++ as1 ++ as2 ++ as3 ++ as4
abbrev R : PySem.W.OpenRow := PySem.W.OpenLaw.row PySem.Challenge.rw_beatrows_k26_whole_terms_alike
def ln0 : List Str := ["__name__", "BeatError", "NoValue", "NoName", "NoTerm", "NoText", "_OWN_WORDS", "_LETTERS", "_FIGURES", "_NAME_SIGNS", "_POINTED_SIGNS", "_GREATEST", "_GREATEST_SIGNS", "is_whole", "is_within", "is_name", "is_pointed", "is_value", "value_text", "value_of", "_is_number_text", "each_once", "name_for", "_OPS", "ops_told"]
def ln1 : List Str := ["reckoned", "contrary", "_takes", "_outcome", "LEVELS", "Term", "Name", "Value", "Two", "Not", "Pick", "term_of", "_inner", "_made_of", "read_term", "_term_at", "_bracket_at", "_pick_at", "_behind", "_word_at", "_law_cell_at", "_law_box", "_law_take", "_law_value", "_law_told"]
def ln2 : List Str := ["_law_made", "_law_sum", "_law_due", "_law_all", "_law_joined", "_law_given"]
def lns : List Str := ln0 ++ ln1 ++ ln2
set_option maxHeartbeats 0 in
theorem runA (w : World) (os : OsState) : ((HandSHeadRun.endF (HandSHeadRun.stepQ (HandSHeadRun.denQ HandSHeadRun.tabQ) R.prog w) 9500 R.prog w os)).map (fun s => (HandSHeadRun.looksF R.prog (PySem.W.boot_heap w.params) s.abs, HandSHeadRun.seenQ (PySem.W.view R.prog [61]) lns (importedModules R.prog.main.body) (fun s => PySem.W.xlAt (PySem.W.view R.prog [61]) [] s && PySem.W.recOk R.toRowW.records s) s.abs, obA (He.frG (HandSHeadRun.getT s) asX))) = some (true, PySem.W.openGood (PySem.W.view R.prog [61]) lns, vA) := by
  kernel_rfl
set_option maxHeartbeats 0 in
theorem runB (w : World) (os : OsState) : ((HandSHeadRun.endF (HandSHeadRun.stepQ (HandSHeadRun.denQ HandSHeadRun.tabQ) R.prog w) 9500 R.prog w os)).map (fun s => (obB (He.frG (HandSHeadRun.getT s) asX), tabE (HandSHeadRun.getT s 701))) = some (vB, true) := by
  kernel_rfl
theorem no_tab : 701 ∉ asX := by decide +kernel
abbrev hk : PySem.W.Hook := hookT asX 701 no_tab obA obB vA vB
def ob (s : PySem.W.SharedT) : AlA × (AlB × Bool) := (obA (He.frG (HandSHeadRun.getT s) asX), (obB (He.frG (HandSHeadRun.getT s) asX), tabE (HandSHeadRun.getT s 701)))
theorem ob_eq (s : PySem.W.SharedT) : ob s = hk.obs s.abs := hookT_eq (oA := obA) (oB := obB) (vA := vA) (vB := vB) (as := asX) (no := no_tab) (HandSHeadRun.getT_eq s)
theorem run (w : World) : HandSHeadRun.RunEq R (PySem.W.view R.prog [61]) hk ob 9500 lns w := fun os => run_pair (runA w os) (runB w os)
end K26
namespace DL
open PySem L2
open Evl (Ex)
abbrev St := L2.St

/-! ### data, and what represents it in a heap -/
inductive D where
  | non | bl (b : Bool) | int (i : Int) | str (x : Str) | ty (n : String) | adr (a : Addr)
  | lst (xs : List D) | tup (xs : List D) | scr (ns : List Int) | dct (kvs : List (Key × D)) | dkv (kvs : List (Key × D)) | exc (a d C : Addr) (fs : List (Str × D)) | obj (C : Addr) (fs : List (Str × D)) | fn (st : Stmt) (nm ql x : Str) (kvs : List (Key × D))
/-- a cell that holds the thing at b -/
def CellO (c b : Addr) : HO := .ext fun h => h.IsCell c (some (.ref b))

mutual
inductive Rep (K : PySem.W.Frag) (G : Hp) : V → D → Prop
  | non : Rep K G .non .non
  | bl (b : Bool) : Rep K G (.bl b) (.bl b)
  | int (i : Int) : Rep K G (.int i) (.int i)
  | str (x : Str) : Rep K G (.str x) (.str x)
  | ty (n : String) : Rep K G (.ty n) (.ty n)
  | adr (a : Addr) : Rep K G (.ref a) (.adr a)
  | lst {a : Addr} {xs : List V} {ds : List D} : G a = some (.lst xs) → RepL K G xs ds → Rep K G (.ref a) (.lst ds)
  | tup {a : Addr} {xs : List V} {ds : List D} : SqT K G a xs → RepL K G xs ds → Rep K G (.ref a) (.tup ds)
  | scr {a : Addr} {ns : List Int} : SqL K G a (ns.map V.int) → Rep K G (.ref a) (.scr ns)
  | dct {a : Addr} {kvs : List (Key × V)} {ds : List (Key × D)} : G a = some (.dK kvs) → RepK K G kvs ds → Rep K G (.ref a) (.dct ds)
  | dkv {a : Addr} {o : Obj} {kvs : List (Key × V)} {ds : List (Key × D)} : G a = some (.frz o (.dK kvs)) → RepK K G kvs ds → Rep K G (.ref a) (.dkv ds)
  | exc {a d C : Addr} {fvs : List (Str × V)} {fs : List (Str × D)} : G d = some (.xd fvs) → RepF K G fvs fs → Rep K G (.ref a) (.exc a d C fs)
  | obj {a C dx : Addr} {fs : List (Str × V)} {ds : List (Str × D)} : G a = some (.ins C dx fs) → RepF K G fs ds → Rep K G (.ref a) (.obj C ds)
  | fn {f c' c b : Addr} {o : Obj} {kvs : List (Key × V)} {st : Stmt} {nm ql x : Str} {ds : List (Key × D)} : G f = some (NdefX.FnO f (NdefX.NF.of st nm ql [(x, c)] c')) → G c' = some (LamX.CodeO c' ql) → G c = some (CellO c b) → G b = some (.frz o (.dK kvs)) → RepK K G kvs ds → Rep K G (.ref f) (.fn st nm ql x ds)
inductive RepL (K : PySem.W.Frag) (G : Hp) : List V → List D → Prop
  | nil : RepL K G [] []
  | cons {v : V} {vs : List V} {d : D} {ds : List D} : Rep K G v d → RepL K G vs ds → RepL K G (v :: vs) (d :: ds)
inductive RepK (K : PySem.W.Frag) (G : Hp) : List (Key × V) → List (Key × D) → Prop
  | nil : RepK K G [] []
  | cons {k : Key} {v : V} {vs : List (Key × V)} {d : D} {ds : List (Key × D)} : Rep K G v d → RepK K G vs ds → RepK K G ((k, v) :: vs) ((k, d) :: ds)
inductive RepF (K : PySem.W.Frag) (G : Hp) : List (Str × V) → List (Str × D) → Prop
  | nil : RepF K G [] []
  | cons {k : Str} {v : V} {vs : List (Str × V)} {d : D} {ds : List (Str × D)} : Rep K G v d → RepF K G vs ds → RepF K G ((k, v) :: vs) ((k, d) :: ds)
end

section
variable {K : PySem.W.Frag} {G G' H H' : Hp}
mutual
theorem Rep.mono (e : Ex G G') : ∀ (d : D) (v : V), Rep K G v d → Rep K G' v d
  | .non, _, h => by cases h; exact .non
  | .bl b, _, h => by cases h; exact .bl b
  | .int i, _, h => by cases h; exact .int i
  | .str x, _, h => by cases h; exact .str x
  | .ty n, _, h => by cases h; exact .ty n
  | .adr a, _, h => by cases h; exact .adr a
  | .lst ds, _, h => by cases h with | lst h1 h2 => exact .lst (e _ _ h1) (RepL.mono e ds _ h2)
  | .tup ds, _, h => by cases h with | tup h1 h2 => exact .tup (Evl.ex_t e h1) (RepL.mono e ds _ h2)
  | .scr ns, _, h => by cases h with | scr h1 => exact .scr (Evl.ex_l e h1)
  | .dct ds, _, h => by cases h with | dct h1 h2 => exact .dct (e _ _ h1) (RepK.mono e ds _ h2)
  | .dkv ds, _, h => by cases h with | dkv h1 h2 => exact .dkv (e _ _ h1) (RepK.mono e ds _ h2)
  | .exc a d C ds, _, h => by cases h with | exc h1 h2 => exact .exc (e _ _ h1) (RepF.mono e ds _ h2)
  | .obj C ds, _, h => by cases h with | obj h1 h2 => exact .obj (e _ _ h1) (RepF.mono e ds _ h2)
  | .fn st nm ql x ds, _, h => by cases h with | fn h1 h2 h3 h4 h5 => exact .fn (e _ _ h1) (e _ _ h2) (e _ _ h3) (e _ _ h4) (RepK.mono e ds _ h5)
theorem RepL.mono (e : Ex G G') : ∀ (ds : List D) (vs : List V), RepL K G vs ds → RepL K G' vs ds
  | [], _, h => by cases h; exact .nil
  | d :: ds, _, h => by cases h with | cons h1 h2 => exact .cons (Rep.mono e d _ h1) (RepL.mono e ds _ h2)
theorem RepK.mono (e : Ex G G') : ∀ (ds : List (Key × D)) (vs : List (Key × V)), RepK K G vs ds → RepK K G' vs ds
  | [], _, h => by cases h; exact .nil
  | (k, d) :: ds, _, h => by cases h with | cons h1 h2 => exact .cons (Rep.mono e d _ h1) (RepK.mono e ds _ h2)
theorem RepF.mono (e : Ex G G') : ∀ (ds : List (Str × D)) (vs : List (Str × V)), RepF K G vs ds → RepF K G' vs ds
  | [], _, h => by cases h; exact .nil
  | (k, d) :: ds, _, h => by cases h with | cons h1 h2 => exact .cons (Rep.mono e d _ h1) (RepF.mono e ds _ h2)
end
theorem Rep.up (e : Ex G G') {d : D} {v : V} (h : Rep K G v d) : Rep K G' v d := Rep.mono e d v h
theorem RepK.up (e : Ex G G') {ds : List (Key × D)} {vs : List (Key × V)} (h : RepK K G vs ds) : RepK K G' vs ds := RepK.mono e ds vs h
theorem RepL.up (e : Ex G G') {ds : List D} {vs : List V} (h : RepL K G vs ds) : RepL K G' vs ds := RepL.mono e ds vs h
theorem RepL.length : ∀ {vs : List V} {ds : List D}, RepL K G vs ds → vs.length = ds.length
  | _, _, .nil => rfl
  | _, _, .cons _ t => congrArg (· + 1) (RepL.length t)
theorem RepL.get : ∀ {vs : List V} {ds : List D} {i : Nat} {d : D}, RepL K G vs ds → ds[i]? = some d → ∃ v, vs[i]? = some v ∧ Rep K G v d
  | _, _, _, _, .nil, e => by simp at e
  | _, _, 0, _, .cons r _, e => by simp at e; subst e; exact ⟨_, rfl, r⟩
  | _, _, i + 1, _, .cons _ t, e => by
    obtain ⟨u, h1, h2⟩ := RepL.get (i := i) t (by simpa using e)
    exact ⟨u, by simpa using h1, h2⟩
theorem RepL.getV : ∀ {vs : List V} {ds : List D} {i : Nat} {v : V}, RepL K G vs ds → vs[i]? = some v → ∃ d, ds[i]? = some d ∧ Rep K G v d
  | _, _, _, _, .nil, e => by simp at e
  | _, _, 0, _, .cons r _, e => by simp at e; subst e; exact ⟨_, rfl, r⟩
  | _, _, i + 1, _, .cons _ t, e => by
    obtain ⟨u, h1, h2⟩ := RepL.getV (i := i) t (by simpa using e)
    exact ⟨u, by simpa using h1, h2⟩
theorem RepL.append : ∀ {vs ws : List V} {ds es : List D}, RepL K G vs ds → RepL K G ws es → RepL K G (vs ++ ws) (ds ++ es)
  | _, _, _, _, .nil, s => s
  | _, _, _, _, .cons r t, s => .cons r (RepL.append t s)
theorem RepL.set : ∀ {vs : List V} {ds : List D} (i : Nat) {v : V} {d : D}, Rep K G v d → RepL K G vs ds → RepL K G (vs.set i v) (ds.set i d)
  | _, _, _, _, _, _, .nil => .nil
  | _, _, 0, _, _, r, .cons _ t => .cons r t
  | _, _, i + 1, _, _, r, .cons q t => .cons q (RepL.set i r t)
theorem RepL.drop : ∀ {vs : List V} {ds : List D} (i : Nat), RepL K G vs ds → RepL K G (vs.drop i) (ds.drop i)
  | _, _, 0, h => h
  | _, _, _ + 1, .nil => .nil
  | _, _, i + 1, .cons _ t => RepL.drop i t
theorem RepL.take : ∀ {vs : List V} {ds : List D} (i : Nat), RepL K G vs ds → RepL K G (vs.take i) (ds.take i)
  | _, _, 0, _ => .nil
  | _, _, _ + 1, .nil => .nil
  | _, _, i + 1, .cons r t => .cons r (RepL.take i t)
theorem RepL.ints : ∀ {vs : List V} {ns : List Int}, RepL K G vs (ns.map D.int) → vs = ns.map V.int
  | _, [], h => by cases h; rfl
  | _, n :: ns, h => by
    cases h with
    | cons r t =>
      cases r
      rw [RepL.ints t]
      rfl
theorem RepL.strs : ∀ {vs : List V} {ns : List Str}, RepL K G vs (ns.map D.str) → vs = ns.map V.str
  | _, [], h => by cases h; rfl
  | _, n :: ns, h => by
    cases h with
    | cons r t =>
      cases r
      rw [RepL.strs t]
      rfl
theorem RepL.bls : ∀ {vs : List V} {ns : List Bool}, RepL K G vs (ns.map D.bl) → vs = ns.map V.bl
  | _, [], h => by cases h; rfl
  | _, n :: ns, h => by
    cases h with
    | cons r t =>
      cases r
      rw [RepL.bls t]
      rfl
theorem RepL.ofStrs : ∀ (ns : List Str), RepL K G (ns.map V.str) (ns.map D.str)
  | [] => .nil
  | n :: ns => .cons (.str n) (RepL.ofStrs ns)
theorem RepL.ofInts : ∀ (ns : List Int), RepL K G (ns.map V.int) (ns.map D.int)
  | [] => .nil
  | n :: ns => .cons (.int n) (RepL.ofInts ns)
end

/-! ### slots, frames, states -/
/-- whose a list is: the def's own; a parameter's; one of both -/
inductive Kd where
  | loc | par | any
inductive Sl where
  | un
  | fz (d : D)
  | ow (k : Kd) (ds : List D)
  | od (k : Kd) (kvs : List (Key × D))

abbrev Sls := List Sl

structure Fr where
  G0 : Hp
  H0 : Hp
  P : Addr → Prop
  M : Addr → (Nat → Nat → Str) → Prop

def SlR (K : PySem.W.Frag) (G H : Hp) : Option V → Sl → Prop
  | _, .un => True
  | some v, .fz d => Rep K G v d
  | some v, .ow _ ds => ∃ p vs, v = .ref p ∧ G p = none ∧ H p = some (.lst vs) ∧ RepL K G vs ds
  | some v, .od _ ds => ∃ p vs, v = .ref p ∧ G p = none ∧ H p = some (.dK vs) ∧ RepK K G vs ds
  | none, _ => False

/-- what is neither a table of codes nor a code -/
def NoT (o : HO) : Prop := (∀ ps, o ≠ .tbl ps) ∧ ∀ c q, o ≠ LamX.CodeO c q
theorem noT_lst {xs : List V} : NoT (.lst xs) := ⟨fun _ z => (by cases z), fun _ _ z => (by unfold LamX.CodeO at z; cases z)⟩
theorem noT_dK {xs : List (Key × V)} : NoT (.dK xs) := ⟨fun _ z => (by cases z), fun _ _ z => (by unfold LamX.CodeO at z; cases z)⟩
theorem noT_ins {C dx : Addr} {xs : List (Str × V)} : NoT (.ins C dx xs) := ⟨fun _ z => (by cases z), fun _ _ z => (by unfold LamX.CodeO at z; cases z)⟩
theorem noT_frz {o : Obj} {x : HO} : NoT (.frz o x) := ⟨fun _ z => (by cases z), fun _ _ z => (by unfold LamX.CodeO at z; cases z)⟩
theorem tab_upd {H : Hp} {a p : Addr} {nm : Nat → Nat → Str} {o o' : HO} (t : NdefX.TabN H a nm) (h : H p = some o) (n : NoT o) : NdefX.TabN (upd H p o') a nm := by
  obtain ⟨ps, h1, h2, h3⟩ := t
  refine ⟨ps, ?_, h2, fun pos cv hc => ?_⟩
  · have ne : a ≠ p := fun z => by
      rw [z, h] at h1
      exact n.1 ps (Option.some.inj h1)
    rw [upd_ne ne]
    exact h1
  · obtain ⟨c, e1, e2⟩ := h3 pos cv hc
    have ne : c ≠ p := fun z => by
      rw [z, h] at e2
      exact n.2 _ _ (Option.some.inj e2)
    exact ⟨c, e1, by rw [upd_ne ne]; exact e2⟩
theorem gt_upd {G : Hp} {p : Addr} {o : HO} (g : ∀ a ps, G a ≠ some (.tbl ps)) (n : ∀ ps, o ≠ .tbl ps) (a : Addr) (ps : Array Value) : upd G p o a ≠ some (.tbl ps) := fun z => by
  unfold upd at z
  split at z
  · exact n ps (Option.some.inj z)
  · exact g a ps z
/-- a thing that is known by what is true of it -/
def IsX (o : HO) : Prop := ∃ φ, o = .ext φ
theorem isX_lst {xs : List V} : ¬ IsX (.lst xs) := fun ⟨_, z⟩ => (nomatch z)
theorem isX_dK {xs : List (Key × V)} : ¬ IsX (.dK xs) := fun ⟨_, z⟩ => (nomatch z)
theorem isX_frz {o : Obj} {x : HO} : ¬ IsX (.frz o x) := fun ⟨_, z⟩ => (nomatch z)
theorem isX_ins {C dx : Addr} {xs : List (Str × V)} : ¬ IsX (.ins C dx xs) := fun ⟨_, z⟩ => (nomatch z)
structure FrOk (F : Fr) (G H : Hp) : Prop where
  ex : Ex G H
  old : ∀ a o, F.H0 a = some o → G a = F.G0 a ∨ (IsX o ∧ F.G0 a = none)
  kp : ∀ a o, F.H0 a = some o → ¬ F.P a → H a = some o
  th : ∀ a o, F.H0 a = some o → ∃ o', H a = some o' ∧ (IsX o' → IsX o)
  tb : ∀ a nm, F.M a nm → NdefX.TabN F.H0 a nm → NdefX.TabN H a nm
  gt : (∀ a ps, F.G0 a ≠ some (.tbl ps)) → ∀ a ps, G a ≠ some (.tbl ps)

def OwnK (F : Fr) (p : Addr) : Kd → Prop
  | .loc => F.H0 p = none
  | .par => F.P p
  | .any => F.H0 p = none ∨ F.P p
theorem OwnK.or {F : Fr} {p : Addr} : ∀ {k : Kd}, OwnK F p k → F.H0 p = none ∨ F.P p
  | .loc, h => .inl h
  | .par, h => .inr h
  | .any, h => h
structure SRel (K : PySem.W.Frag) (F : Fr) (G H : Hp) (σ : St) (ρ : Sls) : Prop where
  fr : FrOk F G H
  len : σ.length = ρ.length
  sl : ∀ (i : Nat) (s : Sl) (o : Option V), ρ[i]? = some s → σ[i]? = some o → SlR K G H o s
  dis : ∀ (i j : Nat) (p : Addr) (l m : Kd) (di dj : List D), ρ[i]? = some (.ow l di) → ρ[j]? = some (.ow m dj) → σ[i]? = some (some (.ref p)) → σ[j]? = some (some (.ref p)) → i = j
  own : ∀ (i : Nat) (l : Kd) (ds : List D) (p : Addr), ρ[i]? = some (.ow l ds) → σ[i]? = some (some (.ref p)) → OwnK F p l
  disD : ∀ (i j : Nat) (p : Addr) (l m : Kd) (di dj : List (Key × D)), ρ[i]? = some (.od l di) → ρ[j]? = some (.od m dj) → σ[i]? = some (some (.ref p)) → σ[j]? = some (some (.ref p)) → i = j
  ownD : ∀ (i : Nat) (l : Kd) (ds : List (Key × D)) (p : Addr), ρ[i]? = some (.od l ds) → σ[i]? = some (some (.ref p)) → OwnK F p l

section
variable {K : PySem.W.Frag} {F : Fr} {G G' H H' : Hp} {σ : St} {ρ : Sls}
theorem FrOk.fresh (f : FrOk F G H) {p : Addr} (h : H p = none) : F.H0 p = none := by
  cases e : F.H0 p with
  | none => rfl
  | some o =>
    obtain ⟨o', q, _⟩ := f.th p o e
    rw [h] at q
    cases q
theorem FrOk.freshG (f : FrOk F G H) {p : Addr} (h : H p = none) : G p = none := by
  cases e : G p with
  | none => rfl
  | some o =>
    rw [f.ex p o e] at h
    cases h
theorem FrOk.th1 (f : FrOk F G H) {a : Addr} {o : HO} (h : F.H0 a = some o) : ∃ o', H a = some o' := let ⟨o', q, _⟩ := f.th a o h; ⟨o', q⟩
theorem FrOk.old1 (f : FrOk F G H) {a : Addr} {o : HO} (h : F.H0 a = some o) (n : ¬ IsX o) : G a = F.G0 a := (f.old a o h).elim id fun z => (n z.1).elim
theorem FrOk.old2 {P : Addr → Prop} {M : Addr → (Nat → Nat → Str) → Prop} (f : FrOk F G H) (t : FrOk ⟨G, H, P, M⟩ G' H') (a : Addr) (o : HO) (h : F.H0 a = some o) : G' a = F.G0 a ∨ (IsX o ∧ F.G0 a = none) := by
  obtain ⟨o', q, n⟩ := f.th a o h
  rcases f.old a o h with z | z
  · rcases t.old a o' q with y | y
    · exact .inl (y.trans z)
    · exact .inr ⟨n y.1, z.symm.trans y.2⟩
  · exact .inr z
theorem FrOk.th2 {P : Addr → Prop} {M : Addr → (Nat → Nat → Str) → Prop} (f : FrOk F G H) (t : FrOk ⟨G, H, P, M⟩ G' H') (a : Addr) (o : HO) (h : F.H0 a = some o) : ∃ o', H' a = some o' ∧ (IsX o' → IsX o) := by
  obtain ⟨o', q, n⟩ := f.th a o h
  obtain ⟨o2, q2, n2⟩ := t.th a o' q
  exact ⟨o2, q2, fun z => n (n2 z)⟩
theorem FrOk.grow0 {P : Addr → Prop} {M : Addr → (Nat → Nat → Str) → Prop} (t : FrOk ⟨G, H, P, M⟩ G' H') (e : Ex G H) : Ex G G' := fun a o h => by
  rcases t.old a o (e a o h) with z | z
  · rw [z]
    exact h
  · have y : G a = none := z.2
    rw [h] at y
    cases y
theorem SRel.ex (S : SRel K F G H σ ρ) : Ex G H := S.fr.ex
theorem SRel.fz (S : SRel K F G H σ ρ) {i : Nat} {d : D} (h : ρ[i]? = some (.fz d)) : ∃ v, σ[i]? = some (some v) ∧ Rep K G v d := by
  have hl : i < σ.length := by rw [S.len]; exact (List.getElem?_eq_some_iff.mp h).1
  have e : σ[i]? = some σ[i] := List.getElem?_eq_getElem hl
  have q := S.sl i _ _ h e
  cases hv : σ[i] with
  | none => rw [hv] at q; exact q.elim
  | some v => rw [hv] at q e; exact ⟨v, e, q⟩
theorem SRel.ow (S : SRel K F G H σ ρ) {i : Nat} {l : Kd} {ds : List D} (h : ρ[i]? = some (.ow l ds)) : ∃ p vs, σ[i]? = some (some (.ref p)) ∧ G p = none ∧ H p = some (.lst vs) ∧ RepL K G vs ds := by
  have hl : i < σ.length := by rw [S.len]; exact (List.getElem?_eq_some_iff.mp h).1
  have e : σ[i]? = some σ[i] := List.getElem?_eq_getElem hl
  have q := S.sl i _ _ h e
  cases hv : σ[i] with
  | none => rw [hv] at q; exact q.elim
  | some v =>
    rw [hv] at q e
    obtain ⟨p, vs, rfl, q⟩ := q
    exact ⟨p, vs, e, q⟩
theorem SRel.od (S : SRel K F G H σ ρ) {i : Nat} {l : Kd} {ds : List (Key × D)} (h : ρ[i]? = some (.od l ds)) : ∃ p vs, σ[i]? = some (some (.ref p)) ∧ G p = none ∧ H p = some (.dK vs) ∧ RepK K G vs ds := by
  have hl : i < σ.length := by rw [S.len]; exact (List.getElem?_eq_some_iff.mp h).1
  have e : σ[i]? = some σ[i] := List.getElem?_eq_getElem hl
  have q := S.sl i _ _ h e
  cases hv : σ[i] with
  | none => rw [hv] at q; exact q.elim
  | some v =>
    rw [hv] at q e
    obtain ⟨p, vs, rfl, q⟩ := q
    exact ⟨p, vs, e, q⟩
/-- where no own dict stands -/
def ND (σ : St) (ρ : Sls) (p : Addr) : Prop := ∀ (i : Nat) (l : Kd) (ds : List (Key × D)), ρ[i]? = some (.od l ds) → σ[i]? ≠ some (some (.ref p))
theorem SRel.nd (S : SRel K F G H σ ρ) {p : Addr} (h : ∀ vs, H p ≠ some (.dK vs)) : ND σ ρ p := fun i l ds hi hz => by
  obtain ⟨q, vs, e1, _, e3, _⟩ := S.od hi
  rw [hz] at e1
  cases e1
  exact h vs e3
theorem SRel.ndL (S : SRel K F G H σ ρ) {p : Addr} {vs : List V} (h : H p = some (.lst vs)) : ND σ ρ p := S.nd fun ws z => by rw [h] at z; cases z
theorem SRel.nd0 (S : SRel K F G H σ ρ) {p : Addr} (h : H p = none) : ND σ ρ p := S.nd fun ws z => by rw [h] at z; cases z
theorem SlR.up {o : Option V} {s : Sl} (e : Ex G G') (n : ∀ p, G p = none → (∃ o, H p = some o ∧ ¬ IsX o) → G' p = none) (k : ∀ p o, H p = some o → NoT o → G p = none → H' p = some o) (h : SlR K G H o s) : SlR K G' H' o s := by
  cases s with
  | un => cases o <;> trivial
  | fz d =>
    cases o with
    | none => exact h
    | some v => exact Rep.up e h
  | ow l ds =>
    cases o with
    | none => exact h
    | some v =>
      obtain ⟨p, vs, rfl, h1, h2, h3⟩ := h
      exact ⟨p, vs, rfl, n p h1 ⟨_, h2, isX_lst⟩, k p _ h2 noT_lst h1, RepL.up e h3⟩
  | od l ds =>
    cases o with
    | none => exact h
    | some v =>
      obtain ⟨p, vs, rfl, h1, h2, h3⟩ := h
      exact ⟨p, vs, rfl, n p h1 ⟨_, h2, isX_dK⟩, k p _ h2 noT_dK h1, RepK.up e h3⟩
/-- a new object, not known -/
theorem SRel.alloc (S : SRel K F G H σ ρ) {p : Addr} {o : HO} (h : H p = none) : SRel K F G (upd H p o) σ ρ := by
  have e : Ex H (upd H p o) := Ex.new h
  refine ⟨⟨S.ex.trans e, S.fr.old, fun a u q np => e a u (S.fr.kp a u q np), fun a u q => ?_, fun a nm m t => (S.fr.tb a nm m t).ext e, S.fr.gt⟩, S.len, fun i s o h1 h2 => (S.sl i s o h1 h2).up (Ex.refl G) (fun p h _ => h) (fun p o q _ _ => e p o q), S.dis, S.own, S.disD, S.ownD⟩
  obtain ⟨o', q', n'⟩ := S.fr.th a u q
  exact ⟨o', e a o' q', n'⟩
/-- an object that is nobody's own comes to be known -/
theorem SRel.freeze (S : SRel K F G H σ ρ) {p : Addr} {o : HO} (hg : G p = none) (h : H p = some o) (hf : F.H0 p = none) (hn : ∀ (i : Nat) (l : Kd) (ds : List D), ρ[i]? = some (.ow l ds) → σ[i]? ≠ some (some (.ref p))) (hd : ND σ ρ p) (ht : ∀ ps, o ≠ .tbl ps := by (intro _ z; cases z)) : SRel K F (upd G p o) H σ ρ := by
  have e : Ex G (upd G p o) := Ex.new hg
  refine ⟨⟨fun a u q => ?_, fun a u q => ?_, S.fr.kp, S.fr.th, S.fr.tb, fun g => gt_upd (S.fr.gt g) ht⟩, S.len, fun i s w h1 h2 => ?_, S.dis, S.own, S.disD, S.ownD⟩
  · by_cases hp : a = p
    · subst hp
      rw [upd_same] at q
      cases q
      exact h
    · rw [upd_ne hp] at q
      exact S.ex a u q
  · have hp : a ≠ p := fun z => by rw [z, hf] at q; cases q
    rw [upd_ne hp]
    exact S.fr.old a u q
  · have q := S.sl i s w h1 h2
    cases s with
    | un => cases w <;> trivial
    | fz d =>
      cases w with
      | none => exact q
      | some v => exact Rep.up e q
    | ow l ds =>
      cases w with
      | none => exact q
      | some v =>
        obtain ⟨a, vs, rfl, q1, q2, q3⟩ := q
        have ha : a ≠ p := fun z => hn i l ds h1 (by rw [h2, z])
        exact ⟨a, vs, rfl, by rw [upd_ne ha]; exact q1, q2, RepL.up e q3⟩
    | od l ds =>
      cases w with
      | none => exact q
      | some v =>
        obtain ⟨a, vs, rfl, q1, q2, q3⟩ := q
        have ha : a ≠ p := fun z => hd i l ds h1 (by rw [h2, z])
        exact ⟨a, vs, rfl, by rw [upd_ne ha]; exact q1, q2, RepK.up e q3⟩
theorem SRel.notOwn (S : SRel K F G H σ ρ) {p : Addr} (h : H p = none) : ∀ (i : Nat) (l : Kd) (ds : List D), ρ[i]? = some (.ow l ds) → σ[i]? ≠ some (some (.ref p)) := fun i l ds hi hz => by
  obtain ⟨q, vs, e1, _, e3, _⟩ := S.ow hi
  rw [hz] at e1
  cases e1
  rw [h] at e3
  cases e3
/-- a new object, known -/
theorem SRel.new (S : SRel K F G H σ ρ) {p : Addr} {o : HO} (h : H p = none) (ht : ∀ ps, o ≠ .tbl ps := by (intro _ z; cases z)) : SRel K F (upd G p o) (upd H p o) σ ρ :=
  (S.alloc h).freeze (S.fr.freshG h) upd_same (S.fr.fresh h) (S.notOwn h) (S.nd0 h) ht
/-- a slot's own list is changed -/
theorem SRel.mut (S : SRel K F G H σ ρ) {i : Nat} {l : Kd} {ds es : List D} {p : Addr} {ws : List V} (hi : ρ[i]? = some (.ow l ds)) (hp : σ[i]? = some (some (.ref p))) (hw : RepL K G ws es) :
    SRel K F G (upd H p (.lst ws)) σ (ρ.set i (.ow l es)) := by
  obtain ⟨p', vs, e1, e2, e3, e4⟩ := S.ow hi
  rw [hp] at e1
  cases e1
  have hl : i < ρ.length := (List.getElem?_eq_some_iff.mp hi).1
  have get : ∀ (j : Nat) (s : Sl), (ρ.set i (.ow l es))[j]? = some s → (j = i ∧ s = .ow l es) ∨ (j ≠ i ∧ ρ[j]? = some s) := fun j s h => by
    by_cases hj : j = i
    · subst hj
      rw [List.getElem?_set_self hl] at h
      cases h
      exact .inl ⟨rfl, rfl⟩
    · rw [List.getElem?_set_ne (Ne.symm hj)] at h
      exact .inr ⟨hj, h⟩
  refine ⟨⟨fun a u q => ?_, S.fr.old, fun a u q np => ?_, fun a u q => ?_, fun a nm m t => tab_upd (S.fr.tb a nm m t) e3 noT_lst, S.fr.gt⟩, by rw [List.length_set]; exact S.len, fun j s w h1 h2 => ?_, fun a b q m n da db h1 h2 h3 h4 => ?_, fun j m da q h1 h2 => ?_, fun a b q m n da db h1 h2 h3 h4 => ?_, fun j m da q h1 h2 => ?_⟩
  · have ha : a ≠ p := fun z => by rw [z, e2] at q; cases q
    rw [upd_ne ha]
    exact S.ex a u q
  · have ha : a ≠ p := fun z => by
      subst z
      rcases (S.own i l ds a hi hp).or with z | z
      · rw [z] at q; cases q
      · exact np z
    rw [upd_ne ha]
    exact S.fr.kp a u q np
  · by_cases ha : a = p
    · subst ha
      exact ⟨_, upd_same, fun z => (isX_lst z).elim⟩
    · rw [upd_ne ha]
      exact S.fr.th a u q
  · rcases get j s h1 with ⟨rfl, rfl⟩ | ⟨hj, h1⟩
    · rw [hp] at h2
      cases h2
      exact ⟨p, ws, rfl, e2, upd_same, hw⟩
    · have q := S.sl j s w h1 h2
      cases s with
      | un => cases w <;> trivial
      | fz d =>
        cases w with
        | none => exact q
        | some v => exact q
      | ow m dj =>
        cases w with
        | none => exact q
        | some v =>
          obtain ⟨a, us, rfl, q1, q2, q3⟩ := q
          have ha : a ≠ p := fun z => by
            subst z
            exact hj (S.dis j i a m l dj ds h1 hi h2 hp)
          exact ⟨a, us, rfl, q1, by rw [upd_ne ha]; exact q2, q3⟩
      | od m dj =>
        cases w with
        | none => exact q
        | some v =>
          obtain ⟨a, us, rfl, q1, q2, q3⟩ := q
          have ha : a ≠ p := fun z => by
            subst z
            rw [e3] at q2
            cases q2
          exact ⟨a, us, rfl, q1, by rw [upd_ne ha]; exact q2, q3⟩
  · have h1' : ∃ m' da', ρ[a]? = some (.ow m' da') := by
      rcases get a _ h1 with ⟨rfl, _⟩ | ⟨_, h⟩
      · exact ⟨_, _, hi⟩
      · exact ⟨_, _, h⟩
    have h2' : ∃ m' da', ρ[b]? = some (.ow m' da') := by
      rcases get b _ h2 with ⟨rfl, _⟩ | ⟨_, h⟩
      · exact ⟨_, _, hi⟩
      · exact ⟨_, _, h⟩
    obtain ⟨_, _, h1'⟩ := h1'
    obtain ⟨_, _, h2'⟩ := h2'
    exact S.dis a b q _ _ _ _ h1' h2' h3 h4
  · rcases get j _ h1 with ⟨rfl, e⟩ | ⟨_, h⟩
    · cases e
      exact S.own j l ds q hi h2
    · exact S.own j m da q h h2
  · rcases get a _ h1 with ⟨_, e⟩ | ⟨_, h1⟩
    · cases e
    · rcases get b _ h2 with ⟨_, e⟩ | ⟨_, h2⟩
      · cases e
      · exact S.disD a b q _ _ _ _ h1 h2 h3 h4
  · rcases get j _ h1 with ⟨_, e⟩ | ⟨_, h⟩
    · cases e
    · exact S.ownD j m da q h h2
/-- a slot is stored: a known thing -/
theorem SRel.set (S : SRel K F G H σ ρ) {i : Nat} {v : V} {d : D} (r : Rep K G v d) : SRel K F G H (σ.set i (some v)) (ρ.set i (.fz d)) := by
  have get : ∀ (j : Nat) (s : Sl), (ρ.set i (.fz d))[j]? = some s → (j = i ∧ s = .fz d) ∨ (j ≠ i ∧ ρ[j]? = some s) := fun j s h => by
    by_cases hj : j = i
    · subst hj
      have hl : j < ρ.length := by
        have := (List.getElem?_eq_some_iff.mp h).1
        rwa [List.length_set] at this
      rw [List.getElem?_set_self hl] at h
      cases h
      exact .inl ⟨rfl, rfl⟩
    · rw [List.getElem?_set_ne (Ne.symm hj)] at h
      exact .inr ⟨hj, h⟩
  have getv : ∀ (j : Nat) (w : Option V), j ≠ i → (σ.set i (some v))[j]? = some w → σ[j]? = some w := fun j w hj h => by
    rw [List.getElem?_set_ne (Ne.symm hj)] at h
    exact h
  refine ⟨S.fr, by rw [List.length_set, List.length_set]; exact S.len, fun j s w h1 h2 => ?_, fun a b q m n da db h1 h2 h3 h4 => ?_, fun j m da q h1 h2 => ?_, fun a b q m n da db h1 h2 h3 h4 => ?_, fun j m da q h1 h2 => ?_⟩
  · rcases get j s h1 with ⟨rfl, rfl⟩ | ⟨hj, h1⟩
    · have hl : j < σ.length := by
        have := (List.getElem?_eq_some_iff.mp h2).1
        rwa [List.length_set] at this
      rw [List.getElem?_set_self hl] at h2
      cases h2
      exact r
    · exact S.sl j s w h1 (getv j w hj h2)
  · rcases get a _ h1 with ⟨_, e⟩ | ⟨ha, h1⟩
    · cases e
    · rcases get b _ h2 with ⟨_, e⟩ | ⟨hb, h2⟩
      · cases e
      · exact S.dis a b q _ _ _ _ h1 h2 (getv a _ ha h3) (getv b _ hb h4)
  · rcases get j _ h1 with ⟨_, e⟩ | ⟨hj, h1⟩
    · cases e
    · exact S.own j m da q h1 (getv j _ hj h2)
  · rcases get a _ h1 with ⟨_, e⟩ | ⟨ha, h1⟩
    · cases e
    · rcases get b _ h2 with ⟨_, e⟩ | ⟨hb, h2⟩
      · cases e
      · exact S.disD a b q _ _ _ _ h1 h2 (getv a _ ha h3) (getv b _ hb h4)
  · rcases get j _ h1 with ⟨_, e⟩ | ⟨hj, h1⟩
    · cases e
    · exact S.ownD j m da q h1 (getv j _ hj h2)
/-- a slot is stored: a list of its own -/
theorem SRel.setO (S : SRel K F G H σ ρ) {i : Nat} {p : Addr} {vs : List V} {ds : List D} (hg : G p = none) (h : H p = some (.lst vs)) (hr : RepL K G vs ds) (hf : F.H0 p = none) (hn : ∀ (i : Nat) (l : Kd) (ds : List D), ρ[i]? = some (.ow l ds) → σ[i]? ≠ some (some (.ref p))) :
    SRel K F G H (σ.set i (some (.ref p))) (ρ.set i (.ow .loc ds)) := by
  have get : ∀ (j : Nat) (s : Sl), (ρ.set i (.ow .loc ds))[j]? = some s → (j = i ∧ s = .ow .loc ds) ∨ (j ≠ i ∧ ρ[j]? = some s) := fun j s h => by
    by_cases hj : j = i
    · subst hj
      have hl : j < ρ.length := by
        have := (List.getElem?_eq_some_iff.mp h).1
        rwa [List.length_set] at this
      rw [List.getElem?_set_self hl] at h
      cases h
      exact .inl ⟨rfl, rfl⟩
    · rw [List.getElem?_set_ne (Ne.symm hj)] at h
      exact .inr ⟨hj, h⟩
  have getv : ∀ (j : Nat) (w : Option V), j ≠ i → (σ.set i (some (V.ref p)))[j]? = some w → σ[j]? = some w := fun j w hj h => by
    rw [List.getElem?_set_ne (Ne.symm hj)] at h
    exact h
  have gets : ∀ (w : Option V), (σ.set i (some (V.ref p)))[i]? = some w → w = some (V.ref p) := fun w h2 => by
    have hl : i < σ.length := by
      have := (List.getElem?_eq_some_iff.mp h2).1
      rwa [List.length_set] at this
    rw [List.getElem?_set_self hl] at h2
    cases h2
    rfl
  refine ⟨S.fr, by rw [List.length_set, List.length_set]; exact S.len, fun j s w h1 h2 => ?_, fun a b q m n da db h1 h2 h3 h4 => ?_, fun j m da q h1 h2 => ?_, fun a b q m n da db h1 h2 h3 h4 => ?_, fun j m da q h1 h2 => ?_⟩
  · rcases get j s h1 with ⟨rfl, rfl⟩ | ⟨hj, h1⟩
    · rw [gets w h2]
      exact ⟨p, vs, rfl, hg, h, hr⟩
    · exact S.sl j s w h1 (getv j w hj h2)
  · rcases get a _ h1 with ⟨rfl, e⟩ | ⟨ha, h1⟩
    · rcases get b _ h2 with ⟨rfl, e⟩ | ⟨hb, h2⟩
      · rfl
      · have e1 := gets _ h3
        cases e1
        exact absurd (getv b _ hb h4) (hn b n db h2)
    · rename_i h1'
      rcases get b _ h2 with ⟨rfl, e⟩ | ⟨hb, h2⟩
      · have e1 := gets _ h4
        cases e1
        exact absurd (getv a _ ha h3) (hn a m da (by assumption))
      · exact S.dis a b q _ _ _ _ h1 h2 (getv a _ ha h3) (getv b _ hb h4)
  · rcases get j _ h1 with ⟨rfl, e⟩ | ⟨hj, h1⟩
    · have e1 := gets _ h2
      cases e1
      cases e
      exact hf
    · exact S.own j m da q h1 (getv j _ hj h2)
  · rcases get a _ h1 with ⟨_, e⟩ | ⟨ha, h1⟩
    · cases e
    · rcases get b _ h2 with ⟨_, e⟩ | ⟨hb, h2⟩
      · cases e
      · exact S.disD a b q _ _ _ _ h1 h2 (getv a _ ha h3) (getv b _ hb h4)
  · rcases get j _ h1 with ⟨_, e⟩ | ⟨hj, h1⟩
    · cases e
    · exact S.ownD j m da q h1 (getv j _ hj h2)
/-- a slot is forgotten -/
theorem SRel.wipe1 (S : SRel K F G H σ ρ) (i : Nat) (w : Option V) : SRel K F G H (σ.set i w) (ρ.set i .un) := by
  have get : ∀ (j : Nat) (s : Sl), (ρ.set i .un)[j]? = some s → (j = i ∧ s = .un) ∨ (j ≠ i ∧ ρ[j]? = some s) := fun j s h => by
    by_cases hj : j = i
    · subst hj
      have hl : j < ρ.length := by
        have := (List.getElem?_eq_some_iff.mp h).1
        rwa [List.length_set] at this
      rw [List.getElem?_set_self hl] at h
      cases h
      exact .inl ⟨rfl, rfl⟩
    · rw [List.getElem?_set_ne (Ne.symm hj)] at h
      exact .inr ⟨hj, h⟩
  have getv : ∀ (j : Nat) (u : Option V), j ≠ i → (σ.set i w)[j]? = some u → σ[j]? = some u := fun j u hj h => by
    rw [List.getElem?_set_ne (Ne.symm hj)] at h
    exact h
  refine ⟨S.fr, by rw [List.length_set, List.length_set]; exact S.len, fun j s u h1 h2 => ?_, fun a b q m n da db h1 h2 h3 h4 => ?_, fun j m da q h1 h2 => ?_, fun a b q m n da db h1 h2 h3 h4 => ?_, fun j m da q h1 h2 => ?_⟩
  · rcases get j s h1 with ⟨rfl, rfl⟩ | ⟨hj, h1⟩
    · cases u <;> trivial
    · exact S.sl j s u h1 (getv j u hj h2)
  · rcases get a _ h1 with ⟨_, e⟩ | ⟨ha, h1⟩
    · cases e
    · rcases get b _ h2 with ⟨_, e⟩ | ⟨hb, h2⟩
      · cases e
      · exact S.dis a b q _ _ _ _ h1 h2 (getv a _ ha h3) (getv b _ hb h4)
  · rcases get j _ h1 with ⟨_, e⟩ | ⟨hj, h1⟩
    · cases e
    · exact S.own j m da q h1 (getv j _ hj h2)
  · rcases get a _ h1 with ⟨_, e⟩ | ⟨ha, h1⟩
    · cases e
    · rcases get b _ h2 with ⟨_, e⟩ | ⟨hb, h2⟩
      · cases e
      · exact S.disD a b q _ _ _ _ h1 h2 (getv a _ ha h3) (getv b _ hb h4)
  · rcases get j _ h1 with ⟨_, e⟩ | ⟨hj, h1⟩
    · cases e
    · exact S.ownD j m da q h1 (getv j _ hj h2)
/-- the same state, told from here on -/
def here (G H : Hp) (σ : St) (ρ : Sls) : Fr := ⟨G, H, fun a => (∃ (i : Nat) (l : Kd) (ds : List D), ρ[i]? = some (.ow l ds) ∧ σ[i]? = some (some (.ref a))) ∨ ∃ (i : Nat) (l : Kd) (ds : List (Key × D)), ρ[i]? = some (.od l ds) ∧ σ[i]? = some (some (.ref a)), fun _ _ => True⟩
def unloc : Sl → Sl
  | .ow _ ds => .ow .any ds
  | .od _ ds => .od .any ds
  | s => s
theorem SRel.reframe (S : SRel K F G H σ ρ) : SRel K (here G H σ ρ) G H σ (ρ.map unloc) := by
  have get : ∀ (j : Nat) (s : Sl), (ρ.map unloc)[j]? = some s → ∃ s', ρ[j]? = some s' ∧ s = unloc s' := fun j s h => by
    rw [List.getElem?_map] at h
    cases e : ρ[j]? with
    | none => rw [e] at h; cases h
    | some s' => rw [e] at h; cases h; exact ⟨s', rfl, rfl⟩
  have geto : ∀ (j : Nat) (l : Kd) (ds : List D), (ρ.map unloc)[j]? = some (.ow l ds) → l = .any ∧ ∃ l', ρ[j]? = some (.ow l' ds) := fun j l ds h => by
    obtain ⟨s', h1, h2⟩ := get j _ h
    cases s' with
    | un => cases h2
    | fz d => cases h2
    | ow l' ds' => cases h2; exact ⟨rfl, l', h1⟩
    | od l' ds' => cases h2
  have getd : ∀ (j : Nat) (l : Kd) (ds : List (Key × D)), (ρ.map unloc)[j]? = some (.od l ds) → l = .any ∧ ∃ l', ρ[j]? = some (.od l' ds) := fun j l ds h => by
    obtain ⟨s', h1, h2⟩ := get j _ h
    cases s' with
    | un => cases h2
    | fz d => cases h2
    | ow l' ds' => cases h2
    | od l' ds' => cases h2; exact ⟨rfl, l', h1⟩
  refine ⟨⟨S.ex, fun a o _ => .inl rfl, fun a o h _ => h, fun a o h => ⟨o, h, id⟩, fun a nm m t => t, fun g => g⟩, by rw [List.length_map]; exact S.len, fun j s w h1 h2 => ?_, fun a b q m n da db h1 h2 h3 h4 => ?_, fun j m da q h1 h2 => ?_, fun a b q m n da db h1 h2 h3 h4 => ?_, fun j m da q h1 h2 => ?_⟩
  · obtain ⟨s', h1', rfl⟩ := get j s h1
    have q := S.sl j s' w h1' h2
    cases s' with
    | un => exact q
    | fz d => exact q
    | ow l ds => cases w <;> exact q
    | od l ds => cases w <;> exact q
  · obtain ⟨_, _, h1⟩ := geto a _ _ h1
    obtain ⟨_, _, h2⟩ := geto b _ _ h2
    exact S.dis a b q _ _ _ _ h1 h2 h3 h4
  · obtain ⟨e, l', h1'⟩ := geto j _ _ h1
    subst e
    exact .inr (.inl ⟨j, l', da, h1', h2⟩)
  · obtain ⟨_, _, h1⟩ := getd a _ _ h1
    obtain ⟨_, _, h2⟩ := getd b _ _ h2
    exact S.disD a b q _ _ _ _ h1 h2 h3 h4
  · obtain ⟨e, l', h1'⟩ := getd j _ _ h1
    subst e
    exact .inr (.inr ⟨j, l', da, h1', h2⟩)
theorem FrOk.back (S : SRel K F G H σ ρ) (T : FrOk (here G H σ ρ) G' H') : FrOk F G' H' := by
  refine ⟨T.ex, S.fr.old2 T, fun a o h np => ?_, S.fr.th2 T, fun a nm m t => T.tb a nm True.intro (S.fr.tb a nm m t), fun g => T.gt (S.fr.gt g)⟩
  · have q := S.fr.kp a o h np
    refine T.kp a o q ?_
    rintro (⟨i, l, ds, h1, h2⟩ | ⟨i, l, ds, h1, h2⟩)
    · rcases (S.own i l ds a h1 h2).or with z | z
      · rw [h] at z; cases z
      · exact np z
    · rcases (S.ownD i l ds a h1 h2).or with z | z
      · rw [h] at z; cases z
      · exact np z
theorem FrOk.grow (T : FrOk (here G H σ ρ) G' H') (e : Ex G H) : Ex G G' := T.grow0 e
end
end DL
namespace DL
open PySem L2
open Evl (Ex)

/-! ### judgements over data -/
section
variable (K : PySem.W.Frag) (F : Fr)
def wE (te : TE) (ρ : Sls) (P : Sls → D → Prop) : Prop := ∀ (σ : St) (G H : Hp), SRel K F G H σ ρ → ∀ Q : VK,
  (∀ (v : V) (d : D) (ρ' : Sls) (G' H' : Hp), P ρ' d → SRel K F G' H' σ ρ' → Rep K G' v d → Ex G G' → Q v H') → te σ H Q
def wT (tt : TT) (ρ : Sls) (P : Sls → Bool → Prop) : Prop := ∀ (σ : St) (G H : Hp), SRel K F G H σ ρ → ∀ Q : Bool → Hp → Prop,
  (∀ (b : Bool) (ρ' : Sls) (G' H' : Hp), P ρ' b → SRel K F G' H' σ ρ' → Ex G G' → Q b H') → tt σ H Q
def wA (ta : TA) (ρ : Sls) (P : Sls → List D → Prop) : Prop := ∀ (σ : St) (G H : Hp), SRel K F G H σ ρ → ∀ Q : List V → Hp → Prop,
  (∀ (vs : List V) (ds : List D) (ρ' : Sls) (G' H' : Hp), P ρ' ds → SRel K F G' H' σ ρ' → RepL K G' vs ds → Ex G G' → Q vs H') → ta σ H Q
/-- a new list of its own -/
structure Own (G H : Hp) (σ : St) (ρ : Sls) (p : Addr) (vs : List V) (ds : List D) : Prop where
  g : G p = none
  h : H p = some (.lst vs)
  r : RepL K G vs ds
  f : F.H0 p = none
  n : ∀ (i : Nat) (l : Kd) (ds : List D), ρ[i]? = some (.ow l ds) → σ[i]? ≠ some (some (.ref p))
def wO (te : TE) (ρ : Sls) (P : Sls → List D → Prop) : Prop := ∀ (σ : St) (G H : Hp), SRel K F G H σ ρ → ∀ Q : VK,
  (∀ (p : Addr) (vs : List V) (ds : List D) (ρ' : Sls) (G' H' : Hp), P ρ' ds → SRel K F G' H' σ ρ' → Own K F G' H' σ ρ' p vs ds → Ex G G' → Q (.ref p) H') → te σ H Q
/-- an operation on values -/
def wR (r : R2) (x y : D) (ρ : Sls) (P : Sls → D → Prop) : Prop := ∀ (σ : St) (G H : Hp) (vx vy : V), SRel K F G H σ ρ → Rep K G vx x → Rep K G vy y → ∀ Q : VK,
  (∀ (v : V) (d : D) (ρ' : Sls) (G' H' : Hp), P ρ' d → SRel K F G' H' σ ρ' → Rep K G' v d → Ex G G' → Q v H') → r vx vy H Q
def wRO (r : R2) (x y : D) (ρ : Sls) (P : Sls → List D → Prop) : Prop := ∀ (σ : St) (G H : Hp) (vx vy : V), SRel K F G H σ ρ → Rep K G vx x → Rep K G vy y → ∀ Q : VK,
  (∀ (p : Addr) (vs : List V) (ds : List D) (ρ' : Sls) (G' H' : Hp), P ρ' ds → SRel K F G' H' σ ρ' → Own K F G' H' σ ρ' p vs ds → Ex G G' → Q (.ref p) H') → r vx vy H Q
def wC (r : List V → Hp → VK → Prop) (xs : List D) (ρ : Sls) (P : Sls → D → Prop) : Prop := ∀ (σ : St) (G H : Hp) (vs : List V), SRel K F G H σ ρ → RepL K G vs xs → ∀ Q : VK,
  (∀ (v : V) (d : D) (ρ' : Sls) (G' H' : Hp), P ρ' d → SRel K F G' H' σ ρ' → Rep K G' v d → Ex G G' → Q v H') → r vs H Q
def wCO (r : List V → Hp → VK → Prop) (xs : List D) (ρ : Sls) (P : Sls → List D → Prop) : Prop := ∀ (σ : St) (G H : Hp) (vs : List V), SRel K F G H σ ρ → RepL K G vs xs → ∀ Q : VK,
  (∀ (p : Addr) (ws : List V) (ds : List D) (ρ' : Sls) (G' H' : Hp), P ρ' ds → SRel K F G' H' σ ρ' → Own K F G' H' σ ρ' p ws ds → Ex G G' → Q (.ref p) H') → r vs H Q
/-- a target -/
def wG (g : TG) (x : D) (ρ : Sls) (P : Sls → Prop) : Prop := ∀ (σ : St) (G H : Hp) (v : V), SRel K F G H σ ρ → Rep K G v x → ∀ Q : St → Hp → Prop,
  (∀ (ρ' : Sls) (σ' : St) (G' H' : Hp), P ρ' → SRel K F G' H' σ' ρ' → Ex G G' → Q σ' H') → g v σ H Q
structure Out where
  nx : Sls → Prop
  rt : Sls → D → Prop
  ro : Sls → List D → Prop := fun _ _ => False
  bk : Sls → Prop := fun _ => False
  ct : Sls → Prop := fun _ => False
structure DOk (G0 : Hp) (D1 : Ends) (O : Out) : Prop where
  nx : ∀ (ρ : Sls) (σ : St) (G H : Hp), O.nx ρ → SRel K F G H σ ρ → Ex G0 G → D1.nx σ H
  rt : ∀ (ρ : Sls) (σ : St) (G H : Hp) (v : V) (d : D), O.rt ρ d → SRel K F G H σ ρ → Ex G0 G → Rep K G v d → D1.rt v H
  ro : ∀ (ρ : Sls) (σ : St) (G H : Hp) (p : Addr) (vs : List V) (ds : List D), O.ro ρ ds → SRel K F G H σ ρ → Ex G0 G → G p = none → H p = some (.lst vs) → RepL K G vs ds → F.H0 p = none → D1.rt (.ref p) H
  bk : ∀ (ρ : Sls) (σ : St) (G H : Hp), O.bk ρ → SRel K F G H σ ρ → Ex G0 G → D1.bk σ H
  ct : ∀ (ρ : Sls) (σ : St) (G H : Hp), O.ct ρ → SRel K F G H σ ρ → Ex G0 G → D1.ct σ H
def wS (ts : TS) (ρ : Sls) (O : Out) : Prop := ∀ (σ : St) (G H : Hp), SRel K F G H σ ρ → ∀ D1 : Ends, DOk K F G D1 O → ts D1 σ H
end

section
variable {K : PySem.W.Frag} {F : Fr} {ρ : Sls} {P : Sls → D → Prop} {te ta tb : TE} {r : R2} {x y : D}

theorem wE_mono {P' : Sls → D → Prop} (h : wE K F te ρ P) (m : ∀ ρ d, P ρ d → P' ρ d) : wE K F te ρ P' := fun σ G H S Q q => h σ G H S Q fun v d ρ' G' H' p => q v d ρ' G' H' (m _ _ p)
theorem wT_mono {tt : TT} {P P' : Sls → Bool → Prop} (h : wT K F tt ρ P) (m : ∀ ρ d, P ρ d → P' ρ d) : wT K F tt ρ P' := fun σ G H S Q q => h σ G H S Q fun v d ρ' G' p => q v d ρ' G' (m _ _ p)
theorem wA_mono {ta : TA} {P P' : Sls → List D → Prop} (h : wA K F ta ρ P) (m : ∀ ρ d, P ρ d → P' ρ d) : wA K F ta ρ P' := fun σ G H S Q q => h σ G H S Q fun v d ρ' G' H' p => q v d ρ' G' H' (m _ _ p)
theorem wO_mono {P P' : Sls → List D → Prop} (h : wO K F te ρ P) (m : ∀ ρ d, P ρ d → P' ρ d) : wO K F te ρ P' := fun σ G H S Q q => h σ G H S Q fun v ws d ρ' G' H' p => q v ws d ρ' G' H' (m _ _ p)
theorem wG_mono {g : TG} {x : D} {P P' : Sls → Prop} (h : wG K F g x ρ P) (m : ∀ ρ, P ρ → P' ρ) : wG K F g x ρ P' := fun σ G H v S r Q q => h σ G H v S r Q fun ρ' σ' G' H' p => q ρ' σ' G' H' (m _ p)
theorem wS_mono {ts : TS} {O O' : Out} (h : wS K F ts ρ O) (nx : ∀ ρ, O.nx ρ → O'.nx ρ) (rt : ∀ ρ d, O.rt ρ d → O'.rt ρ d) (ro : ∀ ρ d, O.ro ρ d → O'.ro ρ d) (bk : ∀ ρ, O.bk ρ → O'.bk ρ) (ct : ∀ ρ, O.ct ρ → O'.ct ρ) : wS K F ts ρ O' := fun σ G H S D1 q =>
  h σ G H S D1 ⟨fun a b c d e => q.nx a b c d (nx _ e), fun a b c d e f g => q.rt a b c d e f (rt _ _ g), fun a b c d e f g i => q.ro a b c d e f g (ro _ _ i), fun a b c d e => q.bk a b c d (bk _ e), fun a b c d e => q.ct a b c d (ct _ e)⟩

/-! names, constants -/
theorem wE_var {i : Nat} {d : D} (h : ρ[i]? = some (.fz d)) (p : P ρ d) : wE K F (tVar i) ρ P := fun σ G H S Q q => by
  obtain ⟨v, e, r⟩ := S.fz h
  exact ⟨v, e, q v d ρ G H p S r (Ex.refl G)⟩
theorem wE_int {i : Int} (p : P ρ (.int i)) : wE K F (tC (.int i)) ρ P := fun σ G H S Q q => q _ _ ρ G H p S (.int i) (Ex.refl G)
theorem wE_bl {i : Bool} (p : P ρ (.bl i)) : wE K F (tC (.bl i)) ρ P := fun σ G H S Q q => q _ _ ρ G H p S (.bl i) (Ex.refl G)
theorem wE_str {i : Str} (p : P ρ (.str i)) : wE K F (tC (.str i)) ρ P := fun σ G H S Q q => q _ _ ρ G H p S (.str i) (Ex.refl G)
theorem wE_non (p : P ρ .non) : wE K F (tC .non) ρ P := fun σ G H S Q q => q _ _ ρ G H p S .non (Ex.refl G)
theorem wE_ty {n : String} (p : P ρ (.ty n)) : wE K F (tC (.ty n)) ρ P := fun σ G H S Q q => q _ _ ρ G H p S (.ty n) (Ex.refl G)
theorem wE_con {v : V} {d : D} (hc : ∀ G, Rep K G v d) (p : P ρ d) : wE K F (tC v) ρ P := fun σ G H S Q q => q _ _ ρ G H p S (hc G) (Ex.refl G)
/-- an own list is taken as it stands from now on -/
theorem SRel.freezeAt {G H : Hp} {σ : St} (S : SRel K F G H σ ρ) {i : Nat} {ds : List D} (h : ρ[i]? = some (.ow .loc ds)) : ∃ p vs G', σ[i]? = some (some (.ref p)) ∧ SRel K F G' H σ (ρ.set i (.fz (.lst ds))) ∧ Ex G G' ∧ G' p = some (.lst vs) ∧ RepL K G' vs ds := by
  obtain ⟨p, vs, e, hg, hh, hr⟩ := S.ow h
  have hf : F.H0 p = none := S.own i .loc ds p h e
  have S1 : SRel K F G H σ (ρ.set i .un) := by
    have q := S.wipe1 i (some (.ref p))
    have e1 : σ.set i (some (.ref p)) = σ := by
      apply List.ext_getElem?
      intro j
      by_cases hj : j = i
      · subst hj
        rw [List.getElem?_set_self (List.getElem?_eq_some_iff.mp e).1, e]
      · rw [List.getElem?_set_ne (Ne.symm hj)]
    rw [e1] at q
    exact q
  have hn : ∀ (j : Nat) (l : Kd) (es : List D), (ρ.set i .un)[j]? = some (.ow l es) → σ[j]? ≠ some (some (.ref p)) := fun j l es h1 h2 => by
    by_cases hj : j = i
    · subst hj
      rw [List.getElem?_set_self (List.getElem?_eq_some_iff.mp h).1] at h1
      cases h1
    · rw [List.getElem?_set_ne (Ne.symm hj)] at h1
      exact hj (S.dis j i p l .loc es ds h1 h h2 e)
  have S2 := S1.freeze (o := .lst vs) hg hh hf hn (S1.ndL hh)
  have ex : Ex G (upd G p (.lst vs)) := Ex.new hg
  have S3 := S2.set (i := i) (v := .ref p) (d := .lst ds) (.lst upd_same (RepL.up ex hr))
  have e1 : σ.set i (some (.ref p)) = σ := by
    apply List.ext_getElem?
    intro j
    by_cases hj : j = i
    · subst hj
      rw [List.getElem?_set_self (List.getElem?_eq_some_iff.mp e).1, e]
    · rw [List.getElem?_set_ne (Ne.symm hj)]
  rw [e1, List.set_set] at S3
  exact ⟨p, vs, _, e, S3, ex, upd_same, RepL.up ex hr⟩
theorem wE_varF {i : Nat} {ds : List D} (h : ρ[i]? = some (.ow .loc ds)) (p : P (ρ.set i (.fz (.lst ds))) (.lst ds)) : wE K F (tVar i) ρ P := fun σ G H S Q q => by
  obtain ⟨a, vs, G', e, S', ex, hg, hr⟩ := S.freezeAt h
  exact ⟨.ref a, e, q _ _ _ G' H p S' (.lst hg hr) ex⟩
/-- an own list made is taken as a thing -/
theorem Own.freeze {G H : Hp} {σ : St} {p : Addr} {vs : List V} {ds : List D} (S : SRel K F G H σ ρ) (o : Own K F G H σ ρ p vs ds) : ∃ G', SRel K F G' H σ ρ ∧ Ex G G' ∧ Rep K G' (.ref p) (.lst ds) :=
  ⟨upd G p (.lst vs), S.freeze o.g o.h o.f o.n (S.ndL o.h), Ex.new o.g, .lst upd_same (RepL.up (Ex.new o.g) o.r)⟩
theorem wE_ofO (h : wO K F te ρ fun ρ' ds => P ρ' (.lst ds)) : wE K F te ρ P := fun σ G H S Q q => h σ G H S Q fun p vs ds ρ' G' H' pp S' o ex => by
  obtain ⟨G2, S2, e2, r2⟩ := o.freeze S'
  exact q _ _ ρ' G2 H' pp S2 r2 (ex.trans e2)
theorem wRO_E (h : wRO K F r x y ρ fun ρ' ds => P ρ' (.lst ds)) : wR K F r x y ρ P := fun σ G H vx vy S rx ry Q q => h σ G H vx vy S rx ry Q fun p vs ds ρ' G' H' pp S' o ex => by
  obtain ⟨G2, S2, e2, r2⟩ := o.freeze S'
  exact q _ _ ρ' G2 H' pp S2 r2 (ex.trans e2)

/-! operators -/
theorem wE_op (h : wE K F ta ρ fun ρ1 x => wE K F tb ρ1 fun ρ2 y => wR K F r x y ρ2 P) : wE K F (tOp r ta tb) ρ P := fun σ G H S Q q =>
  h σ G H S _ fun vx x ρ1 G1 H1 h1 S1 r1 e1 => h1 σ G1 H1 S1 _ fun vy y ρ2 G2 H2 h2 S2 r2 e2 =>
    h2 σ G2 H2 vx vy S2 (r1.up e2) r2 Q fun v d ρ' G' H' p S' r' e' => q v d ρ' G' H' p S' r' ((e1.trans e2).trans e')
theorem wO_op {P : Sls → List D → Prop} (h : wE K F ta ρ fun ρ1 x => wE K F tb ρ1 fun ρ2 y => wRO K F r x y ρ2 P) : wO K F (tOp r ta tb) ρ P := fun σ G H S Q q =>
  h σ G H S _ fun vx x ρ1 G1 H1 h1 S1 r1 e1 => h1 σ G1 H1 S1 _ fun vy y ρ2 G2 H2 h2 S2 r2 e2 =>
    h2 σ G2 H2 vx vy S2 (r1.up e2) r2 Q fun p vs d ρ' G' H' pp S' r' e' => q p vs d ρ' G' H' pp S' r' ((e1.trans e2).trans e')
theorem wR_I0 {g : Int → Int → Int} {i j : Int} (p : P ρ (.int (g i j))) : wR K F (rI0 fun i j => .int (g i j)) (.int i) (.int j) ρ P := fun σ G H vx vy S rx ry Q q => by
  cases rx
  cases ry
  exact ⟨i, j, rfl, rfl, q _ _ ρ G H p S (.int _) (Ex.refl G)⟩
theorem wR_B0 {g : Int → Int → Bool} {i j : Int} (p : P ρ (.bl (g i j))) : wR K F (rI0 fun i j => .bl (g i j)) (.int i) (.int j) ρ P := fun σ G H vx vy S rx ry Q q => by
  cases rx
  cases ry
  exact ⟨i, j, rfl, rfl, q _ _ ρ G H p S (.bl _) (Ex.refl G)⟩
theorem wR_I {C : Int → Int → Prop} {g : Int → Int → Int} {i j : Int} (hc : C i j) (p : P ρ (.int (g i j))) : wR K F (rI C fun i j => .int (g i j)) (.int i) (.int j) ρ P := fun σ G H vx vy S rx ry Q q => by
  cases rx
  cases ry
  exact ⟨i, j, rfl, rfl, hc, q _ _ ρ G H p S (.int _) (Ex.refl G)⟩
/-! data that == goes through -/
mutual
def toPy : D → Option PyData
  | .non => some .none
  | .bl b => some (.bool b)
  | .int i => some (.int i)
  | .str x => some (.str x)
  | .lst xs => (toPyL xs).map .list
  | .tup xs => (toPyL xs).map .tuple
  | .scr _ => none
  | .ty _ => none
  | .adr _ => none
  | .dct _ => none
  | .dkv _ => none
  | .exc _ _ _ _ => none
  | .obj _ _ => none
  | .fn _ _ _ _ _ => none
def toPyL : List D → Option (List PyData)
  | [] => some []
  | d :: ds => match toPy d, toPyL ds with
    | some p, some ps => some (p :: ps)
    | _, _ => none
end
mutual
theorem Rep.dp {G H : Hp} (ex : Ex G H) : ∀ (d : D) (v : V) (p : PyData), Rep K G v d → toPy d = some p → Dp K H v p
  | .non, _, _, h, e => by cases h; simp [toPy] at e; subst e; exact .non
  | .bl b, _, _, h, e => by cases h; simp [toPy] at e; subst e; exact .bl b
  | .int b, _, _, h, e => by cases h; simp [toPy] at e; subst e; exact .int b
  | .str b, _, _, h, e => by cases h; simp [toPy] at e; subst e; exact .str b
  | .lst ds, _, _, h, e => by
    cases h with
    | lst h1 h2 =>
      simp only [toPy, Option.map_eq_some_iff] at e
      obtain ⟨ps, e1, rfl⟩ := e
      exact .lst (SqL.of (ex _ _ h1)) (RepL.dp ex ds _ ps h2 e1)
  | .tup ds, _, _, h, e => by
    cases h with
    | tup h1 h2 =>
      simp only [toPy, Option.map_eq_some_iff] at e
      obtain ⟨ps, e1, rfl⟩ := e
      exact .tup (Evl.ex_t ex h1) (RepL.dp ex ds _ ps h2 e1)
  | .scr _, _, _, _, e => by simp [toPy] at e
  | .ty _, _, _, _, e => by simp [toPy] at e
  | .adr _, _, _, _, e => by simp [toPy] at e
  | .dct _, _, _, _, e => by simp [toPy] at e
  | .dkv _, _, _, _, e => by simp [toPy] at e
  | .exc _ _ _ _, _, _, _, e => by simp [toPy] at e
  | .obj _ _, _, _, _, e => by simp [toPy] at e
  | .fn _ _ _ _ _, _, _, _, e => by simp [toPy] at e
theorem RepL.dp {G H : Hp} (ex : Ex G H) : ∀ (ds : List D) (vs : List V) (ps : List PyData), RepL K G vs ds → toPyL ds = some ps → DpAll K H vs ps
  | [], _, _, h, e => by cases h; simp [toPyL] at e; subst e; exact .nil
  | d :: ds, _, _, h, e => by
    cases h with
    | cons h1 h2 =>
      rw [toPyL] at e
      cases e1 : toPy d with
      | none => rw [e1] at e; cases e
      | some p =>
        cases e2 : toPyL ds with
        | none => rw [e1, e2] at e; cases e
        | some ps =>
          rw [e1, e2] at e
          cases e
          exact .cons (Rep.dp ex d _ p h1 e1) (RepL.dp ex ds _ ps h2 e2)
end
theorem wR_eqD {a b : PyData} (h1 : toPy x = some a) (h2 : toPy y = some b) (s1 : SeqAt.shaped a = true) (s2 : SeqAt.shaped b = true) (p : P ρ (.bl (PyData.eqv a b))) : wR K F (rEqD K) x y ρ P := fun σ G H vx vy S rx ry Q q =>
  ⟨a, b, Rep.dp S.ex x vx a rx h1, Rep.dp S.ex y vy b ry h2, s1, s2, q _ _ ρ G H p S (.bl _) (Ex.refl G)⟩
theorem wR_neD {a b : PyData} (h1 : toPy x = some a) (h2 : toPy y = some b) (s1 : SeqAt.shaped a = true) (s2 : SeqAt.shaped b = true) (p : P ρ (.bl (!PyData.eqv a b))) : wR K F (rNeD K) x y ρ P := fun σ G H vx vy S rx ry Q q =>
  ⟨a, b, Rep.dp S.ex x vx a rx h1, Rep.dp S.ex y vy b ry h2, s1, s2, q _ _ ρ G H p S (.bl _) (Ex.refl G)⟩
/-- is None -/
def isN : D → Bool
  | .non => true
  | _ => false
theorem Rep.isN {G : Hp} {v : V} {d : D} (h : Rep K G v d) : decide (v = .non) = DL.isN d := by
  cases h <;> first | rfl | (exact decide_eq_false (fun z => nomatch z))
theorem wR_isN (p : P ρ (.bl (isN x))) : wR K F (fun x y H Q => y = .non ∧ Q (.bl (decide (x = .non))) H) x .non ρ P := fun σ G H vx vy S rx ry Q q => by
  cases ry
  refine ⟨rfl, ?_⟩
  rw [rx.isN]
  exact q _ _ ρ G H p S (.bl _) (Ex.refl G)
theorem wR_notN (p : P ρ (.bl (!isN x))) : wR K F (fun x y H Q => y = .non ∧ Q (.bl (!decide (x = .non))) H) x .non ρ P := fun σ G H vx vy S rx ry Q q => by
  cases ry
  refine ⟨rfl, ?_⟩
  rw [rx.isN]
  exact q _ _ ρ G H p S (.bl _) (Ex.refl G)
/-- items -/
theorem atI_rep {G : Hp} {vs : List V} {ds : List D} {i : Int} {d : D} (h : RepL K G vs ds) (e : atI ds i = some d) : ∃ v, atI vs i = some v ∧ Rep K G v d := by
  unfold atI at e ⊢
  rw [h.length]
  cases q : ixN ds.length i with
  | none => rw [q] at e; cases e
  | some j =>
    rw [q] at e
    obtain ⟨v, h1, h2⟩ := h.get (i := j) (by simpa using e)
    exact ⟨v, by simpa using h1, h2⟩
theorem wR_ixL {ds : List D} {i : Int} {d : D} (h : atI ds i = some d) (p : P ρ d) : wR K F (rIxL K) (.lst ds) (.int i) ρ P := fun σ G H vx vy S rx ry Q q => by
  cases ry
  cases rx with
  | lst h1 h2 =>
    obtain ⟨v, e, r⟩ := atI_rep h2 h
    exact ⟨_, _, i, v, rfl, rfl, SqL.of (S.ex _ _ h1), e, q _ _ ρ G H p S r (Ex.refl G)⟩
theorem wR_ixT {ds : List D} {i : Int} {d : D} (h : atI ds i = some d) (p : P ρ d) : wR K F (rIxT K) (.tup ds) (.int i) ρ P := fun σ G H vx vy S rx ry Q q => by
  cases ry
  cases rx with
  | tup h1 h2 =>
    obtain ⟨v, e, r⟩ := atI_rep h2 h
    exact ⟨_, _, i, v, rfl, rfl, Evl.ex_t S.ex h1, e, q _ _ ρ G H p S r (Ex.refl G)⟩
theorem atI_of {α : Type} {ds : List α} {i : Int} (h0 : 0 ≤ i) (h1 : i < (ds.length : Int)) : ∃ d, d ∈ ds ∧ atI ds i = some d := by
  have hl : i.toNat < ds.length := by omega
  refine ⟨ds[i.toNat], List.getElem_mem hl, ?_⟩
  have e : i = (i.toNat : Int) := by omega
  conv => lhs; rw [e]
  exact atI_nat (List.getElem?_eq_getElem hl)
/-- an item of a written list at a drawn place -/
theorem wR_ixLAll {ds : List D} {i : Int} (h0 : 0 ≤ i) (h1 : i < (ds.length : Int)) (p : ∀ d, d ∈ ds → P ρ d) : wR K F (rIxL K) (.lst ds) (.int i) ρ P := by
  obtain ⟨d, hm, e⟩ := atI_of h0 h1
  exact wR_ixL e (p d hm)
theorem wR_ixScr {ns : List Int} {i : Int} {n : Int} (h : atI ns i = some n) (p : P ρ (.int n)) : wR K F (rIxL K) (.scr ns) (.int i) ρ P := fun σ G H vx vy S rx ry Q q => by
  cases ry
  cases rx with
  | scr h1 =>
    refine ⟨_, _, i, .int n, rfl, rfl, Evl.ex_l S.ex h1, ?_, q _ _ ρ G H p S (.int n) (Ex.refl G)⟩
    unfold atI at h ⊢
    rw [List.length_map]
    cases e : ixN ns.length i with
    | none => rw [e] at h; cases h
    | some j =>
      rw [e] at h
      simp only [Option.bind_some] at h ⊢
      rw [List.getElem?_map, h]
      rfl
/-- an item of an own list -/
theorem wE_ixO {i : Nat} {l : Kd} {ds : List D} (h : ρ[i]? = some (.ow l ds)) (hb : wE K F tb ρ fun ρ2 y => ∃ (k : Int) (ds2 : List D) (d : D), y = .int k ∧ ρ2[i]? = some (.ow l ds2) ∧ atI ds2 k = some d ∧ P ρ2 d) : wE K F (tOp (rIxL K) (tVar i) tb) ρ P := fun σ G H S Q q => by
  obtain ⟨p, vs, e, hg, hh, hr⟩ := S.ow h
  refine ⟨.ref p, e, hb σ G H S _ fun vy y ρ2 G2 H2 hp S2 r2 e2 => ?_⟩
  obtain ⟨k, ds2, d, rfl, hi2, ha, pp⟩ := hp
  obtain ⟨p2, vs2, e', hg2, hh2, hr2⟩ := S2.ow hi2
  rw [e] at e'
  cases e'
  cases r2
  obtain ⟨v, ev, rv⟩ := atI_rep hr2 ha
  exact ⟨p, vs2, k, v, rfl, rfl, SqL.of hh2, ev, q _ _ ρ2 G2 H2 pp S2 rv e2⟩

/-- a truth -/
def onB (P : Bool → Prop) : D → Prop
  | .bl b => P b
  | _ => False
theorem onB_bl {P : Bool → Prop} {b : Bool} (p : P b) : onB P (.bl b) := p
theorem onB_ex {P : Bool → Prop} : ∀ {d : D}, onB P d → ∃ b, d = .bl b ∧ P b
  | .bl b, h => ⟨b, rfl, h⟩
  | .non, h => h.elim
  | .int _, h => h.elim
  | .str _, h => h.elim
  | .ty _, h => h.elim
  | .adr _, h => h.elim
  | .lst _, h => h.elim
  | .tup _, h => h.elim
  | .scr _, h => h.elim
  | .dct _, h => h.elim
  | .obj _ _, h => h.elim
/-- two ways, told apart by a truth -/
structure Ways (b : Bool) (A B : Prop) : Prop where
  yes : b = true → A
  no : b = false → B
theorem ways {b : Bool} {A B : Prop} (h1 : b = true → A) (h2 : b = false → B) : Ways b A B := ⟨h1, h2⟩
theorem ways_t {A B : Prop} (h1 : A) : Ways true A B := ⟨fun _ => h1, fun z => (nomatch z)⟩
theorem ways_f {A B : Prop} (h1 : B) : Ways false A B := ⟨fun z => (nomatch z), fun _ => h1⟩
theorem ways_not {b : Bool} {A B : Prop} (h : Ways b B A) : Ways (!b) A B := by
  cases b with
  | true => exact ways_f (h.yes rfl)
  | false => exact ways_t (h.no rfl)
theorem ways_dec {p : Prop} {h : Decidable p} {A B : Prop} (h1 : p → A) (h2 : ¬ p → B) : Ways (@decide p h) A B := ⟨fun z => h1 (of_decide_eq_true z), fun z => h2 (of_decide_eq_false z)⟩
theorem ways_ev_t {b : Bool} {A B : Prop} (e : b = true) (h : A) : Ways b A B := by rw [e]; exact ways_t h
theorem ways_ev_f {b : Bool} {A B : Prop} (e : b = false) (h : B) : Ways b A B := by rw [e]; exact ways_f h
theorem ways_same {b : Bool} {A : Prop} (h : A) : Ways b A A := ⟨fun _ => h, fun _ => h⟩

/-! and, or, not, if as values -/
theorem wE_andV (h : wE K F ta ρ fun ρ1 => onB fun b => Ways b (wE K F tb ρ1 P) (P ρ1 (.bl false))) : wE K F (tAndV ta tb) ρ P := fun σ G H S Q q =>
  h σ G H S _ fun vx x ρ1 G1 H1 h1 S1 r1 e1 => by
    obtain ⟨b, rfl, ⟨ht, hf⟩⟩ := onB_ex h1
    cases r1
    refine ⟨b, rfl, ?_⟩
    cases b with
    | true => exact ht rfl σ G1 H1 S1 Q fun v d ρ' G' H' p S' r' e' => q v d ρ' G' H' p S' r' (e1.trans e')
    | false => exact q _ _ ρ1 G1 H1 (hf rfl) S1 (.bl false) e1
theorem wE_orV (h : wE K F ta ρ fun ρ1 => onB fun b => Ways b (P ρ1 (.bl true)) (wE K F tb ρ1 P)) : wE K F (tOrV ta tb) ρ P := fun σ G H S Q q =>
  h σ G H S _ fun vx x ρ1 G1 H1 h1 S1 r1 e1 => by
    obtain ⟨b, rfl, ⟨hf, ht⟩⟩ := onB_ex h1
    cases r1
    refine ⟨b, rfl, ?_⟩
    cases b with
    | false => exact ht rfl σ G1 H1 S1 Q fun v d ρ' G' H' p S' r' e' => q v d ρ' G' H' p S' r' (e1.trans e')
    | true => exact q _ _ ρ1 G1 H1 (hf rfl) S1 (.bl true) e1
theorem wE_notV (h : wE K F ta ρ fun ρ1 => onB fun b => P ρ1 (.bl (!b))) : wE K F (tNotV ta) ρ P := fun σ G H S Q q =>
  h σ G H S _ fun vx x ρ1 G1 H1 h1 S1 r1 e1 => by
    obtain ⟨b, rfl, hp⟩ := onB_ex h1
    cases r1
    exact ⟨b, rfl, q _ _ ρ1 G1 H1 hp S1 (.bl _) e1⟩
theorem wE_if {t : TT} (h : wT K F t ρ fun ρ1 b => Ways b (wE K F ta ρ1 P) (wE K F tb ρ1 P)) : wE K F (tIf t ta tb) ρ P := fun σ G H S Q q =>
  h σ G H S _ fun b ρ1 G1 H1 h1 S1 e1 => by
    cases b with
    | true => exact h1.1 rfl σ G1 H1 S1 Q fun v d ρ' G' H' p S' r' e' => q v d ρ' G' H' p S' r' (e1.trans e')
    | false => exact h1.2 rfl σ G1 H1 S1 Q fun v d ρ' G' H' p S' r' e' => q v d ρ' G' H' p S' r' (e1.trans e')
theorem wE_chain {r' : R2} {tc : TE} (h : wE K F ta ρ fun ρ1 x => wE K F tb ρ1 fun ρ2 y => wR K F r x y ρ2 fun ρ3 => onB fun b => Ways b (wE K F tc ρ3 fun ρ4 w => wR K F r' y w ρ4 P) (P ρ3 (.bl false))) : wE K F (tChain r r' ta tb tc) ρ P := fun σ G H S Q q =>
  h σ G H S _ fun vx x ρ1 G1 H1 h1 S1 r1 e1 => h1 σ G1 H1 S1 _ fun vy y ρ2 G2 H2 h2 S2 r2 e2 =>
    h2 σ G2 H2 vx vy S2 (r1.up e2) r2 _ fun v d ρ3 G3 H3 hp S3 r3 e3 => by
      obtain ⟨b, rfl, ⟨ht, hf⟩⟩ := onB_ex hp
      cases r3
      refine ⟨b, rfl, ?_⟩
      cases b with
      | true => exact ht rfl σ G3 H3 S3 _ fun vw w ρ4 G4 H4 h4 S4 r4 e4 => h4 σ G4 H4 vy vw S4 ((r2.up e3).up e4) r4 Q fun v d ρ' G' H' p S' r' e' => q v d ρ' G' H' p S' r' (((e1.trans e2).trans e3).trans (e4.trans e'))
      | false => exact q _ _ ρ3 G3 H3 (hf rfl) S3 (.bl false) ((e1.trans e2).trans e3)

/-! tests -/
section
variable {t u : TT} {PB : Sls → Bool → Prop}
theorem wT_test (h : wE K F te ρ fun ρ1 => onB (PB ρ1)) : wT K F (tTest te) ρ PB := fun σ G H S Q q =>
  h σ G H S _ fun vx x ρ1 G1 H1 h1 S1 r1 e1 => by
    obtain ⟨b, rfl, hp⟩ := onB_ex h1
    cases r1
    exact ⟨b, rfl, q _ ρ1 G1 H1 hp S1 e1⟩
theorem wT_B (h : wE K F te ρ fun ρ1 => onB (PB ρ1)) : wT K F (tB te) ρ PB := wT_test h
theorem wT_not (h : wT K F t ρ fun ρ1 b => PB ρ1 (!b)) : wT K F (tNot t) ρ PB := fun σ G H S Q q => h σ G H S _ fun b ρ1 G1 H1 h1 S1 e1 => q _ ρ1 G1 H1 h1 S1 e1
theorem wT_and (h : wT K F t ρ fun ρ1 b => Ways b (wT K F u ρ1 PB) (PB ρ1 false)) : wT K F (tAnd t u) ρ PB := fun σ G H S Q q =>
  h σ G H S _ fun b ρ1 G1 H1 h1 S1 e1 => by
    cases b with
    | true => exact h1.1 rfl σ G1 H1 S1 Q fun b ρ' G' H' p S' e' => q b ρ' G' H' p S' (e1.trans e')
    | false => exact q _ ρ1 G1 H1 (h1.2 rfl) S1 e1
theorem wT_or (h : wT K F t ρ fun ρ1 b => Ways b (PB ρ1 true) (wT K F u ρ1 PB)) : wT K F (tOr t u) ρ PB := fun σ G H S Q q =>
  h σ G H S _ fun b ρ1 G1 H1 h1 S1 e1 => by
    cases b with
    | false => exact h1.2 rfl σ G1 H1 S1 Q fun b ρ' G' H' p S' e' => q b ρ' G' H' p S' (e1.trans e')
    | true => exact q _ ρ1 G1 H1 (h1.1 rfl) S1 e1
end

/-! arguments, displays -/
theorem wA_nil {PA : Sls → List D → Prop} (p : PA ρ []) : wA K F tNil ρ PA := fun σ G H S Q q => q _ _ ρ G H p S .nil (Ex.refl G)
theorem wA_cons {PA : Sls → List D → Prop} {tr : TA} (h : wE K F ta ρ fun ρ1 x => wA K F tr ρ1 fun ρ2 xs => PA ρ2 (x :: xs)) : wA K F (tCons ta tr) ρ PA := fun σ G H S Q q =>
  h σ G H S _ fun vx x ρ1 G1 H1 h1 S1 r1 e1 => h1 σ G1 H1 S1 _ fun vs xs ρ2 G2 H2 h2 S2 r2 e2 => q _ _ ρ2 G2 H2 h2 S2 (.cons (r1.up e2) r2) (e1.trans e2)
theorem wE_tup {t : TA} (h : wA K F t ρ fun ρ1 ds => ds.length ≤ 100000 ∧ P ρ1 (.tup ds)) : wE K F (tTup t) ρ P := fun σ G H S Q q =>
  h σ G H S _ fun vs ds ρ1 G1 H1 h1 S1 r1 e1 => ⟨Evl.sz_of (by rw [r1.length]; exact h1.1), fun p hp =>
    q _ _ ρ1 (upd G1 p (.tup vs)) _ h1.2 (S1.new hp) (.tup (SqT.of upd_same) (r1.up (Ex.new (S1.fr.freshG hp)))) (e1.trans (Ex.new (S1.fr.freshG hp)))⟩
theorem Own.alloc {G H : Hp} {σ : St} {p : Addr} {vs : List V} {ds : List D} (S : SRel K F G H σ ρ) (hp : H p = none) (r : RepL K G vs ds) : Own K F G (upd H p (.lst vs)) σ ρ p vs ds :=
  ⟨S.fr.freshG hp, upd_same, r, S.fr.fresh hp, S.notOwn hp⟩
theorem wO_lst {t : TA} {PO : Sls → List D → Prop} (h : wA K F t ρ fun ρ1 ds => ds.length ≤ 100000 ∧ PO ρ1 ds) : wO K F (tLst t) ρ PO := fun σ G H S Q q =>
  h σ G H S _ fun vs ds ρ1 G1 H1 h1 S1 r1 e1 => ⟨Evl.sz_of (by rw [r1.length]; exact h1.1), fun p hp => q _ vs ds ρ1 G1 _ h1.2 (S1.alloc hp) (.alloc S1 hp r1) e1⟩

/-! list operators -/
theorem wRO_cat {xs ys : List D} {PO : Sls → List D → Prop} (hl : xs.length + ys.length ≤ 100000) (p : PO ρ (xs ++ ys)) : wRO K F rCat (.lst xs) (.lst ys) ρ PO := fun σ G H vx vy S rx ry Q q => by
  cases rx with
  | lst h1 h2 =>
    cases ry with
    | lst h3 h4 => exact ⟨_, _, _, _, rfl, rfl, S.ex _ _ h1, S.ex _ _ h3, Evl.sz_of (by rw [h2.length, h4.length]; exact hl), fun a ha => q _ _ _ ρ G _ p (S.alloc ha) (.alloc S ha (h2.append h4)) (Ex.refl G)⟩
/-- in, among flat things -/
def flatD : D → Bool
  | .non => true
  | .bl _ => true
  | .int _ => true
  | .str _ => true
  | _ => false
def valD : D → V
  | .non => .non
  | .bl b => .bl b
  | .int i => .int i
  | .str x => .str x
  | _ => .non
theorem Rep.flat {G : Hp} {v : V} {d : D} (h : Rep K G v d) (f : flatD d = true) : v = valD d ∧ flatV v = true := by
  cases h <;> first | exact ⟨rfl, rfl⟩ | cases f
theorem RepL.flat {G : Hp} : ∀ {vs : List V} {ds : List D}, RepL K G vs ds → ds.all flatD = true → vs = ds.map valD ∧ vs.all flatV = true
  | _, _, .nil, _ => ⟨rfl, rfl⟩
  | _, _, .cons r t, f => by
    rw [List.all_cons, Bool.and_eq_true] at f
    obtain ⟨e1, f1⟩ := r.flat f.1
    obtain ⟨e2, f2⟩ := RepL.flat t f.2
    refine ⟨by rw [e1, e2]; rfl, by rw [List.all_cons, f1, f2]; rfl⟩
def inD (x : D) (ds : List D) : Bool := inV (valD x) (ds.map valD)
theorem wR_inL {ds : List D} (hx : flatD x = true) (hd : ds.all flatD = true) (p : P ρ (.bl (inD x ds))) : wR K F (rIn K false) x (.lst ds) ρ P := fun σ G H vx vy S rx ry Q q => by
  obtain ⟨e1, f1⟩ := rx.flat hx
  cases ry with
  | lst h1 h2 =>
    obtain ⟨e2, f2⟩ := h2.flat hd
    refine ⟨_, _, rfl, .inl (SqL.of (S.ex _ _ h1)), f1, f2, ?_⟩
    subst e1 e2
    exact q _ _ ρ G H p S (.bl _) (Ex.refl G)
theorem wR_niL {ds : List D} (hx : flatD x = true) (hd : ds.all flatD = true) (p : P ρ (.bl (!inD x ds))) : wR K F (rIn K true) x (.lst ds) ρ P := fun σ G H vx vy S rx ry Q q => by
  obtain ⟨e1, f1⟩ := rx.flat hx
  cases ry with
  | lst h1 h2 =>
    obtain ⟨e2, f2⟩ := h2.flat hd
    refine ⟨_, _, rfl, .inl (SqL.of (S.ex _ _ h1)), f1, f2, ?_⟩
    subst e1 e2
    exact q _ _ ρ G H p S (.bl _) (Ex.refl G)
theorem wR_inT {ds : List D} (hx : flatD x = true) (hd : ds.all flatD = true) (p : P ρ (.bl (inD x ds))) : wR K F (rIn K false) x (.tup ds) ρ P := fun σ G H vx vy S rx ry Q q => by
  obtain ⟨e1, f1⟩ := rx.flat hx
  cases ry with
  | tup h1 h2 =>
    obtain ⟨e2, f2⟩ := h2.flat hd
    refine ⟨_, _, rfl, .inr (Evl.ex_t S.ex h1), f1, f2, ?_⟩
    subst e1 e2
    exact q _ _ ρ G H p S (.bl _) (Ex.refl G)
theorem wR_niT {ds : List D} (hx : flatD x = true) (hd : ds.all flatD = true) (p : P ρ (.bl (!inD x ds))) : wR K F (rIn K true) x (.tup ds) ρ P := fun σ G H vx vy S rx ry Q q => by
  obtain ⟨e1, f1⟩ := rx.flat hx
  cases ry with
  | tup h1 h2 =>
    obtain ⟨e2, f2⟩ := h2.flat hd
    refine ⟨_, _, rfl, .inr (Evl.ex_t S.ex h1), f1, f2, ?_⟩
    subst e1 e2
    exact q _ _ ρ G H p S (.bl _) (Ex.refl G)

/-! built-ins -/
theorem wE_cb {r : List V → Hp → VK → Prop} {t : TA} (h : wA K F t ρ fun ρ1 ds => wC K F r ds ρ1 P) : wE K F (tCB r t) ρ P := fun σ G H S Q q =>
  h σ G H S _ fun vs ds ρ1 G1 H1 h1 S1 r1 e1 => h1 σ G1 H1 vs S1 r1 Q fun v d ρ' G' H' p S' r' e' => q v d ρ' G' H' p S' r' (e1.trans e')
theorem wO_cb {r : List V → Hp → VK → Prop} {t : TA} {PO : Sls → List D → Prop} (h : wA K F t ρ fun ρ1 ds => wCO K F r ds ρ1 PO) : wO K F (tCB r t) ρ PO := fun σ G H S Q q =>
  h σ G H S _ fun vs ds ρ1 G1 H1 h1 S1 r1 e1 => h1 σ G1 H1 vs S1 r1 Q fun p ws d ρ' G' H' pp S' r' e' => q p ws d ρ' G' H' pp S' r' (e1.trans e')
/-- len -/
def lenD : D → Option Nat
  | .lst xs => some xs.length
  | .tup xs => some xs.length
  | .scr ns => some ns.length
  | .str x => if x.length ≤ 100000 then some x.length else none
  | _ => none
theorem wC_len {n : Nat} (h : lenD x = some n) (p : P ρ (.int n)) : wC K F (fun xs H Q => ∃ x n, xs = [x] ∧ LenV K x H n ∧ Q (.int n) H) [x] ρ P := fun σ G H vs S rs Q q => by
  cases rs with
  | cons rx rr =>
    cases rr
    refine ⟨_, n, rfl, ?_, q _ _ ρ G H p S (.int n) (Ex.refl G)⟩
    cases rx with
    | lst h1 h2 => cases h; exact .inl ⟨_, SqL.of (S.ex _ _ h1), h2.length.symm⟩
    | tup h1 h2 => cases h; exact .inr ⟨_, Evl.ex_t S.ex h1, h2.length.symm⟩
    | scr h1 => cases h; exact .inl ⟨_, Evl.ex_l S.ex h1, by rw [List.length_map]⟩
    | str s =>
      have h' : (if s.length ≤ 100000 then some s.length else none) = some n := h
      by_cases hs : s.length ≤ 100000
      · rw [if_pos hs] at h'
        cases h'
        exact ⟨Evl.sz_of hs, rfl⟩
      · rw [if_neg hs] at h'
        cases h'
    | _ => cases h
theorem wC_max2 {i j : Int} (p : P ρ (.int (if j > i then j else i))) : wC K F (fun xs H Q => ∃ i j, xs = [.int i, .int j] ∧ Q (.int (if j > i then j else i)) H) [.int i, .int j] ρ P := fun σ G H vs S rs Q q => by
  cases rs with
  | cons r1 rr =>
    cases rr with
    | cons r2 rr =>
      cases rr; cases r1; cases r2
      exact ⟨i, j, rfl, q _ _ ρ G H p S (.int _) (Ex.refl G)⟩
theorem wC_min2 {i j : Int} (p : P ρ (.int (if j < i then j else i))) : wC K F (fun xs H Q => ∃ i j, xs = [.int i, .int j] ∧ Q (.int (if j < i then j else i)) H) [.int i, .int j] ρ P := fun σ G H vs S rs Q q => by
  cases rs with
  | cons r1 rr =>
    cases rr with
    | cons r2 rr =>
      cases rr; cases r1; cases r2
      exact ⟨i, j, rfl, q _ _ ρ G H p S (.int _) (Ex.refl G)⟩
theorem wC_abs {i : Int} (p : P ρ (.int (if i < 0 then -i else i))) : wC K F (fun xs H Q => ∃ i, xs = [.int i] ∧ Q (.int (if i < 0 then -i else i)) H) [.int i] ρ P := fun σ G H vs S rs Q q => by
  cases rs with
  | cons r1 rr =>
    cases rr; cases r1
    exact ⟨i, rfl, q _ _ ρ G H p S (.int _) (Ex.refl G)⟩
theorem wC_intB {b : Bool} (p : P ρ (.int (if b then 1 else 0))) : wC K F (fun xs H Q => (∃ i, xs = [.int i] ∧ Q (.int i) H) ∨ ∃ k, xs = [.bl k] ∧ Q (.int (if k then 1 else 0)) H) [.bl b] ρ P := fun σ G H vs S rs Q q => by
  cases rs with
  | cons r1 rr =>
    cases rr; cases r1
    exact .inr ⟨b, rfl, q _ _ ρ G H p S (.int _) (Ex.refl G)⟩
theorem wC_intI {b : Int} (p : P ρ (.int b)) : wC K F (fun xs H Q => (∃ i, xs = [.int i] ∧ Q (.int i) H) ∨ ∃ k, xs = [.bl k] ∧ Q (.int (if k then 1 else 0)) H) [.int b] ρ P := fun σ G H vs S rs Q q => by
  cases rs with
  | cons r1 rr =>
    cases rr; cases r1
    exact .inl ⟨b, rfl, q _ _ ρ G H p S (.int _) (Ex.refl G)⟩
theorem wCO_list {d : D} {ds : List D} {PO : Sls → List D → Prop} (hd : d = .lst ds ∨ d = .tup ds) (p : PO ρ ds) : wCO K F (fun xs H Q => ∃ p ys, xs = [.ref p] ∧ (SqL K H p ys ∨ SqT K H p ys) ∧ ∀ l, H l = none → Q (.ref l) (upd H l (.lst ys))) [d] ρ PO := fun σ G H vs S rs Q q => by
  cases rs with
  | cons r1 rr =>
    cases rr
    rcases hd with rfl | rfl
    · cases r1 with
      | lst h1 h2 => exact ⟨_, _, rfl, .inl (SqL.of (S.ex _ _ h1)), fun a ha => q _ _ _ ρ G _ p (S.alloc ha) (.alloc S ha h2) (Ex.refl G)⟩
    · cases r1 with
      | tup h1 h2 => exact ⟨_, _, rfl, .inr (Evl.ex_t S.ex h1), fun a ha => q _ _ _ ρ G _ p (S.alloc ha) (.alloc S ha h2) (Ex.refl G)⟩
/-- isinstance -/
def tyD : D → Option String
  | .non => some "NoneType"
  | .bl _ => some "bool"
  | .int _ => some "int"
  | .str _ => some "str"
  | .lst _ => some "list"
  | .tup _ => some "tuple"
  | .dct _ => some "dict"
  | .dkv _ => some "dict"
  | _ => none
theorem Rep.tyx {G H : Hp} (ex : Ex G H) {v : V} {d : D} {n : String} (h : Rep K G v d) (e : tyD d = some n) : TyX K H v (.type n) := by
  cases h with
  | non => cases e; exact .base .non
  | bl b => cases e; exact .base (.bl b)
  | int b => cases e; exact .base (.int b)
  | str b => cases e; exact .base (.str b)
  | lst h1 h2 => cases e; exact .base (.lst (ex _ _ h1))
  | tup h1 h2 =>
    cases e
    rcases h1 with (h1 | ⟨o, h1⟩) | ⟨o, its, n, h1, h2, _⟩
    · exact .base (.tup (ex _ _ h1))
    · exact .fTuple (ex _ _ h1)
    · exact .kTuple h1 h2
  | dct h1 h2 => cases e; exact .base (.dK (ex _ _ h1))
  | dkv h1 h2 => cases e; exact .fDict (ex _ _ h1)
  | _ => cases e
theorem wC_isi {c : String} {n : String} {b : Bool} (h1 : tyD x = some n) (h2 : kitB n c = some b) (p : P ρ (.bl b)) : wC K F (rIsi K) [x, .ty c] ρ P := fun σ G H vs S rs Q q => by
  cases rs with
  | cons r1 rr =>
    cases rr with
    | cons r2 rr =>
      cases rr; cases r2
      exact ⟨_, _, .type n, .type c, b, rfl, .ty c, r1.tyx S.ex h1, kit_ty h2, q _ _ ρ G H p S (.bl b) (Ex.refl G)⟩

/-! targets -/
theorem wG_name {i : Nat} {PN : Sls → Prop} (p : PN (ρ.set i (.fz x))) : wG K F (gName i) x ρ PN := fun σ G H v S r Q q => q _ _ G H p (S.set r) (Ex.refl G)
theorem wG_tup2 {i j : Nat} {a b : D} {PN : Sls → Prop} (p : PN ((ρ.set i (.fz a)).set j (.fz b))) : wG K F (gTup K 2 (gCons (gName i) (gCons (gName j) gNil))) (.tup [a, b]) ρ PN := fun σ G H v S r Q q => by
  cases r with
  | tup h1 h2 =>
    cases h2 with
    | cons r1 rr =>
      cases rr with
      | cons r2 rr =>
        cases rr
        exact ⟨_, _, rfl, Evl.ex_t S.ex h1, rfl, _, _, rfl, _, _, rfl, rfl, q _ _ G H p ((S.set r1).set r2) (Ex.refl G)⟩
theorem wG_tup3 {i j k : Nat} {a b c : D} {PN : Sls → Prop} (p : PN (((ρ.set i (.fz a)).set j (.fz b)).set k (.fz c))) : wG K F (gTup K 3 (gCons (gName i) (gCons (gName j) (gCons (gName k) gNil)))) (.tup [a, b, c]) ρ PN := fun σ G H v S r Q q => by
  cases r with
  | tup h1 h2 =>
    cases h2 with
    | cons r1 rr =>
      cases rr with
      | cons r2 rr =>
        cases rr with
        | cons r3 rr =>
          cases rr
          exact ⟨_, _, rfl, Evl.ex_t S.ex h1, rfl, _, _, rfl, _, _, rfl, _, _, rfl, rfl, q _ _ G H p (((S.set r1).set r2).set r3) (Ex.refl G)⟩

/-! statements -/
section
variable {O : Out} {ts tu : TS} {g : TG}
theorem DOk.from {G0 G1 : Hp} {D1 : Ends} (k : DOk K F G0 D1 O) (e : Ex G0 G1) : DOk K F G1 D1 O :=
  ⟨fun a b c d h S x => k.nx a b c d h S (e.trans x), fun a b c d v w h S x => k.rt a b c d v w h S (e.trans x), fun a b c d p v w h S x => k.ro a b c d p v w h S (e.trans x), fun a b c d h S x => k.bk a b c d h S (e.trans x), fun a b c d h S x => k.ct a b c d h S (e.trans x)⟩
theorem wS_seq (h : wS K F ts ρ { O with nx := fun ρ1 => wS K F tu ρ1 O }) : wS K F (tSeq ts tu) ρ O := fun σ G H S D1 k =>
  h σ G H S { D1 with nx := tu D1 } ⟨fun ρ1 σ1 G1 H1 h1 S1 e1 => h1 σ1 G1 H1 S1 D1 (k.from e1), k.rt, k.ro, k.bk, k.ct⟩
theorem wS_next (p : O.nx ρ) : wS K F tNext ρ O := fun σ G H S D1 k => k.nx ρ σ G H p S (Ex.refl G)
theorem wS_brk (p : O.bk ρ) : wS K F tBreak ρ O := fun σ G H S D1 k => k.bk ρ σ G H p S (Ex.refl G)
theorem wS_ct (p : O.ct ρ) : wS K F tCont ρ O := fun σ G H S D1 k => k.ct ρ σ G H p S (Ex.refl G)
theorem wS_asg (h : wE K F te ρ fun ρ1 x => wG K F g x ρ1 O.nx) : wS K F (tAsg te g) ρ O := fun σ G H S D1 k =>
  h σ G H S _ fun v x ρ1 G1 H1 h1 S1 r1 e1 => h1 σ G1 H1 v S1 r1 _ fun ρ2 σ2 G2 H2 h2 S2 e2 => k.nx ρ2 σ2 G2 H2 h2 S2 (e1.trans e2)
theorem wS_set {i : Nat} (h : wE K F te ρ fun ρ1 x => O.nx (ρ1.set i (.fz x))) : wS K F (tAsg te (gName i)) ρ O := wS_asg (wE_mono h fun _ _ p => wG_name p)
theorem wS_setO {i : Nat} (h : wO K F te ρ fun ρ1 ds => O.nx (ρ1.set i (.ow .loc ds))) : wS K F (tAsg te (gName i)) ρ O := fun σ G H S D1 k =>
  h σ G H S _ fun p vs ds ρ1 G1 H1 h1 S1 o e1 => k.nx _ _ G1 H1 h1 (S1.setO o.g o.h o.r o.f o.n) e1
theorem wS_drop (h : wE K F te ρ fun ρ1 _ => O.nx ρ1) : wS K F (tDrop te) ρ O := fun σ G H S D1 k =>
  h σ G H S _ fun v x ρ1 G1 H1 h1 S1 r1 e1 => k.nx ρ1 σ G1 H1 h1 S1 e1
theorem wS_ret (h : wE K F te ρ fun ρ1 x => O.rt ρ1 x) : wS K F (tRet te) ρ O := fun σ G H S D1 k =>
  h σ G H S _ fun v x ρ1 G1 H1 h1 S1 r1 e1 => k.rt ρ1 σ G1 H1 v x h1 S1 e1 r1
theorem wS_retO (h : wO K F te ρ fun ρ1 ds => O.ro ρ1 ds) : wS K F (tRet te) ρ O := fun σ G H S D1 k =>
  h σ G H S _ fun p vs ds ρ1 G1 H1 h1 S1 o e1 => k.ro ρ1 σ G1 H1 p vs ds h1 S1 e1 o.g o.h o.r o.f
theorem wS_retN (p : O.rt ρ .non) : wS K F tRetN ρ O := fun σ G H S D1 k => k.rt ρ σ G H .non .non p S (Ex.refl G) .non
theorem wS_if {t : TT} (h : wT K F t ρ fun ρ1 b => Ways b (wS K F ts ρ1 O) (wS K F tu ρ1 O)) : wS K F (tIfS t ts tu) ρ O := fun σ G H S D1 k =>
  h σ G H S _ fun b ρ1 G1 H1 h1 S1 e1 => by
    cases b with
    | true => exact h1.1 rfl σ G1 H1 S1 D1 (k.from e1)
    | false => exact h1.2 rfl σ G1 H1 S1 D1 (k.from e1)
/-- own[i] = e -/
theorem wS_setIx {i : Nat} {ti : TE} (h : wE K F te ρ fun ρ1 x => ∃ (l1 : Kd) (ds1 : List D), ρ1[i]? = some (.ow l1 ds1) ∧ wE K F ti ρ1 fun ρ2 y => ∃ (l : Kd) (ds : List D) (j : Nat), y = .int (j : Int) ∧ ρ2[i]? = some (.ow l ds) ∧ j < ds.length ∧ O.nx (ρ2.set i (.ow l (ds.set j x)))) :
    wS K F (tAsg te (gSub (tVar i) ti rSetL)) ρ O := fun σ G H S D1 k =>
  h σ G H S _ fun v x ρ1 G1 H1 h1 S1 r1 e1 => by
    obtain ⟨l1, ds1, hi1, h1⟩ := h1
    obtain ⟨p, vs1, hp, _⟩ := S1.ow hi1
    refine ⟨.ref p, hp, h1 σ G1 H1 S1 _ fun vy y ρ2 G2 H2 h2 S2 r2 e2 => ?_⟩
    obtain ⟨l, ds, j, rfl, hi, hj, hn⟩ := h2
    cases r2
    obtain ⟨p', vs, e', hg, hh, hr⟩ := S2.ow hi
    rw [hp] at e'
    cases e'
    exact ⟨p, vs, _, j, rfl, rfl, hh, Evl.ixN_nat (by rw [hr.length]; exact hj), k.nx _ _ G2 _ hn (S2.mut hi hp (RepL.set j (r1.up e2) hr)) (e1.trans e2)⟩
/-- own.append(e) -/
theorem wS_append {i : Nat} (h0 : ∃ (l1 : Kd) (ds1 : List D), ρ[i]? = some (.ow l1 ds1)) (h : wE K F te ρ fun ρ1 x => ∃ (l : Kd) (ds : List D), ρ1[i]? = some (.ow l ds) ∧ ds.length < 100000 ∧ O.nx (ρ1.set i (.ow l (ds ++ [x])))) :
    wS K F (tDrop (tBM K "list" rAppend (tVar i) (tCons te tNil))) ρ O := fun σ G H S D1 k => by
  obtain ⟨l1, ds1, hi1⟩ := h0
  obtain ⟨p, vs1, hp, hg1, hh1, hr1⟩ := S.ow hi1
  refine ⟨.ref p, hp, .inl ⟨rfl, vs1, SqL.of hh1⟩, h σ G H S _ fun v x ρ1 G1 H1 h1 S1 r1 e1 => ?_⟩
  obtain ⟨l, ds, hi, hl, hn⟩ := h1
  obtain ⟨p', vs, e', hg, hh, hr⟩ := S1.ow hi
  rw [hp] at e'
  cases e'
  exact ⟨p, vs, v, rfl, rfl, hh, Evl.sz_lt (by rw [hr.length]; exact hl), k.nx _ _ G1 _ hn (S1.mut hi hp (hr.append (.cons r1 .nil))) e1⟩
end
end
end DL
namespace DL
open PySem L2
open Evl (Ex)

/-! ### loops -/
section
variable (K : PySem.W.Frag) (F : Fr)
def forS (g : TG) (tb : TS) (O : Out) : List D → Sls → Prop
  | [], ρ => O.nx ρ
  | x :: r, ρ => wG K F g x ρ fun ρ3 => wS K F tb ρ3 { nx := forS g tb O r, ct := forS g tb O r, bk := O.nx, rt := O.rt, ro := O.ro }
end
section
variable {K : PySem.W.Frag} {F : Fr} {ρ : Sls} {O : Out} {g : TG} {tb : TS}
/-- a loop by its word -/
theorem forS_inv (ds : List D) (Inv : Nat → Sls → Prop) (h0 : Inv 0 ρ) (hs : ∀ (i : Nat) (x : D) (ρ2 : Sls), ds[i]? = some x → Inv i ρ2 → wG K F g x ρ2 fun ρ3 => wS K F tb ρ3 { nx := Inv (i + 1), ct := Inv (i + 1), bk := O.nx, rt := O.rt, ro := O.ro })
    (hd : ∀ ρ2, Inv ds.length ρ2 → O.nx ρ2) : forS K F g tb O ds ρ := by
  have key : ∀ (k : Nat) (es : List D), ds = ds.take k ++ es → k ≤ ds.length → ∀ ρ2, Inv k ρ2 → forS K F g tb O es ρ2 := by
    intro k es
    induction es generalizing k with
    | nil =>
      intro e hk ρ2 hi
      have hl : ds.length = k := by
        have := congrArg List.length e
        rw [List.append_nil, List.length_take] at this
        omega
      exact hd ρ2 (hl ▸ hi)
    | cons x r ih =>
      intro e hk ρ2 hi
      have hlt : k < ds.length := by
        have := congrArg List.length e
        rw [List.length_append, List.length_take, List.length_cons] at this
        omega
      have hx : ds[k]? = some x := by
        rw [e, List.getElem?_append_right (by rw [List.length_take]; omega), List.length_take, Nat.min_eq_left hk, Nat.sub_self]
        rfl
      have e' : ds = ds.take (k + 1) ++ r := by
        rw [List.take_add_one, hx]
        simpa using e
      show wG K F g x ρ2 fun ρ3 => wS K F tb ρ3 { nx := forS K F g tb O r, ct := forS K F g tb O r, bk := O.nx, rt := O.rt, ro := O.ro }
      exact wG_mono (hs k x ρ2 hx hi) fun ρ3 h3 => wS_mono h3 (fun ρ4 h4 => ih (k + 1) e' hlt ρ4 h4) (fun _ _ h => h) (fun _ _ h => h) (fun _ h => h) (fun ρ4 h4 => ih (k + 1) e' hlt ρ4 h4)
  exact key 0 ds (by simp) (Nat.zero_le _) ρ h0
theorem drop_at {ds : List D} {i : Nat} {d : D} (h : ds[i]? = some d) : ds.drop i = d :: ds.drop (i + 1) := by
  have hl := (List.getElem?_eq_some_iff.mp h).1
  rw [List.drop_eq_getElem_cons hl, (List.getElem?_eq_some_iff.mp h).2]
/-- one turn of a loop, from the data's loop to the heap's -/
theorem for_turn {σ : St} {G1 G2 H2 : Hp} {D1 : Ends} {G0 : Hp} (k : DOk K F G0 D1 O) (e0 : Ex G0 G1) {ds : List D} {i : Nat} {d : D} {v : V} {ρ2 : Sls} (S2 : SRel K F G2 H2 σ ρ2) (e2 : Ex G1 G2) (hd : ds[i]? = some d) (r : Rep K G2 v d) (f : forS K F g tb O (ds.drop i) ρ2) :
    g v σ H2 fun σ3 H3 => tb { D1 with nx := fun σ' H' => ∃ G' ρ', SRel K F G' H' σ' ρ' ∧ Ex G1 G' ∧ forS K F g tb O (ds.drop (i + 1)) ρ', ct := fun σ' H' => ∃ G' ρ', SRel K F G' H' σ' ρ' ∧ Ex G1 G' ∧ forS K F g tb O (ds.drop (i + 1)) ρ', bk := D1.nx } σ3 H3 := by
  rw [drop_at hd] at f
  refine f σ G2 H2 v S2 r _ fun ρ3 σ3 G3 H3 h3 S3 e3 => ?_
  exact h3 σ3 G3 H3 S3 _ ⟨fun ρ' σ' G' H' h S' x => ⟨G', ρ', S', (e2.trans e3).trans x, h⟩, fun a b c dd v w h S x => k.rt a b c dd v w h S ((e0.trans e2).trans (e3.trans x)), fun a b c dd p v w h S x => k.ro a b c dd p v w h S ((e0.trans e2).trans (e3.trans x)), fun a b c dd h S x => k.nx a b c dd h S ((e0.trans e2).trans (e3.trans x)), fun ρ' σ' G' H' h S' x => ⟨G', ρ', S', (e2.trans e3).trans x, h⟩⟩
theorem wS_forL {tl : TE} (h : wE K F tl ρ fun ρ1 d => ∃ ds, d = .lst ds ∧ forS K F g tb O ds ρ1) : wS K F (tFor (iList K tl) g tb) ρ O := fun σ G H S D1 k =>
  h σ G H S _ fun v d ρ1 G1 H1 h1 S1 r1 e1 => by
    obtain ⟨ds, rfl, f⟩ := h1
    cases r1 with
    | lst ha hr =>
      rename_i a xs
      refine ⟨a, rfl, ⟨xs, SqL.of (S1.ex _ _ ha)⟩, for_list (K := K) (a := a) (xs := xs) (fun i σ' H' => ∃ G' ρ', SRel K F G' H' σ' ρ' ∧ Ex G1 G' ∧ forS K F g tb O (ds.drop i) ρ') ⟨G1, ρ1, S1, Ex.refl G1, f⟩ (fun i σ' H' _ ⟨G', ρ', S', e', _⟩ => SqL.of (S'.ex _ _ (e' _ _ ha))) ?_ ?_⟩
      · rintro i x σ' H' hx ⟨G', ρ', S', e', f'⟩
        obtain ⟨d, hd, rd⟩ := hr.getV hx
        exact for_turn k e1 S' e' hd (rd.up e') f'
      · rintro σ' H' ⟨G', ρ', S', e', f'⟩
        rw [hr.length, List.drop_length] at f'
        exact k.nx ρ' σ' G' H' f' S' (e1.trans e')
theorem wS_forT {tl : TE} (h : wE K F tl ρ fun ρ1 d => ∃ ds, d = .tup ds ∧ forS K F g tb O ds ρ1) : wS K F (tFor (iTup K tl) g tb) ρ O := fun σ G H S D1 k =>
  h σ G H S _ fun v d ρ1 G1 H1 h1 S1 r1 e1 => by
    obtain ⟨ds, rfl, f⟩ := h1
    cases r1 with
    | tup ha hr =>
      rename_i a xs
      refine ⟨a, rfl, ⟨xs, Evl.ex_t S1.ex ha⟩, for_tup (K := K) (a := a) (xs := xs) (fun i σ' H' => ∃ G' ρ', SRel K F G' H' σ' ρ' ∧ Ex G1 G' ∧ forS K F g tb O (ds.drop i) ρ') ⟨G1, ρ1, S1, Ex.refl G1, f⟩ (fun i σ' H' _ ⟨G', ρ', S', e', _⟩ => Evl.ex_t (e'.trans S'.ex) ha) ?_ ?_⟩
      · rintro i x σ' H' hx ⟨G', ρ', S', e', f'⟩
        obtain ⟨d, hd, rd⟩ := hr.getV hx
        exact for_turn k e1 S' e' hd (rd.up e') f'
      · rintro σ' H' ⟨G', ρ', S', e', f'⟩
        rw [hr.length, List.drop_length] at f'
        exact k.nx ρ' σ' G' H' f' S' (e1.trans e')
def rng (lo : Int) (n : Nat) : List D := (List.range n).map fun (k : Nat) => D.int (lo + (k : Int))
theorem rng_get {lo : Int} {n i : Nat} (h : i < n) : (rng lo n)[i]? = some (.int (lo + (i : Int))) := by
  unfold rng
  rw [List.getElem?_map, List.getElem?_range h]
  rfl
theorem rng_len {lo : Int} {n : Nat} : (rng lo n).length = n := by
  unfold rng
  rw [List.length_map, List.length_range]
theorem for_rng {σ : St} {G1 H1 : Hp} {D1 : Ends} {G0 : Hp} (k : DOk K F G0 D1 O) (e0 : Ex G0 G1) {lo : Int} {n : Nat} {ρ1 : Sls} (S1 : SRel K F G1 H1 σ ρ1) (f : forS K F g tb O (rng lo n) ρ1) :
    ∃ W : Nat → Nat → St → Hp → Prop, (∃ m, W 0 m σ H1) ∧ ∀ i m σ H, W i m σ H →
      ((Itr lo n).stop i H ∧ D1.nx σ H) ∨ ((Itr lo n).go i H ∧ ∃ N : St → Hp → Prop, (∀ σ' H', N σ' H' → ∃ m', m' < m ∧ W (i + 1) m' σ' H') ∧ ∀ x H', (Itr lo n).yld i H x H' → g x σ H' fun σ2 H2 => tb { D1 with nx := N, ct := N, bk := D1.nx } σ2 H2) := by
  refine for_range (lo := lo) (n := n) (fun i σ' H' => ∃ G' ρ', SRel K F G' H' σ' ρ' ∧ Ex G1 G' ∧ forS K F g tb O ((rng lo n).drop i) ρ') ⟨G1, ρ1, S1, Ex.refl G1, f⟩ ?_ ?_
  · rintro i σ' H' hi ⟨G', ρ', S', e', f'⟩
    exact for_turn k e0 S' e' (rng_get hi) (.int _) f'
  · rintro σ' H' ⟨G', ρ', S', e', f'⟩
    have q : (rng lo n).drop n = [] := List.drop_eq_nil_of_le (by rw [rng_len]; exact Nat.le_refl n)
    rw [q] at f'
    exact k.nx ρ' σ' G' H' f' S' (e0.trans e')
theorem wS_forR1 {ta : TA} (h : wA K F ta ρ fun ρ1 ds => ∃ n : Int, ds = [.int n] ∧ -(2 ^ 62) ≤ n ∧ n < 2 ^ 62 ∧ forS K F g tb O (rng 0 n.toNat) ρ1) : wS K F (tFor (iRng1 ta) g tb) ρ O := fun σ G H S D1 k =>
  h σ G H S _ fun vs ds ρ1 G1 H1 h1 S1 r1 e1 => by
    obtain ⟨n, rfl, h2, h3, f⟩ := h1
    cases r1 with
    | cons ra rr =>
      cases rr; cases ra
      exact ⟨n, rfl, h2, h3, for_rng k e1 S1 f⟩
theorem wS_forR2 {ta : TA} (h : wA K F ta ρ fun ρ1 ds => ∃ m n : Int, ds = [.int m, .int n] ∧ (-(2 ^ 62) ≤ m ∧ m < 2 ^ 62 ∧ -(2 ^ 62) ≤ n ∧ n < 2 ^ 62) ∧ forS K F g tb O (rng m (n - m).toNat) ρ1) : wS K F (tFor (iRng2 ta) g tb) ρ O := fun σ G H S D1 k =>
  h σ G H S _ fun vs ds ρ1 G1 H1 h1 S1 r1 e1 => by
    obtain ⟨m, n, rfl, h2, f⟩ := h1
    cases r1 with
    | cons ra rr =>
      cases rr with
      | cons rb rr =>
        cases rr; cases ra; cases rb
        exact ⟨m, n, rfl, h2, for_rng k e1 S1 f⟩
end

/-! ### comprehensions -/
def wipeS (ρ : Sls) : List Nat → Sls
  | [] => ρ
  | v :: vs => (wipeS ρ vs).set v .un
def rest1 (vs : List Nat) (k : Nat) : Sl → Sl → Sl
  | .un, .ow _ _ => .un
  | .un, .un => .un
  | .un, .fz d => cond (vs.contains k) .un (.fz d)
  | .fz d, .ow _ _ => .fz d
  | .fz d, .un => .fz d
  | .fz d, .fz e => cond (vs.contains k) (.fz d) (.fz e)
  | .ow l ds, .ow m es => cond (vs.contains k) .un (.ow l es)
  | .ow l ds, .un => .un
  | .ow l ds, .fz d => cond (vs.contains k) .un (.fz d)
  | .un, .od _ _ => .un
  | .fz d, .od _ _ => .fz d
  | .ow _ _, .od _ _ => .un
  | .od l ds, .od m es => cond (vs.contains k) .un (.od l es)
  | .od l ds, .un => .un
  | .od l ds, .fz d => cond (vs.contains k) .un (.fz d)
  | .od _ _, .ow _ _ => .un
def restS (vs : List Nat) : Nat → Sls → Sls → Sls
  | k, a :: as, b :: bs => rest1 vs k a b :: restS vs (k + 1) as bs
  | _, _, _ => []
theorem restS_len (vs : List Nat) : ∀ (k : Nat) (as bs : Sls), as.length = bs.length → (restS vs k as bs).length = as.length
  | _, [], [], _ => rfl
  | k, a :: as, b :: bs, h => congrArg (· + 1) (restS_len vs (k + 1) as bs (by simpa using h))
  | _, [], _ :: _, h => by simp at h
  | _, _ :: _, [], h => by simp at h
theorem restS_get (vs : List Nat) : ∀ (k : Nat) (as bs : Sls) (i : Nat) (s : Sl), (restS vs k as bs)[i]? = some s → ∃ a b, as[i]? = some a ∧ bs[i]? = some b ∧ s = rest1 vs (k + i) a b
  | k, a :: as, b :: bs, 0, s, h => ⟨a, b, rfl, rfl, by rw [restS] at h; simpa using h.symm⟩
  | k, a :: as, b :: bs, i + 1, s, h => by
    rw [restS] at h
    obtain ⟨a', b', h1, h2, h3⟩ := restS_get vs (k + 1) as bs i s (by simpa using h)
    exact ⟨a', b', by simpa using h1, by simpa using h2, by rw [h3]; congr 1; omega⟩
  | _, [], _, _, _, h => by simp [restS] at h
  | _, _ :: _, [], _, _, h => by simp [restS] at h
section
variable {K : PySem.W.Frag} {F : Fr} {ρ : Sls}
theorem SRel.wipes {G H : Hp} {σ : St} (S : SRel K F G H σ ρ) : ∀ vs : List Nat, SRel K F G H (wipe σ vs) (wipeS ρ vs)
  | [] => S
  | v :: vs => (SRel.wipes S vs).wipe1 v none
theorem SRel.back {G H G' H' : Hp} {σ σ' : St} {ρ' : Sls} (S : SRel K F G H σ ρ) (T : SRel K (here G H σ ρ) G' H' σ' ρ') : SRel K F G' H' σ' (ρ'.map unloc) := by
  have geto : ∀ (j : Nat) (l : Kd) (ds : List D), (ρ'.map unloc)[j]? = some (.ow l ds) → l = .any ∧ ∃ l', ρ'[j]? = some (.ow l' ds) := fun j l ds h => by
    rw [List.getElem?_map] at h
    cases e : ρ'[j]? with
    | none => rw [e] at h; cases h
    | some s' =>
      rw [e] at h
      cases s' with
      | un => cases h
      | fz d => cases h
      | ow l' ds' => cases h; exact ⟨rfl, l', rfl⟩
      | od l' ds' => cases h
  have getd : ∀ (j : Nat) (l : Kd) (ds : List (Key × D)), (ρ'.map unloc)[j]? = some (.od l ds) → l = .any ∧ ∃ l', ρ'[j]? = some (.od l' ds) := fun j l ds h => by
    rw [List.getElem?_map] at h
    cases e : ρ'[j]? with
    | none => rw [e] at h; cases h
    | some s' =>
      rw [e] at h
      cases s' with
      | un => cases h
      | fz d => cases h
      | ow l' ds' => cases h
      | od l' ds' => cases h; exact ⟨rfl, l', rfl⟩
  refine ⟨FrOk.back S T.fr, by rw [List.length_map]; exact T.len, fun j s w h1 h2 => ?_, fun a b q m n da db h1 h2 h3 h4 => ?_, fun i l ds p h1 h2 => ?_, fun a b q m n da db h1 h2 h3 h4 => ?_, fun i l ds p h1 h2 => ?_⟩
  · rw [List.getElem?_map] at h1
    cases e : ρ'[j]? with
    | none => rw [e] at h1; cases h1
    | some s' =>
      rw [e] at h1
      cases h1
      have q := T.sl j s' w e h2
      cases s' with
      | un => exact q
      | fz d => exact q
      | ow l ds => cases w <;> exact q
      | od l ds => cases w <;> exact q
  · obtain ⟨_, _, h1⟩ := geto a _ _ h1
    obtain ⟨_, _, h2⟩ := geto b _ _ h2
    exact T.dis a b q _ _ _ _ h1 h2 h3 h4
  · obtain ⟨rfl, l', h1'⟩ := geto i _ _ h1
    rcases (T.own i l' ds p h1' h2).or with z | ⟨j, l2, ds', h3, h4⟩ | ⟨j, l2, ds', h3, h4⟩
    · exact .inl (S.fr.fresh z)
    · exact (S.own j l2 ds' p h3 h4).or
    · exact (S.ownD j l2 ds' p h3 h4).or
  · obtain ⟨_, _, h1⟩ := getd a _ _ h1
    obtain ⟨_, _, h2⟩ := getd b _ _ h2
    exact T.disD a b q _ _ _ _ h1 h2 h3 h4
  · obtain ⟨rfl, l', h1'⟩ := getd i _ _ h1
    rcases (T.ownD i l' ds p h1' h2).or with z | ⟨j, l2, ds', h3, h4⟩ | ⟨j, l2, ds', h3, h4⟩
    · exact .inl (S.fr.fresh z)
    · exact (S.own j l2 ds' p h3 h4).or
    · exact (S.ownD j l2 ds' p h3 h4).or
theorem wipe_get {σ : St} {i : Nat} : ∀ {vs : List Nat}, i ∉ vs → (wipe σ vs)[i]? = σ[i]?
  | [], _ => rfl
  | v :: vs, h => by
    have h1 : i ≠ v := fun z => h (by rw [z]; exact List.mem_cons_self ..)
    have h2 : i ∉ vs := fun z => h (List.mem_cons_of_mem _ z)
    unfold wipe
    rw [List.getElem?_set_ne (Ne.symm h1)]
    exact wipe_get h2
/-- behind a comprehension: the slots as they were, what is the owners' own as it is -/
theorem SRel.rest {G G' H H' : Hp} {σ : St} {ρ' : Sls} {vs : List Nat} (S : SRel K F G H σ ρ) (e : Ex G G') (T : SRel K F G' H' (wipe σ vs) ρ') : SRel K F G' H' σ (restS vs 0 ρ ρ') := by
  have hl : ρ.length = ρ'.length := by
    have h1 := S.len
    have h2 := T.len
    rw [wipe_length] at h2
    omega
  have geto : ∀ (i : Nat) (l : Kd) (ds : List D), (restS vs 0 ρ ρ')[i]? = some (.ow l ds) → i ∉ vs ∧ (∃ m, ρ'[i]? = some (.ow m ds)) ∧ ∃ es, ρ[i]? = some (.ow l es) := fun i l ds h => by
    obtain ⟨a, b, h1, h2, h3⟩ := restS_get vs 0 ρ ρ' i _ h
    rw [Nat.zero_add] at h3
    by_cases c : vs.contains i = true
    · cases a <;> cases b <;> simp only [rest1, c, cond_true] at h3 <;> cases h3
    · have cm : i ∉ vs := fun z => c (by simpa using z)
      have cf : vs.contains i = false := Bool.eq_false_iff.mpr c
      cases a <;> cases b <;> simp only [rest1, cf, cond_false] at h3 <;> cases h3
      exact ⟨cm, ⟨_, h2⟩, _, h1⟩
  have getd : ∀ (i : Nat) (l : Kd) (ds : List (Key × D)), (restS vs 0 ρ ρ')[i]? = some (.od l ds) → i ∉ vs ∧ (∃ m, ρ'[i]? = some (.od m ds)) ∧ ∃ es, ρ[i]? = some (.od l es) := fun i l ds h => by
    obtain ⟨a, b, h1, h2, h3⟩ := restS_get vs 0 ρ ρ' i _ h
    rw [Nat.zero_add] at h3
    by_cases c : vs.contains i = true
    · cases a <;> cases b <;> simp only [rest1, c, cond_true] at h3 <;> cases h3
    · have cm : i ∉ vs := fun z => c (by simpa using z)
      have cf : vs.contains i = false := Bool.eq_false_iff.mpr c
      cases a <;> cases b <;> simp only [rest1, cf, cond_false] at h3 <;> cases h3
      exact ⟨cm, ⟨_, h2⟩, _, h1⟩
  refine ⟨T.fr, by rw [restS_len vs 0 ρ ρ' hl]; exact S.len, fun i s o h1 h2 => ?_, fun i j p l m di dj h1 h2 h3 h4 => ?_, fun i l ds p h1 h2 => ?_, fun i j p l m di dj h1 h2 h3 h4 => ?_, fun i l ds p h1 h2 => ?_⟩
  · obtain ⟨a, b, q1, q2, rfl⟩ := restS_get vs 0 ρ ρ' i _ h1
    rw [Nat.zero_add]
    have qa := S.sl i a o q1 h2
    have fzq : ∀ {d : D}, SlR K G H o (.fz d) → SlR K G' H' o (.fz d) := fun {d} q => by
      cases o with
      | none => exact q
      | some v => exact Rep.up e q
    have unq : SlR K G' H' o .un := by cases o <;> trivial
    by_cases c : vs.contains i = true
    · cases a <;> cases b <;> simp only [rest1, c, cond_true] <;> first | exact unq | exact fzq qa
    · have cm : i ∉ vs := fun z => c (by simpa using z)
      have cf : vs.contains i = false := Bool.eq_false_iff.mpr c
      have qb := T.sl i b o q2 (by rw [wipe_get cm]; exact h2)
      cases a <;> cases b <;> simp only [rest1, cf, cond_false] <;> first | exact unq | exact fzq qa | exact qb | (cases o <;> exact qb)
  · obtain ⟨n1, ⟨m1, k1⟩, _⟩ := geto i _ _ h1
    obtain ⟨n2, ⟨m2, k2⟩, _⟩ := geto j _ _ h2
    exact T.dis i j p _ _ _ _ k1 k2 (by rw [wipe_get n1]; exact h3) (by rw [wipe_get n2]; exact h4)
  · obtain ⟨n1, _, es, k2⟩ := geto i _ _ h1
    exact S.own i l es p k2 h2
  · obtain ⟨n1, ⟨m1, k1⟩, _⟩ := getd i _ _ h1
    obtain ⟨n2, ⟨m2, k2⟩, _⟩ := getd j _ _ h2
    exact T.disD i j p _ _ _ _ k1 k2 (by rw [wipe_get n1]; exact h3) (by rw [wipe_get n2]; exact h4)
  · obtain ⟨n1, _, es, k2⟩ := getd i _ _ h1
    exact S.ownD i l es p k2 h2
end
theorem SRel.unlocs {G H : Hp} {σ : St} {K : PySem.W.Frag} {F : Fr} {ρ : Sls} (S : SRel K F G H σ ρ) : SRel K F G H σ (ρ.map unloc) := by
  have geto : ∀ (j : Nat) (l : Kd) (ds : List D), (ρ.map unloc)[j]? = some (.ow l ds) → l = .any ∧ ∃ l', ρ[j]? = some (.ow l' ds) := fun j l ds h => by
    rw [List.getElem?_map] at h
    cases e : ρ[j]? with
    | none => rw [e] at h; cases h
    | some s' =>
      rw [e] at h
      cases s' with
      | un => cases h
      | fz d => cases h
      | ow l' ds' => cases h; exact ⟨rfl, l', rfl⟩
      | od l' ds' => cases h
  have getd : ∀ (j : Nat) (l : Kd) (ds : List (Key × D)), (ρ.map unloc)[j]? = some (.od l ds) → l = .any ∧ ∃ l', ρ[j]? = some (.od l' ds) := fun j l ds h => by
    rw [List.getElem?_map] at h
    cases e : ρ[j]? with
    | none => rw [e] at h; cases h
    | some s' =>
      rw [e] at h
      cases s' with
      | un => cases h
      | fz d => cases h
      | ow l' ds' => cases h
      | od l' ds' => cases h; exact ⟨rfl, l', rfl⟩
  refine ⟨S.fr, by rw [List.length_map]; exact S.len, fun j s w h1 h2 => ?_, fun a b q m n da db h1 h2 h3 h4 => ?_, fun i l ds p h1 h2 => ?_, fun a b q m n da db h1 h2 h3 h4 => ?_, fun i l ds p h1 h2 => ?_⟩
  · rw [List.getElem?_map] at h1
    cases e : ρ[j]? with
    | none => rw [e] at h1; cases h1
    | some s' =>
      rw [e] at h1
      cases h1
      have q := S.sl j s' w e h2
      cases s' with
      | un => exact q
      | fz d => exact q
      | ow l ds => cases w <;> exact q
      | od l ds => cases w <;> exact q
  · obtain ⟨_, _, h1⟩ := geto a _ _ h1
    obtain ⟨_, _, h2⟩ := geto b _ _ h2
    exact S.dis a b q _ _ _ _ h1 h2 h3 h4
  · obtain ⟨rfl, l', h1'⟩ := geto i _ _ h1
    exact (S.own i l' ds p h1' h2).or
  · obtain ⟨_, _, h1⟩ := getd a _ _ h1
    obtain ⟨_, _, h2⟩ := getd b _ _ h2
    exact S.disD a b q _ _ _ _ h1 h2 h3 h4
  · obtain ⟨rfl, l', h1'⟩ := getd i _ _ h1
    exact (S.ownD i l' ds p h1' h2).or
theorem unloc_unloc : ∀ s : Sl, unloc (unloc s) = unloc s
  | .un => rfl
  | .fz _ => rfl
  | .ow _ _ => rfl
  | .od _ _ => rfl
theorem map_unloc (ρ : Sls) : (ρ.map unloc).map unloc = ρ.map unloc := by
  rw [List.map_map]
  exact List.map_congr_left fun s _ => unloc_unloc s
theorem wipeS_unloc (ρ : Sls) : ∀ vs : List Nat, wipeS (ρ.map unloc) vs = (wipeS ρ vs).map unloc
  | [] => rfl
  | v :: vs => by
    show (wipeS (ρ.map unloc) vs).set v .un = ((wipeS ρ vs).set v .un).map unloc
    rw [wipeS_unloc ρ vs, List.map_set]
    rfl
def wipeU (ρ : Sls) (vs : List Nat) : Sls := (wipeS ρ vs).map unloc
section
variable (K : PySem.W.Frag) (g : TG) (tt : TT) (te : TE) (vs : List Nat)
def compL : List D → Sls → List D → (Sls → List D → Prop) → Prop
  | [], ρ, acc, P => P ρ acc
  | x :: r, ρ, acc, P => ∀ F, wG K F g x ρ fun ρ2 => wT K F tt ρ2 fun ρ3 b => Ways b (wE K F te ρ3 fun ρ4 y => compL r (wipeU ρ4 vs) (acc ++ [y]) P) (compL r (wipeU ρ3 vs) acc P)
end
/-- the target's slots are those that are wiped -/
def Tgt (g : TG) (vs : List Nat) : Prop := ∀ (x : V) (σ : St) (H : Hp) (Q Q' : St → Hp → Prop), g x (wipe σ vs) H Q → (∀ σ2 H2, wipe σ2 vs = wipe σ vs → Q σ2 H2 → Q' σ2 H2) → g x (wipe σ vs) H Q'
theorem wipe_set {σ : St} {w : Option V} : ∀ {vs : List Nat} {i : Nat}, i ∈ vs → wipe (σ.set i w) vs = wipe σ vs
  | v :: vs, i, h => by
    unfold wipe
    by_cases hi : i = v
    · subst hi
      by_cases hm : i ∈ vs
      · rw [wipe_set hm]
      · have : ∀ us : List Nat, i ∉ us → wipe (σ.set i w) us = (wipe σ us).set i w := by
          intro us
          induction us with
          | nil => intro _; rfl
          | cons u us ih =>
            intro hu
            have h1 : i ≠ u := fun z => hu (by rw [z]; exact List.mem_cons_self ..)
            have h2 : i ∉ us := fun z => hu (List.mem_cons_of_mem _ z)
            unfold wipe
            rw [ih h2, List.set_comm _ _ h1]
        rw [this vs hm, List.set_set]
    · rw [wipe_set ((List.mem_cons.mp h).resolve_left hi)]
theorem wipe_wipe {σ : St} : ∀ {vs us : List Nat}, (∀ v ∈ vs, v ∈ us) → wipe (wipe σ vs) us = wipe σ us
  | [], _, _ => rfl
  | v :: vs, us, h => by
    show wipe ((wipe σ vs).set v none) us = wipe σ us
    rw [wipe_set (h v (List.mem_cons_self ..)), wipe_wipe fun w hw => h w (List.mem_cons_of_mem _ hw)]
theorem tgt_name {i : Nat} {vs : List Nat} (h : i ∈ vs) : Tgt (gName i) vs := fun x σ H Q Q' q m => m _ _ (by rw [wipe_set h, wipe_wipe fun v hv => hv]) q
theorem tgt_tup2 {K : PySem.W.Frag} {i j : Nat} {vs : List Nat} (h : i ∈ vs) (h' : j ∈ vs) : Tgt (gTup K 2 (gCons (gName i) (gCons (gName j) gNil))) vs := fun x σ H Q Q' q m => by
  obtain ⟨a, xs, h1, h2, h3, v, r, h4, v', r', h5, h6, q⟩ := q
  refine ⟨a, xs, h1, h2, h3, v, r, h4, v', r', h5, h6, m _ _ ?_ q⟩
  rw [wipe_set h', wipe_set h, wipe_wipe fun v hv => hv]
theorem tgt_tup3 {K : PySem.W.Frag} {i j k : Nat} {vs : List Nat} (h : i ∈ vs) (h' : j ∈ vs) (h'' : k ∈ vs) : Tgt (gTup K 3 (gCons (gName i) (gCons (gName j) (gCons (gName k) gNil)))) vs := fun x σ H Q Q' q m => by
  obtain ⟨a, xs, h1, h2, h3, v, r, h4, v', r', h5, v'', r'', h6, h7, q⟩ := q
  refine ⟨a, xs, h1, h2, h3, v, r, h4, v', r', h5, v'', r'', h6, h7, m _ _ ?_ q⟩
  rw [wipe_set h'', wipe_set h', wipe_set h, wipe_wipe fun v hv => hv]
section
variable {K : PySem.W.Frag} {F : Fr} {ρ : Sls} {g : TG} {tt : TT} {te : TE} {vs : List Nat}
/-- what stands between two turns of a comprehension whose list is at Dl -/
structure CompAt (K : PySem.W.Frag) (F : Fr) (g : TG) (tt : TT) (te : TE) (vs : List Nat) (σ : St) (G1 : Hp) (Dl : Addr) (P : Sls → List D → Prop) (n : Nat) (r : List D) (H' G' : Hp) (ρ' : Sls) (acc : List D) (vacc : List V) : Prop where
  S : SRel K F G' H' (wipe σ vs) ρ'
  e : Ex G1 G'
  hg : G' Dl = none
  hh : H' Dl = some (.lst vacc)
  hr : RepL K G' vacc acc
  hno : ∀ (i : Nat) (l : Kd) (ds : List D), ρ'[i]? = some (.ow l ds) → (wipe σ vs)[i]? ≠ some (some (.ref Dl))
  hf : F.H0 Dl = none
  hl : acc.length ≤ n
  u : ρ'.map unloc = ρ'
  c : compL K g tt te vs r ρ' acc P
abbrev CompEx (K : PySem.W.Frag) (F : Fr) (g : TG) (tt : TT) (te : TE) (vs : List Nat) (σ : St) (G1 : Hp) (Dl : Addr) (P : Sls → List D → Prop) (n : Nat) (r : List D) (H' : Hp) : Prop := ∃ G' ρ' acc vacc, CompAt K F g tt te vs σ G1 Dl P n r H' G' ρ' acc vacc
/-- a list that is nobody's own is changed -/
theorem SRel.other {G H : Hp} {σ : St} (S : SRel K F G H σ ρ) {p : Addr} {o : HO} (hg : G p = none) (hf : F.H0 p = none) (hn : ∀ (i : Nat) (l : Kd) (ds : List D), ρ[i]? = some (.ow l ds) → σ[i]? ≠ some (some (.ref p))) (hd : ND σ ρ p) {u0 : HO} (hu : H p = some u0) (ht : NoT u0) : SRel K F G (upd H p o) σ ρ := by
  refine ⟨⟨fun a u q => ?_, S.fr.old, fun a u q np => ?_, fun a u q => ?_, fun a nm m t => tab_upd (S.fr.tb a nm m t) hu ht, S.fr.gt⟩, S.len, fun i s w h1 h2 => ?_, S.dis, S.own, S.disD, S.ownD⟩
  · have ha : a ≠ p := fun z => by rw [z, hg] at q; cases q
    rw [upd_ne ha]
    exact S.ex a u q
  · have ha : a ≠ p := fun z => by rw [z, hf] at q; cases q
    rw [upd_ne ha]
    exact S.fr.kp a u q np
  · have ha : a ≠ p := fun z => by rw [z, hf] at q; cases q
    rw [upd_ne ha]
    exact S.fr.th a u q
  · have q := S.sl i s w h1 h2
    cases s with
    | un => cases w <;> trivial
    | fz d =>
      cases w with
      | none => exact q
      | some v => exact q
    | ow l ds =>
      cases w with
      | none => exact q
      | some v =>
        obtain ⟨a, us, rfl, q1, q2, q3⟩ := q
        have ha : a ≠ p := fun z => hn i l ds h1 (by rw [h2, z])
        exact ⟨a, us, rfl, q1, by rw [upd_ne ha]; exact q2, q3⟩
    | od l ds =>
      cases w with
      | none => exact q
      | some v =>
        obtain ⟨a, us, rfl, q1, q2, q3⟩ := q
        have ha : a ≠ p := fun z => hd i l ds h1 (by rw [h2, z])
        exact ⟨a, us, rfl, q1, by rw [upd_ne ha]; exact q2, q3⟩
theorem comp_turn (hT : Tgt g vs) {σ : St} {G1 H2 : Hp} {Dl : Addr} {P : Sls → List D → Prop} {n : Nat} {d : D} {r : List D} {x : V} (hn : n < 100000) (c : CompEx K F g tt te vs σ G1 Dl P n (d :: r) H2) (hx : ∀ G', Ex G1 G' → Rep K G' x d) :
    g x (wipe σ vs) H2 fun σ2 H3 => wipe σ2 vs = wipe σ vs ∧ tt σ2 H3 fun b H4 =>
      if b = true then te σ2 H4 fun y H5 => ∃ acc, H5 Dl = some (.lst acc) ∧ acc.length < sizeLine ∧ CompEx K F g tt te vs σ G1 Dl P (n + 1) r (upd H5 Dl (.lst (acc ++ [y]))) else CompEx K F g tt te vs σ G1 Dl P (n + 1) r H4 := by
  obtain ⟨G', ρ', acc, vacc, S', e', hg, hh, hr, hno, hf, hl, hu, hc⟩ := c
  have R := S'.reframe
  rw [hu] at R
  -- from the turn's own frame to the loop's
  have back : ∀ {G'' H'' : Hp} {σ'' : St} {ρ'' : Sls}, SRel K (here G' H2 (wipe σ vs) ρ') G'' H'' σ'' ρ'' → wipe σ'' vs = wipe σ vs → SRel K F G'' H'' (wipe σ vs) (wipeU ρ'' vs) ∧ Ex G' G'' ∧ G'' Dl = none ∧ H'' Dl = some (.lst vacc) ∧ (∀ (i : Nat) (l : Kd) (ds : List D), (wipeU ρ'' vs)[i]? = some (.ow l ds) → (wipe σ vs)[i]? ≠ some (some (.ref Dl))) := by
    intro G'' H'' σ'' ρ'' T hw
    have W := (S'.back T).wipes vs
    rw [hw, wipeS_unloc] at W
    have W1 := T.unlocs.wipes vs
    rw [hw, wipeS_unloc] at W1
    have hD : H'' Dl = some (.lst vacc) := T.fr.kp Dl _ hh (by
      rintro (⟨i, l, ds, h1, h2⟩ | ⟨i, l, ds, h1, h2⟩)
      · exact hno i l ds h1 h2
      · exact S'.ndL hh i l ds h1 h2)
    refine ⟨W, FrOk.grow T.fr S'.ex, ?_, hD, fun i l ds h z => ?_⟩
    · rw [T.fr.old1 hh isX_lst]
      exact hg
    · rcases (W1.own i l ds Dl h z).or with q | ⟨j, l', ds', k1, k2⟩ | ⟨j, l', ds', k1, k2⟩
      · have q' : H2 Dl = none := q
        rw [hh] at q'
        cases q'
      · exact hno j l' ds' k1 k2
      · exact S'.ndL hh j l' ds' k1 k2
  refine hT x σ H2 _ _ (hc (here G' H2 (wipe σ vs) ρ') (wipe σ vs) G' H2 x R (hx G' e') (fun σ3 H3 => ∃ ρ3 G3, wT K (here G' H2 (wipe σ vs) ρ') tt ρ3 _ ∧ SRel K (here G' H2 (wipe σ vs) ρ') G3 H3 σ3 ρ3 ∧ Ex G' G3) fun ρ3 σ3 G3 H3 h3 S3 e3 => ⟨ρ3, G3, h3, S3, e3⟩) ?_
  rintro σ3 H3 hw ⟨ρ3, G3, h3, S3, e3⟩
  refine ⟨hw, h3 σ3 G3 H3 S3 _ fun b ρ4 G4 H4 h4 S4 e4 => ?_⟩
  cases b with
  | false =>
    obtain ⟨B1, B2, B3, B4, B5⟩ := back S4 hw
    exact ⟨G4, wipeU ρ4 vs, acc, vacc, B1, e'.trans B2, B3, B4, RepL.up B2 hr, B5, hf, Nat.le_succ_of_le hl, map_unloc _, h4.2 rfl⟩
  | true =>
    refine h4.1 rfl σ3 G4 H4 S4 _ fun y dy ρ5 G5 H5 h5 S5 r5 e5 => ?_
    obtain ⟨B1, B2, B3, B4, B5⟩ := back S5 hw
    refine ⟨vacc, B4, Evl.sz_lt (by rw [hr.length]; omega), G5, wipeU ρ5 vs, acc ++ [dy], vacc ++ [y], B1.other B3 hf B5 (B1.ndL B4) B4 noT_lst, e'.trans B2, B3, upd_same, (RepL.up B2 hr).append (.cons r5 .nil), B5, hf, by rw [List.length_append, List.length_singleton]; omega, map_unloc _, h5⟩
theorem comp_start {σ : St} {G1 H1 : Hp} (S1 : SRel K F G1 H1 σ ρ) {ds : List D} {P : Sls → List D → Prop} (c : compL K g tt te vs ds (wipeU ρ vs) [] P) {Dl : Addr} (hD : H1 Dl = none) : CompEx K F g tt te vs σ G1 Dl P 0 ds (upd H1 Dl (.lst [])) := by
  have W := (S1.wipes vs).unlocs
  exact ⟨G1, wipeU ρ vs, [], [], W.alloc hD, Ex.refl G1, W.fr.freshG hD, upd_same, .nil, W.notOwn hD, W.fr.fresh hD, Nat.le_refl _, map_unloc _, c⟩
theorem comp_end {σ : St} {G1 H1 H' : Hp} (S1 : SRel K F G1 H1 σ ρ) {Dl : Addr} {n : Nat} {P : Sls → List D → Prop} (c : CompEx K F g tt te vs σ G1 Dl (fun ρ' acc => P (restS vs 0 ρ ρ') acc) n [] H') (hD : H1 Dl = none) :
    ∃ G' ρ' acc vacc, P ρ' acc ∧ SRel K F G' H' σ ρ' ∧ Own K F G' H' σ ρ' Dl vacc acc ∧ Ex G1 G' := by
  obtain ⟨G', ρ', acc, vacc, S', e', hg, hh, hr, hno, hf, hl, hu, hc⟩ := c
  have T := S1.rest e' S'
  refine ⟨G', _, acc, vacc, hc, T, ⟨hg, hh, hr, hf, fun i l ds h z => ?_⟩, e'⟩
  obtain ⟨a, b, q1, q2, q3⟩ := restS_get vs 0 ρ _ i _ h
  rw [Nat.zero_add] at q3
  by_cases cc : vs.contains i = true
  · cases a <;> cases b <;> simp only [rest1, cc, cond_true] at q3 <;> cases q3
  · have cm : i ∉ vs := fun z => cc (by simpa using z)
    cases a <;> cases b <;> simp only [rest1, Bool.eq_false_iff.mpr cc, cond_false] at q3 <;> cases q3
    exact hno i _ _ q2 (by rw [wipe_get cm]; exact z)
variable {P : Sls → List D → Prop}
theorem wO_lcL {tl : TE} (hT : Tgt g vs) (h : wE K F tl ρ fun ρ1 d => ∃ ds, d = .lst ds ∧ ds.length ≤ 100000 ∧ compL K g tt te vs ds (wipeU ρ1 vs) [] fun ρ' acc => P (restS vs 0 ρ1 ρ') acc) : wO K F (tLc (iList K tl) g tt te vs) ρ P := fun σ G H S Q q =>
  h σ G H S _ fun v d ρ1 G1 H1 h1 S1 r1 e1 => by
    obtain ⟨ds, rfl, hl, f⟩ := h1
    cases r1 with
    | lst ha hr =>
      rename_i a xs
      refine ⟨a, rfl, ⟨xs, SqL.of (S1.ex _ _ ha)⟩, fun Dl hD => lc_list (K := K) (a := a) (xs := xs) (fun i H' => CompEx K F g tt te vs σ G1 Dl (fun ρ' acc => P (restS vs 0 ρ1 ρ') acc) i (ds.drop i) H') (comp_start S1 f hD) (fun i H' _ c => ?_) (fun i x H' hx c => ?_) fun H' c => ?_⟩
      · obtain ⟨G', ρ', acc, vacc, c⟩ := c
        exact SqL.of (c.S.ex _ _ (c.e _ _ ha))
      · obtain ⟨d, hd, rd⟩ := hr.getV hx
        rw [drop_at hd] at c
        have hlt := (List.getElem?_eq_some_iff.mp hd).1
        exact comp_turn hT (by omega) c fun G' e' => rd.up e'
      · rw [hr.length, List.drop_length] at c
        obtain ⟨G', ρ', acc, vacc, p, S', o, e'⟩ := comp_end (P := P) S1 c hD
        exact q _ _ _ ρ' G' H' p S' o (e1.trans e')
theorem wO_lcT {tl : TE} (hT : Tgt g vs) (h : wE K F tl ρ fun ρ1 d => ∃ ds, d = .tup ds ∧ ds.length ≤ 100000 ∧ compL K g tt te vs ds (wipeU ρ1 vs) [] fun ρ' acc => P (restS vs 0 ρ1 ρ') acc) : wO K F (tLc (iTup K tl) g tt te vs) ρ P := fun σ G H S Q q =>
  h σ G H S _ fun v d ρ1 G1 H1 h1 S1 r1 e1 => by
    obtain ⟨ds, rfl, hl, f⟩ := h1
    cases r1 with
    | tup ha hr =>
      rename_i a xs
      refine ⟨a, rfl, ⟨xs, Evl.ex_t S1.ex ha⟩, fun Dl hD => lc_tup (K := K) (a := a) (xs := xs) (fun i H' => CompEx K F g tt te vs σ G1 Dl (fun ρ' acc => P (restS vs 0 ρ1 ρ') acc) i (ds.drop i) H') (comp_start S1 f hD) (fun i H' _ c => ?_) (fun i x H' hx c => ?_) fun H' c => ?_⟩
      · obtain ⟨G', ρ', acc, vacc, c⟩ := c
        exact Evl.ex_t (c.e.trans c.S.ex) ha
      · obtain ⟨d, hd, rd⟩ := hr.getV hx
        rw [drop_at hd] at c
        have hlt := (List.getElem?_eq_some_iff.mp hd).1
        exact comp_turn hT (by omega) c fun G' e' => rd.up e'
      · rw [hr.length, List.drop_length] at c
        obtain ⟨G', ρ', acc, vacc, p, S', o, e'⟩ := comp_end (P := P) S1 c hD
        exact q _ _ _ ρ' G' H' p S' o (e1.trans e')
theorem comp_rng (hT : Tgt g vs) {σ : St} {G1 H1 : Hp} (S1 : SRel K F G1 H1 σ ρ) {lo : Int} {n : Nat} (hn : n ≤ 100000) (f : compL K g tt te vs (rng lo n) (wipeU ρ vs) [] fun ρ' acc => P (restS vs 0 ρ ρ') acc) {Q : VK}
    (q : ∀ (p : Addr) (vs : List V) (ds : List D) (ρ' : Sls) (G' H' : Hp), P ρ' ds → SRel K F G' H' σ ρ' → Own K F G' H' σ ρ' p vs ds → Ex G1 G' → Q (.ref p) H') : ∀ Dl, H1 Dl = none → ∃ W : Nat → Nat → Hp → Prop, (∃ m, W 0 m (upd H1 Dl (.lst []))) ∧ ∀ i m H, W i m H →
      ((Itr lo n).stop i H ∧ Q (.ref Dl) H) ∨ ((Itr lo n).go i H ∧ ∃ Nx : Hp → Prop, (∀ H', Nx H' → ∃ m', m' < m ∧ W (i + 1) m' H') ∧ ∀ x H', (Itr lo n).yld i H x H' → g x (wipe σ vs) H' fun σ2 H2 => wipe σ2 vs = wipe σ vs ∧ tt σ2 H2 fun b H3 =>
        if b = true then te σ2 H3 fun y H4 => ∃ acc, H4 Dl = some (.lst acc) ∧ acc.length < sizeLine ∧ Nx (upd H4 Dl (.lst (acc ++ [y]))) else Nx H3) := fun Dl hD => by
  refine lc_range (lo := lo) (n := n) (Qd := fun H => Q (.ref Dl) H) (fun i H' => CompEx K F g tt te vs σ G1 Dl (fun ρ' acc => P (restS vs 0 ρ ρ') acc) i ((rng lo n).drop i) H') (comp_start S1 f hD) (fun i H' hi c => ?_) fun H' c => ?_
  · rw [drop_at (rng_get hi)] at c
    exact comp_turn hT (by omega) c fun G' e' => .int _
  · have z : (rng lo n).drop n = [] := List.drop_eq_nil_of_le (by rw [rng_len]; exact Nat.le_refl n)
    rw [z] at c
    obtain ⟨G', ρ', acc, vacc, p, S', o, e'⟩ := comp_end (P := P) S1 c hD
    exact q _ _ _ ρ' G' H' p S' o e'
theorem wO_lcR1 {ta : TA} (hT : Tgt g vs) (h : wA K F ta ρ fun ρ1 ds => ∃ n : Int, ds = [.int n] ∧ -(2 ^ 62) ≤ n ∧ n ≤ 100000 ∧ compL K g tt te vs (rng 0 n.toNat) (wipeU ρ1 vs) [] fun ρ' acc => P (restS vs 0 ρ1 ρ') acc) : wO K F (tLc (iRng1 ta) g tt te vs) ρ P := fun σ G H S Q q =>
  h σ G H S _ fun vs' ds ρ1 G1 H1 h1 S1 r1 e1 => by
    obtain ⟨n, rfl, h2, h3, f⟩ := h1
    cases r1 with
    | cons ra rr =>
      cases rr; cases ra
      exact ⟨n, rfl, h2, by omega, comp_rng hT S1 (by omega) f fun p ws ds ρ' G' H' pp S' o e' => q p ws ds ρ' G' H' pp S' o (e1.trans e')⟩
end
end DL
namespace DL
open PySem L2
open Evl (Ex)

/-! ### promises of defs, over data -/
inductive Rs where
  | fz (d : D)
  | ow (ds : List D)
def RsR (K : PySem.W.Frag) (F : Fr) (G' H' : Hp) (v : V) : Rs → Prop
  | .fz d => Rep K G' v d
  | .ow ds => ∃ p vs, v = .ref p ∧ G' p = none ∧ H' p = some (.lst vs) ∧ RepL K G' vs ds ∧ F.H0 p = none
def RsP (P : D → Prop) : Rs → Prop
  | .fz d => P d
  | .ow ds => P (.lst ds)
def RsO (P : List D → Prop) : Rs → Prop
  | .fz _ => False
  | .ow ds => P ds
abbrev XD := Addr → List (Str × D) → Prop
/-- what is wished of what is raised -/
def EOk (K : PySem.W.Frag) (F : Fr) (E : XK) (X : XD) : Prop := ∀ (C : Addr) (fs : List (Str × D)) (d : Addr) (G' H' : Hp) (fvs : List (Str × V)), X C fs → FrOk F G' H' → H' d = some (.xd fvs) → RepF K G' fvs fs → F.H0 d = none → G' d = none → E (.ref C) (some d) H'
def fr0 (G H : Hp) : Fr := ⟨G, H, fun _ => False, fun _ _ => True⟩
def fr1 (G H : Hp) (p : Addr) : Fr := ⟨G, H, fun a => a = p, fun _ _ => True⟩
abbrev X0 : XD := fun _ _ => False
theorem eok0 {K : PySem.W.Frag} {F : Fr} {E : XK} : EOk K F E X0 := fun _ _ _ _ _ _ h => h.elim
/-- things in, a thing out -/
abbrev W0 := List D → (Rs → Prop) → XD → Prop
def sp0 (K : PySem.W.Frag) (W : W0) : Sp := fun vs H Q E => ∃ (G : Hp) (ds : List D) (Φ : Rs → Prop) (X : XD), Ex G H ∧ RepL K G vs ds ∧ W ds Φ X ∧
  (∀ (r : Rs) (v : V) (G' H' : Hp), Φ r → FrOk (fr0 G H) G' H' → RsR K (fr0 G H) G' H' v r → Q v H') ∧ EOk K (fr0 G H) E X
/-- an own list ahead, which the def may change -/
abbrev W1 := List D → List D → (List D → Rs → Prop) → XD → Prop
def sp1 (K : PySem.W.Frag) (W : W1) : Sp := fun vs H Q E => ∃ (G : Hp) (p : Addr) (us : List V) (ds : List D) (ws : List V) (es : List D) (Φ : List D → Rs → Prop) (X : XD), vs = .ref p :: ws ∧ Ex G H ∧ G p = none ∧ H p = some (.lst us) ∧ RepL K G us ds ∧ RepL K G ws es ∧ W ds es Φ X ∧
  (∀ (ds' : List D) (r : Rs) (v : V) (G' H' : Hp) (us' : List V), Φ ds' r → FrOk (fr1 G H p) G' H' → G' p = none → H' p = some (.lst us') → RepL K G' us' ds' → RsR K (fr1 G H p) G' H' v r → Q v H') ∧ EOk K (fr1 G H p) E X
section
variable {K : PySem.W.Frag} {F : Fr} {ρ : Sls} {P : Sls → D → Prop} {ta : TA}
theorem FrOk.after0 {G H G' H' : Hp} (f : FrOk F G H) (T : FrOk (fr0 G H) G' H') : FrOk F G' H' := ⟨T.ex, f.old2 T, fun a o h np => T.kp a o (f.kp a o h np) (fun z => z), f.th2 T, fun a nm m t => T.tb a nm True.intro (f.tb a nm m t), fun g => T.gt (f.gt g)⟩
theorem SRel.after0 {G H G' H' : Hp} {σ : St} (S : SRel K F G H σ ρ) (T : FrOk (fr0 G H) G' H') : SRel K F G' H' σ ρ ∧ Ex G G' := by
  have e : Ex G G' := T.grow0 S.ex
  refine ⟨⟨S.fr.after0 T, S.len, fun i s o h1 h2 => (S.sl i s o h1 h2).up e (fun p hg ⟨o, hh, n⟩ => (T.old1 hh n).trans hg) (fun p o hh _ _ => T.kp p o hh (fun z => z)), S.dis, S.own, S.disD, S.ownD⟩, e⟩
theorem RsR.own {G H G' H' : Hp} {σ : St} {v : V} {r : Rs} {ds : List D} (S : SRel K F G H σ ρ) (T : FrOk (fr0 G H) G' H') (h : RsR K (fr0 G H) G' H' v (.ow ds)) : ∃ p vs, v = .ref p ∧ Own K F G' H' σ ρ p vs ds := by
  obtain ⟨p, vs, rfl, h1, h2, h3, h4⟩ := h
  exact ⟨p, vs, rfl, h1, h2, h3, S.fr.fresh h4, S.notOwn h4⟩
theorem EOk.after0 {G H : Hp} {σ : St} {E : XK} {X : XD} (S : SRel K F G H σ ρ) (hE : EOk K F E X) : EOk K (fr0 G H) E X := fun C fs d G' H' fvs h T hd hr n1 n2 => hE C fs d G' H' fvs h (S.fr.after0 T) hd hr (S.fr.fresh n1) n2
theorem wE_call {W : W0} {E : XK} {X : XD} (hE : EOk K F E X) (h : wA K F ta ρ fun ρ1 ds => W ds (RsP (P ρ1)) X) : wE K F (tCall (sp0 K W) [] E ta) ρ P := fun σ G H S Q q =>
  h σ G H S _ fun vs ds ρ1 G1 H1 h1 S1 r1 e1 => by
    rw [List.append_nil]
    refine ⟨G1, ds, _, X, S1.ex, r1, h1, fun r v G' H' hr T rr => ?_, EOk.after0 S1 hE⟩
    obtain ⟨S2, e2⟩ := S1.after0 T
    cases r with
    | fz d => exact q v d ρ1 G' H' hr S2 rr (e1.trans e2)
    | ow ds' =>
      obtain ⟨p, vs', rfl, o⟩ := RsR.own (r := .ow ds') S1 T rr
      obtain ⟨G3, S3, e3, r3⟩ := o.freeze S2
      exact q _ _ ρ1 G3 H' hr S3 r3 ((e1.trans e2).trans e3)
theorem wO_call {W : W0} {E : XK} {X : XD} {PO : Sls → List D → Prop} (hE : EOk K F E X) (h : wA K F ta ρ fun ρ1 ds => W ds (RsO (PO ρ1)) X) : wO K F (tCall (sp0 K W) [] E ta) ρ PO := fun σ G H S Q q =>
  h σ G H S _ fun vs ds ρ1 G1 H1 h1 S1 r1 e1 => by
    rw [List.append_nil]
    refine ⟨G1, ds, _, X, S1.ex, r1, h1, fun r v G' H' hr T rr => ?_, EOk.after0 S1 hE⟩
    obtain ⟨S2, e2⟩ := S1.after0 T
    cases r with
    | fz d => exact hr.elim
    | ow ds' =>
      obtain ⟨p, vs', rfl, o⟩ := RsR.own (r := .ow ds') S1 T rr
      exact q p vs' ds' ρ1 G' H' hr S2 o (e1.trans e2)
/-- behind a call that may change slot i's own list -/
theorem FrOk.after1 {G H G' H' : Hp} {σ : St} {i : Nat} {l : Kd} {ds : List D} {p : Addr} (S : SRel K F G H σ ρ) (hi : ρ[i]? = some (.ow l ds)) (hp : σ[i]? = some (some (.ref p))) (T : FrOk (fr1 G H p) G' H') : FrOk F G' H' := ⟨T.ex, S.fr.old2 T, fun a o h np => T.kp a o (S.fr.kp a o h np) (fun z => by
      have z' : a = p := z
      subst z'
      rcases (S.own i l ds a hi hp).or with w | w
      · rw [w] at h; cases h
      · exact np w), S.fr.th2 T, fun a nm m t => T.tb a nm True.intro (S.fr.tb a nm m t), fun g => T.gt (S.fr.gt g)⟩
theorem SRel.after1 {G H G' H' : Hp} {σ : St} {i : Nat} {l : Kd} {ds ds' : List D} {p : Addr} {us : List V} (S : SRel K F G H σ ρ) (hi : ρ[i]? = some (.ow l ds)) (hp : σ[i]? = some (some (.ref p))) (T : FrOk (fr1 G H p) G' H') (hg : G' p = none) (hh : H' p = some (.lst us)) (hr : RepL K G' us ds') :
    SRel K F G' H' σ (ρ.set i (.ow l ds')) ∧ Ex G G' := by
  have e : Ex G G' := T.grow0 S.ex
  have hl : i < ρ.length := (List.getElem?_eq_some_iff.mp hi).1
  have get : ∀ (j : Nat) (s : Sl), (ρ.set i (.ow l ds'))[j]? = some s → (j = i ∧ s = .ow l ds') ∨ (j ≠ i ∧ ρ[j]? = some s) := fun j s h => by
    by_cases hj : j = i
    · subst hj
      rw [List.getElem?_set_self hl] at h
      cases h
      exact .inl ⟨rfl, rfl⟩
    · rw [List.getElem?_set_ne (Ne.symm hj)] at h
      exact .inr ⟨hj, h⟩
  have geto : ∀ (j : Nat) (m : Kd) (es : List D), (ρ.set i (.ow l ds'))[j]? = some (.ow m es) → ∃ es', ρ[j]? = some (.ow m es') := fun j m es h => by
    rcases get j _ h with ⟨rfl, z⟩ | ⟨_, h⟩
    · cases z
      exact ⟨_, hi⟩
    · exact ⟨_, h⟩
  refine ⟨⟨FrOk.after1 S hi hp T, by rw [List.length_set]; exact S.len, fun j s w h1 h2 => ?_, fun a b q m n da db h1 h2 h3 h4 => ?_, fun j m da q h1 h2 => ?_, fun a b q m n da db h1 h2 h3 h4 => ?_, fun j m da q h1 h2 => ?_⟩, e⟩
  · rcases get j s h1 with ⟨rfl, rfl⟩ | ⟨hj, h1⟩
    · rw [hp] at h2
      cases h2
      exact ⟨p, us, rfl, hg, hh, hr⟩
    · have q := S.sl j s w h1 h2
      cases s with
      | un => cases w <;> trivial
      | fz d =>
        cases w with
        | none => exact q
        | some v => exact Rep.up e q
      | ow m dj =>
        cases w with
        | none => exact q
        | some v =>
          obtain ⟨a, vs, rfl, q1, q2, q3⟩ := q
          have ha : a ≠ p := fun z => by
            subst z
            exact hj (S.dis j i a m l dj ds h1 hi h2 hp)
          exact ⟨a, vs, rfl, (T.old1 q2 isX_lst).trans q1, T.kp a _ q2 ha, RepL.up e q3⟩
      | od m dj =>
        cases w with
        | none => exact q
        | some v =>
          obtain ⟨a, vs, rfl, q1, q2, q3⟩ := q
          have ha : a ≠ p := fun z => by
            subst z
            obtain ⟨p', us', e1, _, e3, _⟩ := S.ow hi
            rw [hp] at e1
            cases e1
            rw [e3] at q2
            cases q2
          exact ⟨a, vs, rfl, (T.old1 q2 isX_dK).trans q1, T.kp a _ q2 ha, RepK.up e q3⟩
  · obtain ⟨_, h1⟩ := geto a _ _ h1
    obtain ⟨_, h2⟩ := geto b _ _ h2
    exact S.dis a b q _ _ _ _ h1 h2 h3 h4
  · obtain ⟨es', h1⟩ := geto j _ _ h1
    exact S.own j m es' q h1 h2
  · rcases get a _ h1 with ⟨_, z⟩ | ⟨_, h1⟩
    · cases z
    · rcases get b _ h2 with ⟨_, z⟩ | ⟨_, h2⟩
      · cases z
      · exact S.disD a b q _ _ _ _ h1 h2 h3 h4
  · rcases get j _ h1 with ⟨_, z⟩ | ⟨_, h⟩
    · cases z
    · exact S.ownD j m da q h h2
theorem EOk.after1 {G H : Hp} {σ : St} {i : Nat} {l : Kd} {ds : List D} {p : Addr} {E : XK} {X : XD} (S : SRel K F G H σ ρ) (hi : ρ[i]? = some (.ow l ds)) (hp : σ[i]? = some (some (.ref p))) (hE : EOk K F E X) : EOk K (fr1 G H p) E X := fun C fs d G' H' fvs h T hd hr n1 n2 => hE C fs d G' H' fvs h (FrOk.after1 S hi hp T) hd hr (S.fr.fresh n1) n2
theorem wE_call1 {W : W1} {E : XK} {X : XD} {i : Nat} {tr : TA} (hE : EOk K F E X) (hi : ∃ (l : Kd) (ds : List D), ρ[i]? = some (.ow l ds)) (h : wA K F tr ρ fun ρ1 es => ∃ (l : Kd) (ds : List D), ρ1[i]? = some (.ow l ds) ∧ W ds es (fun ds' r => RsP (P (ρ1.set i (.ow l ds'))) r) X) :
    wE K F (tCall (sp1 K W) [] E (tCons (tVar i) tr)) ρ P := fun σ G H S Q q => by
  obtain ⟨l0, ds0, hi⟩ := hi
  obtain ⟨p, us0, hp, _⟩ := S.ow hi
  refine ⟨.ref p, hp, h σ G H S _ fun vs es ρ1 G1 H1 h1 S1 r1 e1 => ?_⟩
  obtain ⟨l, ds, hi1, hW⟩ := h1
  obtain ⟨p', us, hp', hg, hh, hr⟩ := S1.ow hi1
  rw [hp] at hp'
  cases hp'
  show sp1 K W ((V.ref p :: vs) ++ []) H1 Q E
  rw [List.append_nil]
  refine ⟨G1, p, us, ds, vs, es, _, X, rfl, S1.ex, hg, hh, hr, r1, hW, fun ds' r v G' H' us' hΦ T hg' hh' hr' rr => ?_, EOk.after1 S1 hi1 hp hE⟩
  obtain ⟨S2, e2⟩ := S1.after1 hi1 hp T hg' hh' hr'
  cases r with
  | fz d => exact q v d _ G' H' hΦ S2 rr (e1.trans e2)
  | ow ds2 =>
    obtain ⟨a, ws, rfl, k1, k2, k3, k4⟩ := rr
    have o : Own K F G' H' σ (ρ1.set i (.ow l ds')) a ws ds2 := ⟨k1, k2, k3, S1.fr.fresh k4, fun j m es hj => by
      by_cases hji : j = i
      · subst hji
        intro z
        rw [hp] at z
        cases z
        have k4' : H1 p = none := k4
        rw [hh] at k4'
        cases k4'
      · rw [List.getElem?_set_ne (Ne.symm hji)] at hj
        exact S1.notOwn (show H1 a = none from k4) j m es hj⟩
    obtain ⟨G3, S3, e3, r3⟩ := o.freeze S2
    exact q _ _ _ G3 H' hΦ S3 r3 ((e1.trans e2).trans e3)

/-! ### a def's body against its promise -/
def st0 (N : List Str) (ds : List D) : Sls := ds.map .fz ++ List.replicate (N.length - ds.length) .un
def out0 (Φ : Rs → Prop) : Out := { nx := fun _ => Φ (.fz .non), rt := fun _ d => Φ (.fz d), ro := fun _ ds => Φ (.ow ds) }
theorem start_get {N : List Str} {vs : List V} {i : Nat} {o : Option V} (h : (start N vs)[i]? = some o) : (i < vs.length ∧ o = vs[i]?) ∨ (vs.length ≤ i ∧ o = none) := by
  unfold L2.start at h
  by_cases hl : i < vs.length
  · rw [List.getElem?_append_left (by rw [List.length_map]; exact hl), List.getElem?_map, List.getElem?_eq_getElem hl] at h
    cases h
    exact .inl ⟨hl, (List.getElem?_eq_getElem hl).symm⟩
  · rw [List.getElem?_append_right (by rw [List.length_map]; omega)] at h
    refine .inr ⟨by omega, ?_⟩
    have := List.mem_of_getElem? h
    exact (List.mem_replicate.mp this).2
theorem st0_get {N : List Str} {ds : List D} {i : Nat} {s : Sl} (h : (st0 N ds)[i]? = some s) : (∃ d, ds[i]? = some d ∧ s = .fz d) ∨ s = .un := by
  unfold st0 at h
  by_cases hl : i < ds.length
  · rw [List.getElem?_append_left (by rw [List.length_map]; exact hl), List.getElem?_map, List.getElem?_eq_getElem hl] at h
    cases h
    exact .inl ⟨ds[i], List.getElem?_eq_getElem hl, rfl⟩
  · rw [List.getElem?_append_right (by rw [List.length_map]; omega)] at h
    exact .inr (List.mem_replicate.mp (List.mem_of_getElem? h)).2
theorem srel0 {N : List Str} {vs : List V} {ds : List D} {G H : Hp} (e : Ex G H) (r : RepL K G vs ds) : SRel K (fr0 G H) G H (start N vs) (st0 N ds) := by
  refine ⟨⟨e, fun _ _ _ => .inl rfl, fun a o h _ => h, fun a o h => ⟨o, h, id⟩, fun _ _ _ t => t, fun g => g⟩, ?_, fun i s o h1 h2 => ?_, fun i j p l m di dj h1 => ?_, fun i l di p h1 => ?_, fun i j p l m di dj h1 => ?_, fun i l di p h1 => ?_⟩
  · unfold L2.start st0
    rw [List.length_append, List.length_append, List.length_map, List.length_map, List.length_replicate, List.length_replicate, r.length]
  · rcases st0_get h1 with ⟨d, hd, rfl⟩ | rfl
    · obtain ⟨v, hv, rv⟩ := r.get hd
      rcases start_get h2 with ⟨_, z⟩ | ⟨z, _⟩
      · rw [z, hv]
        exact rv
      · rw [List.getElem?_eq_none z] at hv
        cases hv
    · cases o <;> trivial
  · rcases st0_get h1 with ⟨_, _, z⟩ | z <;> cases z
  · rcases st0_get h1 with ⟨_, _, z⟩ | z <;> cases z
  · rcases st0_get h1 with ⟨_, _, z⟩ | z <;> cases z
  · rcases st0_get h1 with ⟨_, _, z⟩ | z <;> cases z
theorem body0 {W : W0} {t : TS} {N : List Str} {vs : List V} {H : Hp} {Q : VK} {E : XK} (h : sp0 K W vs H Q E) (hb : ∀ (ds : List D) (Φ : Rs → Prop) (X : XD) (F : Fr), W ds Φ X → EOk K F E X → wS K F t (st0 N ds) (out0 Φ)) : t { nx := fun _ H' => Q .non H', rt := Q } (start N vs) H := by
  obtain ⟨G, ds, Φ, X, e, r, hW, hQ, hE⟩ := h
  exact hb ds Φ X (fr0 G H) hW hE _ G H (srel0 e r) _ ⟨fun ρ σ G' H' h S _ => hQ _ _ G' H' h S.fr .non, fun ρ σ G' H' v d h S _ rr => hQ _ v G' H' h S.fr rr, fun ρ σ G' H' p ws ds' h S _ h1 h2 h3 h4 => hQ _ _ G' H' h S.fr ⟨p, ws, rfl, h1, h2, h3, h4⟩, fun _ _ _ _ h => h.elim, fun _ _ _ _ h => h.elim⟩
theorem sp0_len {W : W0} {vs : List V} {H : Hp} {Q : VK} {E : XK} {n : Nat} (hl : ∀ ds Φ X, W ds Φ X → ds.length = n) (h : sp0 K W vs H Q E) : vs.length = n := by
  obtain ⟨G, ds, Φ, X, e, r, hW, hQ, hE⟩ := h
  rw [r.length]
  exact hl ds Φ X hW
def st1 (N : List Str) (ds es : List D) : Sls := .ow .par ds :: (es.map .fz ++ List.replicate (N.length - (es.length + 1)) .un)
def out1 (Φ : List D → Rs → Prop) : Out := { nx := fun ρ => ∃ ds, ρ[0]? = some (.ow .par ds) ∧ Φ ds (.fz .non), rt := fun ρ d => ∃ ds, ρ[0]? = some (.ow .par ds) ∧ Φ ds (.fz d), ro := fun ρ es => ∃ ds, ρ[0]? = some (.ow .par ds) ∧ Φ ds (.ow es) }
theorem srel1 {N : List Str} {p : Addr} {us vs : List V} {ds es : List D} {G H : Hp} (e : Ex G H) (hg : G p = none) (hh : H p = some (.lst us)) (hr : RepL K G us ds) (r : RepL K G vs es) : SRel K (fr1 G H p) G H (start N (.ref p :: vs)) (st1 N ds es) := by
  have es1 : st1 N ds es = .ow .par ds :: (es.map .fz ++ List.replicate (N.length - (es.length + 1)) .un) := rfl
  have get : ∀ (i : Nat) (s : Sl), (st1 N ds es)[i]? = some s → (i = 0 ∧ s = .ow .par ds) ∨ (∃ j d, i = j + 1 ∧ es[j]? = some d ∧ s = .fz d) ∨ s = .un := fun i s h => by
    cases i with
    | zero => cases h; exact .inl ⟨rfl, rfl⟩
    | succ j =>
      right
      have h' : (es.map Sl.fz ++ List.replicate (N.length - (es.length + 1)) Sl.un)[j]? = some s := h
      by_cases hl : j < es.length
      · rw [List.getElem?_append_left (by rw [List.length_map]; exact hl), List.getElem?_map, List.getElem?_eq_getElem hl] at h'
        cases h'
        exact .inl ⟨j, es[j], rfl, List.getElem?_eq_getElem hl, rfl⟩
      · rw [List.getElem?_append_right (by rw [List.length_map]; omega)] at h'
        exact .inr (List.mem_replicate.mp (List.mem_of_getElem? h')).2
  have s0 : ∀ o, (start N (.ref p :: vs))[0]? = some o → o = some (.ref p) := fun o h => by
    rcases start_get h with ⟨_, z⟩ | ⟨z, _⟩
    · exact z
    · simp at z
  refine ⟨⟨e, fun _ _ _ => .inl rfl, fun a o h _ => h, fun a o h => ⟨o, h, id⟩, fun _ _ _ t => t, fun g => g⟩, ?_, fun i s o h1 h2 => ?_, fun i j q l m di dj h1 h2 _ _ => ?_, fun i l di q h1 h2 => ?_, fun i j q l m di dj h1 h2 _ _ => ?_, fun i l di q h1 h2 => ?_⟩
  · unfold L2.start st1
    simp only [List.length_append, List.length_map, List.length_cons, List.length_replicate, r.length]
    omega
  · rcases get i s h1 with ⟨rfl, rfl⟩ | ⟨j, d, rfl, hd, rfl⟩ | rfl
    · rw [s0 o h2]
      exact ⟨p, us, rfl, hg, hh, hr⟩
    · obtain ⟨v, hv, rv⟩ := r.get hd
      rcases start_get h2 with ⟨_, z⟩ | ⟨z, _⟩
      · rw [z, List.getElem?_cons_succ, hv]
        exact rv
      · rw [List.length_cons] at z
        rw [List.getElem?_eq_none (by omega)] at hv
        cases hv
    · cases o <;> trivial
  · rcases get i _ h1 with ⟨rfl, _⟩ | ⟨_, _, _, _, z⟩ | z
    · rcases get j _ h2 with ⟨rfl, _⟩ | ⟨_, _, _, _, z⟩ | z
      · rfl
      · cases z
      · cases z
    · cases z
    · cases z
  · rcases get i _ h1 with ⟨rfl, z⟩ | ⟨_, _, _, _, z⟩ | z
    · cases z
      have := s0 _ h2
      cases this
      exact rfl
    · cases z
    · cases z
  · rcases get i _ h1 with ⟨rfl, z⟩ | ⟨_, _, _, _, z⟩ | z <;> cases z
  · rcases get i _ h1 with ⟨rfl, z⟩ | ⟨_, _, _, _, z⟩ | z <;> cases z
theorem body1 {W : W1} {t : TS} {N : List Str} {vs : List V} {H : Hp} {Q : VK} {E : XK} (h : sp1 K W vs H Q E) (hb : ∀ (ds es : List D) (Φ : List D → Rs → Prop) (X : XD) (F : Fr), W ds es Φ X → EOk K F E X → wS K F t (st1 N ds es) (out1 Φ)) : t { nx := fun _ H' => Q .non H', rt := Q } (start N vs) H := by
  obtain ⟨G, p, us, ds, ws, es, Φ, X, rfl, e, hg, hh, hr, r, hW, hQ, hE⟩ := h
  have key : ∀ {ρ : Sls} {σ : St} {G' H' : Hp} {ds' : List D}, SRel K (fr1 G H p) G' H' σ ρ → ρ[0]? = some (.ow .par ds') → ∃ us', G' p = none ∧ H' p = some (.lst us') ∧ RepL K G' us' ds' := fun {ρ σ G' H' ds'} S h0 => by
    obtain ⟨p', us', h1, h2, h3, h4⟩ := S.ow h0
    have z : p' = p := S.own 0 .par ds' p' h0 h1
    subst z
    exact ⟨us', h2, h3, h4⟩
  refine hb ds es Φ X (fr1 G H p) hW hE _ G H (srel1 e hg hh hr r) _ ⟨fun ρ σ G' H' h S _ => ?_, fun ρ σ G' H' v d h S _ rr => ?_, fun ρ σ G' H' q zs ds' h S _ h1 h2 h3 h4 => ?_, fun _ _ _ _ h => h.elim, fun _ _ _ _ h => h.elim⟩
  · obtain ⟨ds', h0, hΦ⟩ := h
    obtain ⟨us', k1, k2, k3⟩ := key S h0
    exact hQ ds' _ _ G' H' us' hΦ S.fr k1 k2 k3 .non
  · obtain ⟨ds', h0, hΦ⟩ := h
    obtain ⟨us', k1, k2, k3⟩ := key S h0
    exact hQ ds' _ v G' H' us' hΦ S.fr k1 k2 k3 rr
  · obtain ⟨es', h0, hΦ⟩ := h
    obtain ⟨us', k1, k2, k3⟩ := key S h0
    exact hQ es' _ _ G' H' us' hΦ S.fr k1 k2 k3 ⟨q, zs, rfl, h1, h2, h3, h4⟩
theorem sp1_len {W : W1} {vs : List V} {H : Hp} {Q : VK} {E : XK} {n : Nat} (hl : ∀ ds es Φ X, W ds es Φ X → es.length + 1 = n) (h : sp1 K W vs H Q E) : vs.length = n := by
  obtain ⟨G, p, us, ds, ws, es, Φ, X, rfl, e, hg, hh, hr, r, hW, hQ, hE⟩ := h
  rw [List.length_cons, r.length]
  exact hl ds es Φ X hW
/-- the law: a list of at most 63 ints is handed in, True comes out -/
def WLaw : W0 := fun ds Φ _ => ∃ ns : List Int, ns.length ≤ 63 ∧ ds = [.scr ns] ∧ Φ (.fz (.bl true))
theorem law_sp (K : PySem.W.Frag) (H : Hp) (a : Addr) (ns : List Int) (hl : ns.length ≤ 63) (ho : Only H) (hS : SqL K H a (ns.map V.int)) : sp0 K WLaw [.ref a] H (fun v _ => v = .bl true) fun _ _ _ => False :=
  ⟨H, [.scr ns], fun r => r = .fz (.bl true), X0, Ex.refl H, .cons (.scr hS) .nil, ⟨ns, hl, rfl, rfl⟩, fun r v G' H' hr _ rr => by
    subst hr
    cases rr
    rfl, eok0⟩
end
end DL
namespace DL
open PySem L2
open Evl (Ex)

/-! ### rules of one's own at the level of the hand layer -/
/-- a def of the module that may be called by its name -/
structure Callee (P : Program) (w : World) (K : PySem.W.Frag) (mg : Str → Option Value) (base : Heap) (k : Nat) (x : Str) (sp : Sp) : Prop where
  ex : ∃ (f : Addr) (fd : FuncData) (ps : List Str), FnOk P w K mg base L2.CX0 k f fd ps sp ∧ mg x = some (.ref f) ∧ PySem.W.keepIn K (.ref f) = true ∧ Binds K fd ps []
theorem Callee.mono {P : Program} {w : World} {K : PySem.W.Frag} {mg : Str → Option Value} {base : Heap} {j k : Nat} {x : Str} {sp : Sp} (c : Callee P w K mg base j x sp) (h : j ≤ k) : Callee P w K mg base k x sp := by
  obtain ⟨f, fd, ps, F, r⟩ := c.ex
  exact ⟨f, fd, ps, F.mono h, r⟩
section
variable {X : Cx} {k j : Nat} {x : Str} {sp : Sp} {p pos : Pos} {e : Expr} {es : List Expr} {t : TA}
theorem pe_cl (c : Callee X.prog X.w X.K X.mg X.base k x sp) (hr : Room j X.A) (hk : k ≤ j) (hg : Gl X x) (ha : PA X (e :: es) t)
    (hd : (x == ("__debug__" : Str)) = false := by decide) (he : starEach (e :: es) X.env = (false, eval e X.env) :: starEach es X.env := by rfl) (hpl : (backTo pos (starEach es X.env)).any (·.1) = false := by rfl) : PE X (.Call (.Name x p) (e :: es) [] pos) (tCall sp [] L2.E0 t) := by
  obtain ⟨f, fd, ps, F, hm, hkp, hb⟩ := c.ex
  exact pe_call F (hr.mono hk) hg hm hkp hb .nil pass0 ha hd he hpl
theorem pe_cl0 (c : Callee X.prog X.w X.K X.mg X.base k x sp) (hr : Room j X.A) (hk : k ≤ j) (hg : Gl X x)
    (hd : (x == ("__debug__" : Str)) = false := by decide) : PE X (.Call (.Name x p) [] [] pos) (tCall sp [] L2.E0 tNil) := by
  obtain ⟨f, fd, ps, F, hm, hkp, hb⟩ := c.ex
  exact pe_call0 F (hr.mono hk) hg hm hkp hb .nil pass0 hd
/-- a constant of the module -/
structure Kon (K : PySem.W.Frag) (mg : Str → Option Value) (x : Str) (d : D) : Prop where
  ex : ∃ u v, mg x = some u ∧ RelV v u ∧ ∀ G, Rep K G v d
/-- + of numbers, of lists, of texts -/
def rPlus : R2 := fun x y H Q => (rI0 fun i j => .int (i + j)) x y H Q ∨ rCat x y H Q ∨ (∃ i j, x = .str i ∧ y = .str j ∧ i.length + j.length ≤ sizeLine ∧ Q (.str (i ++ j)) H)
theorem op_plus : OpR X (binaryOp .Add) rPlus := op_add.or (op_cat.or op_add_str)
/-- is True, is False -/
def rIsTF (neg : Bool) : R2 := fun x y H Q => ∃ b : Bool, y = .bl b ∧ ((∃ a : Bool, x = .bl a ∧ Q (.bl (xor neg (decide (a = b)))) H) ∨ ((∀ a, x ≠ .bl a) ∧ (∀ n, x ≠ .ty n) ∧ Q (.bl neg) H))
end
/-- list.count of flat things -/
def rCntF (K : PySem.W.Frag) : V → List V → Hp → VK → Prop := fun x xs H Q => ∃ (p : Addr) (ys : List V) (y : V), x = .ref p ∧ xs = [y] ∧ SqL K H p ys ∧ flatV y = true ∧ ys.all flatV = true ∧ Q (.int ((ys.countP fun z => eqV z y : Nat) : Int)) H
theorem countP_eqU {x : V} : ∀ {xs : List V} {us : List Value}, Vals xs us → xs.all flatV = true → us.countP (eqU x) = xs.countP fun y => eqV y x
  | _, _, .nil, _ => rfl
  | _, _, .cons r t, f => by
    rw [List.all_cons, Bool.and_eq_true] at f
    rw [List.countP_cons, List.countP_cons, countP_eqU t f.2, eqU_of r f.1]
theorem mt_countF {X : Cx} : MtR X "list.count" (rCntF X.K) := by
  intro pins s σ H x xs v us Q I rx rxs h
  obtain ⟨p, ys, y, rfl, rfl, hs, fy, fys, q⟩ := h
  cases rx
  obtain ⟨u, rfl, ru⟩ := rxs.one
  obtain ⟨its, rv, ⟨⟨cls, dd, data, sl⟩, n, ho, hc, hdn, hd⟩, hlen⟩ := I.list hs
  simp only at hc hd
  subst hc hd
  refine call_meets PySem.F.slot_list_count ⟨_, ho, rfl⟩ PySem.F.entry_list_count (PySem.F.args_list_count_2 _ _)
    (SeqAt.list_countAt p its.toArray n dd sl u (eqU y)) ⟨ho, fun z hz => mem_eqAt ru fy rv fys z (by simpa using hz), ?_⟩
  have ec : its.toArray.toList.countP (eqU y) = ys.countP fun z => eqV z y := by
    rw [← countP_eqU rv fys]
  refine ⟨.int _, H, I.tok _, ⟨s.toks, ?_⟩, q⟩
  show Value.int ((its.toArray.toList.countP (eqU y) : Nat) : Int) s.toks = _
  rw [ec]

theorem rso_ow {P : List D → Prop} {ds : List D} (h : P ds) : RsO P (.ow ds) := h
theorem rng_at {lo : Int} {n i : Nat} {x : D} (h : (rng lo n)[i]? = some x) : i < n ∧ x = .int (lo + (i : Int)) := by
  have hl := (List.getElem?_eq_some_iff.mp h).1
  rw [rng_len] at hl
  rw [rng_get hl] at h
  cases h
  exact ⟨hl, rfl⟩
theorem rsp_fz {P : D → Prop} {d : D} (h : P d) : RsP P (.fz d) := h
section
variable {K : PySem.W.Frag} {F : Fr} {g : TG} {tt : TT} {te : TE} {vs : List Nat} {ρ : Sls} {acc : List D} {P : Sls → List D → Prop} {x : D} {r : List D} {tb : TS} {O : Out}
theorem compL_nil (h : P ρ acc) : compL K g tt te vs [] ρ acc P := h
theorem compL_cons (h : ∀ F, wG K F g x ρ fun ρ2 => wT K F tt ρ2 fun ρ3 b => Ways b (wE K F te ρ3 fun ρ4 y => compL K g tt te vs r (wipeU ρ4 vs) (acc ++ [y]) P) (compL K g tt te vs r (wipeU ρ3 vs) acc P)) : compL K g tt te vs (x :: r) ρ acc P := h
theorem forS_nil (h : O.nx ρ) : forS K F g tb O [] ρ := h
theorem forS_cons (h : wG K F g x ρ fun ρ3 => wS K F tb ρ3 { nx := forS K F g tb O r, ct := forS K F g tb O r, bk := O.nx, rt := O.rt, ro := O.ro }) : forS K F g tb O (x :: r) ρ := h
theorem wT_yes {PB : Sls → Bool → Prop} (h : PB ρ true) : wT K F tYes ρ PB := fun σ G H S Q q => q true ρ G H h S (Ex.refl G)
end
/-! ### their readings over data -/
section
variable {K : PySem.W.Frag} {F : Fr} {ρ : Sls} {P : Sls → D → Prop} {te ta tb : TE} {r : R2} {x y : D}
theorem wE_un {rr : V → Hp → VK → Prop} (h : wE K F ta ρ fun ρ1 x => wC K F (fun vs H Q => ∃ v, vs = [v] ∧ rr v H Q) [x] ρ1 P) : wE K F (tUn rr ta) ρ P := fun σ G H S Q q =>
  h σ G H S _ fun v x ρ1 G1 H1 h1 S1 r1 e1 => by
    obtain ⟨v', e, z⟩ := h1 σ G1 H1 [v] S1 (.cons r1 .nil) Q fun w d ρ' G' H' p S' r' e' => q w d ρ' G' H' p S' r' (e1.trans e')
    cases e
    exact z
theorem wC_neg {i : Int} (p : P ρ (.int (-i))) : wC K F (fun vs H Q => ∃ v, vs = [v] ∧ rU (fun i => .int (-i)) v H Q) [.int i] ρ P := fun σ G H vs S rs Q q => by
  cases rs with
  | cons r1 rr =>
    cases rr; cases r1
    exact ⟨_, rfl, i, rfl, q _ _ ρ G H p S (.int _) (Ex.refl G)⟩
/-- a rest by a positive number, of which its bounds alone are told -/
theorem wR_modB {i j : Int} (hj : 0 < j) (p : ∀ r : Int, 0 ≤ r → r < j → P ρ (.int r)) : wR K F (rI (fun _ j => 0 < j) fun i j => .int (i % j)) (.int i) (.int j) ρ P := wR_I hj (p _ (Int.emod_nonneg _ (by omega)) (Int.emod_lt_of_pos _ hj))
theorem wS_set0 {O : Out} {i : Nat} (h : wE K F te ρ fun ρ1 x => ∃ (l : Kd) (ds : List D), ρ1[i]? = some (.ow l ds) ∧ 0 < ds.length ∧ O.nx (ρ1.set i (.ow l (ds.set 0 x)))) : wS K F (tAsg te (gSub (tVar i) (tC (.int 0)) rSetL)) ρ O :=
  wS_setIx (wE_mono h fun ρ1 x ⟨l, ds, h1, h3, h4⟩ => ⟨l, ds, h1, wE_int ⟨l, ds, 0, rfl, h1, h3, h4⟩⟩)
theorem wS_set1 {O : Out} {i : Nat} (h : wE K F te ρ fun ρ1 x => ∃ (l : Kd) (ds : List D), ρ1[i]? = some (.ow l ds) ∧ 1 < ds.length ∧ O.nx (ρ1.set i (.ow l (ds.set 1 x)))) : wS K F (tAsg te (gSub (tVar i) (tC (.int 1)) rSetL)) ρ O :=
  wS_setIx (wE_mono h fun ρ1 x ⟨l, ds, h1, h3, h4⟩ => ⟨l, ds, h1, wE_int ⟨l, ds, 1, rfl, h1, h3, h4⟩⟩)
theorem wS_set2 {O : Out} {i : Nat} (h : wE K F te ρ fun ρ1 x => ∃ (l : Kd) (ds : List D), ρ1[i]? = some (.ow l ds) ∧ 2 < ds.length ∧ O.nx (ρ1.set i (.ow l (ds.set 2 x)))) : wS K F (tAsg te (gSub (tVar i) (tC (.int 2)) rSetL)) ρ O :=
  wS_setIx (wE_mono h fun ρ1 x ⟨l, ds, h1, h3, h4⟩ => ⟨l, ds, h1, wE_int ⟨l, ds, 2, rfl, h1, h3, h4⟩⟩)
theorem wR_plusI {i j : Int} (p : P ρ (.int (i + j))) : wR K F rPlus (.int i) (.int j) ρ P := fun σ G H vx vy S rx ry Q q => .inl (wR_I0 (g := fun i j => i + j) p σ G H vx vy S rx ry Q q)
theorem wRO_plusL {xs ys : List D} {PO : Sls → List D → Prop} (hl : xs.length + ys.length ≤ 100000) (p : PO ρ (xs ++ ys)) : wRO K F rPlus (.lst xs) (.lst ys) ρ PO := fun σ G H vx vy S rx ry Q q => .inr (.inl (wRO_cat hl p σ G H vx vy S rx ry Q q))
theorem wR_plusS {a b : Str} (hl : a.length + b.length ≤ 100000) (p : P ρ (.str (a ++ b))) : wR K F rPlus (.str a) (.str b) ρ P := fun σ G H vx vy S rx ry Q q => by
  cases rx
  cases ry
  exact .inr (.inr ⟨a, b, rfl, rfl, Evl.sz_of hl, q _ _ ρ G H p S (.str _) (Ex.refl G)⟩)
theorem wR_xL {ds : List D} {i : Int} {d : D} (h : atI ds i = some d) (p : P ρ d) : wR K F (rIx K) (.lst ds) (.int i) ρ P := fun σ G H vx vy S rx ry Q q => .inl (wR_ixL h p σ G H vx vy S rx ry Q q)
theorem wR_xT {ds : List D} {i : Int} {d : D} (h : atI ds i = some d) (p : P ρ d) : wR K F (rIx K) (.tup ds) (.int i) ρ P := fun σ G H vx vy S rx ry Q q => .inr (.inl (wR_ixT h p σ G H vx vy S rx ry Q q))
theorem wR_xLAll {ds : List D} {i : Int} (h0 : 0 ≤ i) (h1 : i < (ds.length : Int)) (p : ∀ d, d ∈ ds → P ρ d) : wR K F (rIx K) (.lst ds) (.int i) ρ P := fun σ G H vx vy S rx ry Q q => .inl (wR_ixLAll h0 h1 p σ G H vx vy S rx ry Q q)
theorem wR_xScr {ns : List Int} {i : Int} {n : Int} (h : atI ns i = some n) (p : P ρ (.int n)) : wR K F (rIx K) (.scr ns) (.int i) ρ P := fun σ G H vx vy S rx ry Q q => .inl (wR_ixScr h p σ G H vx vy S rx ry Q q)
theorem wR_xS {z : Str} {i : Int} {c : Nat} (hl : z.length ≤ 100000) (h : atI z.cps.toList i = some c) (p : P ρ (.str ⟨#[c]⟩)) : wR K F (rIx K) (.str z) (.int i) ρ P := fun σ G H vx vy S rx ry Q q => by
  cases rx
  cases ry
  exact .inr (.inr ⟨z, i, c, rfl, rfl, Evl.sz_of hl, h, q _ _ ρ G H p S (.str _) (Ex.refl G)⟩)
theorem wE_xO {i : Nat} {l : Kd} {ds : List D} (h : ρ[i]? = some (.ow l ds)) (hb : wE K F tb ρ fun ρ2 y => ∃ (k : Int) (ds2 : List D) (d : D), y = .int k ∧ ρ2[i]? = some (.ow l ds2) ∧ atI ds2 k = some d ∧ P ρ2 d) : wE K F (tOp (rIx K) (tVar i) tb) ρ P := fun σ G H S Q q => by
  obtain ⟨p, vs, e, hg, hh, hr⟩ := S.ow h
  refine ⟨.ref p, e, hb σ G H S _ fun vy y ρ2 G2 H2 hp S2 r2 e2 => ?_⟩
  obtain ⟨k, ds2, d, rfl, hi2, ha, pp⟩ := hp
  obtain ⟨p2, vs2, e', hg2, hh2, hr2⟩ := S2.ow hi2
  rw [e] at e'
  cases e'
  cases r2
  obtain ⟨v, ev, rv⟩ := atI_rep hr2 ha
  exact .inl ⟨p, vs2, k, v, rfl, rfl, SqL.of hh2, ev, q _ _ ρ2 G2 H2 pp S2 rv e2⟩
/-- own[c], c a written place -/
theorem wE_xOc {i : Nat} {l : Kd} {ds : List D} {k : Int} {d : D} (h : ρ[i]? = some (.ow l ds)) (ha : atI ds k = some d) (p : P ρ d) : wE K F (tOp (rIx K) (tVar i) (tC (.int k))) ρ P := wE_xO h (wE_int ⟨k, ds, d, rfl, h, ha, p⟩)
theorem wS_setIxc {O : Out} {i : Nat} {l : Kd} {k : Int} {j : Nat} (h : wE K F te ρ fun ρ1 x => ∃ ds : List D, ρ1[i]? = some (.ow l ds) ∧ k = (j : Int) ∧ j < ds.length ∧ O.nx (ρ1.set i (.ow l (ds.set j x)))) : wS K F (tAsg te (gSub (tVar i) (tC (.int k)) rSetL)) ρ O :=
  wS_setIx (wE_mono h fun ρ1 x ⟨ds, h1, h2, h3, h4⟩ => ⟨l, ds, h1, wE_int ⟨l, ds, j, by rw [h2], h1, h3, h4⟩⟩)
theorem wE_countF {t : TE} (h : wE K F ta ρ fun ρ1 x => ∃ ds, x = .lst ds ∧ wE K F t ρ1 fun ρ2 y => flatD y = true ∧ ds.all flatD = true ∧ P ρ2 (.int (((ds.map valD).countP fun z => eqV z (valD y) : Nat) : Int))) : wE K F (tBM K "list" (rCntF K) ta (tCons t tNil)) ρ P := fun σ G H S Q q =>
  h σ G H S _ fun v x ρ1 G1 H1 h1 S1 r1 e1 => by
    obtain ⟨ds, rfl, h2⟩ := h1
    cases r1 with
    | lst ha hr =>
      refine ⟨.inl ⟨rfl, _, SqL.of (S1.ex _ _ ha)⟩, h2 σ G1 H1 S1 _ fun vy y ρ2 G2 H2 hp S2 r2 e2 => ?_⟩
      obtain ⟨fy, fd, p⟩ := hp
      obtain ⟨ev, fv⟩ := r2.flat fy
      obtain ⟨ew, fw⟩ := hr.flat fd
      subst ev ew
      exact ⟨_, _, _, rfl, rfl, SqL.of (S2.ex _ _ (e2 _ _ ha)), fv, fw, q _ _ ρ2 G2 H2 p S2 (.int _) (e1.trans e2)⟩
/-! isinstance, by the built-in class -/
theorem wC_isiG {c : String} {f : D → Bool} (h : ∀ (n : String) (y : D), tyD y = some n → kitB n c = some (f y)) (hx : (tyD x).isSome = true) (p : P ρ (.bl (f x))) : wC K F (rIsi K) [x, .ty c] ρ P := by
  cases e : tyD x with
  | none => rw [e] at hx; cases hx
  | some n => exact wC_isi e (h n x e) p
def intD : D → Bool
  | .int _ => true
  | .bl _ => true
  | _ => false
def boolD : D → Bool
  | .bl _ => true
  | _ => false
def strD : D → Bool
  | .str _ => true
  | _ => false
def lstD : D → Bool
  | .lst _ => true
  | _ => false
def tupD : D → Bool
  | .tup _ => true
  | _ => false
def dctD : D → Bool
  | .dct _ => true
  | .dkv _ => true
  | _ => false
theorem kit_int (n : String) (y : D) (e : tyD y = some n) : kitB n "int" = some (intD y) := by
  cases y <;> cases e <;> first | (show kitB _ _ = some true; decide +kernel) | (show kitB _ _ = some false; decide +kernel)
theorem kit_bool (n : String) (y : D) (e : tyD y = some n) : kitB n "bool" = some (boolD y) := by
  cases y <;> cases e <;> first | (show kitB _ _ = some true; decide +kernel) | (show kitB _ _ = some false; decide +kernel)
theorem kit_str (n : String) (y : D) (e : tyD y = some n) : kitB n "str" = some (strD y) := by
  cases y <;> cases e <;> first | (show kitB _ _ = some true; decide +kernel) | (show kitB _ _ = some false; decide +kernel)
theorem kit_list (n : String) (y : D) (e : tyD y = some n) : kitB n "list" = some (lstD y) := by
  cases y <;> cases e <;> first | (show kitB _ _ = some true; decide +kernel) | (show kitB _ _ = some false; decide +kernel)
theorem kit_tuple (n : String) (y : D) (e : tyD y = some n) : kitB n "tuple" = some (tupD y) := by
  cases y <;> cases e <;> first | (show kitB _ _ = some true; decide +kernel) | (show kitB _ _ = some false; decide +kernel)
theorem kit_dict (n : String) (y : D) (e : tyD y = some n) : kitB n "dict" = some (dctD y) := by
  cases y <;> cases e <;> first | (show kitB _ _ = some true; decide +kernel) | (show kitB _ _ = some false; decide +kernel)
theorem wC_isInt (hx : (tyD x).isSome = true) (p : P ρ (.bl (intD x))) : wC K F (rIsi K) [x, .ty "int"] ρ P := wC_isiG kit_int hx p
theorem wC_isBool (hx : (tyD x).isSome = true) (p : P ρ (.bl (boolD x))) : wC K F (rIsi K) [x, .ty "bool"] ρ P := wC_isiG kit_bool hx p
theorem wC_isStr (hx : (tyD x).isSome = true) (p : P ρ (.bl (strD x))) : wC K F (rIsi K) [x, .ty "str"] ρ P := wC_isiG kit_str hx p
theorem wC_isList (hx : (tyD x).isSome = true) (p : P ρ (.bl (lstD x))) : wC K F (rIsi K) [x, .ty "list"] ρ P := wC_isiG kit_list hx p
theorem wC_isTuple (hx : (tyD x).isSome = true) (p : P ρ (.bl (tupD x))) : wC K F (rIsi K) [x, .ty "tuple"] ρ P := wC_isiG kit_tuple hx p
theorem wC_isDict (hx : (tyD x).isSome = true) (p : P ρ (.bl (dctD x))) : wC K F (rIsi K) [x, .ty "dict"] ρ P := wC_isiG kit_dict hx p
/-- a constant of the module -/
theorem wC_all {bs : List Bool} (p : P ρ (.bl (bs.all id))) : wC K F (rAll K) [.lst (bs.map D.bl)] ρ P := fun σ G H vs S rs Q q => by
  cases rs with
  | cons r1 rr =>
    cases rr
    cases r1 with
    | lst h1 h2 =>
      have e := h2.bls
      subst e
      exact ⟨_, bs, rfl, SqL.of (S.ex _ _ h1), q _ _ ρ G H p S (.bl _) (Ex.refl G)⟩
theorem wC_any {bs : List Bool} (p : P ρ (.bl (bs.any id))) : wC K F (rAny K) [.lst (bs.map D.bl)] ρ P := fun σ G H vs S rs Q q => by
  cases rs with
  | cons r1 rr =>
    cases rr
    cases r1 with
    | lst h1 h2 =>
      have e := h2.bls
      subst e
      exact ⟨_, bs, rfl, SqL.of (S.ex _ _ h1), q _ _ ρ G H p S (.bl _) (Ex.refl G)⟩
end
end DL
namespace DL
open PySem L2
open Evl (Ex)
section
variable {K : PySem.W.Frag} {F : Fr} {ρ : Sls} {P : Sls → D → Prop} {te ta tb : TE} {r : R2} {x y : D}
theorem rsp_ow {P : D → Prop} {ds : List D} (h : P (.lst ds)) : RsP P (.ow ds) := h
/-! ### parts of a slice, parts of lists -/
def wP (K : PySem.W.Frag) (F : Fr) (t : TO) (ρ : Sls) (P : Sls → Option Int → Prop) : Prop := ∀ (σ : St) (G H : Hp), SRel K F G H σ ρ → ∀ Q : Option Int → Hp → Prop,
  (∀ (o : Option Int) (ρ' : Sls) (G' H' : Hp), P ρ' o → SRel K F G' H' σ ρ' → Ex G G' → Q o H') → t σ H Q
theorem wP_no {PP : Sls → Option Int → Prop} (p : PP ρ none) : wP K F tNoPart ρ PP := fun σ G H S Q q => q none ρ G H p S (Ex.refl G)
theorem wP_some {PP : Sls → Option Int → Prop} (h : wE K F te ρ fun ρ1 x => ∃ i, x = .int i ∧ PP ρ1 (some i)) : wP K F (tPart te) ρ PP := fun σ G H S Q q =>
  h σ G H S _ fun v x ρ1 G1 H1 h1 S1 r1 e1 => by
    obtain ⟨i, rfl, p⟩ := h1
    cases r1
    exact ⟨i, rfl, q _ ρ1 G1 H1 p S1 e1⟩
def cutD {α : Type} (xs : List α) (lo hi : Option Int) : List α := (xs.drop (HT.sIx xs.length 0 lo)).take (HT.sIx xs.length xs.length hi - HT.sIx xs.length 0 lo)
theorem cutD_mem {α : Type} {xs : List α} {lo hi : Option Int} {d : α} (h : d ∈ cutD xs lo hi) : d ∈ xs := List.mem_of_mem_drop (List.mem_of_mem_take h)
theorem RepL.cut {G : Hp} {vs : List V} {ds : List D} {lo hi : Option Int} (h : RepL K G vs ds) : RepL K G (cutV vs lo hi) (cutD ds lo hi) := by
  unfold cutV cutD
  rw [h.length]
  exact RepL.take _ (RepL.drop _ h)
theorem wO_slL {tl th : TO} {PO : Sls → List D → Prop} (h : wE K F te ρ fun ρ1 x => ∃ ds, x = .lst ds ∧ wP K F tl ρ1 fun ρ2 lo => wP K F th ρ2 fun ρ3 hi => PO ρ3 (cutD ds lo hi)) : wO K F (tSl (rSlL K) te tl th) ρ PO := fun σ G H S Q q =>
  h σ G H S _ fun v x ρ1 G1 H1 h1 S1 r1 e1 => by
    obtain ⟨ds, rfl, h1⟩ := h1
    cases r1 with
    | lst ha hr =>
      exact h1 σ G1 H1 S1 _ fun lo ρ2 G2 H2 h2 S2 e2 => h2 σ G2 H2 S2 _ fun hi ρ3 G3 H3 p S3 e3 =>
        ⟨_, _, rfl, SqL.of (S3.ex _ _ (e3 _ _ (e2 _ _ ha))), fun a hn => q _ _ _ ρ3 G3 _ p (S3.alloc hn) (.alloc S3 hn (RepL.cut (RepL.up (e2.trans e3) hr))) ((e1.trans e2).trans e3)⟩
/-! ### an own list compared -/
theorem Own.dp {G H : Hp} {σ : St} {i : Nat} {l : Kd} {ds : List D} {ps : List PyData} (S : SRel K F G H σ ρ) (h : ρ[i]? = some (.ow l ds)) (ht : toPyL ds = some ps) : ∃ p, σ[i]? = some (some (.ref p)) ∧ Dp K H (.ref p) (.list ps) := by
  obtain ⟨p, vs, e, hg, hh, hr⟩ := S.ow h
  exact ⟨p, e, .lst (SqL.of hh) (RepL.dp S.ex ds vs ps hr ht)⟩
theorem wE_neO {i : Nat} {l : Kd} {ds : List D} {ps : List PyData} (h : ρ[i]? = some (.ow l ds)) (ht : toPyL ds = some ps) (s1 : SeqAt.shaped (.list ps) = true)
    (hb : wE K F tb ρ fun ρ2 y => ∃ b, ρ2[i]? = some (.ow l ds) ∧ toPy y = some b ∧ SeqAt.shaped b = true ∧ P ρ2 (.bl (!PyData.eqv (.list ps) b))) : wE K F (tOp (rNeD K) (tVar i) tb) ρ P := fun σ G H S Q q => by
  obtain ⟨p, e, d1⟩ := Own.dp S h ht
  refine ⟨.ref p, e, hb σ G H S _ fun vy y ρ2 G2 H2 h2 S2 r2 e2 => ?_⟩
  obtain ⟨b, h2, hy, sb, pp⟩ := h2
  obtain ⟨p', e', d2⟩ := Own.dp S2 h2 ht
  rw [e] at e'
  cases e'
  exact ⟨_, b, d2, Rep.dp S2.ex y vy b r2 hy, s1, sb, q _ _ ρ2 G2 H2 pp S2 (.bl _) e2⟩
theorem wE_eqO {i : Nat} {l : Kd} {ds : List D} {ps : List PyData} (h : ρ[i]? = some (.ow l ds)) (ht : toPyL ds = some ps) (s1 : SeqAt.shaped (.list ps) = true)
    (hb : wE K F tb ρ fun ρ2 y => ∃ b, ρ2[i]? = some (.ow l ds) ∧ toPy y = some b ∧ SeqAt.shaped b = true ∧ P ρ2 (.bl (PyData.eqv (.list ps) b))) : wE K F (tOp (rEqD K) (tVar i) tb) ρ P := fun σ G H S Q q => by
  obtain ⟨p, e, d1⟩ := Own.dp S h ht
  refine ⟨.ref p, e, hb σ G H S _ fun vy y ρ2 G2 H2 h2 S2 r2 e2 => ?_⟩
  obtain ⟨b, h2, hy, sb, pp⟩ := h2
  obtain ⟨p', e', d2⟩ := Own.dp S2 h2 ht
  rw [e] at e'
  cases e'
  exact ⟨_, b, d2, Rep.dp S2.ex y vy b r2 hy, s1, sb, q _ _ ρ2 G2 H2 pp S2 (.bl _) e2⟩
/-! ### a truth less a truth -/
def rSubB : R2 := fun x y H Q => (rI0 fun i j => .int (i - j)) x y H Q ∨ ∃ p q, x = .bl p ∧ y = .bl q ∧ Q (.int (PyProof.Rows.b2i p - PyProof.Rows.b2i q)) H
theorem op_subbb {X : Cx} : OpR X (binaryOp .Sub) (fun x y H Q => ∃ p q, x = .bl p ∧ y = .bl q ∧ Q (.int (PyProof.Rows.b2i p - PyProof.Rows.b2i q)) H) := by
  intro pins s σ H x y v u Q I rx ry h
  obtain ⟨p, q, rfl, rfl, z⟩ := h
  cases rx
  cases ry
  exact PyProof.Rows.sub_bool ⟨.int _, H, I.tok _, ⟨_, rfl⟩, z⟩
theorem op_subB {X : Cx} : OpR X (binaryOp .Sub) rSubB := op_sub.or op_subbb
theorem wR_subI {i j : Int} (p : P ρ (.int (i - j))) : wR K F rSubB (.int i) (.int j) ρ P := fun σ G H vx vy S rx ry Q q => .inl (wR_I0 (g := fun i j => i - j) p σ G H vx vy S rx ry Q q)
theorem wR_subB {i j : Bool} (p : P ρ (.int (PyProof.Rows.b2i i - PyProof.Rows.b2i j))) : wR K F rSubB (.bl i) (.bl j) ρ P := fun σ G H vx vy S rx ry Q q => by
  cases rx
  cases ry
  exact .inr ⟨i, j, rfl, rfl, q _ _ ρ G H p S (.int _) (Ex.refl G)⟩
end
end DL
namespace DL
open PySem L2
open Evl (Ex)
/-! ### texts -/
/-- the signs of a text -/
def sgD (z : Str) : List D := z.cps.toList.map fun c => D.str ⟨#[c]⟩
theorem sgD_len (z : Str) : (sgD z).length = z.cps.size := by
  unfold sgD
  rw [List.length_map, Array.length_toList]
theorem sgD_get {z : Str} {i c : Nat} (h : z.cps[i]? = some c) : (sgD z)[i]? = some (.str ⟨#[c]⟩) := by
  unfold sgD
  rw [List.getElem?_map, Array.getElem?_toList, h]
  rfl
section
variable {K : PySem.W.Frag} {F : Fr} {ρ : Sls} {g : TG} {tb : TS} {O : Out} {tt : TT} {te tl : TE} {vs : List Nat} {PO : Sls → List D → Prop}
theorem wO_lcS (hT : Tgt g vs) (h : wE K F tl ρ fun ρ1 d => ∃ z, d = .str z ∧ z.cps.size ≤ 100000 ∧ compL K g tt te vs (sgD z) (wipeU ρ1 vs) [] fun ρ' acc => PO (restS vs 0 ρ1 ρ') acc) : wO K F (tLc (iStr tl) g tt te vs) ρ PO := fun σ G H S Q q =>
  h σ G H S _ fun v d ρ1 G1 H1 h1 S1 r1 e1 => by
    obtain ⟨z, rfl, hl, f⟩ := h1
    cases r1
    refine ⟨z, rfl, fun Dl hD => lc_it walk_str (fun i H' => CompEx K F g tt te vs σ G1 Dl (fun ρ' acc => PO (restS vs 0 ρ1 ρ') acc) i ((sgD z).drop i) H') (comp_start S1 f hD) (fun _ _ _ _ => trivial) (fun i x H' H'' hi c y => ?_) fun H' c => ?_⟩
    · obtain ⟨rfl, c', hc, rfl⟩ := y
      rw [drop_at (sgD_get hc)] at c
      exact comp_turn hT (by omega) c fun G' e' => .str _
    · rw [show (sgD z).drop z.cps.size = [] from List.drop_eq_nil_of_le (by rw [sgD_len]; exact Nat.le_refl _)] at c
      obtain ⟨G', ρ', acc, vacc, p, S', o, e'⟩ := comp_end (P := PO) S1 c hD
      exact q _ _ _ ρ' G' H' p S' o (e1.trans e')
theorem wS_forS (h : wE K F tl ρ fun ρ1 d => ∃ z, d = .str z ∧ forS K F g tb O (sgD z) ρ1) : wS K F (tFor (iStr tl) g tb) ρ O := fun σ G H S D1 k =>
  h σ G H S _ fun v d ρ1 G1 H1 h1 S1 r1 e1 => by
    obtain ⟨z, rfl, f⟩ := h1
    cases r1
    refine ⟨z, rfl, for_it walk_str (fun i σ' H' => ∃ G' ρ', SRel K F G' H' σ' ρ' ∧ Ex G1 G' ∧ forS K F g tb O ((sgD z).drop i) ρ') ⟨G1, ρ1, S1, Ex.refl G1, f⟩ (fun _ _ _ _ _ => trivial) ?_ ?_⟩
    · rintro i x σ' H' H'' hi ⟨G', ρ', S', e', f'⟩ ⟨rfl, c, hc, rfl⟩
      exact for_turn k e1 S' e' (sgD_get hc) (.str _) f'
    · rintro σ' H' ⟨G', ρ', S', e', f'⟩
      rw [show (sgD z).drop z.cps.size = [] from List.drop_eq_nil_of_le (by rw [sgD_len]; exact Nat.le_refl _)] at f'
      exact k.nx ρ' σ' G' H' f' S' (e1.trans e')
/-- a comprehension by its word -/
theorem compL_inv {acc0 : List D} {P : Sls → List D → Prop} (ds : List D) (Inv : Nat → Sls → List D → Prop) (h0 : Inv 0 ρ acc0)
    (hs : ∀ (i : Nat) (x : D) (ρ2 : Sls) (acc : List D) (F : Fr), ds[i]? = some x → Inv i ρ2 acc → wG K F g x ρ2 fun ρ3 => wT K F tt ρ3 fun ρ4 b => Ways b (wE K F te ρ4 fun ρ5 y => Inv (i + 1) (wipeU ρ5 vs) (acc ++ [y])) (Inv (i + 1) (wipeU ρ4 vs) acc))
    (hd : ∀ (ρ2 : Sls) (acc : List D), Inv ds.length ρ2 acc → P ρ2 acc) : compL K g tt te vs ds ρ acc0 P := by
  have key : ∀ (k : Nat) (es : List D), ds = ds.take k ++ es → k ≤ ds.length → ∀ ρ2 acc, Inv k ρ2 acc → compL K g tt te vs es ρ2 acc P := by
    intro k es
    induction es generalizing k with
    | nil =>
      intro e hk ρ2 acc hi
      have hl : ds.length = k := by
        have := congrArg List.length e
        rw [List.append_nil, List.length_take] at this
        omega
      exact hd ρ2 acc (hl ▸ hi)
    | cons x r ih =>
      intro e hk ρ2 acc hi
      have hlt : k < ds.length := by
        have := congrArg List.length e
        rw [List.length_append, List.length_take, List.length_cons] at this
        omega
      have hx : ds[k]? = some x := by
        rw [e, List.getElem?_append_right (by rw [List.length_take]; omega), List.length_take, Nat.min_eq_left hk, Nat.sub_self]
        rfl
      have e' : ds = ds.take (k + 1) ++ r := by
        rw [List.take_add_one, hx]
        simpa using e
      intro F'
      refine wG_mono (hs k x ρ2 acc F' hx hi) fun ρ3 h3 => wT_mono h3 fun ρ4 b h4 => ⟨fun hb => wE_mono (h4.1 hb) fun ρ5 y h5 => ih (k + 1) e' hlt _ _ h5, fun hb => ih (k + 1) e' hlt _ _ (h4.2 hb)⟩
  exact key 0 ds (by simp) (Nat.zero_le _) ρ acc0 h0
end
section
variable {K : PySem.W.Frag} {F : Fr} {ρ : Sls} {P : Sls → D → Prop} {PO : Sls → List D → Prop} {te to ta tb : TE} {r : R2} {x y : D}
abbrev rJoin (K : PySem.W.Frag) : V → List V → Hp → VK → Prop := fun x xs H Q => ∃ a p, ∃ ys : List Str, x = .str a ∧ xs = [.ref p] ∧ (SqL K H p (ys.map V.str) ∨ SqT K H p (ys.map V.str)) ∧
  (ys.map (·.length)).sum + ys.length * a.length ≤ 16777216 ∧ Q (.str (Txt.join a ys)) H
theorem wE_join (h : wE K F to ρ fun ρ1 x => ∃ a, x = .str a ∧ wE K F te ρ1 fun ρ2 y => ∃ ys : List Str, y = .lst (ys.map D.str) ∧ (ys.map (·.length)).sum + ys.length * a.length ≤ 16777216 ∧ P ρ2 (.str (Txt.join a ys))) : wE K F (tM1 (rJoin K) to te) ρ P := fun σ G H S Q q =>
  h σ G H S _ fun v x ρ1 G1 H1 h1 S1 r1 e1 => by
    obtain ⟨a, rfl, h2⟩ := h1
    cases r1
    refine ⟨⟨a, rfl⟩, h2 σ G1 H1 S1 _ fun w y ρ2 G2 H2 hp S2 r2 e2 => ?_⟩
    obtain ⟨ys, rfl, hl, p⟩ := hp
    cases r2 with
    | lst ha hr =>
      rw [RepL.strs hr] at ha
      exact ⟨a, _, ys, rfl, rfl, .inl (SqL.of (S2.ex _ _ ha)), hl, q _ _ ρ2 G2 H2 p S2 (.str _) (e1.trans e2)⟩
abbrev rSplit : V → List V → Hp → VK → Prop := fun x xs H Q => ∃ a b, x = .str a ∧ xs = [.str b] ∧ (b.length == 0) = false ∧ a.length + 2 ≤ sizeLine ∧ rNewStrs (Txt.split a b) H Q
theorem wO_split (h : wE K F to ρ fun ρ1 x => ∃ a, x = .str a ∧ wE K F te ρ1 fun ρ2 y => ∃ b : Str, y = .str b ∧ (b.length == 0) = false ∧ a.length + 2 ≤ 100000 ∧ PO ρ2 ((Txt.split a b).map D.str)) : wO K F (tM1 rSplit to te) ρ PO := fun σ G H S Q q =>
  h σ G H S _ fun v x ρ1 G1 H1 h1 S1 r1 e1 => by
    obtain ⟨a, rfl, h2⟩ := h1
    cases r1
    refine ⟨⟨a, rfl⟩, h2 σ G1 H1 S1 _ fun w y ρ2 G2 H2 hp S2 r2 e2 => ?_⟩
    obtain ⟨b, rfl, hb, hl, p⟩ := hp
    cases r2
    exact ⟨a, b, rfl, rfl, hb, Evl.sz_of hl, fun l hn => q _ _ _ ρ2 G2 _ p (S2.alloc hn) (.alloc S2 hn (RepL.ofStrs _)) (e1.trans e2)⟩
abbrev rUpper : V → List V → Hp → VK → Prop := fun x xs H Q => ∃ a, x = .str a ∧ xs = [] ∧ a.length ≤ 5592405 ∧ Q (.str (Txt.upper a)) H
theorem wE_upper (h : wE K F to ρ fun ρ1 x => ∃ a, x = .str a ∧ a.length ≤ 5592405 ∧ P ρ1 (.str (Txt.upper a))) : wE K F (tM0 rUpper to) ρ P := fun σ G H S Q q =>
  h σ G H S _ fun v x ρ1 G1 H1 h1 S1 r1 e1 => by
    obtain ⟨a, rfl, hl, p⟩ := h1
    cases r1
    exact ⟨⟨a, rfl⟩, a, rfl, rfl, hl, q _ _ ρ1 G1 H1 p S1 (.str _) e1⟩
theorem wE_slS {tl th : TO} (h : wE K F te ρ fun ρ1 x => ∃ z, x = .str z ∧ z.length ≤ 100000 ∧ wP K F tl ρ1 fun ρ2 lo => wP K F th ρ2 fun ρ3 hi => P ρ3 (.str (cutS z lo hi))) : wE K F (tSl rSlS te tl th) ρ P := fun σ G H S Q q =>
  h σ G H S _ fun v x ρ1 G1 H1 h1 S1 r1 e1 => by
    obtain ⟨z, rfl, hz, h1⟩ := h1
    cases r1
    exact h1 σ G1 H1 S1 _ fun lo ρ2 G2 H2 h2 S2 e2 => h2 σ G2 H2 S2 _ fun hi ρ3 G3 H3 p S3 e3 => ⟨z, rfl, Evl.sz_of hz, q _ _ ρ3 G3 H3 p S3 (.str _) ((e1.trans e2).trans e3)⟩
abbrev rLeS : R2 := fun x y H Q => ∃ i j, x = .str i ∧ y = .str j ∧ Q (.bl (!decide (j.cps.toList < i.cps.toList))) H
theorem wR_leS {a b : Str} (p : P ρ (.bl (!decide (b.cps.toList < a.cps.toList)))) : wR K F rLeS (.str a) (.str b) ρ P := fun σ G H vx vy S rx ry Q q => by
  cases rx
  cases ry
  exact ⟨a, b, rfl, rfl, q _ _ ρ G H p S (.bl _) (Ex.refl G)⟩
abbrev rInSg : R2 := fun x y H Q => ∃ (c : Nat) (z : Str), x = .str ⟨#[c]⟩ ∧ y = .str z ∧ Q (.bl (decide (c ∈ z.cps.toList))) H
theorem wR_inSg {c : Nat} {z : Str} (p : P ρ (.bl (decide (c ∈ z.cps.toList)))) : wR K F rInSg (.str ⟨#[c]⟩) (.str z) ρ P := fun σ G H vx vy S rx ry Q q => by
  cases rx
  cases ry
  exact ⟨c, z, rfl, rfl, q _ _ ρ G H p S (.bl _) (Ex.refl G)⟩
abbrev rNiSg : R2 := fun x y H Q => ∃ (c : Nat) (z : Str), x = .str ⟨#[c]⟩ ∧ y = .str z ∧ Q (.bl (!decide (c ∈ z.cps.toList))) H
theorem wR_niSg {c : Nat} {z : Str} (p : P ρ (.bl (!decide (c ∈ z.cps.toList)))) : wR K F rNiSg (.str ⟨#[c]⟩) (.str z) ρ P := fun σ G H vx vy S rx ry Q q => by
  cases rx
  cases ry
  exact ⟨c, z, rfl, rfl, q _ _ ρ G H p S (.bl _) (Ex.refl G)⟩
/-! is True, is False -/
theorem op_isTF {X : Cx} : OpR X (compareOp .Is) (rIsTF false) := by
  intro pins s σ H x y v u Q I rx ry h
  obtain ⟨b, rfl, h⟩ := h
  cases (show u = Value.bool b from ry)
  rcases h with ⟨a, rfl, q⟩ | ⟨h1, h2, q⟩
  · cases (show v = Value.bool a from rx)
    by_cases e : a = b
    · subst e
      exact wpAny_is_self rfl ⟨.bl true, H, I, rfl, by simpa using q⟩
    · exact wpAny_is_other rfl (fun z => e (Value.bool.inj z)) ⟨.bl false, H, I, rfl, by simpa [e] using q⟩
  · cases x with
    | bl a => exact absurd rfl (h1 a)
    | ty n => exact absurd rfl (h2 n)
    | non => cases (show v = Value.none from rx); exact wpAny_is_other rfl (fun z => nomatch z) ⟨.bl false, H, I, rfl, q⟩
    | int i => obtain ⟨t, rfl⟩ := rx; exact wpAny_is_other rfl (fun z => nomatch z) ⟨.bl false, H, I, rfl, q⟩
    | str i => obtain ⟨t, rfl⟩ := rx; exact wpAny_is_other rfl (fun z => nomatch z) ⟨.bl false, H, I, rfl, q⟩
    | byt i => obtain ⟨t, rfl⟩ := rx; exact wpAny_is_other rfl (fun z => nomatch z) ⟨.bl false, H, I, rfl, q⟩
    | flt i => obtain ⟨t, rfl⟩ := rx; exact wpAny_is_other rfl (fun z => nomatch z) ⟨.bl false, H, I, rfl, q⟩
    | ref a => cases (show v = Value.ref a from rx); exact wpAny_is_other rfl (fun z => nomatch z) ⟨.bl false, H, I, rfl, q⟩
theorem op_notTF {X : Cx} : OpR X (compareOp .IsNot) (rIsTF true) := by
  intro pins s σ H x y v u Q I rx ry h
  obtain ⟨b, rfl, h⟩ := h
  cases (show u = Value.bool b from ry)
  rcases h with ⟨a, rfl, q⟩ | ⟨h1, h2, q⟩
  · cases (show v = Value.bool a from rx)
    by_cases e : a = b
    · subst e
      exact wpAny_isNot_self rfl ⟨.bl false, H, I, rfl, by simpa using q⟩
    · exact wpAny_isNot_other rfl (fun z => e (Value.bool.inj z)) ⟨.bl true, H, I, rfl, by simpa [e] using q⟩
  · cases x with
    | bl a => exact absurd rfl (h1 a)
    | ty n => exact absurd rfl (h2 n)
    | non => cases (show v = Value.none from rx); exact wpAny_isNot_other rfl (fun z => nomatch z) ⟨.bl true, H, I, rfl, q⟩
    | int i => obtain ⟨t, rfl⟩ := rx; exact wpAny_isNot_other rfl (fun z => nomatch z) ⟨.bl true, H, I, rfl, q⟩
    | str i => obtain ⟨t, rfl⟩ := rx; exact wpAny_isNot_other rfl (fun z => nomatch z) ⟨.bl true, H, I, rfl, q⟩
    | byt i => obtain ⟨t, rfl⟩ := rx; exact wpAny_isNot_other rfl (fun z => nomatch z) ⟨.bl true, H, I, rfl, q⟩
    | flt i => obtain ⟨t, rfl⟩ := rx; exact wpAny_isNot_other rfl (fun z => nomatch z) ⟨.bl true, H, I, rfl, q⟩
    | ref a => cases (show v = Value.ref a from rx); exact wpAny_isNot_other rfl (fun z => nomatch z) ⟨.bl true, H, I, rfl, q⟩
def isTF (b : Bool) : D → Bool
  | .bl a => decide (a = b)
  | _ => false
def tyFree : D → Bool
  | .ty _ => false
  | _ => true
theorem Rep.notBl {G : Hp} {v : V} {d : D} (h : Rep K G v d) (f : tyFree d = true) : (∃ a, d = .bl a ∧ v = .bl a) ∨ ((∀ a, v ≠ .bl a) ∧ (∀ n, v ≠ .ty n) ∧ ∀ b, isTF b d = false) := by
  cases h <;> first | exact .inl ⟨_, rfl, rfl⟩ | (cases f; done) | exact .inr ⟨fun _ z => (nomatch z), fun _ z => (nomatch z), fun _ => rfl⟩
theorem wR_isTF {b : Bool} (f : tyFree x = true) (p : P ρ (.bl (isTF b x))) : wR K F (rIsTF false) x (.bl b) ρ P := fun σ G H vx vy S rx ry Q q => by
  cases ry
  rcases rx.notBl f with ⟨a, rfl, rfl⟩ | ⟨h1, h2, h3⟩
  · exact ⟨b, rfl, .inl ⟨a, rfl, by rw [Bool.false_xor]; exact q _ _ ρ G H p S (.bl _) (Ex.refl G)⟩⟩
  · refine ⟨b, rfl, .inr ⟨h1, h2, ?_⟩⟩
    rw [h3 b] at p
    exact q _ _ ρ G H p S (.bl _) (Ex.refl G)
theorem wR_notTF {b : Bool} (f : tyFree x = true) (p : P ρ (.bl (!isTF b x))) : wR K F (rIsTF true) x (.bl b) ρ P := fun σ G H vx vy S rx ry Q q => by
  cases ry
  rcases rx.notBl f with ⟨a, rfl, rfl⟩ | ⟨h1, h2, h3⟩
  · exact ⟨b, rfl, .inl ⟨a, rfl, by rw [Bool.true_xor]; exact q _ _ ρ G H p S (.bl _) (Ex.refl G)⟩⟩
  · refine ⟨b, rfl, .inr ⟨h1, h2, ?_⟩⟩
    rw [h3 b] at p
    exact q _ _ ρ G H p S (.bl _) (Ex.refl G)
/-! dicts written out -/
theorem wE_dnew (p : P ρ (.dct [])) : wE K F tDNewK ρ P := fun σ G H S Q q => fun a ha => q _ _ ρ (upd G a (.dK [])) _ p (S.new ha) (.dct upd_same .nil) (Ex.new (S.fr.freshG ha))
theorem wE_disp1 {k z : Str} (p : P ρ (.dct [(.inr k, .str z)])) : wE K F (tDisp [(tC (.str k), tC (.str z))]) ρ P := fun σ G H S Q q => fun a ha => by
  refine ⟨upd_same, [(.inr k, .str z)], rfl, by show 1 ≤ 15; decide, ?_⟩
  have e : upd (upd H a (.dK [])) a (.dK [((.inr k : Key), V.str z)]) = upd H a (.dK [((.inr k : Key), V.str z)]) := by
    funext b
    by_cases hb : b = a
    · subst hb; rw [upd_same, upd_same]
    · rw [upd_ne hb, upd_ne hb, upd_ne hb]
  have e2 : mergeK [] [((.inr k : Key), V.str z)] = [((.inr k : Key), V.str z)] := rfl
  rw [e2, e]
  exact q _ _ ρ (upd G a (.dK [((.inr k : Key), V.str z)])) _ p (S.new ha) (.dct upd_same (.cons (.str z) .nil)) (Ex.new (S.fr.freshG ha))
open PySem.Builtin.Str in
theorem split_bd (x y : Str) (hy : 0 < y.length) : (Txt.split x y).length ≤ x.length + 1 ∧ ∀ p ∈ Txt.split x y, p.length ≤ x.length := by
  unfold Txt.split
  split
  · exact ⟨by simp, fun p hp => by rw [List.mem_singleton] at hp; rw [hp]; exact Nat.le_refl _⟩
  · split
    · exact ⟨by simp, fun p hp => by rw [List.mem_singleton] at hp; rw [hp]; exact Nat.le_refl _⟩
    · generalize hq : partsBetween x (occurrences x y 0 x.length (x.length + 1)) y.length = ps
      have h1 : glued y ps = x := by rw [← hq]; exact PySem.StrLaws.glued_between_self x y _
      have h2 := PySem.size_glued y ps
      rw [h1] at h2
      refine ⟨?_, fun p hp => ?_⟩
      · have h3 : (ps.length - 1) * 1 ≤ (ps.length - 1) * y.length := Nat.mul_le_mul_left _ hy
        omega
      · have h3 : ∀ (l : List Str), p ∈ l → p.length ≤ (l.map (·.length)).sum := by
          intro l
          induction l with
          | nil => intro h; cases h
          | cons a r ih =>
            intro h
            rw [List.map_cons, List.sum_cons]
            rcases List.mem_cons.mp h with rfl | h
            · omega
            · have := ih h
              omega
        have := h3 ps hp
        omega
open PySem.Builtin.Str in
theorem join_len (a : Str) (ys : List Str) : (Txt.join a ys).length ≤ (ys.map (·.length)).sum + ys.length * a.length := by
  show (glued a ys).length ≤ _
  rw [PySem.size_glued a ys]
  have : (ys.length - 1) * a.length ≤ ys.length * a.length := Nat.mul_le_mul_right _ (by omega)
  omega
theorem compL_flt {g : TG} {tt : TT} {te : TE} {vs : List Nat} {ρ0 : Sls} {PC : Sls → List D → Prop} {p : D → Bool} {f : D → D} : ∀ (ds acc : List D),
    (∀ (F : Fr) (x : D), x ∈ ds → wG K F g x ρ0 fun ρ3 => wT K F tt ρ3 fun ρ4 b => b = p x ∧ (b = false → wipeU ρ4 vs = ρ0) ∧ (b = true → wE K F te ρ4 fun ρ5 y => wipeU ρ5 vs = ρ0 ∧ y = f x)) →
    PC ρ0 (acc ++ (ds.filter p).map f) → compL K g tt te vs ds ρ0 acc PC
  | [], acc, _, h => by
    rw [List.filter_nil, List.map_nil, List.append_nil] at h
    exact h
  | x :: r, acc, hs, h => fun F => by
    refine wG_mono (hs F x (List.mem_cons_self ..)) fun ρ3 h3 => wT_mono h3 fun ρ4 b h4 => ?_
    obtain ⟨hb, hf, ht⟩ := h4
    rw [List.filter_cons] at h
    cases b with
    | true =>
      rw [if_pos hb.symm] at h
      refine ways_t (wE_mono (ht rfl) fun ρ5 y h5 => ?_)
      obtain ⟨e1, e2⟩ := h5
      rw [e1, e2]
      refine compL_flt r _ (fun F x' hx' => hs F x' (List.mem_cons_of_mem _ hx')) ?_
      rw [List.append_assoc]
      exact h
    | false =>
      rw [if_neg (by rw [← hb]; exact Bool.false_ne_true)] at h
      refine ways_f ?_
      rw [hf rfl]
      exact compL_flt r _ (fun F x' hx' => hs F x' (List.mem_cons_of_mem _ hx')) h
theorem wC_all' {l : List D} {bs : List Bool} (e : l = bs.map D.bl) (p : P ρ (.bl (bs.all id))) : wC K F (rAll K) [.lst l] ρ P := by
  subst e
  exact wC_all p
/-! a text times a number -/
def repS (x : Str) (n : Nat) : Str := ⟨(List.replicate n x.cps).foldl (· ++ ·) #[]⟩
def rRepS : R2 := fun x y H Q => ∃ z k, x = .str z ∧ y = .int k ∧ 2 ≤ k ∧ k ≤ 10000 ∧ 0 < z.length ∧ z.length * k.toNat ≤ 100000 ∧ (repS z k.toNat).length ≤ 100000 ∧ Q (.str (repS z k.toNat)) H
theorem op_repS {X : Cx} : OpR X (binaryOp .Mult) rRepS := by
  intro pins s σ H x y v u Q I rx ry h
  obtain ⟨z, k, rfl, rfl, h1, h2, h3, h4, h5, q⟩ := h
  obtain ⟨t, rfl⟩ := rx
  obtain ⟨t', rfl⟩ := ry
  have hz : z.length ≤ 100000 := by
    have h6 : z.length * 1 ≤ z.length * k.toNat := Nat.mul_le_mul_left _ (by omega)
    omega
  have hc : (k == 1 || z.length == 0) = false := by
    rw [Bool.or_eq_false_iff]
    exact ⟨beq_eq_false_iff_ne.mpr (by omega), beq_eq_false_iff_ne.mpr (by omega)⟩
  refine PySem.P.mul_str ?_ (fun _ _ => ?_) (fun _ _ => ?_) ?_
  · rw [decide_eq_false (show ¬ k < -(2 ^ 63 : Int) by omega), decide_eq_false (show ¬ k ≥ 2 ^ 63 by omega)]
    rfl
  · have h6 : (100000 : Int) ≤ (2 ^ 63 - 1) / k := by
      rw [Int.le_ediv_iff_mul_le (by omega)]
      omega
    omega
  · exact decide_eq_false (Nat.not_lt.mpr (Nat.le_trans h4 (by decide)))
  · rw [if_neg (show ¬ k < 1 by omega), if_neg (by rw [hc]; exact Bool.false_ne_true)]
    exact ⟨Evl.sz_of h5, ⟨.str _, H, I.tok _, ⟨_, rfl⟩, q⟩⟩
theorem wR_repS {z : Str} {k : Int} (h1 : 2 ≤ k) (h2 : k ≤ 10000) (h3 : 0 < z.length) (h4 : z.length * k.toNat ≤ 100000) (h5 : (repS z k.toNat).length ≤ 100000) (p : P ρ (.str (repS z k.toNat))) : wR K F rRepS (.str z) (.int k) ρ P := fun σ G H vx vy S rx ry Q q => by
  cases rx
  cases ry
  exact ⟨z, k, rfl, rfl, h1, h2, h3, h4, h5, q _ _ ρ G H p S (.str _) (Ex.refl G)⟩
/-- a sign of a text at a drawn place -/
theorem wR_xSAll {z : Str} {i : Int} (hl : z.length ≤ 100000) (h0 : 0 ≤ i) (h1 : i < (z.cps.toList.length : Int)) (p : ∀ c, c ∈ z.cps.toList → P ρ (.str ⟨#[c]⟩)) : wR K F (rIx K) (.str z) (.int i) ρ P := by
  obtain ⟨c, hm, e⟩ := atI_of h0 h1
  exact wR_xS hl e (p c hm)
/-- str(number) -/
abbrev rStrI : List V → Hp → VK → Prop := fun xs H Q => ∃ i, xs = [.int i] ∧ i.natAbs.log2 < 1920 ∧ Q (.str (toString i)) H
theorem wC_strI {i : Int} (h : i.natAbs.log2 < 1920) (p : P ρ (.str (Str.ofString (toString i)))) : wC K F rStrI [.int i] ρ P := fun σ G H vs S rs Q q => by
  cases rs with
  | cons r1 rr =>
    cases rr; cases r1
    exact ⟨i, rfl, h, q _ _ ρ G H p S (.str _) (Ex.refl G)⟩
end
end DL
namespace DL
open PySem L2
open Evl (Ex)
/-! ### texts whose signs are signs -/
def okS (s : Str) : Prop := ∀ c ∈ s.cps.toList, c < 0x110000
theorem okS_strOk {s : Str} (h : okS s) : PyData.strOk s = true := by
  unfold PyData.strOk
  rw [Array.all_eq_true_iff_forall_mem]
  intro c hc
  exact decide_eq_true (h c (by simpa using hc))
theorem okS_of {s : Str} (h : (s.cps.toList.all fun c => decide (c < 0x110000)) = true) : okS s := fun c hc => of_decide_eq_true (List.all_eq_true.mp h c hc)
theorem cps_app (a b : Str) : (a ++ b).cps.toList = a.cps.toList ++ b.cps.toList := by
  show (a.cps ++ b.cps).toList = _
  rw [Array.toList_append]
theorem len_app (a b : Str) : (a ++ b).length = a.length + b.length := by
  show (a.cps ++ b.cps).size = _
  rw [Array.size_append]
  rfl
theorem okS_app {a b : Str} (h : okS a) (h' : okS b) : okS (a ++ b) := fun c hc => by
  rw [cps_app] at hc
  rcases List.mem_append.mp hc with q | q
  · exact h c q
  · exact h' c q
theorem okS_cut {z : Str} {lo hi : Option Int} (h : okS z) : okS (cutS z lo hi) := fun c hc => by
  have hc' : c ∈ ((z.cps.toList.drop (HT.sIx z.length 0 lo)).take (HT.sIx z.length z.length hi - HT.sIx z.length 0 lo)).toArray.toList := hc
  exact h c (List.mem_of_mem_drop (List.mem_of_mem_take (by simpa using hc')))
theorem okS_sg {z : Str} {c : Nat} (h : okS z) (hc : c ∈ z.cps.toList) : okS ⟨#[c]⟩ := fun d hd => by
  have : d = c := by simpa using hd
  rw [this]
  exact h c hc
theorem join_mem (y : Str) : ∀ (ps : List Str) (p : Str) (c : Nat), p ∈ ps → c ∈ p.cps.toList → c ∈ (Str.join y ps).cps.toList
  | [], _, _, h, _ => by cases h
  | [x], p, c, h, hc => by
    rw [List.mem_singleton] at h
    subst h
    exact hc
  | x :: z :: r, p, c, h, hc => by
    show c ∈ (x ++ y ++ Str.join y (z :: r)).cps.toList
    rw [cps_app, cps_app]
    rcases List.mem_cons.mp h with rfl | h
    · exact List.mem_append_left _ (List.mem_append_left _ hc)
    · exact List.mem_append_right _ (join_mem y (z :: r) p c h hc)
theorem okS_join {a : Str} (ha : okS a) : ∀ (ys : List Str), (∀ y ∈ ys, okS y) → okS (Str.join a ys)
  | [], _ => fun c hc => by
    have : c ∈ (#[] : Array Nat).toList := hc
    simp at this
  | [x], h => h x (List.mem_cons_self ..)
  | x :: z :: r, h => okS_app (a := x ++ a) (okS_app (h x (List.mem_cons_self ..)) ha) (okS_join ha (z :: r) fun y hy => h y (List.mem_cons_of_mem _ hy))
theorem okS_joinT {a : Str} {ys : List Str} (ha : okS a) (h : ∀ y ∈ ys, okS y) : okS (Txt.join a ys) := by
  show okS (PySem.Builtin.Str.glued a ys)
  rw [PySem.StrLaws.glued_eq_join]
  exact okS_join ha ys h
open PySem.Builtin.Str in
theorem split_ok {x y : Str} (h : okS x) : ∀ p ∈ Txt.split x y, okS p := by
  unfold Txt.split
  split
  · intro p hp; rw [List.mem_singleton] at hp; rw [hp]; exact h
  · split
    · intro p hp; rw [List.mem_singleton] at hp; rw [hp]; exact h
    · intro p hp c hc
      have h1 := PySem.StrLaws.glued_between_self x y (x.length + 1)
      rw [PySem.StrLaws.glued_eq_join] at h1
      refine h c ?_
      rw [← h1]
      exact join_mem y _ p c hp hc
theorem toPyL_strs : ∀ ss : List Str, toPyL (ss.map D.str) = some (ss.map PyData.str)
  | [] => rfl
  | s :: ss => by
    rw [List.map_cons, toPyL, toPyL_strs ss]
    rfl
theorem lay_strs : ∀ ss : List Str, (∀ s ∈ ss, okS s) → PyData.canLayAll0 (ss.map PyData.str) = true
  | [], _ => by simp [PyData.canLayAll0]
  | s :: ss, h => by
    simp only [List.map_cons, PyData.canLayAll0, PyData.canLay0, Bool.and_eq_true]
    exact ⟨okS_strOk (h s (List.mem_cons_self ..)), lay_strs ss fun t ht => h t (List.mem_cons_of_mem _ ht)⟩
theorem depth_strs : ∀ ss : List Str, PyData.depthAll (ss.map PyData.str) = 0
  | [] => by simp [PyData.depthAll]
  | s :: ss => by
    simp only [List.map_cons, PyData.depthAll, PyData.depth, depth_strs ss]
    rfl
theorem shaped_strs {ss : List Str} (h : ∀ s ∈ ss, okS s) : SeqAt.shaped (.list (ss.map PyData.str)) = true := by
  show (PyData.canLay0 (.list (ss.map PyData.str)) && decide (PyData.depth (.list (ss.map PyData.str)) ≤ 64)) = true
  rw [Bool.and_eq_true]
  refine ⟨by simp only [PyData.canLay0]; exact lay_strs ss h, decide_eq_true ?_⟩
  simp only [PyData.depth, depth_strs]
  decide
section
variable {K : PySem.W.Frag} {F : Fr} {ρ : Sls} {P : Sls → D → Prop}
theorem wR_eqNil {l : List D} {ss : List Str} (e : l = ss.map D.str) (h : ∀ s ∈ ss, okS s) (p : P ρ (.bl ss.isEmpty)) : wR K F (rEqD K) (.lst l) (.lst []) ρ P := by
  subst e
  refine wR_eqD (a := .list (ss.map PyData.str)) (b := .list []) (by rw [toPy, toPyL_strs]; rfl) rfl (shaped_strs h) (by kernel_rfl) ?_
  have e : PyData.eqv (.list (ss.map PyData.str)) (.list []) = ss.isEmpty := by
    cases ss with
    | nil => simp [PyData.eqv, PyData.eqvAll]
    | cons s ss => simp [PyData.eqv, PyData.eqvAll]
  rw [e]
  exact p
end
theorem le_a (c : Nat) : (!decide (([c] : List Nat) < (Str.ofString "a").cps.toList)) = decide (97 ≤ c) := by
  have e : (Str.ofString "a").cps.toList = [97] := by decide +kernel
  rw [e, ← decide_not]
  apply decide_eq_decide.mpr
  rw [List.cons_lt_cons_iff]
  simp
theorem le_z (c : Nat) : (!decide ((Str.ofString "z").cps.toList < ([c] : List Nat))) = decide (c ≤ 122) := by
  have e : (Str.ofString "z").cps.toList = [122] := by decide +kernel
  rw [e, ← decide_not]
  apply decide_eq_decide.mpr
  rw [List.cons_lt_cons_iff]
  simp
end DL
namespace DL
open PySem L2
open Evl (Ex)
theorem units65 {k : Nat} {A : Around} (r : Room k A) : A.units + 65 < cLine := by
  have := r.un
  omega
section
variable {K : PySem.W.Frag} {F : Fr} {ρ : Sls} {P : Sls → D → Prop} {x : D}
theorem wR_inD {ds : List D} {a : PyData} {es : List PyData} (h1 : toPy x = some a) (h2 : toPyL ds = some es) (s1 : SeqAt.shaped a = true) (s2 : SeqAt.shaped (.list es) = true) (p : P ρ (.bl (es.any fun z => PyData.eqv z a))) : wR K F (rInD K) x (.lst ds) ρ P := fun σ G H vx vy S rx ry Q q =>
  ⟨a, es, Rep.dp S.ex x vx a rx h1, Rep.dp S.ex (.lst ds) vy (.list es) ry (by rw [toPy, h2]; rfl), s1, s2, q _ _ ρ G H p S (.bl _) (Ex.refl G)⟩
theorem wE_isLO {i : Nat} {l : Kd} {ds : List D} (h : ρ[i]? = some (.ow l ds)) (p : P ρ (.bl true)) : wE K F (tCB (rIsi K) (tCons (tVar i) (tCons (tC (.ty "list")) tNil))) ρ P := fun σ G H S Q q => by
  obtain ⟨a, vs, e, hg, hh, hr⟩ := S.ow h
  exact ⟨.ref a, e, _, _, .type "list", .type "list", true, rfl, .ty "list", .base (.lst hh), kit_ty (kit_list "list" (.lst []) rfl), q _ _ ρ G H p S (.bl true) (Ex.refl G)⟩
end
theorem log2_small {n : Nat} (h : n ≤ 2 ^ 40) : n.log2 < 1920 := by
  by_cases h0 : n = 0
  · subst h0
    decide
  · rw [Nat.log2_lt h0]
    exact Nat.lt_of_le_of_lt h (Nat.pow_lt_pow_right (by decide) (by decide))
end DL
namespace DL
open PySem L2
open Evl (Ex)
section
variable {K : PySem.W.Frag} {F : Fr} {ρ : Sls} {P : Sls → D → Prop} {te to : TE} {tb : TS} {tc : TT} {O : Out}
/-- a while loop by its word and a number that gets less -/
theorem wS_while (Inv : Nat → Sls → Prop) (h0 : ∃ m, Inv m ρ) (hs : ∀ (m : Nat) (ρ2 : Sls), Inv m ρ2 → wT K F tc ρ2 fun ρ3 b => Ways b (wS K F tb ρ3 { nx := fun ρ' => ∃ m', m' < m ∧ Inv m' ρ', ct := fun ρ' => ∃ m', m' < m ∧ Inv m' ρ', bk := O.nx, rt := O.rt, ro := O.ro }) (O.nx ρ3)) : wS K F (tWhile tc tb) ρ O := fun σ G H S D1 k => by
  obtain ⟨m0, i0⟩ := h0
  refine ⟨fun m σ' H' => ∃ G' ρ', Inv m ρ' ∧ SRel K F G' H' σ' ρ' ∧ Ex G G', ⟨m0, G, ρ, i0, S, Ex.refl G⟩, ?_⟩
  rintro m σ1 H1 ⟨G1, ρ1, i1, S1, e1⟩
  refine hs m ρ1 i1 σ1 G1 H1 S1 _ fun b ρ2 G2 H2 h2 S2 e2 => ?_
  cases b with
  | false => exact k.nx ρ2 σ1 G2 H2 (h2.2 rfl) S2 (e1.trans e2)
  | true =>
    refine ⟨fun σ' H' => ∃ m', m' < m ∧ ∃ G' ρ', Inv m' ρ' ∧ SRel K F G' H' σ' ρ' ∧ Ex G G', fun σ' H' z => z, ?_⟩
    refine h2.1 rfl σ1 G2 H2 S2 _ ⟨?_, ?_, ?_, ?_, ?_⟩
    · rintro ρ' σ' G' H' ⟨m', hm, i'⟩ S' x
      exact ⟨m', hm, G', ρ', i', S', (e1.trans e2).trans x⟩
    · exact fun a b c d v w h S' x => k.rt a b c d v w h S' ((e1.trans e2).trans x)
    · exact fun a b c d p v w h S' x => k.ro a b c d p v w h S' ((e1.trans e2).trans x)
    · exact fun a b c d h S' x => k.nx a b c d h S' ((e1.trans e2).trans x)
    · rintro ρ' σ' G' H' ⟨m', hm, i'⟩ S' x
      exact ⟨m', hm, G', ρ', i', S', (e1.trans e2).trans x⟩
/-! a method of a text with a text -/
abbrev rM1 (g : Str → Str → V) : V → List V → Hp → VK → Prop := fun x xs H Q => ∃ a b, x = .str a ∧ xs = [.str b] ∧ Q (g a b) H
theorem wE_m1 {g : Str → Str → V} {f : Str → Str → D} (hg : ∀ a b G, Rep K G (g a b) (f a b)) (h : wE K F to ρ fun ρ1 x => ∃ a, x = .str a ∧ wE K F te ρ1 fun ρ2 y => ∃ b, y = .str b ∧ P ρ2 (f a b)) : wE K F (tM1 (rM1 g) to te) ρ P := fun σ G H S Q q =>
  h σ G H S _ fun v x ρ1 G1 H1 h1 S1 r1 e1 => by
    obtain ⟨a, rfl, h2⟩ := h1
    cases r1
    refine ⟨⟨a, rfl⟩, h2 σ G1 H1 S1 _ fun w y ρ2 G2 H2 hp S2 r2 e2 => ?_⟩
    obtain ⟨b, rfl, p⟩ := hp
    cases r2
    exact ⟨a, b, rfl, rfl, q _ _ ρ2 G2 H2 p S2 (hg a b G2) (e1.trans e2)⟩
abbrev rRmp : V → List V → Hp → VK → Prop := fun x xs H Q => ∃ a b, x = .str a ∧ xs = [.str b] ∧ a.length ≤ sizeLine ∧ Q (.str (Txt.removeprefix a b)) H
theorem wE_rmp (h : wE K F to ρ fun ρ1 x => ∃ a, x = .str a ∧ a.length ≤ 100000 ∧ wE K F te ρ1 fun ρ2 y => ∃ b, y = .str b ∧ P ρ2 (.str (Txt.removeprefix a b))) : wE K F (tM1 rRmp to te) ρ P := fun σ G H S Q q =>
  h σ G H S _ fun v x ρ1 G1 H1 h1 S1 r1 e1 => by
    obtain ⟨a, rfl, hl, h2⟩ := h1
    cases r1
    refine ⟨⟨a, rfl⟩, h2 σ G1 H1 S1 _ fun w y ρ2 G2 H2 hp S2 r2 e2 => ?_⟩
    obtain ⟨b, rfl, p⟩ := hp
    cases r2
    exact ⟨a, b, rfl, rfl, Evl.sz_of hl, q _ _ ρ2 G2 H2 p S2 (.str _) (e1.trans e2)⟩
/-- int of a text -/
abbrev rIntS : List V → Hp → VK → Prop := fun xs H Q => ∃ a n, xs = [.str a] ∧ PySem.intText? a = some n ∧ a.length ≤ 640 ∧ Q (.int n) H
theorem wC_intS {a : Str} {n : Int} (h : PySem.intText? a = some n) (hl : a.length ≤ 640) (p : P ρ (.int n)) : wC K F rIntS [.str a] ρ P := fun σ G H vs S rs Q q => by
  cases rs with
  | cons r1 rr =>
    cases rr; cases r1
    exact ⟨a, n, rfl, h, hl, q _ _ ρ G H p S (.int n) (Ex.refl G)⟩
theorem shaped_str {a : Str} (h : okS a) : SeqAt.shaped (.str a) = true := by
  show (PyData.canLay0 (.str a) && decide (PyData.depth (.str a) ≤ 64)) = true
  rw [Bool.and_eq_true]
  exact ⟨by simp only [PyData.canLay0]; exact okS_strOk h, decide_eq_true (by simp only [PyData.depth]; decide)⟩
theorem wR_eqS {a b : Str} (ha : okS a) (hb : okS b) (p : P ρ (.bl (a == b))) : wR K F (rEqD K) (.str a) (.str b) ρ P := by
  refine wR_eqD rfl rfl (shaped_str ha) (shaped_str hb) ?_
  have e : PyData.eqv (.str a) (.str b) = (a == b) := by simp only [PyData.eqv]
  rw [e]
  exact p
theorem wR_neS {a b : Str} (ha : okS a) (hb : okS b) (p : P ρ (.bl (!(a == b)))) : wR K F (rNeD K) (.str a) (.str b) ρ P := by
  refine wR_neD rfl rfl (shaped_str ha) (shaped_str hb) ?_
  have e : PyData.eqv (.str a) (.str b) = (a == b) := by simp only [PyData.eqv]
  rw [e]
  exact p
theorem wR_neNil {l : List D} {ss : List Str} (e : l = ss.map D.str) (h : ∀ s ∈ ss, okS s) (p : P ρ (.bl (!ss.isEmpty))) : wR K F (rNeD K) (.lst l) (.lst []) ρ P := by
  subst e
  refine wR_neD (a := .list (ss.map PyData.str)) (b := .list []) (by rw [toPy, toPyL_strs]; rfl) rfl (shaped_strs h) (by kernel_rfl) ?_
  have e : PyData.eqv (.list (ss.map PyData.str)) (.list []) = ss.isEmpty := by
    cases ss with
    | nil => simp [PyData.eqv, PyData.eqvAll]
    | cons s ss => simp [PyData.eqv, PyData.eqvAll]
  rw [e]
  exact p
abbrev rIdxS : V → List V → Hp → VK → Prop := fun x xs H Q => ∃ a b i rest, x = .str a ∧ xs = [.str b] ∧ Builtin.Str.occurrences a b 0 a.length 1 = i :: rest ∧ Q (.int (i : Nat)) H
theorem wE_idxS (h : wE K F to ρ fun ρ1 x => ∃ a, x = .str a ∧ wE K F te ρ1 fun ρ2 y => ∃ b i rest, y = .str b ∧ Builtin.Str.occurrences a b 0 a.length 1 = i :: rest ∧ P ρ2 (.int (i : Nat))) : wE K F (tM1 rIdxS to te) ρ P := fun σ G H S Q q =>
  h σ G H S _ fun v x ρ1 G1 H1 h1 S1 r1 e1 => by
    obtain ⟨a, rfl, h2⟩ := h1
    cases r1
    refine ⟨⟨a, rfl⟩, h2 σ G1 H1 S1 _ fun w y ρ2 G2 H2 hp S2 r2 e2 => ?_⟩
    obtain ⟨b, i, rest, rfl, ho, p⟩ := hp
    cases r2
    exact ⟨a, b, i, rest, rfl, rfl, ho, q _ _ ρ2 G2 H2 p S2 (.int _) (e1.trans e2)⟩
end
end DL
namespace DL
open PySem L2 PyProof.Rows
open Evl (Ex)

/-! ### promises that hold where no thing's text is being made -/
/-- a def's promise, asked only where the stack bears no guard -/
structure FnG (P : Program) (w : World) (K : PySem.W.Frag) (mg : Str → Option Value) (base : Heap) (k : Nat) (f : Addr) (fd : FuncData) (ps : List Str) (sp : Sp) : Prop where
  size : ∀ vs H Q E, sp vs H Q E → vs.length = ps.length
  go : ∀ (A : Around) (up : List Env) (s : Shared) (H : Hp) (gs : Args) (us : List Value) (vs : List V) (Q : VK) (E : XK), A.guards = some [] → Room k A →
    Env0 P w K mg base A up s H → BindsTo s fd gs (ps.zip us) → Vals vs us → sp vs H Q E → codeAny (model P w) A (.call (.ref f) gs) (CR L2.CX0 up P w H s Q E) s
theorem FnG.of {P : Program} {w : World} {K : PySem.W.Frag} {mg : Str → Option Value} {base : Heap} {x q : Str} {st : Stmt} {f : Addr} {fd : FuncData} {N ps : List Str} {k : Nat} {sp : Sp} (F : L2.Fun K x q st f fd) (S : FnScope N ps (defScope st))
    (hl : ∀ vs H Q E, sp vs H Q E → vs.length = ps.length)
    (hb : ∀ (cdv : Value) (A : Around) (up : List Env) (s : Shared) (H : Hp) (vs : List V) (Q : VK) (E : XK), A.guards = some [] → Room k (A.deeper (envOfC q (defScope st) s.heap.objs.size f cdv)) → sp vs H Q E →
      ∃ t, PSs (cxOf L2.CX0 P w K mg base N q (defScope st) f cdv A up s H E).nox (defBody st) t ∧ t { nx := fun _ H' => Q .non H', rt := Q } (start N vs) H) : FnG P w K mg base (k + 1) f fd ps sp := by
  obtain ⟨oc, od, kv, dc, pm, an, cdv, ct, sl, rfl, at_, cod⟩ := F.ex
  refine ⟨hl, fun A up s H gs us vs Q E quiet room e0 bind rel prom => ?_⟩
  have n := hl _ _ _ _ prom
  have in_s : K.In s.heap := e0.mod.kin.keeps fun b o z => (e0.bs b o z).1
  have lim : s.heap.NoLimit := e0.mod.nolimit.keeps fun b o z => (e0.bs b o z).1
  refine codeAny_call_function room.depth (in_s _ _ at_) rfl S.co S.gen rfl (PySem.W.codeRec_of in_s cod) (bind _ _ _ _ (wpAny_newFunctionEnv_cells S.kind (fun y hy => ?_) fun env he s1 inn => ?_))
  · exact (S.par y.1 (List.of_mem_zip (a := y.1) (b := y.2) hy).1).imp id fun z => ⟨z, PySem.W.cellsFrom_some _ _ _ (.inl z)⟩
  · subst he
    obtain ⟨t, ht, hq⟩ := hb cdv A up s H vs Q E quiet (room.deeper _) prom
    refine ⟨lim.keeps inn.toInCall.keep, codeAny_func (wpAny_mono (ht.nox.run [] s1 (start N vs) H _ (inv_start S room.hd e0 n rel inn) hq) (fun fl s2 z => ?_) fun _ _ z => z)⟩
    cases fl with
    | ret u =>
      obtain ⟨v, _, H2, J, rv, z⟩ := z
      exact ⟨v, H2, J.os, J.bare, J.base, J.hok, rv, z⟩
    | next =>
      obtain ⟨_, H2, J, z⟩ := z
      exact ⟨.non, H2, J.os, J.bare, J.base, J.hok, rfl, z⟩
    | brk => exact z.elim fun _ z => z.elim fun _ z => (show False from z.2).elim
    | cont => exact z.elim fun _ z => z.elim fun _ z => (show False from z.2).elim
/-- .. called by its name -/
structure CalleeG (P : Program) (w : World) (K : PySem.W.Frag) (mg : Str → Option Value) (base : Heap) (k : Nat) (x : Str) (sp : Sp) : Prop where
  ex : ∃ (f : Addr) (fd : FuncData) (ps : List Str), FnG P w K mg base k f fd ps sp ∧ mg x = some (.ref f) ∧ PySem.W.keepIn K (.ref f) = true ∧ Binds K fd ps []
section
variable {X : Cx} {k j : Nat} {x : Str} {sp : Sp} {p pos : Pos} {e : Expr} {es : List Expr} {t : TA}
theorem pe_clG (c : CalleeG X.prog X.w X.K X.mg X.base k x sp) (quiet : X.A.guards = some []) (hr : Room j X.A) (hk : k ≤ j) (hg : Gl X x) (ha : PA X (e :: es) t)
    (hd : (x == ("__debug__" : Str)) = false := by decide) (he : starEach (e :: es) X.env = (false, eval e X.env) :: starEach es X.env := by rfl) (hpl : (backTo pos (starEach es X.env)).any (·.1) = false := by rfl) : PE X (.Call (.Name x p) (e :: es) [] pos) (tCall sp [] L2.E0 t) := by
  obtain ⟨f, fd, ps, F, hm, kp, hb⟩ := c.ex
  refine ⟨fun pins s σ H Q I h => wpAny_Call_Name_kw (ld_glob I hg hm (PySem.W.callWith_K (h₀ := X.base) I.ok.mod.kin kp (thn (ha.run pos pins s σ H _ I h) fun us s1 ⟨vs, H1, I1, r, q⟩ => ⟨I1.kIn, ?_⟩) he hpl) hd)⟩
  have q' : sp vs H1 Q L2.E0 := by
    have z : sp (vs ++ []) H1 Q L2.E0 := q
    rwa [List.append_nil] at z
  have n : (us ++ []).length = ps.length := by rw [List.append_nil, ← r.length]; exact F.size _ _ _ _ q'
  refine wpAny_call (codeAny_mono (F.go X.A X.stack s1 H1 ⟨us, []⟩ us vs Q L2.E0 quiet (hr.mono hk) I1.env0 (by have z := hb s1 us I1.kIn n; rwa [List.append_nil] at z) r q') fun rs s2 z => ?_)
  cases rs with
  | error _ => exact z.elim
  | ok fl =>
    cases fl with
    | ret u => exact I1.after z
    | next => exact z.elim
    | brk => exact z.elim
    | cont => exact z.elim
end
/-- repr of data -/
def rReprD (K : PySem.W.Frag) : List V → Hp → VK → Prop := fun xs H Q => ∃ (a : Addr) (p : PyData), xs = [.ref a] ∧ Dp K H (.ref a) p ∧ p.showable = true ∧ p.hasDict = false ∧ p.depth ≤ 60 ∧ p.shown.length ≤ sizeLine ∧ Q (.str p.shown) H
theorem call_reprD {X : Cx} (quiet : X.A.guards = some []) (hu : X.A.units + 64 < cLine) : CallR X (.builtin "repr") (rReprD X.K) := by
  intro pins s σ H xs us Q I r h
  obtain ⟨a, p, rfl, hd, hs, hn, hz, hl, q⟩ := h
  obtain ⟨u, rfl, rx⟩ := vals1 r
  obtain rfl : u = Value.ref a := rx
  obtain ⟨as, rd⟩ := Dp.reads I p _ _ hd rfl
  exact repr_of_reads' rd hs (PyData.noDict_hsm hn) quiet (by omega) (fun _ _ z => z) (fun h' u tk kept => ⟨.str p.shown, H, I.kept (t' := tk) kept, ⟨_, rfl⟩, q⟩) hl

/-! ### the head: a law that asks for texts of things -/
theorem script_heap {P : Program} {w : World} {K : PySem.W.Frag} {h : Heap} {a : Addr} {vs : List Value} {ns : List Int} (ha : h.get? a = some { cls := .type "list", data := .seq vs.toArray }) (hi : IntsAre vs ns) (hl : ns.length ≤ sizeLine) (kin : K.In h) :
    ∃ H : Hp, Only H ∧ SqL K H a (ns.map V.int) ∧ HOk P w H h ∧ (∀ b, H b = none ∨ (b = a ∧ K.lookup a = none ∧ H b = some (.frz { cls := .type "list", data := .seq vs.toArray } (.lst (ns.map V.int))))) := by
  have rel := vals_ints hi
  have n : vs.length ≤ sizeLine := by rw [← rel.length, List.length_map]; exact hl
  cases e : K.lookup a with
  | some o =>
    have z := kin a o e
    rw [ha] at z
    cases z
    exact ⟨fun _ => none, fun _ => .inl rfl, .inr ⟨_, vs.toArray, _, e, rfl, rfl, rfl, by simpa using n, by simpa using rel⟩, fun _ _ z => (nomatch z), fun _ => .inl rfl⟩
  | none =>
    have one : ∀ b, (upd (fun _ => none) a (HO.frz { cls := .type "list", data := .seq vs.toArray } (.lst (ns.map V.int)))) b = none ∨ (b = a ∧ (none : Option Obj) = none ∧ (upd (fun _ => none) a (HO.frz { cls := .type "list", data := .seq vs.toArray } (.lst (ns.map V.int)))) b = some (.frz { cls := .type "list", data := .seq vs.toArray } (.lst (ns.map V.int)))) := fun b => by
      by_cases hb : b = a
      · exact .inr ⟨hb, rfl, by rw [hb, upd_same]⟩
      · exact .inl (upd_ne hb)
    refine ⟨upd (fun _ => none) a (.frz { cls := .type "list", data := .seq vs.toArray } (.lst (ns.map V.int))), fun b => (one b).imp id fun z => ⟨_, _, z.2.2⟩, .inl (.inr ⟨_, upd_same⟩), fun b u z => ?_, one⟩
    rcases one b with y | ⟨rfl, _, y⟩
    · rw [y] at z; cases z
    · rw [y] at z
      cases z
      exact ⟨ha, by rw [List.length_map]; exact hl, vs, _, rel, ha⟩
theorem law_go {P : Program} {w : World} {K : PySem.W.Frag} {mg mb : Str → Option Value} {k : Nat} {fa a : Addr} {fd : FuncData} {x : Str} {sp : Sp} {s : Shared} {vs : List Value} {ns : List Int} (kin : K.In s.heap) (hns : s.heap.Ns mainGlobals mg) (hb : s.heap.Ns builtinsNs mb)
    (hbb : ∀ x : Str, x ≠ "__name__" → mb x = bootBuiltins x) (lim : s.heap.NoLimit) (hg : s.gens = #[]) (ha : s.heap.get? a = some { cls := .type "list", data := .seq vs.toArray }) (hi : IntsAre vs ns) (hl : ns.length ≤ sizeLine) (hr : Room k callerA)
    (F : ∀ base : Heap, K.In base → base.Ns mainGlobals mg → FnG P w K mg base k fa fd [x] sp) (bind : ∀ (s : Shared) (u : Value), BindsTo s fd ⟨[u], []⟩ [(x, u)])
    (prom : ∀ H : Hp, Only H → SqL K H a (ns.map V.int) → sp [.ref a] H (fun v _ => v = .bl true) fun _ _ _ => False) :
    codeAny (model P w) callerA (.call (.ref fa) ⟨[.ref a], []⟩) (fun r s' => r = .ok (.ret (.bool true)) ∧ OldK s.heap s'.heap ∧ s'.os = s.os ∧ AllBare s'.gens) s := by
  obtain ⟨H, only, seq, hok, one⟩ := script_heap (P := P) (w := w) ha hi hl kin
  have plain : ∀ {b : Addr} {o : Obj}, s.heap.get? b = some o → b ≠ a ∨ K.lookup a ≠ none → (hidT s.heap H).get? b = some o := fun {b o} z ne => hidT_get z ((one b).elim id fun y => ne.elim (fun n => (n y.1).elim) fun n => (n y.2.1).elim)
  have dict : ∀ {b : Addr} {m : Str → Option Value}, s.heap.Ns b m → (hidT s.heap H).Ns b m := fun {b m} ⟨o, es, ep, z, d, r⟩ => ⟨o, es, ep, plain z (.inl fun y => by
    subst y
    rw [ha] at z
    cases z
    have d' : Data.seq vs.toArray _ = Data.dict es ep := d
    cases d'), d, r⟩
  have kinB : K.In (hidT s.heap H) := fun b o z => plain (kin b o z) (by
    by_cases y : b = a
    · exact .inr (by rw [← y, z]; exact fun q => nomatch q)
    · exact .inl y)
  have e0 : Env0 P w K mg (hidT s.heap H) callerA [] s H := ⟨rfl, ⟨kinB, dict hns, ⟨mb, dict hb, hbb⟩, lim.elim fun mc z => ⟨mc, dict z.1, z.2⟩⟩, fun b o z => of_hidT z, Nat.le_of_eq (hidT_size _ _), trivial, fun b z => (List.not_mem_nil z).elim, hok, .of_eq hg⟩
  refine codeAny_mono ((F _ kinB (dict hns)).go callerA [] s H ⟨[.ref a], []⟩ [.ref a] [.ref a] _ _ rfl hr e0 (bind s (.ref a)) (.cons rfl .nil) (prom H only seq)) fun r s2 z => ?_
  cases r with
  | error _ => exact z.elim
  | ok fl =>
    cases fl with
    | next => exact z.elim
    | brk => exact z.elim
    | cont => exact z.elim
    | ret u =>
      obtain ⟨v, H2, os, bare, un, hok2, rv, z⟩ := z
      obtain rfl : v = .bl true := z
      obtain rfl : u = Value.bool true := rv
      refine ⟨rfl, OldK.of_keep fun b o y => ?_, os, bare⟩
      rcases one b with q | ⟨_, _, q⟩
      · exact un.keep b o y q (fun m => List.not_mem_nil m) (fun m => List.not_mem_nil m)
      · have e1 := (hok b _ q).1
        have e2 := (hok2 b _ (un.frzs b _ _ q)).1
        rw [y] at e1
        rw [e2, e1]
theorem walk_go {l : PySem.W.OpenLaw} {n k : Nat} {q : Program} {loose : List Str} {XP : (Str → Option Value) → Heap → Prop} {YP : World → Heap → Prop} {d : DefRec} {K : Params → PySem.W.Frag} {W : W0} {x : Str} (hn : l.most = some n) (hn2 : n ≤ 63) (hdf : d.params.defaults = []) (hr : Room k callerA)
    (hY : ∀ (w : World) (h : Heap), YP w h → (K w.params).In h) (hW : W = WLaw)
    (F : ∀ (w : World) (mg : Str → Option Value) (fa : Addr) (h : Heap), (K w.params).In h → h.Ns mainGlobals mg → mg d.name = some (.ref fa) →
      ∃ fd : FuncData, (∀ (s : Shared) (u : Value), BindsTo s fd ⟨[u], []⟩ [(x, u)]) ∧ ∀ base : Heap, (K w.params).In base → base.Ns mainGlobals mg → FnG l.prog w (K w.params) mg base k fa fd [x] (sp0 (K w.params) W)) :
    PySem.W.WalkO q loose XP YP l.row.toRowW d [] (fun f vs => PySem.call f vs) := by
  subst hW
  refine Att.attach_call hn hdf fun w s0 s1 mg mb fa o pm cd doc a vs ns G Y ho hd hcd hmg hobj hints hlen hg => ?_
  obtain ⟨fd, hb, hF⟩ := F w mg fa _ (hY w _ Y) G.T.g hmg
  have small : ns.length ≤ sizeLine := Nat.le_trans (Nat.le_trans hlen hn2) (by decide)
  exact law_go (hY w _ Y) G.T.g G.T.b G.T.builtins G.T.nolimit hg hobj hints small hr hF hb fun H hO hS => law_sp _ H a ns (Nat.le_trans hlen hn2) hO hS
end DL
namespace DL
open PySem L2 PyProof.Rows
open Evl (Ex)

/-! ### things of own classes: fields -/
section
variable {K : PySem.W.Frag} {G : Hp}
theorem RepF.look {f : Str} : ∀ {vs : List (Str × V)} {ds : List (Str × D)} {d : D}, RepF K G vs ds → ds.lookup f = some d → ∃ v, vs.lookup f = some v ∧ Rep K G v d
  | _, _, _, .nil, e => by cases e
  | _, (k, x) :: ds, d, .cons (v := v) (vs := vs) r t, e => by
    rw [List.lookup] at e ⊢
    cases z : f == k with
    | true => rw [z] at e; cases e; exact ⟨v, rfl, r⟩
    | false => rw [z] at e; exact RepF.look t e
theorem RepF.no {f : Str} : ∀ {vs : List (Str × V)} {ds : List (Str × D)}, RepF K G vs ds → ds.lookup f = none → vs.lookup f = none
  | _, _, .nil, _ => rfl
  | _, (k, x) :: ds, .cons r t, e => by
    rw [List.lookup] at e ⊢
    cases z : f == k with
    | true => rw [z] at e; cases e
    | false => rw [z] at e; exact RepF.no t e
theorem RepF.up {G' : Hp} (e : Ex G G') {vs : List (Str × V)} {ds : List (Str × D)} (h : RepF K G vs ds) : RepF K G' vs ds := RepF.mono e ds vs h
theorem RepF.len : ∀ {vs : List (Str × V)} {ds : List (Str × D)}, RepF K G vs ds → vs.length = ds.length
  | _, _, .nil => rfl
  | _, _, .cons _ t => congrArg (· + 1) t.len
/-- a field is stored -/
def putD (f : Str) (d : D) : List (Str × D) → List (Str × D)
  | [] => [(f, d)]
  | (g, x) :: r => if g = f then (g, d) :: r else (g, x) :: putD f d r
theorem RepF.put {f : Str} {v : V} {d : D} (q : Rep K G v d) : ∀ {vs : List (Str × V)} {ds : List (Str × D)}, RepF K G vs ds → RepF K G (putF f v vs) (putD f d ds)
  | _, _, .nil => .cons q .nil
  | _, (k, x) :: ds, .cons (vs := vs) (v := u) r t => by
    unfold putF putD
    by_cases z : k = f
    · rw [if_pos z, if_pos z]; exact .cons q t
    · rw [if_neg z, if_neg z]; exact .cons r (RepF.put q t)
end

/-- what is asked of a class: its things have fields of these names, and of no others -/
structure OC (K : PySem.W.Frag) (C : Addr) (ns : List Str) : Prop where
  cl : Cls K C
  no : ∀ f ∈ ns, NoAttr K C f
  cc : PySem.W.findIn K (.ref C) "__class__" = some (some (.builtin "object.__class__"))
  cg : PySem.W.specialIn K (.builtin "object.__class__") "__get__" = some (some (.builtin "getset_descriptor.__get__"))
  ct : PySem.W.takesIn K (.builtin "object.__class__") = some true
  cm : PySem.W.mroIn K C (.type "object") = some true
theorem OC.ty {K : PySem.W.Frag} {C : Addr} {ns : List Str} (o : OC K C ns) {G H : Hp} (ex : Ex G H) {v : V} {fs : List (Str × D)} (h : Rep K G v (.obj C fs)) : TyX K H v (.ref C) := by
  cases h with
  | obj h1 _ => exact .base (.ins (ex _ _ h1) o.cl o.cc o.cg o.ct o.cm)

section
variable {K : PySem.W.Frag} {F : Fr} {ρ : Sls} {P : Sls → D → Prop} {te ta tb : TE} {x y : D}
theorem wE_fld {f : Str} (h : wE K F ta ρ fun ρ1 x => ∃ (C : Addr) (fs : List (Str × D)) (ns : List Str) (d : D), x = .obj C fs ∧ OC K C ns ∧ f ∈ ns ∧ fs.lookup f = some d ∧ P ρ1 d) : wE K F (tFld K ta f) ρ P := fun σ G H S Q q =>
  h σ G H S _ fun v x ρ1 G1 H1 h1 S1 r1 e1 => by
    obtain ⟨C, fs, ns, d, rfl, c, n, l, p⟩ := h1
    cases r1 with
    | obj ha hf =>
      obtain ⟨u, lu, ru⟩ := hf.look l
      exact ⟨_, C, _, _, u, rfl, S1.ex _ _ ha, c.cl, c.no f n, lu, q _ _ ρ1 G1 H1 p S1 ru e1⟩
/-- behind a call of a promise -/
theorem sp_E {W : W0} {E : XK} {XX : XD} {σ : St} {G H : Hp} {vs : List V} {ds : List D} {Q : VK} (S : SRel K F G H σ ρ) (r : RepL K G vs ds) (hW : W ds (RsP (P ρ)) XX) (hE : EOk K F E XX)
    (q : ∀ (v : V) (d : D) (G' H' : Hp), P ρ d → SRel K F G' H' σ ρ → Rep K G' v d → Ex G G' → Q v H') : sp0 K W vs H Q E := by
  refine ⟨G, ds, _, XX, S.ex, r, hW, fun r v G' H' hr T rr => ?_, EOk.after0 S hE⟩
  obtain ⟨S2, e2⟩ := S.after0 T
  cases r with
  | fz d => exact q v d G' H' hr S2 rr e2
  | ow ds' =>
    obtain ⟨p, vs', rfl, o⟩ := RsR.own (r := .ow ds') S T rr
    obtain ⟨G3, S3, e3, r3⟩ := o.freeze S2
    exact q _ _ G3 H' hr S3 r3 (e2.trans e3)
theorem sp_O {W : W0} {E : XK} {XX : XD} {PO : Sls → List D → Prop} {σ : St} {G H : Hp} {vs : List V} {ds : List D} {Q : VK} (S : SRel K F G H σ ρ) (r : RepL K G vs ds) (hW : W ds (RsO (PO ρ)) XX) (hE : EOk K F E XX)
    (q : ∀ (p : Addr) (us : List V) (es : List D) (G' H' : Hp), PO ρ es → SRel K F G' H' σ ρ → Own K F G' H' σ ρ p us es → Ex G G' → Q (.ref p) H') : sp0 K W vs H Q E := by
  refine ⟨G, ds, _, XX, S.ex, r, hW, fun r v G' H' hr T rr => ?_, EOk.after0 S hE⟩
  obtain ⟨S2, e2⟩ := S.after0 T
  cases r with
  | fz d => exact hr.elim
  | ow ds' =>
    obtain ⟨p, vs', rfl, o⟩ := RsR.own (r := .ow ds') S T rr
    exact q p vs' ds' G' H' hr S2 o e2

/-! ### methods, by the class of the thing -/
/-- o.m(), the thing being of one of these classes, each with its own promise -/
def tVia (Cs : List (Addr × Sp)) (m : Str) (E : XK) (ta : TE) : TE := fun σ H Q => ta σ H fun x H1 => ∃ (C : Addr) (sp : Sp) (a dx : Addr) (fs : List (Str × V)), (C, sp) ∈ Cs ∧ x = .ref a ∧ H1 a = some (.ins C dx fs) ∧ fs.lookup m = none ∧ sp [x] H1 Q E
theorem wE_via {Cs : List (Addr × Sp)} {m : Str} {E : XK} {XX : XD} (hE : EOk K F E XX) (h : wE K F ta ρ fun ρ1 x => ∃ (C : Addr) (fs : List (Str × D)) (W : W0), x = .obj C fs ∧ (C, sp0 K W) ∈ Cs ∧ fs.lookup m = none ∧ W [x] (RsP (P ρ1)) XX) : wE K F (tVia Cs m E ta) ρ P := fun σ G H S Q q =>
  h σ G H S _ fun v x ρ1 G1 H1 h1 S1 r1 e1 => by
    obtain ⟨C, fs, W, rfl, hC, n, hW⟩ := h1
    have r2 := r1
    cases r1 with
    | obj ha hf => exact ⟨C, _, _, _, _, hC, rfl, S1.ex _ _ ha, hf.no n, sp_E S1 (.cons r2 .nil) hW hE fun v d G' H' p S' r' e' => q v d ρ1 G' H' p S' r' (e1.trans e')⟩
theorem wO_via {Cs : List (Addr × Sp)} {m : Str} {E : XK} {XX : XD} {PO : Sls → List D → Prop} (hE : EOk K F E XX) (h : wE K F ta ρ fun ρ1 x => ∃ (C : Addr) (fs : List (Str × D)) (W : W0), x = .obj C fs ∧ (C, sp0 K W) ∈ Cs ∧ fs.lookup m = none ∧ W [x] (RsO (PO ρ1)) XX) : wO K F (tVia Cs m E ta) ρ PO := fun σ G H S Q q =>
  h σ G H S _ fun v x ρ1 G1 H1 h1 S1 r1 e1 => by
    obtain ⟨C, fs, W, rfl, hC, n, hW⟩ := h1
    have r2 := r1
    cases r1 with
    | obj ha hf => exact ⟨C, _, _, _, _, hC, rfl, S1.ex _ _ ha, hf.no n, sp_O S1 (.cons r2 .nil) hW hE fun p us es G' H' pp S' o e' => q p us es ρ1 G' H' pp S' o (e1.trans e')⟩

/-! ### isinstance of own classes -/
def kdD (K : PySem.W.Frag) (x : D) (t : Value) : Prop := (∃ (C : Addr) (fs : List (Str × D)) (ns : List Str), x = .obj C fs ∧ OC K C ns ∧ t = .ref C) ∨ (∃ n, tyD x = some n ∧ t = .type n)
theorem kdD.ty {G H : Hp} (ex : Ex G H) {v : V} {t : Value} (k : kdD K x t) (h : Rep K G v x) : TyX K H v t := by
  rcases k with ⟨C, fs, ns, rfl, o, rfl⟩ | ⟨n, e, rfl⟩
  · exact o.ty ex h
  · exact h.tyx ex e
theorem wC_isiO {C : Addr} {t : Value} {b : Bool} (k : kdD K x t) (hb : PySem.W.kitOne K t (.ref C) = some b) (p : P ρ (.bl b)) : wC K F (rIsi K) [x, .adr C] ρ P := fun σ G H vs S rs Q q => by
  cases rs with
  | cons r1 t1 =>
    cases t1 with
    | cons r2 t2 =>
      cases t2
      cases r2
      exact ⟨_, _, _, _, b, rfl, .own C, k.ty S.ex r1, hb, q _ _ ρ G H p S (.bl _) (Ex.refl G)⟩
theorem paired_own : ∀ Cs : List Addr, Paired ClsV (Cs.map V.ref) (Cs.map Value.ref)
  | [] => .nil
  | C :: Cs => .cons (.own C) (paired_own Cs)
theorem wE_isiT {Cs : List Addr} {tcs : TA} (hc : ∀ (σ : St) (H : Hp) (Q : List V → Hp → Prop), Q (Cs.map V.ref) H → tcs σ H Q) (hl : Cs.length ≤ 1000)
    (h : wE K F te ρ fun ρ1 x => ∃ (t : Value) (b : Bool), kdD K x t ∧ PySem.W.kitAny K t (Cs.map Value.ref) = some b ∧ P ρ1 (.bl b)) : wE K F (tCB (rIsiT K) (tCons te (tCons (tTup tcs) tNil))) ρ P := fun σ G H S Q q =>
  h σ G H S _ fun v x ρ1 G1 H1 h1 S1 r1 e1 => by
    obtain ⟨t, b, k, hb, p⟩ := h1
    refine hc σ H1 _ ⟨by rw [List.length_map]; exact Nat.le_trans hl (by decide), fun a ha => ?_⟩
    have S2 := S1.alloc (o := .tup (Cs.map V.ref)) ha
    exact ⟨v, a, _, t, _, b, rfl, upd_same, paired_own Cs, k.ty S2.ex r1, hb, q _ _ ρ1 G1 _ p S2 (.bl b) e1⟩
end

/-! ### rules at the level of the hand layer -/
structure MCallee (P : Program) (w : World) (K : PySem.W.Frag) (mg : Str → Option Value) (base : Heap) (k : Nat) (C : Addr) (m : Str) (sp : Sp) : Prop where
  ex : ∃ (f : Addr) (fd : FuncData) (ps : List Str), Cls K C ∧ Meth K C m f ∧ FnOk P w K mg base L2.CX0 k f fd ps sp ∧ Binds K fd ps []
structure KCallee (P : Program) (w : World) (K : PySem.W.Frag) (mg : Str → Option Value) (base : Heap) (k : Nat) (x : Str) (C : Addr) (sp : Sp) : Prop where
  ex : ∃ (f : Addr) (fd : FuncData) (ps : List Str), Mk K C f ∧ FnOk P w K mg base L2.CX0 k f fd ps sp ∧ mg x = some (.ref C) ∧ Binds K fd ps []
theorem MCallee.mono {P : Program} {w : World} {K : PySem.W.Frag} {mg : Str → Option Value} {base : Heap} {j k : Nat} {C : Addr} {m : Str} {sp : Sp} (c : MCallee P w K mg base j C m sp) (h : j ≤ k) : MCallee P w K mg base k C m sp := by
  obtain ⟨f, fd, ps, a, b, F, r⟩ := c.ex
  exact ⟨f, fd, ps, a, b, F.mono h, r⟩
theorem KCallee.mono {P : Program} {w : World} {K : PySem.W.Frag} {mg : Str → Option Value} {base : Heap} {j k : Nat} {C : Addr} {x : Str} {sp : Sp} (c : KCallee P w K mg base j x C sp) (h : j ≤ k) : KCallee P w K mg base k x C sp := by
  obtain ⟨f, fd, ps, a, F, r⟩ := c.ex
  exact ⟨f, fd, ps, a, F.mono h, r⟩
section
variable {X : Cx} {k j : Nat} {C : Addr} {x m : Str} {sp : Sp} {p pos apos : Pos} {e o : Expr} {es : List Expr} {ta : TE} {t : TA}
theorem pe_via {pl : Sem Bool} {Cs : List (Addr × Sp)} (c : ∀ z ∈ Cs, MCallee X.prog X.w X.K X.mg X.base k z.1 m z.2) (hr : Room j X.A) (hk : k ≤ j) (he : PE X o ta)
    (ht : eval (.Call (.Attribute o m apos) [] [] pos) X.env = (do
      let own ← eval o X.env
      standAt apos.atName
      let (f, one) ← holding [own] (getMethod own m pl)
      callWith pos f one (backTo pos (starEach [] X.env)) (backToKw pos (keywordEach [] X.env))) := by rfl) : PE X (.Call (.Attribute o m apos) [] [] pos) (tVia Cs m L2.E0 ta) := by
  refine ⟨fun pins s σ H Q I h => PySem.W.methodCall_KW (pl := pl) (thn (he.run pins s σ H _ I h) fun u s1 ⟨v, H1, I1, rv, C, sp, a, dx, fs, hC, ev, ea, l, q⟩ => ?_) ht⟩
  subst ev
  obtain rfl : u = Value.ref a := rv
  obtain ⟨f, fd, ps, cl, me, F, b⟩ := (c _ hC).ex
  exact getmeth_ok I1 ea cl me l (PySem.W.callWith_K0 (first := [.ref a]) I1.kIn me.kp (run_fn (us := [.ref a]) (vs := [.ref a]) F (hr.mono hk) b .nil pass0 I1 (.cons rfl .nil) q))
theorem pe_new1 (c : KCallee X.prog X.w X.K X.mg X.base k x C sp) (hr : Room j X.A) (hk : k + 1 ≤ j) (hg : Gl X x) (ha : PA X (e :: es) t)
    (hd : (x == ("__debug__" : Str)) = false := by decide) (he : starEach (e :: es) X.env = (false, eval e X.env) :: starEach es X.env := by rfl) (hpl : (backTo pos (starEach es X.env)).any (·.1) = false := by rfl) : PE X (.Call (.Name x p) (e :: es) [] pos) (tMake C sp [] L2.E0 t) := by
  obtain ⟨f, fd, ps, M, F, hm, b⟩ := c.ex
  exact pe_make M F (hr.mono hk) hg hm b .nil pass0 ha hd he hpl
/-- a statement that is never come to -/
def tBad : TS := fun _ _ _ => False
theorem ps_bad {st : Stmt} : PS X st tBad := ⟨fun _ _ _ _ _ _ h => h.elim⟩
end

/-! ### how a thing is made: its __init__ -/
abbrev WI := List D → (List (Str × D) → Prop) → Prop
def spI (K : PySem.W.Frag) (C : Addr) (W : WI) : Sp := fun vs H Q _ => ∃ (G : Hp) (x dx : Addr) (ws : List V) (ds : List D) (Φ : List (Str × D) → Prop), vs = .ref x :: ws ∧ Ex G H ∧ G x = none ∧ H x = some (.ins C dx []) ∧ RepL K G ws ds ∧ W ds Φ ∧
  ∀ (fs : List (Str × D)) (fvs : List (Str × V)) (G' H' : Hp), Φ fs → FrOk (fr1 G H x) G' H' → G' x = none → H' x = some (.ins C dx fvs) → RepF K G' fvs fs → Q .non H'
section
variable {K : PySem.W.Frag} {F : Fr} {ρ : Sls} {P : Sls → D → Prop} {te ta tb : TE} {x y : D}
theorem SRel.afterX {G H G' H' : Hp} {σ : St} {p : Addr} (S : SRel K F G H σ ρ) (hf : F.H0 p = none) (hn : ∀ (i : Nat) (l : Kd) (ds : List D), ρ[i]? = some (.ow l ds) → σ[i]? ≠ some (some (.ref p))) (hd : ND σ ρ p) (T : FrOk (fr1 G H p) G' H') : SRel K F G' H' σ ρ ∧ Ex G G' := by
  have e : Ex G G' := T.grow0 S.ex
  refine ⟨⟨⟨T.ex, S.fr.old2 T, fun a o h np => ?_, S.fr.th2 T, fun a nm m t => T.tb a nm True.intro (S.fr.tb a nm m t), fun g => T.gt (S.fr.gt g)⟩, S.len, fun i s o h1 h2 => ?_, S.dis, S.own, S.disD, S.ownD⟩, e⟩
  · exact T.kp a o (S.fr.kp a o h np) fun z => by
      have z' : a = p := z
      rw [z', hf] at h
      cases h
  · have q := S.sl i s o h1 h2
    cases s with
    | un => cases o <;> trivial
    | fz d =>
      cases o with
      | none => exact q
      | some v => exact Rep.up e q
    | ow l ds =>
      cases o with
      | none => exact q
      | some v =>
        obtain ⟨a, vs, rfl, q1, q2, q3⟩ := q
        have ne : a ≠ p := fun z => hn i l ds h1 (by rw [h2, z])
        exact ⟨a, vs, rfl, (T.old1 q2 isX_lst).trans q1, T.kp a _ q2 ne, RepL.up e q3⟩
    | od l ds =>
      cases o with
      | none => exact q
      | some v =>
        obtain ⟨a, vs, rfl, q1, q2, q3⟩ := q
        have ne : a ≠ p := fun z => hd i l ds h1 (by rw [h2, z])
        exact ⟨a, vs, rfl, (T.old1 q2 isX_dK).trans q1, T.kp a _ q2 ne, RepK.up e q3⟩
theorem wE_make {C : Addr} {W : WI} {E : XK} {t : TA} (h : wA K F t ρ fun ρ1 ds => W ds fun fs => P ρ1 (.obj C fs)) : wE K F (tMake C (spI K C W) [] E t) ρ P := fun σ G H S Q q =>
  h σ G H S _ fun vs ds ρ1 G1 H1 h1 S1 r1 e1 x dx hx hdx hne => by
    rw [List.append_nil]
    have S2 := S1.alloc (o := .own x) hdx
    have hx2 : (upd H1 dx (.own x)) x = none := by rw [upd_ne hne.symm]; exact hx
    have S3 := S2.alloc (o := .ins C dx []) hx2
    have gx : G1 x = none := S1.fr.freshG hx
    have fx : F.H0 x = none := S1.fr.fresh hx
    have nx := S1.notOwn hx
    refine ⟨G1, x, dx, vs, ds, _, rfl, S3.ex, gx, upd_same, r1, h1, fun fs fvs G' H' p T g' h' rf => ⟨rfl, ?_⟩⟩
    have dx1 := S1.nd0 hx
    obtain ⟨S4, e4⟩ := S3.afterX fx nx dx1 T
    have S5 := S4.freeze g' h' fx nx dx1
    have e5 : Ex G' (upd G' x (.ins C dx fvs)) := Ex.new g'
    exact q _ _ ρ1 _ H' p S5 (.obj upd_same (rf.up e5)) ((e1.trans e4).trans e5)
def noOw : Sls → Bool
  | [] => true
  | .ow _ _ :: _ => false
  | .od _ _ :: _ => false
  | _ :: r => noOw r
theorem noOw_at : ∀ {ρ : Sls} {i : Nat} {l : Kd} {ds : List D}, noOw ρ = true → ρ[i]? ≠ some (.ow l ds)
  | [], _, _, _, _ => by simp
  | .ow _ _ :: _, _, _, _, h => by cases h
  | .od _ _ :: _, _, _, _, h => by cases h
  | .un :: r, 0, _, _, _ => by simp
  | .fz _ :: r, 0, _, _, _ => by simp
  | .un :: r, i + 1, l, ds, h => by
    rw [List.getElem?_cons_succ]
    exact noOw_at (ρ := r) h
  | .fz _ :: r, i + 1, l, ds, h => by
    rw [List.getElem?_cons_succ]
    exact noOw_at (ρ := r) h
theorem noOd_at : ∀ {ρ : Sls} {i : Nat} {l : Kd} {ds : List (Key × D)}, noOw ρ = true → ρ[i]? ≠ some (.od l ds)
  | [], _, _, _, _ => by simp
  | .ow _ _ :: _, _, _, _, h => by cases h
  | .od _ _ :: _, _, _, _, h => by cases h
  | .un :: r, 0, _, _, _ => by simp
  | .fz _ :: r, 0, _, _, _ => by simp
  | .un :: r, i + 1, l, ds, h => by
    rw [List.getElem?_cons_succ]
    exact noOd_at (ρ := r) h
  | .fz _ :: r, i + 1, l, ds, h => by
    rw [List.getElem?_cons_succ]
    exact noOd_at (ρ := r) h
/-- the same state, told anew, nothing being the def's own -/
theorem SRel.anew {G H G' H' : Hp} {σ : St} (S : SRel K F G H σ ρ) (hn : noOw ρ = true) (e : Ex G G') (e2 : Ex G' H') : SRel K (fr0 G' H') G' H' σ ρ :=
  ⟨⟨e2, fun _ _ _ => .inl rfl, fun _ _ h _ => h, fun _ o h => ⟨o, h, id⟩, fun _ _ _ t => t, fun g => g⟩, S.len, fun i s o h1 h2 => by
    have q := S.sl i s o h1 h2
    cases s with
    | un => cases o <;> trivial
    | fz d =>
      cases o with
      | none => exact q
      | some v => exact Rep.up e q
    | ow l ds => exact (noOw_at hn h1).elim
    | od l ds => exact (noOd_at hn h1).elim, fun i j p l m di dj h => (noOw_at hn h).elim, fun i l ds p h => (noOw_at hn h).elim, fun i j p l m di dj h => (noOd_at hn h).elim, fun i l ds p h => (noOd_at hn h).elim⟩
theorem FrOk.next {G H G1 H1 G2 H2 : Hp} {p : Addr} (T : FrOk (fr1 G H p) G1 H1) (U : FrOk (fr0 G1 H1) G2 H2) : FrOk (fr1 G H p) G2 H2 :=
  ⟨U.ex, T.old2 U, fun a o h np => U.kp a o (T.kp a o h np) (fun z => z), T.th2 U, fun a nm m t => U.tb a nm True.intro (T.tb a nm m t), fun g => U.gt (T.gt g)⟩
theorem FrOk.put {G H G1 H1 : Hp} {p : Addr} {o : HO} (T : FrOk (fr1 G H p) G1 H1) (hg : G1 p = none) {u0 : HO} (hh : H1 p = some u0) (hn : NoT u0) (hx : ¬ IsX o) : FrOk (fr1 G H p) G1 (upd H1 p o) :=
  ⟨fun a u h => by
    have ne : a ≠ p := fun z => by rw [z, hg] at h; cases h
    rw [upd_ne ne]
    exact T.ex a u h, T.old, fun a u h np => by
    rw [upd_ne np]
    exact T.kp a u h np, fun a u h => by
    by_cases z : a = p
    · exact ⟨o, by rw [z, upd_same], fun y => (hx y).elim⟩
    · rw [upd_ne z]
      exact T.th a u h, fun a nm m t => tab_upd (T.tb a nm m t) hh hn, T.gt⟩
/-- a body that stores the fields of the thing in slot 0 -/
def wI (K : PySem.W.Frag) (C : Addr) (ts : TS) (ρ : Sls) (fs : List (Str × D)) (Φ : List (Str × D) → Prop) : Prop := ∀ (σ : St) (Ga Ha G H : Hp) (x dx : Addr) (fvs : List (Str × V)), SRel K (fr0 G H) G H σ ρ → noOw ρ = true → σ[0]? = some (some (.ref x)) →
  FrOk (fr1 Ga Ha x) G H → G x = none → H x = some (.ins C dx fvs) → RepF K G fvs fs → ∀ Q : VK,
  (∀ (fs' : List (Str × D)) (fvs' : List (Str × V)) (G' H' : Hp), Φ fs' → FrOk (fr1 Ga Ha x) G' H' → G' x = none → H' x = some (.ins C dx fvs') → RepF K G' fvs' fs' → Q .non H') → ts { nx := fun _ H' => Q .non H', rt := Q } σ H
theorem wI_fld {C : Addr} {f : Str} {rest : TS} {fs : List (Str × D)} {ns : List Str} {Φ : List (Str × D) → Prop} (oc : OC K C ns) (hf : f ∈ ns) (hl : fs.length < 1000) (h : ∀ F, wE K F te ρ fun ρ1 d => noOw ρ1 = true ∧ wI K C rest ρ1 (putD f d fs) Φ) : wI K C (tSeq (sFld K (tVar 0) te f) rest) ρ fs Φ :=
  fun σ Ga Ha G H x dx fvs S no h0 T gx hx rf Q q => h (fr0 G H) σ G H S _ fun v d ρ1 G1 H1 ⟨no1, h1⟩ S1 r1 e1 => by
    have gx1 : G1 x = none := (S1.fr.old1 hx isX_ins).trans gx
    have hx1 : H1 x = some (.ins C dx fvs) := S1.fr.kp x _ hx (fun z => z)
    have T1 := T.next S1.fr
    have T2 := T1.put (o := .ins C dx (putF f v fvs)) gx1 hx1 noT_ins isX_ins
    refine ⟨.ref x, h0, x, C, dx, fvs, rfl, hx1, oc.cl, oc.no f hf, by rw [rf.len]; exact hl, ?_⟩
    exact h1 σ Ga Ha G1 _ x dx _ (S1.anew no1 (Ex.refl G1) T2.ex) no1 h0 T2 gx1 upd_same ((rf.up e1).put r1) Q q
theorem wI_end {C : Addr} {fs : List (Str × D)} {Φ : List (Str × D) → Prop} (p : Φ fs) : wI K C tNext ρ fs Φ := fun σ Ga Ha G H x dx fvs S no h0 T gx hx rf Q q => q fs fvs G H p T gx hx rf
theorem wI_last {C : Addr} {ts : TS} {fs : List (Str × D)} {Φ : List (Str × D) → Prop} (h : wI K C (tSeq ts tNext) ρ fs Φ) : wI K C ts ρ fs Φ := fun σ Ga Ha G H x dx fvs S no h0 T gx hx rf Q q => h σ Ga Ha G H x dx fvs S no h0 T gx hx rf Q q
theorem wI_if {C : Addr} {t : TT} {ts tu rest : TS} {fs : List (Str × D)} {Φ : List (Str × D) → Prop} (h : ∀ F, wT K F t ρ fun ρ1 b => noOw ρ1 = true ∧ Ways b (wI K C (tSeq ts rest) ρ1 fs Φ) (wI K C (tSeq tu rest) ρ1 fs Φ)) : wI K C (tSeq (tIfS t ts tu) rest) ρ fs Φ :=
  fun σ Ga Ha G H x dx fvs S no h0 T gx hx rf Q q => h (fr0 G H) σ G H S _ fun b ρ1 G1 H1 ⟨no1, w⟩ S1 e1 => by
    have gx1 : G1 x = none := (S1.fr.old1 hx isX_ins).trans gx
    have hx1 : H1 x = some (.ins C dx fvs) := S1.fr.kp x _ hx (fun z => z)
    have T1 := T.next S1.fr
    have S2 := S1.anew no1 (Ex.refl G1) S1.ex
    cases b with
    | true => rw [if_pos rfl]; exact w.yes rfl σ Ga Ha G1 H1 x dx fvs S2 no1 h0 T1 gx1 hx1 (rf.up e1) Q q
    | false => rw [if_neg (fun z => nomatch z)]; exact w.no rfl σ Ga Ha G1 H1 x dx fvs S2 no1 h0 T1 gx1 hx1 (rf.up e1) Q q
theorem wI_skip {C : Addr} {rest : TS} {fs : List (Str × D)} {Φ : List (Str × D) → Prop} (h : wI K C rest ρ fs Φ) : wI K C (tSeq tNext rest) ρ fs Φ := fun σ Ga Ha G H x dx fvs S no h0 T gx hx rf Q q => h σ Ga Ha G H x dx fvs S no h0 T gx hx rf Q q
/-- an __init__'s body against its promise -/
def stI (N : List Str) (ds : List D) : Sls := .un :: (ds.map .fz ++ List.replicate (N.length - (ds.length + 1)) .un)
theorem noOw_app : ∀ (as bs : Sls), noOw as = true → noOw bs = true → noOw (as ++ bs) = true
  | [], _, _, h => h
  | .ow _ _ :: _, _, h, _ => by cases h
  | .un :: r, bs, h, g => noOw_app r bs h g
  | .fz _ :: r, bs, h, g => noOw_app r bs h g
theorem noOw_fz : ∀ ds : List D, noOw (ds.map Sl.fz) = true
  | [] => rfl
  | _ :: ds => noOw_fz ds
theorem noOw_un : ∀ n : Nat, noOw (List.replicate n Sl.un) = true
  | 0 => rfl
  | n + 1 => by rw [List.replicate_succ]; exact noOw_un n
theorem noOw_stI {N : List Str} {ds : List D} : noOw (stI N ds) = true := noOw_app _ _ (noOw_fz ds) (noOw_un _)
theorem srelI {N : List Str} {p : Addr} {vs : List V} {ds : List D} {G H : Hp} (e : Ex G H) (r : RepL K G vs ds) : SRel K (fr0 G H) G H (start N (.ref p :: vs)) (stI N ds) := by
  have hs : start N (.ref p :: vs) = some (.ref p) :: (vs.map some ++ List.replicate (N.length - (vs.length + 1)) none) := rfl
  refine ⟨⟨e, fun _ _ _ => .inl rfl, fun a o h _ => h, fun a o h => ⟨o, h, id⟩, fun _ _ _ t => t, fun g => g⟩, ?_, fun i s o h1 h2 => ?_, fun i j q l m di dj h => (noOw_at noOw_stI h).elim, fun i l di q h => (noOw_at noOw_stI h).elim, fun i j q l m di dj h => (noOd_at noOw_stI h).elim, fun i l di q h => (noOd_at noOw_stI h).elim⟩
  · rw [hs]
    unfold stI
    rw [List.length_cons, List.length_cons, List.length_append, List.length_append, List.length_map, List.length_map, List.length_replicate, List.length_replicate, r.length]
  · rw [hs] at h2
    unfold stI at h1
    cases i with
    | zero =>
      simp only [List.getElem?_cons_zero, Option.some.injEq] at h1
      subst h1
      cases o <;> trivial
    | succ i =>
      rw [List.getElem?_cons_succ] at h1 h2
      by_cases hl : i < ds.length
      · rw [List.getElem?_append_left (by rw [List.length_map]; exact hl), List.getElem?_map, List.getElem?_eq_getElem hl] at h1
        cases h1
        obtain ⟨v, hv, rv⟩ := r.get (List.getElem?_eq_getElem hl)
        rw [List.getElem?_append_left (by rw [List.length_map, r.length]; exact hl), List.getElem?_map, hv] at h2
        cases h2
        exact rv
      · rw [List.getElem?_append_right (by rw [List.length_map]; omega)] at h1
        have z := (List.mem_replicate.mp (List.mem_of_getElem? h1)).2
        subst z
        cases o <;> trivial
theorem bodyI {C : Addr} {W : WI} {t : TS} {N : List Str} {vs : List V} {H : Hp} {Q : VK} {E : XK} (h : spI K C W vs H Q E) (hb : ∀ (ds : List D) (Φ : List (Str × D) → Prop), W ds Φ → wI K C t (stI N ds) [] Φ) : t { nx := fun _ H' => Q .non H', rt := Q } (start N vs) H := by
  obtain ⟨G, x, dx, ws, ds, Φ, rfl, e, gx, hx, r, hW, hQ⟩ := h
  exact hb ds Φ hW _ G H G H x dx [] (srelI e r) noOw_stI rfl ⟨e, fun _ _ _ => .inl rfl, fun _ _ h _ => h, fun _ o h => ⟨o, h, id⟩, fun _ _ _ t => t, fun g => g⟩ gx hx .nil Q hQ
theorem spI_len {C : Addr} {W : WI} {vs : List V} {H : Hp} {Q : VK} {E : XK} {n : Nat} (hl : ∀ ds Φ, W ds Φ → ds.length + 1 = n) (h : spI K C W vs H Q E) : vs.length = n := by
  obtain ⟨G, x, dx, ws, ds, Φ, rfl, e, gx, hx, r, hW, hQ⟩ := h
  rw [List.length_cons, r.length]
  exact hl ds Φ hW
end
/-! ### promises that nobody can ask for -/
theorem FnOk.vac {P : Program} {w : World} {K : PySem.W.Frag} {mg : Str → Option Value} {base : Heap} {k : Nat} {f : Addr} {fd : FuncData} {ps : List Str} {sp : Sp} (h : ∀ vs H Q E, ¬ sp vs H Q E) : FnOk P w K mg base L2.CX0 k f fd ps sp :=
  ⟨fun vs H Q E q => (h vs H Q E q).elim, fun A up s H gs us vs Q E _ _ _ _ q => (h vs H Q E q).elim⟩
theorem sp0_no {K : PySem.W.Frag} {W : W0} {vs : List V} {H : Hp} {Q : VK} {E : XK} (h : ∀ ds Φ X, ¬ W ds Φ X) : ¬ sp0 K W vs H Q E := fun ⟨_, ds, Φ, X, _, _, hW, _⟩ => h ds Φ X hW
theorem sp1_no {K : PySem.W.Frag} {W : W1} {vs : List V} {H : Hp} {Q : VK} {E : XK} (h : ∀ ds es Φ X, ¬ W ds es Φ X) : ¬ sp1 K W vs H Q E := fun ⟨_, _, _, ds, _, es, Φ, X, _, _, _, _, _, _, hW, _⟩ => h ds es Φ X hW
/-! ### one class beside others -/
theorem ref_beq (C : Addr) : (Value.ref C == Value.ref C) = true := by simp
theorem cls_some {K : PySem.W.Frag} {C : Addr} (h : PySem.W.mroIn K C (.type "object") = some true) : (PySem.W.clsIn K C).isSome = true := by
  unfold PySem.W.mroIn at h
  cases e : PySem.W.clsIn K C with
  | none => rw [e] at h; cases h
  | some d => rfl
theorem kit_sub {K : PySem.W.Frag} {C C' : Addr} {b : Bool} (hm : PySem.W.mroIn K C' (.type "object") = some true) (ht : PySem.W.typeIn K (.ref C') = some (.type "type")) (hs : PySem.W.subIn K (.ref C) (.ref C') = some b) : PySem.W.kitCls K (.ref C) (.ref C') = some b := by
  show (if ((PySem.W.clsIn K C').isSome && PySem.W.typeIn K (.ref C') == some (.type "type")) = true then PySem.W.subIn K (.ref C) (.ref C') else none) = some b
  rw [cls_some hm, ht, if_pos (by simp), hs]
theorem one_own {K : PySem.W.Frag} {C C' : Addr} (hm : PySem.W.mroIn K C' (.type "object") = some true) (ht : PySem.W.typeIn K (.ref C') = some (.type "type")) (hs : PySem.W.subIn K (.ref C) (.ref C') = some true) : PySem.W.kitOne K (.ref C) (.ref C') = some true := by
  unfold PySem.W.kitOne
  split
  · rfl
  · exact kit_sub hm ht hs
theorem any_own {K : PySem.W.Frag} {C : Addr} : ∀ Cs : List Addr, C ∈ Cs → (∀ y ∈ Cs, y = C ∨ ∃ b, PySem.W.kitCls K (.ref C) (.ref y) = some b) → PySem.W.kitAny K (.ref C) (Cs.map Value.ref) = some true
  | [], h, _ => nomatch h
  | y :: r, h, k => by
    rw [List.map_cons]
    unfold PySem.W.kitAny PySem.W.kitOne
    by_cases e : (Value.ref C == Value.ref y) = true
    · rw [if_pos e]
    · rw [if_neg e]
      rcases k y (.head _) with z | ⟨b, z⟩
      · rw [z] at e
        exact absurd (ref_beq C) e
      · rw [z]
        cases b with
        | true => rfl
        | false =>
          refine any_own r ?_ fun x hx => k x (.tail _ hx)
          rcases List.mem_cons.mp h with q | q
          · rw [q] at e
            exact absurd (ref_beq y) e
          · exact q
end DL
namespace DL
open PySem L2 PyProof.Rows
open Evl (Ex)
/-- each text once, by first places -/
def once (ss : List Str) : List Str := ss.foldl (fun acc s => if s ∈ acc then acc else acc ++ [s]) []
def kvD (l : List Str) : List (Key × V) := l.map fun s => (.inr s, .bl true)
theorem kvD_put (l : List Str) (s : Str) : putK (kvD l) (.inr s) (.bl true) = kvD (if s ∈ l then l else l ++ [s]) := by
  unfold putK kvD
  have e : ((l.map fun s => ((.inr s : Key), V.bl true)).any fun kv => decide (kv.1 = .inr s)) = decide (s ∈ l) := by
    induction l with
    | nil => rfl
    | cons a l ih =>
      rw [List.map_cons, List.any_cons, ih]
      by_cases h : a = s
      · subst h
        simp
      · have h1 : ¬ ((.inr a : Key) = .inr s) := fun z => h (Sum.inr.inj z)
        have h2 : ¬ s = a := fun z => h z.symm
        simp [h1, h2, List.mem_cons]
  rw [e]
  by_cases h : s ∈ l
  · rw [if_pos (decide_eq_true h), if_pos h, List.map_map]
    refine List.map_congr_left fun a _ => ?_
    show (if (.inr a : Key) = .inr s then ((.inr a : Key), V.bl true) else ((.inr a : Key), V.bl true)) = _
    by_cases z : (.inr a : Key) = .inr s
    · rw [if_pos z]
    · rw [if_neg z]
  · rw [if_neg (by rw [decide_eq_false h]; exact fun z => nomatch z), if_neg h, List.map_append]
    rfl
theorem once_snoc (l : List Str) (s : Str) : once (l ++ [s]) = if s ∈ once l then once l else once l ++ [s] := by
  unfold once
  rw [List.foldl_append]
  rfl
theorem once_len (l : List Str) : (once l).length ≤ l.length := by
  suffices h : ∀ (l acc : List Str), (l.foldl (fun acc s => if s ∈ acc then acc else acc ++ [s]) acc).length ≤ acc.length + l.length by
    have := h l []
    simpa [once] using this
  intro l
  induction l with
  | nil => intro acc; exact Nat.le_refl _
  | cons a l ih =>
    intro acc
    rw [List.foldl_cons]
    refine Nat.le_trans (ih _) ?_
    split
    · rw [List.length_cons]; omega
    · rw [List.length_append, List.length_cons, List.length_cons]; simp; omega
section
variable {K : PySem.W.Frag} {F : Fr} {ρ : Sls} {P : Sls → D → Prop} {te ta tb : TE} {r : R2} {x y : D}
abbrev rLD : List V → Hp → VK → Prop := fun xs H Q => ∃ (a : Addr) (kvs : List (Key × V)), xs = [.ref a] ∧ Rd H a (.dK kvs) ∧ ∀ p, H p = none → Q (.ref p) (upd H p (.lst (kvs.map fun kv => kV kv.1)))
theorem wO_once {i j : Nat} {ss : List Str} {PO : Sls → List D → Prop} (h : ρ[i]? = some (.fz (.lst (ss.map D.str)))) (hj : j < ρ.length) (hij : i ≠ j) (hl : ss.length ≤ 100000) (p : PO ρ ((once ss).map D.str)) :
    wO K F (tCB rLD (tCons (tDc (iList K (tVar i)) (gName j) tYes (tVar j) (tC (.bl true)) [j]) tNil)) ρ PO := fun σ G H S Q q => by
  obtain ⟨v, e, rv⟩ := S.fz h
  cases rv with
  | lst ga ra =>
    rename_i a vs
    obtain rfl := ra.strs
    have ha := S.ex _ _ ga
    refine ⟨.ref a, e, a, rfl, ⟨_, SqL.of ha⟩, fun Dd hD => ?_⟩
    have ne : a ≠ Dd := fun z => by rw [z, hD] at ha; cases ha
    have seq : ∀ o, SqL K (upd H Dd o) a (ss.map V.str) := fun o => SqL.of (by rw [upd_ne ne]; exact ha)
    refine ⟨fun n m H' => m = ss.length - n ∧ n ≤ ss.length ∧ H' = upd H Dd (.dK (kvD (once (ss.take n)))), ⟨ss.length, by simp, Nat.zero_le _, rfl⟩, ?_⟩
    rintro n m H' ⟨rfl, hn, rfl⟩
    by_cases he : n = ss.length
    · left
      subst he
      refine ⟨⟨_, seq _, by rw [List.length_map]; exact Nat.le_refl _⟩, Dd, _, rfl, Rd.of upd_same, fun b hb => ?_⟩
      rw [List.take_length] at hb ⊢
      have S2 := S.alloc (o := .dK (kvD (once ss))) hD
      have ek : ((kvD (once ss)).map fun kv => kV kv.1) = (once ss).map V.str := by
        unfold kvD
        rw [List.map_map]
        rfl
      rw [ek]
      have rr : RepL K G ((once ss).map V.str) ((once ss).map D.str) := RepL.ofStrs _
      exact q b _ _ ρ G _ p (S2.alloc hb) (Own.alloc S2 hb rr) (Ex.refl G)
    · right
      have hlt : n < ss.length := by omega
      have hs : (ss.map V.str)[n]? = some (V.str ss[n]) := by rw [List.getElem?_map, List.getElem?_eq_getElem hlt]; rfl
      refine ⟨⟨_, _, seq _, hs⟩, fun H2 => H2 = upd H Dd (.dK (kvD (once (ss.take (n + 1))))), fun H2 hH => ⟨ss.length - (n + 1), by omega, rfl, hlt, hH⟩, ?_⟩
      rintro w H2 ⟨rfl, hw⟩
      have ew := hw _ (seq _)
      rw [hs] at ew
      cases ew
      have hlen : j < σ.length := by rw [S.len]; exact hj
      have hw1 : (wipe σ [j]).length = σ.length := by
        show (σ.set j none).length = _
        rw [List.length_set]
      refine ⟨?_, ?_⟩
      · show ((wipe σ [j]).set j _).set j none = _
        rw [List.set_set]
        show (σ.set j none).set j none = _
        rw [List.set_set]
        rfl
      · dsimp only [tYes]
        rw [if_pos rfl]
        refine ⟨V.str ss[n], ?_, _, .inr ss[n], rfl, upd_same, ?_, ?_⟩
        · rw [List.getElem?_set_self (by rw [hw1]; exact hlen)]
        · refine Nat.lt_of_le_of_lt (m := 100000) ?_ (by decide)
          unfold kvD
          rw [List.length_map]
          have := once_len (ss.take n)
          rw [List.length_take] at this
          omega
        · rw [kvD_put, ← once_snoc, upd_upd]
          congr 3
          rw [List.take_succ_eq_append_getElem hlt]
/-! ### some more readings -/
theorem wT_truT {P' : Sls → Bool → Prop} {b : Bool} (h : wE K F ta ρ fun ρ1 x => ∃ ds, x = .tup ds ∧ b = !ds.isEmpty ∧ P' ρ1 b) : wT K F (fun σ H Q => ta σ H fun x H' => ∃ k, TruV K x H' k ∧ Q k H') ρ P' := fun σ G H S Q q =>
  h σ G H S _ fun v x ρ1 G1 H1 h1 S1 r1 e1 => by
    obtain ⟨ds, rfl, rfl, p⟩ := h1
    cases r1 with
    | tup h1 h2 =>
      rename_i vs
      refine ⟨!ds.isEmpty, .inr (.inl ⟨_, Evl.ex_t S1.ex h1, ?_⟩), q _ ρ1 G1 H1 p S1 e1⟩
      cases h2 <;> rfl
theorem wE_slT {tl th : TO} (h : wE K F te ρ fun ρ1 x => ∃ ds, x = .tup ds ∧ wP K F tl ρ1 fun ρ2 lo => wP K F th ρ2 fun ρ3 hi => ¬ (HT.sIx ds.length 0 lo = 0 ∧ HT.sIx ds.length ds.length hi = ds.length) ∧ P ρ3 (.tup (cutD ds lo hi))) : wE K F (tSl (rSlT K) te tl th) ρ P := fun σ G H S Q q =>
  h σ G H S _ fun v x ρ1 G1 H1 h1 S1 r1 e1 => by
    obtain ⟨ds, rfl, hl⟩ := h1
    refine hl σ G1 H1 S1 _ fun lo ρ2 G2 H2 h2 S2 e2 => h2 σ G2 H2 S2 _ fun hi ρ3 G3 H3 h3 S3 e3 => ?_
    have r3 := (r1.up e2).up e3
    cases r3 with
    | tup t1 t2 =>
      rename_i av vs
      refine ⟨_, _, rfl, Evl.ex_t S3.ex t1, by rw [t2.length]; exact h3.1, fun b hb => ?_⟩
      have S4 := S3.new (o := .tup (cutV vs lo hi)) hb
      exact q _ _ ρ3 _ _ h3.2 S4 (.tup (.inl (.inl upd_same)) (t2.cut.up (Ex.new (S3.fr.freshG hb)))) (((e1.trans e2).trans e3).trans (Ex.new (S3.fr.freshG hb)))
theorem wC_reprD {ds : List D} {pd : PyData} (h : toPy (.tup ds) = some pd) (h1 : pd.showable = true) (h2 : pd.hasDict = false) (h3 : pd.depth ≤ 60) (h4 : pd.shown.length ≤ sizeLine) (p : P ρ (.str pd.shown)) : wC K F (rReprD K) [.tup ds] ρ P := fun σ G H vs S rs Q q => by
  cases rs with
  | cons r1 t1 =>
    cases t1
    have dp := Rep.dp S.ex _ _ _ r1 h
    cases r1 with
    | tup a b => exact ⟨_, pd, rfl, dp, h1, h2, h3, h4, q _ _ ρ G H p S (.str _) (Ex.refl G)⟩
def mx (i j : Int) : Int := if i < j then j else i
theorem wC_max3 {i j k : Int} (p : P ρ (.int (mx (mx i j) k))) : wC K F (rNuC3 nuMax3) [.int i, .int j, .int k] ρ P := fun σ G H vs S rs Q q => by
  cases rs with
  | cons r1 t1 =>
    cases t1 with
    | cons r2 t2 =>
      cases t2 with
      | cons r3 t3 =>
        cases t3
        cases r1
        cases r2
        cases r3
        refine ⟨_, _, _, .int (mx (mx i j) k), rfl, ?_, q _ _ ρ G H p S (.int _) (Ex.refl G)⟩
        show ((some (decide (i < j))).map fun c => if c = true then V.int j else V.int i).bind (fun m => nuMax2 m (.int k)) = _
        have e1 : (if decide (i < j) = true then V.int j else V.int i) = V.int (mx i j) := by
          unfold mx
          by_cases z : i < j
          · rw [if_pos (decide_eq_true z), if_pos z]
          · rw [if_neg (by rw [decide_eq_false z]; exact fun z => nomatch z), if_neg z]
        rw [Option.map_some, Option.bind_some, e1]
        show (some (decide (mx i j < k))).map (fun c => if c = true then V.int k else V.int (mx i j)) = _
        have e2 : (if decide (mx i j < k) = true then V.int k else V.int (mx i j)) = V.int (mx (mx i j) k) := by
          generalize mx i j = m
          unfold mx
          by_cases z : m < k
          · rw [if_pos (decide_eq_true z), if_pos z]
          · rw [if_neg (by rw [decide_eq_false z]; exact fun z => nomatch z), if_neg z]
        rw [Option.map_some, e2]
theorem wC_maxL {ns : List Int} {m : Int} (hm : m ∈ ns) (ha : ∀ y ∈ ns, y ≤ m) (p : P ρ (.int m)) : wC K F (rMax K) [.lst (ns.map D.int)] ρ P := fun σ G H vs S rs Q q => by
  cases rs with
  | cons r1 t1 =>
    cases t1
    cases r1 with
    | lst a b =>
      obtain rfl := b.ints
      refine ⟨_, ns, rfl, SqL.of (S.ex _ _ a), List.length_pos_of_mem hm, fun z hz hy => ?_⟩
      have e : z = m := Int.le_antisymm (ha z hz) (hy m hm)
      subst e
      exact q _ _ ρ G H p S (.int _) (Ex.refl G)
end
end DL
namespace DL
open PySem L2 PyProof.Rows
open Evl (Ex)

/-! ### a list or a tuple is gone through -/
def iSeq (K : PySem.W.Frag) (tl : TE) : TI := fun σ H R => iList K tl σ H R ∨ iTup K tl σ H R
theorem pi_seq {X : Cx} {tg l : Expr} {tl : TE} (hl : PE X l tl) : PI X tg l (iSeq X.K tl) := ⟨fun pins s σ H R I h => h.elim (fun z => (pi_list hl).run pins s σ H R I z) fun z => (pi_tup hl).run pins s σ H R I z⟩
section
variable {K : PySem.W.Frag} {F : Fr} {ρ : Sls} {P : Sls → D → Prop} {te ta tb : TE} {r : R2} {x y : D}
theorem wO_onceL {i j : Nat} {ss : List Str} {PO : Sls → List D → Prop} (h : ρ[i]? = some (.fz (.lst (ss.map D.str)))) (hj : j < ρ.length) (hij : i ≠ j) (hl : ss.length ≤ 100000) (p : PO ρ ((once ss).map D.str)) :
    wO K F (tCB rLD (tCons (tDc (iSeq K (tVar i)) (gName j) tYes (tVar j) (tC (.bl true)) [j]) tNil)) ρ PO := fun σ G H S Q q => .inl (wO_once h hj hij hl p σ G H S Q q)
theorem wO_onceT {i j : Nat} {ss : List Str} {PO : Sls → List D → Prop} (h : ρ[i]? = some (.fz (.tup (ss.map D.str)))) (hj : j < ρ.length) (hij : i ≠ j) (hl : ss.length ≤ 100000) (p : PO ρ ((once ss).map D.str)) :
    wO K F (tCB rLD (tCons (tDc (iSeq K (tVar i)) (gName j) tYes (tVar j) (tC (.bl true)) [j]) tNil)) ρ PO := fun σ G H S Q q => .inr (by
  obtain ⟨v, e, rv⟩ := S.fz h
  cases rv with
  | tup ga ra =>
    rename_i a vs
    obtain rfl := ra.strs
    have ha := Evl.ex_t S.ex ga
    refine ⟨.ref a, e, a, rfl, ⟨_, ha⟩, fun Dd hD => ?_⟩
    have seq : ∀ o, SqT K (upd H Dd o) a (ss.map V.str) := fun o => Evl.ex_t (Ex.new hD) ha
    refine ⟨fun n m H' => m = ss.length - n ∧ n ≤ ss.length ∧ H' = upd H Dd (.dK (kvD (once (ss.take n)))), ⟨ss.length, by simp, Nat.zero_le _, rfl⟩, ?_⟩
    rintro n m H' ⟨rfl, hn, rfl⟩
    by_cases he : n = ss.length
    · left
      subst he
      refine ⟨⟨_, seq _, by rw [List.length_map]; exact Nat.le_refl _⟩, Dd, _, rfl, Rd.of upd_same, fun b hb => ?_⟩
      rw [List.take_length] at hb ⊢
      have S2 := S.alloc (o := .dK (kvD (once ss))) hD
      have ek : ((kvD (once ss)).map fun kv => kV kv.1) = (once ss).map V.str := by
        unfold kvD
        rw [List.map_map]
        rfl
      rw [ek]
      have rr : RepL K G ((once ss).map V.str) ((once ss).map D.str) := RepL.ofStrs _
      exact q b _ _ ρ G _ p (S2.alloc hb) (Own.alloc S2 hb rr) (Ex.refl G)
    · right
      have hlt : n < ss.length := by omega
      have hs : (ss.map V.str)[n]? = some (V.str ss[n]) := by rw [List.getElem?_map, List.getElem?_eq_getElem hlt]; rfl
      refine ⟨⟨_, _, seq _, hs⟩, fun H2 => H2 = upd H Dd (.dK (kvD (once (ss.take (n + 1))))), fun H2 hH => ⟨ss.length - (n + 1), by omega, rfl, hlt, hH⟩, ?_⟩
      rintro w H2 ⟨rfl, hw⟩
      have ew := hw _ (seq _)
      rw [hs] at ew
      cases ew
      have hlen : j < σ.length := by rw [S.len]; exact hj
      have hw1 : (wipe σ [j]).length = σ.length := by
        show (σ.set j none).length = _
        rw [List.length_set]
      refine ⟨?_, ?_⟩
      · show ((wipe σ [j]).set j _).set j none = _
        rw [List.set_set]
        show (σ.set j none).set j none = _
        rw [List.set_set]
        rfl
      · dsimp only [tYes]
        rw [if_pos rfl]
        refine ⟨V.str ss[n], ?_, _, .inr ss[n], rfl, upd_same, ?_, ?_⟩
        · rw [List.getElem?_set_self (by rw [hw1]; exact hlen)]
        · refine Nat.lt_of_le_of_lt (m := 100000) ?_ (by decide)
          unfold kvD
          rw [List.length_map]
          have := once_len (ss.take n)
          rw [List.length_take] at this
          omega
        · rw [kvD_put, ← once_snoc, upd_upd]
          congr 3
          rw [List.take_succ_eq_append_getElem hlt])
/-- own.clear() -/
theorem wS_clear {i : Nat} {l : Kd} {ds : List D} {O : Out} (h : ρ[i]? = some (.ow l ds)) (p : O.nx (ρ.set i (.ow l []))) : wS K F (tDrop (tBM0 K "list" rClear (tVar i))) ρ O := fun σ G H S D1 k => by
  obtain ⟨a, vs, e, hg, hh, hr⟩ := S.ow h
  exact ⟨.ref a, e, .inl ⟨rfl, vs, SqL.of hh⟩, a, vs, rfl, rfl, hh, k.nx _ _ G _ p (S.mut h e .nil) (Ex.refl G)⟩
/-- a list so many times -/
theorem wRO_rep {ds : List D} {n : Int} {PO : Sls → List D → Prop} (h1 : -(2 ^ 63) ≤ n) (h2 : n < 2 ^ 63) (h3 : ds.length * n.toNat ≤ 100000) (p : PO ρ (List.replicate n.toNat ds).flatten) : wRO K F rRep (.lst ds) (.int n) ρ PO := fun σ G H vx vy S rx ry Q q => by
  cases ry
  cases rx with
  | lst a b =>
    rename_i l vs
    refine ⟨l, n, vs, rfl, rfl, S.ex _ _ a, h1, h2, Nat.le_trans (by rw [b.length]; exact h3) (by decide), fun t ht => ?_⟩
    have rr : ∀ m : Nat, RepL K G (List.replicate m vs).flatten (List.replicate m ds).flatten := fun m => by
      induction m with
      | zero => exact .nil
      | succ m ih =>
        rw [List.replicate_succ, List.replicate_succ, List.flatten_cons, List.flatten_cons]
        exact b.append ih
    exact q t _ _ ρ G _ p (S.alloc ht) (Own.alloc S ht (rr _)) (Ex.refl G)
end
/-! a text, once or not at all -/
def rRep1 : R2 := fun x y H Q => rRepS x y H Q ∨ ∃ z k, x = .str z ∧ y = .int k ∧ (k = 0 ∨ k = 1) ∧ Q (.str (if k = 1 then z else Str.empty)) H
theorem op_rep1 {X : Cx} : OpR X (binaryOp .Mult) rRep1 := by
  refine op_repS.or ?_
  intro pins s σ H x y v u Q I rx ry h
  obtain ⟨z, k, rfl, rfl, hk, q⟩ := h
  obtain ⟨t, rfl⟩ := rx
  obtain ⟨t', rfl⟩ := ry
  refine PySem.P.mul_str ?_ (fun h1 h2 => ?_) (fun h1 h2 => ?_) ?_
  · rcases hk with rfl | rfl <;> decide
  · rcases hk with rfl | rfl
    · omega
    · exact absurd h2 (by simp)
  · rcases hk with rfl | rfl
    · omega
    · exact absurd h2 (by simp)
  · rcases hk with rfl | rfl
    · rw [if_pos (by decide)]
      exact ⟨by decide, ⟨.str _, H, I.tok _, ⟨_, rfl⟩, q⟩⟩
    · rw [if_neg (by decide), if_pos (by simp)]
      exact ⟨.str z, H, I, ⟨_, rfl⟩, q⟩
section
variable {K : PySem.W.Frag} {F : Fr} {ρ : Sls} {P : Sls → D → Prop} {te ta tb : TE} {r : R2} {x y : D}
theorem wR_rep1 {z : Str} {k : Int} (h : k = 0 ∨ k = 1) (p : P ρ (.str (if k = 1 then z else Str.empty))) : wR K F rRep1 (.str z) (.int k) ρ P := fun σ G H vx vy S rx ry Q q => by
  cases rx
  cases ry
  exact .inr ⟨z, k, rfl, rfl, h, q _ _ ρ G H p S (.str _) (Ex.refl G)⟩
end

/-! ### own errors: made, raised -/
section
variable {X : Cx} {k j : Nat} {C f : Addr} {x m : Str} {sp : Sp} {p p1 p2 pos : Pos} {e : Expr} {es : List Expr} {t : TA} {fd : FuncData} {ps : List Str}
/-- what is wanted of a class of which a def is called by the class's name -/
structure CFn (K : PySem.W.Frag) (C : Addr) (m : Str) (f : Addr) : Prop where
  ga : PySem.W.specialIn K (.ref C) "__getattribute__" = some (some (.builtin "type.__getattribute__"))
  rd : PySem.W.readsIn K C (.type "type") = true
  at_ : PySem.W.findCls K (.ref C) (.type "type") m = some (.val (.ref f))
  kp : PySem.W.keepIn K (.ref f) = true
theorem pe_cfn {pl : Sem Bool} (c : CFn X.K C m f) (F : FnOk X.prog X.w X.K X.mg X.base L2.CX0 k f fd ps sp) (hr : Room j X.A) (hk : k ≤ j) (hg : Gl X x) (hm : X.mg x = some (.ref C)) (hb : Binds X.K fd ps []) (ha : PA X (e :: es) t)
    (hd : (x == ("__debug__" : Str)) = false := by decide)
    (hc : eval (.Call (.Attribute (.Name x p1) m p2) (e :: es) [] pos) X.env = (do
      let own ← eval (.Name x p1) X.env
      standAt p2.atName
      let (f, one) ← holding [own] (getMethod own m pl)
      callWith pos f one (backTo pos (starEach (e :: es) X.env)) (backToKw pos (keywordEach [] X.env))) := by rfl)
    (he : starEach (e :: es) X.env = (false, eval e X.env) :: starEach es X.env := by rfl) (hpl : (backTo pos (starEach es X.env)).any (·.1) = false := by rfl) :
    PE X (.Call (.Attribute (.Name x p1) m p2) (e :: es) [] pos) (tCall sp [] L2.E0 t) := by
  refine ⟨fun pins s σ H Q I h => PySem.W.methodCall_KW (ld_glob I hg hm ?_ hd) hc⟩
  refine PySem.W.method_cls I.kIn c.ga (PySem.W.cls_value I.kIn c.rd c.at_ rfl ?_)
  refine PySem.W.callWith_K (h₀ := X.base) I.ok.mod.kin c.kp (thn (ha.run pos pins _ σ H _ (I.tok _) h) fun us s1 ⟨vs, H1, I1, r, q⟩ => ⟨I1.kIn, ?_⟩) he hpl
  exact run_fn F (hr.mono hk) hb .nil pass0 I1 r q
end
/-- BeatError.__init__(self, text) -/
def spBE (K : PySem.W.Frag) : Sp := fun vs H Q _ => ∃ (a C : Addr) (z : V), vs = [.ref a, z] ∧ OexC K C ∧ H a = some (exo a C none) ∧ Q .non H
/-- X.__init__(self, thing): one field -/
def spNX (K : PySem.W.Frag) (C : Addr) (f : Str) : Sp := fun vs H Q _ => ∃ (a : Addr) (v : V), vs = [.ref a, v] ∧ H a = some (exo a C none) ∧ ∀ dx, H dx = none → dx ≠ a → Q .non (upd (upd H dx (exd dx [(f, v)])) a (exo a C (some dx)))
def tErr (K : PySem.W.Frag) (C : Addr) (f : Str) (te : TE) : St → Hp → XK → Prop := tMkO C (spNX K C f) [] (tCons te tNil)
/-- raise X(e), X's own way out being taken -/
def tRse (K : PySem.W.Frag) (C : Addr) (f : Str) (W : WX) (te : TE) : TS := fun _ σ H => tErr K C f te σ H fun cls d H' => W cls d σ H'
theorem upd_del {H : Hp} {a dx : Addr} {o1 o2 : HO} {u : HO} (ha : H a = none) (ne : dx ≠ a) : upd (del (upd (upd (upd H a o1) dx o2) a o1) a) dx u = upd H dx u := by
  funext b
  by_cases hb : b = dx
  · rw [hb, upd_same, upd_same]
  · rw [upd_ne hb, upd_ne hb]
    by_cases z : b = a
    · rw [z, del_same, ha]
    · rw [del_ne z, upd_ne z, upd_ne hb, upd_ne z]
theorem upd_del2 {H : Hp} {a dx : Addr} {o1 o2 o3 : HO} {u : HO} (ha : H a = none) (ne : dx ≠ a) : upd (del (upd (upd (upd H a o1) dx o2) a o3) a) dx u = upd H dx u := by
  funext b
  by_cases hb : b = dx
  · rw [hb, upd_same, upd_same]
  · rw [upd_ne hb, upd_ne hb]
    by_cases z : b = a
    · rw [z, del_same, ha]
    · rw [del_ne z, upd_ne z, upd_ne hb, upd_ne z]
section
variable {K : PySem.W.Frag} {F : Fr} {ρ : Sls} {P : Sls → D → Prop} {te ta tb : TE} {r : R2} {x y : D}
theorem wS_raise {C : Addr} {f : Str} {E : XK} {XX : XD} {O : Out} (hE : EOk K F E XX) (h : wE K F te ρ fun _ x => XX C [(f, x)]) : wS K F (tRse K C f (fun cls d _ H => E cls d H) te) ρ O := fun σ G H S D1 k =>
  h σ G H S _ fun v x ρ1 G1 H1 h1 S1 r1 e1 => by
    refine ⟨by show 1 ≤ 1000; decide, fun a ha => ⟨a, v, rfl, upd_same, fun dx hdx ne => ⟨rfl, dx, [(f, v)], upd_same, ?_, ?_, ?_⟩⟩⟩
    · rw [upd_ne ne, upd_same]
    · rw [upd_ne ne] at hdx; exact hdx
    · rw [upd_del2 ha ne]
      have hd1 : H1 dx = none := by rw [upd_ne ne] at hdx; exact hdx
      exact hE C [(f, x)] dx G1 _ [(f, v)] h1 (S1.alloc hd1).fr upd_same (.cons r1 .nil) (S1.fr.fresh hd1) (S1.fr.freshG hd1)
end
end DL
namespace DL
open PySem L2 PyProof.Rows
open Evl (Ex)

/-! ### defs that may raise -/
structure CalleeX (P : Program) (w : World) (K : PySem.W.Frag) (mg : Str → Option Value) (base : Heap) (k : Nat) (x : Str) (sp : Sp) : Prop where
  ex : ∃ (f : Addr) (fd : FuncData) (ps : List Str), FnOk P w K mg base (L2.CX P w) k f fd ps sp ∧ mg x = some (.ref f) ∧ PySem.W.keepIn K (.ref f) = true ∧ Binds K fd ps []
/-- an own error's class: its __init__ keeps one field -/
structure ECallee (P : Program) (w : World) (K : PySem.W.Frag) (mg : Str → Option Value) (base : Heap) (k : Nat) (x : Str) (C : Addr) (f : Str) : Prop where
  ex : ∃ (fI : Addr) (fd : FuncData) (ps : List Str), OexC K C ∧ PySem.W.findIn K (.ref C) "__init__" = some (some (.ref fI)) ∧ PySem.W.typeIn K (.ref fI) = some (.type "function") ∧
    FnOk P w K mg base L2.CX0 k fI fd ps (spNX K C f) ∧ mg x = some (.ref C) ∧ Binds K fd ps []
section
variable {X : Cx} {k j : Nat} {C : Addr} {x f : Str} {sp : Sp} {p pos pos2 : Pos} {e : Expr} {es : List Expr} {t : TA} {te : TE} {W : WX}
theorem passX0 {X : Cx} : Passes (L2.CX X.prog X.w) X E0 := fun _ _ _ _ _ _ _ ⟨_, _, _, _, _, _, _, _, _, _, _, _, h⟩ => h.elim
/-- called where it doesn't raise -/
theorem pe_clx0 (c : CalleeX X.prog X.w X.K X.mg X.base k x sp) (hr : Room j X.A) (hk : k ≤ j) (hg : Gl X x) (ha : PA X (e :: es) t)
    (hd : (x == ("__debug__" : Str)) = false := by decide) (he : starEach (e :: es) X.env = (false, eval e X.env) :: starEach es X.env := by rfl) (hpl : (backTo pos (starEach es X.env)).any (·.1) = false := by rfl) : PE X (.Call (.Name x p) (e :: es) [] pos) (tCall sp [] L2.E0 t) := by
  obtain ⟨f, fd, ps, F, hm, hkp, hb⟩ := c.ex
  exact pe_call F (hr.mono hk) hg hm hkp hb .nil passX0 ha hd he hpl
/-- called where what it raises is taken -/
theorem pe_clxS (c : CalleeX X.prog X.w X.K X.mg X.base k x sp) (hr : Room j X.A) (hk : k ≤ j) (hg : Gl X x) (tk : Takes X W) (ha : PA X (e :: es) t)
    (hd : (x == ("__debug__" : Str)) = false := by decide) (he : starEach (e :: es) X.env = (false, eval e X.env) :: starEach es X.env := by rfl) (hpl : (backTo pos (starEach es X.env)).any (·.1) = false := by rfl) : PE X (.Call (.Name x p) (e :: es) [] pos) (tCallS sp (WE W) t) := by
  obtain ⟨f, fd, ps, F, hm, hkp, hb⟩ := c.ex
  exact pe_callS F (hr.mono hk) hg hm hkp hb (passAt tk) ha hd he hpl
theorem ps_rse (c : ECallee X.prog X.w X.K X.mg X.base k x C f) (hr : Room j X.A) (hk : k + 1 ≤ j) (hc : X.calm = true) (tk : Takes X W) (hg : Gl X x) (he : PE X e te)
    (hd : (x == ("__debug__" : Str)) = false := by decide) (hst : starEach (e :: []) X.env = (false, eval e X.env) :: starEach [] X.env := by rfl) (hpl : (backTo pos (starEach [] X.env)).any (·.1) = false := by rfl) :
    PS X (.Raise (some (.Call (.Name x p) [e] [] pos)) none pos2) (tRse X.K C f W te) := by
  obtain ⟨fI, fd, ps, T, iC, tI, F, hm, hb⟩ := c.ex
  exact ps_raise hc tk (pmk_oex T iC tI F (hr.mono hk) hb .nil (fun _ _ _ _ _ _ _ h => h.elim) hg hm (pa_cons he pa_nil hst) hd hst hpl)
end

/-! ### try .. except X as e -/
/-- a body of which what it raises is taken by W -/
def wX (K : PySem.W.Frag) (F : Fr) (tb : WX → TS) (ρ : Sls) (O : Out) (XS : Sls → Addr → List (Str × D) → Prop) : Prop := ∀ (σ : St) (G H : Hp), SRel K F G H σ ρ → ∀ D1 : Ends, DOk K F G D1 O → ∀ W : WX,
  (∀ (ρ' : Sls) (C : Addr) (fs : List (Str × D)) (σ' : St) (G' H' : Hp) (d : Addr) (fvs : List (Str × V)), XS ρ' C fs → SRel K F G' H' σ' ρ' → Ex G G' → H' d = some (.xd fvs) → RepF K G' fvs fs → F.H0 d = none → G' d = none → W (.ref C) (some d) σ' H') → tb W D1 σ H
section
variable {K : PySem.W.Frag} {F : Fr} {ρ : Sls} {P : Sls → D → Prop} {te : TE} {ta : TA} {O : Out} {XS : Sls → Addr → List (Str × D) → Prop}
theorem wX_drop {W0 : W0} (h : wA K F ta ρ fun ρ1 ds => W0 ds (RsP fun _ => O.nx ρ1) fun C fs => XS ρ1 C fs) : wX K F (fun W => tDrop (tCallS (sp0 K W0) (WE W) ta)) ρ O XS := fun σ G H S D1 k W hW =>
  h σ G H S _ fun vs ds ρ1 G1 H1 h1 S1 r1 e1 => by
    refine ⟨G1, ds, _, _, S1.ex, r1, h1, fun r v G' H' hr T rr => ?_, fun C fs d G' H' fvs hX T hd rf n1 n2 => ?_⟩
    · obtain ⟨S2, e2⟩ := S1.after0 T
      have z : O.nx ρ1 := by cases r <;> exact hr
      exact k.nx ρ1 σ G' H' z S2 (e1.trans e2)
    · obtain ⟨S2, e2⟩ := S1.after0 T
      exact hW ρ1 C fs σ G' H' d fvs hX S2 (e1.trans e2) hd rf (S1.fr.fresh n1) n2
theorem wX_set {W0 : W0} {i : Nat} (h : wA K F ta ρ fun ρ1 ds => W0 ds (RsP fun x => O.nx (ρ1.set i (.fz x))) fun C fs => XS ρ1 C fs) : wX K F (fun W => tAsg (tCallS (sp0 K W0) (WE W) ta) (gName i)) ρ O XS := fun σ G H S D1 k W hW =>
  h σ G H S _ fun vs ds ρ1 G1 H1 h1 S1 r1 e1 => by
    refine ⟨G1, ds, _, _, S1.ex, r1, h1, fun r v G' H' hr T rr => ?_, fun C fs d G' H' fvs hX T hd rf n1 n2 => ?_⟩
    · obtain ⟨S2, e2⟩ := S1.after0 T
      cases r with
      | fz x => exact k.nx _ _ G' H' hr (S2.set rr) (e1.trans e2)
      | ow es =>
        obtain ⟨p, vs', rfl, o⟩ := RsR.own (r := .ow es) S1 T rr
        obtain ⟨G3, S3, e3, r3⟩ := o.freeze S2
        exact k.nx _ _ G3 H' hr (S3.set r3) ((e1.trans e2).trans e3)
    · obtain ⟨S2, e2⟩ := S1.after0 T
      exact hW ρ1 C fs σ G' H' d fvs hX S2 (e1.trans e2) hd rf (S1.fr.fresh n1) n2
/-- try: .. except C as e: name = e.f -/
def tTryAs (K : PySem.W.Frag) (C : Addr) (i : Nat) (f : Str) (j : Nat) (tb : WX → TS) : TS := fun D σ H => tb (wAs K (.ref C) i (fun a cls d => tAsg (tXf a cls d C f (tVar i)) (gName j)) (fun _ _ _ _ => False) D) D σ H
theorem wS_tryAs {C : Addr} {i j : Nat} {f : Str} {tb : WX → TS} (hm : PySem.W.exmOne K (.ref C) (.ref C) = some true)
    (h : wX K F tb ρ O fun ρ' C' fs => C' = C ∧ i < ρ'.length ∧ ∃ d, fs.lookup f = some d ∧ O.nx (((ρ'.set i .un).set j (.fz d)).set i .un)) : wS K F (tTryAs K C i f j tb) ρ O := fun σ G H S D1 k =>
  h σ G H S D1 k _ fun ρ' C' fs σ' G' H' d fvs ⟨eC, hi, d0, lk, nx⟩ S' ex hd rf n1 n2 => by
    subst eC
    refine ⟨true, hm, fun _ a ha => ?_, fun z => nomatch z⟩
    obtain ⟨v, lv, rv⟩ := rf.look lk
    have hlen : i < σ'.length := by rw [S'.len]; exact hi
    refine ⟨.ref a, ?_, rfl, rfl, d, fvs, v, rfl, hd, lv, ?_⟩
    · rw [List.getElem?_set_self hlen]
    · exact k.nx _ _ G' H' nx (((S'.wipe1 i (some (.ref a))).set rv).wipe1 i none) ex
end
theorem xe_no {X : Cx} {u : Value} {s : Shared} (h : XE X (fun _ _ _ _ => False) u s) : False := by
  obtain ⟨_, _, _, _, _, _, _, _, _, _, _, _, _, _, _, _, h⟩ := h
  exact h
/-! ### own lists asked; a list or tuple gone through; tuple(list) -/
section
variable {K : PySem.W.Frag} {F : Fr} {ρ : Sls} {P : Sls → D → Prop} {te tl : TE} {x : D} {O : Out} {g : TG} {tb : TS}
theorem wE_niO {i : Nat} (h : wE K F te ρ fun ρ1 x => ∃ (l : Kd) (ds : List D), ρ1[i]? = some (.ow l ds) ∧ flatD x = true ∧ ds.all flatD = true ∧ P ρ1 (.bl (!inD x ds))) : wE K F (tOp (rIn K true) te (tVar i)) ρ P := fun σ G H S Q q =>
  h σ G H S _ fun v x ρ1 G1 H1 h1 S1 r1 e1 => by
    obtain ⟨l, ds, hi, fx, fd, p⟩ := h1
    obtain ⟨a, vs, ea, hg, hh, hr⟩ := S1.ow hi
    obtain ⟨e2, f2⟩ := r1.flat fx
    obtain ⟨e3, f3⟩ := hr.flat fd
    refine ⟨.ref a, ea, a, vs, rfl, .inl (SqL.of hh), f2, f3, ?_⟩
    subst e2 e3
    exact q _ _ ρ1 G1 H1 p S1 (.bl _) e1
theorem wS_forSL (h : wE K F tl ρ fun ρ1 d => ∃ ds, d = .lst ds ∧ forS K F g tb O ds ρ1) : wS K F (tFor (iSeq K tl) g tb) ρ O := fun σ G H S D1 k => .inl (wS_forL h σ G H S D1 k)
theorem wS_forST (h : wE K F tl ρ fun ρ1 d => ∃ ds, d = .tup ds ∧ forS K F g tb O ds ρ1) : wS K F (tFor (iSeq K tl) g tb) ρ O := fun σ G H S D1 k => .inr (wS_forT h σ G H S D1 k)
abbrev rTup (K : PySem.W.Frag) : List V → Hp → VK → Prop := fun xs H Q => ∃ p ys, xs = [.ref p] ∧ ((SqL K H p ys ∧ ∀ l, H l = none → Q (.ref l) (upd H l (.tup ys))) ∨ (SqT K H p ys ∧ Q (.ref p) H))
theorem wC_tupL {ds : List D} (p : P ρ (.tup ds)) : wC K F (rTup K) [.lst ds] ρ P := fun σ G H vs S rs Q q => by
  cases rs with
  | cons r1 t1 =>
    cases t1
    cases r1 with
    | lst a b =>
      refine ⟨_, _, rfl, .inl ⟨SqL.of (S.ex _ _ a), fun l hl => ?_⟩⟩
      exact q _ _ ρ _ _ p (S.new hl) (.tup (.inl (.inl upd_same)) (b.up (Ex.new (S.fr.freshG hl)))) (Ex.new (S.fr.freshG hl))
end
end DL
namespace DL
open PySem PySem.Spec PyProof.Rows L2

section
variable {K : PySem.W.Frag} {h : Heap} {mg : Str → Option Value}
theorem konI_ok (X : K.In h) (G : h.Ns mainGlobals mg) {x : Str} {i : Int} (c : konI K x i = true) : Kon K mg x (.int i) := by
  obtain ⟨t, e⟩ := He.int_ok X G (x := x) (i := i) c
  exact ⟨_, .int i, e, ⟨_, rfl⟩, fun _ => .int _⟩
theorem konS_ok (X : K.In h) (G : h.Ns mainGlobals mg) {x z : Str} (c : konS K x z = true) : Kon K mg x (.str z) := by
  obtain ⟨t, e⟩ := He.str_ok X G (x := x) (z := z) c
  exact ⟨_, .str z, e, ⟨_, rfl⟩, fun _ => .str _⟩
theorem strsB_ok : ∀ {vs : List Value} {l : List Str}, strsB vs l = true → Vals (l.map V.str) vs
  | [], [], _ => .nil
  | [], _ :: _, h => by cases h
  | v :: _, [], h => by cases v <;> cases h
  | v :: r, x :: l, h => by
    cases v with
    | str y t =>
      obtain ⟨h1, h2⟩ := He.ba (show (decide (y = x) && strsB r l) = true from h)
      have e : y = x := of_decide_eq_true h1
      subst e
      exact .cons ⟨_, rfl⟩ (strsB_ok h2)
    | _ => cases h
theorem repL_strs (G : Hp) : ∀ l : List Str, RepL K G (l.map V.str) (l.map D.str)
  | [] => .nil
  | _ :: l => .cons (.str _) (repL_strs G l)
theorem konT_ok (X : K.In h) (G : h.Ns mainGlobals mg) {x : Str} {l : List Str} (hl : l.length ≤ 1000) (c : konT K x l = true) : Kon K mg x (.tup (l.map D.str)) := by
  obtain ⟨c1, c2⟩ := He.ba c
  have g := of_decide_eq_true c1
  cases e : K.lookup (He.ga K x) with
  | none => rw [e] at c2; cases c2
  | some o =>
    rw [e] at c2
    obtain ⟨cls, dd, data, sl⟩ := o
    cases cls with
    | type t =>
      cases data with
      | seq its n =>
        obtain ⟨h1, h2⟩ := He.ba (show (decide (t = "tuple") && strsB its.toList l) = true from c2)
        have et : t = "tuple" := of_decide_eq_true h1
        subst et
        have V1 := strsB_ok h2
        have hs : its.size ≤ sizeLine := by
          have z := Paired.length V1
          have z2 : its.toList.length = its.size := Array.length_toList
          rw [List.length_map] at z
          rw [sizeLine_eq]
          omega
        exact ⟨_, .ref (He.ga K x), PySem.W.mg_of X G g, rfl, fun G => .tup (xs := l.map V.str) (.inr ⟨_, _, _, e, rfl, rfl, hs, V1⟩) (repL_strs G l)⟩
      | _ => cases c2
    | _ => cases c2
end
/-- the end of a law over such a head -/
theorem walk_goE {l : PySem.W.OpenLaw} {n k : Nat} {q : Program} {loose : List Str} {XP : (Str → Option Value) → Heap → Prop} {YP : World → Heap → Prop} {d : DefRec} {x : Str} (hn : l.most = some n) (hn2 : n ≤ 63) (hdf : d.params.defaults = []) (hr : Room k callerA)
    (F : ∀ (w : World) (mg : Str → Option Value) (fa : Addr) (h : Heap), YP w h → h.Ns mainGlobals mg → mg d.name = some (.ref fa) →
      ∃ (K : PySem.W.Frag) (fd : FuncData), K.In h ∧ (∀ (s : Shared) (u : Value), BindsTo s fd ⟨[u], []⟩ [(x, u)]) ∧ ∀ base : Heap, K.In base → base.Ns mainGlobals mg → FnG l.prog w K mg base k fa fd [x] (sp0 K WLaw)) :
    PySem.W.WalkO q loose XP YP l.row.toRowW d [] (fun f vs => PySem.call f vs) := by
  refine Att.attach_call hn hdf fun w s0 s1 mg mb fa o pm cd doc a vs ns G Y ho hd hcd hmg hobj hints hlen hg => ?_
  obtain ⟨K, fd, KX, hb, hF⟩ := F w mg fa _ Y G.T.g hmg
  have small : ns.length ≤ sizeLine := Nat.le_trans (Nat.le_trans hlen hn2) (by decide)
  exact law_go KX G.T.g G.T.b G.T.builtins G.T.nolimit hg hobj hints small hr hF hb fun H hO hS => law_sp _ H a ns (Nat.le_trans hlen hn2) hO hS
end DL
namespace DL
open PySem L2
open Evl (Ex)

/-! ### dicts: keys, entries -/
def keyD : D → Option Key
  | .int i => some (.inl i)
  | .str x => some (.inr x)
  | _ => none
def kD : Key → D
  | .inl i => .int i
  | .inr x => .str x
theorem kD_key (k : Key) : keyD (kD k) = some k := by cases k <;> rfl
def atKD (kvs : List (Key × D)) (k : Key) : Option D := (kvs.find? fun kv => decide (kv.1 = k)).map (·.2)
def putKD (kvs : List (Key × D)) (k : Key) (v : D) : List (Key × D) :=
  if (kvs.any fun kv => decide (kv.1 = k)) = true then kvs.map (fun kv => if kv.1 = k then (kv.1, v) else kv) else kvs ++ [(k, v)]
def dropKD (kvs : List (Key × D)) (k : Key) : List (Key × D) := kvs.filter fun kv => decide (kv.1 ≠ k)
theorem atKD_pos {p : Key × D} {r : List (Key × D)} {k : Key} (e : p.1 = k) : atKD (p :: r) k = some p.2 := by simp [atKD, List.find?_cons, e]
theorem atKD_neg {p : Key × D} {r : List (Key × D)} {k : Key} (e : ¬ p.1 = k) : atKD (p :: r) k = atKD r k := by simp [atKD, List.find?_cons, e]
section
variable {K : PySem.W.Frag} {G : Hp}
theorem Rep.kD (k : Key) : Rep K G (kV k) (kD k) := by
  cases k with
  | inl i => exact .int i
  | inr x => exact .str x
theorem Rep.key {v : V} {d : D} {k : Key} (h : Rep K G v d) (e : keyD d = some k) : v = kV k := by
  cases h <;> cases e <;> rfl
theorem RepK.len : ∀ {vs : List (Key × V)} {ds : List (Key × D)}, RepK K G vs ds → vs.length = ds.length
  | _, _, .nil => rfl
  | _, _, .cons _ t => congrArg (· + 1) (RepK.len t)
theorem RepK.keys : ∀ {vs : List (Key × V)} {ds : List (Key × D)}, RepK K G vs ds → vs.map (·.1) = ds.map (·.1)
  | _, _, .nil => rfl
  | _, _, .cons (k := k) _ t => congrArg (k :: ·) (RepK.keys t)
theorem RepK.get {i : Nat} : ∀ {vs : List (Key × V)} {ds : List (Key × D)} {k : Key} {v : V}, RepK K G vs ds → vs[i]? = some (k, v) → ∃ d, ds[i]? = some (k, d) ∧ Rep K G v d := by
  induction i with
  | zero =>
    intro vs ds k v h e
    cases h with
    | nil => simp at e
    | cons r t => simp at e; obtain ⟨rfl, rfl⟩ := e; exact ⟨_, rfl, r⟩
  | succ i ih =>
    intro vs ds k v h e
    cases h with
    | nil => simp at e
    | cons r t =>
      obtain ⟨d, h1, h2⟩ := ih t (by simpa using e)
      exact ⟨d, by simpa using h1, h2⟩
theorem RepK.at {k : Key} : ∀ {vs : List (Key × V)} {ds : List (Key × D)}, RepK K G vs ds → (valV vs k = none ∧ atKD ds k = none) ∨ ∃ v d, valV vs k = some v ∧ atKD ds k = some d ∧ Rep K G v d
  | _, _, .nil => .inl ⟨rfl, rfl⟩
  | _, _, .cons (k := j) (v := v) (d := d) r t => by
    by_cases e : j = k
    · exact .inr ⟨v, d, valV_pos e, atKD_pos e, r⟩
    · rw [valV_neg (p := (j, v)) e, atKD_neg (p := (j, d)) e]
      exact RepK.at t
theorem RepK.atSome {k : Key} {vs : List (Key × V)} {ds : List (Key × D)} {d : D} (h : RepK K G vs ds) (e : atKD ds k = some d) : ∃ v, valV vs k = some v ∧ Rep K G v d := by
  rcases h.at (k := k) with ⟨_, z⟩ | ⟨v, d', h1, h2, h3⟩
  · rw [z] at e; cases e
  · rw [h2] at e; cases e; exact ⟨v, h1, h3⟩
theorem RepK.any {k : Key} : ∀ {vs : List (Key × V)} {ds : List (Key × D)}, RepK K G vs ds → (vs.any fun kv => decide (kv.1 = k)) = ds.any fun kv => decide (kv.1 = k)
  | _, _, .nil => rfl
  | _, _, .cons (k := j) _ t => by
    rw [List.any_cons, List.any_cons, RepK.any t]
theorem RepK.app : ∀ {vs us : List (Key × V)} {ds es : List (Key × D)}, RepK K G vs ds → RepK K G us es → RepK K G (vs ++ us) (ds ++ es)
  | _, _, _, _, .nil, s => s
  | _, _, _, _, .cons r t, s => .cons r (RepK.app t s)
theorem RepK.upd1 {k : Key} {v : V} {d : D} (r : Rep K G v d) : ∀ {vs : List (Key × V)} {ds : List (Key × D)}, RepK K G vs ds → RepK K G (vs.map fun kv => if kv.1 = k then (kv.1, v) else kv) (ds.map fun kv => if kv.1 = k then (kv.1, d) else kv)
  | _, _, .nil => .nil
  | _, _, .cons (k := j) (v := u) (d := e) q t => by
    rw [List.map_cons, List.map_cons]
    by_cases z : j = k
    · rw [if_pos z, if_pos z]
      exact .cons r (RepK.upd1 r t)
    · rw [if_neg z, if_neg z]
      exact .cons q (RepK.upd1 r t)
theorem RepK.put {k : Key} {v : V} {d : D} {vs : List (Key × V)} {ds : List (Key × D)} (h : RepK K G vs ds) (r : Rep K G v d) : RepK K G (putK vs k v) (putKD ds k d) := by
  unfold putK putKD
  rw [h.any]
  split
  · exact h.upd1 r
  · exact h.app (.cons r .nil)
theorem RepK.drop {k : Key} : ∀ {vs : List (Key × V)} {ds : List (Key × D)}, RepK K G vs ds → RepK K G (dropK vs k) (dropKD ds k)
  | _, _, .nil => .nil
  | _, _, .cons (k := j) (v := u) (d := e) q t => by
    unfold dropK dropKD
    by_cases z : j = k
    · rw [List.filter_cons_of_neg (by simp [z]), List.filter_cons_of_neg (by simp [z])]
      exact RepK.drop t
    · rw [List.filter_cons_of_pos (by simp [z]), List.filter_cons_of_pos (by simp [z])]
      exact .cons q (RepK.drop t)
end

/-! ### own dicts -/
section
variable {K : PySem.W.Frag} {F : Fr} {G H : Hp} {σ : St} {ρ : Sls}
theorem set_self {i : Nat} {v : Option V} (e : σ[i]? = some v) : σ.set i v = σ := by
  apply List.ext_getElem?
  intro j
  by_cases hj : j = i
  · subst hj
    rw [List.getElem?_set_self (List.getElem?_eq_some_iff.mp e).1, e]
  · rw [List.getElem?_set_ne (Ne.symm hj)]
theorem SRel.setD (S : SRel K F G H σ ρ) {i : Nat} {p : Addr} {vs : List (Key × V)} {ds : List (Key × D)} (hg : G p = none) (h : H p = some (.dK vs)) (hr : RepK K G vs ds) (hf : F.H0 p = none) (hn : ND σ ρ p) :
    SRel K F G H (σ.set i (some (.ref p))) (ρ.set i (.od .loc ds)) := by
  have W := S.wipe1 i (some (.ref p))
  have get : ∀ (j : Nat) (s : Sl), (ρ.set i (.od .loc ds))[j]? = some s → (j = i ∧ s = .od .loc ds) ∨ (j ≠ i ∧ ρ[j]? = some s ∧ (ρ.set i .un)[j]? = some s) := fun j s h => by
    by_cases hj : j = i
    · subst hj
      have hl : j < ρ.length := by
        have := (List.getElem?_eq_some_iff.mp h).1
        rwa [List.length_set] at this
      rw [List.getElem?_set_self hl] at h
      cases h
      exact .inl ⟨rfl, rfl⟩
    · rw [List.getElem?_set_ne (Ne.symm hj)] at h
      exact .inr ⟨hj, h, by rw [List.getElem?_set_ne (Ne.symm hj)]; exact h⟩
  have gets : ∀ (w : Option V), (σ.set i (some (V.ref p)))[i]? = some w → w = some (V.ref p) := fun w h2 => by
    have hl : i < σ.length := by
      have := (List.getElem?_eq_some_iff.mp h2).1
      rwa [List.length_set] at this
    rw [List.getElem?_set_self hl] at h2
    cases h2
    rfl
  have getv : ∀ (j : Nat) (w : Option V), j ≠ i → (σ.set i (some (V.ref p)))[j]? = some w → σ[j]? = some w := fun j w hj h => by
    rw [List.getElem?_set_ne (Ne.symm hj)] at h
    exact h
  refine ⟨S.fr, by rw [List.length_set, List.length_set]; exact S.len, fun j s w h1 h2 => ?_, fun a b q m n da db h1 h2 h3 h4 => ?_, fun j m da q h1 h2 => ?_, fun a b q m n da db h1 h2 h3 h4 => ?_, fun j m da q h1 h2 => ?_⟩
  · rcases get j s h1 with ⟨rfl, rfl⟩ | ⟨hj, _, h1⟩
    · rw [gets w h2]
      exact ⟨p, vs, rfl, hg, h, hr⟩
    · exact W.sl j s w h1 h2
  · rcases get a _ h1 with ⟨_, e⟩ | ⟨_, _, h1⟩
    · cases e
    · rcases get b _ h2 with ⟨_, e⟩ | ⟨_, _, h2⟩
      · cases e
      · exact W.dis a b q _ _ _ _ h1 h2 h3 h4
  · rcases get j _ h1 with ⟨_, e⟩ | ⟨_, _, h1⟩
    · cases e
    · exact W.own j m da q h1 h2
  · rcases get a _ h1 with ⟨rfl, e⟩ | ⟨ha, k1, h1⟩
    · rcases get b _ h2 with ⟨rfl, e⟩ | ⟨hb, k2, h2⟩
      · rfl
      · have e1 := gets _ h3
        cases e1
        exact absurd (getv b _ hb h4) (hn b n db k2)
    · rcases get b _ h2 with ⟨rfl, e⟩ | ⟨hb, k2, h2⟩
      · have e1 := gets _ h4
        cases e1
        exact absurd (getv a _ ha h3) (hn a m da k1)
      · exact W.disD a b q _ _ _ _ h1 h2 h3 h4
  · rcases get j _ h1 with ⟨rfl, e⟩ | ⟨_, _, h1⟩
    · have e1 := gets _ h2
      cases e1
      cases e
      exact hf
    · exact W.ownD j m da q h1 h2
/-- an own dict is changed -/
theorem SRel.mutD (S : SRel K F G H σ ρ) {i : Nat} {l : Kd} {ds es : List (Key × D)} {p : Addr} {ws : List (Key × V)} (hi : ρ[i]? = some (.od l ds)) (hp : σ[i]? = some (some (.ref p))) (hw : RepK K G ws es) :
    SRel K F G (upd H p (.dK ws)) σ (ρ.set i (.od l es)) := by
  obtain ⟨p', vs, e1, e2, e3, e4⟩ := S.od hi
  rw [hp] at e1
  cases e1
  have hl : i < ρ.length := (List.getElem?_eq_some_iff.mp hi).1
  have get : ∀ (j : Nat) (s : Sl), (ρ.set i (.od l es))[j]? = some s → (j = i ∧ s = .od l es) ∨ (j ≠ i ∧ ρ[j]? = some s) := fun j s h => by
    by_cases hj : j = i
    · subst hj
      rw [List.getElem?_set_self hl] at h
      cases h
      exact .inl ⟨rfl, rfl⟩
    · rw [List.getElem?_set_ne (Ne.symm hj)] at h
      exact .inr ⟨hj, h⟩
  refine ⟨⟨fun a u q => ?_, S.fr.old, fun a u q np => ?_, fun a u q => ?_, fun a nm m t => tab_upd (S.fr.tb a nm m t) e3 noT_dK, S.fr.gt⟩, by rw [List.length_set]; exact S.len, fun j s w h1 h2 => ?_, fun a b q m n da db h1 h2 h3 h4 => ?_, fun j m da q h1 h2 => ?_, fun a b q m n da db h1 h2 h3 h4 => ?_, fun j m da q h1 h2 => ?_⟩
  · have ha : a ≠ p := fun z => by rw [z, e2] at q; cases q
    rw [upd_ne ha]
    exact S.ex a u q
  · have ha : a ≠ p := fun z => by
      subst z
      rcases (S.ownD i l ds a hi hp).or with z | z
      · rw [z] at q; cases q
      · exact np z
    rw [upd_ne ha]
    exact S.fr.kp a u q np
  · by_cases ha : a = p
    · subst ha
      exact ⟨_, upd_same, fun z => (isX_dK z).elim⟩
    · rw [upd_ne ha]
      exact S.fr.th a u q
  · rcases get j s h1 with ⟨rfl, rfl⟩ | ⟨hj, h1⟩
    · rw [hp] at h2
      cases h2
      exact ⟨p, ws, rfl, e2, upd_same, hw⟩
    · have q := S.sl j s w h1 h2
      cases s with
      | un => cases w <;> trivial
      | fz d => cases w <;> exact q
      | ow m dj =>
        cases w with
        | none => exact q
        | some v =>
          obtain ⟨a, us, rfl, q1, q2, q3⟩ := q
          have ha : a ≠ p := fun z => by
            subst z
            rw [e3] at q2
            cases q2
          exact ⟨a, us, rfl, q1, by rw [upd_ne ha]; exact q2, q3⟩
      | od m dj =>
        cases w with
        | none => exact q
        | some v =>
          obtain ⟨a, us, rfl, q1, q2, q3⟩ := q
          have ha : a ≠ p := fun z => by
            subst z
            exact hj (S.disD j i a m l dj ds h1 hi h2 hp)
          exact ⟨a, us, rfl, q1, by rw [upd_ne ha]; exact q2, q3⟩
  · rcases get a _ h1 with ⟨_, e⟩ | ⟨_, h1⟩
    · cases e
    · rcases get b _ h2 with ⟨_, e⟩ | ⟨_, h2⟩
      · cases e
      · exact S.dis a b q _ _ _ _ h1 h2 h3 h4
  · rcases get j _ h1 with ⟨_, e⟩ | ⟨_, h⟩
    · cases e
    · exact S.own j m da q h h2
  · have h1' : ∃ m' da', ρ[a]? = some (.od m' da') := by
      rcases get a _ h1 with ⟨rfl, _⟩ | ⟨_, h⟩
      · exact ⟨_, _, hi⟩
      · exact ⟨_, _, h⟩
    have h2' : ∃ m' da', ρ[b]? = some (.od m' da') := by
      rcases get b _ h2 with ⟨rfl, _⟩ | ⟨_, h⟩
      · exact ⟨_, _, hi⟩
      · exact ⟨_, _, h⟩
    obtain ⟨_, _, h1'⟩ := h1'
    obtain ⟨_, _, h2'⟩ := h2'
    exact S.disD a b q _ _ _ _ h1' h2' h3 h4
  · rcases get j _ h1 with ⟨rfl, e⟩ | ⟨_, h⟩
    · cases e
      exact S.ownD j l ds q hi h2
    · exact S.ownD j m da q h h2
/-- a new dict of its own -/
structure OwnD (K : PySem.W.Frag) (F : Fr) (G H : Hp) (σ : St) (ρ : Sls) (p : Addr) (vs : List (Key × V)) (ds : List (Key × D)) : Prop where
  g : G p = none
  h : H p = some (.dK vs)
  r : RepK K G vs ds
  f : F.H0 p = none
  n : ND σ ρ p
theorem OwnD.alloc (S : SRel K F G H σ ρ) {p : Addr} {vs : List (Key × V)} {ds : List (Key × D)} (hp : H p = none) (r : RepK K G vs ds) : OwnD K F G (upd H p (.dK vs)) σ ρ p vs ds :=
  ⟨S.fr.freshG hp, upd_same, r, S.fr.fresh hp, S.nd0 hp⟩
/-- it is locked for good, and known -/
theorem OwnD.lock {p : Addr} {vs : List (Key × V)} {ds : List (Key × D)} (S : SRel K F G H σ ρ) (o : OwnD K F G H σ ρ p vs ds) (ob : Obj) :
    SRel K F (upd G p (.frz ob (.dK vs))) (upd H p (.frz ob (.dK vs))) σ ρ ∧ Rep K (upd G p (.frz ob (.dK vs))) (.ref p) (.dkv ds) ∧ Ex G (upd G p (.frz ob (.dK vs))) := by
  have hn : ∀ (i : Nat) (l : Kd) (ds : List D), ρ[i]? = some (.ow l ds) → σ[i]? ≠ some (some (.ref p)) := fun i l ds hi hz => by
    obtain ⟨q, us, e1, _, e3, _⟩ := S.ow hi
    rw [hz] at e1
    cases e1
    rw [o.h] at e3
    cases e3
  have S2 := S.other (o := .frz ob (.dK vs)) o.g o.f hn o.n o.h noT_dK
  have ex : Ex G (upd G p (.frz ob (.dK vs))) := Ex.new o.g
  exact ⟨S2.freeze o.g upd_same o.f hn o.n, .dkv upd_same (RepK.up ex o.r), ex⟩
end
/-- an own dict comes out -/
def wD (K : PySem.W.Frag) (F : Fr) (te : TE) (ρ : Sls) (P : Sls → List (Key × D) → Prop) : Prop := ∀ (σ : St) (G H : Hp), SRel K F G H σ ρ → ∀ Q : VK,
  (∀ (p : Addr) (vs : List (Key × V)) (ds : List (Key × D)) (ρ' : Sls) (G' H' : Hp), P ρ' ds → SRel K F G' H' σ ρ' → OwnD K F G' H' σ ρ' p vs ds → Ex G G' → Q (.ref p) H') → te σ H Q
/-- .. and is locked -/
def tFz (te : TE) : TE := fun σ H Q => te σ H fun v H1 => ∃ (a : Addr) (kvs : List (Key × V)), v = .ref a ∧ H1 a = some (.dK kvs) ∧ ∀ o, Q v (upd H1 a (.frz o (.dK kvs)))
theorem pe_fz {X : Cx} {e : Expr} {t : TE} (h : PE X e t) : PE X e (tFz t) := by
  refine ⟨fun pins s σ H Q I hw => ?_⟩
  refine thn (h.run pins s σ H _ I hw) fun v s1 ⟨x, H1, I2, r, a, kvs, ex, ha, q⟩ => ?_
  obtain ⟨od, I3⟩ := I2.lock ha True.intro
  exact ⟨x, _, I3, r, q od⟩
abbrev rDictD : List V → Hp → VK → Prop := fun xs H Q => ∃ (a : Addr) (kvs : List (Key × V)), xs = [.ref a] ∧ Rd H a (.dK kvs) ∧ ∀ p, H p = none → Q (.ref p) (upd H p (.dK kvs))
section
variable {K : PySem.W.Frag} {F : Fr} {ρ : Sls} {P : Sls → D → Prop} {PD : Sls → List (Key × D) → Prop} {te td ty tx tv : TE} {O : Out}
theorem wD_new (p : PD ρ []) : wD K F tDNewK ρ PD := fun σ G H S Q q a ha => q a [] [] ρ G _ p (S.alloc ha) (OwnD.alloc S ha .nil) (Ex.refl G)
theorem wE_fzD (h : wD K F te ρ fun ρ' kvs => P ρ' (.dkv kvs)) : wE K F (tFz te) ρ P := fun σ G H S Q q =>
  h σ G H S _ fun p vs ds ρ' G' H' pp S' o e => ⟨p, vs, rfl, o.h, fun ob => by
    obtain ⟨S2, r2, e2⟩ := o.lock S' ob
    exact q _ _ ρ' _ _ pp S2 r2 (e.trans e2)⟩
/-- the own dict of a slot, locked from now on -/
theorem wE_fzV {i : Nat} {ds : List (Key × D)} (h : ρ[i]? = some (.od .loc ds)) (p : P (ρ.set i (.fz (.dkv ds))) (.dkv ds)) : wE K F (tFz (tVar i)) ρ P := fun σ G H S Q q => by
  obtain ⟨a, vs, e, hg, hh, hr⟩ := S.od h
  refine ⟨.ref a, e, a, vs, rfl, hh, fun ob => ?_⟩
  have hf : F.H0 a = none := S.ownD i .loc ds a h e
  have S1 : SRel K F G H σ (ρ.set i .un) := by
    have z := S.wipe1 i (some (.ref a))
    rw [set_self e] at z
    exact z
  have o : OwnD K F G H σ (ρ.set i .un) a vs ds := ⟨hg, hh, hr, hf, fun j l es h1 h2 => by
    by_cases hj : j = i
    · subst hj
      rw [List.getElem?_set_self (List.getElem?_eq_some_iff.mp h).1] at h1
      cases h1
    · rw [List.getElem?_set_ne (Ne.symm hj)] at h1
      exact hj (S.disD j i a l .loc es ds h1 h h2 e)⟩
  obtain ⟨S2, r2, e2⟩ := o.lock S1 ob
  have S3 := S2.set (i := i) r2
  rw [set_self e, List.set_set] at S3
  exact q _ _ _ _ _ p S3 r2 e2
theorem wS_setD {i : Nat} (h : wD K F te ρ fun ρ1 ds => O.nx (ρ1.set i (.od .loc ds))) : wS K F (tAsg te (gName i)) ρ O := fun σ G H S D1 k =>
  h σ G H S _ fun p vs ds ρ1 G1 H1 h1 S1 o e1 => k.nx _ _ G1 H1 h1 (S1.setD o.g o.h o.r o.f o.n) e1
/-- dict(d) -/
theorem wD_dict {t : TA} (h : wA K F t ρ fun ρ1 xs => ∃ ds, xs = [.dkv ds] ∧ PD ρ1 ds) : wD K F (tCB rDictD t) ρ PD := fun σ G H S Q q =>
  h σ G H S _ fun us xs ρ1 G1 H1 h1 S1 r1 e1 => by
    obtain ⟨ds, rfl, p⟩ := h1
    cases r1 with
    | cons r rr =>
      cases rr
      cases r with
      | dkv ha hr =>
        rename_i a o vs
        exact ⟨a, vs, rfl, .inr ⟨o, S1.ex _ _ ha⟩, fun b hb => q b vs ds ρ1 G1 _ p (S1.alloc hb) (OwnD.alloc S1 hb hr) e1⟩
theorem wD_dictO {i : Nat} {l : Kd} {ds : List (Key × D)} (h : ρ[i]? = some (.od l ds)) (p : PD ρ ds) : wD K F (tCB rDictD (tCons (tVar i) tNil)) ρ PD := fun σ G H S Q q => by
  obtain ⟨a, vs, e, hg, hh, hr⟩ := S.od h
  exact ⟨.ref a, e, a, vs, rfl, .inl hh, fun b hb => q b vs ds ρ G _ p (S.alloc hb) (OwnD.alloc S hb hr) (Ex.refl G)⟩
/-- own[k] = v -/
theorem wS_put {i : Nat} (h : wE K F tv ρ fun ρ1 x => (∃ (l : Kd) (ds : List (Key × D)), ρ1[i]? = some (.od l ds)) ∧ wE K F ty ρ1 fun ρ2 y => ∃ (l : Kd) (ds : List (Key × D)) (k : Key), ρ2[i]? = some (.od l ds) ∧ keyD y = some k ∧ ds.length < 100000 ∧ O.nx (ρ2.set i (.od l (putKD ds k x)))) :
    wS K F (sDPut (tVar i) ty tv) ρ O := fun σ G H S D1 k =>
  h σ G H S _ fun v x ρ1 G1 H1 h1 S1 r1 e1 => by
    obtain ⟨⟨l1, ds1, hi1⟩, h1⟩ := h1
    obtain ⟨p, vs1, hp, _⟩ := S1.od hi1
    refine ⟨.ref p, hp, h1 σ G1 H1 S1 _ fun vy y ρ2 G2 H2 h2 S2 r2 e2 => ?_⟩
    obtain ⟨l, ds, kk, hi, hk, hl, hn⟩ := h2
    obtain ⟨p', vs, e', hg, hh, hr⟩ := S2.od hi
    rw [hp] at e'
    cases e'
    have ey := r2.key hk
    subst ey
    exact ⟨p, _, rfl, DPut.k hh (Evl.sz_lt (by rw [hr.len]; exact hl)), k.nx _ _ G2 _ hn (S2.mutD hi hp (hr.put (r1.up e2))) (e1.trans e2)⟩
/-! reads -/
theorem Rep.dget {G H : Hp} {v : V} {ds : List (Key × D)} {k : Key} (ex : Ex G H) (h : Rep K G v (.dkv ds)) : ∃ a o vs, v = .ref a ∧ H a = some (.frz o (.dK vs)) ∧ RepK K G vs ds ∧ DGet H a (kV k) (valV vs k) := by
  cases h with
  | dkv ha hr =>
    rename_i a o vs
    exact ⟨a, o, vs, rfl, ex _ _ ha, hr, .inl ⟨vs, k, .inr ⟨o, ex _ _ ha⟩, rfl, rfl⟩⟩
theorem wE_dget (h : wE K F td ρ fun ρ1 x => wE K F ty ρ1 fun ρ2 y => ∃ ds k d, x = .dkv ds ∧ keyD y = some k ∧ atKD ds k = some d ∧ P ρ2 d) : wE K F (tDGet td ty) ρ P := fun σ G H S Q q =>
  h σ G H S _ fun vx x ρ1 G1 H1 h1 S1 r1 e1 => h1 σ G1 H1 S1 _ fun vy y ρ2 G2 H2 h2 S2 r2 e2 => by
    obtain ⟨ds, k, d, rfl, hk, hd, p⟩ := h2
    obtain rfl := r2.key hk
    obtain ⟨a, o, vs, rfl, hh, hr, dg⟩ := Rep.dget (k := k) S2.ex (r1.up e2)
    obtain ⟨v, hv, rv⟩ := hr.atSome hd
    exact ⟨a, v, rfl, by rw [← hv]; exact dg, q v d ρ2 G2 H2 p S2 rv (e1.trans e2)⟩
theorem wE_dgetO {i : Nat} (h0 : ∃ (l : Kd) (ds : List (Key × D)), ρ[i]? = some (.od l ds)) (h : wE K F ty ρ fun ρ2 y => ∃ (l : Kd) (ds : List (Key × D)) (k : Key) (d : D), ρ2[i]? = some (.od l ds) ∧ keyD y = some k ∧ atKD ds k = some d ∧ P ρ2 d) : wE K F (tDGet (tVar i) ty) ρ P := fun σ G H S Q q => by
  obtain ⟨l0, ds0, h0⟩ := h0
  obtain ⟨p, vs0, hp, _⟩ := S.od h0
  refine ⟨.ref p, hp, h σ G H S _ fun vy y ρ2 G2 H2 h2 S2 r2 e2 => ?_⟩
  obtain ⟨l, ds, k, d, hi, hk, hd, pp⟩ := h2
  obtain rfl := r2.key hk
  obtain ⟨p', vs, e', hg, hh, hr⟩ := S2.od hi
  rw [hp] at e'
  cases e'
  obtain ⟨v, hv, rv⟩ := hr.atSome hd
  exact ⟨p, v, rfl, by rw [← hv]; exact DGet.k hh, q v d ρ2 G2 H2 pp S2 rv e2⟩
theorem RepK.isSome {G : Hp} {vs : List (Key × V)} {ds : List (Key × D)} (h : RepK K G vs ds) (k : Key) : (valV vs k).isSome = (atKD ds k).isSome := by
  rcases h.at (k := k) with ⟨z1, z2⟩ | ⟨v, d, h1, h2, _⟩
  · rw [z1, z2] <;> rfl
  · rw [h1, h2] <;> rfl
theorem wE_din (h : wE K F ty ρ fun ρ1 y => wE K F td ρ1 fun ρ2 x => ∃ ds k, x = .dkv ds ∧ keyD y = some k ∧ P ρ2 (.bl (atKD ds k).isSome)) : wE K F (tDIn ty td) ρ P := fun σ G H S Q q =>
  h σ G H S _ fun vy y ρ1 G1 H1 h1 S1 r1 e1 => h1 σ G1 H1 S1 _ fun vx x ρ2 G2 H2 h2 S2 r2 e2 => by
    obtain ⟨ds, k, rfl, hk, p⟩ := h2
    obtain rfl := r1.key hk
    obtain ⟨a, o, vs, rfl, hh, hr, dg⟩ := Rep.dget (k := k) S2.ex r2
    refine ⟨a, _, rfl, dg, ?_⟩
    rw [hr.isSome]
    exact q _ _ ρ2 G2 H2 p S2 (.bl _) (e1.trans e2)
theorem wE_dni (h : wE K F ty ρ fun ρ1 y => wE K F td ρ1 fun ρ2 x => ∃ ds k, x = .dkv ds ∧ keyD y = some k ∧ P ρ2 (.bl (!(atKD ds k).isSome))) : wE K F (tDNotIn ty td) ρ P := fun σ G H S Q q =>
  h σ G H S _ fun vy y ρ1 G1 H1 h1 S1 r1 e1 => h1 σ G1 H1 S1 _ fun vx x ρ2 G2 H2 h2 S2 r2 e2 => by
    obtain ⟨ds, k, rfl, hk, p⟩ := h2
    obtain rfl := r1.key hk
    obtain ⟨a, o, vs, rfl, hh, hr, dg⟩ := Rep.dget (k := k) S2.ex r2
    refine ⟨a, _, rfl, dg, ?_⟩
    rw [hr.isSome]
    exact q _ _ ρ2 G2 H2 p S2 (.bl _) (e1.trans e2)
theorem wE_dinO {i : Nat} (h : wE K F ty ρ fun ρ1 y => ∃ (l : Kd) (ds : List (Key × D)) (k : Key), ρ1[i]? = some (.od l ds) ∧ keyD y = some k ∧ P ρ1 (.bl (atKD ds k).isSome)) : wE K F (tDIn ty (tVar i)) ρ P := fun σ G H S Q q =>
  h σ G H S _ fun vy y ρ1 G1 H1 h1 S1 r1 e1 => by
    obtain ⟨l, ds, k, hi, hk, p⟩ := h1
    obtain rfl := r1.key hk
    obtain ⟨a, vs, e, hg, hh, hr⟩ := S1.od hi
    refine ⟨.ref a, e, a, _, rfl, DGet.k hh, ?_⟩
    rw [hr.isSome]
    exact q _ _ ρ1 G1 H1 p S1 (.bl _) e1
theorem wE_dniO {i : Nat} (h : wE K F ty ρ fun ρ1 y => ∃ (l : Kd) (ds : List (Key × D)) (k : Key), ρ1[i]? = some (.od l ds) ∧ keyD y = some k ∧ P ρ1 (.bl (!(atKD ds k).isSome))) : wE K F (tDNotIn ty (tVar i)) ρ P := fun σ G H S Q q =>
  h σ G H S _ fun vy y ρ1 G1 H1 h1 S1 r1 e1 => by
    obtain ⟨l, ds, k, hi, hk, p⟩ := h1
    obtain rfl := r1.key hk
    obtain ⟨a, vs, e, hg, hh, hr⟩ := S1.od hi
    refine ⟨.ref a, e, a, _, rfl, DGet.k hh, ?_⟩
    rw [hr.isSome]
    exact q _ _ ρ1 G1 H1 p S1 (.bl _) e1
/-- d.get(k, x) -/
theorem wE_dget2 (h : wE K F td ρ fun ρ1 x => ∃ ds, x = .dkv ds ∧ wE K F ty ρ1 fun ρ2 y => wE K F tx ρ2 fun ρ3 z => ∃ k, keyD y = some k ∧ P ρ3 ((atKD ds k).getD z)) : wE K F (tDGet2 td ty tx) ρ P := fun σ G H S Q q =>
  h σ G H S _ fun vx x ρ1 G1 H1 h1 S1 r1 e1 => by
    obtain ⟨ds, rfl, h1⟩ := h1
    cases r1 with
    | dkv ha hr =>
      rename_i a o vs
      refine ⟨a, rfl, .inl ⟨vs, .inr ⟨o, S1.ex _ _ ha⟩⟩, h1 σ G1 H1 S1 _ fun vy y ρ2 G2 H2 h2 S2 r2 e2 => h2 σ G2 H2 S2 _ fun vz z ρ3 G3 H3 h3 S3 r3 e3 => ?_⟩
      obtain ⟨k, hk, p⟩ := h3
      obtain rfl := r2.key hk
      have ha3 : H3 a = some (.frz o (.dK vs)) := S3.ex _ _ ((e2.trans e3) _ _ ha)
      refine ⟨_, .inl ⟨vs, k, .inr ⟨o, ha3⟩, rfl, rfl⟩, ?_⟩
      rcases hr.at (k := k) with ⟨z1, z2⟩ | ⟨v, d, z1, z2, rv⟩
      · rw [z1]
        rw [z2] at p
        exact q _ _ ρ3 G3 H3 p S3 r3 ((e1.trans e2).trans e3)
      · rw [z1]
        rw [z2] at p
        exact q _ _ ρ3 G3 H3 p S3 (rv.up (e2.trans e3)) ((e1.trans e2).trans e3)
/-- len(d) -/
theorem wC_lenD {ds : List (Key × D)} (p : P ρ (.int (ds.length : Nat))) : wC K F (fun xs H Q => ∃ a kvs, xs = [V.ref a] ∧ Rd H a (.dK kvs) ∧ Q (.int (kvs.length : Nat)) H) [.dkv ds] ρ P := fun σ G H vs S rs Q q => by
  cases rs with
  | cons r rr =>
    cases rr
    cases r with
    | dkv ha hr =>
      rename_i a o us
      refine ⟨a, us, rfl, .inr ⟨o, S.ex _ _ ha⟩, ?_⟩
      rw [hr.len]
      exact q _ _ ρ G H p S (.int _) (Ex.refl G)
/-! ### a dict gone through -/
/-- what a walk hands out -/
structure Walks (K : PySem.W.Frag) (J : It) (Gk : Hp) (ds : List D) : Prop where
  stop : ∀ (G H : Hp), Ex Gk G → Ex G H → J.stop ds.length H
  go : ∀ (i : Nat) (G H : Hp), Ex Gk G → Ex G H → i < ds.length → J.go i H
  yld : ∀ (i : Nat) (d : D) (x : V) (F : Fr) (σ : St) (ρ : Sls) (G H H' : Hp), ds[i]? = some d → SRel K F G H σ ρ → Ex Gk G → J.yld i H x H' → ∃ G', SRel K F G' H' σ ρ ∧ Ex G G' ∧ Rep K G' x d
def itemsD (kvs : List (Key × D)) : List D := kvs.map fun kv => .tup [kD kv.1, kv.2]
def keysD (kvs : List (Key × D)) : List D := kvs.map fun kv => kD kv.1
theorem walks_items {G : Hp} {a : Addr} {o : Obj} {vs : List (Key × V)} {ds : List (Key × D)} (ha : G a = some (.frz o (.dK vs))) (hr : RepK K G vs ds) : Walks K (Iti a o vs) G (itemsD ds) := by
  have hl : (itemsD ds).length = vs.length := by unfold itemsD; rw [List.length_map, hr.len]
  refine ⟨fun G' H e e' => ⟨e' _ _ (e _ _ ha), by rw [hl]; exact Nat.le_refl _⟩, fun i G' H e e' h => ⟨e' _ _ (e _ _ ha), by rw [← hl]; exact h⟩, fun i d x F σ ρ G' H H' hd S e h => ?_⟩
  obtain ⟨T, k, v, hk, rfl, hT, rfl⟩ := h
  obtain ⟨d', hd', rd⟩ := hr.get hk
  have e2 : d = .tup [kD k, d'] := by
    unfold itemsD at hd
    rw [List.getElem?_map, hd'] at hd
    exact (Option.some.inj hd).symm
  subst e2
  have ex : Ex G' (upd G' T (.tup [kV k, v])) := Ex.new (S.fr.freshG hT)
  exact ⟨_, S.new hT, ex, .tup (SqT.of upd_same) (.cons (Rep.kD k) (.cons (rd.up (e.trans ex)) .nil))⟩
theorem walks_keys {G : Hp} {a : Addr} {o : Obj} {vs : List (Key × V)} {ds : List (Key × D)} (ha : G a = some (.frz o (.dK vs))) (hr : RepK K G vs ds) : Walks K (Itk a o vs) G (keysD ds) := by
  have hl : (keysD ds).length = vs.length := by unfold keysD; rw [List.length_map, hr.len]
  refine ⟨fun G' H e e' => ⟨e' _ _ (e _ _ ha), by rw [hl]; exact Nat.le_refl _⟩, fun i G' H e e' h => ⟨e' _ _ (e _ _ ha), by rw [← hl]; exact h⟩, fun i d x F σ ρ G' H H' hd S e h => ?_⟩
  obtain ⟨rfl, k, v, hk, rfl⟩ := h
  obtain ⟨d', hd', rd⟩ := hr.get hk
  have e2 : d = kD k := by
    unfold keysD at hd
    rw [List.getElem?_map, hd'] at hd
    exact (Option.some.inj hd).symm
  subst e2
  exact ⟨G', S, Ex.refl G', Rep.kD k⟩
section
variable {g : TG} {tb : TS}
theorem for_walk {σ : St} {G1 H1 : Hp} {D1 : Ends} {G0 : Hp} {J : It} {ds : List D} (k : DOk K F G0 D1 O) (e0 : Ex G0 G1) (wk : Walks K J G1 ds) {ρ1 : Sls} (S1 : SRel K F G1 H1 σ ρ1) (f : forS K F g tb O ds ρ1) :
    ∃ W : Nat → Nat → St → Hp → Prop, (∃ m, W 0 m σ H1) ∧ ∀ i m σ H, W i m σ H → (J.stop i H ∧ D1.nx σ H) ∨ (J.go i H ∧ ∃ N : St → Hp → Prop, (∀ σ' H', N σ' H' → ∃ m', m' < m ∧ W (i + 1) m' σ' H') ∧
      ∀ x H', J.yld i H x H' → g x σ H' fun σ2 H2 => tb { D1 with nx := N, ct := N, bk := D1.nx } σ2 H2) := by
  refine ⟨fun i m σ' H' => m = ds.length - i ∧ i ≤ ds.length ∧ ∃ G' ρ', SRel K F G' H' σ' ρ' ∧ Ex G1 G' ∧ forS K F g tb O (ds.drop i) ρ', ⟨_, rfl, Nat.zero_le _, G1, ρ1, S1, Ex.refl G1, f⟩, ?_⟩
  rintro i m σ' H' ⟨rfl, hi, G', ρ', S', e', f'⟩
  by_cases he : i = ds.length
  · left
    subst he
    rw [List.drop_length] at f'
    exact ⟨wk.stop G' H' e' S'.ex, k.nx ρ' σ' G' H' f' S' (e0.trans e')⟩
  · right
    have hlt : i < ds.length := by omega
    have hd : ds[i]? = some ds[i] := List.getElem?_eq_getElem hlt
    refine ⟨wk.go i G' H' e' S'.ex hlt, fun σ' H' => ∃ G' ρ', SRel K F G' H' σ' ρ' ∧ Ex G1 G' ∧ forS K F g tb O (ds.drop (i + 1)) ρ', fun σ2 H2 q => ⟨ds.length - (i + 1), by omega, rfl, hlt, q⟩, fun x H2 hy => ?_⟩
    obtain ⟨G2, S2, e2, r2⟩ := wk.yld i _ x F σ' ρ' G' H' H2 hd S' e' hy
    exact for_turn k e0 S2 (e'.trans e2) hd r2 f'
theorem wS_forItems (h : wE K F td ρ fun ρ1 d => ∃ ds, d = .dkv ds ∧ forS K F g tb O (itemsD ds) ρ1) : wS K F (tFor (iItems td) g tb) ρ O := fun σ G H S D1 k =>
  h σ G H S _ fun v d ρ1 G1 H1 h1 S1 r1 e1 => by
    obtain ⟨ds, rfl, f⟩ := h1
    cases r1 with
    | dkv ha hr =>
      rename_i a o vs
      exact ⟨a, o, vs, rfl, S1.ex _ _ ha, for_walk k e1 (walks_items ha hr) S1 f⟩
theorem wS_forKeys (h : wE K F td ρ fun ρ1 d => ∃ ds, d = .dkv ds ∧ forS K F g tb O (keysD ds) ρ1) : wS K F (tFor (iKeys td) g tb) ρ O := fun σ G H S D1 k =>
  h σ G H S _ fun v d ρ1 G1 H1 h1 S1 r1 e1 => by
    obtain ⟨ds, rfl, f⟩ := h1
    cases r1 with
    | dkv ha hr =>
      rename_i a o vs
      exact ⟨a, o, rfl, .inl ⟨vs, S1.ex _ _ ha, for_walk k e1 (walks_keys ha hr) S1 f⟩⟩
end
section
variable {g : TG} {tt : TT} {vs : List Nat} {PO : Sls → List D → Prop}
theorem wO_lcK (hT : Tgt g vs) (h : wE K F td ρ fun ρ1 d => ∃ ds, d = .dkv ds ∧ ds.length ≤ 100000 ∧ compL K g tt te vs (keysD ds) (wipeU ρ1 vs) [] fun ρ' acc => PO (restS vs 0 ρ1 ρ') acc) : wO K F (tLc (iKeys td) g tt te vs) ρ PO := fun σ G H S Q q =>
  h σ G H S _ fun v d ρ1 G1 H1 h1 S1 r1 e1 => by
    obtain ⟨ds, rfl, hn, f⟩ := h1
    cases r1 with
    | dkv ha hr =>
      rename_i a o us
      have wk := walks_keys (K := K) ha hr
      have hln : (keysD ds).length = ds.length := by unfold keysD; rw [List.length_map]
      refine ⟨a, o, rfl, .inl ⟨us, S1.ex _ _ ha, fun Dl hD => ?_⟩⟩
      refine ⟨fun i m H' => m = (keysD ds).length - i ∧ i ≤ (keysD ds).length ∧ CompEx K F g tt te vs σ G1 Dl (fun ρ' acc => PO (restS vs 0 ρ1 ρ') acc) i ((keysD ds).drop i) H', ⟨_, rfl, Nat.zero_le _, comp_start S1 f hD⟩, ?_⟩
      rintro i m H' ⟨rfl, hi, c⟩
      have c0 := c
      obtain ⟨G', ρ', acc, vacc, c1⟩ := c0
      by_cases he : i = (keysD ds).length
      · left
        subst he
        refine ⟨wk.stop G' H' c1.e c1.S.ex, ?_⟩
        rw [List.drop_length] at c
        obtain ⟨G2, ρ2, acc2, vacc2, p, S2, ow, e2⟩ := comp_end (P := PO) S1 c hD
        exact q _ _ _ ρ2 G2 H' p S2 ow (e1.trans e2)
      · right
        have hlt : i < (keysD ds).length := by omega
        have hd : (keysD ds)[i]? = some (keysD ds)[i] := List.getElem?_eq_getElem hlt
        rw [drop_at hd] at c
        refine ⟨wk.go i G' H' c1.e c1.S.ex hlt, fun H2 => CompEx K F g tt te vs σ G1 Dl (fun ρ' acc => PO (restS vs 0 ρ1 ρ') acc) (i + 1) ((keysD ds).drop (i + 1)) H2, fun H2 q2 => ⟨(keysD ds).length - (i + 1), by omega, rfl, hlt, q2⟩, fun x H2 hy => ?_⟩
        obtain ⟨rfl, k, v, hk, rfl⟩ := hy
        obtain ⟨d', hd', rd⟩ := hr.get hk
        have e2 : (keysD ds)[i] = kD k := by
          have z : (keysD ds)[i]? = some (kD k) := by
            unfold keysD
            rw [List.getElem?_map, hd']
            rfl
          rw [hd] at z
          exact Option.some.inj z
        exact comp_turn hT (by omega) c fun G'' _ => by rw [e2]; exact Rep.kD k
end
end
end DL
namespace DL
open PySem PySem.Spec PyProof.Rows L2

/-! ### try, with several clauses, each with or without a name, and an else -/
/-- one clause: its class, the slot of its name if it has one, its suite -/
abbrev Cl : Type := Value × Option Nat × (Addr → Value → Option Addr → TS)
/-- what follows a suite whose name is the slot i -/
def EndsU (E : Ends) (i : Nat) : Ends := { nx := fun τ M => E.nx (τ.set i none) M, rt := E.rt, bk := fun τ M => E.bk (τ.set i none) M, ct := fun τ M => E.ct (τ.set i none) M }
def wCls (K : PySem.W.Frag) (Wo : WX) (E : Ends) : List Cl → WX
  | [] => Wo
  | (c, oi, ts) :: r => fun k d τ M => ∃ b, PySem.W.exmOne K k c = some b ∧ (b = false → wCls K Wo E r k d τ M) ∧
      (b = true → ∀ a, M a = none → match oi with
        | none => ts a k d E τ M
        | some i => ts a k d (EndsU E i) (τ.set i (some (.ref a))) M)
inductive ClsOk (X : Cx) : List ExceptHandler → List Cl → Prop
  | nil : ClsOk X [] []
  | bare {x : Str} {c : Value} {ts : Addr → Value → Option Addr → TS} {b0 : Stmt} {bs : List Stmt} {p1 p2 : Pos} {hs : List ExceptHandler} {l : List Cl} (hc : Names X x c)
      (hsu : ∀ (a : Addr) (oe : Obj) (k : Value) (d : Option Addr) (pn : List (Addr × Obj)), Zc k d oe → (∃ vs, oe.data = .fields vs) → PSs (X.suite a ((a, oe) :: pn)) (b0 :: bs) (ts a k d)) (r : ClsOk X hs l) :
      ClsOk X (.ExceptHandler (some (.Name x p1)) none (b0 :: bs) p2 :: hs) ((c, none, ts) :: l)
  | as_ {x n : Str} {i : Nat} {c : Value} {ts : Addr → Value → Option Addr → TS} {b0 : Stmt} {bs : List Stmt} {p1 p2 : Pos} {hs : List ExceptHandler} {l : List Cl} (hc : Names X x c) (hi : X.N[i]? = some n) (hln : X.env.kindOf n = some .local)
      (hsu : ∀ (a : Addr) (oe : Obj) (k : Value) (d : Option Addr) (pn : List (Addr × Obj)), Zc k d oe → (∃ vs, oe.data = .fields vs) → PSs (X.suite a ((a, oe) :: pn)) (b0 :: bs) (ts a k d)) (r : ClsOk X hs l) :
      ClsOk X (.ExceptHandler (some (.Name x p1)) (some n) (b0 :: bs) p2 :: hs) ((c, some i, ts) :: l)
section
variable {X : Cx} {body els : List Stmt} {hd : ExceptHandler} {hds : List ExceptHandler} {l : List Cl} {pos : Pos} {tb : WX → TS} {te : TS} {Wo : WX}
theorem ps_tryC (e1 : X.stack = X.env :: X.outer) (e2 : X.env.frame = some X.env.locals) (hN : X.N.Nodup) (tk : Takes X Wo)
    (hb : ∀ (W : WX) (pn : List (Addr × Obj)) (xe : Value → Shared → Prop), Takes (X.tr pn xe) W → PassesOwn (model X.prog X.w) X.A X.env xe → PSs (X.tr pn xe) body (tb W))
    (hh : ClsOk X (hd :: hds) l) (ho : PSs X els te) : PS X (.Try body (hd :: hds) els [] pos) (fun E τ M => tb (wCls X.K Wo E l) { E with nx := te E } τ M) := by
  constructor
  intro pins s τ M E I0 hq
  have ok0 := I0.ok
  have efr : X.A.frames = some (X.env :: X.outer) := by rw [ok0.frames, e1]
  apply wpAny_Try_except
  have run1 := (hb (wCls X.K Wo E l) (X.pn ++ pins) (fun e t1 => wpAny (model X.prog X.w) X.A (noteFrame e X.env) (fun _ t2 => wpAny (model X.prog X.w) X.A (setFlight e none) (fun _ t3 =>
    wpAny (model X.prog X.w) X.A (handleBy e X.env (hd :: hds)) (SP X pins E) X.xe t3) X.xe t2) X.xe t1) (fun v t xx => ?caught) PassesOwn.looking).run [] s τ M { E with nx := te E } (I0.toTry _) hq
  case caught =>
    obtain ⟨a, B, t0, pins', τ1, M1, k, d, rfl, J', nb, up, sky, na, os, ag, w⟩ := xx
    have J0 : Inv X pins τ1 M1 t0 := J'.ofTry ok0
    rw [e1] at sky
    show wpAny (model X.prog X.w) X.A (noteFrame (.ref a) X.env) _ _ _
    apply Sky.land Zc.steady efr e2 sky
    intro g3 fl3 up3
    have J3 : Inv X pins τ1 M1 { t with heap := g3 } := J0.landed nb fl3.1 (up.trans up3) os ag
    obtain ⟨o3, v3, he3, hz3, hd3⟩ := fl3.there
    have nfr : a ∉ frs (X.env :: X.outer) := fun hm => by
      obtain ⟨_, o', z1, z2⟩ := fl3.2.2.1.mem hm
      rw [he3] at z1
      cases z1
      exact z2 _ hd3
    have nL : a ≠ X.env.locals := fun z => nfr (List.mem_filterMap.mpr ⟨X.env, .head _, by rw [e2, z]⟩)
    have nF : a ∉ X.fs := fun hm => by
      obtain ⟨y, hy, z⟩ := List.mem_filterMap.mp hm
      exact nfr (List.mem_filterMap.mpr ⟨y, .tail _ hy, z⟩)
    have S3 := J3.suite he3 hd3 na nL nF
    have lookT : PySem.W.Looks (model X.prog X.w) g3 (typeOf (.ref a)) k := fun A Q E s kk q => wpAny_typeOf_ref (kk _ _ he3) (by rw [hz3.1]; exact q)
    have asks : ∀ {x : Str} {p1 : Pos} {c : Value} {Q : Value → Shared → Prop} {E' : Value → Shared → Prop}, Names X x c → Q c { t with heap := g3 } → wpAny (model X.prog X.w) (X.A.mark (some (.ref a))) (eval (.Name x p1) X.env) Q E' { t with heap := g3 } := by
      intro x p1 c Q E' hc q
      obtain ⟨h1, h2, h3 | ⟨h3, h4, h5⟩⟩ := hc
      · exact ld_glob (X := X.suite a ((a, o3) :: (X.pn ++ pins))) S3 h1 h3 q h2
      · exact ld_blt (X := X.suite a ((a, o3) :: (X.pn ++ pins))) S3 h1 h3 h4 q h5 h2
    have go : ∀ {hs' : List ExceptHandler} {l' : List Cl}, ClsOk X hs' l' → wCls X.K Wo E l' k d τ1 M1 →
        wpAny (model X.prog X.w) X.A (handleBy (.ref a) X.env hs') (SP X pins E) X.xe { t with heap := g3 } := by
      intro hs' l' hk
      induction hk with
      | nil =>
        intro w
        apply wpAny_handleBy_nil
        have fl3' := fl3
        obtain ⟨_, _, _, oe, vs, T, oT, ts', q1, _, q3, q4, _⟩ := fl3'
        unfold PySem.passOn
        apply wpAny_bind
        refine wpAny_field q1 q3 q4 ?_
        rw [if_neg (show ¬ ((Value.ref T == Value.none) = true) from by simp)]
        have last : wpAny (model X.prog X.w) X.A (setFlight (.ref a) X.env.frame) (fun _ t4 => wpAny (model X.prog X.w) X.A (throw (.ref a) : Sem Flow) (SP X pins E) X.xe t4) X.xe { t with heap := g3 } := by
          rw [e2]
          refine HandSPX.setFlight_upZ fl3 fun g4 hh4 up4 => ?_
          refine wpAny_throw (tk _ _ ⟨a, B, t0, pins, τ1, M1, k, d, rfl, J0, nb, (up.trans up3).trans up4, .inr (.inr ?_), na, os, ag, w⟩)
          rw [e1]
          exact hh4
        first
          | exact wpAny_bind (wpAny_pure (wpAny_bind last))
          | exact wpAny_bind last
      | bare hc hsu r ih =>
        intro w
        obtain ⟨b, w1, w2, w3⟩ := w
        refine wpAny_handleBy_cons (codeAny_handlers_test ?_) fun q => nomatch q
        refine asks hc ((PySem.W.exm_one (M := model X.prog X.w) J3.kIn lookT w1).here ?_)
        cases b with
        | false => exact ih (w2 rfl)
        | true =>
          apply codeAny_handlers_suite
          refine HandSPX.lands_againZ fl3 fun g4 fl4 up4 => ?_
          obtain ⟨o4, v4, he4, hz4, hd4⟩ := fl4.there
          have S4 := (J0.landed nb fl4.1 ((up.trans up3).trans up4) os ag : Inv X pins τ1 M1 { t with heap := g4 }).suite he4 hd4 na nL nF
          refine wpAny_mono ((hsu a o4 k d (X.pn ++ pins) hz4 ⟨_, hd4⟩).run [] _ _ M1 _ S4 (w3 rfl a na)) (fun f t6 hf => ?_) (fun _ _ z => z.elim)
          cases f with
          | ret u =>
            obtain ⟨x1, x2, x3, S6, x4, x5⟩ := hf
            exact ⟨x1, x2, x3, S6.unsuite ok0, x4, x5⟩
          | next =>
            obtain ⟨x2, x3, S6, x5⟩ := hf
            exact ⟨x2, x3, S6.unsuite ok0, x5⟩
          | brk =>
            obtain ⟨x2, x3, S6, x5⟩ := hf
            exact ⟨x2, x3, S6.unsuite ok0, x5⟩
          | cont =>
            obtain ⟨x2, x3, S6, x5⟩ := hf
            exact ⟨x2, x3, S6.unsuite ok0, x5⟩
      | @as_ x n i c ts b0 bs p1 p2 hs2 l2 hc hi hln hsu r ih =>
        intro w
        obtain ⟨b, w1, w2, w3⟩ := w
        refine wpAny_handleBy_cons (codeAny_handlers_test ?_) fun q => nomatch q
        refine asks hc ((PySem.W.exm_one (M := model X.prog X.w) J3.kIn lookT w1).here ?_)
        cases b with
        | false => exact ih (w2 rfl)
        | true =>
          apply codeAny_handlers_suite_as
          refine HandSPX.lands_againZ fl3 fun g4 fl4 up4 => ?_
          obtain ⟨o4, v4, he4, hz4, hd4⟩ := fl4.there
          have S4 := (J0.landed nb fl4.1 ((up.trans up3).trans up4) os ag : Inv X pins τ1 M1 { t with heap := g4 }).suite he4 hd4 na nL nF
          refine store_ok (X := X.suite a ((a, o4) :: (X.pn ++ pins))) (v := .ref a) S4 hN hi (.inl hln) rfl (fun t5 S5 => ?_) (.inr hln)
          refine wpAny_mono ((hsu a o4 k d (X.pn ++ pins) hz4 ⟨_, hd4⟩).run [] t5 _ M1 _ S5 (w3 rfl a na)) (fun f t6 hf => ?_) (fun _ _ z => z.elim)
          have fin6 : ∀ {τ6 : L2.St} {M6 : Hp} {Q : Shared → Prop}, Inv (X.suite a ((a, o4) :: (X.pn ++ pins))) [] τ6 M6 t6 → (∀ t7, Inv X pins (τ6.set i none) M6 t7 → Q t7) →
              wpAny (model X.prog X.w) X.A (do bindName X.env n .none; unbindBehindTheSuite X.env n p2) (fun _ t7 => Q t7) X.xe t6 := fun S6 q => gone_ok (S6.unsuite ok0) hN hi hln q
          cases f with
          | ret u =>
            obtain ⟨x1, x2, x3, S6, x4, x5⟩ := hf
            exact fin6 S6 fun t7 J7 => ⟨x1, _, x3, J7, x4, x5⟩
          | next =>
            obtain ⟨x2, x3, S6, x5⟩ := hf
            exact fin6 S6 fun t7 J7 => ⟨_, x3, J7, x5⟩
          | brk =>
            obtain ⟨x2, x3, S6, x5⟩ := hf
            exact fin6 S6 fun t7 J7 => ⟨_, x3, J7, x5⟩
          | cont =>
            obtain ⟨x2, x3, S6, x5⟩ := hf
            exact fin6 S6 fun t7 J7 => ⟨_, x3, J7, x5⟩
    exact go hh w
  refine wpAny_mono run1 (fun f t1 hf => ?_) (fun e t1 he => he)
  cases f with
  | next =>
    obtain ⟨x2, x3, J6, x5⟩ := hf
    exact ho.run pins t1 x2 x3 E (J6.ofTry ok0) x5
  | ret u =>
    obtain ⟨x1, x2, x3, J6, x4, x5⟩ := hf
    exact ⟨x1, x2, x3, J6.ofTry ok0, x4, x5⟩
  | brk =>
    obtain ⟨x2, x3, J6, x5⟩ := hf
    exact ⟨x2, x3, J6.ofTry ok0, x5⟩
  | cont =>
    obtain ⟨x2, x3, J6, x5⟩ := hf
    exact ⟨x2, x3, J6.ofTry ok0, x5⟩
end

/-! ### isinstance of what was caught -/
/-- what an own exception's class must be for isinstance -/
structure XiC (K : PySem.W.Frag) (C : Addr) : Prop where
  xf : XfC K C
  cls : (PySem.W.clsIn K C).isSome = true
  ca : PySem.W.findIn K (.ref C) "__class__" = some (some (.builtin "object.__class__"))
  cg : PySem.W.specialIn K (.builtin "object.__class__") "__get__" = some (some (.builtin "getset_descriptor.__get__"))
  ct : PySem.W.takesIn K (.builtin "object.__class__") = some true
  mr : PySem.W.mroIn K C (.type "object") = some true
theorem XiC.kit {K : PySem.W.Frag} {C : Addr} (T : XiC K C) {a : Addr} {oe : Obj} {od : Option Obj} : PySem.W.KitX K (.ref a) (.ref C) fun h => PySem.W.InstAt h a oe C od :=
  PySem.W.kitx_exc T.cls T.xf.ga T.xf.gg T.xf.exC T.ca T.cg T.ct T.mr
/-- isinstance(e, X) -/
def rIsX (K : PySem.W.Frag) (a : Addr) (k : Value) (d : Option Addr) : List V → Hp → VK → Prop := fun xs M Q => ∃ (c : V) (u : Value) (C dd : Addr) (fs : List (Str × V)) (b : Bool), xs = [.ref a, c] ∧ ClsV c u ∧ k = .ref C ∧ d = some dd ∧ M dd = some (.xd fs) ∧ XiC K C ∧ PySem.W.kitOne K (.ref C) u = some b ∧ Q (.bl b) M
/-- isinstance(e, (X, Y, ..)) -/
def rIsXT (K : PySem.W.Frag) (a : Addr) (k : Value) (d : Option Addr) : List V → Hp → VK → Prop := fun xs M Q => ∃ (tp : Addr) (cs : List V) (us : List Value) (C dd : Addr) (fs : List (Str × V)) (b : Bool), xs = [.ref a, .ref tp] ∧ M tp = some (.tup cs) ∧ Paired ClsV cs us ∧ k = .ref C ∧ d = some dd ∧ M dd = some (.xd fs) ∧ XiC K C ∧ PySem.W.kitAny K (.ref C) us = some b ∧ Q (.bl b) M
section
variable {X : Cx} {a : Addr} {oe : Obj} {k : Value} {d : Option Addr} {pn : List (Addr × Obj)}
theorem inst_at {pins : List (Addr × Obj)} {τ : L2.St} {M : Hp} {s : Shared} {C dd : Addr} {fs : List (Str × V)} (hz : Zc k d oe) (hf : ∃ vs, oe.data = .fields vs) (I : Inv (X.suite a ((a, oe) :: pn)) pins τ M s) (ek : k = .ref C) (ed : d = some dd) (hd : M dd = some (.xd fs)) : ∃ od, PySem.W.InstAt s.heap a oe C (some od) := by
  subst ek ed
  obtain ⟨ha, _⟩ := I.pin (a, oe) (List.mem_append_left _ (.head _))
  obtain ⟨vs, hv⟩ := hf
  obtain ⟨mA, hns, _⟩ := (show ObjOk X.prog X.w M s.heap dd (.xd fs) from I.hok dd _ hd)
  obtain ⟨od, ho, _⟩ := lookIn_ns hns
  exact ⟨od, ha, hz.1, by unfold PySem.W.notCls; rw [hv] <;> rfl, by rw [hz.2]; exact ho⟩
theorem call_isX (hz : Zc k d oe) (hf : ∃ vs, oe.data = .fields vs) : CallR (X.suite a ((a, oe) :: pn)) (.builtin "isinstance") (rIsX X.K a k d) := by
  intro pins s τ M xs us Q I r h
  obtain ⟨c, u, C, dd, fs, b, rfl, kc, ek, ed, hd, T, e, q⟩ := h
  obtain ⟨u1, u2, rfl, r1, r2⟩ := vals2 r
  obtain ⟨od, J⟩ := inst_at hz hf I ek ed hd
  have z := kc.eq r2
  subst z
  obtain rfl : u1 = Value.ref a := r1
  exact PySem.W.kia_one T.kit I.kIn J e (fun z => nomatch z) fun tk => ⟨.bl b, M, I.tok tk, rfl, q⟩
theorem call_isXT (hz : Zc k d oe) (hf : ∃ vs, oe.data = .fields vs) : CallR (X.suite a ((a, oe) :: pn)) (.builtin "isinstance") (rIsXT X.K a k d) := by
  intro pins s τ M xs us Q I r h
  obtain ⟨tp, cs, ws, C, dd, fs, b, rfl, hT, kc, ek, ed, hd, T, e, q⟩ := h
  obtain ⟨u1, u2, rfl, r1, r2⟩ := vals2 r
  obtain ⟨od, J⟩ := inst_at hz hf I ek ed hd
  obtain rfl : u1 = Value.ref a := r1
  obtain rfl : u2 = Value.ref tp := r2
  obtain ⟨_, its, rv, o, h1, h2, n, h3⟩ := (show ObjOk X.prog X.w M s.heap tp (.tup cs) from I.hok tp _ hT)
  have z := ClsV.all kc rv
  subst z
  obtain ⟨oc, oo, dt, sl⟩ := o
  simp only at h2 h3
  subst h2 h3
  exact PySem.W.kia_tup T.kit I.kIn J h1 e (fun z => nomatch z) fun tk => ⟨.bl b, M, I.tok tk, rfl, q⟩
end
end DL
namespace DL
open PySem PySem.Spec PyProof.Rows L2
open PySem.SeqAt AutoSeq1 MeetsSeq MeetsSeq2 MeetsSeq3 SeqRoads2

/-! ### != of two lists whose items are equal one by one, whatever they are -/
section
variable {prog : Program} {w : World}
theorem neT_loop (l m : Addr) (xs ys : Array Value) (n1 n2 : Nat) (d1 d2 : Option Addr) (s1 s2 : Array (Option Value)) (hsz : xs.size = ys.size) (k : Nat) :
    ∀ i : Nat, xs.size - i = k → MeetsIn prog w (Builtin.«list.__eq__.loop» ⟨[.ref l, .ref m, rawInt i, rawInt 3], []⟩)
      (fun A R t => t.heap.get? l = some ⟨.type "list", d1, .seq xs n1, s1⟩ ∧ t.heap.get? m = some ⟨.type "list", d2, .seq ys n2, s2⟩ ∧
        (∀ j (h1 : j < xs.size) (h2 : j < ys.size), EqIn prog w A.in1 t xs[j] ys[j] true) ∧ R (.ok (.ret (.bool false))) t) := by
  induction k with
  | zero =>
    intro i hk A R t h
    obtain ⟨hp, g, d, tk, os⟩ := t
    obtain ⟨hl, hm, he, h⟩ := h
    wp_walk using wpAny_loadPart' hl, wpAny_loadPart' hm
    have z1 : xs[((i : Nat) : Int).toNat]? = none := by simp; omega
    have z2 : ys[((i : Nat) : Int).toNat]? = none := by simp; omega
    rw [z1, z2]
    wp_walk using wpAny_loadPart' hl, wpAny_loadPart' hm
    show R (.ok (.ret (.bool (xs.size != ys.size)))) _
    rw [hsz]
    simpa using h
  | succ k ih =>
    intro i hk A R t h
    obtain ⟨hp, g, d, tk, os⟩ := t
    obtain ⟨hl, hm, he, h⟩ := h
    wp_walk using wpAny_loadPart' hl, wpAny_loadPart' hm
    have b1 : i < xs.size := by omega
    have b2 : i < ys.size := by omega
    have z1 : xs[((i : Nat) : Int).toNat]? = some xs[i] := by simp [b1]
    have z2 : ys[((i : Nat) : Int).toNat]? = some ys[i] := by simp [b2]
    have hc : ((i : Int) + 1) = ((i + 1 : Nat) : Int) := by push_cast; rfl
    rw [z1, z2]
    refine wpAny_bind (he i b1 b2 _ _ ?_)
    wp_walk
    rw [hc]
    exact ⟨plainId_quiet plain_eq_loop _, codeAny_builtin entry_eq_loop (by
      rw [Around.under_plainId plain_eq_loop _]
      exact ih (i + 1) (by omega) A R _ ⟨hl, hm, he, h⟩)⟩
theorem neT_list (l m : Addr) (xs ys : Array Value) (n1 n2 : Nat) (d1 d2 : Option Addr) (s1 s2 : Array (Option Value)) (hsz : xs.size = ys.size) :
    MeetsIn prog w (Builtin.«list.__ne__» ⟨[.ref l, .ref m], []⟩)
      (fun A R t => t.heap.get? l = some ⟨.type "list", d1, .seq xs n1, s1⟩ ∧ t.heap.get? m = some ⟨.type "list", d2, .seq ys n2, s2⟩ ∧
        (∀ j (h1 : j < xs.size) (h2 : j < ys.size), EqIn prog w A.in1 t xs[j] ys[j] true) ∧ R (.ok (.ret (.bool false))) t) := by
  intro A R t h
  obtain ⟨hp, g, d, tk, os⟩ := t
  obtain ⟨hl, hm, he, h⟩ := h
  have f3 := AutoSeq1.sub_list_list
  have hne : ¬ (xs.size != ys.size) = true := by simp [hsz]
  wp_walk using wpAny_loadPart' hl, wpAny_loadPart' hm
  exact ⟨plainId_quiet plain_eq_loop _, codeAny_builtin entry_eq_loop (by
    rw [Around.under_plainId plain_eq_loop _]
    exact neT_loop l m xs ys n1 n2 d1 d2 s1 s2 hsz _ 0 rfl A R _ ⟨hl, hm, he, h⟩)⟩
theorem neT_rc {A : Around} {E : Value → Shared → Prop} {t : Shared} {l m : Addr} {xs ys : Array Value} {Q : Value → Shared → Prop} (hl : t.heap.IsList l xs) (hm : t.heap.IsList m ys) (hsz : xs.size = ys.size) (hu : A.units < cLine)
    (he : ∀ j (h1 : j < xs.size) (h2 : j < ys.size), EqIn prog w A.in1 t xs[j] ys[j] true) (h : Q (.bool false) t) : wpAny (model prog w) A (richCompare .NotEq (.ref l) (.ref m)) Q E t := by
  obtain ⟨⟨c1, d1, t1, s1⟩, o1, e1, n1, f1⟩ := hl
  obtain ⟨⟨c2, d2, t2, s2⟩, o2, e2, n2, f2⟩ := hm
  simp only at e1 f1 e2 f2
  subst e1 f1 e2 f2
  refine wpAny_richCompare_same_room (T := "list") (op := .NotEq) ⟨_, o1, rfl⟩ ⟨_, o2, rfl⟩ F.slot_list_ne ?_ hu
  refine call_meetsIn F.slot_list_ne ⟨_, o1, rfl⟩ F.entry_list_ne (F.args_list_ne_2 _ _) (neT_list l m xs ys n1 n2 d1 d2 s1 s2 hsz) ⟨o1, o2, he, ?_⟩
  exact ⟨(fun z => nomatch z), h⟩
end

/-! ### list(d.items()), dicts compared, also such as are locked -/
section
variable {X : Cx}
def rItL : V → Hp → VK → Prop := fun x M Q => ∃ (d : Addr) (kvs : List (Key × V)), x = .ref d ∧ Rd M d (.dK kvs) ∧
  ∀ (M' : Hp) (p : Addr) (ts : List Addr), (∀ b o, M b = some o → M' b = some o) → M p = none → (∀ t ∈ ts, M t = none) → p ∉ ts → M' p = some (.lst (ts.map V.ref)) → Paired (fun (t : Addr) (q : Key × V) => M' t = some (.tup [kV q.1, q.2])) ts kvs → Q (.ref p) M'
/-- dicts of the same flat entries -/
def SameD (ks ls : List (Key × V)) : Prop := ks.length = ls.length ∧ ∀ p ∈ ks, valV ls p.1 = some p.2 ∧ flatB p.2 = true
def rEqDD : R2 := fun x y M Q => ∃ a b ks ls, x = .ref a ∧ y = .ref b ∧ Rd M a (.dK ks) ∧ Rd M b (.dK ls) ∧ SameD ks ls ∧ Q (.bl true) M
def rNeDD : R2 := fun x y M Q => ∃ a b ks ls, x = .ref a ∧ y = .ref b ∧ Rd M a (.dK ks) ∧ Rd M b (.dK ls) ∧ SameD ks ls ∧ Q (.bl false) M
theorem op_eqDD (hu : X.A.units < cLine) : OpR X (compareOp .Eq) rEqDD := by
  intro pins s τ M x y v u Q I rx ry h
  obtain ⟨a, b, ks, ls, rfl, rfl, ea, eb, ⟨hl, hp⟩, q⟩ := h
  obtain rfl : v = Value.ref a := rx
  obtain rfl : u = Value.ref b := ry
  obtain ⟨_, ya, va, ra, da⟩ := dk_rd I.hok ea
  obtain ⟨_, yb, vb, rb, db⟩ := dk_rd I.hok eb
  have z1 := ra.length
  have z2 := rb.length
  exact PySem.W.keq_eq (r := true) ya yb da db hu (fun _ => hits_all rb ra hp) (fin_bl I q (by simp; omega))
theorem op_neDD (hu : X.A.units < cLine) : OpR X (compareOp .NotEq) rNeDD := by
  intro pins s τ M x y v u Q I rx ry h
  obtain ⟨a, b, ks, ls, rfl, rfl, ea, eb, ⟨hl, hp⟩, q⟩ := h
  obtain rfl : v = Value.ref a := rx
  obtain rfl : u = Value.ref b := ry
  obtain ⟨_, ya, va, ra, da⟩ := dk_rd I.hok ea
  obtain ⟨_, yb, vb, rb, db⟩ := dk_rd I.hok eb
  have z1 := ra.length
  have z2 := rb.length
  exact PySem.W.keq_ne (r := true) ya yb da db hu (fun _ => hits_all rb ra hp) (fin_bl I q (by simp; omega))
/-- lists of dicts, equal one by one -/
def rNeLD (K : PySem.W.Frag) : R2 := fun x y M Q => ∃ (l m : Addr) (as bs : List Addr), x = .ref l ∧ y = .ref m ∧ SqL K M l (as.map V.ref) ∧ SqL K M m (bs.map V.ref) ∧ as.length = bs.length ∧
  (∀ (j : Nat) (a b : Addr), as[j]? = some a → bs[j]? = some b → ∃ ks ls, Rd M a (.dK ks) ∧ Rd M b (.dK ls) ∧ SameD ks ls) ∧ Q (.bl false) M
theorem vals_refs_inv : ∀ {as : List Addr} {us : List Value}, Vals (as.map V.ref) us → us = as.map Value.ref
  | [], _, h => by cases h; rfl
  | a :: as, _, h => by
    cases h with
    | cons r t =>
      rw [vals_refs_inv t]
      obtain rfl : _ = Value.ref a := r
      rfl
theorem dict_eqIn {A : Around} {t : Shared} {M : Hp} {a b : Addr} {ks ls : List (Key × V)} (ok : HOk X.prog X.w M t.heap) (ea : Rd M a (.dK ks)) (eb : Rd M b (.dK ls)) (hs : SameD ks ls) (hu : A.units < cLine) : EqIn X.prog X.w A t (.ref a) (.ref b) true := by
  obtain ⟨hl, hp⟩ := hs
  by_cases hab : a = b
  · subst hab
    exact (PySem.SeqAt.EqAt.same _).inModel X.prog X.w
  · obtain ⟨_, ya, va, ra, da⟩ := dk_rd ok ea
    obtain ⟨_, yb, vb, rb, db⟩ := dk_rd ok eb
    have z1 := ra.length
    have z2 := rb.length
    have z3 : (va.length == vb.length && true) = true := by simp; omega
    exact EqIn.of_refs hab fun E Q hq => PySem.W.keq_eq (r := true) ya yb da db hu (fun _ => hits_all rb ra hp) (by rw [z3]; exact hq)
theorem op_neLD (hu : X.A.units + 65 < cLine) : OpR X (compareOp .NotEq) (rNeLD X.K) := by
  intro pins s τ M x y v u Q I rx ry h
  obtain ⟨l, m, as, bs, rfl, rfl, hl, hm, hlen, hall, q⟩ := h
  obtain rfl : v = Value.ref l := rx
  obtain rfl : u = Value.ref m := ry
  obtain ⟨is, rv, ⟨o1, n1, g1, c1, _, t1⟩, _⟩ := I.list hl
  obtain ⟨js, rw', ⟨o2, n2, g2, c2, _, t2⟩, _⟩ := I.list hm
  have e1 := vals_refs_inv rv
  have e2 := vals_refs_inv rw'
  subst e1 e2
  refine neT_rc (xs := (as.map Value.ref).toArray) (ys := (bs.map Value.ref).toArray) ⟨o1, g1, c1, n1, t1⟩ ⟨o2, g2, c2, n2, t2⟩ (by simp [hlen]) (by omega) (fun j h1 h2 => ?_) ⟨.bl false, M, I, rfl, q⟩
  have b1 : j < as.length := by simpa using h1
  have b2 : j < bs.length := by simpa using h2
  obtain ⟨ks, ls, k1, k2, k3⟩ := hall j as[j] bs[j] (List.getElem?_eq_getElem b1) (List.getElem?_eq_getElem b2)
  have r := dict_eqIn (A := X.A.in1) (t := s) I.hok k1 k2 k3 (by show X.A.units + 1 < cLine; omega)
  simpa using r
end
end DL
namespace DL
open PySem L2
open Evl (Ex)

theorem units1 {k : Nat} {A : Around} (r : Room k A) : A.units + 1 < cLine := by
  have := r.units
  omega
/-! ### list.pop(i) -/
section
variable {K : PySem.W.Frag} {F : Fr} {ρ : Sls} {P : Sls → D → Prop} {te td ta : TE} {O : Out}
theorem wE_popAt {i : Nat} (h0 : ∃ (l : Kd) (ds : List D), ρ[i]? = some (.ow l ds)) (h : wE K F te ρ fun ρ1 x => ∃ (l : Kd) (ds : List D) (j : Nat) (d : D), ρ1[i]? = some (.ow l ds) ∧ x = .int (j : Int) ∧ (j : Int) < 2 ^ 63 ∧ ds[j]? = some d ∧ P (ρ1.set i (.ow l (ds.eraseIdx j))) d) :
    wE K F (tBM K "list" rPopAt (tVar i) (tCons te tNil)) ρ P := fun σ G H S Q q => by
  obtain ⟨l0, ds0, h0⟩ := h0
  obtain ⟨p, vs0, hp, _, hh0, _⟩ := S.ow h0
  refine ⟨.ref p, hp, .inl ⟨rfl, vs0, SqL.of hh0⟩, h σ G H S _ fun v x ρ1 G1 H1 h1 S1 r1 e1 => ?_⟩
  obtain ⟨l, ds, j, d, hi, rfl, hj, hd, pp⟩ := h1
  cases r1
  obtain ⟨p', vs, e', hg, hh, hr⟩ := S1.ow hi
  rw [hp] at e'
  cases e'
  obtain ⟨y, hy, ry⟩ := hr.get hd
  have hlt := (List.getElem?_eq_some_iff.mp hy).1
  refine ⟨p, vs, _, j, y, rfl, rfl, hh, by omega, hj, ?_, hy, q y d _ G1 _ pp (S1.mut hi hp ?_) ry e1⟩
  · unfold seqIndex?
    have n0 : ¬ ((j : Int) < 0) := by omega
    simp only [n0, if_false]
    rw [if_pos (by simp; omega), Int.toNat_natCast]
  · have z : ∀ {us : List V} {es : List D} (n : Nat), RepL K G1 us es → RepL K G1 (us.eraseIdx n) (es.eraseIdx n) := by
      intro us es n r
      induction n generalizing us es with
      | zero =>
        cases r with
        | nil => exact .nil
        | cons _ t => exact t
      | succ n ih =>
        cases r with
        | nil => exact .nil
        | cons a t => exact .cons a (ih t)
    exact z j hr

/-! ### more heap, the same state -/
theorem SRel.more {G H H' : Hp} {σ : St} (S : SRel K F G H σ ρ) (e : Ex H H') : SRel K F G H' σ ρ :=
  ⟨⟨S.fr.ex.trans e, S.fr.old, fun a o h np => e a o (S.fr.kp a o h np), fun a o h => by
    obtain ⟨o', q, n⟩ := S.fr.th a o h
    exact ⟨o', e a o' q, n⟩, fun a nm m t => (S.fr.tb a nm m t).ext e, S.fr.gt⟩, S.len, fun i s o h1 h2 => (S.sl i s o h1 h2).up (Ex.refl G) (fun p h _ => h) (fun p o q _ _ => e p o q), S.dis, S.own, S.disD, S.ownD⟩
theorem SRel.freezes {G H H' : Hp} {σ : St} (S : SRel K F G H σ ρ) (e : Ex H H') {p : Addr} (hp : G p = none) : ∀ (ts : List Addr), (∀ t ∈ ts, H t = none ∧ t ≠ p ∧ ∃ o, H' t = some o ∧ ∀ ps, o ≠ .tbl ps) → ∃ G', SRel K F G' H' σ ρ ∧ Ex G G' ∧ (∀ t ∈ ts, G' t = H' t) ∧ G' p = none
  | [], _ => ⟨G, S.more e, Ex.refl G, fun _ h => (nomatch h), hp⟩
  | t :: ts, h => by
    obtain ⟨G1, S1, e1, h1, p1⟩ := SRel.freezes S e hp ts fun u hu => h u (.tail _ hu)
    obtain ⟨k1, k2, o, k3, k4⟩ := h t (.head _)
    cases c : G1 t with
    | some u =>
      refine ⟨G1, S1, e1, fun v hv => ?_, p1⟩
      cases hv with
      | head => rw [c, S1.ex t u c]
      | tail _ hv => exact h1 v hv
    | none =>
      have S2 := S1.freeze (p := t) (o := o) c k3 (S.fr.fresh k1) (fun i l ds hi hz => by
        obtain ⟨q, vs, z1, _⟩ := S.ow hi
        obtain ⟨_, _, z3⟩ := S.ow hi
        obtain ⟨q', vs', y1, y2, y3, _⟩ := S.ow hi
        rw [hz] at y1
        cases y1
        rw [k1] at y3
        cases y3) (fun i l ds hi hz => by
        obtain ⟨q', vs', y1, y2, y3, _⟩ := S.od hi
        rw [hz] at y1
        cases y1
        rw [k1] at y3
        cases y3) k4
      refine ⟨upd G1 t o, S2, e1.trans (Ex.new c), fun v hv => ?_, by rw [upd_ne k2.symm]; exact p1⟩
      by_cases hvt : v = t
      · rw [hvt, upd_same, k3]
      · rw [upd_ne hvt]
        cases hv with
        | head => exact absurd rfl hvt
        | tail _ hv => exact h1 v hv
end
/-! ### list(d.items()) -/
def tLi (te : TE) : TE := fun σ H Q => te σ H fun x H1 => rItL x H1 Q
section
open PySem.Spec PyProof.Rows
variable {X : Cx} {e : Expr} {te : TE} {p apos cpos pos : Pos}
theorem pe_itemsL (hc : X.calm = true) (he : PE X e te) (hg : Gl X "list") (hm : X.mg "list" = none) (hv : bootBuiltins "list" = some (.type "list")) (hbase : attributeBase e "items" X.env (eval e X.env) = eval e X.env := by rfl) (hline : (apos.endLine == cpos.line) = true := by rfl)
    (hs : starEach [.Call (.Attribute e "items" apos) [] [] cpos] X.env = (false, eval (.Call (.Attribute e "items" apos) [] [] cpos) X.env) :: starEach [] X.env := by rfl) :
    PE X (.Call (.Name "list" p) [.Call (.Attribute e "items" apos) [] [] cpos] [] pos) (tLi te) := by
  constructor
  intro pins t τ M Q I0 hq
  apply wpAny_Call_Name_kw
  refine ld_blt I0 hg hm hv ?_
  refine PyProof.Rows.callWith_type1 ?_ hs rfl
  rw [hs]
  show wpAny _ _ (spliced ((false, eval (.Call (.Attribute e "items" apos) [] [] cpos) X.env) :: backTo pos (starEach [] X.env))) _ _ t
  apply Calls.spliced_cons
  refine wpAny_Call_method (T := "dict") (id := "dict.items") hbase rfl hline F.plainAttrs_dict F.slot_dict_items F.type_dict_items (thn (he.run pins t τ M _ I0 hq) fun u t1 hh => ?_)
  obtain ⟨x, M1, I1, rx, d, kvs, ex, hd, q⟩ := hh
  subst ex
  obtain rfl : u = Value.ref d := rx
  obtain ⟨hz, y0, vs, kv, dd⟩ := dk_rd I1.hok hd
  obtain ⟨ep, hat⟩ := dd.dictAt
  have lk : kvs.length = vs.length := Paired.length kv
  have I2 : Inv X pins τ M1 { t1 with heap := t1.heap.push ⟨.type "dict_items", none, .fields #[.ref d], #[]⟩ } := I1.kept (t' := t1.toks) fun b ob z => Heap.get?_push_of_some _ z
  refine ⟨dd.typeIs, dd.mapOf.noDict, ?_⟩
  show wpAny _ _ (callWith cpos (.builtin "dict.items") [.ref d] [] []) _ X.xe t1
  refine method_meetsIn F.slot_dict_items F.entry_dict_items rfl (PySem.evalArgs_none ⟨rfl, dd.typeIs, F.args_dict_items_1 _, _, meets_dict_items (mixKind X.prog X.w) d y0, ⟨vs, dd⟩, ?_⟩)
  apply Calls.spliced_nil
  refine PySem.W.kdx_call (knd := mixKind X.prog X.w) (kvs := vs) (ep := ep) (I1.ok.hd hc) ⟨_, Heap.get?_push_size _ rfl, rfl, rfl⟩ (hat.push _) (by omega) fun h' tk acc c as hk hS hl hG hacc => ?_
  obtain ⟨M', k1, k2, k3, k4, k5, k6, J⟩ := LiI.items_laid (tk := tk) I2 hz kv hk hS hl hG hacc
  exact ⟨.ref _, M', J, rfl, q M' _ as k1 k2 k3 k4 k5 k6⟩
end
section
variable {K : PySem.W.Frag} {F : Fr} {ρ : Sls} {P : Sls → D → Prop} {PO : Sls → List D → Prop} {te td ta : TE} {O : Out} {x y : D}
theorem repL_items {G : Hp} {vs : List (Key × V)} {ds : List (Key × D)} {ts : List Addr} (hr : RepK K G vs ds) (hp : Paired (fun (t : Addr) (q : Key × V) => G t = some (.tup [kV q.1, q.2])) ts vs) : RepL K G (ts.map V.ref) (itemsD ds) := by
  induction hp generalizing ds with
  | nil => cases hr; exact .nil
  | cons h t ih =>
    cases hr with
    | cons r rr => exact .cons (.tup (SqT.of h) (.cons (Rep.kD _) (.cons r .nil))) (ih rr)
theorem paired_mem {α β : Type} {R R' : α → β → Prop} {l : List α} {m : List β} (h : Paired R l m) : (∀ a ∈ l, ∀ b, R a b → R' a b) → Paired R' l m := by
  induction h with
  | nil => exact fun _ => .nil
  | cons h t ih => exact fun f => .cons (f _ List.mem_cons_self _ h) (ih fun a ha b => f a (List.mem_cons_of_mem _ ha) b)
theorem paired_left {α β : Type} {R : α → β → Prop} {l : List α} {m : List β} (h : Paired R l m) : ∀ a ∈ l, ∃ b, R a b := by
  induction h with
  | nil => exact fun a ha => (nomatch ha)
  | cons h t ih =>
    intro a ha
    rcases List.mem_cons.mp ha with z | z
    · exact ⟨_, z ▸ h⟩
    · exact ih a z
theorem wO_itemsL (h : wE K F te ρ fun ρ1 x => ∃ ds, x = .dkv ds ∧ PO ρ1 (itemsD ds)) : wO K F (tLi te) ρ PO := fun σ G H S Q q =>
  h σ G H S _ fun v x ρ1 G1 H1 h1 S1 r1 e1 => by
    obtain ⟨ds, rfl, p⟩ := h1
    cases r1 with
    | dkv ha hr =>
      rename_i a o vs
      refine ⟨a, vs, rfl, .inr ⟨o, S1.ex _ _ ha⟩, fun H' l ts k1 k2 k3 k4 k5 k6 => ?_⟩
      obtain ⟨G2, S2, e2, h2, p2⟩ := S1.freezes (H' := H') k1 (S1.fr.freshG k2) ts fun t ht => ⟨k3 t ht, fun z => k4 (z ▸ ht), by
        obtain ⟨b, hb⟩ := paired_left k6 t ht
        exact ⟨_, hb, fun _ z => nomatch z⟩⟩
      refine q l _ _ ρ1 G2 H' p S2 ⟨p2, k5, repL_items (hr.up e2) (paired_mem k6 fun t ht b hb => by rw [h2 t ht]; exact hb), S1.fr.fresh k2, fun i m es hi hz => ?_⟩ (e1.trans e2)
      obtain ⟨q', us, y1, y2, y3, _⟩ := S1.ow hi
      rw [hz] at y1
      cases y1
      rw [k2] at y3
      cases y3
/-! ### dicts compared -/
def SameKD (ds es : List (Key × D)) : Prop := ds.length = es.length ∧ ∀ p ∈ ds, atKD es p.1 = some p.2 ∧ flatD p.2 = true
theorem flatB_valD {d : D} (h : flatD d = true) : flatB (valD d) = true := by cases d <;> first | rfl | cases h
theorem SameKD.v {G G' : Hp} : ∀ {vs ws : List (Key × V)} {ds es : List (Key × D)}, RepK K G vs ds → RepK K G' ws es → SameKD ds es → SameD vs ws := fun {vs ws ds es} r r' ⟨hl, h⟩ => by
  refine ⟨by rw [r.len, r'.len]; exact hl, ?_⟩
  have key : ∀ {us : List (Key × V)} {fs : List (Key × D)}, RepK K G us fs → (∀ p ∈ fs, atKD es p.1 = some p.2 ∧ flatD p.2 = true) → ∀ p ∈ us, valV ws p.1 = some p.2 ∧ flatB p.2 = true := by
    intro us fs ru
    induction us generalizing fs with
    | nil => intro _ p hp; exact (nomatch hp)
    | cons u us ih =>
      intro hf p hp
      cases ru with
      | cons r0 t =>
        cases hp with
        | head =>
          obtain ⟨z1, z2⟩ := hf _ (.head _)
          obtain ⟨v, hv, rv⟩ := r'.atSome z1
          obtain ⟨y1, _⟩ := r0.flat z2
          obtain ⟨y2, _⟩ := rv.flat z2
          refine ⟨?_, ?_⟩
          · rw [hv, y1, y2]
          · rw [y1]
            exact flatB_valD z2
        | tail _ hp => exact ih t (fun q hq => hf q (.tail _ hq)) p hp
  exact key r h
theorem wR_eqDD {ds es : List (Key × D)} (h : SameKD ds es) (p : P ρ (.bl true)) : wR K F rEqDD (.dkv ds) (.dkv es) ρ P := fun σ G H vx vy S rx ry Q q => by
  cases rx with
  | dkv h1 h2 =>
    cases ry with
    | dkv h3 h4 => exact ⟨_, _, _, _, rfl, rfl, .inr ⟨_, S.ex _ _ h1⟩, .inr ⟨_, S.ex _ _ h3⟩, h.v h2 h4, q _ _ ρ G H p S (.bl _) (Ex.refl G)⟩
theorem wR_neDD {ds es : List (Key × D)} (h : SameKD ds es) (p : P ρ (.bl false)) : wR K F rNeDD (.dkv ds) (.dkv es) ρ P := fun σ G H vx vy S rx ry Q q => by
  cases rx with
  | dkv h1 h2 =>
    cases ry with
    | dkv h3 h4 => exact ⟨_, _, _, _, rfl, rfl, .inr ⟨_, S.ex _ _ h1⟩, .inr ⟨_, S.ex _ _ h3⟩, h.v h2 h4, q _ _ ρ G H p S (.bl _) (Ex.refl G)⟩
theorem RepL.dks {G : Hp} : ∀ {vs : List V} {dss : List (List (Key × D))}, RepL K G vs (dss.map D.dkv) → ∃ as : List Addr, vs = as.map V.ref ∧ as.length = dss.length ∧ ∀ (j : Nat) (a : Addr), as[j]? = some a → ∃ o ks ds, dss[j]? = some ds ∧ G a = some (.frz o (.dK ks)) ∧ RepK K G ks ds
  | _, [], h => by cases h; exact ⟨[], rfl, rfl, fun j a z => by simp at z⟩
  | _, ds :: dss, h => by
    cases h with
    | cons r t =>
      obtain ⟨as, e, hl, ha⟩ := RepL.dks t
      cases r with
      | dkv h1 h2 =>
        rename_i a o ks
        refine ⟨a :: as, by rw [e]; rfl, by rw [List.length_cons, List.length_cons, hl], fun j b hb => ?_⟩
        cases j with
        | zero => simp at hb; subst hb; exact ⟨o, ks, ds, rfl, h1, h2⟩
        | succ j => exact ha j b (by simpa using hb)
theorem wR_neLD {dss ess : List (List (Key × D))} (hl : dss.length = ess.length) (h : ∀ (j : Nat) (ds es : List (Key × D)), dss[j]? = some ds → ess[j]? = some es → SameKD ds es) (p : P ρ (.bl false)) : wR K F (rNeLD K) (.lst (dss.map D.dkv)) (.lst (ess.map D.dkv)) ρ P := fun σ G H vx vy S rx ry Q q => by
  cases rx with
  | lst h1 h2 =>
    cases ry with
    | lst h3 h4 =>
      obtain ⟨as, rfl, la, ha⟩ := h2.dks
      obtain ⟨bs, rfl, lb, hb⟩ := h4.dks
      refine ⟨_, _, as, bs, rfl, rfl, SqL.of (S.ex _ _ h1), SqL.of (S.ex _ _ h3), by omega, fun j a b ja jb => ?_, q _ _ ρ G H p S (.bl _) (Ex.refl G)⟩
      obtain ⟨o1, ks, ds, z1, z2, z3⟩ := ha j a ja
      obtain ⟨o2, ls, es, y1, y2, y3⟩ := hb j b jb
      exact ⟨ks, ls, .inr ⟨o1, S.ex _ _ z2⟩, .inr ⟨o2, S.ex _ _ y2⟩, (h j ds es z1 y1).v z3 y3⟩
/-! ### try -/
def tTryC (K : PySem.W.Frag) (l : List Cl) (tl : TS) (tb : WX → TS) : TS := fun E τ M => tb (wCls K (fun _ _ _ _ => False) E l) { E with nx := tl E } τ M
theorem ps_tryK {X : Cx} {body els : List Stmt} {hd : ExceptHandler} {hds : List ExceptHandler} {l : List Cl} {pos : Pos} {tb : WX → TS} {tl : TS} (e1 : X.stack = X.env :: X.outer) (e2 : X.env.frame = some X.env.locals) (hN : X.N.Nodup)
    (hb : ∀ (W : WX) (pn : List (Addr × Obj)) (xe : Value → Shared → Prop), Takes (X.tr pn xe) W → PassesOwn (model X.prog X.w) X.A X.env xe → PSs (X.tr pn xe) body (tb W))
    (hh : ClsOk X (hd :: hds) l) (ho : PSs X els tl) : PS X (.Try body (hd :: hds) els [] pos) (tTryC X.K l tl tb) :=
  ps_tryC e1 e2 hN (fun _ _ z => (xe_no z).elim) hb hh ho
def HandOk (K : PySem.W.Frag) (F : Fr) (O : Out) (C : Addr) (fs : List (Str × D)) (ρ : Sls) : List Cl → Prop
  | [] => False
  | (c, oi, ts) :: r => ∃ b, PySem.W.exmOne K (.ref C) c = some b ∧ (b = false → HandOk K F O C fs ρ r) ∧ (b = true → match oi with
      | none => ∀ a d, wS K F (ts a (.ref C) (some d)) ρ O
      | some i => i < ρ.length ∧ ∀ a d, wS K F (ts a (.ref C) (some d)) (ρ.set i (.fz (.exc a d C fs))) { nx := fun ρ2 => O.nx (ρ2.set i .un), rt := O.rt, ro := O.ro, bk := fun ρ2 => O.bk (ρ2.set i .un), ct := fun ρ2 => O.ct (ρ2.set i .un) })
theorem wS_try {l : List Cl} {tl : TS} {tb : WX → TS} (h : wX K F tb ρ { O with nx := fun ρ1 => wS K F tl ρ1 O } fun ρ' C fs => HandOk K F O C fs ρ' l) : wS K F (tTryC K l tl tb) ρ O := fun σ G H S D1 k =>
  h σ G H S { D1 with nx := tl D1 } ⟨fun ρ1 σ1 G1 H1 h1 S1 e1 => h1 σ1 G1 H1 S1 D1 (k.from e1), k.rt, k.ro, k.bk, k.ct⟩ _ fun ρ' C fs σ' G' H' d fvs hX S' ex hd rf n1 n2 => by
    have go : ∀ l' : List Cl, HandOk K F O C fs ρ' l' → wCls K (fun _ _ _ _ => False) D1 l' (.ref C) (some d) σ' H' := by
      intro l'
      induction l' with
      | nil => intro z; exact z.elim
      | cons x r ih =>
        obtain ⟨c, oi, ts⟩ := x
        intro z
        obtain ⟨b, z1, z2, z3⟩ := z
        refine ⟨b, z1, fun hb => ih (z2 hb), fun hb a ha => ?_⟩
        have z4 := z3 hb
        cases oi with
        | none => exact z4 a d σ' G' H' S' D1 (k.from ex)
        | some i =>
          obtain ⟨hi, z5⟩ := z4
          have hno : ∀ (i : Nat) (l : Kd) (ds : List D), ρ'[i]? = some (.ow l ds) → σ'[i]? ≠ some (some (.ref d)) := fun i l ds hi hz => by
            obtain ⟨q', us, y1, y2, y3, _⟩ := S'.ow hi
            rw [hz] at y1
            cases y1
            rw [hd] at y3
            cases y3
          have S2 := S'.freeze n2 hd n1 hno (S'.nd fun vs z => by rw [hd] at z; cases z)
          have e2 : Ex G' (upd G' d (.xd fvs)) := Ex.new n2
          have S3 := S2.set (i := i) (v := .ref a) (d := .exc a d C fs) (.exc upd_same (rf.up e2))
          have e3 := ex.trans e2
          refine z5 a d _ _ H' S3 (EndsU D1 i) ⟨fun ρ2 σ2 G3 H3 h3 S4 e4 => ?_, fun ρ2 σ2 G3 H3 v x h3 S4 e4 rr => k.rt ρ2 σ2 G3 H3 v x h3 S4 (e3.trans e4) rr, fun ρ2 σ2 G3 H3 p vs ds h3 S4 e4 => k.ro ρ2 σ2 G3 H3 p vs ds h3 S4 (e3.trans e4), fun ρ2 σ2 G3 H3 h3 S4 e4 => ?_, fun ρ2 σ2 G3 H3 h3 S4 e4 => ?_⟩
          · exact k.nx _ _ G3 H3 h3 (S4.wipe1 i none) (e3.trans e4)
          · exact k.bk _ _ G3 H3 h3 (S4.wipe1 i none) (e3.trans e4)
          · exact k.ct _ _ G3 H3 h3 (S4.wipe1 i none) (e3.trans e4)
    exact go l hX
/-- e.f of what was caught -/
theorem wE_xf {i : Nat} {a d C : Addr} {f : Str} {fs : List (Str × D)} (h : ρ[i]? = some (.fz (.exc a d C fs))) (hl : fs.lookup f = some x) (p : P ρ x) : wE K F (tXf a (.ref C) (some d) C f (tVar i)) ρ P := fun σ G H S Q q => by
  obtain ⟨v, e, r⟩ := S.fz h
  cases r with
  | exc h1 h2 =>
    obtain ⟨u, hu, ru⟩ := h2.look hl
    exact ⟨.ref a, e, rfl, rfl, d, _, u, rfl, S.ex _ _ h1, hu, q u x ρ G H p S ru (Ex.refl G)⟩
theorem wC_isX {a d C B : Addr} {fs : List (Str × D)} {b : Bool} (T : XiC K C) (hb : PySem.W.kitOne K (.ref C) (.ref B) = some b) (p : P ρ (.bl b)) : wC K F (rIsX K a (.ref C) (some d)) [.exc a d C fs, .adr B] ρ P := fun σ G H vs S rs Q q => by
  cases rs with
  | cons r1 rr =>
    cases rr with
    | cons r2 rr =>
      cases rr
      cases r2
      cases r1 with
      | exc h1 h2 => exact ⟨.ref B, .ref B, C, d, _, b, rfl, .own B, rfl, rfl, S.ex _ _ h1, T, hb, q _ _ ρ G H p S (.bl _) (Ex.refl G)⟩
end
end DL
namespace DL
open PySem L2
open Evl (Ex)
/-! ### enumerate -/
section
variable {K : PySem.W.Frag} {F : Fr} {ρ : Sls} {ta : TA} {O : Out} {g : TG} {tb : TS}
def enumD (ds : List D) : List D := ds.mapIdx fun i d => .tup [.int (i : Nat), d]
theorem walks_enum {G : Hp} {a : Addr} {vs : List V} {ds : List D} (ha : G a = some (.lst vs)) (hr : RepL K G vs ds) : Walks K (Ite K a) G (enumD ds) := by
  have hl : (enumD ds).length = vs.length := by unfold enumD; rw [List.length_mapIdx, hr.length]
  refine ⟨fun G' H e e' => ⟨vs, SqL.of (e' _ _ (e _ _ ha)), by rw [hl]; exact Nat.le_refl _⟩, fun i G' H e e' h => ?_, fun i d x F σ ρ G' H H' hd S e h => ?_⟩
  · have hlt : i < vs.length := by rw [← hl]; exact h
    exact ⟨vs, vs[i], SqL.of (e' _ _ (e _ _ ha)), List.getElem?_eq_getElem hlt⟩
  · obtain ⟨T, u, rfl, hT, rfl, hu⟩ := h
    have hx := hu vs (SqL.of (S.ex _ _ (e _ _ ha)))
    obtain ⟨d', hd', rd⟩ := hr.getV hx
    have e2 : d = .tup [.int (i : Nat), d'] := by
      unfold enumD at hd
      rw [List.getElem?_mapIdx, hd'] at hd
      exact (Option.some.inj hd).symm
    subst e2
    have ex : Ex G' (upd G' T (.tup [.int (i : Nat), u])) := Ex.new (S.fr.freshG hT)
    exact ⟨_, S.new hT, ex, .tup (SqT.of upd_same) (.cons (.int _) (.cons (rd.up (e.trans ex)) .nil))⟩
theorem wS_forEnum (h : wA K F ta ρ fun ρ1 xs => ∃ ds, xs = [.lst ds] ∧ forS K F g tb O (enumD ds) ρ1) : wS K F (tFor (iEnum K ta) g tb) ρ O := fun σ G H S D1 k =>
  h σ G H S _ fun us xs ρ1 G1 H1 h1 S1 r1 e1 => by
    obtain ⟨ds, rfl, f⟩ := h1
    cases r1 with
    | cons r rr =>
      cases rr
      cases r with
      | lst ha hr =>
        rename_i a vs
        exact ⟨a, vs, rfl, SqL.of (S1.ex _ _ ha), for_walk k e1 (walks_enum ha hr) S1 f⟩
end
end DL
namespace DL
open PySem L2
open Evl (Ex)
section
variable {K : PySem.W.Frag} {F : Fr} {ρ : Sls} {P : Sls → D → Prop}
theorem wE_lenO {i : Nat} {l : Kd} {ds : List D} (h : ρ[i]? = some (.ow l ds)) (p : P ρ (.int (ds.length : Nat))) : wE K F (tCB (fun xs H Q => ∃ x n, xs = [x] ∧ LenV K x H n ∧ Q (.int n) H) (tCons (tVar i) tNil)) ρ P := fun σ G H S Q q => by
  obtain ⟨a, vs, e, hg, hh, hr⟩ := S.ow h
  refine ⟨.ref a, e, .ref a, ds.length, rfl, .inl ⟨_, SqL.of hh, hr.length.symm⟩, q _ _ ρ G H p S (.int _) (Ex.refl G)⟩
/-- a short text some few times -/
theorem wR_repFew {z : Str} {k : Int} (h0 : 0 ≤ k) (h1 : k ≤ 3) (hz : z.length = 1) (p : ∀ u : Str, u.length ≤ 3 → ((∀ c ∈ u.cps.toList, c ∈ z.cps.toList)) → P ρ (.str u)) : wR K F rRep1 (.str z) (.int k) ρ P := by
  by_cases hk : k = 0 ∨ k = 1
  · refine wR_rep1 hk ?_
    rcases hk with rfl | rfl
    · exact p _ (by show (Str.empty).length ≤ 3; decide) fun c hc => by
        have e : (if (0 : Int) = 1 then z else Str.empty) = Str.empty := rfl
        rw [e] at hc
        exact absurd hc (by show ¬ c ∈ (Str.empty).cps.toList; simp [Str.empty])
    · exact p z (by omega) fun c hc => hc
  · intro σ G H vx vy S rx ry Q q
    have h2 : 2 ≤ k := by omega
    have hc : (repS z k.toNat).length ≤ 3 ∧ ∀ c ∈ (repS z k.toNat).cps.toList, c ∈ z.cps.toList := by
      have : k = 2 ∨ k = 3 := by omega
      have hzs : z.cps.size = 1 := hz
      rcases this with rfl | rfl
      · have e : (repS z (2 : Int).toNat).cps = (#[] ++ z.cps) ++ z.cps := rfl
        refine ⟨?_, fun c hc => ?_⟩
        · show (repS z (2 : Int).toNat).cps.size ≤ 3
          rw [e]; simp [hzs]
        · rw [e] at hc; simpa using hc
      · have e : (repS z (3 : Int).toNat).cps = ((#[] ++ z.cps) ++ z.cps) ++ z.cps := rfl
        refine ⟨?_, fun c hc => ?_⟩
        · show (repS z (3 : Int).toNat).cps.size ≤ 3
          rw [e]; simp [hzs]
        · rw [e] at hc; simpa using hc
    have := wR_repS (K := K) (F := F) (ρ := ρ) (P := P) (z := z) (k := k) h2 (by omega) (by omega) (by rw [hz]; omega) (by omega) (p _ hc.1 hc.2)
    exact .inl (this σ G H vx vy S rx ry Q q)
end
end DL
namespace DL
open PySem L2
open Evl (Ex)
section
variable {K : PySem.W.Frag} {F : Fr} {ρ : Sls} {P : Sls → D → Prop} {te td ta : TE} {tar : TA} {O : Out}
/-! ### f-strings -/
theorem wE_fmt (h : wE K F te ρ fun ρ1 x => ∃ s : Str, x = .str s ∧ s.length ≤ sizeLine ∧ P ρ1 (.str s)) : wE K F (tFmt te) ρ P := fun σ G H S Q q =>
  h σ G H S _ fun v x ρ1 G1 H1 h1 S1 r1 e1 => by
    obtain ⟨s, rfl, hl, p⟩ := h1
    cases r1
    exact .inl ⟨s, rfl, hl, q _ _ ρ1 G1 H1 p S1 (.str s) e1⟩
def wJ (K : PySem.W.Frag) (F : Fr) : List TE → Str → Sls → (Sls → D → Prop) → Prop
  | [], acc, ρ, P => P ρ (.str acc)
  | t :: ts, acc, ρ, P => wE K F t ρ fun ρ1 x => ∃ y : Str, x = .str y ∧ (acc ++ y).length ≤ sizeLine ∧ wJ K F ts (acc ++ y) ρ1 P
theorem wJ_run : ∀ (ts : List TE) (acc : Str) (ρ : Sls) (P : Sls → D → Prop), wJ K F ts acc ρ P → wE K F (fun σ H Q => tJs ts acc σ H fun out H1 => Q (.str out) H1) ρ P
  | [], acc, ρ, P, h => fun σ G H S Q q => q _ _ ρ G H h S (.str acc) (Ex.refl G)
  | t :: ts, acc, ρ, P, h => fun σ G H S Q q =>
    h σ G H S _ fun v x ρ1 G1 H1 h1 S1 r1 e1 => by
      obtain ⟨y, rfl, hl, h2⟩ := h1
      cases r1
      exact ⟨y, rfl, hl, wJ_run ts _ ρ1 P h2 σ G1 H1 S1 _ fun v2 x2 ρ2 G2 H2 h3 S2 r2 e2 => q v2 x2 ρ2 G2 H2 h3 S2 r2 (e1.trans e2)⟩
theorem wE_joined {ts : List TE} (h : wJ K F ts Str.empty ρ P) : wE K F (fun σ H Q => tJs ts Str.empty σ H fun out H1 => Q (.str out) H1) ρ P := wJ_run ts _ ρ P h
/-! ### own.pop(), own.extend(list) -/
theorem wE_pop0 {i : Nat} {l : Kd} {ds : List D} {d : D} (h : ρ[i]? = some (.ow l (ds ++ [d]))) (p : P (ρ.set i (.ow l ds)) d) : wE K F (tBM0 K "list" rPop (tVar i)) ρ P := fun σ G H S Q q => by
  obtain ⟨a, vs, e, hg, hh, hr⟩ := S.ow h
  have hl := hr.length
  rw [List.length_append, List.length_singleton] at hl
  have hd : (ds ++ [d])[vs.length - 1]? = some d := by
    rw [hl, Nat.add_sub_cancel, List.getElem?_append_right (Nat.le_refl _), Nat.sub_self]
    rfl
  obtain ⟨y, hy, ry⟩ := hr.get hd
  refine ⟨.ref a, e, .inl ⟨rfl, vs, SqL.of hh⟩, a, vs, y, rfl, rfl, hh, hy, ?_⟩
  have hr2 : RepL K G vs.dropLast ds := by
    have z : vs.dropLast = vs.take ds.length := by rw [List.dropLast_eq_take, hl, Nat.add_sub_cancel]
    have z2 := RepL.take ds.length hr
    rw [List.take_left] at z2
    rw [z]
    exact z2
  exact q y d _ G _ p (S.mut h e hr2) ry (Ex.refl G)
theorem wS_extend {i : Nat} (h0 : ∃ (l1 : Kd) (ds1 : List D), ρ[i]? = some (.ow l1 ds1)) (h : wE K F te ρ fun ρ1 x => ∃ (l : Kd) (ds es : List D), x = .lst es ∧ ρ1[i]? = some (.ow l ds) ∧ ds.length + es.length ≤ 100000 ∧ O.nx (ρ1.set i (.ow l (ds ++ es)))) :
    wS K F (tDrop (tBM K "list" rExtend (tVar i) (tCons te tNil))) ρ O := fun σ G H S D1 k => by
  obtain ⟨l1, ds1, hi1⟩ := h0
  obtain ⟨p, vs1, hp, hg1, hh1, hr1⟩ := S.ow hi1
  refine ⟨.ref p, hp, .inl ⟨rfl, vs1, SqL.of hh1⟩, h σ G H S _ fun v x ρ1 G1 H1 h1 S1 r1 e1 => ?_⟩
  obtain ⟨l, ds, es, rfl, hi, hl, hn⟩ := h1
  obtain ⟨p', vs, e', hg, hh, hr⟩ := S1.ow hi
  rw [hp] at e'
  cases e'
  cases r1 with
  | lst ha ra =>
    exact ⟨p, _, vs, _, rfl, rfl, hh, S1.ex _ _ ha, Nat.le_trans (by rw [hr.length, ra.length]; exact hl) (by decide), k.nx _ _ G1 _ hn (S1.mut hi hp (hr.append ra)) e1⟩
/-! ### a def that may raise, called in one -/
theorem wE_callX {W : W0} {E : XK} {XX : XD} (hE : EOk K F E XX) (h : wA K F tar ρ fun ρ1 ds => W ds (RsP (P ρ1)) XX) : wE K F (tCallS (sp0 K W) (WE fun cls d _ H => E cls d H) tar) ρ P := fun σ G H S Q q => by
  have := wE_call (ta := tar) hE h σ G H S Q q
  unfold tCall at this
  simp only [List.append_nil] at this
  exact this
/-! ### bodies of try, some statements -/
theorem wX_seq {tb1 : WX → TS} {tb2 : TS} {XS : Sls → Addr → List (Str × D) → Prop} (h : wX K F tb1 ρ { O with nx := fun ρ1 => wS K F tb2 ρ1 O } XS) : wX K F (fun W => tSeq (tb1 W) tb2) ρ O XS := fun σ G H S D1 k W hW =>
  h σ G H S { D1 with nx := tb2 D1 } ⟨fun ρ1 σ1 G1 H1 h1 S1 e1 => h1 σ1 G1 H1 S1 D1 (k.from e1), k.rt, k.ro, k.bk, k.ct⟩ W hW
theorem wX_wS {t : TS} {XS : Sls → Addr → List (Str × D) → Prop} (h : wS K F t ρ O) : wX K F (fun _ => t) ρ O XS := fun σ G H S D1 k W hW => h σ G H S D1 k
end
end DL
namespace DL
open PySem L2
open Evl (Ex)
/-! ### methods that may raise, with things handed in -/
structure MCalleeX (P : Program) (w : World) (K : PySem.W.Frag) (mg : Str → Option Value) (base : Heap) (k : Nat) (C : Addr) (m : Str) (sp : Sp) : Prop where
  ex : ∃ (f : Addr) (fd : FuncData) (ps : List Str), Cls K C ∧ Meth K C m f ∧ FnOk P w K mg base (L2.CX P w) k f fd ps sp ∧ Binds K fd ps []
theorem MCalleeX.mono {P : Program} {w : World} {K : PySem.W.Frag} {mg : Str → Option Value} {base : Heap} {j k : Nat} {C : Addr} {m : Str} {sp : Sp} (c : MCalleeX P w K mg base j C m sp) (h : j ≤ k) : MCalleeX P w K mg base k C m sp := by
  obtain ⟨f, fd, ps, a, b, F, r⟩ := c.ex
  exact ⟨f, fd, ps, a, b, F.mono h, r⟩
/-- o.m(e, ..): o's class is one of these -/
def tViaA (Cs : List (Addr × Sp)) (m : Str) (W : WX) (ta : TE) (t : TA) : TE := fun σ H Q => ta σ H fun x H1 => ∃ (C : Addr) (sp : Sp) (a dx : Addr) (fs : List (Str × V)), (C, sp) ∈ Cs ∧ x = .ref a ∧ H1 a = some (.ins C dx fs) ∧ fs.lookup m = none ∧ t σ H1 fun vs H2 => sp (x :: vs) H2 Q (WE W σ)
/-- an own way out that doesn't look at the slots -/
theorem passes_takes {X : Cx} {E : XK} (tk : Takes X fun cls d _ H => E cls d H) : Passes (L2.CX X.prog X.w) X E := fun pins σ H s e s' I h => passAt tk σ pins H s e s' I h
section
variable {X : Cx} {k j : Nat} {C : Addr} {x m : Str} {sp : Sp} {p pos apos : Pos} {e o : Expr} {es : List Expr} {ta : TE} {t : TA} {E : XK}
theorem pe_viaA {pl : Sem Bool} {Cs : List (Addr × Sp)} (c : ∀ z ∈ Cs, MCalleeX X.prog X.w X.K X.mg X.base k z.1 m z.2) (hr : Room j X.A) (hk : k ≤ j) (tk : Takes X fun cls d _ H => E cls d H) (he : PE X o ta) (ha : PA X (e :: es) t)
    (hst : starEach (e :: es) X.env = (false, eval e X.env) :: starEach es X.env := by rfl) (hpl : (backTo pos (starEach es X.env)).any (·.1) = false := by rfl)
    (ht : eval (.Call (.Attribute o m apos) (e :: es) [] pos) X.env = (do
      let own ← eval o X.env
      standAt apos.atName
      let (f, one) ← holding [own] (getMethod own m pl)
      callWith pos f one (backTo pos (starEach (e :: es) X.env)) (backToKw pos (keywordEach [] X.env))) := by rfl) : PE X (.Call (.Attribute o m apos) (e :: es) [] pos) (tViaA Cs m (fun cls d _ H => E cls d H) ta t) := by
  refine ⟨fun pins s σ H Q I h => PySem.W.methodCall_KW (pl := pl) (thn (he.run pins s σ H _ I h) fun u s1 ⟨v, H1, I1, rv, C, sp, a, dx, fs, hC, ev, ea, l, q⟩ => ?_) ht⟩
  subst ev
  obtain rfl : u = Value.ref a := rv
  obtain ⟨f, fd, ps, cl, me, F, b⟩ := (c _ hC).ex
  refine getmeth_ok I1 ea cl me l ?_
  refine PySem.W.callWith_K (h₀ := X.base) I1.ok.mod.kin me.kp (thn (ha.run pos pins _ σ H1 _ (I1.tok _) q) fun us s2 ⟨vs, H2, I2, r, q2⟩ => ⟨I2.kIn, ?_⟩) hst hpl
  exact run_fn (us := .ref a :: us) (vs := .ref a :: vs) F (hr.mono hk) b .nil (passes_takes tk) I2 (.cons rfl r) (by rw [List.append_nil]; exact q2)
end
section
variable {K : PySem.W.Frag} {F : Fr} {ρ : Sls} {P : Sls → D → Prop} {ta : TE} {t : TA}
theorem wE_viaA {Cs : List (Addr × Sp)} {m : Str} {E : XK} {XX : XD} (hE : EOk K F E XX) (h : wE K F ta ρ fun ρ1 x => ∃ (C : Addr) (fs : List (Str × D)) (W : W0), x = .obj C fs ∧ (C, sp0 K W) ∈ Cs ∧ fs.lookup m = none ∧ wA K F t ρ1 fun ρ2 ds => W (x :: ds) (RsP (P ρ2)) XX) : wE K F (tViaA Cs m (fun cls d _ H => E cls d H) ta t) ρ P := fun σ G H S Q q =>
  h σ G H S _ fun v x ρ1 G1 H1 h1 S1 r1 e1 => by
    obtain ⟨C, fs, W, rfl, hC, n, hW⟩ := h1
    have r2 := r1
    cases r1 with
    | obj ha hf =>
      refine ⟨C, _, _, _, _, hC, rfl, S1.ex _ _ ha, hf.no n, hW σ G1 H1 S1 _ fun us ds ρ2 G2 H2 h2 S2 r3 e2 => ?_⟩
      exact sp_E S2 (.cons (r2.up e2) r3) h2 hE fun v d G' H' p S' r' e' => q v d ρ2 G' H' p S' r' ((e1.trans e2).trans e')
end
end DL
namespace DL
open PySem PySem.Spec PyProof.Rows L2

/-! ### a list comprehension whose element may raise -/
theorem inv_xe {X : Cx} {pins : List (Addr × Obj)} {σ : St} {H : Hp} {s : Shared} (xe : Value → Shared → Prop) (I : Inv X pins σ H s) : Inv { X with xe := xe } pins σ H s :=
  ⟨⟨I.ok.mod, I.ok.kind, I.ok.glob, I.ok.blt, I.ok.above, I.ok.inj, I.ok.has, I.ok.cab, I.ok.hd, I.ok.frames, I.ok.stk, I.ok.exf, I.ok.bs, I.ok.bsz, I.ok.noex, I.ok.exfs, I.ok.funs, I.ok.frf⟩, I.os, I.bare, I.base, I.loc, I.cell, I.free, I.freeC, I.pin, I.hok, I.len⟩
abbrev blkX (X : Cx) (s : Shared) (H : Hp) (sc : Scope) (ce : Env) (fp : List Addr) (xe : Value → Shared → Prop) : Cx := { X.blk s H sc ce fp with xe := xe }
theorem note_same {M : Model} {A : Around} {e1 e2 : Env} {u : Value} {s : Shared} {Q : Unit → Shared → Prop} {E : Value → Shared → Prop} (hf : e1.frame = e2.frame) (h : wpAny M A (noteFrame u e2) Q E s) : wpAny M A (noteFrame u e1) Q E s := by
  have z : noteFrame u e1 = noteFrame u e2 := by
    unfold noteFrame PySem.frameOf
    rw [hf]
  rw [z]
  exact h
theorem pass_same {α : Type} {M : Model} {A : Around} {e1 e2 : Env} {t : String} {u : Value} {s : Shared} {Q : α → Shared → Prop} {E : Value → Shared → Prop} (hf : e1.frame = e2.frame) (h : wpAny M A (PySem.passOn t u e2) Q E s) : wpAny M A (PySem.passOn t u e1) Q E s := by
  have z : (PySem.passOn t u e1 : Sem α) = PySem.passOn t u e2 := by
    unfold PySem.passOn
    rw [hf]
  rw [z]
  exact h
/-- what leaves an element, the frame of the block being ce -/
abbrev xeOf (X : Cx) (ce : Env) : Value → Shared → Prop := notedBy (model X.prog X.w) X.A ce fun e s' => CompFails (model X.prog X.w) X.A X.xe ce e s'
section
variable {X : Cx}
theorem blk_passes {E : XK} {pins : List (Addr × Obj)} {σ : St} {H0 : Hp} {s0 : Shared} {sc : Scope} {ce : Env} {fp : List Addr} (hs : X.stack = X.env :: X.outer) (hf : X.env.frame = some X.env.locals) (tk : Takes X fun cls d _ H => E cls d H)
    (I0 : Inv X pins σ H0 s0) (hL : s0.heap.objs.size ≤ ce.locals) (hF : ce.frame = X.env.frame) (f0 : ∀ b ∈ fp, FpOk X pins H0 b ∧ b < s0.heap.objs.size) : Passes (L2.CX X.prog X.w) (blkX X s0 H0 sc ce fp (xeOf X ce)) E := by
  intro pins' σ' H' s' u t I' c
  have back : Inv X pins σ H' s' := I0.call' (ch := fp) I'.os I'.base I'.hok I'.bare fun b hb => ⟨(f0 b hb).1.2.2.2.1, (f0 b hb).1.2.1, (f0 b hb).1.2.2.2.2.1, (f0 b hb).1.2.2.2.2.2⟩
  have nC : H' ce.locals = none := I'.free
  have fpC : FpOk X pins H' ce.locals := I0.fpOk hL nC
  obtain ⟨mC, hnC, _⟩ := I'.loc
  have hnC : s'.heap.Ns ce.locals mC := hnC
  obtain ⟨oC, es, ep, gC, dC, rC⟩ := hnC
  obtain ⟨a, B, H2, cls, d, rfl, fl, hok, ub, na, os, ag, hE⟩ := c
  have nfs : ce.locals ∉ frs X.stack := fun hm => by
    rcases List.mem_cons.mp (back.stkSub _ hm) with z | z
    · exact fpC.2.1 z
    · exact fpC.2.2.1 z
  have bC : B.get? ce.locals = some oC := ub.keep _ _ gC nC nfs
  have tC : t.heap.get? ce.locals = some oC := fl.1 _ _ bC
  -- the ground without the block's names
  generalize hB : PySem.W.hideAll B [ce.locals] = B2
  have bn : B2.get? ce.locals = none := by rw [← hB]; exact PySem.W.hideAll_none _ (List.mem_singleton.mpr rfl)
  have bof : ∀ {b : Addr} {o : Obj}, B2.get? b = some o → B.get? b = some o := fun {b o} q => by rw [← hB] at q; exact PySem.W.of_hideAll _ q
  have bto : ∀ {b : Addr} {o : Obj}, b ≠ ce.locals → B.get? b = some o → B2.get? b = some o := fun {b o} ne q => by rw [← hB]; exact PySem.W.hideAll_get _ q fun m => ne (List.mem_singleton.mp m)
  have bno : ∀ {b : Addr}, B.get? b = none → B2.get? b = none := fun {b} q => by
    cases z : B2.get? b with
    | none => rfl
    | some o => rw [bof z] at q; cases q
  obtain ⟨k1, k2, k3, oe, vs, T, oT, ts, he, hz, hd, h1, hnT, hTe, hT, hdT, h3⟩ := fl
  have frB : t.heap.FunFrames B2 X.stack := funFrames_none k3 fun b hb => bno (k3.mem hb).1
  have fl2 : HandSPX.FlyingZ B2 X.stack a (Zc cls d) t.heap := ⟨fun b o q => k1 b o (bof q), bno k2, frB, oe, vs, T, oT, ts, he, hz, hd, h1, bno hnT, hTe, hT, hdT, h3⟩
  -- the state without the exception
  obtain ⟨G, g1, g2⟩ := restrict t.heap fun b => (B2.get? b).isSome || decide (b ∈ frs X.stack)
  have gB : ∀ b o, B2.get? b = some o → G.get? b = some o := fun b o q => by
    rw [g1 b (by simp [q])]
    exact k1 b o (bof q)
  have gF : ∀ b, b ∈ frs X.stack → G.get? b = t.heap.get? b := fun b hb => g1 b (by simp [hb])
  have og : ∀ b o, G.get? b = some o → t.heap.get? b = some o ∧ ((B2.get? b).isSome = true ∨ b ∈ frs X.stack) := fun b o q => by
    cases z : ((B2.get? b).isSome || decide (b ∈ frs X.stack)) with
    | false => rw [g2 b z] at q; cases q
    | true =>
      rw [g1 b z] at q
      exact ⟨q, by simpa [Bool.or_eq_true] using z⟩
  have gC0 : G.get? ce.locals = none := by
    cases z : G.get? ce.locals with
    | none => rfl
    | some o =>
      rcases (og _ _ z).2 with y | y
      · rw [bn] at y; cases y
      · exact absurd y nfs
  have n2 : H2 ce.locals = none := ub.free _ _ gC nC
  have okG : HOk X.prog X.w H2 G := fun b o q => (hok b o q).stay (fun x v hx y => gB x v (bto (fun z => by
    rcases hx with hx | hx
    · rw [hx] at z; rw [z, n2] at q; cases q
    · rw [z, n2] at hx; cases hx) y)) (fun _ y => y) fun _ _ y => y
  have J : Inv X pins σ H2 { s' with heap := G, gens := t.gens, drawn := t.drawn, toks := t.toks } := by
    refine back.call (ch := [ce.locals]) ⟨fun b o q n hb hc => gB b o (bto (fun z => hc (List.mem_singleton.mpr z)) (ub.keep b o q n hb)), fun b o q n hb hc => ?_, fun b o q n _ => ub.free b o q n, fun b o q hc => ?_, ub.tups, ub.frzs, ub.tbls⟩ okG ag fun b hb => ?_
    · obtain ⟨sl, y⟩ := ub.slot b o q hb
      exact ⟨sl, by rw [gF b hb]; exact y⟩
    · by_cases hb : b ∈ frs X.stack
      · obtain ⟨sl, y⟩ := ub.slot b o q hb
        exact ⟨_, by rw [gF b hb]; exact y⟩
      · obtain ⟨o', y⟩ := ub.there b o q hb
        exact ⟨o', gB b o' (bto (fun z => hc (List.mem_singleton.mpr z)) y)⟩
    · obtain rfl := List.mem_singleton.mp hb
      exact ⟨fpC.2.2.2.1, fpC.2.1, fpC.2.2.2.2.1, fpC.2.2.2.2.2⟩
  have nb : ∀ b o, G.get? b = some o → b ∉ frs X.stack → B2.get? b = some o := fun b o q hb => by
    obtain ⟨y, z⟩ := og b o q
    rcases z with z | z
    · obtain ⟨o', e⟩ := Option.isSome_iff_exists.mp z
      have := k1 b o' (bof e)
      rw [y] at this; cases this
      exact e
    · exact absurd z hb
  have efr : X.A.frames = some (X.env :: X.outer) := by rw [I0.ok.frames, hs]
  rw [hs] at fl2
  show notedBy (model X.prog X.w) X.A ce _ _ _
  unfold notedBy
  refine note_same hF (HandSPX.looks_onZ Zc.steady efr hf fl2 fun h1' hh up => ?_)
  -- the block's names are let go
  obtain ⟨sl, gC1⟩ := up _ _ tC (fun vs z => by rw [dC] at z; cases z)
  refine ⟨mC, ⟨_, es, ep, gC1, dC, rC⟩, fun h2 m2 hn2 sb => ?_⟩
  refine pass_same hF ?_
  obtain ⟨p1, p2, p3, oe2, vs2, T2, oT2, ts2, q1, q2, q3, q4, q5, q6, q7, q8, q9⟩ := hh
  have aC : a ≠ ce.locals := fun z => by rw [z, gC1] at q1; cases q1; rw [dC] at q3; cases q3
  have TC : T2 ≠ ce.locals := fun z => by rw [z, gC1] at q7; cases q7; rw [dC] at q8; cases q8
  have hh2 : HandSPX.HeldZ B2 (X.env :: X.outer) a (Zc cls d) X.env.locals h2 := by
    refine ⟨fun b o e => ?_, p2, Heap.FunFrames.sameBut sb hn2 p3, oe2, vs2, T2, oT2, ts2, ?_, q2, q3, q4, q5, q6, ?_, q8, q9⟩
    · rw [sb.2 b fun z => by rw [z, bn] at e; cases e]
      exact p1 b o e
    · rw [sb.2 a aC]; exact q1
    · rw [sb.2 T2 TC]; exact q7
  unfold PySem.passOn
  apply wpAny_bind
  refine wpAny_field (by rw [sb.2 a aC]; exact q1) q3 q4 ?_
  rw [if_neg (show ¬ ((Value.ref T2 == Value.none) = true) from by simp)]
  have last : wpAny (model X.prog X.w) X.A (setFlight (.ref a) X.env.frame) (fun _ t4 => wpAny (model X.prog X.w) X.A (throw (.ref a) : Sem Value) (fun _ _ => False) X.xe t4) X.xe { t with heap := h2 } := by
    rw [hf]
    refine HandSPX.setFlight_onZ hh2 fun g4 hh4 up4 => ?_
    refine wpAny_throw (tk _ _ ⟨a, B2, _, pins, σ, H2, cls, d, rfl, J, nb, fun b o e hn => ?_, .inr (.inr ?_), na, os, ag, hE⟩)
    · obtain ⟨sl1, e1⟩ := up b o (og b o e).1 hn
      have bC' : b ≠ ce.locals := fun z => by
        have e' : G.get? b = some o := e
        rw [z, gC0] at e'; cases e'
      obtain ⟨sl2, e2⟩ := up4 b _ ((sb.2 b bC').trans e1) hn
      exact ⟨sl2, e2⟩
    · rw [hs]
      exact hh4
  first
    | exact wpAny_bind (wpAny_pure (wpAny_bind last))
    | exact wpAny_bind last
/-- such a comprehension, as a value -/
theorem pe_lcX {E : XK} {elt tg iter : Expr} {ifs : List Expr} {sc : Scope} {own : List (Str × Nat)} {pos : Pos} {wi : TI} {g : TG} {tt : TT} {te : TE} (hs : X.stack = X.env :: X.outer) (hf : X.env.frame = some X.env.locals) (tk : Takes X fun cls d _ H => E cls d H)
    (calm : X.calm = true) (nd : X.N.Nodup) (hi : PI X tg iter wi) (bo : BlkOk X.N X.env.scope sc own)
    (hg : ∀ (s : Shared) (H : Hp) (C : Addr) (cl : List (Str × Addr)) (fp : List Addr) (xe : Value → Shared → Prop), PG (blkX X s H sc (compEnvC sc cl C X.env) fp xe) tg g)
    (ht : ∀ (s : Shared) (H : Hp) (C : Addr) (cl : List (Str × Addr)) (fp : List Addr) (xe : Value → Shared → Prop), PTs (blkX X s H sc (compEnvC sc cl C X.env) fp xe) ifs tt)
    (he : ∀ (s : Shared) (H : Hp) (C : Addr) (cl : List (Str × Addr)) (fp : List Addr) (xe : Value → Shared → Prop), Passes (L2.CX X.prog X.w) (blkX X s H sc (compEnvC sc cl C X.env) fp xe) E → PE (blkX X s H sc (compEnvC sc cl C X.env) fp xe) elt te)
    (fo : ∀ x, foldedSetIterable iter X.env x = pure x := by intro _; rfl) : PE X (.ListComp elt [⟨tg, iter, ifs, 0⟩] sc pos) (tLc wi g tt te (own.map (·.2))) := by
  constructor
  intro pins s σ M Q I wish
  rw [eval_ListComp]
  have frees : ∀ y ∈ sc.names, y.2 = .free → ∃ c, X.env.cells.lookup y.1 = some c := fun y hy z => (bo.free y hy z).elim (fun k => I.ok.has _ (.inl k)) fun k => I.ok.has _ (.inr k)
  refine comprehension_at (use := none) rfl fo (closure_ok frees) bo.kind (fun y hy z => by rw [bo.uniq y hy, z]) (thn (hi.run pins s σ M _ I wish) fun xv s1 hx => thn hx fun itv s2 h2 => ?_)
  obtain ⟨it, fp, tn, J, M2, rfl, I2, T, st2, fpo, q⟩ := h2
  refine wpAny_newObj_type (newEnv_comp ?_) (Nat.zero_le _)
  generalize eD : s2.heap.objs.size = D
  have Dnew : M2 D = none := I2.hok.fresh (Nat.le_of_eq eD)
  obtain ⟨W, ⟨m0, w0⟩, turn⟩ := q D Dnew
  generalize e3 : ({ s2 with heap := s2.heap.push { cls := .type "list", data := .seq ([] : List Value).toArray } } : Shared) = s3
  have I3 : Inv X pins σ (upd M2 D (.lst [])) s3 := by
    rw [← e3]
    refine I2.laid (t' := s2.toks) (fun b o z => Heap.get?_push_of_some _ z) (Nat.le_of_eq eD) ⟨Nat.zero_le _, [], 0, .nil, ?_⟩
    rw [← eD]
    exact Heap.get?_push_size _ rfl
  have p3 : s3.heap = s2.heap.push { cls := .type "list", data := .seq ([] : List Value).toArray } := by rw [← e3]
  have old : ∀ b ∈ fp, b < s2.heap.objs.size := fun b hb => by
    obtain ⟨o, z, _⟩ := T.obj _ _ st2 b hb
    exact Heap.lt_size z
  have fpo3 : ∀ b ∈ fp, FpOk X pins (upd M2 D (.lst [])) b ∧ b < s3.heap.objs.size := fun b hb => by
    have lt := old b hb
    refine ⟨⟨?_, (fpo b hb).2⟩, by rw [p3, Heap.size_push]; exact Nat.lt_succ_of_lt lt⟩
    rw [upd_ne (by rw [← eD]; exact Nat.ne_of_lt lt)]
    exact (fpo b hb).1
  have st3 : tn 0 s3.heap := T.keep _ _ _ st2 fun b _ o z => by rw [p3]; exact Heap.get?_push_of_some _ z
  have I4 := block_start I3 bo nd fpo3
  generalize ecl : cellsFrom (s3.heap.objs.size + 1) sc.names (cloFrom X.env.cells sc.names []) = cl at I4 ⊢
  generalize exe : xeOf X (compEnvC sc cl s3.heap.objs.size X.env) = xe
  have pas : Passes (L2.CX X.prog X.w) (blkX X s3 (upd M2 D (.lst [])) sc (compEnvC sc cl s3.heap.objs.size X.env) fp xe) E := by
    rw [← exe]
    exact blk_passes hs hf tk I3 (Nat.le_refl _) rfl fpo3
  have pg := hg s3 (upd M2 D (.lst [])) s3.heap.objs.size cl fp xe
  have pt := ht s3 (upd M2 D (.lst [])) s3.heap.objs.size cl fp xe
  have pe := he s3 (upd M2 D (.lst [])) s3.heap.objs.size cl fp xe pas
  have I4 := inv_xe xe I4
  show codeAny _ _ (.compStart (.ListComp elt [⟨tg, iter, ifs, 0⟩] sc pos) 0 (.ref it) (.ref D) (compEnvC sc cl s3.heap.objs.size X.env)) (compEnds (model X.prog X.w) X.A X.xe none (EP X pins σ Q) (.ref D) (compEnvC sc cl s3.heap.objs.size X.env)) { s3 with heap := pushCells (s3.heap.push { cls := .type "dict", data := .dict #[] }) sc.names }
  have nfp : ∀ b ∈ fp, (upd M2 D (.lst [])) b = none := fun b hb => (fpo3 b hb).1.1
  have ceL : (compEnvC sc cl s3.heap.objs.size X.env).locals = s3.heap.objs.size := rfl
  generalize hce : compEnvC sc cl s3.heap.objs.size X.env = ce at I4 pg pt pe exe ceL ⊢
  generalize hM3 : upd M2 D (.lst []) = M3 at I3 I4 pg pt pe w0 nfp fpo3
  generalize e4 : ({ s3 with heap := pushCells (s3.heap.push { cls := .type "dict", data := .dict #[] }) sc.names } : Shared) = s4 at I4 ⊢
  have st4 : tn 0 s4.heap := T.keep _ _ _ st3 fun b _ o z => by rw [← e4]; exact pushCells_keeps _ _ _ _ (Heap.get?_push_of_some _ z)
  have okf : ∀ {σ' : St} {M' : Hp} {s' : Shared}, Inv (blkX X s3 M3 sc ce fp xe) [] σ' M' s' → (∀ b ∈ fp, M' b = none) → ∀ b ∈ fp, FpOk (blkX X s3 M3 sc ce fp xe) [] M' b := fun {σ' M' s'} I' hn b hb =>
    ⟨hn b hb, (I'.ok.exf b hb).1, I'.ok.exfs b hb, .inl hb, fun x c z => (I'.ok.exf b hb).2 x c z, fun p hp => absurd (show p ∈ ([] : List (Addr × Obj)) ++ [] from hp) (by simp)⟩
  have loop : codeAny (model X.prog X.w) X.A (.compLoop (.ListComp elt [⟨tg, iter, ifs, 0⟩] sc pos) 0 (.ref it) (.ref D) ce) (compEnds (model X.prog X.w) X.A X.xe none (EP X pins σ Q) (.ref D) ce) s4 := by
    refine compLoop_any (fun n s' => ∃ i M', Inv (blkX X s3 M3 sc ce fp xe) [] (wipe σ (own.map (·.2))) M' s' ∧ tn i s'.heap ∧ (∀ b ∈ fp, M' b = none) ∧ W i n M') ?_ m0 ⟨0, M3, I4, st4, nfp, w0⟩
    rintro n s5 ⟨i, M5, I5, st5, n5, w5⟩
    rcases turn i n M5 w5 with ⟨stop, qq⟩ | ⟨go, Nx, hNx, step⟩
    · have td := T.done (blkX X s3 M3 sc ce fp xe) rfl rfl rfl calm i [] s5 _ M5 (fun _ _ => False) I5 (okf I5 n5) st5 stop
      refine thnF td fun r s6 ⟨hr, I6⟩ => ?_
      subst hr
      have I7 : Inv X pins σ M5 s6 := I3.call' (ch := fp) I6.os I6.base I6.hok I6.bare fun b hb => ⟨(fpo3 b hb).1.2.2.2.1, (fpo3 b hb).1.2.1, (fpo3 b hb).1.2.2.2.2.1, (fpo3 b hb).1.2.2.2.2.2⟩
      have nC : M5 ce.locals = none := I6.free
      obtain ⟨m, hn, _⟩ := I6.loc
      have hn : s6.heap.Ns ce.locals m := hn
      obtain ⟨k0, k1, k2, k3, k4, k5⟩ := I3.fpOk (b := ce.locals) (H' := M5) (by rw [ceL]; exact Nat.le_refl _) nC
      exact ⟨m, hn, fun h'' sb => ⟨.ref D, M5, I7.turned (t' := s6.toks) (fun b o hb z => (sb.2 b hb).trans z) k0 k1 k3 k4 k5, rfl, qq⟩⟩
    · have ti := T.item (blkX X s3 M3 sc ce fp xe) rfl rfl rfl calm i [] s5 _ M5 (fun _ _ => False) I5 (okf I5 n5) st5 go
      refine thnF ti fun r s6 ⟨u, hr, h6⟩ => ?_
      subst hr
      refine thnF h6 fun _ s7 ⟨x, M7, I7, r7, y7, st7, n7⟩ => ?_
      have I7' := I7.pinned (okf I7 n7) (T.obj _ _ st7)
      have toE : ∀ u t, xe u t → notedBy (model X.prog X.w) X.A ce (fun e s' => compEnds (model X.prog X.w) X.A X.xe none (EP X pins σ Q) (.ref D) ce (.error e) s') u t := fun u t z => by rw [← exe] at z; exact z
      refine wpAny_mono (pg.run _ s7 _ M7 x u _ I7' r7 (step x M7 y7)) (fun _ s8 ⟨σ8, M8, I8, hw8, q8⟩ => ?_) toE
      refine wpAny_mono (pt.run _ s8 σ8 M8 _ I8 q8) (fun b s9 ⟨M9, I9, q9⟩ => ?_) toE
      have fin : ∀ {s' : Shared} {M' : Hp}, Inv (blkX X s3 M3 sc ce fp xe) ([] ++ pinsAt fp s7.heap) σ8 M' s' → Nx M' → ∃ m, m < n ∧ ∃ i M', Inv (blkX X s3 M3 sc ce fp xe) [] (wipe σ (own.map (·.2))) M' s' ∧ tn i s'.heap ∧ (∀ b ∈ fp, M' b = none) ∧ W i m M' := fun {s' M'} I' nx => by
        obtain ⟨m', hm, w'⟩ := hNx M' nx
        have pin' : ∀ b ∈ fp, ∀ o, s7.heap.get? b = some o → s'.heap.get? b = some o ∧ M' b = none := fun b hb o z =>
          let y := I'.pin (b, o) (List.mem_append_right _ (List.mem_append_right _ (mem_pinsAt hb z)))
          ⟨y.1, y.2.1⟩
        have hl : (wipe σ (own.map (·.2))).length = σ8.length := by rw [← hw8, wipe_length]
        refine ⟨m', hm, i + 1, M', (I'.unpinned (pins := [])).weak hl (fun j v z => ?_), T.keep _ _ _ st7 fun b hb o z => (pin' b hb o z).1, fun b hb => ?_, w'⟩
        · rw [← hw8] at z
          exact (wipe_some z).1
        · obtain ⟨o, z, _⟩ := T.obj _ _ st7 b hb
          exact (pin' b hb o z).2
      cases b with
      | false =>
        simp only [Bool.false_eq_true, if_false] at q9 ⊢
        exact fin I9 q9
      | true =>
        simp only [if_true] at q9 ⊢
        refine wpAny_mono (pe.run _ s9 σ8 M9 _ I9 q9) (fun z s10 ⟨yv, M10, I10, r10, acc, hD10, hz10, nx⟩ => ?_) toE
        exact app_ok (X := blkX X s3 M3 sc ce fp xe) I10 hD10 hz10 r10 fun s11 I11 => fin I11 nx
  exact codeAny_compStart_list loop (T.self X.A 0 _ _ _ st4 loop)
end
end DL
namespace DL
open PySem L2
open Evl (Ex)

/-! ### .. its reading over data -/
section
variable {K : PySem.W.Frag} {F : Fr} {ρ : Sls}
theorem EOk.inHere {G H : Hp} {σ : St} {E : XK} {X : XD} (S : SRel K F G H σ ρ) (hE : EOk K F E X) : EOk K (here G H σ ρ) E X := fun C fs d G' H' fvs h T hd hr n1 n2 =>
  hE C fs d G' H' fvs h ⟨T.ex, S.fr.old2 T, fun a o e np => T.kp a o (S.fr.kp a o e np) (fun z => by
      rcases z with ⟨i, l, ds, h1, h2⟩ | ⟨i, l, ds, h1, h2⟩
      · rcases (S.own i l ds a h1 h2).or with y | y
        · rw [y] at e; cases e
        · exact np y
      · rcases (S.ownD i l ds a h1 h2).or with y | y
        · rw [y] at e; cases e
        · exact np y), S.fr.th2 T, fun a nm m t => T.tb a nm True.intro (S.fr.tb a nm m t), fun g => T.gt (S.fr.gt g)⟩ hd hr (S.fr.fresh n1) n2
end
section
variable (K : PySem.W.Frag) (g : TG) (tt : TT) (te : TE) (vs : List Nat) (Ok : Fr → Prop)
/-- as compL, under frames of which something is known -/
def compX : List D → Sls → List D → (Sls → List D → Prop) → Prop
  | [], ρ, acc, P => P ρ acc
  | x :: r, ρ, acc, P => ∀ F, Ok F → wG K F g x ρ fun ρ2 => wT K F tt ρ2 fun ρ3 b => Ways b (wE K F te ρ3 fun ρ4 y => compX r (wipeU ρ4 vs) (acc ++ [y]) P) (compX r (wipeU ρ3 vs) acc P)
end
section
variable {K : PySem.W.Frag} {F : Fr} {ρ : Sls} {g : TG} {tt : TT} {te : TE} {vs : List Nat} {Ok : Fr → Prop}
structure CompAtX (K : PySem.W.Frag) (F : Fr) (g : TG) (tt : TT) (te : TE) (vs : List Nat) (Ok : Fr → Prop) (σ : St) (G1 : Hp) (Dl : Addr) (P : Sls → List D → Prop) (n : Nat) (r : List D) (H' G' : Hp) (ρ' : Sls) (acc : List D) (vacc : List V) : Prop where
  S : SRel K F G' H' (wipe σ vs) ρ'
  e : Ex G1 G'
  hg : G' Dl = none
  hh : H' Dl = some (.lst vacc)
  hr : RepL K G' vacc acc
  hno : ∀ (i : Nat) (l : Kd) (ds : List D), ρ'[i]? = some (.ow l ds) → (wipe σ vs)[i]? ≠ some (some (.ref Dl))
  hf : F.H0 Dl = none
  hl : acc.length ≤ n
  u : ρ'.map unloc = ρ'
  c : compX K g tt te vs Ok r ρ' acc P
abbrev CompExX (K : PySem.W.Frag) (F : Fr) (g : TG) (tt : TT) (te : TE) (vs : List Nat) (Ok : Fr → Prop) (σ : St) (G1 : Hp) (Dl : Addr) (P : Sls → List D → Prop) (n : Nat) (r : List D) (H' : Hp) : Prop := ∃ G' ρ' acc vacc, CompAtX K F g tt te vs Ok σ G1 Dl P n r H' G' ρ' acc vacc
theorem compX_turn (hT : Tgt g vs) {σ : St} {G1 H2 : Hp} {Dl : Addr} {P : Sls → List D → Prop} {n : Nat} {d : D} {r : List D} {x : V} (hn : n < 100000) (c : CompExX K F g tt te vs Ok σ G1 Dl P n (d :: r) H2) (hx : ∀ G', Ex G1 G' → Rep K G' x d)
    (hOk : ∀ {G' H' : Hp} {σ' : St} {ρ' : Sls}, SRel K F G' H' σ' ρ' → Ok (here G' H' σ' ρ')) :
    g x (wipe σ vs) H2 fun σ2 H3 => wipe σ2 vs = wipe σ vs ∧ tt σ2 H3 fun b H4 =>
      if b = true then te σ2 H4 fun y H5 => ∃ acc, H5 Dl = some (.lst acc) ∧ acc.length < sizeLine ∧ CompExX K F g tt te vs Ok σ G1 Dl P (n + 1) r (upd H5 Dl (.lst (acc ++ [y]))) else CompExX K F g tt te vs Ok σ G1 Dl P (n + 1) r H4 := by
  obtain ⟨G', ρ', acc, vacc, S', e', hg, hh, hr, hno, hf, hl, hu, hc⟩ := c
  have R := S'.reframe
  rw [hu] at R
  have back : ∀ {G'' H'' : Hp} {σ'' : St} {ρ'' : Sls}, SRel K (here G' H2 (wipe σ vs) ρ') G'' H'' σ'' ρ'' → wipe σ'' vs = wipe σ vs → SRel K F G'' H'' (wipe σ vs) (wipeU ρ'' vs) ∧ Ex G' G'' ∧ G'' Dl = none ∧ H'' Dl = some (.lst vacc) ∧ (∀ (i : Nat) (l : Kd) (ds : List D), (wipeU ρ'' vs)[i]? = some (.ow l ds) → (wipe σ vs)[i]? ≠ some (some (.ref Dl))) := by
    intro G'' H'' σ'' ρ'' T hw
    have W := (S'.back T).wipes vs
    rw [hw, wipeS_unloc] at W
    have W1 := T.unlocs.wipes vs
    rw [hw, wipeS_unloc] at W1
    have hD : H'' Dl = some (.lst vacc) := T.fr.kp Dl _ hh (by
      rintro (⟨i, l, ds, h1, h2⟩ | ⟨i, l, ds, h1, h2⟩)
      · exact hno i l ds h1 h2
      · exact S'.ndL hh i l ds h1 h2)
    refine ⟨W, FrOk.grow T.fr S'.ex, ?_, hD, fun i l ds h z => ?_⟩
    · rw [T.fr.old1 hh isX_lst]
      exact hg
    · rcases (W1.own i l ds Dl h z).or with q | ⟨j, l', ds', k1, k2⟩ | ⟨j, l', ds', k1, k2⟩
      · have q' : H2 Dl = none := q
        rw [hh] at q'
        cases q'
      · exact hno j l' ds' k1 k2
      · exact S'.ndL hh j l' ds' k1 k2
  refine hT x σ H2 _ _ (hc (here G' H2 (wipe σ vs) ρ') (hOk S') (wipe σ vs) G' H2 x R (hx G' e') (fun σ3 H3 => ∃ ρ3 G3, wT K (here G' H2 (wipe σ vs) ρ') tt ρ3 _ ∧ SRel K (here G' H2 (wipe σ vs) ρ') G3 H3 σ3 ρ3 ∧ Ex G' G3) fun ρ3 σ3 G3 H3 h3 S3 e3 => ⟨ρ3, G3, h3, S3, e3⟩) ?_
  rintro σ3 H3 hw ⟨ρ3, G3, h3, S3, e3⟩
  refine ⟨hw, h3 σ3 G3 H3 S3 _ fun b ρ4 G4 H4 h4 S4 e4 => ?_⟩
  cases b with
  | false =>
    obtain ⟨B1, B2, B3, B4, B5⟩ := back S4 hw
    exact ⟨G4, wipeU ρ4 vs, acc, vacc, B1, e'.trans B2, B3, B4, RepL.up B2 hr, B5, hf, Nat.le_succ_of_le hl, map_unloc _, h4.2 rfl⟩
  | true =>
    refine h4.1 rfl σ3 G4 H4 S4 _ fun y dy ρ5 G5 H5 h5 S5 r5 e5 => ?_
    obtain ⟨B1, B2, B3, B4, B5⟩ := back S5 hw
    refine ⟨vacc, B4, Evl.sz_lt (by rw [hr.length]; omega), G5, wipeU ρ5 vs, acc ++ [dy], vacc ++ [y], B1.other B3 hf B5 (B1.ndL B4) B4 noT_lst, e'.trans B2, B3, upd_same, (RepL.up B2 hr).append (.cons r5 .nil), B5, hf, by rw [List.length_append, List.length_singleton]; omega, map_unloc _, h5⟩
theorem compX_start {σ : St} {G1 H1 : Hp} (S1 : SRel K F G1 H1 σ ρ) {ds : List D} {P : Sls → List D → Prop} (c : compX K g tt te vs Ok ds (wipeU ρ vs) [] P) {Dl : Addr} (hD : H1 Dl = none) : CompExX K F g tt te vs Ok σ G1 Dl P 0 ds (upd H1 Dl (.lst [])) := by
  have W := (S1.wipes vs).unlocs
  exact ⟨G1, wipeU ρ vs, [], [], W.alloc hD, Ex.refl G1, W.fr.freshG hD, upd_same, .nil, W.notOwn hD, W.fr.fresh hD, Nat.le_refl _, map_unloc _, c⟩
theorem compX_end {σ : St} {G1 H1 H' : Hp} (S1 : SRel K F G1 H1 σ ρ) {Dl : Addr} {n : Nat} {P : Sls → List D → Prop} (c : CompExX K F g tt te vs Ok σ G1 Dl (fun ρ' acc => P (restS vs 0 ρ ρ') acc) n [] H') (hD : H1 Dl = none) :
    ∃ G' ρ' acc vacc, P ρ' acc ∧ SRel K F G' H' σ ρ' ∧ Own K F G' H' σ ρ' Dl vacc acc ∧ Ex G1 G' := by
  obtain ⟨G', ρ', acc, vacc, S', e', hg, hh, hr, hno, hf, hl, hu, hc⟩ := c
  exact comp_end (g := gName 0) (tt := tYes) (te := tVar 0) (P := P) S1 ⟨G', ρ', acc, vacc, S', e', hg, hh, hr, hno, hf, hl, hu, hc⟩ hD
theorem wO_lcTX {E : XK} {XX : XD} {tl : TE} {P : Sls → List D → Prop} (hE : EOk K F E XX) (hT : Tgt g vs) (h : wE K F tl ρ fun ρ1 d => ∃ ds, d = .tup ds ∧ ds.length ≤ 100000 ∧ compX K g tt te vs (fun F' => EOk K F' E XX) ds (wipeU ρ1 vs) [] fun ρ' acc => P (restS vs 0 ρ1 ρ') acc) : wO K F (tLc (iTup K tl) g tt te vs) ρ P := fun σ G H S Q q =>
  h σ G H S _ fun v d ρ1 G1 H1 h1 S1 r1 e1 => by
    obtain ⟨ds, rfl, hl, f⟩ := h1
    cases r1 with
    | tup ha hr =>
      rename_i a xs
      refine ⟨a, rfl, ⟨xs, Evl.ex_t S1.ex ha⟩, fun Dl hD => lc_tup (K := K) (a := a) (xs := xs) (fun i H' => CompExX K F g tt te vs (fun F' => EOk K F' E XX) σ G1 Dl (fun ρ' acc => P (restS vs 0 ρ1 ρ') acc) i (ds.drop i) H') (compX_start S1 f hD) (fun i H' _ c => ?_) (fun i x H' hx c => ?_) fun H' c => ?_⟩
      · obtain ⟨G', ρ', acc, vacc, c⟩ := c
        exact Evl.ex_t (c.e.trans c.S.ex) ha
      · obtain ⟨d, hd, rd⟩ := hr.getV hx
        rw [drop_at hd] at c
        have hlt := (List.getElem?_eq_some_iff.mp hd).1
        exact compX_turn hT (by omega) c (fun G' e' => rd.up e') fun S' => hE.inHere S'
      · rw [hr.length, List.drop_length] at c
        obtain ⟨G', ρ', acc, vacc, p, S', o, e'⟩ := compX_end (P := P) S1 c hD
        exact q _ _ _ ρ' G' H' p S' o (e1.trans e')
end

/-! ### calls in its element -/
section
variable {X : Cx} {k j : Nat} {x : Str} {sp : Sp} {p pos : Pos} {e : Expr} {es : List Expr} {t : TA} {E : XK}
theorem pe_clxP (c : CalleeX X.prog X.w X.K X.mg X.base k x sp) (hr : Room j X.A) (hk : k ≤ j) (hg : Gl X x) (pas : Passes (L2.CX X.prog X.w) X E) (ha : PA X (e :: es) t)
    (hd : (x == ("__debug__" : Str)) = false := by decide) (he : starEach (e :: es) X.env = (false, eval e X.env) :: starEach es X.env := by rfl) (hpl : (backTo pos (starEach es X.env)).any (·.1) = false := by rfl) : PE X (.Call (.Name x p) (e :: es) [] pos) (tCall sp [] E t) := by
  obtain ⟨f, fd, ps, F, hm, hkp, hb⟩ := c.ex
  exact pe_call F (hr.mono hk) hg hm hkp hb .nil pas ha hd he hpl
end

/-! ### an own dict is lent -/
def tLend (i : Nat) (t : TE) : TE := fun σ H Q => ∃ a kvs, σ[i]? = some (some (.ref a)) ∧ H a = some (.dK kvs) ∧ ∀ o, t σ (upd H a (.frz o (.dK kvs))) fun v H' => H' a = some (.frz o (.dK kvs)) ∧ Q v (upd H' a (.dK kvs))
theorem pe_lend {X : Cx} {e : Expr} {i : Nat} {t : TE} (h : PE X e t) : PE X e (tLend i t) := by
  constructor
  intro pins s σ H Q I hw
  obtain ⟨a, kvs, _, ha, q⟩ := hw
  obtain ⟨od, I2⟩ := I.lock ha True.intro
  exact thn (h.run pins s σ _ _ I2 (q od)) fun v s1 ⟨x, H1, I3, r, e, qq⟩ => ⟨x, _, I3.unlock e (I.nofrz ha True.intro), r, qq⟩
section
variable {K : PySem.W.Frag} {F : Fr} {ρ : Sls} {P : Sls → D → Prop} {t : TE}
def lentD : D → Prop
  | .lst ds => ds.all flatD = true
  | d => flatD d = true
theorem Rep.flatIn {G G2 : Hp} {v : V} {d : D} (h : Rep K G v d) (f : flatD d = true) : Rep K G2 v d := by
  cases h <;> first | (cases f; done) | constructor
theorem RepL.flatIn {G G2 : Hp} : ∀ {vs : List V} {ds : List D}, RepL K G vs ds → ds.all flatD = true → RepL K G2 vs ds
  | _, _, .nil, _ => .nil
  | _, _, .cons r t, f => by
    rw [List.all_cons, Bool.and_eq_true] at f
    exact .cons (Rep.flatIn r f.1) (RepL.flatIn t f.2)
theorem wE_lend {i : Nat} {ds : List (Key × D)} (hi : ρ[i]? = some (.od .loc ds)) (fl : ∀ (j : Nat) (l : Kd) (es : List D), ρ[j]? = some (.ow l es) → es.all flatD = true) (one : ∀ (j : Nat) (l : Kd) (es : List (Key × D)), ρ[j]? = some (.od l es) → j = i)
    (h : wE K F t (ρ.set i (.fz (.dkv ds))) fun ρ' x => ρ' = ρ.set i (.fz (.dkv ds)) ∧ lentD x ∧ P ρ x) : wE K F (tLend i t) ρ P := fun σ G H S Q q => by
  obtain ⟨a, vs, e, hg, hh, hr⟩ := S.od hi
  have il : i < ρ.length := (List.getElem?_eq_some_iff.mp hi).1
  refine ⟨a, vs, e, hh, fun ob => ?_⟩
  have hf : F.H0 a = none := S.ownD i .loc ds a hi e
  have S1 : SRel K F G H σ (ρ.set i .un) := by
    have z := S.wipe1 i (some (.ref a))
    rw [set_self e] at z
    exact z
  have o : OwnD K F G H σ (ρ.set i .un) a vs ds := ⟨hg, hh, hr, hf, fun j l es h1 h2 => by
    by_cases hj : j = i
    · subst hj
      rw [List.getElem?_set_self il] at h1
      cases h1
    · rw [List.getElem?_set_ne (Ne.symm hj)] at h1
      exact hj (S.disD j i a l .loc es ds h1 hi h2 e)⟩
  obtain ⟨S2, r2, e2⟩ := o.lock S1 ob
  have S3 := S2.set (i := i) r2
  rw [set_self e, List.set_set] at S3
  refine h σ _ _ S3 _ fun v x ρ' G' H' hx S' rx e' => ?_
  obtain ⟨rfl, lx, p⟩ := hx
  have ga : G' a = some (.frz ob (.dK vs)) := e' _ _ upd_same
  have ha : H' a = some (.frz ob (.dK vs)) := S'.ex _ _ ga
  refine ⟨ha, ?_⟩
  -- the things that are known, but for the dict
  let G2 : Hp := fun b => if b = a then none else G' b
  have g2 : G2 a = none := if_pos rfl
  have gn : ∀ {b : Addr}, b ≠ a → G2 b = G' b := fun {b} hb => if_neg hb
  have up : Ex G G2 := fun b u hb => by
    have ne : b ≠ a := fun z => by rw [z, hg] at hb; cases hb
    rw [gn ne]
    exact e' b u ((upd_ne ne).trans hb)
  have look : ∀ (j : Nat) (s : Sl), j ≠ i → ρ[j]? = some s → (ρ.set i (.fz (.dkv ds)))[j]? = some s := fun j s hj hs => by rw [List.getElem?_set_ne (Ne.symm hj)]; exact hs
  have S4 : SRel K F G2 (upd H' a (.dK vs)) σ ρ := by
    refine ⟨⟨fun b u hb => ?_, fun b u hb => ?_, fun b u hb np => ?_, fun b u hb => ?_, fun b nm m t => tab_upd (S'.fr.tb b nm m t) ha noT_frz, fun g b ps z => by
      by_cases ne : b = a
      · rw [ne, g2] at z; cases z
      · rw [gn ne] at z; exact S'.fr.gt g b ps z⟩, S.len, fun j s w h1 h2 => ?_, S.dis, S.own, S.disD, S.ownD⟩
    · have ne : b ≠ a := fun z => by rw [z, g2] at hb; cases hb
      rw [upd_ne ne]
      rw [gn ne] at hb
      exact S'.ex b u hb
    · have ne : b ≠ a := fun z => by rw [z, hf] at hb; cases hb
      rw [gn ne]
      exact S'.fr.old b u hb
    · have ne : b ≠ a := fun z => by rw [z, hf] at hb; cases hb
      rw [upd_ne ne]
      exact S'.fr.kp b u hb np
    · have ne : b ≠ a := fun z => by rw [z, hf] at hb; cases hb
      rw [upd_ne ne]
      exact S'.fr.th b u hb
    · by_cases hj : j = i
      · subst hj
        rw [hi] at h1
        cases h1
        rw [e] at h2
        cases h2
        exact ⟨a, vs, rfl, g2, upd_same, RepK.up up hr⟩
      · have q0 := S.sl j s w h1 h2
        have q1 := S'.sl j s w (look j s hj h1) h2
        cases s with
        | un => cases w <;> trivial
        | fz d =>
          cases w with
          | none => exact q0
          | some y => exact Rep.up up q0
        | ow l es =>
          cases w with
          | none => exact q0
          | some y =>
            obtain ⟨p, us, rfl, k1, k2, k3⟩ := q1
            have ne : p ≠ a := fun z => by rw [z, ga] at k1; cases k1
            exact ⟨p, us, rfl, by rw [gn ne]; exact k1, by rw [upd_ne ne]; exact k2, RepL.flatIn k3 (fl j l es h1)⟩
        | od l es => exact absurd (one j l es h1) hj
  have rx2 : Rep K G2 v x := by
    cases x with
    | lst es =>
      cases rx with
      | lst hb rb =>
        rename_i b us
        have ne : b ≠ a := fun z => by rw [z, ga] at hb; cases hb
        exact .lst (by rw [gn ne]; exact hb) (RepL.flatIn rb lx)
    | _ => exact Rep.flatIn rx lx
  exact q v x ρ G2 _ p S4 rx2 up
end
end DL
namespace DL
open PySem PySem.Spec PyProof.Rows L2
open Evl (Ex)

/-! ### repr of any data, an empty dict too -/
inductive ScV : V → PyData → Prop
  | non : ScV .non .none
  | bl (b : Bool) : ScV (.bl b) (.bool b)
  | int (i : Int) : ScV (.int i) (.int i)
  | str (x : Str) : ScV (.str x) (.str x)
def rReprA (K : PySem.W.Frag) : List V → Hp → VK → Prop := fun xs H Q => rReprD K xs H Q ∨ (∃ v p, xs = [v] ∧ ScV v p ∧ p.showable = true ∧ p.shown.length ≤ sizeLine ∧ Q (.str p.shown) H) ∨ ∃ a, xs = [.ref a] ∧ Rd H a (.dK []) ∧ Q (.str "{}") H
theorem call_reprA {X : Cx} (quiet : X.A.guards = some []) (hu : X.A.units + 64 < cLine) : CallR X (.builtin "repr") (rReprA X.K) := by
  intro pins s σ H xs us Q I r h
  rcases h with h | ⟨v, p, rfl, sc, hs, hl, q⟩ | ⟨a, rfl, hd, q⟩
  · exact call_reprD quiet hu pins s σ H xs us Q I r h
  · obtain ⟨u, rfl, rx⟩ := vals1 r
    cases sc with
    | non =>
      obtain rfl : u = Value.none := rx
      exact PySem.P.repr_of_none ⟨.str _, H, I.tok _, ⟨_, rfl⟩, q⟩
    | bl b =>
      obtain rfl : u = Value.bool b := rx
      refine PySem.P.repr_of_bool ⟨.str _, H, I.tok _, ⟨_, rfl⟩, ?_⟩
      cases b <;> exact q
    | int i =>
      obtain ⟨t, rfl⟩ := rx
      exact PySem.P.repr_of_int (by simpa [PyData.showable] using hs) ⟨.str _, H, I.tok _, ⟨_, rfl⟩, q⟩
    | str x =>
      obtain ⟨t, rfl⟩ := rx
      exact PySem.P.repr_of_str (hsz := hl) ⟨.str _, H, I.tok _, ⟨_, rfl⟩, q⟩
  · obtain ⟨u, rfl, rx⟩ := vals1 r
    obtain rfl : u = Value.ref a := rx
    obtain ⟨_, ns, vs, kv, o, es, ep, ho, ⟨hc, _, _⟩, hdat, _, pr, _⟩ := dk_rd I.hok hd
    cases kv
    cases hes : es.toList with
    | cons _ _ => rw [hes] at pr; cases pr
    | nil =>
      have rd : Reads s.heap (.ref a) (.dict []) ([a] ++ []) := by
        refine Reads.dict (as := []) (bs := []) ho hc hdat ?_ ?_
        · rw [hes]; exact ReadsAll.nil
        · rw [hes]; exact ReadsAll.nil
      have hno : sysModules ∉ ([a] ++ [] : List Addr) := fun m => by
        have e : sysModules = a := by simpa using m
        rw [← e] at ns
        simp at ns
      exact repr_of_reads' rd (by rfl) (fun _ => hno) quiet (by show X.A.units + (PyData.depth (.dict []) + 1) < cLine; simp [PyData.depth, PyData.depthKv]; omega) (fun _ _ z => z) (fun h' u tk kept => ⟨.str _, H, I.kept (t' := tk) kept, ⟨_, rfl⟩, q⟩) (by decide +kernel)
def rpr : D → Str
  | .dkv _ => "{}"
  | d => match toPy d with
    | some p => p.shown
    | none => ""
def RprOk (d : D) : Prop := d = .dkv [] ∨ ∃ p, toPy d = some p ∧ p.showable = true ∧ p.hasDict = false ∧ p.depth ≤ 60 ∧ p.shown.length ≤ sizeLine
theorem rpr_of {d : D} {p : PyData} (h : toPy d = some p) : rpr d = p.shown := by
  cases d <;> first | (simp [toPy] at h; done) | (unfold rpr; dsimp only; rw [h])
/-! ### dict(list of pairs), own.pop(k) -/
abbrev rDictP (K : PySem.W.Frag) : List V → Hp → VK → Prop := fun xs H Q => ∃ (a : Addr) (ps : List Addr) (es : List (Key × V)), xs = [.ref a] ∧ SqL K H a (ps.map V.ref) ∧ Paired (fun p kv => SqT K H p [kV kv.1, kv.2]) ps es ∧ ∀ p, H p = none → Q (.ref p) (upd H p (.dK (mergeK [] es)))
def mergeD (ds : List (Key × D)) (more : List (Key × D)) : List (Key × D) := more.foldl (fun acc kv => putKD acc kv.1 kv.2) ds
def pairD (kv : Key × D) : D := .tup [kD kv.1, kv.2]
section
variable {K : PySem.W.Frag} {F : Fr} {ρ : Sls} {P : Sls → D → Prop} {PD : Sls → List (Key × D) → Prop} {te ty : TE} {t : TA} {O : Out}
theorem wC_reprA {d : D} (h : RprOk d) (p : P ρ (.str (rpr d))) : wC K F (rReprA K) [d] ρ P := fun σ G H vs S rs Q q => by
  cases rs with
  | cons r1 t1 =>
    cases t1
    rcases h with rfl | ⟨pd, h1, h2, h3, h4, h5⟩
    · cases r1 with
      | dkv ha hr =>
        cases hr
        rename_i a o
        exact .inr (.inr ⟨a, rfl, .inr ⟨o, S.ex _ _ ha⟩, q _ _ ρ G H p S (.str _) (Ex.refl G)⟩)
    · rw [rpr_of h1] at p
      have dp := Rep.dp S.ex _ _ _ r1 h1
      have qq := q _ _ ρ G H p S (.str _) (Ex.refl G)
      cases dp with
      | non => exact .inr (.inl ⟨_, _, rfl, .non, h2, h5, qq⟩)
      | bl b => exact .inr (.inl ⟨_, _, rfl, .bl b, h2, h5, qq⟩)
      | int i => exact .inr (.inl ⟨_, _, rfl, .int i, h2, h5, qq⟩)
      | str x => exact .inr (.inl ⟨_, _, rfl, .str x, h2, h5, qq⟩)
      | lst k1 k2 => exact .inl ⟨_, _, rfl, .lst k1 k2, h2, h3, h4, h5, qq⟩
      | tup k1 k2 => exact .inl ⟨_, _, rfl, .tup k1 k2, h2, h3, h4, h5, qq⟩
theorem repL_pairs {G : Hp} : ∀ {ds : List (Key × D)} {xs : List V}, RepL K G xs (ds.map pairD) → ∃ (ps : List Addr) (es : List (Key × V)), xs = ps.map V.ref ∧ Paired (fun p kv => SqT K G p [kV kv.1, kv.2]) ps es ∧ RepK K G es ds
  | [], _, h => by cases h; exact ⟨[], [], rfl, .nil, .nil⟩
  | kv :: ds, _, h => by
    cases h with
    | cons r t =>
      obtain ⟨ps, es, rfl, h1, h2⟩ := repL_pairs t
      obtain ⟨k, d⟩ := kv
      cases r with
      | tup ha hr =>
        cases hr with
        | cons r1 t1 =>
          cases t1 with
          | cons r2 t2 =>
            cases t2
            obtain rfl := r1.key (kD_key k)
            exact ⟨_ :: ps, (k, _) :: es, rfl, .cons ha h1, .cons r2 h2⟩
theorem RepK.merge {G : Hp} : ∀ {es : List (Key × V)} {ds : List (Key × D)}, RepK K G es ds → ∀ {as : List (Key × V)} {bs : List (Key × D)}, RepK K G as bs → RepK K G (mergeK as es) (mergeD bs ds)
  | _, _, .nil, _, _, h => h
  | _, _, .cons (k := k) (v := v) (d := d) (vs := vs) (ds := ds) r t, as, bs, h => by
    show RepK K G (mergeK (putK as k v) _) (mergeD (putKD bs k d) _)
    exact RepK.merge t (RepK.put h r)
theorem Paired.imp' {α β : Type} {R S : α → β → Prop} (h : ∀ a b, R a b → S a b) : ∀ {xs : List α} {ys : List β}, Paired R xs ys → Paired S xs ys
  | _, _, .nil => .nil
  | _, _, .cons r t => .cons (h _ _ r) (Paired.imp' h t)
theorem wD_dictP (h : wA K F t ρ fun ρ1 xs => ∃ ds : List (Key × D), xs = [.lst (ds.map pairD)] ∧ PD ρ1 (mergeD [] ds)) : wD K F (tCB (rDictP K) t) ρ PD := fun σ G H S Q q =>
  h σ G H S _ fun us xs ρ1 G1 H1 h1 S1 r1 e1 => by
    obtain ⟨ds, rfl, p⟩ := h1
    cases r1 with
    | cons r rr =>
      cases rr
      cases r with
      | lst ha hr =>
        rename_i a vs
        obtain ⟨ps, es, rfl, k1, k2⟩ := repL_pairs hr
        exact ⟨a, ps, es, rfl, SqL.of (S1.ex _ _ ha), Paired.imp' (fun _ _ z => Evl.ex_t S1.ex z) k1, fun b hb => q b _ _ ρ1 G1 _ p (S1.alloc hb) (OwnD.alloc S1 hb (RepK.merge k2 .nil)) e1⟩
theorem wS_dpop {i : Nat} (h0 : ∃ (l : Kd) (ds : List (Key × D)), ρ[i]? = some (.od l ds)) (h : wE K F ty ρ fun ρ1 y => ∃ (l : Kd) (ds : List (Key × D)) (k : Key) (d : D), ρ1[i]? = some (.od l ds) ∧ keyD y = some k ∧ atKD ds k = some d ∧ O.nx (ρ1.set i (.od l (dropKD ds k)))) : wS K F (tDrop (tDPop1 (tVar i) ty)) ρ O := fun σ G H S D1 k => by
  obtain ⟨l0, ds0, h0⟩ := h0
  obtain ⟨p, vs0, hp, hg0, hh0, hr0⟩ := S.od h0
  refine ⟨.ref p, hp, p, rfl, .inl ⟨_, .inl hh0⟩, h σ G H S _ fun vy y ρ2 G2 H2 h2 S2 r2 e2 => ?_⟩
  obtain ⟨l, ds, kk, d, hi, hk, hd, hn⟩ := h2
  obtain rfl := r2.key hk
  obtain ⟨p', vs, e', hg, hh, hr⟩ := S2.od hi
  rw [hp] at e'
  cases e'
  obtain ⟨v, hv, rv⟩ := hr.atSome hd
  exact ⟨vs, kk, v, hh, rfl, hv, k.nx _ _ G2 _ hn (S2.mutD hi hp hr.drop) e2⟩
end
end DL
namespace DL
open PySem L2
open Evl (Ex)
/-! ### methods that may raise, called anywhere -/
theorem FnOk.vacX {P : Program} {w : World} {K : PySem.W.Frag} {mg : Str → Option Value} {base : Heap} {k : Nat} {f : Addr} {fd : FuncData} {ps : List Str} {sp : Sp} (h : ∀ vs H Q E, ¬ sp vs H Q E) : FnOk P w K mg base (L2.CX P w) k f fd ps sp :=
  ⟨fun vs H Q E q => (h vs H Q E q).elim, fun A up s H gs us vs Q E _ _ _ _ q => (h vs H Q E q).elim⟩
theorem takes0 {X : Cx} : Takes X fun _ _ _ _ => False := fun _ _ h => (xe_no h).elim
section
variable {X : Cx} {k j : Nat} {m : Str} {pos apos : Pos} {e o : Expr} {es : List Expr} {ta : TE} {t : TA} {W : WX}
theorem pe_viaS {pl : Sem Bool} {Cs : List (Addr × Sp)} (c : ∀ z ∈ Cs, MCalleeX X.prog X.w X.K X.mg X.base k z.1 m z.2) (hr : Room j X.A) (hk : k ≤ j) (tk : Takes X W) (he : PE X o ta) (ha : PA X (e :: es) t)
    (hst : starEach (e :: es) X.env = (false, eval e X.env) :: starEach es X.env := by rfl) (hpl : (backTo pos (starEach es X.env)).any (·.1) = false := by rfl)
    (ht : eval (.Call (.Attribute o m apos) (e :: es) [] pos) X.env = (do
      let own ← eval o X.env
      standAt apos.atName
      let (f, one) ← holding [own] (getMethod own m pl)
      callWith pos f one (backTo pos (starEach (e :: es) X.env)) (backToKw pos (keywordEach [] X.env))) := by rfl) : PE X (.Call (.Attribute o m apos) (e :: es) [] pos) (tViaA Cs m W ta t) := by
  refine ⟨fun pins s σ H Q I h => PySem.W.methodCall_KW (pl := pl) (thn (he.run pins s σ H _ I h) fun u s1 ⟨v, H1, I1, rv, C, sp, a, dx, fs, hC, ev, ea, l, q⟩ => ?_) ht⟩
  subst ev
  obtain rfl : u = Value.ref a := rv
  obtain ⟨f, fd, ps, cl, me, F, b⟩ := (c _ hC).ex
  refine getmeth_ok I1 ea cl me l ?_
  refine PySem.W.callWith_K (h₀ := X.base) I1.ok.mod.kin me.kp (thn (ha.run pos pins _ σ H1 _ (I1.tok _) q) fun us s2 ⟨vs, H2, I2, r, q2⟩ => ⟨I2.kIn, ?_⟩) hst hpl
  exact run_fnS (E := WE W) (us := .ref a :: us) (vs := .ref a :: vs) F (hr.mono hk) b (passAt tk σ) I2 (.cons rfl r) q2
end
section
variable {K : PySem.W.Frag} {F : Fr} {ρ : Sls} {P : Sls → D → Prop} {ta : TE} {t : TA} {O : Out} {XS : Sls → Addr → List (Str × D) → Prop}
theorem wX_dropM {Cs : List (Addr × Sp)} {m : Str} (h : wE K F ta ρ fun ρ1 x => ∃ (C : Addr) (fs : List (Str × D)) (W0 : W0), x = .obj C fs ∧ (C, sp0 K W0) ∈ Cs ∧ fs.lookup m = none ∧ wA K F t ρ1 fun ρ2 ds => W0 (x :: ds) (RsP fun _ => O.nx ρ2) fun C' fs' => XS ρ2 C' fs') : wX K F (fun W => tDrop (tViaA Cs m W ta t)) ρ O XS := fun σ G H S D1 k W hW =>
  h σ G H S _ fun v x ρ1 G1 H1 h1 S1 r1 e1 => by
    obtain ⟨C, fs, W0, rfl, hC, n, hw⟩ := h1
    have r2 := r1
    cases r1 with
    | obj ha hf =>
      refine ⟨C, _, _, _, _, hC, rfl, S1.ex _ _ ha, hf.no n, hw σ G1 H1 S1 _ fun us ds ρ2 G2 H2 h2 S2 r3 e2 => ?_⟩
      refine ⟨G2, _, _, _, S2.ex, .cons (r2.up e2) r3, h2, fun r v G' H' hr T rr => ?_, fun C fs d G' H' fvs hX T hd rf n1 n2 => ?_⟩
      · obtain ⟨S3, e3⟩ := S2.after0 T
        have z : O.nx ρ2 := by cases r <;> exact hr
        exact k.nx ρ2 σ G' H' z S3 ((e1.trans e2).trans e3)
      · obtain ⟨S3, e3⟩ := S2.after0 T
        exact hW ρ2 C fs σ G' H' d fvs hX S3 ((e1.trans e2).trans e3) hd rf (S2.fr.fresh n1) n2
end
/-! ### len of a dict, locked or not -/
abbrev rLenRd : List V → Hp → VK → Prop := fun xs H Q => ∃ a kvs, xs = [V.ref a] ∧ Rd H a (.dK kvs) ∧ Q (.int (kvs.length : Nat)) H
theorem call_lenRd {X : Cx} : CallR X (.builtin "len") rLenRd := by
  intro pins s σ H xs us Q I r h
  obtain ⟨a, kvs, rfl, ha, q⟩ := h
  obtain ⟨u, rfl, ru⟩ := vals1 r
  cases ru
  exact d_len I ha fun t s' I' => ⟨.int kvs.length, H, I', ⟨t, rfl⟩, q⟩
end DL
namespace DL
open PySem L2
open Evl (Ex)

/-! ### a function that a def hands out, as a thing -/
section
variable {K : PySem.W.Frag} {F : Fr} {ρ : Sls} {P : Sls → D → Prop} {te ta : TE}
/-- the frame in which tables of codes may grow -/
def frT (T : List NdefX.NTab) (G H : Hp) : Fr := ⟨G, H, fun a => ∃ ps, H a = some (.tbl ps), fun a n => (a, n) ∈ T⟩
/-- tables may grow in F -/
def TbF (T : List NdefX.NTab) (F : Fr) : Prop := (∀ a ps, F.H0 a = some (.tbl ps) → F.P a) ∧ ∀ a n, F.M a n → (a, n) ∈ T
theorem SRel.afterT {G H G' H' : Hp} {σ : St} {TT : List NdefX.NTab} (hF : TbF TT F) (S : SRel K F G H σ ρ) (T : FrOk (frT TT G H) G' H') : SRel K F G' H' σ ρ ∧ Ex G G' := by
  have e : Ex G G' := T.grow0 S.ex
  have kp : ∀ p o, H p = some o → NoT o → H' p = some o := fun p o hh n => T.kp p o hh fun ⟨ps, z⟩ => by
    rw [hh] at z
    exact n.1 ps (Option.some.inj z)
  refine ⟨⟨⟨T.ex, S.fr.old2 T, fun a o h np => ?_, S.fr.th2 T, fun a nm m t => T.tb a nm (hF.2 a nm m) (S.fr.tb a nm m t), fun g => T.gt (S.fr.gt g)⟩, S.len, fun i s o h1 h2 => (S.sl i s o h1 h2).up e (fun p hg ⟨o, hh, n⟩ => (T.old1 hh n).trans hg) (fun p o hh n _ => kp p o hh n), S.dis, S.own, S.disD, S.ownD⟩, e⟩
  have q := S.fr.kp a o h np
  refine T.kp a o q fun ⟨ps, z⟩ => np (hF.1 a ps ?_)
  have z' : H a = some (.tbl ps) := z
  rw [q] at z'
  rw [h, Option.some.inj z']
theorem cellO_ok {P : Program} {w : World} {H : Hp} {h : Heap} {c b : Addr} (z : h.IsCell c (some (.ref b))) : ObjOk P w H h c (CellO c b) := by
  obtain ⟨o, ho, hd⟩ := z
  exact ⟨⟨o, ho, hd⟩, ⟨o, ho⟩, fun h1 h2 ⟨o1, k1, k2⟩ st => ⟨o1, st o1 k1, k2⟩⟩
theorem cellO_at {P : Program} {w : World} {H : Hp} {h : Heap} {c b : Addr} (hok : HOk P w H h) (e : H c = some (CellO c b)) : h.IsCell c (some (.ref b)) := by
  obtain ⟨z, _, _⟩ := hok c _ e
  exact z
theorem hok_del {P : Program} {w : World} {H : Hp} {h : Heap} {c b : Addr} (hok : HOk P w H h) (e : H c = some (CellO c b)) : HOk P w (delH H c) h := fun a o q => by
  have hne : ∀ x u, H x = some u → (∀ φ, u ≠ .ext φ) → x ≠ c := fun x u hx n z => by
    rw [z, e] at hx
    exact n _ (Option.some.inj hx).symm
  have na : a ≠ c := fun z => by
    rw [z, delH_same] at q
    cases q
  have q' : H a = some o := by
    have z : delH H c a = H a := if_neg na
    rw [← z]
    exact q
  exact (hok a o q').stay (fun _ _ _ z => z) (fun x hx => (show delH H c x = H x from if_neg (hne x _ hx fun φ y => nomatch y)).trans hx) fun x xs hx => (show delH H c x = H x from if_neg (hne x _ hx fun φ y => nomatch y)).trans hx
/-- what the made function does: a look into the dict that its cell holds -/
def spF : List (Option V) → Sp := fun ws vs H Q _ => ∃ (b : Addr) (o : Obj) (kvs : List (Key × V)) (k : Key) (v : V), ws = [some (.ref b)] ∧ vs = [kV k] ∧ H b = some (.frz o (.dK kvs)) ∧ valV kvs k = some v ∧ Q v H
/-- .. of the def statement st -/
def FnV (P : Program) (w : World) (K : PySem.W.Frag) (mg : Str → Option Value) (base : Heap) (k : Nat) (st : Stmt) (nm ql x y : Str) : Prop :=
  ∀ f c c', NdefX.NOk P w K mg base CX0 k f (NdefX.NF.of st nm ql [(x, c)] c') [y] [x] spF
/-- f(..), f a name that holds such a function -/
def tCallF (st : Stmt) (nm ql x : Str) (i : Nat) (t : TA) : TE := fun σ H Q => ∃ f c c' b, σ[i]? = some (some (.ref f)) ∧ H f = some (NdefX.FnO f (NdefX.NF.of st nm ql [(x, c)] c')) ∧
  t σ H fun vs H1 => H1 f = some (NdefX.FnO f (NdefX.NF.of st nm ql [(x, c)] c')) ∧ H1 c' = some (LamX.CodeO c' ql) ∧ H1 c = some (CellO c b) ∧ spF [some (.ref b)] vs H1 Q E0
theorem run_F {X : Cx} {pins : List (Addr × Obj)} {σ : St} {H : Hp} {s : Shared} {Q : VK} {k j : Nat} {st : Stmt} {nm ql x y : Str} {f c c' b : Addr} {us : List Value} {vs : List V} (Fn : FnV X.prog X.w X.K X.mg X.base k st nm ql x y) (hr : Room j X.A) (hk : k ≤ j)
    (I : Inv X pins σ H s) (h1 : H f = some (NdefX.FnO f (NdefX.NF.of st nm ql [(x, c)] c'))) (h2 : H c' = some (LamX.CodeO c' ql)) (h3 : H c = some (CellO c b)) (r : Vals vs us) (q : spF [some (.ref b)] vs H Q E0) :
    wpAny (model X.prog X.w) X.A (call (.ref f) us) (EP X pins σ Q) X.xe s := by
  have hc := cellO_at I.hok h3
  have e0 := I.env0
  have dn : ∀ a, H a = none → delH H c a = none := fun a z => by
    unfold delH
    split
    · rfl
    · exact z
  have de : ∀ {a : Addr} {o : HO}, H a = some o → a ≠ c → delH H c a = some o := fun {a o} z n => (show delH H c a = H a from if_neg n).trans z
  obtain ⟨b', o, kvs, kk, v, e1, e2, hb, hv, hq⟩ := q
  cases e1
  have nb : b ≠ c := fun z => by
    rw [z, h3] at hb
    cases hb
  -- f and c' are other things than the cell
  have look : ∀ a u, H a = some u → (∀ g : Heap, ObjOk X.prog X.w H g a u → ∀ w, ¬ g.IsCell a w) → a ≠ c := fun a u ha n z => by
    subst z
    exact n s.heap (I.hok a u ha) _ hc
  have nf : f ≠ c := look f _ h1 fun g ⟨⟨od, sl, d, p, t, z⟩, _⟩ w ⟨o1, k1, k2⟩ => by
    rw [z] at k1
    cases k1
    cases k2
  have nc : c' ≠ c := look c' _ h2 fun g ⟨⟨oc, vs1, t, z, z2, _⟩, _⟩ w ⟨o1, k1, k2⟩ => by
    rw [z] at k1
    cases k1
    rw [z2] at k2
    cases k2
  have env3 : Env0 X.prog X.w X.K X.mg X.base X.A X.stack s (delH H c) := ⟨e0.frames, e0.mod, fun a u z => ⟨(e0.bs a u z).1, dn a (e0.bs a u z).2⟩, e0.bsz, e0.funs, fun a z => dn a (e0.frf a z), hok_del e0.hok h3, e0.bare⟩
  have C : NdefX.CellsAt (NdefX.NF.of st nm ql [(x, c)] c').cl [x] [some (.ref b)] s.heap (delH H c) := by
    refine ⟨rfl, fun z a e => ?_, fun z1 z2 a e1 e2 => ?_, fun i z e => ?_⟩
    · have e' : [(x, c)].lookup z = some a := e
      simp only [List.lookup] at e'
      split at e'
      · cases e'
        exact ⟨delH_same, _, hc⟩
      · cases e'
    · have e1' : [(x, c)].lookup z1 = some a := e1
      have e2' : [(x, c)].lookup z2 = some a := e2
      simp only [List.lookup] at e1' e2'
      split at e1'
      · rename_i k1
        split at e2'
        · rename_i k2
          exact (eq_of_beq k1).trans (eq_of_beq k2).symm
        · cases e2'
      · cases e1'
    · cases i with
      | zero =>
        cases e
        refine ⟨c, ?_, fun u hu => ?_⟩
        · show [(x, c)].lookup x = some c
          simp [List.lookup]
        · cases hu
          exact ⟨.ref b, rfl, hc⟩
      | succ i => cases e
  refine wpAny_call (codeAny_mono ((Fn f c c').run X.A X.stack s (delH H c) us vs [some (.ref b)] (fun u H1 => u = v ∧ H1 = delH H c) E0 (hr.mono hk) env3 (de h1 nf) (de h2 nc) C r ⟨b, o, kvs, kk, v, rfl, e2, de hb nb, hv, rfl, rfl⟩) fun rs s' hq1 => ?_)
  cases rs with
  | error e => exact hq1.elim
  | ok fl =>
    cases fl with
    | ret u =>
      obtain ⟨v1, H1, os, bare, un, hok1, rv, rfl, rfl⟩ := hq1
      obtain ⟨oc, ho, hd⟩ := hc
      have cell1 : s'.heap.IsCell c (some (.ref b)) := by
        obtain ⟨sl, z⟩ := un.any ho delH_same (fun m => List.not_mem_nil m)
        exact ⟨_, z, hd⟩
      have same : upd (delH H c) c (CellO c b) = H := by
        funext a
        by_cases na : a = c
        · rw [na, upd_same, h3]
        · rw [upd_ne na]
          exact if_neg na
      have hok2 : HOk X.prog X.w H s'.heap := by
        have z := hok1.laidN (h' := s'.heap) (o := CellO c b) (fun _ _ y => y) delH_same (cellO_ok cell1)
        rw [same] at z
        exact z
      refine I.after (Q := Q) ⟨v1, H, os, bare, ⟨fun a u z n => un.keep a u z (dn a n), fun a u z n => un.slot a u z (dn a n), fun a u z n m => n, fun a u z => un.there a u z, fun _ _ z => z, fun _ _ _ z => z, fun _ ps z => ⟨#[], by rw [z]; simp⟩⟩, hok2, rv, hq⟩
    | next => exact hq1.elim
    | brk => exact hq1.elim
    | cont => exact hq1.elim
theorem pe_callF {X : Cx} {k j : Nat} {st : Stmt} {nm ql x y n : Str} {i : Nat} {e : Expr} {es : List Expr} {t : TA} {p pos : Pos} (Fn : FnV X.prog X.w X.K X.mg X.base k st nm ql x y) (hr : Room j X.A) (hk : k ≤ j) (hN : X.N[i]? = some n) (hv : Vis X.env.scope n) (ha : PA X (e :: es) t)
    (hd : (n == ("__debug__" : Str)) = false := by decide) (hcd : (n == ("__classdict__" : Str)) = false := by decide)
    (he : starEach (e :: es) X.env = (false, eval e X.env) :: starEach es X.env := by rfl) (hpl : (backTo pos (starEach es X.env)).any (·.1) = false := by rfl) :
    PE X (.Call (.Name n p) (e :: es) [] pos) (tCallF st nm ql x i t) := by
  constructor
  rintro pins s σ H Q I ⟨f, c, c', b, hs, hf, ht⟩
  have q1 := (pe_var (pos := p) hN hv hd hcd).run pins s σ H (fun u H1 => u = .ref f ∧ H1 = H) I ⟨.ref f, hs, rfl, rfl⟩
  refine wpAny_Call_Name_kw (thn q1 ?_)
  rintro u s1 ⟨v, H1, I1, r1, rfl, rfl⟩
  obtain rfl : u = Value.ref f := r1
  have q2 := ha.run pos pins s1 σ H1 _ I1 ht
  refine PySem.W.callWith_F (first := []) (NdefX.fnAt_of I1 hf) (thn q2 ?_) he hpl
  rintro us s2 ⟨vs, H2, I2, r, h1, h2, h3, q⟩
  exact ⟨NdefX.fnAt_of I2 h1, run_F Fn hr hk I2 h1 h2 h3 r q⟩
/-- its reading over data -/
theorem wE_callF {st : Stmt} {nm ql x : Str} {i : Nat} {t : TA} {ds : List (Key × D)} (h0 : ρ[i]? = some (.fz (.fn st nm ql x ds))) (h : wA K F t ρ fun ρ1 xs => ∃ y k d, xs = [y] ∧ keyD y = some k ∧ atKD ds k = some d ∧ P ρ1 d) : wE K F (tCallF st nm ql x i t) ρ P := fun σ G H S Q q => by
  obtain ⟨v, hs, rv⟩ := S.fz h0
  cases rv with
  | fn g1 g2 g3 g4 g5 =>
    rename_i f c' c b o kvs
    refine ⟨f, c, c', b, hs, S.ex _ _ g1, h σ G H S _ fun vs xs ρ1 G1 H1 h1 S1 r1 e1 => ?_⟩
    obtain ⟨y, k, d, rfl, hk, hd, p⟩ := h1
    cases r1 with
    | cons ry rn =>
      cases rn
      obtain rfl := ry.key hk
      obtain ⟨u, hu, ru⟩ := g5.atSome hd
      exact ⟨S1.ex _ _ (e1 _ _ g1), S1.ex _ _ (e1 _ _ g2), S1.ex _ _ (e1 _ _ g3), b, o, kvs, k, u, rfl, rfl, S1.ex _ _ (e1 _ _ g4), hu, q u d ρ1 G1 H1 p S1 (ru.up e1) e1⟩
end
end DL
namespace DL
open PySem L2
open Evl (Ex)

/-! ### a def that makes a def of its one argument and hands it out -/
def spG (K : PySem.W.Frag) (T : List NdefX.NTab) (st : Stmt) (nm ql x : Str) : Sp := fun vs H Q _ => ∃ (G : Hp) (v : V) (ds : List (Key × D)), vs = [v] ∧ Ex G H ∧ (∀ a ps, G a ≠ some (.tbl ps)) ∧ Rep K G v (.dkv ds) ∧ NdefX.TabsN T H ∧
  ∀ (u : V) (G' H' : Hp), FrOk (frT T G H) G' H' → Rep K G' u (.fn st nm ql x ds) → Q u H'
/-- what must be seen of the two defs' words -/
structure Hands (st0 st : Stmt) (x nm : Str) (pos : Pos) : Prop where
  sc : FnScope [x, nm] [x] (defScope st0)
  bd : ∃ p1 p2, defBody st0 = [st, .Return (some (.Name nm p1)) p2]
  eq : st = .FunctionDef nm (C8.fnArgs st) (C8.fnBody st) [] none [] (C8.fnScope st) none nm pos
  cl : ∀ n, cellsFrom n (defScope st0).names [] = [(x, n)]
  cf : ∀ c, cloFrom [(x, c)] (C8.fnScope st).names [] = [(x, c)]
  kx : (defScope st0).names.lookup x = some .cell
  kn : (defScope st0).names.lookup nm = some .local
  fr : ∀ y ∈ (C8.fnScope st).names, y.2 = .free → y.1 = x
  d0 : (C8.fnArgs st).defaults = []
  k0 : (C8.fnArgs st).kw_defaults = []
  an : ∀ env, annTrees (C8.fnArgs st) none env = []
  db : (nm == ("__debug__" : Str)) = false
  cd : (nm == ("__classdict__" : Str)) = false
section
variable {P : Program} {w : World} {K : PySem.W.Frag} {mg : Str → Option Value} {base : Heap}
/-- what the heap holds behind it -/
theorem hands_end {X : Cx} {T : List NdefX.NTab} {G H0 H1 : Hp} {st : Stmt} {nm ql x : Str} {f c' b : Addr} {o : Obj} {kvs : List (Key × V)} {ds : List (Key × D)} {σ : St} {s : Shared} {c : Addr} {Q : VK}
    (J : L2.Inv X [] σ H1 s) (hH : X.H_0 = H0) (hex : X.ex = []) (habove : X.s_0.heap.objs.size ≤ c)
    (hcx : X.env.cells.lookup x = some c) (hcell : s.heap.IsCell c (some (.ref b)))
    (eG : Ex G H0) (nt : ∀ a ps, G a ≠ some (.tbl ps)) (hb : G b = some (.frz o (.dK kvs))) (hr : RepK K G kvs ds)
    (eN : LamX.ExtN H0 H1) (nn : ∀ b, H1 b = none → H0 b = none) (T1 : NdefX.TabsN T H1) (f0 : H0 f = none) (f1 : H1 f = some (NdefX.FnO f (NdefX.NF.of st nm ql [(x, c)] c'))) (c1 : H1 c' = some (LamX.CodeO c' ql)) :
    (∃ G', FrOk (frT T G H0) G' (upd H1 c (CellO c b)) ∧ Rep K G' (.ref f) (.fn st nm ql x ds)) ∧ Un X.fs [] H0 (upd H1 c (CellO c b)) X.s_0.heap s.heap ∧ HOk X.prog X.w (upd H1 c (CellO c b)) s.heap := by
  have cn : H1 c = none := J.freeC x c hcx
  have c0 : H0 c = none := nn c cn
  have base0 := J.base
  rw [hH, hex] at base0
  have hc' := J.hok c' _ c1
  have hf := J.hok f _ f1
  have ncf : c ≠ f := fun z => by rw [z, f1] at cn; cases cn
  have ncc : c ≠ c' := fun z => by rw [z, c1] at cn; cases cn
  have nfc : f ≠ c' := fun z => by
    obtain ⟨⟨oc, vs1, t, y1, y2, _⟩, _⟩ := hc'
    obtain ⟨⟨od, sl, d, p, t, y⟩, _⟩ := hf
    rw [z, y1] at y
    cases y
    cases y2
  have keep : ∀ {a : Addr} {u : HO}, a ≠ c → H1 a = some u → upd H1 c (CellO c b) a = some u := fun {a u} n z => by rw [upd_ne n]; exact z
  -- an object that was there and is no table stands
  have old : ∀ a u, H0 a = some u → (∀ ps, u ≠ .tbl ps) → upd H1 c (CellO c b) a = some u := fun a u z n => keep (fun y => by rw [y, c0] at z; cases z) (eN a u z n)
  -- the code object, if it was tracked
  have was : ∀ u, H0 c' = some u → u = LamX.CodeO c' ql := fun u z => by
    by_cases ht : ∃ ps, u = .tbl ps
    · obtain ⟨ps, e⟩ := ht
      subst e
      obtain ⟨more, y⟩ := base0.tbls c' ps z
      rw [c1] at y
      unfold LamX.CodeO at y
      cases y
    · have y := eN c' u z fun ps e => ht ⟨ps, e⟩
      rw [c1] at y
      exact (Option.some.inj y).symm
  have isX1 : IsX (LamX.CodeO c' ql) := ⟨_, rfl⟩
  let G' : Hp := upd (upd (upd G f (NdefX.FnO f (NdefX.NF.of st nm ql [(x, c)] c'))) c (CellO c b)) c' (LamX.CodeO c' ql)
  have gf : G f = none := by
    cases e : G f with
    | none => rfl
    | some u => rw [eG f u e] at f0; cases f0
  have gc : G c = none := by
    cases e : G c with
    | none => rfl
    | some u => rw [eG c u e] at c0; cases c0
  have gk : ∀ a, a ≠ f → a ≠ c → a ≠ c' → G' a = G a := fun a n1 n2 n3 => by
    show upd _ c' _ a = _
    rw [upd_ne n3, upd_ne n2, upd_ne n1]
  have g1 : G' f = some (NdefX.FnO f (NdefX.NF.of st nm ql [(x, c)] c')) := by
    show upd _ c' _ f = _
    rw [upd_ne nfc, upd_ne ncf.symm, upd_same]
  have g2 : G' c = some (CellO c b) := by
    show upd _ c' _ c = _
    rw [upd_ne ncc, upd_same]
  have g3 : G' c' = some (LamX.CodeO c' ql) := upd_same
  have up : Ex G G' := fun a u z => by
    by_cases n1 : a = f
    · rw [n1, gf] at z; cases z
    by_cases n2 : a = c
    · rw [n2, gc] at z; cases z
    by_cases n3 : a = c'
    · subst n3
      rw [g3, was u (eG _ _ z)]
    · rw [gk a n1 n2 n3]; exact z
  refine ⟨⟨G', ⟨fun a u z => ?_, fun a u z => ?_, fun a u z np => ?_, fun a u z => ?_, fun a n m t => ?_, fun _ a ps z => ?_⟩, .fn g1 g3 g2 (up _ _ hb) (RepK.up up hr)⟩, ?_, ?_⟩
  · by_cases n1 : a = f
    · subst n1; rw [g1] at z; cases z; exact keep ncf.symm f1
    by_cases n2 : a = c
    · subst n2; rw [g2] at z; cases z; exact upd_same
    by_cases n3 : a = c'
    · subst n3; rw [g3] at z; cases z; exact keep ncc.symm c1
    · rw [gk a n1 n2 n3] at z
      exact old a u (eG a u z) fun ps e => nt a ps (by rw [← e]; exact z)
  · have z' : H0 a = some u := z
    have n1 : a ≠ f := fun e => by rw [e, f0] at z'; cases z'
    have n2 : a ≠ c := fun e => by rw [e, c0] at z'; cases z'
    by_cases n3 : a = c'
    · subst n3
      rw [was u z']
      cases e : G a with
      | none => exact .inr ⟨isX1, e⟩
      | some y => exact .inl (by show G' a = G a; rw [g3, e, was y (eG a y e)])
    · exact .inl (gk a n1 n2 n3)
  · exact old a u z fun ps e => np ⟨ps, by rw [← e]; exact z⟩
  · have z' : H0 a = some u := z
    by_cases ht : ∃ ps, u = .tbl ps
    · obtain ⟨ps, e⟩ := ht
      subst e
      obtain ⟨more, y⟩ := base0.tbls a ps z'
      exact ⟨_, keep (fun e => by rw [e, c0] at z'; cases z') y, fun ⟨_, k⟩ => nomatch k⟩
    · exact ⟨u, old a u z' fun ps e => ht ⟨ps, e⟩, id⟩
  · obtain ⟨ps, t1, t2, t3⟩ := T1 (a, n) m
    refine ⟨ps, keep (fun e => by rw [e, cn] at t1; cases t1) t1, t2, fun pos cv hcv => ?_⟩
    obtain ⟨k, k1, k2⟩ := t3 pos cv hcv
    exact ⟨k, k1, keep (fun e => by rw [e, cn] at k2; cases k2) k2⟩
  · by_cases n1 : a = f
    · subst n1; rw [g1] at z; cases z
    by_cases n2 : a = c
    · subst n2; rw [g2] at z; cases z
    by_cases n3 : a = c'
    · subst n3; rw [g3] at z; cases z
    · rw [gk a n1 n2 n3] at z
      exact nt a ps z
  · refine ⟨base0.keep, base0.slot, fun a u z n m => ?_, base0.there, fun a xs z => ?_, fun a u y z => ?_, fun a ps z => ?_⟩
    · rw [upd_ne fun e => by rw [e] at z; exact absurd (Heap.lt_size z) (Nat.not_lt.mpr habove)]
      exact base0.free a u z n m
    · exact keep (fun e => by rw [e, c0] at z; cases z) (base0.tups a xs z)
    · exact keep (fun e => by rw [e, c0] at z; cases z) (base0.frzs a u y z)
    · obtain ⟨more, y⟩ := base0.tbls a ps z
      exact ⟨more, keep (fun e => by rw [e, c0] at z; cases z) y⟩
  · exact J.hok.laidN (h' := s.heap) (fun _ _ y => y) cn (cellO_ok hcell)
end
end DL
namespace DL
open PySem L2
open Evl (Ex)
section
variable {P : Program} {w : World} {K : PySem.W.Frag} {mg : Str → Option Value} {base : Heap}
theorem cdAt_eq {f c : Addr} {oc : Value} {od : Option Addr} {fd : FuncData} {sl : Array (Option Value)} (h : cdAt K f c = true) (e : K.lookup f = some ⟨oc, od, .func fd, sl⟩) : fd.code = .ref c := by
  unfold cdAt at h
  rw [e] at h
  exact of_decide_eq_true h
/-- THE RULE for a def that makes a def and hands it out -/
theorem given_ok {T : List NdefX.NTab} {tn : Nat → Nat → Str} {k : Nat} {fname q0 : Str} {st0 st : Stmt} {nm x : Str} {pos : Pos} {f c0 tb : Addr} {fd : FuncData} (F : L2.Fun K fname q0 st0 f fd) (hco : cdAt K f c0 = true) (W : Hands st0 st x nm pos)
    (TB : LamX.TabB base mg c0 tb) (hm : (tb, tn) ∈ T) (hn : tn pos.line pos.col = q0 ++ ".<locals>." ++ nm) (hu : ∀ p ∈ T, p.1 = tb → p.2 = tn) :
    FnOk P w K mg base CX0 (k + 1) f fd [x] (spG K T st nm (q0 ++ ".<locals>." ++ nm) x) := by
  obtain ⟨oc, od, kV, doc, pm, an, cdv, ct, osl, rfl, lk, hcd⟩ := F.ex
  have ec : cdv = .ref c0 := cdAt_eq hco lk
  subst ec
  refine ⟨?len, ?run⟩
  case len =>
    rintro vs H Q E ⟨G, v, ds, rfl, _⟩
    rfl
  case run =>
    intro A outer s H args us vs Q E room e0 bnd rel want
    obtain ⟨G, v, ds, rfl, eG, nt, rv, hT, hQ⟩ := want
    have kin : K.In s.heap := e0.mod.kin.keeps fun b o z => (e0.bs b o z).1
    have limit : s.heap.NoLimit := e0.mod.nolimit.keeps fun b o z => (e0.bs b o z).1
    have kinds : ∀ y ∈ [x].zip us, (defScope st0).names.lookup y.1 = some .local ∨ ((defScope st0).names.lookup y.1 = some .cell ∧ ((cellsFrom (s.heap.objs.size + 1) (defScope st0).names []).lookup y.1).isSome = true) := by
      rintro ⟨n, u⟩ hy
      have hn : n = x := by simpa using (List.of_mem_zip hy).1
      subst hn
      exact .inr ⟨W.kx, PySem.W.cellsFrom_some _ _ _ (.inl W.kx)⟩
    have start1 := bnd
    refine codeAny_call_function room.depth (kin _ _ lk) rfl
      W.sc.co W.sc.gen rfl
      (PySem.W.codeRec_of kin hcd)
      (bnd _ _ _ _ ?_)
    refine wpAny_newFunctionEnv_cells W.sc.kind kinds ?_
    intro env henv s1 x1
    subst henv
    refine ⟨limit.keeps x1.toInCall.keep, codeAny_func ?_⟩
    let X : Cx := cxOf CX0 P w K mg base [x, nm] q0 (defScope st0) f (.ref c0) A outer s H E
    have I : L2.Inv X [] (start [x, nm] [v]) H s1 := inv_start W.sc room.hd e0 rfl rel x1
    have hcells : X.env.cells = [(x, s.heap.objs.size + 1)] := W.cl _
    have nd : ([x, nm] : List Str).Nodup := W.sc.nd
    have hfree : ∀ y ∈ (C8.fnScope st).names, y.2 = .free → X.env.scope.names.lookup y.1 = some .cell ∨ X.env.scope.names.lookup y.1 = some .free := fun y hy z => .inl (by rw [W.fr y hy z]; exact W.kx)
    have st1 := NdefX.ps_ndefMS (X := X) (T := T) (nm := tn) (i := 1) W.eq TB rfl hm hn hu hfree W.d0 W.k0 (W.an _) nd rfl (.inl W.kn) (.inl rfl)
    obtain ⟨p1, p2, hbd⟩ := W.bd
    rw [hbd]
    refine wpAny_execs_cons ?_
    refine wpAny_mono (st1.run [] s1 _ H { nx := fun σ' H1 => ∃ f' c', σ' = (start [x, nm] [v]).set 1 (some (.ref f')) ∧ LamX.ExtN H H1 ∧ (∀ b, H1 b = none → H b = none) ∧ NdefX.TabsN T H1 ∧ H f' = none ∧ H1 f' = some (NdefX.FnO f' (NdefX.NF.of st nm (X.env.qual ++ nm) (cloFrom X.env.cells (C8.fnScope st).names []) c')) ∧ H1 c' = some (LamX.CodeO c' (X.env.qual ++ nm)), rt := fun _ _ => False } I ⟨hT, fun f' c' H1 a1 a2 a3 a4 a5 a6 => ⟨f', c', rfl, a1, a2, a3, a4, a5, a6⟩⟩) ?_ (fun _ _ z => z)
    intro fl s2 hs
    cases fl with
    | ret u =>
      obtain ⟨_, _, _, _, _, z⟩ := hs
      exact z.elim
    | brk =>
      obtain ⟨_, _, _, z⟩ := hs
      exact z.elim
    | cont =>
      obtain ⟨_, _, _, z⟩ := hs
      exact z.elim
    | next =>
      obtain ⟨σ', H1, J, f', c', rfl, a1, a2, a3, a4, a5, a6⟩ := hs
      show wpAny _ _ (execs _ _) _ _ s2
      have hvis : Vis X.env.scope nm := .inl W.kn
      have ret := (pe_var (X := X) (i := 1) (pos := p1) rfl hvis W.db W.cd).run [] s2 _ H1 (fun u H2 => u = .ref f' ∧ H2 = H1) J ⟨.ref f', rfl, rfl, rfl⟩
      refine wpAny_execs_cons (wpAny_Return_some (wpAny_mono ret ?_ fun _ _ z => z))
      rintro u s3 ⟨v3, H3, J3, r3, rfl, rfl⟩
      obtain rfl : u = Value.ref f' := r3
      cases rv with
      | dkv hb hr =>
        rename_i b o kvs
        -- the cell
        obtain ⟨m, hns, hl⟩ := J3.loc
        obtain ⟨u, ru, lk2⟩ := hl 0 x (.ref b) rfl rfl (.inr (.inl W.kx))
        obtain rfl : u = Value.ref b := ru
        rcases lk2 with ⟨z, _⟩ | ⟨_, c, hc, hcell⟩
        · have z' : (defScope st0).names.lookup x = some .local := z
          rw [W.kx] at z'
          cases z'
        · have hcc := hc
          rw [hcells] at hcc
          have ecc : c = s.heap.objs.size + 1 := by
            simp only [List.lookup, beq_self_eq_true] at hcc
            exact (Option.some.inj hcc).symm
          have hcl : cloFrom X.env.cells (C8.fnScope st).names [] = [(x, c)] := by
            rw [hcells, ecc]
            exact W.cf _
          rw [hcl] at a5
          obtain ⟨⟨G', fr, rep⟩, un, hok⟩ := hands_end (T := T) (Q := Q) J3 rfl rfl (by rw [ecc]; exact Nat.le_succ _) hc hcell eG nt hb hr a1 a2 a3 a4 a5 a6
          exact ⟨.ref f', _, J3.os, J3.bare, un, hok, rfl, hQ _ G' _ fr rep⟩
end
end DL
namespace DL
open PySem L2 PyProof.Rows
open Evl (Ex)

/-! ### the law's own frame: tables of codes may grow in it -/
structure LawF (T : List NdefX.NTab) (F : Fr) : Prop where
  tb : TbF T F
  mm : ∀ p ∈ T, F.M p.1 p.2
  tt : NdefX.TabsN T F.H0
  gg : ∀ a ps, F.G0 a ≠ some (.tbl ps)
def spT (K : PySem.W.Frag) (T : List NdefX.NTab) (W : W0) : Sp := fun vs H Q E => ∃ (G : Hp) (ds : List D) (Φ : Rs → Prop) (X : XD), Ex G H ∧ RepL K G vs ds ∧ W ds Φ X ∧ (∀ a ps, G a ≠ some (.tbl ps)) ∧ NdefX.TabsN T H ∧
  (∀ (r : Rs) (v : V) (G' H' : Hp), Φ r → FrOk (frT T G H) G' H' → RsR K (frT T G H) G' H' v r → Q v H') ∧ EOk K (frT T G H) E X
section
variable {K : PySem.W.Frag} {F : Fr} {ρ : Sls} {P : Sls → D → Prop} {ta : TA} {T : List NdefX.NTab}
theorem srelT {N : List Str} {vs : List V} {ds : List D} {G H : Hp} (e : Ex G H) (r : RepL K G vs ds) : SRel K (frT T G H) G H (start N vs) (st0 N ds) := by
  have S := srel0 (N := N) e r
  refine ⟨⟨e, fun _ _ _ => .inl rfl, fun _ _ h _ => h, fun _ o h => ⟨o, h, id⟩, fun _ _ _ t => t, fun g => g⟩, S.len, S.sl, S.dis, ?_, S.disD, ?_⟩
  · intro i l di p h1
    rcases st0_get h1 with ⟨_, _, z⟩ | z <;> cases z
  · intro i l di p h1
    rcases st0_get h1 with ⟨_, _, z⟩ | z <;> cases z
theorem bodyT {W : W0} {t : TS} {N : List Str} {vs : List V} {H : Hp} {Q : VK} {E : XK} (h : spT K T W vs H Q E) (hb : ∀ (ds : List D) (Φ : Rs → Prop) (X : XD) (F : Fr), W ds Φ X → EOk K F E X → LawF T F → wS K F t (st0 N ds) (out0 Φ)) : t { nx := fun _ H' => Q .non H', rt := Q } (start N vs) H := by
  obtain ⟨G, ds, Φ, X, e, r, hW, hg, hT, hQ, hE⟩ := h
  have lf : LawF T (frT T G H) := ⟨⟨fun a ps z => ⟨ps, z⟩, fun a n z => z⟩, fun p z => z, hT, hg⟩
  exact hb ds Φ X (frT T G H) hW hE lf _ G H (srelT e r) _ ⟨fun ρ σ G' H' h S _ => hQ _ _ G' H' h S.fr .non, fun ρ σ G' H' v d h S _ rr => hQ _ v G' H' h S.fr rr, fun ρ σ G' H' p ws ds' h S _ h1 h2 h3 h4 => hQ _ _ G' H' h S.fr ⟨p, ws, rfl, h1, h2, h3, h4⟩, fun _ _ _ _ h => h.elim, fun _ _ _ _ h => h.elim⟩
theorem spT_len {W : W0} {vs : List V} {H : Hp} {Q : VK} {E : XK} {n : Nat} (hl : ∀ ds Φ X, W ds Φ X → ds.length = n) (h : spT K T W vs H Q E) : vs.length = n := by
  obtain ⟨G, ds, Φ, X, e, r, hW, _⟩ := h
  rw [r.length]
  exact hl ds Φ X hW
/-- the hand-out called -/
theorem wE_given {st : Stmt} {nm ql x : Str} {E : XK} (L : LawF T F) (h : wA K F ta ρ fun ρ1 xs => ∃ ds, xs = [.dkv ds] ∧ P ρ1 (.fn st nm ql x ds)) : wE K F (tCall (spG K T st nm ql x) [] E ta) ρ P := fun σ G H S Q q =>
  h σ G H S _ fun vs xs ρ1 G1 H1 h1 S1 r1 e1 => by
    rw [List.append_nil]
    obtain ⟨ds, rfl, p⟩ := h1
    cases r1 with
    | cons rv rn =>
      cases rn
      refine ⟨G1, _, ds, rfl, S1.ex, S1.fr.gt L.gg, rv, fun y hy => S1.fr.tb y.1 y.2 (L.mm y hy) (L.tt y hy), fun u G' H' T1 ru => ?_⟩
      obtain ⟨S2, e2⟩ := S1.afterT L.tb T1
      exact q u _ ρ1 G' H' p S2 ru (e1.trans e2)
end
/-- the made def: a look into the captured dict -/
theorem fnV_of {P : Program} {w : World} {K : PySem.W.Frag} {mg : Str → Option Value} {base : Heap} {st : Stmt} {nm ql x y : Str} {p1 p2 p3 p4 : Pos} (S : NdefX.NScope [y, x] [y] [x] (C8.fnScope st)) (hbd : C8.fnBody st = [.Return (some (.Subscript (.Name x p1) (.Name y p2) p3)) p4])
    (hb : ∀ (c c' : Addr) (doc pm ctv : Value) (us : List Value), us.length = [y].length → bindArgs ((NdefX.NF.of st nm ql [(x, c)] c').fd doc pm ctv) ⟨us, []⟩ = pure ([y].zip us))
    (d1 : (x == ("__debug__" : Str)) = false) (d2 : (x == ("__classdict__" : Str)) = false) (d3 : (y == ("__debug__" : Str)) = false) (d4 : (y == ("__classdict__" : Str)) = false) : FnV P w K mg base 2 st nm ql x y := by
  intro f c c'
  have fx : (C8.fnScope st).names.lookup x = some .free := S.frk x (List.mem_singleton.mpr rfl)
  have ly : (C8.fnScope st).names.lookup y = some .local := S.par y (List.mem_singleton.mpr rfl)
  refine NdefX.nok_of (k := 1) S (hb c c') ?len ?body
  case len =>
    rintro ws vs H Q E ⟨b, o, kvs, k, v, _, rfl, _⟩
    rfl
  case body =>
    intro A outer s H vs ws Q E room hf hc hl want
    obtain ⟨b, o, kvs, k, v, rfl, rfl, hb, hv, hq⟩ := want
    let X : Cx := NdefX.ncx CX0 P w K mg base [y, x] (NdefX.NF.of st nm ql [(x, c)] c') f A outer s H E
    have v1 : Vis X.env.scope x := .inr (.inr fx)
    have v2 : Vis X.env.scope y := .inl ly
    have e1 : PE X (.Name x p1) (tVar 1) := pe_var (i := 1) rfl v1 d1 d2
    have e2 : PE X (.Name y p2) (tVar 0) := pe_var (i := 0) rfl v2 d3 d4
    have hu : X.A.units + 1 < cLine := DL.units1 room
    have e3 : PE X (.Subscript (.Name x p1) (.Name y p2) p3) (tDGet (tVar 1) (tVar 0)) := pe_dget hu e1 e2 (fun _ _ => rfl)
    have e4 : PSs X (C8.fnBody st) (tRet (tDGet (tVar 1) (tVar 0))) := by
      rw [hbd]
      exact pss_one (ps_ret e3)
    refine ⟨_, e4, ?_⟩
    exact ⟨.ref b, rfl, kV k, rfl, b, v, rfl, .inl ⟨kvs, k, .inr ⟨o, hb⟩, rfl, hv.symm⟩, hq⟩
end DL
namespace DL
open PySem L2 PyProof.Rows
open Evl (Ex)

/-! ### the end of a law that has such a table -/
/-- a table that holds nothing yet -/
abbrev noCodes : Obj := { cls := .none, data := .fields #[] }
theorem law_spT (K : PySem.W.Frag) {T : List NdefX.NTab} {H : Hp} {a tb : Addr} {ns : List Int} (hl : ns.length ≤ 63) (hT : ∀ p ∈ T, p.1 = tb) (h : H tb = some (.tbl #[])) (ho : ∀ b u, H b = some u → b = tb ∨ ∃ o x, u = .frz o x) (hS : SqL K H a (ns.map V.int)) (na : a ≠ tb) :
    spT K T WLaw [.ref a] H (fun v _ => v = .bl true) fun _ _ _ => False := by
  have gne : ∀ {b : Addr} {u : HO}, H b = some u → b ≠ tb → delH H tb b = some u := fun {b u} z n => (show delH H tb b = H b from if_neg n).trans z
  have sq : SqL K (delH H tb) a (ns.map V.int) := by
    rcases hS with (z | ⟨o, z⟩) | z
    · exact .inl (.inl (gne z na))
    · exact .inl (.inr ⟨o, gne z na⟩)
    · exact .inr z
  refine ⟨delH H tb, [.scr ns], fun r => r = .fz (.bl true), X0, fun b u z => ?_, .cons (.scr sq) .nil, ⟨ns, hl, rfl, rfl⟩, fun b ps z => ?_, fun p hp => ?_, fun r v G' H' hr _ rr => ?_, eok0⟩
  · unfold delH at z
    split at z
    · cases z
    · exact z
  · unfold delH at z
    split at z
    · cases z
    · rename_i n
      rcases ho b _ z with y | ⟨o, x, y⟩
      · exact n y
      · cases y
  · have e := hT p hp
    obtain ⟨p1, p2⟩ := p
    have e : p1 = tb := e
    subst e
    exact NdefX.TabN.nil h
  · subst hr
    cases rr
    rfl
theorem law_goT {P : Program} {w : World} {K : PySem.W.Frag} {mg mb : Str → Option Value} {k : Nat} {fa a c0 tb : Addr} {fd : FuncData} {x : Str} {sp : Sp} {s : Shared} {vs : List Value} {ns : List Int}
    (kin : K.In s.heap) (hns : s.heap.Ns mainGlobals mg) (hb : s.heap.Ns builtinsNs mb) (hbb : ∀ x : Str, x ≠ "__name__" → mb x = bootBuiltins x) (lim : s.heap.NoLimit) (hg : s.gens = #[])
    (ht : s.heap.get? tb = some noCodes) (nt : K.lookup tb = none) (hc : PySem.W.codeHdIn K c0 tb = true)
    (hm : ∃ (bm : Addr) (ob : Obj), mg "__builtins__" = some (.ref bm) ∧ bm ≠ builtinsNs ∧ s.heap.get? bm = some ob ∧ ob.cls = .type "module" ∧ ob.dict = some builtinsNs ∧ ob.data = .plain)
    (ha : s.heap.get? a = some { cls := .type "list", data := .seq vs.toArray }) (hi : IntsAre vs ns) (hl : ns.length ≤ sizeLine) (hr : Room k callerA)
    (F : ∀ base : Heap, K.In base → base.Ns mainGlobals mg → LamX.TabB base mg c0 tb → FnG P w K mg base k fa fd [x] sp) (bind : ∀ (s : Shared) (u : Value), BindsTo s fd ⟨[u], []⟩ [(x, u)])
    (prom : ∀ H : Hp, H tb = some (.tbl #[]) → (∀ b u, H b = some u → b = tb ∨ ∃ o y, u = .frz o y) → SqL K H a (ns.map V.int) → a ≠ tb → sp [.ref a] H (fun v _ => v = .bl true) fun _ _ _ => False) :
    codeAny (model P w) callerA (.call (.ref fa) ⟨[.ref a], []⟩) (fun r s' => r = .ok (.ret (.bool true)) ∧ OldK s.heap s'.heap ∧ s'.os = s.os ∧ AllBare s'.gens) s := by
  obtain ⟨H0, only, seq, hok0, one⟩ := script_heap (P := P) (w := w) ha hi hl kin
  have na : a ≠ tb := fun z => by
    rw [z, ht] at ha
    cases ha
  have h0 : H0 tb = none := (one tb).elim id fun y => (na y.1.symm).elim
  -- the script and the table
  have hok : HOk P w (upd H0 tb (.tbl #[])) s.heap := hok0.laidN (h' := s.heap) (fun _ _ y => y) h0 ht
  have only2 : ∀ b u, upd H0 tb (.tbl #[]) b = some u → b = tb ∨ ∃ o y, u = .frz o y := fun b u z => by
    by_cases n : b = tb
    · exact .inl n
    · rw [upd_ne n] at z
      rcases one b with y | ⟨_, _, y⟩
      · rw [y] at z; cases z
      · rw [y] at z; cases z; exact .inr ⟨_, _, rfl⟩
  have seq2 : SqL K (upd H0 tb (.tbl #[])) a (ns.map V.int) := by
    rcases seq with (z | ⟨o, z⟩) | z
    · exact .inl (.inl (by rw [upd_ne na]; exact z))
    · exact .inl (.inr ⟨o, by rw [upd_ne na]; exact z⟩)
    · exact .inr z
  have plain : ∀ {b : Addr} {o : Obj}, s.heap.get? b = some o → b ≠ a ∨ K.lookup a ≠ none → b ≠ tb → (hidT s.heap (upd H0 tb (.tbl #[]))).get? b = some o := fun {b o} z ne n =>
    hidT_get z ((upd_ne n).trans ((one b).elim id fun y => ne.elim (fun m => (m y.1).elim) fun m => (m y.2.1).elim))
  have kinB : K.In (hidT s.heap (upd H0 tb (.tbl #[]))) := fun b o z => plain (kin b o z) (by
    by_cases y : b = a
    · exact .inr (by rw [← y, z]; exact fun q => nomatch q)
    · exact .inl y) fun y => by rw [y, nt] at z; cases z
  have dict : ∀ {b : Addr} {m : Str → Option Value}, s.heap.Ns b m → (hidT s.heap (upd H0 tb (.tbl #[]))).Ns b m := fun {b m} ⟨o, es, ep, z, d, r⟩ => ⟨o, es, ep, plain z (.inl fun y => by
    subst y
    rw [ha] at z
    cases z
    cases d) (fun y => by
    subst y
    rw [ht] at z
    cases z
    cases d), d, r⟩
  have gp : mainGlobals ≠ tb := fun z => by
    obtain ⟨o, es, ep, e, d, _⟩ := hns
    rw [z, ht] at e
    cases e
    cases d
  have bm : (hidT s.heap (upd H0 tb (.tbl #[]))).BuiltinsAt mg tb := by
    obtain ⟨m, ob, b1, b2, b3, b4, b5, b6⟩ := hm
    have n1 : m ≠ mainGlobals := fun q => by
      obtain ⟨o, es, ep, e, d, _⟩ := hns
      rw [q, e] at b3
      cases b3
      rw [d] at b6
      cases b6
    have n2 : m ≠ tb := fun q => by
      rw [q, ht] at b3
      cases b3
      cases b6
    have n3 : m ≠ a := fun q => by
      rw [q, ha] at b3
      cases b3
      cases b6
    exact ⟨m, ob, b1, b2, n1, n2, plain b3 (.inl n3) n2, b4, b5, b6⟩
  have tbb : LamX.TabB (hidT s.heap (upd H0 tb (.tbl #[]))) mg c0 tb := NdefX.tabB_of_K kinB hc bm gp
  have e0 : Env0 P w K mg (hidT s.heap (upd H0 tb (.tbl #[]))) callerA [] s (upd H0 tb (.tbl #[])) := ⟨rfl, ⟨kinB, dict hns, ⟨mb, dict hb, hbb⟩, lim.elim fun mc z => ⟨mc, dict z.1, z.2⟩⟩, fun b o z => of_hidT z, Nat.le_of_eq (hidT_size _ _), trivial, fun b z => (List.not_mem_nil z).elim, hok, .of_eq hg⟩
  refine codeAny_mono ((F _ kinB (dict hns) tbb).go callerA [] s _ ⟨[.ref a], []⟩ [.ref a] [.ref a] _ _ rfl hr e0 (bind s (.ref a)) (.cons rfl .nil) (prom _ upd_same only2 seq2 na)) fun r s2 z => ?_
  cases r with
  | error _ => exact z.elim
  | ok fl =>
    cases fl with
    | next => exact z.elim
    | brk => exact z.elim
    | cont => exact z.elim
    | ret u =>
      obtain ⟨v, H2, os, bare, un, hok2, rv, z⟩ := z
      obtain rfl : v = .bl true := z
      obtain rfl : u = Value.bool true := rv
      have grown : ∃ more : Array Value, s2.heap.get? tb = some { cls := .none, data := .fields more } := by
        obtain ⟨more, y⟩ := un.tbls tb #[] upd_same
        exact ⟨_, hok2 tb _ y⟩
      obtain ⟨more, hmore⟩ := grown
      have kept : ∀ b o, b ≠ tb → s.heap.get? b = some o → s2.heap.get? b = some o := fun b o n y => by
        rcases one b with q | ⟨_, _, q⟩
        · exact un.keep b o y ((upd_ne n).trans q) (fun m => List.not_mem_nil m) (fun m => List.not_mem_nil m)
        · have q' : upd H0 tb (.tbl #[]) b = _ := (upd_ne n).trans q
          have e1 := (hok b _ q').1
          have e2 := (hok2 b _ (un.frzs b _ _ q')).1
          rw [y] at e1
          rw [e2, e1]
      refine ⟨rfl, ⟨fun b o y => ?_, fun b o y => ?_⟩, os, bare⟩
      · by_cases n : b = tb
        · subst n
          rw [ht] at y
          cases y
          exact .inr (.inl ⟨((PySem.W.codeHd_of_K kin hc).tab ht).isCodeTable, rfl, #[], more, rfl, by rw [Array.empty_append]; exact hmore⟩)
        · exact .inl (kept b o n y)
      · by_cases n : b = tb
        · subst n
          exact ⟨_, hmore⟩
        · exact ⟨o, kept b o n y⟩
/-- the end of a law over a head that tells the table -/
theorem walk_goT {l : PySem.W.OpenLaw} {n k : Nat} {q : Program} {loose : List Str} {XP : (Str → Option Value) → Heap → Prop} {YP : World → Heap → Prop} {d : DefRec} {x : Str} {c0 tb : Addr} {T : List NdefX.NTab} (hT : ∀ p ∈ T, p.1 = tb) (hn : l.most = some n) (hn2 : n ≤ 63) (hdf : d.params.defaults = []) (hr : Room k callerA)
    (F : ∀ (w : World) (mg : Str → Option Value) (fa : Addr) (h : Heap), YP w h → h.Ns mainGlobals mg → mg d.name = some (.ref fa) →
      ∃ (K : PySem.W.Frag) (fd : FuncData), K.In h ∧ h.get? tb = some noCodes ∧ K.lookup tb = none ∧ PySem.W.codeHdIn K c0 tb = true ∧ (∀ (s : Shared) (u : Value), BindsTo s fd ⟨[u], []⟩ [(x, u)]) ∧
        ∀ base : Heap, K.In base → base.Ns mainGlobals mg → LamX.TabB base mg c0 tb → FnG l.prog w K mg base k fa fd [x] (spT K T WLaw)) :
    PySem.W.WalkO q loose XP YP l.row.toRowW d [] (fun f vs => PySem.call f vs) := by
  refine Att.attach_call hn hdf fun w s0 s1 mg mb fa o pm cd doc a vs ns G Y ho hd hcd hmg hobj hints hlen hg => ?_
  obtain ⟨K, fd, KX, h1, h2, h3, hb, hF⟩ := F w mg fa _ Y G.T.g hmg
  have small : ns.length ≤ sizeLine := Nat.le_trans (Nat.le_trans hlen hn2) (by decide)
  exact law_goT KX G.T.g G.T.b G.T.builtins G.T.nolimit hg h1 h2 h3 G.T.bmain hobj hints small hr hF hb fun H e1 e2 e3 e4 => law_spT _ (Nat.le_trans hlen hn2) hT e1 e2 e3 e4
end DL
namespace DL
open PySem L2
open Evl (Ex)
/-! ### list(own dict), sorted(texts) -/
abbrev rListKD : List V → Hp → VK → Prop := fun xs H Q => ∃ (a : Addr) (kvs : List (Key × V)), xs = [.ref a] ∧ Rd H a (.dK kvs) ∧ ∀ p, H p = none → Q (.ref p) (upd H p (.lst (kvs.map fun kv => kV kv.1)))
section
variable {K : PySem.W.Frag} {F : Fr} {ρ : Sls} {PO : Sls → List D → Prop}
theorem repL_keysV {G : Hp} : ∀ {vs : List (Key × V)} {ds : List (Key × D)}, RepK K G vs ds → RepL K G (vs.map fun kv => kV kv.1) (keysD ds)
  | _, _, .nil => .nil
  | _, _, .cons (k := k) r t => .cons (Rep.kD k) (repL_keysV t)
theorem wO_listOd {i : Nat} {l : Kd} {ds : List (Key × D)} (hi : ρ[i]? = some (.od l ds)) (p : PO ρ (keysD ds)) : wO K F (tCB rListKD (tCons (tVar i) tNil)) ρ PO := fun σ G H S Q q => by
  obtain ⟨a, vs, e, hg, hh, hr⟩ := S.od hi
  exact ⟨.ref a, e, a, vs, rfl, .inl hh, fun b hb => q b _ _ ρ G _ p (S.alloc hb) (.alloc S hb (repL_keysV hr)) (Ex.refl G)⟩
theorem wCO_sortS {xs : List Str} (hl : xs.length < 64) (p : ∀ ys : List Str, ys.Perm xs → PO ρ (ys.map .str)) : wCO K F (rSortedS K) [.lst (xs.map .str)] ρ PO := fun σ G H vs S rs Q q => by
  cases rs with
  | cons r rr =>
    cases rr
    cases r with
    | lst h1 h2 =>
      have e := RepL.strs h2
      subst e
      exact ⟨_, xs, rfl, SqL.of (S.ex _ _ h1), hl, fun ys b hp _ hb => q b _ _ ρ G _ (p ys hp) (S.alloc hb) (.alloc S hb (RepL.ofStrs ys)) (Ex.refl G)⟩
end
end DL
namespace DL
open PySem L2
open Evl (Ex)
theorem wG_lst3 {K : PySem.W.Frag} {F : Fr} {ρ : Sls} {i j k : Nat} {a b c : D} {PN : Sls → Prop} (p : PN (((ρ.set i (.fz a)).set j (.fz b)).set k (.fz c))) : wG K F (gLst K 3 (gCons (gName i) (gCons (gName j) (gCons (gName k) gNil)))) (.lst [a, b, c]) ρ PN := fun σ G H v S r Q q => by
  cases r with
  | lst h1 h2 =>
    cases h2 with
    | cons r1 rr =>
      cases rr with
      | cons r2 rr =>
        cases rr with
        | cons r3 rr =>
          cases rr
          exact ⟨_, _, rfl, SqL.of (S.ex _ _ h1), rfl, _, _, rfl, _, _, rfl, _, _, rfl, rfl, q _ _ G H p (((S.set r1).set r2).set r3) (Ex.refl G)⟩
end DL
namespace DL
open PySem L2
open Evl (Ex)
theorem wR_catT {K : PySem.W.Frag} {F : Fr} {ρ : Sls} {P : Sls → D → Prop} {a b : List D} (ha : a ≠ []) (hb : b ≠ []) (hl : a.length + b.length ≤ 100000) (p : P ρ (.tup (a ++ b))) : wR K F (rCatT K) (.tup a) (.tup b) ρ P := fun σ G H vx vy S rx ry Q q => by
  cases rx with
  | tup h1 h2 =>
    cases ry with
    | tup h3 h4 =>
      rename_i a1 xs b1 ys
      refine ⟨_, _, _, _, rfl, rfl, Evl.ex_t S.ex h1, Evl.ex_t S.ex h3, fun z => ?_, ?_, fun z => ?_, fun _ c hc => ?_⟩
      · subst z
        cases h2
        exact ha rfl
      · rw [h2.length, h4.length]
        exact Nat.le_trans hl (by decide)
      · subst z
        cases h4
        exact (hb rfl).elim
      · have S2 := S.new (o := .tup (xs ++ ys)) hc
        have e : Ex G (upd G c (.tup (xs ++ ys))) := Ex.new (S.fr.freshG hc)
        exact q _ _ ρ _ _ p S2 (.tup (.inl (.inl upd_same)) ((h2.append h4).up e)) e
end DL
namespace DL
open PySem L2
open Evl (Ex)
/-- x = o.m(..).n(), in a try: o.m may raise -/
theorem wX_setMM {K : PySem.W.Frag} {F : Fr} {ρ : Sls} {ta : TE} {t : TA} {O : Out} {XS : Sls → Addr → List (Str × D) → Prop} {i : Nat} {Cs Cs2 : List (Addr × Sp)} {m m2 : Str}
    (h : wE K F ta ρ fun ρ1 x => ∃ (C : Addr) (fs : List (Str × D)) (W0 : W0), x = .obj C fs ∧ (C, sp0 K W0) ∈ Cs ∧ fs.lookup m = none ∧ wA K F t ρ1 fun ρ2 ds =>
      W0 (x :: ds) (RsP fun y => ∃ (C2 : Addr) (fs2 : List (Str × D)) (W2 : DL.W0), y = .obj C2 fs2 ∧ (C2, sp0 K W2) ∈ Cs2 ∧ fs2.lookup m2 = none ∧ W2 [y] (RsP fun z => O.nx (ρ2.set i (.fz z))) X0) fun C' fs' => XS ρ2 C' fs') :
    wX K F (fun W => tAsg (tVia Cs2 m2 L2.E0 (tViaA Cs m W ta t)) (gName i)) ρ O XS := fun σ G H S D1 k W hW =>
  h σ G H S _ fun v x ρ1 G1 H1 h1 S1 r1 e1 => by
    obtain ⟨C, fs, W0, rfl, hC, n, hw⟩ := h1
    have r2 := r1
    cases r1 with
    | obj ha hf =>
      refine ⟨C, _, _, _, _, hC, rfl, S1.ex _ _ ha, hf.no n, hw σ G1 H1 S1 _ fun us ds ρ2 G2 H2 h2 S2 r3 e2 => ?_⟩
      refine ⟨G2, _, _, _, S2.ex, .cons (r2.up e2) r3, h2, fun r v G' H' hr T rr => ?_, fun C fs d G' H' fvs hX T hd rf n1 n2 => ?_⟩
      · obtain ⟨S3, e3⟩ := S2.after0 T
        cases r with
        | ow es =>
          obtain ⟨C2, fs2, W2, z, _⟩ := hr
          cases z
        | fz y =>
          obtain ⟨C2, fs2, W2, rfl, hC2, n2, hw2⟩ := hr
          have rr' : Rep K G' v (.obj C2 fs2) := rr
          have r4 := rr'
          cases rr' with
          | obj hb hg => exact ⟨C2, _, _, _, _, hC2, rfl, S3.ex _ _ hb, hg.no n2, sp_E (P := fun _ z => O.nx (ρ2.set i (.fz z))) S3 (.cons r4 .nil) hw2 eok0 fun u d G4 H4 p S4 r5 e4 => k.nx _ _ G4 H4 p (S4.set r5) (((e1.trans e2).trans e3).trans e4)⟩
      · obtain ⟨S3, e3⟩ := S2.after0 T
        exact hW ρ2 C fs σ G' H' d fvs hX S3 ((e1.trans e2).trans e3) hd rf (S2.fr.fresh n1) n2
end DL
namespace DL
open PySem L2
open Evl (Ex)
/-! ### a display of texts by texts -/
abbrev trsS (l : List (Str × Str)) : List (TE × TE) := l.map fun p => (tC (.str p.1), tC (.str p.2))
theorem tPairs_strs {σ : St} {H : Hp} : ∀ {l : List (Str × Str)} {Q : List (V × V) → Hp → Prop}, Q (l.map fun p => (V.str p.1, V.str p.2)) H → tPairs (trsS l) σ H Q
  | [], _, h => h
  | p :: r, Q, h => tPairs_strs (l := r) (Q := fun ps H3 => Q ((V.str p.1, V.str p.2) :: ps) H3) h
theorem repK_strs {K : PySem.W.Frag} {G : Hp} : ∀ l : List (Str × Str), RepK K G (l.map fun p => ((.inr p.1 : Key), V.str p.2)) (l.map fun p => ((.inr p.1 : Key), D.str p.2))
  | [] => .nil
  | p :: r => .cons (.str p.2) (repK_strs r)
theorem wD_dispS {K : PySem.W.Frag} {F : Fr} {ρ : Sls} {PD : Sls → List (Key × D) → Prop} {l : List (Str × Str)} (hl : l.length ≤ 15) (p : PD ρ (mergeD [] (l.map fun p => ((.inr p.1 : Key), D.str p.2)))) : wD K F (tDisp (trsS l)) ρ PD := fun σ G H S Q q a ha => by
  refine tPairs_strs ⟨upd_same, l.map fun p => ((.inr p.1 : Key), V.str p.2), ?_, by rw [List.length_map]; exact hl, ?_⟩
  · rw [List.map_map]
    rfl
  · rw [upd_upd]
    exact q a _ _ ρ G _ p (S.alloc ha) (OwnD.alloc S ha (RepK.merge (repK_strs l) .nil)) (Ex.refl G)
end DL
namespace DL
open PySem L2
open Evl (Ex)
/-! ### what a slot holds is forgotten -/
section
variable {K : PySem.W.Frag} {F : Fr} {ρ : Sls} {ts : TS} {O : Out}
theorem get_un {i j : Nat} {s : Sl} (h : (ρ.set i .un)[j]? = some s) : s = .un ∨ ρ[j]? = some s := by
  by_cases e : i = j
  · subst e
    rw [List.getElem?_set] at h
    simp only [if_pos] at h
    split at h
    · exact .inl (Option.some.inj h).symm
    · cases h
  · rw [List.getElem?_set_ne e] at h
    exact .inr h
theorem SRel.forget {G H : Hp} {σ : St} (S : SRel K F G H σ ρ) (i : Nat) : SRel K F G H σ (ρ.set i .un) := by
  refine ⟨S.fr, by rw [List.length_set]; exact S.len, fun j s o h1 h2 => ?_, fun a b p l m da db h1 h2 => ?_, fun j l ds p h1 => ?_, fun a b p l m da db h1 h2 => ?_, fun j l ds p h1 => ?_⟩
  · rcases get_un h1 with rfl | h1
    · cases o <;> trivial
    · exact S.sl j s o h1 h2
  · rcases get_un h1 with z | h1
    · cases z
    rcases get_un h2 with z | h2
    · cases z
    exact S.dis a b p l m da db h1 h2
  · rcases get_un h1 with z | h1
    · cases z
    exact S.own j l ds p h1
  · rcases get_un h1 with z | h1
    · cases z
    rcases get_un h2 with z | h2
    · cases z
    exact S.disD a b p l m da db h1 h2
  · rcases get_un h1 with z | h1
    · cases z
    exact S.ownD j l ds p h1
theorem wS_un (i : Nat) (h : wS K F ts (ρ.set i .un) O) : wS K F ts ρ O := fun σ G H S D1 k => h σ G H (S.forget i) D1 k
/-- several at once -/
theorem wS_uns (is : List Nat) (h : wS K F ts (is.foldl (fun r i => r.set i .un) ρ) O) : wS K F ts ρ O := by
  induction is generalizing ρ with
  | nil => exact h
  | cons i r ih => exact wS_un i (ih h)
end
end DL
namespace DL
open PySem L2
open Evl (Ex)
/-! ### a dict locked for good, if it isn't yet -/
def tFzM (te : TE) : TE := fun σ H Q => te σ H fun v H1 => (∃ (a : Addr) (kvs : List (Key × V)), v = .ref a ∧ H1 a = some (.dK kvs) ∧ ∀ o, Q v (upd H1 a (.frz o (.dK kvs)))) ∨ Q v H1
theorem pe_fzM {X : Cx} {e : Expr} {t : TE} (h : PE X e t) : PE X e (tFzM t) := by
  constructor
  intro pins s σ H Q I hw
  refine thn (h.run pins s σ H _ I hw) ?_
  rintro v s1 ⟨x, H1, I2, r, ⟨a, kvs, ex, ha, q⟩ | q⟩
  · obtain ⟨od, I3⟩ := I2.lock ha True.intro
    exact ⟨x, _, I3, r, q od⟩
  · exact ⟨x, H1, I2, r, q⟩
section
variable {K : PySem.W.Frag} {F : Fr} {ρ : Sls} {P : Sls → D → Prop}
/-- .. an own dict -/
theorem wE_fzMo {i : Nat} {ds : List (Key × D)} (h : ρ[i]? = some (.od .loc ds)) (p : P (ρ.set i (.fz (.dkv ds))) (.dkv ds)) : wE K F (tFzM (tVar i)) ρ P := fun σ G H S Q q => by
  obtain ⟨v, e, a, kvs, z⟩ := (wE_fzV h p) σ G H S Q q
  exact ⟨v, e, .inl ⟨a, kvs, z⟩⟩
/-- .. one that is locked -/
theorem wE_fzMf {i : Nat} {d : D} (h : ρ[i]? = some (.fz d)) (p : P ρ d) : wE K F (tFzM (tVar i)) ρ P := fun σ G H S Q q => by
  obtain ⟨v, e, z⟩ := (wE_var h p) σ G H S Q q
  exact ⟨v, e, .inr z⟩
end
end DL
namespace K26
open PySem L2 DL
open Evl (Ex)
abbrev N_is_whole : List Str := ["thing"]
theorem sc_is_whole : FnScope N_is_whole ["thing"] (defScope s_is_whole) := ⟨rfl, rfl, rfl, by decide +kernel, rfl, by decide +kernel, by decide +kernel⟩
abbrev N_is_within : List Str := ["thing", "low", "high"]
theorem sc_is_within : FnScope N_is_within ["thing", "low", "high"] (defScope s_is_within) := ⟨rfl, rfl, rfl, by decide +kernel, rfl, by decide +kernel, by decide +kernel⟩
abbrev N_is_name : List Str := ["thing", "sign"]
theorem sc_is_name : FnScope N_is_name ["thing"] (defScope s_is_name) := ⟨rfl, rfl, rfl, by decide +kernel, rfl, by decide +kernel, by decide +kernel⟩
abbrev N_is_pointed : List Str := ["thing", "part"]
theorem sc_is_pointed : FnScope N_is_pointed ["thing"] (defScope s_is_pointed) := ⟨rfl, rfl, rfl, by decide +kernel, rfl, by decide +kernel, by decide +kernel⟩
abbrev N_is_value : List Str := ["thing"]
theorem sc_is_value : FnScope N_is_value ["thing"] (defScope s_is_value) := ⟨rfl, rfl, rfl, by decide +kernel, rfl, by decide +kernel, by decide +kernel⟩
abbrev N_value_text : List Str := ["value"]
theorem sc_value_text : FnScope N_value_text ["value"] (defScope s_value_text) := ⟨rfl, rfl, rfl, by decide +kernel, rfl, by decide +kernel, by decide +kernel⟩
abbrev N__is_number_text : List Str := ["text", "figures", "sign"]
theorem sc__is_number_text : FnScope N__is_number_text ["text"] (defScope s__is_number_text) := ⟨rfl, rfl, rfl, by decide +kernel, rfl, by decide +kernel, by decide +kernel⟩
abbrev N_value_of : List Str := ["thing", "number"]
theorem sc_value_of : FnScope N_value_of ["thing"] (defScope s_value_of) := ⟨rfl, rfl, rfl, by decide +kernel, rfl, by decide +kernel, by decide +kernel⟩
abbrev N_name_for : List Str := ["name", "names"]
theorem sc_name_for : FnScope N_name_for ["name", "names"] (defScope s_name_for) := ⟨rfl, rfl, rfl, by decide +kernel, rfl, by decide +kernel, by decide +kernel⟩
abbrev N_ops_told : List Str := []
theorem sc_ops_told : FnScope N_ops_told [] (defScope s_ops_told) := ⟨rfl, rfl, rfl, by decide +kernel, rfl, by decide +kernel, by decide +kernel⟩
abbrev N__takes : List Str := ["op", "one", "other"]
theorem sc__takes : FnScope N__takes ["op", "one", "other"] (defScope s__takes) := ⟨rfl, rfl, rfl, by decide +kernel, rfl, by decide +kernel, by decide +kernel⟩
abbrev N__outcome : List Str := ["op", "one", "other"]
theorem sc__outcome : FnScope N__outcome ["op", "one", "other"] (defScope s__outcome) := ⟨rfl, rfl, rfl, by decide +kernel, rfl, by decide +kernel, by decide +kernel⟩
abbrev N_reckoned : List Str := ["op", "one", "other", "value"]
theorem sc_reckoned : FnScope N_reckoned ["op", "one", "other"] (defScope s_reckoned) := ⟨rfl, rfl, rfl, by decide +kernel, rfl, by decide +kernel, by decide +kernel⟩
abbrev N_contrary : List Str := ["one"]
theorem sc_contrary : FnScope N_contrary ["one"] (defScope s_contrary) := ⟨rfl, rfl, rfl, by decide +kernel, rfl, by decide +kernel, by decide +kernel⟩
abbrev N_Name_told : List Str := ["self"]
theorem sc_Name_told : FnScope N_Name_told ["self"] (defScope s_Name_told) := ⟨rfl, rfl, rfl, by decide +kernel, rfl, by decide +kernel, by decide +kernel⟩
abbrev N_Value_told : List Str := ["self"]
theorem sc_Value_told : FnScope N_Value_told ["self"] (defScope s_Value_told) := ⟨rfl, rfl, rfl, by decide +kernel, rfl, by decide +kernel, by decide +kernel⟩
abbrev N_Two_told : List Str := ["self"]
theorem sc_Two_told : FnScope N_Two_told ["self"] (defScope s_Two_told) := ⟨rfl, rfl, rfl, by decide +kernel, rfl, by decide +kernel, by decide +kernel⟩
abbrev N_Not_told : List Str := ["self"]
theorem sc_Not_told : FnScope N_Not_told ["self"] (defScope s_Not_told) := ⟨rfl, rfl, rfl, by decide +kernel, rfl, by decide +kernel, by decide +kernel⟩
abbrev N_Pick_told : List Str := ["self"]
theorem sc_Pick_told : FnScope N_Pick_told ["self"] (defScope s_Pick_told) := ⟨rfl, rfl, rfl, by decide +kernel, rfl, by decide +kernel, by decide +kernel⟩
abbrev N_Name_levels : List Str := ["self"]
theorem sc_Name_levels : FnScope N_Name_levels ["self"] (defScope s_Name_levels) := ⟨rfl, rfl, rfl, by decide +kernel, rfl, by decide +kernel, by decide +kernel⟩
abbrev N_Value_levels : List Str := ["self"]
theorem sc_Value_levels : FnScope N_Value_levels ["self"] (defScope s_Value_levels) := ⟨rfl, rfl, rfl, by decide +kernel, rfl, by decide +kernel, by decide +kernel⟩
abbrev N_Two_levels : List Str := ["self"]
theorem sc_Two_levels : FnScope N_Two_levels ["self"] (defScope s_Two_levels) := ⟨rfl, rfl, rfl, by decide +kernel, rfl, by decide +kernel, by decide +kernel⟩
abbrev N_Not_levels : List Str := ["self"]
theorem sc_Not_levels : FnScope N_Not_levels ["self"] (defScope s_Not_levels) := ⟨rfl, rfl, rfl, by decide +kernel, rfl, by decide +kernel, by decide +kernel⟩
abbrev N_Pick_levels : List Str := ["self"]
theorem sc_Pick_levels : FnScope N_Pick_levels ["self"] (defScope s_Pick_levels) := ⟨rfl, rfl, rfl, by decide +kernel, rfl, by decide +kernel, by decide +kernel⟩
abbrev N_Name_words : List Str := ["self"]
theorem sc_Name_words : FnScope N_Name_words ["self"] (defScope s_Name_words) := ⟨rfl, rfl, rfl, by decide +kernel, rfl, by decide +kernel, by decide +kernel⟩
abbrev N_Value_words : List Str := ["self"]
theorem sc_Value_words : FnScope N_Value_words ["self"] (defScope s_Value_words) := ⟨rfl, rfl, rfl, by decide +kernel, rfl, by decide +kernel, by decide +kernel⟩
abbrev N_Two_words : List Str := ["self"]
theorem sc_Two_words : FnScope N_Two_words ["self"] (defScope s_Two_words) := ⟨rfl, rfl, rfl, by decide +kernel, rfl, by decide +kernel, by decide +kernel⟩
abbrev N_Not_words : List Str := ["self"]
theorem sc_Not_words : FnScope N_Not_words ["self"] (defScope s_Not_words) := ⟨rfl, rfl, rfl, by decide +kernel, rfl, by decide +kernel, by decide +kernel⟩
abbrev N_Pick_words : List Str := ["self"]
theorem sc_Pick_words : FnScope N_Pick_words ["self"] (defScope s_Pick_words) := ⟨rfl, rfl, rfl, by decide +kernel, rfl, by decide +kernel, by decide +kernel⟩
abbrev N__inner : List Str := ["thing"]
theorem sc__inner : FnScope N__inner ["thing"] (defScope s__inner) := ⟨rfl, rfl, rfl, by decide +kernel, rfl, by decide +kernel, by decide +kernel⟩
abbrev N_Name_init : List Str := ["self", "name"]
theorem sc_Name_init : FnScope N_Name_init ["self", "name"] (defScope s_Name_init) := ⟨rfl, rfl, rfl, by decide +kernel, rfl, by decide +kernel, by decide +kernel⟩
abbrev N_Value_init : List Str := ["self", "value"]
theorem sc_Value_init : FnScope N_Value_init ["self", "value"] (defScope s_Value_init) := ⟨rfl, rfl, rfl, by decide +kernel, rfl, by decide +kernel, by decide +kernel⟩
abbrev N_Two_init : List Str := ["self", "op", "one", "other"]
theorem sc_Two_init : FnScope N_Two_init ["self", "op", "one", "other"] (defScope s_Two_init) := ⟨rfl, rfl, rfl, by decide +kernel, rfl, by decide +kernel, by decide +kernel⟩
abbrev N_Not_init : List Str := ["self", "one"]
theorem sc_Not_init : FnScope N_Not_init ["self", "one"] (defScope s_Not_init) := ⟨rfl, rfl, rfl, by decide +kernel, rfl, by decide +kernel, by decide +kernel⟩
abbrev N_Pick_init : List Str := ["self", "by", "one", "other"]
theorem sc_Pick_init : FnScope N_Pick_init ["self", "by", "one", "other"] (defScope s_Pick_init) := ⟨rfl, rfl, rfl, by decide +kernel, rfl, by decide +kernel, by decide +kernel⟩
abbrev N__made_of : List Str := ["told", "shape"]
theorem sc__made_of : FnScope N__made_of ["told"] (defScope s__made_of) := ⟨rfl, rfl, rfl, by decide +kernel, rfl, by decide +kernel, by decide +kernel⟩
abbrev N_term_of : List Str := ["told"]
theorem sc_term_of : FnScope N_term_of ["told"] (defScope s_term_of) := ⟨rfl, rfl, rfl, by decide +kernel, rfl, by decide +kernel, by decide +kernel⟩
abbrev N_Name_renamed : List Str := ["self", "names"]
theorem sc_Name_renamed : FnScope N_Name_renamed ["self", "names"] (defScope s_Name_renamed) := ⟨rfl, rfl, rfl, by decide +kernel, rfl, by decide +kernel, by decide +kernel⟩
abbrev N_Value_renamed : List Str := ["self", "names"]
theorem sc_Value_renamed : FnScope N_Value_renamed ["self", "names"] (defScope s_Value_renamed) := ⟨rfl, rfl, rfl, by decide +kernel, rfl, by decide +kernel, by decide +kernel⟩
abbrev N_Two_renamed : List Str := ["self", "names"]
theorem sc_Two_renamed : FnScope N_Two_renamed ["self", "names"] (defScope s_Two_renamed) := ⟨rfl, rfl, rfl, by decide +kernel, rfl, by decide +kernel, by decide +kernel⟩
abbrev N_Not_renamed : List Str := ["self", "names"]
theorem sc_Not_renamed : FnScope N_Not_renamed ["self", "names"] (defScope s_Not_renamed) := ⟨rfl, rfl, rfl, by decide +kernel, rfl, by decide +kernel, by decide +kernel⟩
abbrev N_Pick_renamed : List Str := ["self", "names"]
theorem sc_Pick_renamed : FnScope N_Pick_renamed ["self", "names"] (defScope s_Pick_renamed) := ⟨rfl, rfl, rfl, by decide +kernel, rfl, by decide +kernel, by decide +kernel⟩
abbrev N_Name_reckoned_by : List Str := ["self", "values"]
theorem sc_Name_reckoned_by : FnScope N_Name_reckoned_by ["self", "values"] (defScope s_Name_reckoned_by) := ⟨rfl, rfl, rfl, by decide +kernel, rfl, by decide +kernel, by decide +kernel⟩
abbrev N_Value_reckoned_by : List Str := ["self", "values"]
theorem sc_Value_reckoned_by : FnScope N_Value_reckoned_by ["self", "values"] (defScope s_Value_reckoned_by) := ⟨rfl, rfl, rfl, by decide +kernel, rfl, by decide +kernel, by decide +kernel⟩
abbrev N_Two_reckoned_by : List Str := ["self", "values", "one", "word", "other"]
theorem sc_Two_reckoned_by : FnScope N_Two_reckoned_by ["self", "values"] (defScope s_Two_reckoned_by) := ⟨rfl, rfl, rfl, by decide +kernel, rfl, by decide +kernel, by decide +kernel⟩
abbrev N_Not_reckoned_by : List Str := ["self", "values", "one", "word"]
theorem sc_Not_reckoned_by : FnScope N_Not_reckoned_by ["self", "values"] (defScope s_Not_reckoned_by) := ⟨rfl, rfl, rfl, by decide +kernel, rfl, by decide +kernel, by decide +kernel⟩
abbrev N_Pick_reckoned_by : List Str := ["self", "values", "came", "term", "value", "word", "by", "one", "other"]
theorem sc_Pick_reckoned_by : FnScope N_Pick_reckoned_by ["self", "values"] (defScope s_Pick_reckoned_by) := ⟨rfl, rfl, rfl, by decide +kernel, rfl, by decide +kernel, by decide +kernel⟩
abbrev N__word_at : List Str := ["words", "at"]
theorem sc__word_at : FnScope N__word_at ["words", "at"] (defScope s__word_at) := ⟨rfl, rfl, rfl, by decide +kernel, rfl, by decide +kernel, by decide +kernel⟩
abbrev N__behind : List Str := ["words", "at", "word"]
theorem sc__behind : FnScope N__behind ["words", "at", "word"] (defScope s__behind) := ⟨rfl, rfl, rfl, by decide +kernel, rfl, by decide +kernel, by decide +kernel⟩
abbrev N__pick_at : List Str := ["words", "at", "room", "by", "one", "other"]
theorem sc__pick_at : FnScope N__pick_at ["words", "at", "room", "by"] (defScope s__pick_at) := ⟨rfl, rfl, rfl, by decide +kernel, rfl, by decide +kernel, by decide +kernel⟩
abbrev N__bracket_at : List Str := ["words", "at", "room", "one", "op", "other"]
theorem sc__bracket_at : FnScope N__bracket_at ["words", "at", "room"] (defScope s__bracket_at) := ⟨rfl, rfl, rfl, by decide +kernel, rfl, by decide +kernel, by decide +kernel⟩
abbrev N__term_at : List Str := ["words", "at", "room", "word", "value"]
theorem sc__term_at : FnScope N__term_at ["words", "at", "room"] (defScope s__term_at) := ⟨rfl, rfl, rfl, by decide +kernel, rfl, by decide +kernel, by decide +kernel⟩
abbrev N_read_term : List Str := ["text", "words", "term", "at"]
theorem sc_read_term : FnScope N_read_term ["text"] (defScope s_read_term) := ⟨rfl, rfl, rfl, by decide +kernel, rfl, by decide +kernel, by decide +kernel⟩
abbrev N__law_cell_at : List Str := ["script", "k"]
theorem sc__law_cell_at : FnScope N__law_cell_at ["script", "k"] (defScope s__law_cell_at) := ⟨rfl, rfl, rfl, by decide +kernel, rfl, by decide +kernel, by decide +kernel⟩
abbrev N__law_box : List Str := ["cell"]
theorem sc__law_box : FnScope N__law_box ["cell"] (defScope s__law_box) := ⟨rfl, rfl, rfl, by decide +kernel, rfl, by decide +kernel, by decide +kernel⟩
abbrev N__law_take : List Str := ["box", "many", "number"]
theorem sc__law_take : FnScope N__law_take ["box", "many"] (defScope s__law_take) := ⟨rfl, rfl, rfl, by decide +kernel, rfl, by decide +kernel, by decide +kernel⟩
abbrev N__law_value : List Str := ["box", "way"]
theorem sc__law_value : FnScope N__law_value ["box"] (defScope s__law_value) := ⟨rfl, rfl, rfl, by decide +kernel, rfl, by decide +kernel, by decide +kernel⟩
abbrev N__law_told : List Str := ["box", "left", "names", "way", "parts", "k", "op", "one"]
theorem sc__law_told : FnScope N__law_told ["box", "left", "names"] (defScope s__law_told) := ⟨rfl, rfl, rfl, by decide +kernel, rfl, by decide +kernel, by decide +kernel⟩
abbrev N__law_made : List Str := ["told"]
theorem sc__law_made : FnScope N__law_made ["told"] (defScope s__law_made) := ⟨rfl, rfl, rfl, by decide +kernel, rfl, by decide +kernel, by decide +kernel⟩
abbrev N__law_sum : List Str := ["op", "one", "other", "numbers", "thing", "found"]
theorem sc__law_sum : FnScope N__law_sum ["op", "one", "other"] (defScope s__law_sum) := ⟨rfl, rfl, rfl, by decide +kernel, rfl, by decide +kernel, by decide +kernel⟩
abbrev N__law_due : List Str := ["told", "book", "found", "one", "value", "word"]
theorem sc__law_due : FnScope N__law_due ["told", "book"] (defScope s__law_due) := ⟨rfl, rfl, rfl, by decide +kernel, rfl, by decide +kernel, by decide +kernel⟩
abbrev N__law_all : List Str := ["told", "term", "there", "back"]
theorem sc__law_all : FnScope N__law_all ["told"] (defScope s__law_all) := ⟨rfl, rfl, rfl, by decide +kernel, rfl, by decide +kernel, by decide +kernel⟩
abbrev N__law_joined : List Str := ["box", "told", "op"]
theorem sc__law_joined : FnScope N__law_joined ["box", "told"] (defScope s__law_joined) := ⟨rfl, rfl, rfl, by decide +kernel, rfl, by decide +kernel, by decide +kernel⟩
abbrev N__law_given : List Str := ["book"]
theorem sc__law_given : FnScope N__law_given ["book"] (defScope s__law_given) := ⟨rfl, rfl, rfl, by decide +kernel, rfl, by decide +kernel, by decide +kernel⟩
abbrev N_law : List Str := ["script", "k", "box", "told", "some", "one", "more", "turn", "book", "name", "term", "due", "found"]
theorem sc_law : FnScope N_law ["script"] (defScope s_law) := ⟨rfl, rfl, rfl, by decide +kernel, rfl, by decide +kernel, by decide +kernel⟩
/-- a field of the thing in a slot is read -/
theorem wE_fd {K : PySem.W.Frag} {F : Fr} {ρ : Sls} {P : Sls → D → Prop} {i : Nat} {f : Str} {C : Addr} {fs : List (Str × D)} {ns : List Str} {d : D} (o : OC K C ns) (h : ρ[i]? = some (.fz (.obj C fs))) (hf : f ∈ ns) (hl : fs.lookup f = some d) (p : P ρ d) : wE K F (tFld K (tVar i) f) ρ P :=
  wE_fld (wE_var h ⟨C, fs, ns, d, rfl, o, hf, hl, p⟩)
theorem wR_neStr {K : PySem.W.Frag} {F : Fr} {ρ : Sls} {P : Sls → D → Prop} {a b : Str} (p : P ρ (.bl (!decide (V.str a = V.str b)))) : wR K F rNe (.str a) (.str b) ρ P := fun σ G H vx vy S rx ry Q q => by
  cases rx
  cases ry
  exact ⟨rfl, q _ _ ρ G H p S (.bl _) (Ex.refl G)⟩
abbrev N_BeatError_init : List Str := ["self", "text"]
theorem sc_BeatError_init : FnScope N_BeatError_init ["self", "text"] (defScope s_BeatError_init) := ⟨rfl, rfl, rfl, by decide +kernel, rfl, by decide +kernel, by decide +kernel⟩
abbrev N_NoName_init : List Str := ["self", "found"]
theorem sc_NoName_init : FnScope N_NoName_init ["self", "found"] (defScope s_NoName_init) := ⟨rfl, rfl, rfl, by decide +kernel, rfl, by decide +kernel, by decide +kernel⟩
abbrev N_NoText_init : List Str := ["self", "at"]
theorem sc_NoText_init : FnScope N_NoText_init ["self", "at"] (defScope s_NoText_init) := ⟨rfl, rfl, rfl, by decide +kernel, rfl, by decide +kernel, by decide +kernel⟩
section
variable {P : Program} {w : World} {K : PySem.W.Frag} {mg : Str → Option Value} {base : Heap}
theorem ok_BeatError_init {f : Addr} {fd : FuncData} (F : L2.Fun K "__init__" "BeatError.__init__" s_BeatError_init f fd) (m_VE : mg "ValueError" = none) (vV : PySem.W.findCls K (.type "ValueError") (.type "type") "__init__" = some (.val (.builtin "ValueError.__init__"))) : FnOk P w K mg base L2.CX0 1 f fd ["self", "text"] (spBE K) := by
  refine F.ok sc_BeatError_init (fun vs H Q E h => by obtain ⟨a, C, z, rfl, _⟩ := h; rfl) (fun cdv A outer s H vs Q E hr h => ⟨_, pss_one (ps_expr (pe_veinit (by rfl) m_VE vV (pa_cons (pv 0) (pa_cons (pv 1) pa_nil)))), ?_⟩)
  try dsimp only [cxOf]
  obtain ⟨a, C, z, rfl, T, e, q⟩ := h
  exact ⟨_, rfl, _, rfl, a, C, [z], rfl, by show 1 ≤ 1000; decide, T, e, q⟩
theorem ok_NoName_init {C fB f : Addr} {fd fdB : FuncData} (F : L2.Fun K "__init__" "NoName.__init__" s_NoName_init f fd) {CB : Addr} (cB : CFn K CB "__init__" fB) (FB : FnOk P w K mg base L2.CX0 1 fB fdB ["self", "text"] (spBE K)) (g_BeatError : mg "BeatError" = some (.ref CB)) (bB : Binds K fdB ["self", "text"] [])
    (T : OexC K C) (hno : PySem.W.findIn K (.ref C) "found" = some none) : FnOk P w K mg base L2.CX0 2 f fd ["self", "found"] (spNX K C "found") := by
  refine F.ok sc_NoName_init (fun vs H Q E h => by obtain ⟨a, v, rfl, _⟩ := h; rfl) (fun cdv A outer s H vs Q E hr h => ⟨_, pss_cons (ps_expr (DL.pe_cfn cB FB hr (by omega) (by rfl) g_BeatError bB (pa_cons (pv 0) (pa_cons pe_str pa_nil)))) (pss_one (ps_ost (pv 0) (pv 1))), ?_⟩)
  try dsimp only [cxOf]
  obtain ⟨a, v, rfl, e, q⟩ := h
  refine ⟨_, rfl, a, C, _, rfl, T, e, ?_⟩
  refine ⟨_, rfl, _, rfl, a, C, rfl, T, hno, .inl ⟨e, fun dx h1 h2 => ?_⟩⟩
  exact q dx h1 h2
theorem ok_NoText_init {C fB f : Addr} {fd fdB : FuncData} (F : L2.Fun K "__init__" "NoText.__init__" s_NoText_init f fd) {CB : Addr} (cB : CFn K CB "__init__" fB) (FB : FnOk P w K mg base L2.CX0 1 fB fdB ["self", "text"] (spBE K)) (g_BeatError : mg "BeatError" = some (.ref CB)) (bB : Binds K fdB ["self", "text"] [])
    (T : OexC K C) (hno : PySem.W.findIn K (.ref C) "at" = some none) : FnOk P w K mg base L2.CX0 2 f fd ["self", "at"] (spNX K C "at") := by
  refine F.ok sc_NoText_init (fun vs H Q E h => by obtain ⟨a, v, rfl, _⟩ := h; rfl) (fun cdv A outer s H vs Q E hr h => ⟨_, pss_cons (ps_expr (DL.pe_cfn cB FB hr (by omega) (by rfl) g_BeatError bB (pa_cons (pv 0) (pa_cons pe_str pa_nil)))) (pss_one (ps_ost (pv 0) (pv 1))), ?_⟩)
  try dsimp only [cxOf]
  obtain ⟨a, v, rfl, e, q⟩ := h
  refine ⟨_, rfl, a, C, _, rfl, T, e, ?_⟩
  refine ⟨_, rfl, _, rfl, a, C, rfl, T, hno, .inl ⟨e, fun dx h1 h2 => ?_⟩⟩
  exact q dx h1 h2
end
/-- a list of three numbers from which things are drawn -/
def Box (ds : List D) : Prop := ∃ a b c : Int, ds = [.int a, .int b, .int c] ∧ 0 ≤ a ∧ 0 ≤ b
abbrev W__law_take : W1 := fun ds es Φ _ => ∃ m : Int, es = [.int m] ∧ Box ds ∧ 0 < m ∧ m < 1073741824 ∧ ∀ (ds' : List D) (r : Int), Box ds' → 0 ≤ r → r < m → Φ ds' (.fz (.int r))
abbrev W__law_box : W0 := fun ds Φ _ => ∃ c : Int, ds = [.int c] ∧ ∀ ds', Box ds' → Φ (.ow ds')
abbrev W__law_cell_at : W0 := fun ds Φ _ => ∃ (ns : List Int) (k : Int), ds = [.scr ns, .int k] ∧ 0 ≤ k ∧ ∀ n : Int, Φ (.fz (.int n))
def isW : D → Bool
  | .int _ => true
  | _ => false
abbrev W_is_whole : W0 := fun ds Φ _ => ∃ d, ds = [d] ∧ (tyD d).isSome = true ∧ Φ (.fz (.bl (isW d)))
def isWin (d : D) (lo hi : Int) : Bool := match d with
  | .int n => decide (lo ≤ n) && decide (n ≤ hi)
  | _ => false
abbrev W_is_within : W0 := fun ds Φ _ => ∃ d lo hi, ds = [d, .int lo, .int hi] ∧ (tyD d).isSome = true ∧ Φ (.fz (.bl (isWin d lo hi)))
def inB (d : D) : Bool := match d with
  | .bl _ => true
  | d => isWin d (-1000000000) 1000000000
abbrev W_is_value : W0 := fun ds Φ _ => ∃ d, ds = [d] ∧ (tyD d).isSome = true ∧ Φ (.fz (.bl (inB d)))
inductive Op where
  | add | sub | mul | div | md | lt | eq | an | or
def Op.s : Op → Str
  | .add => "+"
  | .sub => "-"
  | .mul => "*"
  | .div => "/"
  | .md => "mod"
  | .lt => "<"
  | .eq => "="
  | .an => "&"
  | .or => "|"
/-- a value: a number within the bounds, or a truth -/
inductive Va where
  | n (i : Int)
  | t (b : Bool)
def Va.d : Va → D
  | .n i => .int i
  | .t b => .bl b
def Va.ok : Va → Prop
  | .n i => -1000000000 ≤ i ∧ i ≤ 1000000000
  | .t _ => True
inductive Res where
  | int (i : Int) | bl (b : Bool) | kind | nought | great
  deriving DecidableEq
def Res.v : Res → D
  | .int i => .int i
  | .bl b => .bl b
  | _ => .non
def Res.w : Res → D
  | .kind => .str "kind"
  | .nought => .str "nought"
  | .great => .str "great"
  | _ => .non
def Res.d (r : Res) : D := .tup [r.v, r.w]
def tk (o : Op) (x y : Va) : Bool := match o, x, y with
  | .eq, .n _, .n _ => true
  | .eq, .t _, .t _ => true
  | .an, .t _, .t _ => true
  | .or, .t _, .t _ => true
  | .an, _, _ => false
  | .or, _, _ => false
  | .eq, _, _ => false
  | _, .n _, .n _ => true
  | _, _, _ => false
abbrev W__takes : W0 := fun ds Φ _ => ∃ o x y, ds = [.str (Op.s o), Va.d x, Va.d y] ∧ Φ (.fz (.bl (tk o x y)))
def oc (o : Op) (x y : Va) : D := match o, x, y with
  | .add, .n a, .n b => .int (a + b)
  | .sub, .n a, .n b => .int (a - b)
  | .mul, .n a, .n b => .int (a * b)
  | .div, .n a, .n b => .int (a.fdiv b)
  | .md, .n a, .n b => .int (a.fmod b)
  | .lt, .n a, .n b => .bl (decide (a < b))
  | .eq, .n a, .n b => .bl (a == b)
  | .eq, .t a, .t b => .bl (a == b)
  | .an, .t a, .t b => .bl (a && b)
  | .or, .t a, .t b => .bl (a || b)
  | _, _, _ => .non
def isDm : Op → Bool
  | .div => true
  | .md => true
  | _ => false
def nul (o : Op) (y : Va) : Bool := match o, y with
  | .div, .n b => decide (b = 0)
  | .md, .n b => decide (b = 0)
  | _, _ => false
abbrev W__outcome : W0 := fun ds Φ _ => ∃ o x y, ds = [.str (Op.s o), Va.d x, Va.d y] ∧ x.ok ∧ y.ok ∧ tk o x y = true ∧ nul o y = false ∧ Φ (.fz (oc o x y))
def fin (d : D) : Res := match d with
  | .bl b => .bl b
  | .int i => if -1000000000 ≤ i ∧ i ≤ 1000000000 then .int i else .great
  | _ => .great
def rk (o : Op) (x y : Va) : Res := if tk o x y = true then (if nul o y = true then .nought else fin (oc o x y)) else .kind
abbrev W_reckoned : W0 := fun ds Φ _ => ∃ o x y, ds = [.str (Op.s o), Va.d x, Va.d y] ∧ x.ok ∧ y.ok ∧ Φ (.fz (rk o x y).d)
def ct (x : Va) : Res := match x with
  | .n _ => .kind
  | .t b => .bl (!b)
abbrev W_contrary : W0 := fun ds Φ _ => ∃ x, ds = [Va.d x] ∧ Φ (.fz (ct x).d)

theorem eqi (a b : Int) : PyData.eqv (.int a) (.int b) = (a == b) := by simp only [PyData.eqv]
theorem eqt2 (a b c d : PyData) : PyData.eqv (.tuple [a, b]) (.tuple [c, d]) = (PyData.eqv a c && PyData.eqv b d) := by simp only [PyData.eqv, PyData.eqvAll, Bool.and_true]
theorem eqi_same (a : Int) : PyData.eqv (.int a) (.int a) = true := by rw [eqi]; exact beq_self_eq_true a
theorem eqt_same (a : Int) : PyData.eqv (.tuple [.int a, .none]) (.tuple [.int a, .none]) = true := by rw [eqt2, eqi_same]; simp only [PyData.eqv, Bool.and_true]
theorem fin_t {d : D} (h : inB d = true) : (fin d).d = .tup [d, .non] := by
  cases d <;> first | rfl | (cases h; done) | skip
  rename_i i
  have h' : (decide ((-1000000000 : Int) ≤ i) && decide (i ≤ 1000000000)) = true := h
  rw [Bool.and_eq_true, decide_eq_true_eq, decide_eq_true_eq] at h'
  show (if -1000000000 ≤ i ∧ i ≤ 1000000000 then Res.int i else .great).d = _
  rw [if_pos h']
  rfl
theorem fin_f {d : D} (h : inB d = false) : (fin d).d = .tup [.non, .str "great"] := by
  cases d <;> first | rfl | (cases h; done) | skip
  rename_i i
  have h' : (decide ((-1000000000 : Int) ≤ i) && decide (i ≤ 1000000000)) = false := h
  show (if -1000000000 ≤ i ∧ i ≤ 1000000000 then Res.int i else .great).d = _
  rw [if_neg (fun c => by rw [decide_eq_true c.1, decide_eq_true c.2] at h'; cases h')]
  rfl
section
variable {o : Op} {x y : Va} {Φ : Rs → Prop} {X : XD}
theorem rk_int {i : Int} (hx : x.ok) (hy : y.ok) (e : rk o x y = .int i) (h : Φ (.fz (.tup [.int i, .non]))) : W_reckoned [.str o.s, x.d, y.d] Φ X := ⟨o, x, y, rfl, hx, hy, by rw [e]; exact h⟩
theorem rk_bl {b : Bool} (hx : x.ok) (hy : y.ok) (e : rk o x y = .bl b) (h : Φ (.fz (.tup [.bl b, .non]))) : W_reckoned [.str o.s, x.d, y.d] Φ X := ⟨o, x, y, rfl, hx, hy, by rw [e]; exact h⟩
theorem rk_kind (hx : x.ok) (hy : y.ok) (e : rk o x y = .kind) (h : Φ (.fz (.tup [.non, .str "kind"]))) : W_reckoned [.str o.s, x.d, y.d] Φ X := ⟨o, x, y, rfl, hx, hy, by rw [e]; exact h⟩
theorem rk_nought (hx : x.ok) (hy : y.ok) (e : rk o x y = .nought) (h : Φ (.fz (.tup [.non, .str "nought"]))) : W_reckoned [.str o.s, x.d, y.d] Φ X := ⟨o, x, y, rfl, hx, hy, by rw [e]; exact h⟩
theorem rk_great (hx : x.ok) (hy : y.ok) (e : rk o x y = .great) (h : Φ (.fz (.tup [.non, .str "great"]))) : W_reckoned [.str o.s, x.d, y.d] Φ X := ⟨o, x, y, rfl, hx, hy, by rw [e]; exact h⟩
end

theorem ct_t {b : Bool} {Φ : Rs → Prop} {X : XD} (h : Φ (.fz (.tup [.bl (!b), .non]))) : W_contrary [.bl b] Φ X := ⟨.t b, rfl, h⟩
theorem ct_n {i : Int} {Φ : Rs → Prop} {X : XD} (h : Φ (.fz (.tup [.non, .str "kind"]))) : W_contrary [.int i] Φ X := ⟨.n i, rfl, h⟩
theorem kind_nt {o : Op} {a : Int} {b : Bool} : rk o (.n a) (.t b) = .kind := by cases o <;> rfl
theorem kind_tn {o : Op} {a : Int} {b : Bool} : rk o (.t b) (.n a) = .kind := by cases o <;> rfl

abbrev Bd (i : Int) : Prop := -1000000000 ≤ i ∧ i ≤ 1000000000
theorem fin_pos {i : Int} (h : Bd i) : fin (.int i) = .int i := if_pos h
theorem fin_neg {i : Int} (h : ¬ Bd i) : fin (.int i) = .great := if_neg h
theorem rk_div {a b : Int} (hb : b ≠ 0) : rk .div (.n a) (.n b) = fin (.int (a.fdiv b)) := by
  show (if decide (b = 0) = true then Res.nought else fin (.int (a.fdiv b))) = _
  rw [decide_eq_false hb]
  rfl
theorem rk_md {a b : Int} (hb : b ≠ 0) : rk .md (.n a) (.n b) = fin (.int (a.fmod b)) := by
  show (if decide (b = 0) = true then Res.nought else fin (.int (a.fmod b))) = _
  rw [decide_eq_false hb]
  rfl
theorem fmod_bd {a b : Int} (hb : b ≠ 0) : (0 < b → 0 ≤ a.fmod b ∧ a.fmod b < b) ∧ (b < 0 → b < a.fmod b ∧ a.fmod b ≤ 0) :=
  ⟨fun h => ⟨Int.fmod_nonneg_of_pos a h, Int.fmod_lt_of_pos a h⟩, fun h => by
    have h1 : (-a).fmod (-b) = -(a.fmod b) := by rw [Int.neg_fmod_neg]
    have h2 := Int.fmod_nonneg_of_pos (-a) (show 0 < -b by omega)
    have h3 := Int.fmod_lt_of_pos (-a) (show 0 < -b by omega)
    omega⟩
theorem mul_up {b q : Int} (h1 : 1 ≤ b) (hq : 0 ≤ q) : q ≤ b * q := by
  have h := Int.mul_le_mul_of_nonneg_right h1 hq
  rwa [Int.one_mul] at h
theorem fdiv_bd {a b : Int} (ha : Bd a) (hb : b ≠ 0) : Bd (a.fdiv b) := by
  have e : b * a.fdiv b + a.fmod b = a := Int.mul_fdiv_add_fmod a b
  have hm := fmod_bd (a := a) hb
  obtain ⟨ha1, ha2⟩ := ha
  generalize a.fdiv b = q at e
  generalize a.fmod b = r at e hm
  rcases Int.lt_or_gt_of_ne hb with h | h
  · obtain ⟨h1, h2⟩ := hm.2 h
    refine ⟨Classical.byContradiction fun c => ?_, Classical.byContradiction fun c => ?_⟩
    · have h3 := mul_up (show 1 ≤ -b by omega) (show 0 ≤ -q - 1 by omega)
      have h4 : -b * (-q - 1) = b * q + b := by rw [Int.mul_sub, Int.neg_mul_neg, Int.mul_one]; omega
      omega
    · have h3 := mul_up (show 1 ≤ -b by omega) (show 0 ≤ q by omega)
      have h4 : -b * q = -(b * q) := Int.neg_mul _ _
      omega
  · obtain ⟨h1, h2⟩ := hm.1 h
    refine ⟨Classical.byContradiction fun c => ?_, Classical.byContradiction fun c => ?_⟩
    · have h3 := mul_up (show 1 ≤ b by omega) (show 0 ≤ -q - 1 by omega)
      have h4 : b * (-q - 1) = -(b * q) - b := by rw [Int.mul_sub, Int.mul_neg, Int.mul_one]
      omega
    · have h3 := mul_up (show 1 ≤ b by omega) (show 0 ≤ q by omega)
      omega
theorem eqs (a b : Str) : PyData.eqv (.str a) (.str b) = (a == b) := by simp only [PyData.eqv]
def dg1 (c : Nat) : Bool := decide (48 ≤ c) && decide (c ≤ 57)
def fo (l : List Nat) : Nat := l.foldl (fun acc c => acc * 10 + (c - 48)) 0
theorem fold_step : ∀ (l : List Nat) (a : Array Nat) (b : Bool), l.all dg1 = true → l.foldlM (NumText.step 10) (a, b) = some (a ++ (l.map (· - 48)).toArray, if l.isEmpty then b else true)
  | [], a, b, _ => by simp
  | c :: r, a, b, h => by
    rw [List.all_cons, Bool.and_eq_true] at h
    obtain ⟨h1, h2⟩ := h
    unfold dg1 at h1
    simp only [Bool.and_eq_true, decide_eq_true_eq] at h1
    have e : NumText.step 10 (a, b) c = some (a.push (c - 48), true) := by
      unfold NumText.step NumText.digit?
      rw [if_neg (by simp; omega)]
      simp only [h1.1, h1.2, decide_true, Bool.and_self, if_true]
      rw [if_pos (by omega)]
    rw [List.foldlM_cons, e]
    show r.foldlM (NumText.step 10) (a.push (c - 48), true) = _
    rw [fold_step r _ true h2]
    simp
theorem digits_ok {l : List Nat} (h : l.all dg1 = true) (hn : l ≠ []) : NumText.digits? 10 l = some (l.map (· - 48)).toArray := by
  unfold NumText.digits?
  rw [fold_step l _ _ h]
  cases l with
  | nil => exact absurd rfl hn
  | cons c r => simp
theorem dg1_of {l : List Nat} (h : l.all dg1 = true) {c : Nat} (hc : c ∈ l) : 48 ≤ c ∧ c ≤ 57 := by
  have := List.all_eq_true.mp h c hc
  unfold dg1 at this
  simpa using this
theorem drop_blank {l : List Nat} (h : ∀ c r, l = c :: r → NumText.blank c = false) : l.dropWhile NumText.blank = l := by
  cases l with
  | nil => rfl
  | cons c r => rw [List.dropWhile_cons, if_neg (by rw [h c r rfl]; exact Bool.false_ne_true)]
theorem blank_no {c : Nat} (h : 33 ≤ c) : NumText.blank c = false := by
  unfold NumText.blank
  rw [Bool.or_eq_false_iff]
  refine ⟨beq_eq_false_iff_ne.mpr (by omega), ?_⟩
  rw [Bool.and_eq_false_iff]
  exact .inr (decide_eq_false (by omega))
theorem fo_worth (l : List Nat) : (l.map (· - 48)).toArray.foldl (fun acc d => acc * 10 + d) 0 = fo l := by
  unfold fo
  rw [List.foldl_toArray, List.foldl_map]
theorem takeW {p : Nat → Bool} : ∀ l : List Nat, (∀ c ∈ l, p c = true) → l.takeWhile p = l
  | [], _ => rfl
  | c :: r, h => by
    rw [List.takeWhile_cons, if_pos (h c (List.mem_cons_self ..)), takeW r fun d hd => h d (List.mem_cons_of_mem _ hd)]
theorem intText_dg {s : Str} {neg : Bool} {l : List Nat} (e : s.cps.toList = (if neg then 45 :: l else l)) (h : l.all dg1 = true) (hn : l ≠ []) (hl : l.length ≤ 4300) : PySem.intText? s = some (if neg then -((fo l : Nat) : Int) else ((fo l : Nat) : Int)) := by
  have hlt : ∀ c ∈ s.cps.toList, 45 ≤ c ∧ c < 128 := by
    intro c hc
    rw [e] at hc
    cases neg with
    | true =>
      rcases List.mem_cons.mp (by simpa using hc) with rfl | hc
      · omega
      · have := dg1_of h hc
        omega
    | false =>
      have := dg1_of h (by simpa using hc)
      omega
  have hall : s.cps.all (· < 128) = true := by
    rw [Array.all_eq_true_iff_forall_mem]
    intro c hc
    exact decide_eq_true (hlt c (by simpa using hc)).2
  have hT : numTextOf s = s.cps.toList := if_pos hall
  have hS : numSeenOf s = s.cps.toList := by
    show (numTextOf s).takeWhile (· != 0) = _
    rw [hT]
    exact takeW _ fun c hc => by
      have := hlt c hc
      simp
      omega
  unfold PySem.intText?
  rw [hS, hT, if_pos (beq_self_eq_true _)]
  have hd : s.cps.toList.dropWhile NumText.blank = s.cps.toList := drop_blank fun c r q => blank_no (by have := hlt c (by rw [q]; exact List.mem_cons_self ..); omega)
  have hsg : NumText.sign s.cps.toList = (neg, l) := by
    rw [e]
    cases neg with
    | true => rfl
    | false =>
      cases l with
      | nil => exact absurd rfl hn
      | cons c r =>
        have := dg1_of h (List.mem_cons_self ..)
        show NumText.sign (c :: r) = (false, c :: r)
        unfold NumText.sign
        split
        · rename_i q; cases q; omega
        · rename_i q; cases q; omega
        · rfl
  have hc : NumText.core s.cps.toList = l := by
    unfold NumText.core
    rw [hd, hsg]
    show (l.reverse.dropWhile NumText.blank).reverse = l
    rw [drop_blank fun c r q => blank_no (by have := dg1_of h (show c ∈ l from by rw [← List.mem_reverse, q]; exact List.mem_cons_self ..); omega), List.reverse_reverse]
  rw [hc, digits_ok h hn, hd, hsg]
  show (if (l.map (· - 48)).toArray.size ≤ 4300 then some (NumText.worth neg (l.map (· - 48)).toArray) else none) = _
  rw [if_pos (by simpa using hl)]
  unfold NumText.worth
  rw [fo_worth]
def figs : List Nat → List Nat
  | 45 :: r => r
  | l => l
def ng : List Nat → Bool
  | 45 :: _ => true
  | _ => false
theorem figs_45 {c : Nat} {r : List Nat} (h : c ≠ 45) : figs (c :: r) = c :: r := by
  unfold figs
  split
  · rename_i q; cases q; exact absurd rfl h
  · rfl
theorem ng_45 {c : Nat} {r : List Nat} (h : c ≠ 45) : ng (c :: r) = false := by
  unfold ng
  split
  · rename_i q; cases q; exact absurd rfl h
  · rfl
theorem rmp_figs (s : Str) : (Txt.removeprefix s (Str.ofString "-")).cps.toList = figs s.cps.toList := by
  unfold Txt.removeprefix
  rw [PySem.StrLaws.subAt_eq]
  have e1 : (Str.ofString "-").cps.toList = [45] := by decide +kernel
  have e2 : (Str.ofString "-").length = 1 := by decide +kernel
  rw [e1, e2, List.drop_zero]
  obtain ⟨⟨l⟩⟩ := s
  show (Txt.affix ⟨⟨l⟩⟩ (if (l.take 1 == [45]) = true then some (1, l.length) else none)).cps.toList = figs l
  cases l with
  | nil => rfl
  | cons c r =>
    by_cases h : c = 45
    · subst h
      show (Txt.affix ⟨⟨45 :: r⟩⟩ (some (1, r.length + 1))).cps.toList = r
      unfold Txt.affix
      show (if (r.length + 1 - 1 == r.length + 1) = true then (⟨⟨45 :: r⟩⟩ : Str) else Builtin.Str.strSub ⟨⟨45 :: r⟩⟩ 1 (r.length + 1)).cps.toList = r
      rw [if_neg (by simp)]
      unfold Builtin.Str.strSub
      simp
    · rw [figs_45 h, if_neg (by simp; exact h)]
      rfl
theorem stw_0 (s : Str) : Txt.startswith s (Str.ofString "0") = (s.cps.toList.head? == some 48) := by
  unfold Txt.startswith
  rw [PySem.StrLaws.subAt_eq]
  have e1 : (Str.ofString "0").cps.toList = [48] := by decide +kernel
  have e2 : (Str.ofString "0").length = 1 := by decide +kernel
  rw [e1, e2, List.drop_zero]
  obtain ⟨⟨l⟩⟩ := s
  show (decide (0 + 1 ≤ l.length) && (l.take 1 == [48])) = (l.head? == some 48)
  cases l with
  | nil => rfl
  | cons c r =>
    rw [decide_eq_true (by simp), Bool.true_and]
    by_cases h : c = 48
    · subst h; rfl
    · simp [h]
def dgN (m : Nat) : List Nat := (Nat.toDigits 10 m).map Char.toNat
theorem dgN_small {m : Nat} (h : m < 10) : dgN m = [48 + m] := by
  unfold dgN
  rw [Nat.toDigits_of_lt_base h]
  have : ∀ d : Nat, d < 10 → (Nat.digitChar d).toNat = 48 + d := by decide
  rw [List.map_cons, this m h]
  rfl
theorem dgN_step {m : Nat} (h : 10 ≤ m) : dgN m = dgN (m / 10) ++ [48 + m % 10] := by
  unfold dgN
  rw [Nat.toDigits_of_base_le (by decide) h, List.map_append]
  have : ∀ d : Nat, d < 10 → (Nat.digitChar d).toNat = 48 + d := by decide
  rw [List.map_cons, this _ (Nat.mod_lt m (by decide))]
  rfl
theorem fo_snoc (l : List Nat) (c : Nat) : fo (l ++ [c]) = fo l * 10 + (c - 48) := by
  unfold fo
  rw [List.foldl_append]
  rfl
theorem dgN_facts (m : Nat) : (dgN m).all dg1 = true ∧ dgN m ≠ [] ∧ fo (dgN m) = m ∧ (dgN m = [48] ∨ (dgN m).head? ≠ some 48) := by
  induction m using Nat.strongRecOn with
  | _ m ih =>
    by_cases h : m < 10
    · rw [dgN_small h]
      refine ⟨?_, by simp, ?_, ?_⟩
      · unfold dg1
        simp
        omega
      · show 0 * 10 + (48 + m - 48) = m
        omega
      · by_cases h0 : m = 0
        · left; rw [h0]
        · right; simp; omega
    · obtain ⟨i1, i2, i3, i4⟩ := ih (m / 10) (by omega)
      rw [dgN_step (by omega)]
      have hlt := Nat.mod_lt m (show 10 > 0 by decide)
      refine ⟨?_, by simp, ?_, ?_⟩
      · rw [List.all_append, i1]
        unfold dg1
        simp
        omega
      · rw [fo_snoc, i3]
        omega
      · right
        have hne : dgN (m / 10) ≠ [48] := by
          intro e
          rw [e] at i3
          have : fo [48] = 0 := rfl
          omega
        have h4 := i4.resolve_left hne
        cases hq : dgN (m / 10) with
        | nil => exact absurd hq i2
        | cons c r =>
          rw [hq] at h4
          simpa using h4
theorem fo_ge' : ∀ (l : List Nat) (a : Nat), 10 ^ l.length * a ≤ l.foldl (fun acc c => acc * 10 + (c - 48)) a
  | [], a => by simp
  | c :: r, a => by
    have h := fo_ge' r (a * 10 + (c - 48))
    rw [List.foldl_cons, List.length_cons, Nat.pow_succ]
    refine Nat.le_trans ?_ h
    rw [Nat.mul_assoc]
    exact Nat.mul_le_mul_left _ (by omega)
theorem fo_ge {l : List Nat} {c : Nat} (hc : c ≠ 48) (h : (c :: l).all dg1 = true) : 10 ^ l.length ≤ fo (c :: l) := by
  have h1 := dg1_of h (List.mem_cons_self ..)
  have h2 := fo_ge' l (0 * 10 + (c - 48))
  refine Nat.le_trans ?_ h2
  have h3 : 10 ^ l.length * 1 ≤ 10 ^ l.length * (0 * 10 + (c - 48)) := Nat.mul_le_mul_left _ (by omega)
  omega
theorem txt_cps (i : Int) : (Str.ofString (toString i)).cps.toList = if i < 0 then 45 :: dgN i.natAbs else dgN i.natAbs := by
  rw [PyProof.Rows.signs_ofString]
  cases i with
  | ofNat m =>
    rw [if_neg (by exact Int.not_lt.mpr (Int.natCast_nonneg m))]
    show (Nat.repr m).toList.map Char.toNat = dgN m
    rw [Nat.toList_repr]
    rfl
  | negSucc m =>
    rw [if_pos (Int.negSucc_lt_zero m)]
    show ("-" ++ Nat.repr (m + 1)).toList.map Char.toNat = 45 :: dgN (m + 1)
    rw [String.toList_append, List.map_append, Nat.toList_repr]
    rfl
theorem dgN_len {m : Nat} (h : m < 10 ^ 10) : (dgN m).length ≤ 10 := by
  unfold dgN
  rw [List.length_map]
  have := PySem.W.KXf.digits_le (a := (m : Int)) (by omega) (by omega)
  simpa using this

def isNumL (l : List Nat) : Bool := (decide ((1 : Int) ≤ ((figs l).length : Int)) && decide (((figs l).length : Int) ≤ 10)) && (!(((figs l).head? == some 48) && !(l == [48])) && (figs l).all dg1)
def numL (l : List Nat) : Int := if ng l then -((fo (figs l) : Nat) : Int) else ((fo (figs l) : Nat) : Int)
def inBd (i : Int) : Bool := decide (-1000000000 ≤ i) && decide (i ≤ 1000000000)
def rdS (s : Str) : D := if s = "true" then .bl true else if s = "false" then .bl false else if isNumL s.cps.toList then (if inBd (numL s.cps.toList) then .int (numL s.cps.toList) else .non) else .non
def rdD : D → D
  | .str s => rdS s
  | _ => .non
def txt : Va → Str
  | .n i => Str.ofString (toString i)
  | .t true => "true"
  | .t false => "false"
structure G2 (d : D) : Prop where
  ty : (tyD d).isSome = true
  ln : ∀ s, d = .str s → s.length ≤ 20000 ∧ okS s
abbrev W_value_text : W0 := fun ds Φ _ => ∃ x : Va, ds = [x.d] ∧ x.ok ∧ Φ (.fz (.str (txt x)))
abbrev W__is_number_text : W0 := fun ds Φ _ => ∃ s, ds = [.str s] ∧ s.length ≤ 20000 ∧ okS s ∧ Φ (.fz (.bl (isNumL s.cps.toList)))
abbrev W_value_of : W0 := fun ds Φ _ => ∃ d, ds = [d] ∧ G2 d ∧ Φ (.fz (rdD d))
theorem len_str2 {s : Str} (h : s.length ≤ 20000) : lenD (.str s) = some s.length := if_pos (Nat.le_trans h (by decide))
theorem mem_figs (c : Nat) : decide (c ∈ (Str.ofString "0123456789").cps.toList) = dg1 c := by
  have e : (Str.ofString "0123456789").cps.toList = [48, 49, 50, 51, 52, 53, 54, 55, 56, 57] := by decide +kernel
  rw [e]
  unfold dg1
  rw [← Bool.decide_and]
  apply decide_eq_decide.mpr
  simp only [List.mem_cons, List.not_mem_nil, or_false]
  omega
theorem in_tf {s : Str} (h1 : s ≠ "true") (h2 : s ≠ "false") : inD (.str s) [.str "true", .str "false"] = false := by
  unfold inD
  simp [inV, valD, eqV, h1, h2, Ne.symm h1, Ne.symm h2]
theorem Str.ext' {a b : Str} (h : a.cps.toList = b.cps.toList) : a = b := by
  obtain ⟨⟨l⟩⟩ := a
  obtain ⟨⟨m⟩⟩ := b
  have : l = m := h
  rw [this]
theorem figs_sub {l : List Nat} : (figs l).length ≤ l.length ∧ ∀ c ∈ figs l, c ∈ l := by
  unfold figs
  split
  · exact ⟨by simp, fun c hc => List.mem_cons_of_mem _ hc⟩
  · exact ⟨Nat.le_refl _, fun _ h => h⟩
theorem len_cps (s : Str) : s.length = s.cps.toList.length := Array.length_toList.symm
theorem eq0 (s : Str) : (s == Str.ofString "0") = (s.cps.toList == [48]) := by
  have e : (Str.ofString "0").cps.toList = [48] := by decide +kernel
  by_cases h : s = Str.ofString "0"
  · rw [h, e, beq_self_eq_true, beq_self_eq_true]
  · rw [beq_eq_false_iff_ne.mpr h]
    symm
    rw [beq_eq_false_iff_ne]
    intro q
    exact h (Str.ext' (by rw [q, e]))
theorem figs_ng (l : List Nat) : l = (if ng l then 45 :: figs l else figs l) := by
  cases l with
  | nil => rfl
  | cons c r =>
    by_cases h : c = 45
    · subst h; rfl
    · rw [ng_45 h, figs_45 h]; rfl
theorem isNum_facts {l : List Nat} (h : isNumL l = true) : (1 ≤ (figs l).length ∧ (figs l).length ≤ 10) ∧ (figs l).all dg1 = true ∧ ((figs l).head? = some 48 → l = [48]) := by
  unfold isNumL at h
  simp only [Bool.and_eq_true, decide_eq_true_eq, Bool.not_eq_true', Bool.and_eq_false_iff, beq_eq_false_iff_ne, Bool.not_eq_false'] at h
  obtain ⟨⟨h1, h2⟩, h3, h4⟩ := h
  refine ⟨⟨by omega, by omega⟩, h4, fun q => ?_⟩
  rcases h3 with h3 | h3
  · exact absurd q h3
  · exact beq_iff_eq.mp h3
theorem intNum {s : Str} (h : isNumL s.cps.toList = true) : PySem.intText? s = some (numL s.cps.toList) := by
  obtain ⟨⟨h1, h2⟩, h3, _⟩ := isNum_facts h
  exact intText_dg (figs_ng _) h3 (by intro q; rw [q] at h1; simp at h1) (by omega)
theorem at_fig : ∀ k : Nat, k < 10 → atI (Str.ofString "0123456789").cps.toList (k : Int) = some (48 + k) := by
  have h : ((List.range 10).all fun k => atI (Str.ofString "0123456789").cps.toList (k : Int) == some (48 + k)) = true := by decide +kernel
  intro k hk
  have := List.all_eq_true.mp h k (List.mem_range.mpr hk)
  exact beq_iff_eq.mp this
theorem cut_bd {z : Str} {lo hi : Option Int} {n : Nat} (h : z.length ≤ n) : (cutS z lo hi).length ≤ n := Nat.le_trans (cutS_length z lo hi) h
theorem cut_hd (z : Str) : (cutS z none (some 1)).cps.toList = z.cps.toList.take 1 := by
  show ((z.cps.toList.drop 0).take (min 1 z.length - 0)).toArray.toList = _
  rw [List.drop_zero, Nat.sub_zero, List.toList_toArray, len_cps]
  rcases Nat.eq_zero_or_pos z.cps.toList.length with h | h
  · rw [List.length_eq_zero_iff.mp h]; rfl
  · rw [Nat.min_eq_left h]
theorem cut_from (z : Str) (k : Nat) (h : k ≤ z.length) : (cutS z (some (k : Int)) none).cps.toList = z.cps.toList.drop k := by
  show ((z.cps.toList.drop (HT.sIx z.length 0 (some (k : Int)))).take (z.length - HT.sIx z.length 0 (some (k : Int)))).toArray.toList = _
  rw [HT.sIx_nat, Nat.min_eq_left h, List.toList_toArray, List.take_of_length_le]
  rw [List.length_drop, len_cps]
  exact Nat.le_refl _
theorem eqm (t : Str) : (t == Str.ofString "-") = (t.cps.toList == [45]) := by
  have e : (Str.ofString "-").cps.toList = [45] := by decide +kernel
  by_cases h : t = Str.ofString "-"
  · rw [h, e, beq_self_eq_true, beq_self_eq_true]
  · rw [beq_eq_false_iff_ne.mpr h]
    symm
    rw [beq_eq_false_iff_ne]
    intro q
    exact h (Str.ext' (by rw [q, e]))
theorem ng_take (l : List Nat) : (l.take 1 == [45]) = ng l := by
  cases l with
  | nil => rfl
  | cons c r =>
    by_cases h : c = 45
    · subst h; rfl
    · rw [ng_45 h]
      simpa using h
theorem figs_drop (l : List Nat) : l.drop (if ng l then 1 else 0) = figs l := by
  cases l with
  | nil => rfl
  | cons c r =>
    by_cases h : c = 45
    · subst h; rfl
    · rw [ng_45 h, figs_45 h]; rfl
theorem eqe (t : Str) : (t == Str.ofString "") = t.cps.toList.isEmpty := by
  have e : (Str.ofString "").cps.toList = [] := by decide +kernel
  by_cases h : t = Str.ofString ""
  · rw [h, e]; rfl
  · rw [beq_eq_false_iff_ne.mpr h]
    symm
    cases hq : t.cps.toList with
    | nil => exact absurd (Str.ext' (by rw [hq, e])) h
    | cons c r => rfl
/-- what is no number is None, by reasons -/
theorem rd_non {s : Str} (h1 : s ≠ "true") (h2 : s ≠ "false") (h : isNumL s.cps.toList = true → inBd (numL s.cps.toList) = true → False) : rdS s = .non := by
  unfold rdS
  rw [if_neg h1, if_neg h2]
  cases hn : isNumL s.cps.toList with
  | false => rfl
  | true =>
    cases hb : inBd (numL s.cps.toList) with
    | false => rfl
    | true => exact (h hn hb).elim
theorem long_no {l : List Nat} (h : 11 < l.length) (hn : isNumL l = true) : False := by
  obtain ⟨⟨n1, n2⟩, _, _⟩ := isNum_facts hn
  have := congrArg List.length (figs_ng l)
  cases hg : ng l with
  | true => rw [hg, if_pos rfl, List.length_cons] at this; omega
  | false => rw [hg, if_neg Bool.false_ne_true] at this; omega
theorem fig_sign (c : Nat) (h : dg1 c = true) : ∃ rest, Builtin.Str.occurrences (Str.ofString "0123456789") ⟨#[c]⟩ 0 (Str.ofString "0123456789").length 1 = (c - 48) :: rest := by
  have q : ((List.range 10).all fun k => match Builtin.Str.occurrences (Str.ofString "0123456789") ⟨#[48 + k]⟩ 0 (Str.ofString "0123456789").length 1 with | i :: _ => i == k | [] => false) = true := by decide +kernel
  unfold dg1 at h
  simp only [Bool.and_eq_true, decide_eq_true_eq] at h
  have := List.all_eq_true.mp q (c - 48) (List.mem_range.mpr (by omega))
  rw [show 48 + (c - 48) = c by omega] at this
  split at this
  · rename_i i rest hq
    rw [hq, beq_iff_eq.mp this]
    exact ⟨rest, rfl⟩
  · cases this
theorem flt_sg (l : List Nat) (q : Nat → Bool) : ((l.map fun c => D.str ⟨#[c]⟩).filter fun d => match d with | .str z => q (z.cps.getD 0 0) | _ => false) = ((l.filter q).map fun c => (⟨#[c]⟩ : Str)).map D.str := by
  induction l with
  | nil => rfl
  | cons c r ih =>
    rw [List.map_cons, List.filter_cons, List.filter_cons, ih]
    cases h : q c with
    | true => rw [if_pos (show q ((⟨#[c]⟩ : Str).cps.getD 0 0) = true from h)]; rfl
    | false => rw [if_neg (show ¬ q ((⟨#[c]⟩ : Str).cps.getD 0 0) = true from by rw [show q ((⟨#[c]⟩ : Str).cps.getD 0 0) = false from h]; exact Bool.false_ne_true)]; rfl
theorem empty_all (l : List Nat) (q : Nat → Bool) : (((l.filter fun c => !q c).map fun c => (⟨#[c]⟩ : Str))).isEmpty = l.all q := by
  induction l with
  | nil => rfl
  | cons c r ih =>
    rw [List.filter_cons, List.all_cons]
    cases h : q c with
    | true => rw [if_neg (by decide), ih]; rfl
    | false => rw [if_pos (by decide)]; rfl
theorem ng_head {l : List Nat} {d : Nat} {r : List Nat} (h : l = d :: r) : ([d] == [45]) = ng l := by
  rw [h, ← ng_take]
  rfl
theorem dgN_dg {m c : Nat} (h : c ∈ dgN m) : 48 ≤ c ∧ c ≤ 57 := dg1_of (dgN_facts m).1 h
theorem txt_n (i : Int) (h : Bd i) : rdS (txt (.n i)) = .int i ∧ (txt (.n i)).length ≤ 11 ∧ okS (txt (.n i)) := by
  obtain ⟨b1, b2⟩ := h
  have hc : (txt (.n i)).cps.toList = if i < 0 then 45 :: dgN i.natAbs else dgN i.natAbs := txt_cps i
  obtain ⟨f1, f2, f3, f4⟩ := dgN_facts i.natAbs
  have f5 := dgN_len (m := i.natAbs) (by omega)
  have hl : (txt (.n i)).cps.toList.length ≤ 11 := by
    rw [hc]
    split
    · rw [List.length_cons]; omega
    · omega
  have hok : okS (txt (.n i)) := fun c h => by
    rw [hc] at h
    split at h
    · rcases List.mem_cons.mp h with rfl | h
      · decide
      · have := dgN_dg h; omega
    · have := dgN_dg h; omega
  refine ⟨?_, by rw [len_cps]; exact hl, hok⟩
  have hmem : ∀ c ∈ (txt (.n i)).cps.toList, c < 58 := fun c h => by
    rw [hc] at h
    split at h
    · rcases List.mem_cons.mp h with rfl | h
      · decide
      · have := dgN_dg h; omega
    · have := dgN_dg h; omega
  have n1 : txt (.n i) ≠ Str.ofString "true" := fun e => by
    have := hmem 116 (by rw [e]; decide +kernel)
    omega
  have n2 : txt (.n i) ≠ Str.ofString "false" := fun e => by
    have := hmem 102 (by rw [e]; decide +kernel)
    omega
  obtain ⟨c, r, hcr⟩ : ∃ c r, dgN i.natAbs = c :: r := by
    cases hq : dgN i.natAbs with
    | nil => exact absurd hq f2
    | cons c r => exact ⟨c, r, rfl⟩
  have hc45 : c ≠ 45 := by
    have := dgN_dg (m := i.natAbs) (c := c) (by rw [hcr]; exact List.mem_cons_self ..)
    omega
  have hfg : figs (txt (.n i)).cps.toList = dgN i.natAbs := by
    rw [hc]
    split
    · rfl
    · rw [hcr, figs_45 hc45]
  have hng : ng (txt (.n i)).cps.toList = decide (i < 0) := by
    rw [hc]
    split
    · rename_i q; rw [decide_eq_true q]; rfl
    · rename_i q; rw [hcr, ng_45 hc45, decide_eq_false q]
  have hnum : numL (txt (.n i)).cps.toList = i := by
    unfold numL
    rw [hfg, hng, f3]
    by_cases q : i < 0
    · rw [decide_eq_true q, if_pos rfl]; omega
    · rw [decide_eq_false q, if_neg Bool.false_ne_true]; omega
  have his : isNumL (txt (.n i)).cps.toList = true := by
    unfold isNumL
    rw [hfg, f1, decide_eq_true (show ((1 : Int) ≤ ((dgN i.natAbs).length : Int)) by rw [hcr, List.length_cons]; omega), decide_eq_true (show (((dgN i.natAbs).length : Int) ≤ 10) by omega)]
    rcases f4 with q | q
    · have h0 : i = 0 := by
        rw [q] at f3
        have : fo [48] = 0 := rfl
        omega
      have e : (txt (.n i)).cps.toList = [48] := by
        rw [hc, if_neg (by omega), q]
      rw [e, q]
      decide
    · have : ((dgN i.natAbs).head? == some 48) = false := by simpa using q
      rw [this]
      rfl
  unfold rdS
  rw [if_neg n1, if_neg n2, if_pos his, hnum, if_pos (by unfold inBd; rw [decide_eq_true b1, decide_eq_true b2]; rfl)]
theorem txt_ok {x : Va} (h : x.ok) : rdS (txt x) = x.d ∧ (txt x).length ≤ 11 ∧ okS (txt x) := by
  cases x with
  | n i => exact txt_n i h
  | t b =>
    cases b
    · exact ⟨by unfold rdS; rw [if_neg (by decide +kernel)]; exact if_pos rfl, by decide +kernel, okS_of (by decide +kernel)⟩
    · exact ⟨if_pos rfl, by decide +kernel, okS_of (by decide +kernel)⟩
theorem rd_kind (s : Str) : rdS s = .non ∨ (∃ b, rdS s = .bl b) ∨ ∃ i, rdS s = .int i := by
  unfold rdS
  split
  · exact .inr (.inl ⟨_, rfl⟩)
  · split
    · exact .inr (.inl ⟨_, rfl⟩)
    · split
      · split
        · exact .inr (.inr ⟨_, rfl⟩)
        · exact .inl rfl
      · exact .inl rfl
theorem va_kind (x : Va) : x.d = .non ∨ (∃ b, x.d = .bl b) ∨ ∃ i, x.d = .int i := by
  cases x with
  | n i => exact .inr (.inr ⟨i, rfl⟩)
  | t b => exact .inr (.inl ⟨b, rfl⟩)
theorem G2.str {s : Str} (h : s.length ≤ 20000) (h2 : okS s) : G2 (.str s) := ⟨rfl, fun z e => by cases e; exact ⟨h, h2⟩⟩
theorem at0 {c : Nat} {r : List Nat} : atI (c :: r) (0 : Int) = some c := atI_nat (xs := c :: r) (j := 0) rfl
theorem sgD_at {z : Str} {i : Nat} {x : D} (h : (sgD z)[i]? = some x) : ∃ c, z.cps.toList[i]? = some c ∧ x = .str ⟨#[c]⟩ := by
  unfold sgD at h
  rw [List.getElem?_map] at h
  cases hq : z.cps.toList[i]? with
  | none => rw [hq] at h; cases h
  | some c => rw [hq] at h; cases h; exact ⟨c, rfl, rfl⟩
theorem fo_take {l : List Nat} {i c : Nat} (h : l[i]? = some c) : ((10 : Int) * ((fo (l.take i) : Nat) : Int) + ((c - 48 : Nat) : Int)) = ((fo (l.take (i + 1)) : Nat) : Int) := by
  rw [List.take_add_one, h]
  show _ = ((fo (l.take i ++ [c]) : Nat) : Int)
  rw [fo_snoc]
  omega
abbrev ownW : List Str := ["node", "in", "out", "before", "when", "hold", "like", "same", "call", "true", "false", "mod", "beat", "desk"]
def letter (c : Nat) : Bool := decide (97 ≤ c) && decide (c ≤ 122)
theorem mem_letters (c : Nat) : decide (c ∈ (Str.ofString "abcdefghijklmnopqrstuvwxyz").cps.toList) = letter c := by
  have e : (Str.ofString "abcdefghijklmnopqrstuvwxyz").cps.toList = [97, 98, 99, 100, 101, 102, 103, 104, 105, 106, 107, 108, 109, 110, 111, 112, 113, 114, 115, 116, 117, 118, 119, 120, 121, 122] := by decide +kernel
  rw [e]
  unfold letter
  rw [← Bool.decide_and]
  apply decide_eq_decide.mpr
  simp only [List.mem_cons, List.not_mem_nil, or_false]
  omega
structure Gd (d : D) : Prop where
  ty : (tyD d).isSome = true
  ln : ∀ s, d = .str s → s.length ≤ 1000 ∧ okS s
def inOwn (s : Str) : Bool := inD (.str s) (ownW.map .str)
def nameS (s : Str) : Bool := (decide ((1 : Int) ≤ (s.length : Int)) && decide ((s.length : Int) ≤ 8)) && (!inOwn s && s.cps.toList.all letter)
def isNm : D → Bool
  | .str s => nameS s
  | _ => false
def isPt : D → Bool
  | .str s => !decide ((80 : Int) < (s.length : Int)) && (Txt.split s ".").all nameS
  | _ => false
abbrev W_is_name : W0 := fun ds Φ _ => ∃ d, ds = [d] ∧ Gd d ∧ Φ (.fz (.bl (isNm d)))
abbrev W_is_pointed : W0 := fun ds Φ _ => ∃ d, ds = [d] ∧ Gd d ∧ Φ (.fz (.bl (isPt d)))
theorem len_str {s : Str} (h : s.length ≤ 1000) : lenD (.str s) = some s.length := if_pos (Nat.le_trans h (by decide))
theorem all_map_bl (l : List Nat) (f : Nat → Bool) : (l.map f).all id = l.all f := by
  rw [List.all_map]
  rfl
theorem Gd.str {s : Str} (h : s.length ≤ 1000) (h2 : okS s) : Gd (.str s) := ⟨rfl, fun z e => by cases e; exact ⟨h, h2⟩⟩
theorem part_gd {s p : Str} (hs : s.length ≤ 1000) (hok : okS s) (h : p ∈ Txt.split s ".") : Gd (.str p) :=
  Gd.str (Nat.le_trans ((split_bd s "." (by decide +kernel)).2 p h) hs) (split_ok hok p h)
theorem part_ln {s : Str} (hs : s.length ≤ 1000) : ((Txt.split s ".").map D.str).length ≤ 100000 := by
  have := (split_bd s "." (by decide +kernel)).1
  rw [List.length_map]
  omega
abbrev KV : Type := List (Str × D)
def kvs (l : KV) : List (Key × D) := l.map fun p => (.inr p.1, p.2)
theorem at_kvs (l : KV) (s : Str) : atKD (kvs l) (.inr s) = (l.find? fun p => decide (p.1 = s)).map (·.2) := by
  unfold atKD kvs
  induction l with
  | nil => rfl
  | cons p r ih =>
    rw [List.map_cons, List.find?_cons, List.find?_cons]
    by_cases h : p.1 = s
    · have h1 : decide ((Sum.inr p.1 : Key) = .inr s) = true := by simp [h]
      have h2 : decide (p.1 = s) = true := by simp [h]
      rw [h1, h2] <;> rfl
    · have h1 : decide ((Sum.inr p.1 : Key) = .inr s) = false := by simp [h]
      have h2 : decide (p.1 = s) = false := by simp [h]
      rw [h1, h2]
      exact ih
def putL (l : KV) (s : Str) (d : D) : KV := if (l.any fun p => decide (p.1 = s)) = true then l.map (fun p => if p.1 = s then (p.1, d) else p) else l ++ [(s, d)]
theorem put_kvs (l : KV) (s : Str) (d : D) : putKD (kvs l) (.inr s) d = kvs (putL l s d) := by
  have ha : ((kvs l).any fun kv => decide (kv.1 = .inr s)) = l.any fun p => decide (p.1 = s) := by
    unfold kvs
    rw [List.any_map]
    congr 1
    funext p
    simp
  unfold putKD putL
  rw [ha]
  split
  · unfold kvs
    rw [List.map_map, List.map_map]
    apply List.map_congr_left
    intro p _
    by_cases h : p.1 = s <;> simp [h]
  · unfold kvs
    rw [List.map_append]
    rfl
theorem putL_len (l : KV) (s : Str) (d : D) : (putL l s d).length ≤ l.length + 1 := by
  unfold putL
  split
  · rw [List.length_map]; omega
  · rw [List.length_append, List.length_singleton]; omega
theorem putL_keys (l : KV) (s : Str) (d : D) : ((putL l s d).map (·.1)) = if (l.any fun p => decide (p.1 = s)) = true then l.map (·.1) else l.map (·.1) ++ [s] := by
  unfold putL
  split
  · rw [List.map_map]
    apply List.map_congr_left
    intro p _
    by_cases h : p.1 = s <;> simp [h]
  · rw [List.map_append]; rfl
theorem any_mem {l : KV} {s : Str} : (l.any fun p => decide (p.1 = s)) = true ↔ s ∈ l.map (·.1) := by
  rw [List.any_eq_true]
  simp only [decide_eq_true_eq, List.mem_map]
theorem putL_nd {l : KV} {s : Str} {d : D} (h : (l.map (·.1)).Nodup) : ((putL l s d).map (·.1)).Nodup := by
  rw [putL_keys]
  split
  · exact h
  · rename_i hn
    exact List.nodup_append.mpr ⟨h, by simp, fun a ha b hb => by
      rw [List.mem_singleton] at hb
      subst hb
      intro z
      subst z
      exact hn (any_mem.mpr ha)⟩
theorem putL_mem {l : KV} {s : Str} {d : D} {p : Str × D} (h : p ∈ putL l s d) : p ∈ l ∨ p = (s, d) := by
  unfold putL at h
  split at h
  · obtain ⟨q, hq, rfl⟩ := List.mem_map.mp h
    by_cases e : q.1 = s
    · rw [if_pos e, e]; exact .inr rfl
    · rw [if_neg e]; exact .inl hq
  · rcases List.mem_append.mp h with z | z
    · exact .inl z
    · exact .inr (List.mem_singleton.mp z)
theorem putL_new {l : KV} {s : Str} (d : D) (h : s ∉ l.map (·.1)) : putL l s d = l ++ [(s, d)] := by
  unfold putL
  rw [if_neg (fun z => h (any_mem.mp z))]
theorem find_nd : ∀ {l : KV}, (l.map (·.1)).Nodup → ∀ p ∈ l, (l.find? fun q => decide (q.1 = p.1)) = some p
  | [], _, p, hp => by cases hp
  | q :: r, h, p, hp => by
    rw [List.map_cons, List.nodup_cons] at h
    rw [List.find?_cons]
    rcases List.mem_cons.mp hp with rfl | hp
    · simp
    · have ne : ¬ q.1 = p.1 := fun z => h.1 (by rw [z]; exact List.mem_map.mpr ⟨p, hp, rfl⟩)
      rw [show decide (q.1 = p.1) = false from decide_eq_false ne]
      exact find_nd h.2 p hp
theorem same_kvs {l : KV} (h : (l.map (·.1)).Nodup) (hf : ∀ p ∈ l, flatD p.2 = true) : SameKD (kvs l) (kvs l) := by
  refine ⟨rfl, fun p hp => ?_⟩
  obtain ⟨q, hq, rfl⟩ := List.mem_map.mp hp
  refine ⟨?_, hf q hq⟩
  show atKD (kvs l) (.inr q.1) = some q.2
  rw [at_kvs, find_nd h q hq]
  rfl
theorem keysD_kvs (l : KV) : keysD (kvs l) = l.map fun p => D.str p.1 := by
  unfold keysD kvs
  rw [List.map_map]
  rfl
theorem itemsD_kvs (l : KV) : itemsD (kvs l) = l.map fun p => .tup [.str p.1, p.2] := by
  unfold itemsD kvs
  rw [List.map_map]
  rfl
theorem kvs_len (l : KV) : (kvs l).length = l.length := List.length_map ..
theorem at_isSome (l : KV) (s : Str) : (atKD (kvs l) (.inr s)).isSome = decide (s ∈ l.map (·.1)) := by
  rw [at_kvs, Option.isSome_map]
  by_cases h : s ∈ l.map (·.1)
  · rw [decide_eq_true h, List.find?_isSome]
    exact List.any_eq_true.mp (any_mem.mpr h)
  · rw [decide_eq_false h]
    cases e : l.find? fun p => decide (p.1 = s) with
    | none => rfl
    | some p =>
      have h1 : p.1 = s := of_decide_eq_true (List.find?_some (p := fun p : Str × D => decide (p.1 = s)) e)
      have h2 : p.1 ∈ l.map (·.1) := List.mem_map.mpr ⟨p, List.mem_of_find?_eq_some e, rfl⟩
      rw [h1] at h2
      exact absurd h2 h
theorem mem_keys {l : KV} {p : Str × D} (h : p ∈ l) : p.1 ∈ l.map (·.1) := List.mem_map.mpr ⟨p, h, rfl⟩
theorem at_mem {l : KV} {s : Str} {d : D} (h : atKD (kvs l) (.inr s) = some d) : (s, d) ∈ l := by
  rw [at_kvs] at h
  obtain ⟨p, hp, rfl⟩ := Option.map_eq_some_iff.mp h
  have e : p.1 = s := of_decide_eq_true (List.find?_some (p := fun p : Str × D => decide (p.1 = s)) hp)
  rw [← e]
  exact List.mem_of_find?_eq_some hp
theorem at_nd {l : KV} (h : (l.map (·.1)).Nodup) {s : Str} {d : D} (hp : (s, d) ∈ l) : atKD (kvs l) (.inr s) = some d := by
  rw [at_kvs, find_nd h (s, d) hp]
  rfl
theorem at_none {l : KV} {s : Str} (h : s ∉ l.map (·.1)) : atKD (kvs l) (.inr s) = none := by
  cases e : atKD (kvs l) (.inr s) with
  | none => rfl
  | some d => exact absurd (mem_keys (at_mem e)) h
theorem putL_at (l : KV) (s : Str) (d : D) : atKD (kvs (putL l s d)) (.inr s) = some d := by
  rw [at_kvs]
  unfold putL
  by_cases h : (l.any fun p => decide (p.1 = s)) = true
  · rw [if_pos h]
    induction l with
    | nil => cases h
    | cons p r ih =>
      rw [List.map_cons, List.find?_cons]
      by_cases e : p.1 = s
      · rw [if_pos e, show decide ((p.1, d).1 = s) = true from decide_eq_true e]
        rfl
      · rw [if_neg e, show decide (p.1 = s) = false from decide_eq_false e]
        refine ih ?_
        rw [List.any_cons, show decide (p.1 = s) = false from decide_eq_false e, Bool.false_or] at h
        exact h
  · rw [if_neg h, List.find?_append]
    have e : (l.find? fun p => decide (p.1 = s)) = none := by
      rw [List.find?_eq_none]
      intro p hp z
      exact h (List.any_eq_true.mpr ⟨p, hp, z⟩)
    rw [e, Option.none_or, List.find?_cons, show decide ((s, d).1 = s) = true from decide_eq_true rfl]
    rfl
theorem putL_ne (l : KV) {s t : Str} (d : D) (h : t ≠ s) : atKD (kvs (putL l s d)) (.inr t) = atKD (kvs l) (.inr t) := by
  rw [at_kvs, at_kvs]
  unfold putL
  split
  · rename_i hh
    clear hh
    induction l with
    | nil => rfl
    | cons p r ih =>
      rw [List.map_cons, List.find?_cons, List.find?_cons]
      by_cases e : p.1 = s
      · rw [if_pos e]
        have e2 : ¬ p.1 = t := fun z => h (z.symm.trans e)
        rw [show decide ((p.1, d).1 = t) = false from decide_eq_false e2]
        exact ih
      · rw [if_neg e]
        by_cases e2 : p.1 = t
        · rw [show decide (p.1 = t) = true from decide_eq_true e2]
        · rw [show decide (p.1 = t) = false from decide_eq_false e2]
          exact ih
  · rw [List.find?_append]
    have e : ([(s, d)] : KV).find? (fun p => decide (p.1 = t)) = none := by
      rw [List.find?_cons, show decide ((s, d).1 = t) = false from decide_eq_false fun z => h z.symm]
      rfl
    rw [e, Option.or_none]
def delL (l : KV) (s : Str) : KV := l.filter fun p => decide (p.1 ≠ s)
theorem del_kvs (l : KV) (s : Str) : dropKD (kvs l) (.inr s) = kvs (delL l s) := by
  unfold dropKD delL kvs
  rw [List.filter_map]
  congr 1
  apply List.filter_congr
  intro p _
  simp
theorem delL_at (l : KV) (s : Str) : atKD (kvs (delL l s)) (.inr s) = none := by
  refine at_none fun h => ?_
  obtain ⟨p, hp, e⟩ := List.mem_map.mp h
  have := (List.mem_filter.mp hp).2
  simp [e] at this
theorem delL_ne (l : KV) {s t : Str} (h : t ≠ s) : atKD (kvs (delL l s)) (.inr t) = atKD (kvs l) (.inr t) := by
  rw [at_kvs, at_kvs]
  congr 1
  unfold delL
  rw [List.find?_filter]
  congr 1
  funext p
  by_cases e : p.1 = t
  · have : p.1 ≠ s := fun z => h (e.symm.trans z)
    simp [e, h]
  · simp [e]
theorem merge_kvs {l : KV} (h : (l.map (·.1)).Nodup) : mergeD [] (kvs l) = kvs l := by
  suffices z : ∀ (m a : KV), ((a ++ m).map (·.1)).Nodup → mergeD (kvs a) (kvs m) = kvs (a ++ m) from z l [] h
  intro m
  induction m with
  | nil => intro a _; rw [List.append_nil]; rfl
  | cons p r ih =>
    intro a hn
    obtain ⟨s, d⟩ := p
    show mergeD (putKD (kvs a) (.inr s) d) (kvs r) = _
    have hs : s ∉ a.map (·.1) := fun z => by
      rw [List.map_append, List.nodup_append] at hn
      exact hn.2.2 s z s (List.mem_cons_self ..) rfl
    rw [put_kvs, putL_new d hs, ih (a ++ [(s, d)]) (by rw [List.append_assoc]; exact hn), List.append_assoc]
    rfl
/-- where the classes of terms stand -/
structure TC where
  nm : Addr
  vl : Addr
  tw : Addr
  nt : Addr
  pk : Addr
  tm : Addr
/-- a term -/
inductive Tm where
  | nm (s : Str)
  | vl (v : D)
  | tw (op : Str) (a b : Tm)
  | nt (a : Tm)
  | pk (a b e : Tm)
namespace Tm
def tag : Tm → Nat
  | .nm _ => 0 | .vl _ => 1 | .tw _ _ _ => 2 | .nt _ => 3 | .pk _ _ _ => 4
def d (c : TC) : Tm → D
  | .nm s => .obj c.nm [("_name", .str s)]
  | .vl v => .obj c.vl [("_value", v)]
  | .tw op a b => .obj c.tw [("_op", .str op), ("_one", a.d c), ("_other", b.d c)]
  | .nt a => .obj c.nt [("_one", a.d c)]
  | .pk a b e => .obj c.pk [("_by", a.d c), ("_one", b.d c), ("_other", e.d c)]
def cl (c : TC) : Tm → Addr
  | .nm _ => c.nm | .vl _ => c.vl | .tw _ _ _ => c.tw | .nt _ => c.nt | .pk _ _ _ => c.pk
def fs (c : TC) : Tm → List (Str × D)
  | .nm s => [("_name", .str s)]
  | .vl v => [("_value", v)]
  | .tw op a b => [("_op", .str op), ("_one", a.d c), ("_other", b.d c)]
  | .nt a => [("_one", a.d c)]
  | .pk a b e => [("_by", a.d c), ("_one", b.d c), ("_other", e.d c)]
theorem d_obj (c : TC) : ∀ t : Tm, t.d c = .obj (t.cl c) (t.fs c)
  | .nm _ => rfl | .vl _ => rfl | .tw _ _ _ => rfl | .nt _ => rfl | .pk _ _ _ => rfl
def told : Tm → D
  | .nm s => .tup [.str "name", .str s]
  | .vl v => .tup [.str "value", v]
  | .tw op a b => .tup [.str "two", .str op, a.told, b.told]
  | .nt a => .tup [.str "not", a.told]
  | .pk a b e => .tup [.str "pick", a.told, b.told, e.told]
def lv : Tm → Nat
  | .nm _ => 1
  | .vl _ => 1
  | .tw _ a b => 1 + max a.lv b.lv
  | .nt a => 1 + a.lv
  | .pk a b e => 1 + max (max a.lv b.lv) e.lv
def ns : Tm → List Str
  | .nm s => [s]
  | .vl _ => []
  | .tw _ a b => once (a.ns ++ b.ns)
  | .nt a => a.ns
  | .pk a b e => once (a.ns ++ b.ns ++ e.ns)
end Tm
abbrev opsL : List Str := ["+", "-", "*", "/", "mod", "<", "=", "&", "|"]
def vok : D → Prop
  | .bl _ => True
  | .int i => -1000000000 ≤ i ∧ i ≤ 1000000000
  | _ => False
def gdN (s : Str) : Prop := s.length ≤ 100 ∧ okS s ∧ isPt (.str s) = true
def Tm.ok : Tm → Prop
  | .nm s => gdN s
  | .vl v => vok v
  | .tw op a b => op ∈ opsL ∧ a.ok ∧ b.ok
  | .nt a => a.ok
  | .pk a b e => a.ok ∧ b.ok ∧ e.ok
theorem Tm.lv_pos : ∀ t : Tm, 1 ≤ t.lv
  | .nm _ => Nat.le_refl _
  | .vl _ => Nat.le_refl _
  | .tw _ _ _ => Nat.le_add_right _ _
  | .nt _ => Nat.le_add_right _ _
  | .pk _ _ _ => Nat.le_add_right _ _
theorem Tm.ns_len : ∀ t : Tm, t.ns.length ≤ 3 ^ t.lv
  | .nm _ => by show 1 ≤ 3 ^ 1; decide
  | .vl _ => by show 0 ≤ 3 ^ 1; decide
  | .tw _ a b => by
    have h1 := ns_len a
    have h2 := ns_len b
    have h3 := once_len (a.ns ++ b.ns)
    rw [List.length_append] at h3
    have e1 : 3 ^ a.lv ≤ 3 ^ max a.lv b.lv := Nat.pow_le_pow_right (by decide) (Nat.le_max_left _ _)
    have e2 : 3 ^ b.lv ≤ 3 ^ max a.lv b.lv := Nat.pow_le_pow_right (by decide) (Nat.le_max_right _ _)
    show (once (a.ns ++ b.ns)).length ≤ 3 ^ (1 + max a.lv b.lv)
    rw [Nat.pow_add]
    omega
  | .nt a => by
    have h1 := ns_len a
    show a.ns.length ≤ 3 ^ (1 + a.lv)
    rw [Nat.pow_add]
    omega
  | .pk a b e => by
    have h1 := ns_len a
    have h2 := ns_len b
    have h4 := ns_len e
    have h3 := once_len (a.ns ++ b.ns ++ e.ns)
    rw [List.length_append, List.length_append] at h3
    have e1 : 3 ^ a.lv ≤ 3 ^ max (max a.lv b.lv) e.lv := Nat.pow_le_pow_right (by decide) (Nat.le_trans (Nat.le_max_left _ _) (Nat.le_max_left _ _))
    have e2 : 3 ^ b.lv ≤ 3 ^ max (max a.lv b.lv) e.lv := Nat.pow_le_pow_right (by decide) (Nat.le_trans (Nat.le_max_right _ _) (Nat.le_max_left _ _))
    have e3 : 3 ^ e.lv ≤ 3 ^ max (max a.lv b.lv) e.lv := Nat.pow_le_pow_right (by decide) (Nat.le_max_right _ _)
    show (once (a.ns ++ b.ns ++ e.ns)).length ≤ 3 ^ (1 + max (max a.lv b.lv) e.lv)
    rw [Nat.pow_add]
    omega
theorem Tm.ns_small {t : Tm} {n : Nat} (h : t.lv ≤ n) (hn : n ≤ 5) : t.ns.length ≤ 243 :=
  Nat.le_trans t.ns_len (Nat.le_trans (Nat.pow_le_pow_right (by decide) (Nat.le_trans h hn)) (by decide))
theorem mx_nat (i j : Nat) : mx (i : Int) (j : Int) = ((max i j : Nat) : Int) := by
  unfold mx
  split <;> omega
/-- what is known of the classes -/
def TC.all (c : TC) : List Addr := [c.nm, c.vl, c.tw, c.nt, c.pk]
structure Txt (K : PySem.W.Frag) (mg : Str → Option Value) (c : TC) : Prop where
  nm : OC K c.nm ["_name"]
  vl : OC K c.vl ["_value"]
  tw : OC K c.tw ["_op", "_one", "_other"]
  nt : OC K c.nt ["_one"]
  pk : OC K c.pk ["_by", "_one", "_other"]
  any : ∀ t : Tm, PySem.W.kitAny K (.ref (t.cl c)) (c.all.map Value.ref) = some true
  sub : ∀ t : Tm, PySem.W.kitOne K (.ref (t.cl c)) (.ref c.tm) = some true
theorem Txt.kd {K : PySem.W.Frag} {mg : Str → Option Value} {c : TC} (T : Txt K mg c) : ∀ t : Tm, kdD K (t.d c) (.ref (t.cl c))
  | .nm _ => .inl ⟨_, _, _, rfl, T.nm, rfl⟩
  | .vl _ => .inl ⟨_, _, _, rfl, T.vl, rfl⟩
  | .tw _ _ _ => .inl ⟨_, _, _, rfl, T.tw, rfl⟩
  | .nt _ => .inl ⟨_, _, _, rfl, T.nt, rfl⟩
  | .pk _ _ _ => .inl ⟨_, _, _, rfl, T.pk, rfl⟩
def vias (K : PySem.W.Frag) (c : TC) (W : Nat → W0) : List (Addr × Sp) := [(c.nm, sp0 K (W 0)), (c.vl, sp0 K (W 1)), (c.tw, sp0 K (W 2)), (c.nt, sp0 K (W 3)), (c.pk, sp0 K (W 4))]
theorem vias_mem {K : PySem.W.Frag} {c : TC} {W : Nat → W0} : ∀ t : Tm, (t.cl c, sp0 K (W t.tag)) ∈ vias K c W
  | .nm _ => .head _
  | .vl _ => .tail _ (.head _)
  | .tw _ _ _ => .tail _ (.tail _ (.head _))
  | .nt _ => .tail _ (.tail _ (.tail _ (.head _)))
  | .pk _ _ _ => .tail _ (.tail _ (.tail _ (.tail _ (.head _))))
theorem vias_all {K : PySem.W.Frag} {c : TC} {W : Nat → W0} {P : Addr × Sp → Prop} (h0 : P (c.nm, sp0 K (W 0))) (h1 : P (c.vl, sp0 K (W 1))) (h2 : P (c.tw, sp0 K (W 2))) (h3 : P (c.nt, sp0 K (W 3))) (h4 : P (c.pk, sp0 K (W 4))) : ∀ z ∈ vias K c W, P z := by
  intro z hz
  rcases List.mem_cons.mp hz with rfl | hz
  · exact h0
  rcases List.mem_cons.mp hz with rfl | hz
  · exact h1
  rcases List.mem_cons.mp hz with rfl | hz
  · exact h2
  rcases List.mem_cons.mp hz with rfl | hz
  · exact h3
  rcases List.mem_cons.mp hz with rfl | hz
  · exact h4
  cases hz
section
variable {K : PySem.W.Frag} {F : Fr} {ρ : Sls} {P : Sls → D → Prop} {ta : TE} {c : TC} {W : Nat → W0}
theorem wE_tm {m : Str} (hm : ∀ t : Tm, (t.fs c).lookup m = none) (h : wE K F ta ρ fun ρ1 x => ∃ t : Tm, x = t.d c ∧ W t.tag [t.d c] (RsP (P ρ1)) X0) : wE K F (tVia (vias K c W) m L2.E0 ta) ρ P :=
  wE_via eok0 (wE_mono h fun ρ1 x ⟨t, e, hW⟩ => ⟨t.cl c, t.fs c, W t.tag, e.trans (t.d_obj c), vias_mem t, hm t, by rw [e]; exact hW⟩)
theorem wO_tm {m : Str} {PO : Sls → List D → Prop} (hm : ∀ t : Tm, (t.fs c).lookup m = none) (h : wE K F ta ρ fun ρ1 x => ∃ t : Tm, x = t.d c ∧ W t.tag [t.d c] (RsO (PO ρ1)) X0) : wO K F (tVia (vias K c W) m L2.E0 ta) ρ PO :=
  wO_via eok0 (wE_mono h fun ρ1 x ⟨t, e, hW⟩ => ⟨t.cl c, t.fs c, W t.tag, e.trans (t.d_obj c), vias_mem t, hm t, by rw [e]; exact hW⟩)
end
theorem nf_told (c : TC) : ∀ t : Tm, (t.fs c).lookup ("told" : Str) = none
  | .nm _ => rfl | .vl _ => rfl | .tw _ _ _ => rfl | .nt _ => rfl | .pk _ _ _ => rfl
theorem nf_names (c : TC) : ∀ t : Tm, (t.fs c).lookup ("names" : Str) = none
  | .nm _ => rfl | .vl _ => rfl | .tw _ _ _ => rfl | .nt _ => rfl | .pk _ _ _ => rfl
theorem nf_levels (c : TC) : ∀ t : Tm, (t.fs c).lookup ("levels" : Str) = none
  | .nm _ => rfl | .vl _ => rfl | .tw _ _ _ => rfl | .nt _ => rfl | .pk _ _ _ => rfl
abbrev W_told (c : TC) (n : Nat) (tag : Nat) : W0 := fun ds Φ _ => ∃ t : Tm, ds = [t.d c] ∧ t.tag = tag ∧ t.lv ≤ n ∧ Φ (.fz t.told)
abbrev W_levels (c : TC) (n : Nat) (tag : Nat) : W0 := fun ds Φ _ => ∃ t : Tm, ds = [t.d c] ∧ t.tag = tag ∧ t.lv ≤ n ∧ Φ (.fz (.int t.lv))
abbrev W_names (c : TC) (n : Nat) (tag : Nat) : W0 := fun ds Φ _ => ∃ t : Tm, ds = [t.d c] ∧ t.tag = tag ∧ t.lv ≤ n ∧ t.lv ≤ 5 ∧ Φ (.ow (t.ns.map .str))
abbrev W_each_once : W0 := fun ds Φ _ => ∃ ss : List Str, (ds = [.lst (ss.map .str)] ∨ ds = [.tup (ss.map .str)]) ∧ ss.length ≤ 10000 ∧ Φ (.ow ((once ss).map .str))
abbrev W_ops_told : W0 := fun ds Φ _ => ds = [] ∧ Φ (.ow (opsL.map .str))
abbrev W__inner (c : TC) : W0 := fun ds Φ _ => ∃ t : Tm, ds = [t.d c] ∧ t.lv ≤ 4 ∧ Φ (.fz (t.d c))
abbrev W_Name_init (c : TC) : WI := fun ds Φ => ∃ s : Str, ds = [.str s] ∧ gdN s ∧ Φ [("_name", .str s)]
abbrev W_Value_init (c : TC) : WI := fun ds Φ => ∃ v : D, ds = [v] ∧ vok v ∧ Φ [("_value", v)]
abbrev W_Two_init (c : TC) : WI := fun ds Φ => ∃ (op : Str) (a b : Tm), ds = [.str op, a.d c, b.d c] ∧ op ∈ opsL ∧ a.lv ≤ 4 ∧ b.lv ≤ 4 ∧ Φ [("_op", .str op), ("_one", a.d c), ("_other", b.d c)]
abbrev W_Not_init (c : TC) : WI := fun ds Φ => ∃ a : Tm, ds = [a.d c] ∧ a.lv ≤ 4 ∧ Φ [("_one", a.d c)]
abbrev W_Pick_init (c : TC) : WI := fun ds Φ => ∃ a b e : Tm, ds = [a.d c, b.d c, e.d c] ∧ a.lv ≤ 4 ∧ b.lv ≤ 4 ∧ e.lv ≤ 4 ∧ Φ [("_by", a.d c), ("_one", b.d c), ("_other", e.d c)]
abbrev W_made_of_terms (c : TC) (n : Nat) : W0 := fun ds Φ _ => ∃ t : Tm, ds = [t.told] ∧ t.ok ∧ t.lv ≤ n ∧ t.lv ≤ 5 ∧ Φ (.fz (t.d c))
abbrev W_term_of (c : TC) : W0 := fun ds Φ _ => ∃ t : Tm, ds = [t.told] ∧ t.ok ∧ t.lv ≤ 5 ∧ Φ (.fz (t.d c))
theorem ops_in : ∀ op ∈ opsL, inD (.str op) (opsL.map .str) = true := by
  intro op h
  have e : (opsL.all fun o => inD (.str o) (opsL.map .str)) = true := by decide +kernel
  exact List.all_eq_true.mp e op h
theorem gdN.gd {s : Str} (h : gdN s) : Gd (.str s) := Gd.str (Nat.le_trans h.1 (by decide)) h.2.1
/-- names behind names, those that stand there already left out -/
def addN (acc ns : List Str) : List Str := acc ++ ns.filter fun s => decide (s ∉ acc)
theorem addN_nil (ns : List Str) : addN [] ns = ns := by
  unfold addN
  rw [List.nil_append]
  exact List.filter_eq_self.mpr fun s _ => decide_eq_true (List.not_mem_nil)
def stepN (acc : List Str) (s : Str) : List Str := if s ∈ acc then acc else acc ++ [s]
theorem once_eq (l : List Str) : once l = l.foldl stepN [] := rfl
theorem foldN : ∀ (m acc : List Str), m.Nodup → m.foldl stepN acc = addN acc m
  | [], acc, _ => by show acc = acc ++ []; rw [List.append_nil]
  | s :: m, acc, h => by
    have hs := (List.nodup_cons.mp h).1
    have hm := (List.nodup_cons.mp h).2
    rw [List.foldl_cons, foldN m _ hm]
    unfold addN stepN
    rw [List.filter_cons]
    by_cases z : s ∈ acc
    · rw [if_pos z, if_neg (by rw [decide_eq_false (not_not_intro z)]; exact fun q => nomatch q)]
    · rw [if_neg z, if_pos (decide_eq_true z), List.append_assoc]
      congr 1
      rw [List.singleton_append]
      congr 1
      refine List.filter_congr fun x hx => ?_
      have ne : x ≠ s := fun q => hs (by rw [← q]; exact hx)
      refine decide_eq_decide.mpr ?_
      rw [List.mem_append, List.mem_singleton]
      exact ⟨fun q y => q (.inl y), fun q y => y.elim q ne⟩
theorem once_nodup (l : List Str) : (once l).Nodup := by
  rw [once_eq]
  suffices h : ∀ (l acc : List Str), acc.Nodup → (l.foldl stepN acc).Nodup from h l [] List.nodup_nil
  intro l
  induction l with
  | nil => exact fun acc h => h
  | cons a l ih =>
    intro acc h
    rw [List.foldl_cons]
    refine ih _ ?_
    unfold stepN
    by_cases z : a ∈ acc
    · rw [if_pos z]; exact h
    · rw [if_neg z]
      rw [List.nodup_append]
      exact ⟨h, List.nodup_cons.mpr ⟨List.not_mem_nil, List.nodup_nil⟩, fun x hx y hy q => by
        rw [List.mem_singleton] at hy
        exact z (by rw [← hy, ← q]; exact hx)⟩
theorem Tm.nodup : ∀ t : Tm, t.ns.Nodup
  | .nm s => List.nodup_cons.mpr ⟨List.not_mem_nil, List.nodup_nil⟩
  | .vl _ => List.nodup_nil
  | .tw _ a b => once_nodup _
  | .nt a => nodup a
  | .pk a b e => once_nodup _
theorem once_two {a b : List Str} (ha : a.Nodup) (hb : b.Nodup) : once (a ++ b) = addN (addN [] a) b := by
  rw [once_eq, List.foldl_append, foldN _ _ ha, foldN _ _ hb]
theorem once_three {a b e : List Str} (ha : a.Nodup) (hb : b.Nodup) (he : e.Nodup) : once (a ++ b ++ e) = addN (addN (addN [] a) b) e := by
  rw [once_eq, List.foldl_append, List.foldl_append, foldN _ _ ha, foldN _ _ hb, foldN _ _ he]
theorem inD_str (s : Str) (fs : List Str) : inD (.str s) (fs.map .str) = decide (s ∈ fs) := by
  unfold inD inV
  induction fs with
  | nil => rfl
  | cons a r ih =>
    rw [List.map_cons, List.map_cons, List.any_cons, ih]
    show ((a == s) || decide (s ∈ r)) = _
    rw [Bool.eq_iff_iff]
    simp only [Bool.or_eq_true, beq_iff_eq, decide_eq_true_eq, List.mem_cons]
    exact ⟨fun q => q.imp Eq.symm id, fun q => q.imp Eq.symm id⟩
theorem flat_strs (l : List Str) : (l.map D.str).all flatD = true := by
  induction l with
  | nil => rfl
  | cons a r ih => rw [List.map_cons, List.all_cons, ih]; rfl
theorem flt_names (ns fs : List Str) : ((ns.map D.str).filter fun d => !inD d (fs.map D.str)).map id = (ns.filter fun s => decide (s ∉ fs)).map D.str := by
  rw [List.map_id]
  induction ns with
  | nil => rfl
  | cons a r ih =>
    rw [List.map_cons, List.filter_cons, List.filter_cons, ih, inD_str]
    by_cases z : a ∈ fs
    · rw [decide_eq_true z, if_neg (by decide), if_neg (by rw [decide_eq_false (not_not_intro z)]; decide)]
    · rw [decide_eq_false z, if_pos (by decide), if_pos (decide_eq_true z)]
      rfl
theorem addN_len (acc ns : List Str) : (addN acc ns).length ≤ acc.length + ns.length := by
  unfold addN
  rw [List.length_append]
  have := List.length_filter_le (fun s => decide (s ∉ acc)) ns
  omega
/-! the texts of told terms -/
def Tm.py : Tm → PyData
  | .nm s => .tuple [.str "name", .str s]
  | .vl (.bl b) => .tuple [.str "value", .bool b]
  | .vl (.int i) => .tuple [.str "value", .int i]
  | .vl _ => .none
  | .tw op a b => .tuple [.str "two", .str op, a.py, b.py]
  | .nt a => .tuple [.str "not", a.py]
  | .pk a b e => .tuple [.str "pick", a.py, b.py, e.py]
theorem Tm.toPy : ∀ t : Tm, t.ok → DL.toPy t.told = some t.py
  | .nm _, _ => by simp [told, py, DL.toPy, DL.toPyL]
  | .vl v, h => by
    cases v <;> first | exact h.elim | simp [told, py, DL.toPy, DL.toPyL]
  | .tw _ a b, h => by simp [told, py, DL.toPy, DL.toPyL, toPy a h.2.1, toPy b h.2.2]
  | .nt a, h => by simp [told, py, DL.toPy, DL.toPyL, toPy a h]
  | .pk a b e, h => by simp [told, py, DL.toPy, DL.toPyL, toPy a h.1, toPy b h.2.1, toPy e h.2.2]
theorem Tm.py_dict : ∀ t : Tm, t.ok → t.py.hasDict = false
  | .nm _, _ => rfl
  | .vl v, h => by cases v <;> first | exact h.elim | rfl
  | .tw _ a b, h => by simp [py, PyData.hasDict, PyData.hasDictAll, py_dict a h.2.1, py_dict b h.2.2]
  | .nt a, h => by simp [py, PyData.hasDict, PyData.hasDictAll, py_dict a h]
  | .pk a b e, h => by simp [py, PyData.hasDict, PyData.hasDictAll, py_dict a h.1, py_dict b h.2.1, py_dict e h.2.2]
theorem Tm.py_show : ∀ t : Tm, t.ok → t.py.showable = true
  | .nm _, _ => rfl
  | .vl v, h => by
    cases v <;> first | exact h.elim | rfl | skip
    rename_i i
    have hi : i.natAbs.log2 < 1920 := log2_small (by have := h.1; have := h.2; omega)
    simp [py, PyData.showable, PyData.showableAll, hi]
  | .tw _ a b, h => by simp [py, PyData.showable, PyData.showableAll, py_show a h.2.1, py_show b h.2.2]
  | .nt a, h => by simp [py, PyData.showable, PyData.showableAll, py_show a h]
  | .pk a b e, h => by simp [py, PyData.showable, PyData.showableAll, py_show a h.1, py_show b h.2.1, py_show e h.2.2]
theorem Tm.py_depth : ∀ t : Tm, t.py.depth ≤ t.lv
  | .nm _ => by simp [py, PyData.depth, PyData.depthAll, lv]
  | .vl v => by cases v <;> simp [py, PyData.depth, PyData.depthAll, lv]
  | .tw _ a b => by
    have h1 := py_depth a
    have h2 := py_depth b
    simp only [py, PyData.depth, PyData.depthAll, lv]
    omega
  | .nt a => by
    have h1 := py_depth a
    simp only [py, PyData.depth, PyData.depthAll, lv]
    omega
  | .pk a b e => by
    have h1 := py_depth a
    have h2 := py_depth b
    have h3 := py_depth e
    simp only [py, PyData.depth, PyData.depthAll, lv]
    omega
theorem int_text (i : Int) (h : -1000000000 ≤ i ∧ i ≤ 1000000000) : (PyData.shown (.int i)).length ≤ 13 := by
  have e : (PyData.shown (.int i)).length = (toString i).length := ofString_length _
  rw [e]
  have := int_text_length_le10 (a := i) (k := 10) (by decide) (by have := h.1; have := h.2; omega)
  omega
theorem op_small : ∀ op ∈ opsL, op.length ≤ 10 ∧ okS op := by
  intro op h
  have e : (opsL.all fun o => decide (o.length ≤ 10) && (o.cps.toList.all fun c => decide (c < 0x110000))) = true := by decide +kernel
  have := List.all_eq_true.mp e op h
  rw [Bool.and_eq_true] at this
  exact ⟨of_decide_eq_true this.1, okS_of this.2⟩
theorem ok_short {s : Str} (h : okS s) : (s.cps.toList.all fun c => decide (c < 16 ^ 8)) = true :=
  List.all_eq_true.mpr fun c hc => decide_eq_true (Nat.lt_trans (h c hc) (by decide))
theorem Tm.py_short : ∀ t : Tm, t.ok → t.py.leavesShort 13 = true
  | .nm s, h => by
    have h1 := ok_short h.2.1
    have h2 := ok_short (s := "name") (okS_of (by decide +kernel))
    simp only [py, PyData.leavesShort, PyData.leavesShortAll, h1, h2]
    rfl
  | .vl v, h => by
    have h2 := ok_short (s := "value") (okS_of (by decide +kernel))
    cases v <;> first | exact h.elim | skip
    · simp only [py, PyData.leavesShort, PyData.leavesShortAll, h2]
      rfl
    · rename_i i
      have h3 : decide ((PyData.shown (.int i)).length ≤ 13) = true := decide_eq_true (int_text i h)
      simp only [py, PyData.leavesShort, PyData.leavesShortAll, h2, h3]
      rfl
  | .tw op a b, h => by
    have h1 := ok_short (op_small op h.1).2
    have h2 := ok_short (s := "two") (okS_of (by decide +kernel))
    simp only [py, PyData.leavesShort, PyData.leavesShortAll, h1, h2, py_short a h.2.1, py_short b h.2.2]
    rfl
  | .nt a, h => by
    have h2 := ok_short (s := "not") (okS_of (by decide +kernel))
    simp only [py, PyData.leavesShort, PyData.leavesShortAll, h2, py_short a h]
    rfl
  | .pk a b e, h => by
    have h2 := ok_short (s := "pick") (okS_of (by decide +kernel))
    simp only [py, PyData.leavesShort, PyData.leavesShortAll, h2, py_short a h.1, py_short b h.2.1, py_short e h.2.2]
    rfl
theorem pow4 {a m : Nat} (h : a ≤ m) : 4 ^ a ≤ 4 ^ m := Nat.pow_le_pow_right (by decide) h
theorem Tm.py_bulk : ∀ t : Tm, t.ok → t.py.bulk ≤ 200 * 4 ^ t.lv
  | .nm s, h => by
    have e : (Str.ofString "name").cps.size = 4 := by decide +kernel
    have hs : s.cps.size ≤ 100 := h.1
    simp only [py, PyData.bulk, PyData.bulkAll, lv, e]
    omega
  | .vl v, h => by
    have e : (Str.ofString "value").cps.size = 5 := by decide +kernel
    cases v <;> first | exact h.elim | (simp only [py, PyData.bulk, PyData.bulkAll, lv, e]; omega)
  | .tw op a b, h => by
    have e : (Str.ofString "two").cps.size = 3 := by decide +kernel
    have ho : op.cps.size ≤ 10 := (op_small op h.1).1
    have h1 := py_bulk a h.2.1
    have h2 := py_bulk b h.2.2
    have e1 : 4 ^ a.lv ≤ 4 ^ max a.lv b.lv := pow4 (Nat.le_max_left _ _)
    have e2 : 4 ^ b.lv ≤ 4 ^ max a.lv b.lv := pow4 (Nat.le_max_right _ _)
    have e3 : 1 ≤ 4 ^ max a.lv b.lv := Nat.pow_pos (by decide)
    simp only [py, PyData.bulk, PyData.bulkAll, lv, e, Nat.pow_add]
    omega
  | .nt a, h => by
    have e : (Str.ofString "not").cps.size = 3 := by decide +kernel
    have h1 := py_bulk a h
    have e3 : 1 ≤ 4 ^ a.lv := Nat.pow_pos (by decide)
    simp only [py, PyData.bulk, PyData.bulkAll, lv, e, Nat.pow_add]
    omega
  | .pk a b e', h => by
    have e : (Str.ofString "pick").cps.size = 4 := by decide +kernel
    have h1 := py_bulk a h.1
    have h2 := py_bulk b h.2.1
    have h3 := py_bulk e' h.2.2
    have e1 : 4 ^ a.lv ≤ 4 ^ max (max a.lv b.lv) e'.lv := pow4 (Nat.le_trans (Nat.le_max_left _ _) (Nat.le_max_left _ _))
    have e2 : 4 ^ b.lv ≤ 4 ^ max (max a.lv b.lv) e'.lv := pow4 (Nat.le_trans (Nat.le_max_right _ _) (Nat.le_max_left _ _))
    have e4 : 4 ^ e'.lv ≤ 4 ^ max (max a.lv b.lv) e'.lv := pow4 (Nat.le_max_right _ _)
    have e3 : 1 ≤ 4 ^ max (max a.lv b.lv) e'.lv := Nat.pow_pos (by decide)
    simp only [py, PyData.bulk, PyData.bulkAll, lv, e, Nat.pow_add]
    omega
theorem Tm.py_fits {t : Tm} (h : t.ok) (hl : t.lv ≤ 5) : t.py.shown.length ≤ sizeLine := by
  refine PyData.shown_fits_bulk (B := 13) (by decide) (by decide) (py_short t h) ?_
  have h1 := py_bulk t h
  have h2 : 4 ^ t.lv ≤ 4 ^ 5 := Nat.pow_le_pow_right (by decide) hl
  have h3 : (4 : Nat) ^ 5 = 1024 := by decide
  omega
theorem once_mem {l : List Str} {s : Str} (h : s ∈ once l) : s ∈ l := by
  rw [once_eq] at h
  suffices k : ∀ (l acc : List Str), s ∈ l.foldl stepN acc → s ∈ acc ∨ s ∈ l from (k l [] h).elim (fun z => nomatch z) id
  intro l
  induction l with
  | nil => exact fun acc h => .inl h
  | cons a l ih =>
    intro acc h
    rw [List.foldl_cons] at h
    rcases ih _ h with z | z
    · unfold stepN at z
      by_cases q : a ∈ acc
      · rw [if_pos q] at z; exact .inl z
      · rw [if_neg q] at z
        rcases List.mem_append.mp z with z | z
        · exact .inl z
        · rw [List.mem_singleton] at z
          exact .inr (by rw [z]; exact .head _)
    · exact .inr (.tail _ z)
theorem Tm.ns_ok : ∀ t : Tm, t.ok → ∀ s ∈ t.ns, okS s
  | .nm n, h, s, hs => by
    have e : s = n := List.mem_singleton.mp hs
    rw [e]
    exact h.2.1
  | .vl _, _, s, hs => nomatch hs
  | .tw _ a b, h, s, hs => (List.mem_append.mp (once_mem hs)).elim (ns_ok a h.2.1 s) (ns_ok b h.2.2 s)
  | .nt a, h, s, hs => ns_ok a h s hs
  | .pk a b e, h, s, hs => (List.mem_append.mp (once_mem hs)).elim (fun z => (List.mem_append.mp z).elim (ns_ok a h.1 s) (ns_ok b h.2.1 s)) (ns_ok e h.2.2 s)
theorem wC_reprT {K : PySem.W.Frag} {F : Fr} {ρ : Sls} {P : Sls → D → Prop} : ∀ {t : Tm}, t.ok → t.lv ≤ 5 → P ρ (.str t.py.shown) → wC K F (rReprD K) [t.told] ρ P := fun {t} h hl p => by
  have h1 := t.toPy h
  have h2 := t.py_show h
  have h3 := t.py_dict h
  have h4 : t.py.depth ≤ 60 := Nat.le_trans t.py_depth (Nat.le_trans hl (by decide))
  have h5 := Tm.py_fits h hl
  cases t <;> exact wC_reprD h1 h2 h3 h4 h5 p
theorem eqv_strs {l : List Str} (h : ∀ s ∈ l, okS s) : PyData.eqv (.list (l.map .str)) (.list (l.map .str)) = true := SeqAt.eqv_refl _ (SeqAt.canLay_of_shaped (shaped_strs h))
theorem toPy_strs (l : List Str) : DL.toPy (.lst (l.map .str)) = some (.list (l.map .str)) := by
  rw [DL.toPy, toPyL_strs]
  rfl
theorem no_told {c : TC} {K : PySem.W.Frag} {tag : Nat} {vs : List V} {H : Hp} {Q : VK} {E : XK} : ¬ sp0 K (W_told c 0 tag) vs H Q E := sp0_no fun _ _ _ ⟨t, _, _, h, _⟩ => absurd t.lv_pos (by omega)
theorem no_levels {c : TC} {K : PySem.W.Frag} {tag : Nat} {vs : List V} {H : Hp} {Q : VK} {E : XK} : ¬ sp0 K (W_levels c 0 tag) vs H Q E := sp0_no fun _ _ _ ⟨t, _, _, h, _⟩ => absurd t.lv_pos (by omega)
theorem no_names {c : TC} {K : PySem.W.Frag} {tag : Nat} {vs : List V} {H : Hp} {Q : VK} {E : XK} : ¬ sp0 K (W_names c 0 tag) vs H Q E := sp0_no fun _ _ _ ⟨t, _, _, h, _⟩ => absurd t.lv_pos (by omega)
theorem no_made_of_terms {c : TC} {K : PySem.W.Frag} {vs : List V} {H : Hp} {Q : VK} {E : XK} : ¬ sp0 K (W_made_of_terms c 0) vs H Q E := sp0_no fun _ _ _ ⟨t, _, _, h, _⟩ => absurd t.lv_pos (by omega)
theorem mk_any {K : PySem.W.Frag} {c : TC} (a0 : PySem.W.kitAny K (.ref c.nm) (c.all.map Value.ref) = some true) (a1 : PySem.W.kitAny K (.ref c.vl) (c.all.map Value.ref) = some true) (a2 : PySem.W.kitAny K (.ref c.tw) (c.all.map Value.ref) = some true) (a3 : PySem.W.kitAny K (.ref c.nt) (c.all.map Value.ref) = some true) (a4 : PySem.W.kitAny K (.ref c.pk) (c.all.map Value.ref) = some true) : ∀ t : Tm, PySem.W.kitAny K (.ref (t.cl c)) (c.all.map Value.ref) = some true
  | .nm _ => a0 | .vl _ => a1 | .tw _ _ _ => a2 | .nt _ => a3 | .pk _ _ _ => a4
theorem mk_sub {K : PySem.W.Frag} {c : TC} (a0 : PySem.W.kitOne K (.ref c.nm) (.ref c.tm) = some true) (a1 : PySem.W.kitOne K (.ref c.vl) (.ref c.tm) = some true) (a2 : PySem.W.kitOne K (.ref c.tw) (.ref c.tm) = some true) (a3 : PySem.W.kitOne K (.ref c.nt) (.ref c.tm) = some true) (a4 : PySem.W.kitOne K (.ref c.pk) (.ref c.tm) = some true) : ∀ t : Tm, PySem.W.kitOne K (.ref (t.cl c)) (.ref c.tm) = some true
  | .nm _ => a0 | .vl _ => a1 | .tw _ _ _ => a2 | .nt _ => a3 | .pk _ _ _ => a4
theorem one_self {K : PySem.W.Frag} {C : Addr} : PySem.W.kitOne K (.ref C) (.ref C) = some true := by
  unfold PySem.W.kitOne
  rw [if_pos (ref_beq C)]
theorem one_not {K : PySem.W.Frag} {C C' : Addr} (hne : C ≠ C') (h : PySem.W.kitCls K (.ref C) (.ref C') = some false) : PySem.W.kitOne K (.ref C) (.ref C') = some false := by
  unfold PySem.W.kitOne
  rw [if_neg (by simpa using hne)]
  exact h
theorem exm_own {K : PySem.W.Frag} {C : Addr} (ex : PySem.W.subIn K (.ref C) (.type "BaseException") = some true) (cm : PySem.W.mroIn K C (.type "object") = some true) (ty : PySem.W.typeIn K (.ref C) = some (.type "type")) (su : PySem.W.subIn K (.ref C) (.ref C) = some true) : PySem.W.exmOne K (.ref C) (.ref C) = some true := by
  unfold PySem.W.exmOne
  rw [ex, if_pos (by decide)]
  exact kit_sub cm ty su
theorem wR_eqStr {K : PySem.W.Frag} {F : Fr} {ρ : Sls} {P : Sls → D → Prop} {a b : Str} (p : P ρ (.bl (decide (V.str a = V.str b)))) : wR K F rEq (.str a) (.str b) ρ P := fun σ G H vx vy S rx ry Q q => by
  cases rx
  cases ry
  exact ⟨rfl, q _ _ ρ G H p S (.bl _) (Ex.refl G)⟩
theorem atI0 (x : D) (l : List D) : atI (x :: l) 0 = some x := atI_nat (j := 0) (xs := x :: l) rfl
theorem Tm.told_tup : ∀ t : Tm, ∃ ds, t.told = .tup ds
  | .nm _ => ⟨_, rfl⟩ | .vl _ => ⟨_, rfl⟩ | .tw _ _ _ => ⟨_, rfl⟩ | .nt _ => ⟨_, rfl⟩ | .pk _ _ _ => ⟨_, rfl⟩
def gdS (l : List Str) : Prop := 0 < l.length ∧ l.length ≤ 50 ∧ ∀ s ∈ l, gdN s
def tn : Tm → List Str
  | .nm s => [s]
  | .vl _ => []
  | .tw _ a b => tn a ++ tn b
  | .nt a => tn a
  | .pk a b e => tn a ++ tn b ++ tn e
theorem tn_len : ∀ t : Tm, (tn t).length ≤ 3 ^ t.lv
  | .nm _ => by show 1 ≤ 3 ^ 1; decide
  | .vl _ => by show 0 ≤ 3 ^ 1; decide
  | .tw _ a b => by
    have h1 := tn_len a
    have h2 := tn_len b
    have e1 : 3 ^ a.lv ≤ 3 ^ max a.lv b.lv := Nat.pow_le_pow_right (by decide) (Nat.le_max_left _ _)
    have e2 : 3 ^ b.lv ≤ 3 ^ max a.lv b.lv := Nat.pow_le_pow_right (by decide) (Nat.le_max_right _ _)
    show (tn a ++ tn b).length ≤ 3 ^ (1 + max a.lv b.lv)
    rw [Nat.pow_add, List.length_append]
    omega
  | .nt a => by
    have h1 := tn_len a
    show (tn a).length ≤ 3 ^ (1 + a.lv)
    rw [Nat.pow_add]
    omega
  | .pk a b e => by
    have h1 := tn_len a
    have h2 := tn_len b
    have h4 := tn_len e
    have e1 : 3 ^ a.lv ≤ 3 ^ max (max a.lv b.lv) e.lv := Nat.pow_le_pow_right (by decide) (Nat.le_trans (Nat.le_max_left _ _) (Nat.le_max_left _ _))
    have e2 : 3 ^ b.lv ≤ 3 ^ max (max a.lv b.lv) e.lv := Nat.pow_le_pow_right (by decide) (Nat.le_trans (Nat.le_max_right _ _) (Nat.le_max_left _ _))
    have e3 : 3 ^ e.lv ≤ 3 ^ max (max a.lv b.lv) e.lv := Nat.pow_le_pow_right (by decide) (Nat.le_max_right _ _)
    show (tn a ++ tn b ++ tn e).length ≤ 3 ^ (1 + max (max a.lv b.lv) e.lv)
    rw [Nat.pow_add, List.length_append, List.length_append]
    omega
theorem tn_small {t : Tm} {n : Nat} (h : t.lv ≤ n) (hn : n ≤ 5) : (tn t).length ≤ 243 :=
  Nat.le_trans (tn_len t) (Nat.le_trans (Nat.pow_le_pow_right (by decide) (Nat.le_trans h hn)) (by decide))
def KvOk (l : KV) : Prop := ∀ p ∈ l, Gd p.2
def namF (l : KV) (s : Str) : Except D Str := match atKD (kvs l) (.inr s) with
  | none => .error (.str s)
  | some d => match d with
    | .str t => bif isPt (.str t) then .ok t else .error (.str t)
    | d => .error d
namespace Tm
def ren (l : KV) : Tm → Except D Tm
  | .nm s => match namF l s with
    | .error d => .error d
    | .ok t => .ok (.nm t)
  | .vl v => .ok (.vl v)
  | .tw op a b => match a.ren l with
    | .error d => .error d
    | .ok x => match b.ren l with
      | .error d => .error d
      | .ok y => .ok (.tw op x y)
  | .nt a => match a.ren l with
    | .error d => .error d
    | .ok x => .ok (.nt x)
  | .pk a b e => match a.ren l with
    | .error d => .error d
    | .ok x => match b.ren l with
      | .error d => .error d
      | .ok y => match e.ren l with
        | .error d => .error d
        | .ok z => .ok (.pk x y z)
end Tm
def badF (l : KV) (s : Str) : Option D := match namF l s with
  | .error d => some d
  | .ok _ => none
theorem namF_ok {l : KV} (h : KvOk l) {s t : Str} (e : namF l s = .ok t) : atKD (kvs l) (.inr s) = some (.str t) ∧ gdN t := by
  unfold namF at e
  cases q : atKD (kvs l) (.inr s) with
  | none => rw [q] at e; cases e
  | some d =>
    rw [q] at e
    have g := h _ (at_mem q)
    cases d <;> first | (cases e; done) | skip
    rename_i z
    dsimp only at e
    cases p : isPt (.str z) with
    | false => rw [p] at e; cases e
    | true =>
      rw [p] at e
      have ez : z = t := by injection e
      subst ez
      obtain ⟨h1, h2⟩ := g.ln z rfl
      refine ⟨rfl, ?_, h2, p⟩
      have p2 : (!decide ((80 : Int) < (z.length : Int)) && (Txt.split z ".").all nameS) = true := p
      rw [Bool.and_eq_true, Bool.not_eq_true', decide_eq_false_iff_not] at p2
      have := p2.1
      omega
theorem namF_str {l : KV} {s t : Str} (e : atKD (kvs l) (.inr s) = some (.str t)) (g : gdN t) : namF l s = .ok t := by
  unfold namF
  rw [e]
  dsimp only
  rw [g.2.2]
  rfl
theorem namF_bad {l : KV} {s : Str} {d : D} (e : atKD (kvs l) (.inr s) = some d) (g : isPt d = false) : namF l s = .error d := by
  unfold namF
  rw [e]
  cases d <;> first | rfl | skip
  dsimp only
  rw [g]
  rfl
theorem namF_none {l : KV} {s : Str} (e : atKD (kvs l) (.inr s) = none) : namF l s = .error (.str s) := by
  unfold namF
  rw [e]
theorem Tm.ren_ok {l : KV} (h : KvOk l) : ∀ {t u : Tm}, t.ok → t.ren l = .ok u → u.ok ∧ u.lv = t.lv
  | .nm s, u, ok, e => by
    unfold ren at e
    cases q : namF l s with
    | error d => rw [q] at e; cases e
    | ok t => rw [q] at e; cases e; exact ⟨(namF_ok h q).2, rfl⟩
  | .vl v, u, ok, e => by cases e; exact ⟨ok, rfl⟩
  | .tw op a b, u, ok, e => by
    unfold ren at e
    cases q : a.ren l with
    | error d => rw [q] at e; cases e
    | ok x =>
      rw [q] at e
      cases q2 : b.ren l with
      | error d => rw [q2] at e; cases e
      | ok y =>
        rw [q2] at e
        cases e
        obtain ⟨k1, k2⟩ := ren_ok h ok.2.1 q
        obtain ⟨k3, k4⟩ := ren_ok h ok.2.2 q2
        exact ⟨⟨ok.1, k1, k3⟩, by unfold lv; rw [k2, k4]⟩
  | .nt a, u, ok, e => by
    unfold ren at e
    cases q : a.ren l with
    | error d => rw [q] at e; cases e
    | ok x =>
      rw [q] at e
      cases e
      obtain ⟨k1, k2⟩ := ren_ok h (t := a) ok q
      exact ⟨k1, by unfold lv; rw [k2]⟩
  | .pk a b c, u, ok, e => by
    unfold ren at e
    cases q : a.ren l with
    | error d => rw [q] at e; cases e
    | ok x =>
      rw [q] at e
      cases q2 : b.ren l with
      | error d => rw [q2] at e; cases e
      | ok y =>
        rw [q2] at e
        cases q3 : c.ren l with
        | error d => rw [q3] at e; cases e
        | ok z =>
          rw [q3] at e
          cases e
          obtain ⟨k1, k2⟩ := ren_ok h ok.1 q
          obtain ⟨k3, k4⟩ := ren_ok h ok.2.1 q2
          obtain ⟨k5, k6⟩ := ren_ok h ok.2.2 q3
          exact ⟨⟨k1, k3, k5⟩, by unfold lv; rw [k2, k4, k6]⟩
abbrev firstF (l : KV) (ss : List Str) : Option D := ss.findSome? (badF l)
theorem first_app (l : KV) (a b : List Str) : firstF l (a ++ b) = (firstF l a).or (firstF l b) := List.findSome?_append
def resF {α : Type} (e : Except D α) : Option D := match e with
  | .error d => some d
  | .ok _ => none
theorem res_nam (l : KV) (s : Str) : resF (namF l s) = badF l s := by
  unfold resF badF
  cases namF l s <;> rfl
theorem first_one (l : KV) (s : Str) : firstF l [s] = badF l s := by
  unfold firstF
  rw [List.findSome?_cons]
  cases badF l s <;> rfl
theorem first_cons (l : KV) (s : Str) (r : List Str) : firstF l (s :: r) = (badF l s).or (firstF l r) := by
  unfold firstF
  rw [List.findSome?_cons]
  cases badF l s <;> rfl
theorem Tm.res (l : KV) : ∀ t : Tm, resF (t.ren l) = firstF l (tn t)
  | .nm s => by
    show _ = firstF l [s]
    rw [first_one, ← res_nam]
    rw [ren]
    cases namF l s <;> rfl
  | .vl v => rfl
  | .tw op a b => by
    show _ = firstF l (tn a ++ tn b)
    rw [first_app, ← res l a, ← res l b]
    rw [ren]
    cases a.ren l with
    | error d => rfl
    | ok x => cases b.ren l <;> rfl
  | .nt a => by
    show _ = firstF l (tn a)
    rw [← res l a]
    rw [ren]
    cases a.ren l <;> rfl
  | .pk a b e => by
    show _ = firstF l (tn a ++ tn b ++ tn e)
    rw [first_app, first_app, ← res l a, ← res l b, ← res l e]
    rw [ren]
    cases a.ren l with
    | error d => rfl
    | ok x =>
      cases b.ren l with
      | error d => rfl
      | ok y => cases e.ren l <;> rfl
theorem res_ok {α : Type} {e : Except D α} (h : resF e = none) : ∃ x, e = .ok x := by
  cases e with
  | error d => cases h
  | ok x => exact ⟨x, rfl⟩
theorem res_bad {α : Type} {e : Except D α} {d : D} (h : resF e = some d) : e = .error d := by
  cases e with
  | error d' => cases h; rfl
  | ok x => cases h
theorem Tm.cong {l l2 : KV} : ∀ {t : Tm}, (∀ s ∈ tn t, namF l s = namF l2 s) → t.ren l = t.ren l2
  | .nm s, h => by unfold ren; rw [h s (List.mem_singleton.mpr rfl)]
  | .vl _, _ => rfl
  | .tw op a b, h => by
    unfold ren
    rw [cong (t := a) fun s hs => h s (List.mem_append.mpr (.inl hs)), cong (t := b) fun s hs => h s (List.mem_append.mpr (.inr hs))]
  | .nt a, h => by
    unfold ren
    rw [cong (t := a) h]
  | .pk a b e, h => by
    unfold ren
    rw [cong (t := a) fun s hs => h s (List.mem_append.mpr (.inl (List.mem_append.mpr (.inl hs)))), cong (t := b) fun s hs => h s (List.mem_append.mpr (.inl (List.mem_append.mpr (.inr hs)))), cong (t := e) fun s hs => h s (List.mem_append.mpr (.inr hs))]
theorem inv_nm {l : KV} {s : Str} {u : Tm} (e : (Tm.nm s).ren l = .ok u) : ∃ t, namF l s = .ok t ∧ u = .nm t := by
  unfold Tm.ren at e
  cases q : namF l s with
  | error d => rw [q] at e; cases e
  | ok t => rw [q] at e; cases e; exact ⟨t, rfl, rfl⟩
theorem inv_tw {l : KV} {op : Str} {a b u : Tm} (e : (Tm.tw op a b).ren l = .ok u) : ∃ x y, a.ren l = .ok x ∧ b.ren l = .ok y ∧ u = .tw op x y := by
  rw [Tm.ren] at e
  cases q : a.ren l with
  | error d => rw [q] at e; cases e
  | ok x =>
    rw [q] at e
    cases q2 : b.ren l with
    | error d => rw [q2] at e; cases e
    | ok y => rw [q2] at e; cases e; exact ⟨x, y, rfl, rfl, rfl⟩
theorem inv_nt {l : KV} {a u : Tm} (e : (Tm.nt a).ren l = .ok u) : ∃ x, a.ren l = .ok x ∧ u = .nt x := by
  rw [Tm.ren] at e
  cases q : a.ren l with
  | error d => rw [q] at e; cases e
  | ok x => rw [q] at e; cases e; exact ⟨x, rfl, rfl⟩
theorem inv_pk {l : KV} {a b c u : Tm} (e : (Tm.pk a b c).ren l = .ok u) : ∃ x y z, a.ren l = .ok x ∧ b.ren l = .ok y ∧ c.ren l = .ok z ∧ u = .pk x y z := by
  rw [Tm.ren] at e
  cases q : a.ren l with
  | error d => rw [q] at e; cases e
  | ok x =>
    rw [q] at e
    cases q2 : b.ren l with
    | error d => rw [q2] at e; cases e
    | ok y =>
      rw [q2] at e
      cases q3 : c.ren l with
      | error d => rw [q3] at e; cases e
      | ok z => rw [q3] at e; cases e; exact ⟨x, y, z, rfl, rfl, rfl, rfl⟩
theorem wE_ren {K : PySem.W.Frag} {F : Fr} {ρ : Sls} {P : Sls → D → Prop} {td ty : TE} {l : KV} {s t : Str} (hk : KvOk l) (q : namF l s = .ok t) (h : wE K F td ρ fun ρ1 x => x = .dkv (kvs l) ∧ wE K F ty ρ1 fun ρ2 y => y = .str s ∧ P ρ2 (.str t)) : wE K F (tDGet td ty) ρ P :=
  wE_dget (wE_mono h fun ρ1 x ⟨e, h1⟩ => wE_mono h1 fun ρ2 y ⟨e2, p⟩ => ⟨kvs l, .inr s, .str t, e, by rw [e2]; rfl, (namF_ok hk q).1, p⟩)
abbrev W_name_for (nn : Addr) : W0 := fun ds Φ X => ∃ (l : KV) (s : Str), ds = [.str s, .dkv (kvs l)] ∧ KvOk l ∧ (∀ t, namF l s = .ok t → Φ (.fz (.str t))) ∧ (∀ d, namF l s = .error d → X nn [("found", d)])
abbrev W_renamed (c : TC) (nn : Addr) (n : Nat) (tag : Nat) : W0 := fun ds Φ X => ∃ (t : Tm) (l : KV), ds = [t.d c, .dkv (kvs l)] ∧ t.tag = tag ∧ t.lv ≤ n ∧ t.ok ∧ t.lv ≤ 5 ∧ KvOk l ∧ (∀ u, t.ren l = .ok u → Φ (.fz (u.d c))) ∧ (∀ d, t.ren l = .error d → X nn [("found", d)])
theorem no_renamed {c : TC} {nn : Addr} {K : PySem.W.Frag} {tag : Nat} {vs : List V} {H : Hp} {Q : VK} {E : XK} : ¬ sp0 K (W_renamed c nn 0 tag) vs H Q E := sp0_no fun _ _ _ ⟨t, _, _, _, h, _⟩ => absurd t.lv_pos (by omega)
theorem nf_renamed (c : TC) : ∀ t : Tm, (t.fs c).lookup ("renamed" : Str) = none
  | .nm _ => rfl | .vl _ => rfl | .tw _ _ _ => rfl | .nt _ => rfl | .pk _ _ _ => rfl
section
variable {K : PySem.W.Frag} {F : Fr} {ρ : Sls} {P : Sls → D → Prop} {ta : TE} {tr : TA} {c : TC} {W : Nat → W0} {E : XK} {XX : XD}
theorem wE_tmA {m : Str} (hE : EOk K F E XX) (hm : ∀ t : Tm, (t.fs c).lookup m = none) (h : wE K F ta ρ fun ρ1 x => ∃ t : Tm, x = t.d c ∧ wA K F tr ρ1 fun ρ2 ds => W t.tag (t.d c :: ds) (RsP (P ρ2)) XX) : wE K F (tViaA (vias K c W) m (fun cls d _ H => E cls d H) ta tr) ρ P :=
  wE_viaA hE (wE_mono h fun ρ1 x ⟨t, q, hW⟩ => ⟨t.cl c, t.fs c, W t.tag, q.trans (t.d_obj c), vias_mem t, hm t, by rw [q]; exact hW⟩)
end
theorem rc_ok {q c : Nat} (hc : c < 0x110000) : ∀ z ∈ Builtin.Str.reprChar q c, z < 0x110000 := by
  have hx : ∀ w z, z ∈ (List.replicate (w - ((Nat.toDigits 16 c).map Char.toNat).length) 48 ++ (Nat.toDigits 16 c).map Char.toNat) → z < 0x110000 := fun w z hz => by
    rcases List.mem_append.mp hz with h | h
    · rw [List.eq_of_mem_replicate h]; decide
    · obtain ⟨ch, _, rfl⟩ := List.mem_map.mp h
      have := ch.valid
      rcases this with h | h
      · show ch.val.toNat < _; omega
      · show ch.val.toNat < _; omega
  have two : ∀ a b : Nat, a < 0x110000 → b < 0x110000 → ∀ z ∈ [a, b], z < 0x110000 := fun a b ha hb z hz => by
    simp only [List.mem_cons, List.not_mem_nil, or_false] at hz
    rcases hz with rfl | rfl
    · exact ha
    · exact hb
  intro z hz
  unfold Builtin.Str.reprChar at hz
  dsimp only at hz
  repeat' split at hz
  all_goals first
    | exact two _ _ (by decide) hc z hz
    | exact two _ _ (by decide) (by decide) z hz
    | (rw [List.mem_singleton.mp hz]; exact hc)
    | exact (List.mem_append.mp hz).elim (two _ _ (by decide) (by decide) z) (hx _ z)
theorem rt_fold {q : Nat} : ∀ (l : List Nat) (acc : Array Nat), (∀ z ∈ acc.toList, z < 0x110000) → (∀ c ∈ l, c < 0x110000) → ∀ z ∈ (l.foldl (fun out c => out ++ (Builtin.Str.reprChar q c).toArray) acc).toList, z < 0x110000
  | [], _, h, _ => h
  | c :: r, acc, h, hl => by
    rw [List.foldl_cons]
    refine rt_fold r _ (fun z hz => ?_) fun d hd => hl d (.tail _ hd)
    rw [Array.toList_append] at hz
    rcases List.mem_append.mp hz with y | y
    · exact h z y
    · exact rc_ok (hl c (.head _)) z (by simpa using y)
theorem rt_ok {s : Str} (h : okS s) : okS (reprText s) := by
  have hq : reprQuote s < 0x110000 := by unfold reprQuote; split <;> decide
  intro z hz
  unfold reprText at hz
  have hz : z ∈ ((s.cps.foldl (fun out c => out ++ (Builtin.Str.reprChar (reprQuote s) c).toArray) #[reprQuote s]).push (reprQuote s)).toList := hz
  rw [Array.toList_push, ← Array.foldl_toList] at hz
  rcases List.mem_append.mp hz with y | y
  · refine rt_fold s.cps.toList #[reprQuote s] (fun w hw => ?_) h z y
    have e : w = reprQuote s := by simpa using hw
    rw [e]
    exact hq
  · rw [List.mem_singleton.mp y]
    exact hq
theorem rstr_ok {s : Str} (h : gdN s) : RprOk (.str s) := by
  refine .inr ⟨.str s, by simp [DL.toPy], rfl, rfl, by show 0 ≤ 60; decide, ?_⟩
  show (reprText s).length ≤ sizeLine
  have := StrLaws.reprText_len s fun c hc => Nat.lt_trans (h.2.1 c hc) (by decide)
  have h2 := h.1
  exact Nat.le_trans (Nat.le_trans this (by omega : _ ≤ 1002)) (by decide)
theorem rpr_str (s : Str) : rpr (.str s) = reprText s := rfl
theorem KvOk.put {l : KV} (h : KvOk l) {s : Str} {d : D} (hd : Gd d) : KvOk (putL l s d) := fun p hp => (putL_mem hp).elim (h p) fun z => by rw [z]; exact hd
theorem KvOk.del {l : KV} (h : KvOk l) (s : Str) : KvOk (delL l s) := fun p hp => h p (List.mem_filter.mp hp).1
theorem kvs_put_len (l : KV) (s : Str) (d : D) : (kvs (putL l s d)).length ≤ (kvs l).length + 1 := by
  rw [kvs_len, kvs_len]
  exact putL_len l s d
theorem namF_at {l l2 : KV} {s : Str} (h : atKD (kvs l) (.inr s) = atKD (kvs l2) (.inr s)) : namF l s = namF l2 s := by
  unfold namF
  rw [h]
theorem gd7 : Gd (.int 7) := ⟨rfl, fun _ h => nomatch h⟩
/-! ### the handed-out function -/
abbrev s_given_in : Stmt := (defBody s__law_given).headD s__law_given
abbrev qlG : Str := ("_law_given" : Str) ++ ".<locals>." ++ "_law_book_worth"
abbrev TT (tb : Addr) : List NdefX.NTab := [(tb, fun _ _ => qlG)]
abbrev fnD (l : KV) : D := .fn s_given_in "_law_book_worth" qlG "book" (kvs l)
/-! ### what comes of a term -/
def opOf (s : Str) : Op := if s = "+" then .add else if s = "-" then .sub else if s = "*" then .mul else if s = "/" then .div else if s = "mod" then .md else if s = "<" then .lt else if s = "=" then .eq else if s = "&" then .an else .or
theorem opOf_s : ∀ s ∈ opsL, (opOf s).s = s := by
  intro s h
  have e : (opsL.all fun o => decide ((opOf o).s = o)) = true := by decide +kernel
  exact of_decide_eq_true (List.all_eq_true.mp e s h)
def Va.res : Va → Res
  | .n i => .int i
  | .t b => .bl b
def Res.va : Res → Option Va
  | .int i => some (.n i)
  | .bl b => some (.t b)
  | _ => none
def resD : D → Res
  | .int i => .int i
  | .bl b => .bl b
  | _ => .kind
def Tm.rkn (bk : KV) : Tm → Res
  | .nm s => match atKD (kvs bk) (.inr s) with
    | some d => resD d
    | none => .kind
  | .vl v => resD v
  | .tw op a b => match (a.rkn bk).va with
    | none => a.rkn bk
    | some x => match (b.rkn bk).va with
      | none => b.rkn bk
      | some y => rk (opOf op) x y
  | .nt a => match (a.rkn bk).va with
    | none => a.rkn bk
    | some x => ct x
  | .pk a b e => match (a.rkn bk).va with
    | none => a.rkn bk
    | some x => match (b.rkn bk).va with
      | none => b.rkn bk
      | some y => match (e.rkn bk).va with
        | none => e.rkn bk
        | some z => match x with
          | .n _ => .kind
          | .t c => if c = true then y.res else z.res
def BkOk (bk : KV) : Prop := ∀ p ∈ bk, vok p.2
def InB (bk : KV) (ss : List Str) : Prop := ∀ s ∈ ss, ∃ d, atKD (kvs bk) (.inr s) = some d
theorem va_some {r : Res} {x : Va} (h : r.va = some x) : r = x.res ∧ r.v = x.d ∧ r.w = .non := by
  cases r <;> cases h <;> exact ⟨rfl, rfl, rfl⟩
theorem va_none {r : Res} (h : r.va = none) : r.v = .non ∧ isN r.w = false ∧ r.d = .tup [.non, r.w] := by
  cases r <;> first | (cases h; done) | exact ⟨rfl, rfl, rfl⟩
theorem va_res (x : Va) : x.res.va = some x := by cases x <;> rfl
theorem vok_res {v : D} (h : vok v) : ∃ x : Va, v = x.d ∧ x.ok ∧ resD v = x.res := by
  cases v <;> first | exact h.elim | skip
  · exact ⟨.t _, rfl, trivial, rfl⟩
  · exact ⟨.n _, rfl, h, rfl⟩
theorem res_d (x : Va) : x.res.d = .tup [x.d, .non] := by cases x <;> rfl
theorem fin_va {d : D} {x : Va} (h : (fin d).va = some x) : x.ok := by
  unfold fin at h
  split at h
  · cases h; trivial
  · split at h
    · cases h; assumption
    · cases h
  · cases h
theorem rk_va {o : Op} {x y z : Va} (h : (rk o x y).va = some z) : z.ok := by
  unfold rk at h
  split at h
  · split at h
    · cases h
    · exact fin_va h
  · cases h
theorem rkn_ok {bk : KV} (hb : BkOk bk) : ∀ {t : Tm}, t.ok → ∀ {x : Va}, (t.rkn bk).va = some x → x.ok
  | .nm s, _, x, h => by
    rw [Tm.rkn] at h
    cases e : atKD (kvs bk) (.inr s) with
    | none => rw [e] at h; cases h
    | some d =>
      rw [e] at h
      obtain ⟨y, rfl, hy, e2⟩ := vok_res (hb _ (at_mem e))
      have h' : (resD y.d).va = some x := h
      rw [e2, va_res] at h'
      cases h'
      exact hy
  | .vl v, hok, x, h => by
    obtain ⟨y, rfl, hy, e2⟩ := vok_res (v := v) hok
    rw [Tm.rkn, e2, va_res] at h
    cases h
    exact hy
  | .tw op a b, hok, x, h => by
    rw [Tm.rkn] at h
    cases ea : (a.rkn bk).va with
    | none => rw [ea] at h; dsimp only at h; rw [ea] at h; cases h
    | some y =>
      rw [ea] at h
      cases eb : (b.rkn bk).va with
      | none => rw [eb] at h; dsimp only at h; rw [eb] at h; cases h
      | some z =>
        rw [eb] at h
        exact rk_va h
  | .nt a, hok, x, h => by
    rw [Tm.rkn] at h
    cases ea : (a.rkn bk).va with
    | none => rw [ea] at h; dsimp only at h; rw [ea] at h; cases h
    | some y =>
      rw [ea] at h
      cases y with
      | n i => cases h
      | t b => cases h; trivial
  | .pk a b e, hok, x, h => by
    rw [Tm.rkn] at h
    cases ea : (a.rkn bk).va with
    | none => rw [ea] at h; dsimp only at h; rw [ea] at h; cases h
    | some y =>
      rw [ea] at h
      cases eb : (b.rkn bk).va with
      | none => rw [eb] at h; dsimp only at h; rw [eb] at h; cases h
      | some z =>
        rw [eb] at h
        cases ee : (e.rkn bk).va with
        | none => rw [ee] at h; dsimp only at h; rw [ee] at h; cases h
        | some u =>
          rw [ee] at h
          cases y with
          | n i => cases h
          | t c =>
            cases c
            · have h' : u.res.va = some x := h
              rw [va_res] at h'
              cases h'
              exact rkn_ok hb hok.2.2 ee
            · have h' : z.res.va = some x := h
              rw [va_res] at h'
              cases h'
              exact rkn_ok hb hok.2.1 eb
/-- a renamed term comes to what the first one comes to -/
theorem rkn_ren {l bk fs : KV} : ∀ {t u : Tm}, (∀ s ∈ tn t, ∀ z, namF l s = .ok z → atKD (kvs bk) (.inr z) = atKD (kvs fs) (.inr s)) → t.ren l = .ok u → u.rkn bk = t.rkn fs
  | .nm s, u, h, e => by
    obtain ⟨z, q, rfl⟩ := inv_nm e
    show (match atKD (kvs bk) (.inr z) with | some d => resD d | none => Res.kind) = (match atKD (kvs fs) (.inr s) with | some d => resD d | none => Res.kind)
    rw [h s (.head _) z q]
  | .vl v, u, h, e => by cases e; rfl
  | .tw op a b, u, h, e => by
    obtain ⟨x, y, q, q2, rfl⟩ := inv_tw e
    rw [Tm.rkn, Tm.rkn, rkn_ren (fun s hs => h s (List.mem_append_left _ hs)) q, rkn_ren (fun s hs => h s (List.mem_append_right _ hs)) q2]
  | .nt a, u, h, e => by
    obtain ⟨x, q, rfl⟩ := inv_nt e
    rw [Tm.rkn, Tm.rkn, rkn_ren (t := a) (fun s hs => h s hs) q]
  | .pk a b c, u, h, e => by
    obtain ⟨x, y, z, q, q2, q3, rfl⟩ := inv_pk e
    rw [Tm.rkn, Tm.rkn, rkn_ren (fun s hs => h s (List.mem_append_left _ (List.mem_append_left _ hs))) q, rkn_ren (fun s hs => h s (List.mem_append_left _ (List.mem_append_right _ hs))) q2, rkn_ren (fun s hs => h s (List.mem_append_right _ hs)) q3]
theorem tn_ren {l : KV} : ∀ {t u : Tm}, t.ren l = .ok u → ∀ z ∈ tn u, ∃ s ∈ tn t, namF l s = .ok z
  | .nm s, u, e => by
    obtain ⟨z, q, rfl⟩ := inv_nm e
    intro y hy
    rw [List.mem_singleton.mp hy]
    exact ⟨s, .head _, q⟩
  | .vl v, u, e => by cases e; exact fun _ h => nomatch h
  | .tw op a b, u, e => by
    obtain ⟨x, y, q, q2, rfl⟩ := inv_tw e
    intro z hz
    rcases List.mem_append.mp hz with hz | hz
    · obtain ⟨s, h1, h2⟩ := tn_ren q z hz; exact ⟨s, List.mem_append_left _ h1, h2⟩
    · obtain ⟨s, h1, h2⟩ := tn_ren q2 z hz; exact ⟨s, List.mem_append_right _ h1, h2⟩
  | .nt a, u, e => by
    obtain ⟨x, q, rfl⟩ := inv_nt e
    exact fun z hz => tn_ren (t := a) q z hz
  | .pk a b c, u, e => by
    obtain ⟨x, y, w, q, q2, q3, rfl⟩ := inv_pk e
    intro z hz
    rcases List.mem_append.mp hz with hz | hz
    · rcases List.mem_append.mp hz with hz | hz
      · obtain ⟨s, h1, h2⟩ := tn_ren q z hz; exact ⟨s, List.mem_append_left _ (List.mem_append_left _ h1), h2⟩
      · obtain ⟨s, h1, h2⟩ := tn_ren q2 z hz; exact ⟨s, List.mem_append_left _ (List.mem_append_right _ h1), h2⟩
    · obtain ⟨s, h1, h2⟩ := tn_ren q3 z hz; exact ⟨s, List.mem_append_right _ h1, h2⟩
abbrev W_reckoned_by (c : TC) (n : Nat) (tag : Nat) : W0 := fun ds Φ _ => ∃ (t : Tm) (bk : KV), ds = [t.d c, fnD bk] ∧ t.tag = tag ∧ t.lv ≤ n ∧ t.ok ∧ BkOk bk ∧ InB bk (tn t) ∧ Φ (.fz (t.rkn bk).d)
theorem no_reckoned_by {c : TC} {K : PySem.W.Frag} {tag : Nat} {vs : List V} {H : Hp} {Q : VK} {E : XK} : ¬ sp0 K (W_reckoned_by c 0 tag) vs H Q E := sp0_no fun _ _ _ ⟨t, _, _, _, h, _⟩ => absurd t.lv_pos (by omega)
theorem nf_reckoned_by (c : TC) : ∀ t : Tm, (t.fs c).lookup ("reckoned_by" : Str) = none
  | .nm _ => rfl | .vl _ => rfl | .tw _ _ _ => rfl | .nt _ => rfl | .pk _ _ _ => rfl
theorem free_given : ∀ y ∈ (C8.fnScope s_given_in).names, y.2 = .free → y.1 = "book" := by
  intro y hy e
  have z : ((C8.fnScope s_given_in).names.all fun y => !decide (y.2 = .free) || decide (y.1 = "book")) = true := by decide +kernel
  have q := List.all_eq_true.mp z y hy
  rw [e] at q
  simpa using q
theorem hands_given : ∃ pos, Hands s__law_given s_given_in "book" "_law_book_worth" pos :=
  ⟨_, ⟨rfl, rfl, rfl, by decide +kernel, rfl, by decide +kernel, by decide +kernel⟩, ⟨_, _, rfl⟩, rfl, fun _ => rfl, fun _ => rfl, rfl, rfl, free_given, rfl, rfl, fun _ => rfl, by decide, by decide⟩
theorem fnV_given {P : Program} {w : World} {K : PySem.W.Frag} {mg : Str → Option Value} {base : Heap} : FnV P w K mg base 2 s_given_in "_law_book_worth" qlG "book" "name" :=
  fnV_of (NdefX.nscope_by (by decide +kernel)) rfl (fun _ _ _ _ _ us hl => match us, hl with | [_], _ => rfl) (by decide) (by decide) (by decide) (by decide)
theorem Tm.rprOk {t : Tm} (h : t.ok) (hl : t.lv ≤ 5) : RprOk t.told := .inr ⟨t.py, t.toPy h, t.py_show h, t.py_dict h, Nat.le_trans t.py_depth (Nat.le_trans hl (by decide)), Tm.py_fits h hl⟩
theorem at_key {b : KV} {s : Str} (h : s ∈ b.map (·.1)) : ∃ d, atKD (kvs b) (.inr s) = some d := by
  have z := at_isSome b s
  rw [decide_eq_true h] at z
  exact Option.isSome_iff_exists.mp z
theorem take_new {ks : List Str} (hn : ks.Nodup) {i : Nat} {s : Str} (h : ks[i]? = some s) : s ∉ ks.take i := by
  intro hm
  obtain ⟨j, hj⟩ := List.mem_iff_getElem?.mp hm
  rw [List.getElem?_take] at hj
  split at hj
  · rename_i lt
    obtain ⟨h1, e1⟩ := List.getElem?_eq_some_iff.mp h
    obtain ⟨h2, e2⟩ := List.getElem?_eq_some_iff.mp hj
    have := (List.getElem_inj hn).mp (e2.trans e1.symm)
    omega
  · cases hj
def ValAt (b : KV) (ks : List Str) : Prop := b.map (·.1) = ks ∧ BkOk b
theorem ValAt.put {l : KV} {ks : List Str} (h : ValAt l ks) {s : Str} {v : D} (hs : s ∉ ks) (hv : vok v) : ValAt (putL l s v) (ks ++ [s]) := by
  rw [putL_new _ (by rw [h.1]; exact hs)]
  refine ⟨by rw [List.map_append, h.1]; rfl, fun p hp => ?_⟩
  rcases List.mem_append.mp hp with y | y
  · exact h.2 p y
  · rw [List.mem_singleton.mp y]
    exact hv
theorem ValAt.at {l : KV} {ks : List Str} (h : ValAt l ks) {s : Str} (hs : s ∈ ks) : ∃ d, atKD (kvs l) (.inr s) = some d ∧ vok d := by
  obtain ⟨d, hd⟩ := at_key (b := l) (s := s) (by rw [h.1]; exact hs)
  exact ⟨d, hd, h.2 _ (at_mem hd)⟩
theorem res_rpr {r : Res} (h : ∀ x, r.va = some x → x.ok) : RprOk r.d := by
  cases r with
  | int i =>
    have hi : -1000000000 ≤ i ∧ i ≤ 1000000000 := h (.n i) rfl
    have hs : i.natAbs.log2 < 1920 := log2_small (by have := hi.1; have := hi.2; omega)
    refine .inr ⟨.tuple [.int i, .none], by simp [Res.d, Res.v, Res.w, DL.toPy, DL.toPyL], by simp [PyData.showable, PyData.showableAll, hs], by simp [PyData.hasDict, PyData.hasDictAll], by simp [PyData.depth, PyData.depthAll], ?_⟩
    have h3 : decide ((PyData.shown (.int i)).length ≤ 13) = true := decide_eq_true (int_text i hi)
    refine PyData.shown_fits_bulk (B := 13) (by decide) (by decide) ?_ ?_
    · simp only [PyData.leavesShort, PyData.leavesShortAll, h3]
      rfl
    · simp only [PyData.bulk, PyData.bulkAll]
      omega
  | bl b => cases b <;> exact .inr ⟨_, by simp [Res.d, Res.v, Res.w, DL.toPy, DL.toPyL]; rfl, by decide +kernel, by decide +kernel, by decide +kernel, by decide +kernel⟩
  | kind => exact .inr ⟨_, by simp [Res.d, Res.v, Res.w, DL.toPy, DL.toPyL]; rfl, by decide +kernel, by decide +kernel, by decide +kernel, by decide +kernel⟩
  | nought => exact .inr ⟨_, by simp [Res.d, Res.v, Res.w, DL.toPy, DL.toPyL]; rfl, by decide +kernel, by decide +kernel, by decide +kernel, by decide +kernel⟩
  | great => exact .inr ⟨_, by simp [Res.d, Res.v, Res.w, DL.toPy, DL.toPyL]; rfl, by decide +kernel, by decide +kernel, by decide +kernel, by decide +kernel⟩
theorem take_snoc {ks : List Str} {j : Nat} {s : Str} (h : ks[j]? = some s) : ks.take (j + 1) = ks.take j ++ [s] := by
  rw [List.take_add_one, h]
  rfl
structure E24 where
  nt : Addr
  be : Addr
/-! what is read, by rooms -/
inductive PR where
  | bad (k : Nat)
  | got (t : Tm) (k : Nat)
def leafW (w : Str) : Option Tm := if nameS w = true then some (.nm w) else match rdS w with
  | .non => none
  | d => some (.vl d)
def pE (ws : List Str) (x : Str) (k : Nat) (g : Nat → PR) : PR := match ws[k]? with
  | none => .bad k
  | some w => if w = x then g (k + 1) else .bad k
def thn (r : PR) (g : Tm → Nat → PR) : PR := match r with
  | .bad k => .bad k
  | .got t k => g t k
def pP (ws : List Str) (f : Nat → PR) (at_ : Nat) (by_ : Tm) : PR := thn (f at_) fun t k => pE ws ":" k fun k1 => thn (f k1) fun u k2 => pE ws ")" k2 fun k3 => .got (.pk by_ t u) k3
def pB (ws : List Str) (f : Nat → PR) (at_ : Nat) : PR := match ws[at_]? with
  | none => .bad at_
  | some w => if w = "!" then thn (f (at_ + 1)) fun t k => pE ws ")" k fun k1 => .got (.nt t) k1
    else thn (f at_) fun t k => match ws[k]? with
      | none => .bad k
      | some op => if op = "?" then pP ws f (k + 1) t else if op ∈ opsL then thn (f (k + 1)) fun u k2 => pE ws ")" k2 fun k3 => .got (.tw op t u) k3 else .bad k
def pT (ws : List Str) : Nat → Nat → PR
  | 0, at_ => .bad at_
  | r + 1, at_ => match ws[at_]? with
    | none => .bad at_
    | some w => if w = "(" ∧ 1 ≤ r then pB ws (pT ws r) (at_ + 1) else match leafW w with
      | some t => .got t (at_ + 1)
      | none => .bad at_
/-! the other reading: what is waited for -/
inductive Ro where
  | term (l : Nat)
  | first (l : Nat)
  | behind (l : Nat)
  | cl
  | co
def simpS (w : Str) : Bool := (leafW w).isSome
def stp : List Ro → Str → Bool × List Ro
  | .term l :: s, w => if w = "(" ∧ 1 < l then (true, .first (l - 1) :: s) else (simpS w, s)
  | .first l :: s, w => if w = "!" then (true, .term l :: .cl :: s) else if w = "(" ∧ 1 < l then (true, .first (l - 1) :: .behind l :: s) else (simpS w, .behind l :: s)
  | .behind l :: s, w => if w = "?" then (true, .term l :: .co :: .term l :: .cl :: s) else (decide (w ∈ opsL), .term l :: .cl :: s)
  | .cl :: s, w => (decide (w = ")"), s)
  | .co :: s, w => (decide (w = ":"), s)
  | [], _ => (false, [])
def mch : List Ro → List Str → Nat → Option Nat
  | [], [], _ => none
  | _ :: _, [], k => some k
  | [], _ :: _, k => some k
  | o :: s, w :: ws, k => if (stp (o :: s) w).1 = true then mch (stp (o :: s) w).2 ws (k + 1) else some k
/-! the words of a term -/
def vtx : D → Str
  | .bl b => if b = true then "true" else "false"
  | .int i => Str.ofString (toString i)
  | _ => ""
def toks : Tm → List Str
  | .nm s => [s]
  | .vl v => [vtx v]
  | .tw op a b => ("(" : Str) :: (toks a ++ op :: (toks b ++ [(")" : Str)]))
  | .nt a => ("(" : Str) :: ("!" : Str) :: (toks a ++ [(")" : Str)])
  | .pk a b e => ("(" : Str) :: (toks a ++ ("?" : Str) :: (toks b ++ (":" : Str) :: (toks e ++ [(")" : Str)])))
theorem stp_first {r : Nat} {s : List Ro} {w : Str} (h : ¬ w = "!") : stp (.first r :: s) w = stp (.term r :: .behind r :: s) w := if_neg h
theorem stp_op {r : Nat} {s : List Ro} {w : Str} (h : ¬ w = "?") : stp (.behind r :: s) w = (decide (w ∈ opsL), .term r :: .cl :: s) := if_neg h
theorem drop_at {α : Type} {ws : List α} {k : Nat} {w : α} (h : ws[k]? = some w) : ws.drop k = w :: ws.drop (k + 1) := by
  obtain ⟨hl, rfl⟩ := List.getElem?_eq_some_iff.mp h
  exact List.drop_eq_getElem_cons hl
theorem drop_no {α : Type} {ws : List α} {k : Nat} (h : ws[k]? = none) : ws.drop k = [] := List.drop_eq_nil_of_le (List.getElem?_eq_none_iff.mp h)
theorem mch_end {o : Ro} {s : List Ro} {ws : List Str} {k : Nat} (h : ws[k]? = none) : mch (o :: s) (ws.drop k) k = some k := by
  rw [drop_no h]
  rfl
theorem mch_at {o : Ro} {s : List Ro} {ws : List Str} {k : Nat} {w : Str} (h : ws[k]? = some w) : mch (o :: s) (ws.drop k) k = if (stp (o :: s) w).1 = true then mch (stp (o :: s) w).2 (ws.drop (k + 1)) (k + 1) else some k := by
  rw [drop_at h]
  rfl
theorem lt_of_at {α : Type} {ws : List α} {k : Nat} {w : α} (h : ws[k]? = some w) : k < ws.length := (List.getElem?_eq_some_iff.mp h).1
theorem thn_bad {r : PR} {g : Tm → Nat → PR} {k : Nat} (h : r = .bad k) : thn r g = .bad k := by rw [h]; rfl
theorem thn_got {r : PR} {g : Tm → Nat → PR} {k : Nat} {t : Tm} (h : r = .got t k) : thn r g = g t k := by rw [h]; rfl

def Run (ws : List Str) (S s : List Ro) (k : Nat) (p : PR) (Q : Tm → Nat → Prop) : Prop := match p with
  | .bad j => mch S (ws.drop k) k = some j
  | .got t j => mch S (ws.drop k) k = mch s (ws.drop j) j ∧ Q t j
theorem Run.thn {ws : List Str} {S s1 s : List Ro} {k : Nat} {r : PR} {g : Tm → Nat → PR} {Q1 Q : Tm → Nat → Prop} (h : Run ws S s1 k r Q1) (h2 : ∀ t j, Q1 t j → Run ws s1 s j (g t j) Q) : Run ws S s k (thn r g) Q := by
  cases r with
  | bad j => exact h
  | got t j =>
    have h3 := h2 t j h.2
    show Run ws S s k (g t j) Q
    cases e : g t j with
    | bad i => rw [e] at h3; exact h.1.trans h3
    | got u i => rw [e] at h3; exact ⟨h.1.trans h3.1, h3.2⟩
theorem Run.from {ws : List Str} {S S' s : List Ro} {k k' : Nat} {p : PR} {Q : Tm → Nat → Prop} (e : mch S (ws.drop k) k = mch S' (ws.drop k') k') (h : Run ws S' s k' p Q) : Run ws S s k p Q := by
  cases p with
  | bad j => exact e.trans h
  | got t j => exact ⟨e.trans h.1, h.2⟩
theorem Run.mono {ws : List Str} {S s : List Ro} {k : Nat} {p : PR} {Q Q' : Tm → Nat → Prop} (h : Run ws S s k p Q) (f : ∀ t j, Q t j → Q' t j) : Run ws S s k p Q' := by
  cases p with
  | bad j => exact h
  | got t j => exact ⟨h.1, f _ _ h.2⟩
theorem run_cl {ws : List Str} {s s' : List Ro} {k : Nat} {g : Nat → PR} {Q : Tm → Nat → Prop} (h : ws[k]? = some ")" → Run ws s s' (k + 1) (g (k + 1)) Q) : Run ws (.cl :: s) s' k (pE ws ")" k g) Q := by
  unfold pE
  cases e : ws[k]? with
  | none => exact mch_end e
  | some w =>
    by_cases hw : w = ")"
    · subst hw
      show Run ws _ _ _ (if (")" : Str) = ")" then _ else _) Q
      rw [if_pos rfl]
      refine Run.from ?_ (h e)
      rw [mch_at e]
      show (if decide ((")" : Str) = ")") = true then _ else _) = _
      rw [if_pos (decide_eq_true rfl)]
      rfl
    · show Run ws _ _ _ (if w = ")" then _ else _) Q
      rw [if_neg hw]
      show mch _ _ _ = _
      rw [mch_at e]
      show (if decide (w = ")") = true then _ else _) = _
      rw [decide_eq_false hw, if_neg (by decide)]
theorem run_co {ws : List Str} {s s' : List Ro} {k : Nat} {g : Nat → PR} {Q : Tm → Nat → Prop} (h : ws[k]? = some ":" → Run ws s s' (k + 1) (g (k + 1)) Q) : Run ws (.co :: s) s' k (pE ws ":" k g) Q := by
  unfold pE
  cases e : ws[k]? with
  | none => exact mch_end e
  | some w =>
    by_cases hw : w = ":"
    · subst hw
      show Run ws _ _ _ (if (":" : Str) = ":" then _ else _) Q
      rw [if_pos rfl]
      refine Run.from ?_ (h e)
      rw [mch_at e]
      show (if decide ((":" : Str) = ":") = true then _ else _) = _
      rw [if_pos (decide_eq_true rfl)]
      rfl
    · show Run ws _ _ _ (if w = ":" then _ else _) Q
      rw [if_neg hw]
      show mch _ _ _ = _
      rw [mch_at e]
      show (if decide (w = ":") = true then _ else _) = _
      rw [decide_eq_false hw, if_neg (by decide)]
def Sees (ws : List Str) (n k : Nat) (t : Tm) (j : Nat) : Prop := t.lv ≤ n ∧ j ≤ ws.length ∧ ws.drop k = toks t ++ ws.drop j
theorem run_bracket {ws : List Str} {r : Nat} (ih : ∀ k s, Run ws (.term r :: s) s k (pT ws r k) (Sees ws r k)) (k : Nat) (s : List Ro) : Run ws (.first r :: s) s k (pB ws (pT ws r) k) (fun t j => t.lv ≤ r + 1 ∧ j ≤ ws.length ∧ ("(" : Str) :: ws.drop k = toks t ++ ws.drop j) := by
  unfold pB
  cases e : ws[k]? with
  | none => exact mch_end e
  | some w =>
    by_cases hw : w = "!"
    · subst hw
      show Run ws _ _ _ (if ("!" : Str) = "!" then _ else _) _
      rw [if_pos rfl]
      refine Run.from (S' := .term r :: .cl :: s) (k' := k + 1) ?_ ?_
      · rw [mch_at e]
        rfl
      · refine (ih (k + 1) (.cl :: s)).thn fun t j hs => run_cl fun e2 => ?_
        refine ⟨rfl, ?_, lt_of_at e2, ?_⟩
        · show 1 + t.lv ≤ r + 1
          have := hs.1
          omega
        · rw [drop_at e, hs.2.2, drop_at e2]
          simp [toks]
    · show Run ws _ _ _ (if w = "!" then _ else _) _
      rw [if_neg hw]
      refine Run.from (S' := .term r :: .behind r :: s) (k' := k) ?_ ?_
      · rw [mch_at e, mch_at e, stp_first hw]
      · refine (ih k (.behind r :: s)).thn fun t j hs => ?_
        cases e2 : ws[j]? with
        | none => exact mch_end e2
        | some op =>
          by_cases h1 : op = "?"
          · subst h1
            show Run ws _ _ _ (if ("?" : Str) = "?" then _ else _) _
            rw [if_pos rfl]
            refine Run.from (S' := .term r :: .co :: .term r :: .cl :: s) (k' := j + 1) ?_ ?_
            · rw [mch_at e2]
              rfl
            · unfold pP
              refine (ih (j + 1) _).thn fun u k2 hs2 => run_co fun e3 => (ih (k2 + 1) _).thn fun v k3 hs3 => run_cl fun e4 => ?_
              refine ⟨rfl, ?_, lt_of_at e4, ?_⟩
              · have := hs.1; have := hs2.1; have := hs3.1
                show 1 + max (max t.lv u.lv) v.lv ≤ r + 1
                omega
              · rw [hs.2.2, drop_at e2, hs2.2.2, drop_at e3, hs3.2.2, drop_at e4]
                simp [toks]
          · show Run ws _ _ _ (if op = "?" then _ else _) _
            rw [if_neg h1]
            by_cases h2 : op ∈ opsL
            · rw [if_pos h2]
              refine Run.from (S' := .term r :: .cl :: s) (k' := j + 1) ?_ ?_
              · rw [mch_at e2, stp_op h1, if_pos (decide_eq_true h2)]
              · refine (ih (j + 1) _).thn fun u k2 hs2 => run_cl fun e4 => ?_
                refine ⟨rfl, ?_, lt_of_at e4, ?_⟩
                · have := hs.1; have := hs2.1
                  show 1 + max t.lv u.lv ≤ r + 1
                  omega
                · rw [hs.2.2, drop_at e2, hs2.2.2, drop_at e4]
                  simp [toks]
            · rw [if_neg h2]
              show mch _ _ _ = _
              rw [mch_at e2, stp_op h1, decide_eq_false h2]
              rfl
theorem leaf_lv {w : Str} {t : Tm} (h : leafW w = some t) (hv : ∀ v, rdS w = v → v ≠ .non → vtx v = w) : t.lv = 1 ∧ toks t = [w] := by
  unfold leafW at h
  by_cases hn : nameS w = true
  · rw [if_pos hn] at h
    cases h
    exact ⟨rfl, rfl⟩
  · rw [if_neg hn] at h
    rcases rd_kind w with e | ⟨b, e⟩ | ⟨i, e⟩
    · rw [e] at h; cases h
    · rw [e] at h
      cases h
      refine ⟨rfl, ?_⟩
      show [vtx (.bl b)] = _
      rw [hv _ e (fun z => nomatch z)]
    · rw [e] at h
      cases h
      refine ⟨rfl, ?_⟩
      show [vtx (.int i)] = _
      rw [hv _ e (fun z => nomatch z)]
theorem run_term {ws : List Str} (hv : ∀ w ∈ ws, ∀ v, rdS w = v → v ≠ .non → vtx v = w) : ∀ (r k : Nat) (s : List Ro), Run ws (.term (r + 1) :: s) s k (pT ws (r + 1) k) (Sees ws (r + 1) k)
  | r, k, s => by
    unfold pT
    cases e : ws[k]? with
    | none => exact mch_end e
    | some w =>
      by_cases hw : w = "(" ∧ 1 ≤ r
      · show Run ws _ _ _ (if w = "(" ∧ 1 ≤ r then _ else _) _
        rw [if_pos hw]
        obtain ⟨r0, rfl⟩ : ∃ r0, r = r0 + 1 := ⟨r - 1, by omega⟩
        refine Run.from (S' := .first (r0 + 1) :: s) (k' := k + 1) ?_ ?_
        · rw [mch_at e]
          have e3 : stp (.term (r0 + 1 + 1) :: s) w = (true, .first (r0 + 1) :: s) := if_pos ⟨hw.1, by omega⟩
          rw [e3]
          rfl
        · refine (run_bracket (fun k s => run_term hv r0 k s) (k + 1) s).mono fun t j h => ⟨h.1, h.2.1, ?_⟩
          rw [drop_at e, hw.1]
          exact h.2.2
      · show Run ws _ _ _ (if w = "(" ∧ 1 ≤ r then _ else _) _
        rw [if_neg hw]
        have e3 : stp (.term (r + 1) :: s) w = (simpS w, s) := if_neg fun z => hw ⟨z.1, by omega⟩
        cases e4 : leafW w with
        | none =>
          show mch _ _ _ = _
          rw [mch_at e, e3]
          unfold simpS
          rw [e4]
          rfl
        | some t =>
          obtain ⟨l1, l2⟩ := leaf_lv e4 (hv w (List.mem_of_getElem? e))
          refine ⟨?_, by omega, lt_of_at e, ?_⟩
          · rw [mch_at e, e3]
            unfold simpS
            rw [e4]
            rfl
          · rw [drop_at e, l2]
            rfl
/-- all is read, or the first fault told -/
def rdT (ws : List Str) : PR := match pT ws 5 0 with
  | .bad k => .bad k
  | .got t k => if k < ws.length then .bad k else .got t k
theorem rdT_mch {ws : List Str} (hv : ∀ w ∈ ws, ∀ v, rdS w = v → v ≠ .non → vtx v = w) : match rdT ws with
    | .bad k => mch [.term 5] ws 0 = some k
    | .got t _ => mch [.term 5] ws 0 = none ∧ toks t = ws ∧ t.lv ≤ 5 := by
  have h := run_term hv 4 0 []
  unfold rdT
  cases e : pT ws 5 0 with
  | bad k => rw [e] at h; exact h
  | got t k =>
    rw [e] at h
    obtain ⟨h1, h2, h3, h4⟩ := h
    rw [List.drop_zero] at h1 h4
    by_cases hk : k < ws.length
    · show match (if k < ws.length then PR.bad k else PR.got t k) with
        | .bad k => mch [.term 5] ws 0 = some k
        | .got t _ => mch [.term 5] ws 0 = none ∧ toks t = ws ∧ t.lv ≤ 5
      rw [if_pos hk]
      show mch [.term 5] ws 0 = some k
      rw [h1]
      obtain ⟨w, hw⟩ : ∃ w, ws[k]? = some w := ⟨_, List.getElem?_eq_getElem hk⟩
      rw [drop_at hw]
      rfl
    · show match (if k < ws.length then PR.bad k else PR.got t k) with
        | .bad k => mch [.term 5] ws 0 = some k
        | .got t _ => mch [.term 5] ws 0 = none ∧ toks t = ws ∧ t.lv ≤ 5
      rw [if_neg hk]
      have e5 : ws.drop k = [] := List.drop_eq_nil_of_le (by omega)
      rw [e5] at h1 h4
      rw [List.append_nil] at h4
      exact ⟨h1, h4.symm, h2⟩
theorem sep_inj {c : Nat} : ∀ {a b l m : List Nat}, c ∉ a → c ∉ b → a ++ c :: l = b ++ c :: m → a = b ∧ l = m
  | [], [], l, m, _, _, h => ⟨rfl, (List.cons.inj h).2⟩
  | [], x :: b, l, m, _, hb, h => by
    have := (List.cons.inj h).1
    subst this
    exact absurd (List.mem_cons_self ..) hb
  | x :: a, [], l, m, ha, _, h => by
    have := (List.cons.inj h).1
    subst this
    exact absurd (List.mem_cons_self ..) ha
  | x :: a, y :: b, l, m, ha, hb, h => by
    obtain ⟨h1, h2⟩ := List.cons.inj h
    subst h1
    obtain ⟨h3, h4⟩ := sep_inj (fun z => ha (List.mem_cons_of_mem _ z)) (fun z => hb (List.mem_cons_of_mem _ z)) h2
    exact ⟨by rw [h3], h4⟩
theorem cps_sep (x r : Str) (c : Nat) : (x ++ ⟨#[c]⟩ ++ r).cps.toList = x.cps.toList ++ c :: r.cps.toList := by
  rw [cps_app, cps_app]
  simp
theorem join_inj {c : Nat} : ∀ {as bs : List Str}, as ≠ [] → bs ≠ [] → (∀ w ∈ as, c ∉ w.cps.toList) → (∀ w ∈ bs, c ∉ w.cps.toList) → Str.join ⟨#[c]⟩ as = Str.join ⟨#[c]⟩ bs → as = bs
  | [], _, h, _, _, _, _ => absurd rfl h
  | _ :: _, [], _, h, _, _, _ => absurd rfl h
  | [a], [b], _, _, _, _, h => by
    have h' : a = b := h
    rw [h']
  | [a], b :: b2 :: r, _, _, ha, _, h => by
    have h' : a = b ++ ⟨#[c]⟩ ++ Str.join ⟨#[c]⟩ (b2 :: r) := h
    refine absurd ?_ (ha a (.head _))
    rw [h', cps_sep]
    simp
  | a :: a2 :: r, [b], _, _, _, hb, h => by
    have h' : a ++ ⟨#[c]⟩ ++ Str.join ⟨#[c]⟩ (a2 :: r) = b := h
    refine absurd ?_ (hb b (.head _))
    rw [← h', cps_sep]
    simp
  | a :: a2 :: r, b :: b2 :: q, _, _, ha, hb, h => by
    have h' : a ++ ⟨#[c]⟩ ++ Str.join ⟨#[c]⟩ (a2 :: r) = b ++ ⟨#[c]⟩ ++ Str.join ⟨#[c]⟩ (b2 :: q) := h
    have h2 := congrArg (fun z : Str => z.cps.toList) h'
    rw [cps_sep, cps_sep] at h2
    obtain ⟨h3, h4⟩ := sep_inj (ha a (.head _)) (hb b (.head _)) h2
    have e1 : a = b := Str.ext' h3
    have e2 := join_inj (as := a2 :: r) (bs := b2 :: q) (by simp) (by simp) (fun w hw => ha w (.tail _ hw)) (fun w hw => hb w (.tail _ hw)) (Str.ext' h4)
    rw [e1, e2]
theorem split_ne (x y : Str) : Txt.split x y ≠ [] := by
  intro h
  have h1 := PySem.StrLaws.join_split x y
  unfold Txt.split at h
  split at h
  · cases h
  · split at h
    · cases h
    · rw [PySem.StrLaws.partsBetween_eq] at h
      obtain ⟨p, r, e⟩ := PySem.StrLaws.partsFrom_ne x y.length 0 (Builtin.Str.occurrences x y 0 x.length (x.length + 1))
      rw [e] at h
      cases h
theorem split_join {c : Nat} {ws : List Str} (hne : ws ≠ []) (hf : ∀ w ∈ ws, c ∉ w.cps.toList) : Txt.split (Txt.join ⟨#[c]⟩ ws) ⟨#[c]⟩ = ws := by
  refine join_inj (split_ne _ _) hne (fun p hp => PySem.StrLaws.split_free _ _ p hp) hf ?_
  rw [PySem.StrLaws.join_split]
  exact PySem.StrLaws.glued_eq_join _ _
theorem join_split' (x : Str) (c : Nat) : Txt.join ⟨#[c]⟩ (Txt.split x ⟨#[c]⟩) = x := by
  show Builtin.Str.glued _ _ = _
  rw [PySem.StrLaws.glued_eq_join, PySem.StrLaws.join_split]
theorem dgN_fo : ∀ (n : Nat) (l : List Nat), l.length = n → l.all dg1 = true → l ≠ [] → (l.head? = some 48 → l = [48]) → dgN (fo l) = l := by
  intro n
  induction n with
  | zero => intro l hl _ hne _; exact absurd (List.eq_nil_of_length_eq_zero hl) hne
  | succ n ih =>
    intro l hl hd hne hz
    obtain ⟨l', c, rfl⟩ : ∃ l' c, l = l' ++ [c] := ⟨l.dropLast, l.getLast hne, (List.dropLast_concat_getLast hne).symm⟩
    have hc := dg1_of hd (c := c) (by simp)
    have hd' : l'.all dg1 = true := by
      rw [List.all_append, Bool.and_eq_true] at hd
      exact hd.1
    rw [fo_snoc]
    cases l' with
    | nil =>
      have e : fo [] = 0 := rfl
      rw [e, Nat.zero_mul, Nat.zero_add, dgN_small (by omega)]
      show [48 + (c - 48)] = [c]
      rw [show 48 + (c - 48) = c by omega]
    | cons a r =>
      have ha : a ≠ 48 := by
        intro z
        have := hz (by rw [z]; rfl)
        simp at this
      have hg := fo_ge ha hd'
      have h1 : 1 ≤ fo (a :: r) := Nat.le_trans (Nat.pow_pos (by decide)) hg
      have e1 : (fo (a :: r) * 10 + (c - 48)) / 10 = fo (a :: r) := by omega
      have e2 : 48 + (fo (a :: r) * 10 + (c - 48)) % 10 = c := by omega
      rw [dgN_step (by omega), e1, e2]
      rw [ih (a :: r) (by simpa using hl) hd' (by simp) (fun z => by
        have : a = 48 := by simpa using z
        exact absurd this ha)]
theorem num_back {s : Str} (h : isNumL s.cps.toList = true) : Str.ofString (toString (numL s.cps.toList)) = s := by
  apply Str.ext'
  rw [txt_cps]
  obtain ⟨⟨h1, h2⟩, h3, h4⟩ := isNum_facts h
  have e := figs_ng s.cps.toList
  have hne : figs s.cps.toList ≠ [] := by
    intro z
    rw [z] at h1
    simp at h1
  unfold numL
  cases g : ng s.cps.toList with
  | false =>
    rw [g] at e
    simp only [Bool.false_eq_true, if_false] at e ⊢
    rw [if_neg (by omega)]
    rw [Int.natAbs_natCast, dgN_fo _ _ rfl h3 hne (fun z => by
      have q := h4 z
      rw [q]
      rfl)]
    exact e.symm
  | true =>
    rw [g] at e
    simp only [if_true] at e ⊢
    have hh : (figs s.cps.toList).head? ≠ some 48 := by
      intro z
      have q := h4 z
      rw [q] at e
      simp at e
    obtain ⟨a, r, er⟩ := List.exists_cons_of_ne_nil hne
    have ha : a ≠ 48 := by
      intro z
      apply hh
      rw [er, z]
      rfl
    have hg := fo_ge ha (er ▸ h3)
    have h5 : 1 ≤ fo (figs s.cps.toList) := by
      rw [er]
      exact Nat.le_trans (Nat.pow_pos (by decide)) hg
    rw [if_pos (by omega), Int.natAbs_neg, Int.natAbs_natCast, dgN_fo _ _ rfl h3 hne (fun z => absurd z hh)]
    exact e.symm
theorem rd_back {w : Str} {v : D} (h : rdS w = v) (hv : v ≠ .non) : vtx v = w ∧ vok v := by
  subst h
  unfold rdS at hv ⊢
  by_cases h1 : w = "true"
  · rw [if_pos h1, h1]; exact ⟨rfl, trivial⟩
  · rw [if_neg h1] at hv ⊢
    by_cases h2 : w = "false"
    · rw [if_pos h2, h2]; exact ⟨rfl, trivial⟩
    · rw [if_neg h2] at hv ⊢
      by_cases h3 : isNumL w.cps.toList = true
      · rw [if_pos h3] at hv ⊢
        by_cases h4 : inBd (numL w.cps.toList) = true
        · rw [if_pos h4]
          refine ⟨num_back h3, ?_⟩
          unfold inBd at h4
          rw [Bool.and_eq_true, decide_eq_true_eq, decide_eq_true_eq] at h4
          exact h4
        · rw [if_neg h4] at hv; exact absurd rfl hv
      · rw [if_neg h3] at hv; exact absurd rfl hv
theorem nameS_facts {s : Str} (h : nameS s = true) : (1 ≤ s.length ∧ s.length ≤ 8) ∧ inOwn s = false ∧ s.cps.toList.all letter = true := by
  unfold nameS at h
  simp only [Bool.and_eq_true, decide_eq_true_eq, Bool.not_eq_true'] at h
  exact ⟨⟨by omega, by omega⟩, h.2.1, h.2.2⟩
theorem letter_bd {c : Nat} (h : letter c = true) : 97 ≤ c ∧ c ≤ 122 := by
  unfold letter at h
  simpa using h
theorem nameS_ok {s : Str} (h : nameS s = true) : gdN s := by
  obtain ⟨⟨h1, h2⟩, h3, h4⟩ := nameS_facts h
  have hl : ∀ c ∈ s.cps.toList, 97 ≤ c ∧ c ≤ 122 := fun c hc => letter_bd (List.all_eq_true.mp h4 c hc)
  refine ⟨by omega, fun c hc => by have := hl c hc; omega, ?_⟩
  show (!decide ((80 : Int) < (s.length : Int)) && (Txt.split s ".").all nameS) = true
  have e : Txt.split s ⟨#[46]⟩ = [s] := by
    have := split_join (c := 46) (ws := [s]) (by simp) (fun w hw => by
      rw [List.mem_singleton] at hw
      subst hw
      intro z
      have := hl _ z
      omega)
    exact this
  have e2 : (Str.ofString "." : Str) = ⟨#[46]⟩ := by decide +kernel
  rw [e2, e, decide_eq_false (by omega)]
  simp [h]
theorem leaf_ok {w : Str} {t : Tm} (h : leafW w = some t) : t.ok := by
  unfold leafW at h
  by_cases hn : nameS w = true
  · rw [if_pos hn] at h
    cases h
    exact nameS_ok hn
  · rw [if_neg hn] at h
    rcases rd_kind w with e | ⟨b, e⟩ | ⟨i, e⟩
    · rw [e] at h; cases h
    · rw [e] at h
      cases h
      exact (rd_back e (fun z => nomatch z)).2
    · rw [e] at h
      cases h
      exact (rd_back e (fun z => nomatch z)).2
theorem rd_bad {s : Str} (h : (decide (s ≠ Str.ofString "true") && decide (s ≠ Str.ofString "false") && !(isNumL s.cps.toList && inBd (numL s.cps.toList))) = true) : rdS s = .non := by
  rw [Bool.and_eq_true, Bool.and_eq_true, decide_eq_true_eq, decide_eq_true_eq] at h
  exact rd_non h.1.1 h.1.2 fun a b => by
    have := h.2
    rw [a, b] at this
    cases this
def Tm.good : Tm → Prop
  | .nm s => nameS s = true
  | .vl v => vok v
  | .tw op a b => op ∈ opsL ∧ a.good ∧ b.good
  | .nt a => a.good
  | .pk a b e => a.good ∧ b.good ∧ e.good
theorem at_of_drop {α : Type} {ws : List α} {k : Nat} {a : α} {l : List α} (h : ws.drop k = a :: l) : ws[k]? = some a ∧ ws.drop (k + 1) = l := by
  have h1 : ws[k]? = some a := by
    have := List.getElem?_drop (xs := ws) (i := k) (j := 0)
    rw [h] at this
    simpa using this.symm
  refine ⟨h1, ?_⟩
  rw [drop_at h1] at h
  exact (List.cons.inj h).2
theorem drop_add {α : Type} {ws : List α} {k : Nat} {l m : List α} (h : ws.drop k = l ++ m) : ws.drop (k + l.length) = m := by
  rw [← List.drop_drop, h, List.drop_left]
theorem name_no {s : Str} (h : nameS s = true) : ¬ s = "(" ∧ ¬ s = "!" := by
  refine ⟨fun e => ?_, fun e => ?_⟩ <;> (subst e; revert h; decide +kernel)
theorem leaf_nm {s : Str} (h : nameS s = true) : leafW s = some (.nm s) := if_pos h
theorem vtx_rd {v : D} (h : vok v) : rdS (vtx v) = v ∧ (vtx v).length ≤ 11 ∧ okS (vtx v) := by
  cases v with
  | bl b =>
    cases b
    · exact txt_ok (x := .t false) trivial
    · exact txt_ok (x := .t true) trivial
  | int i => exact txt_ok (x := .n i) h
  | _ => exact absurd h (fun z => z)
theorem vtx_no {v : D} (h : vok v) : nameS (vtx v) = false ∧ ¬ vtx v = "(" ∧ ¬ vtx v = "!" := by
  obtain ⟨h1, _⟩ := vtx_rd h
  refine ⟨?_, fun e => ?_, fun e => ?_⟩
  · cases hn : nameS (vtx v) with
    | false => rfl
    | true =>
      exfalso
      obtain ⟨_, h3, h4⟩ := nameS_facts hn
      cases v with
      | bl b =>
        cases b
        · revert h3; decide +kernel
        · revert h3; decide +kernel
      | int i =>
        have e : (vtx (.int i)).cps.toList = if i < 0 then 45 :: dgN i.natAbs else dgN i.natAbs := txt_cps i
        rw [e] at h4
        by_cases hi : i < 0
        · rw [if_pos hi] at h4
          have := letter_bd (List.all_eq_true.mp h4 45 (.head _))
          omega
        · rw [if_neg hi] at h4
          obtain ⟨d1, d2, _⟩ := dgN_facts i.natAbs
          obtain ⟨a, r, er⟩ := List.exists_cons_of_ne_nil d2
          rw [er] at h4 d1
          have q1 := letter_bd (List.all_eq_true.mp h4 a (.head _))
          have q2 := dg1_of d1 (c := a) (.head _)
          omega
      | _ => exact absurd h (fun z => z)
  · rw [e] at h1
    have e2 : rdS (Str.ofString "(") = .non := rd_bad (by decide +kernel)
    rw [e2] at h1
    subst h1
    exact h
  · rw [e] at h1
    have e2 : rdS (Str.ofString "!") = .non := rd_bad (by decide +kernel)
    rw [e2] at h1
    subst h1
    exact h
theorem leaf_vl {v : D} (h : vok v) : leafW (vtx v) = some (.vl v) := by
  obtain ⟨h1, _⟩ := vtx_rd h
  obtain ⟨h2, _⟩ := vtx_no h
  unfold leafW
  rw [if_neg (by rw [h2]; decide), h1]
  cases v with
  | non => exact absurd h (fun z => z)
  | _ => rfl
theorem toks_hd : ∀ t : Tm, t.good → ∃ w l, toks t = w :: l ∧ ¬ w = "!"
  | .nm s, h => ⟨_, _, rfl, (name_no h).2⟩
  | .vl v, h => ⟨_, _, rfl, (vtx_no h).2.2⟩
  | .tw _ _ _, _ => ⟨_, _, rfl, by decide +kernel⟩
  | .nt _, _ => ⟨_, _, rfl, by decide +kernel⟩
  | .pk _ _ _, _ => ⟨_, _, rfl, by decide +kernel⟩
theorem ops_q {op : Str} (h : op ∈ opsL) : ¬ op = "?" := by
  intro e
  subst e
  revert h
  decide +kernel
theorem pT_br {ws : List Str} {r k : Nat} (h : ws[k]? = some "(") (hr : 1 ≤ r) : pT ws (r + 1) k = pB ws (pT ws r) (k + 1) := by
  show (match ws[k]? with | none => _ | some w => _) = _
  rw [h]
  exact if_pos ⟨rfl, hr⟩
theorem pT_leaf {ws : List Str} {r k : Nat} {w : Str} {t : Tm} (h : ws[k]? = some w) (hw : ¬ w = "(") (hl : leafW w = some t) : pT ws (r + 1) k = .got t (k + 1) := by
  show (match ws[k]? with | none => _ | some w => _) = _
  rw [h]
  show (if w = "(" ∧ 1 ≤ r then _ else _) = _
  rw [if_neg (fun z => hw z.1), hl]
theorem pE_ok {ws : List Str} {x : Str} {k : Nat} {g : Nat → PR} (h : ws[k]? = some x) : pE ws x k g = g (k + 1) := by
  unfold pE
  rw [h]
  exact if_pos rfl
theorem pT_toks {ws : List Str} : ∀ (t : Tm), t.good → ∀ (r k : Nat) (rest : List Str), t.lv ≤ r → ws.drop k = toks t ++ rest → pT ws r k = .got t (k + (toks t).length)
  | .nm s, h, r, k, rest, hr, hd => by
    obtain ⟨r0, rfl⟩ : ∃ r0, r = r0 + 1 := ⟨r - 1, by have := (Tm.nm s).lv_pos; omega⟩
    exact pT_leaf (at_of_drop hd).1 (name_no h).1 (leaf_nm h)
  | .vl v, h, r, k, rest, hr, hd => by
    obtain ⟨r0, rfl⟩ : ∃ r0, r = r0 + 1 := ⟨r - 1, by have := (Tm.vl v).lv_pos; omega⟩
    exact pT_leaf (at_of_drop hd).1 (vtx_no h).2.1 (leaf_vl h)
  | .nt a, h, r, k, rest, hr, hd => by
    have hl : (Tm.nt a).lv = 1 + a.lv := rfl
    have ha := a.lv_pos
    obtain ⟨r0, rfl⟩ : ∃ r0, r = r0 + 1 := ⟨r - 1, by omega⟩
    obtain ⟨h1, hd1⟩ := at_of_drop (l := ("!" : Str) :: (toks a ++ [(")" : Str)]) ++ rest) hd
    obtain ⟨h2, hd2⟩ := at_of_drop (l := (toks a ++ [(")" : Str)]) ++ rest) hd1
    rw [List.append_assoc] at hd2
    have e := pT_toks a h r0 (k + 1 + 1) _ (by omega) hd2
    have hd3 := drop_add hd2
    obtain ⟨h3, _⟩ := at_of_drop hd3
    rw [pT_br h1 (by omega)]
    unfold pB
    rw [h2]
    show (if ("!" : Str) = "!" then _ else _) = _
    rw [if_pos rfl, thn_got e, pE_ok h3]
    have : (toks (.nt a)).length = (toks a).length + 3 := by simp [toks]
    rw [this]
    congr 1
    omega
  | .tw op a b, h, r, k, rest, hr, hd => by
    have hl : (Tm.tw op a b).lv = 1 + max a.lv b.lv := rfl
    have ha := a.lv_pos
    obtain ⟨r0, rfl⟩ : ∃ r0, r = r0 + 1 := ⟨r - 1, by omega⟩
    obtain ⟨h1, hd1⟩ := at_of_drop (l := (toks a ++ op :: (toks b ++ [(")" : Str)])) ++ rest) hd
    rw [List.append_assoc] at hd1
    have e := pT_toks a h.2.1 r0 (k + 1) _ (by omega) hd1
    obtain ⟨w, l, ew, hw⟩ := toks_hd a h.2.1
    have hd1' := hd1
    rw [ew] at hd1'
    obtain ⟨h2, _⟩ := at_of_drop hd1'
    have hd2 := drop_add hd1
    obtain ⟨h3, hd3⟩ := at_of_drop (l := (toks b ++ [(")" : Str)]) ++ rest) hd2
    rw [List.append_assoc] at hd3
    have e2 := pT_toks b h.2.2 r0 _ _ (by omega) hd3
    have hd4 := drop_add hd3
    obtain ⟨h4, _⟩ := at_of_drop hd4
    rw [pT_br h1 (by omega)]
    unfold pB
    rw [h2]
    show (if w = "!" then _ else _) = _
    rw [if_neg hw, thn_got e, h3]
    show (if op = "?" then _ else _) = _
    rw [if_neg (ops_q h.1), if_pos h.1, thn_got e2, pE_ok h4]
    have : (toks (.tw op a b)).length = (toks a).length + (toks b).length + 3 := by simp [toks]; omega
    rw [this]
    congr 1
    omega
  | .pk a b c, h, r, k, rest, hr, hd => by
    have hl : (Tm.pk a b c).lv = 1 + max (max a.lv b.lv) c.lv := rfl
    have ha := a.lv_pos
    obtain ⟨r0, rfl⟩ : ∃ r0, r = r0 + 1 := ⟨r - 1, by omega⟩
    obtain ⟨h1, hd1⟩ := at_of_drop (l := (toks a ++ ("?" : Str) :: (toks b ++ (":" : Str) :: (toks c ++ [(")" : Str)]))) ++ rest) hd
    rw [List.append_assoc] at hd1
    have e := pT_toks a h.1 r0 (k + 1) _ (by omega) hd1
    obtain ⟨w, l, ew, hw⟩ := toks_hd a h.1
    have hd1' := hd1
    rw [ew] at hd1'
    obtain ⟨h2, _⟩ := at_of_drop hd1'
    have hd2 := drop_add hd1
    obtain ⟨h3, hd3⟩ := at_of_drop (l := (toks b ++ (":" : Str) :: (toks c ++ [(")" : Str)])) ++ rest) hd2
    rw [List.append_assoc] at hd3
    have e2 := pT_toks b h.2.1 r0 _ _ (by omega) hd3
    have hd4 := drop_add hd3
    obtain ⟨h4, hd5⟩ := at_of_drop (l := (toks c ++ [(")" : Str)]) ++ rest) hd4
    rw [List.append_assoc] at hd5
    have e3 := pT_toks c h.2.2 r0 _ _ (by omega) hd5
    have hd6 := drop_add hd5
    obtain ⟨h6, _⟩ := at_of_drop hd6
    rw [pT_br h1 (by omega)]
    unfold pB
    rw [h2]
    show (if w = "!" then _ else _) = _
    rw [if_neg hw, thn_got e, h3]
    show (if ("?" : Str) = "?" then _ else _) = _
    rw [if_pos rfl]
    unfold pP
    rw [thn_got e2, pE_ok h4, thn_got e3, pE_ok h6]
    have : (toks (.pk a b c)).length = (toks a).length + (toks b).length + (toks c).length + 4 := by simp [toks]; omega
    rw [this]
    congr 1
    omega
theorem rdT_toks {t : Tm} (h : t.good) (hl : t.lv ≤ 5) : rdT (toks t) = .got t (toks t).length := by
  have e := pT_toks (ws := toks t) t h 5 0 [] hl (by rw [List.drop_zero, List.append_nil])
  rw [Nat.zero_add] at e
  unfold rdT
  rw [e]
  exact if_neg (by omega)
/-- what is read is a term -/
theorem pE_got {ws : List Str} {x : Str} {k j : Nat} {t : Tm} {g : Nat → PR} (h : pE ws x k g = .got t j) : ws[k]? = some x ∧ g (k + 1) = .got t j := by
  unfold pE at h
  cases e : ws[k]? with
  | none => rw [e] at h; cases h
  | some w =>
    rw [e] at h
    by_cases hw : w = x
    · subst hw
      exact ⟨rfl, (if_pos rfl).symm.trans h⟩
    · have h2 : (if w = x then g (k + 1) else PR.bad k) = .got t j := h
      rw [if_neg hw] at h2
      cases h2
theorem thn_got' {r : PR} {g : Tm → Nat → PR} {t : Tm} {j : Nat} (h : thn r g = .got t j) : ∃ u k, r = .got u k ∧ g u k = .got t j := by
  cases r with
  | bad k => cases h
  | got u k => exact ⟨u, k, rfl, h⟩
theorem pT_ok {ws : List Str} : ∀ (r k : Nat) (t : Tm) (j : Nat), pT ws r k = .got t j → t.ok
  | 0, _, _, _, h => by cases h
  | r + 1, k, t, j, h => by
    have ih := fun k t j => pT_ok (ws := ws) r k t j
    unfold pT at h
    cases e : ws[k]? with
    | none => rw [e] at h; cases h
    | some w =>
      rw [e] at h
      have h : (if w = "(" ∧ 1 ≤ r then pB ws (pT ws r) (k + 1) else match leafW w with | some t => PR.got t (k + 1) | none => .bad k) = .got t j := h
      by_cases hw : w = "(" ∧ 1 ≤ r
      · rw [if_pos hw] at h
        unfold pB at h
        cases e2 : ws[k + 1]? with
        | none => rw [e2] at h; cases h
        | some w2 =>
          rw [e2] at h
          by_cases h1 : w2 = "!"
          · have h : (if w2 = "!" then _ else _ : PR) = .got t j := h
            rw [if_pos h1] at h
            obtain ⟨u, k2, hu, h⟩ := thn_got' h
            obtain ⟨_, h⟩ := pE_got h
            cases h
            show u.ok
            exact ih _ _ _ hu
          · have h : (if w2 = "!" then _ else _ : PR) = .got t j := h
            rw [if_neg h1] at h
            obtain ⟨u, k2, hu, h⟩ := thn_got' h
            cases e3 : ws[k2]? with
            | none => rw [e3] at h; cases h
            | some op =>
              rw [e3] at h
              have h : (if op = "?" then _ else if op ∈ opsL then _ else _ : PR) = .got t j := h
              by_cases h2 : op = "?"
              · rw [if_pos h2] at h
                unfold pP at h
                obtain ⟨v, k3, hv, h⟩ := thn_got' h
                obtain ⟨_, h⟩ := pE_got h
                obtain ⟨x, k4, hx, h⟩ := thn_got' h
                obtain ⟨_, h⟩ := pE_got h
                cases h
                exact ⟨ih _ _ _ hu, ih _ _ _ hv, ih _ _ _ hx⟩
              · rw [if_neg h2] at h
                by_cases h3 : op ∈ opsL
                · rw [if_pos h3] at h
                  obtain ⟨v, k3, hv, h⟩ := thn_got' h
                  obtain ⟨_, h⟩ := pE_got h
                  cases h
                  exact ⟨h3, ih _ _ _ hu, ih _ _ _ hv⟩
                · rw [if_neg h3] at h
                  cases h
      · rw [if_neg hw] at h
        cases e4 : leafW w with
        | none => rw [e4] at h; cases h
        | some u =>
          rw [e4] at h
          cases h
          exact leaf_ok e4
def WsOk (ws : List Str) : Prop := ws.length ≤ 31000 ∧ ∀ w ∈ ws, w.length ≤ 1000 ∧ okS w
abbrev W__word_at (e : E24) : W0 := fun ds Φ X => ∃ (ws : List Str) (k : Nat), ds = [.lst (ws.map .str), .int k] ∧ WsOk ws ∧ k ≤ ws.length ∧ (ws[k]? = none → X e.nt [("at", .int k)]) ∧ (∀ w, ws[k]? = some w → Φ (.fz (.str w)))
abbrev W__behind (e : E24) : W0 := fun ds Φ X => ∃ (ws : List Str) (k : Nat) (x : Str), ds = [.lst (ws.map .str), .int k, .str x] ∧ WsOk ws ∧ k ≤ ws.length ∧ okS x ∧ (¬ ws[k]? = some x → X e.nt [("at", .int k)]) ∧ (ws[k]? = some x → Φ (.fz (.int ((k + 1 : Nat) : Int))))
abbrev W__term_at (c : TC) (e : E24) (n : Nat) : W0 := fun ds Φ X => ∃ (ws : List Str) (k r : Nat), ds = [.lst (ws.map .str), .int k, .int r] ∧ WsOk ws ∧ k ≤ ws.length ∧ 1 ≤ r ∧ r ≤ n ∧ r ≤ 5 ∧ (∀ j : Nat, pT ws r k = .bad j → X e.nt [("at", .int j)]) ∧ (∀ (t : Tm) (j : Nat), pT ws r k = .got t j → Φ (.fz (.tup [t.d c, .int j])))
abbrev W__bracket_at (c : TC) (e : E24) (n : Nat) : W0 := fun ds Φ X => ∃ (ws : List Str) (k r : Nat), ds = [.lst (ws.map .str), .int k, .int r] ∧ WsOk ws ∧ k ≤ ws.length ∧ 1 ≤ r ∧ r ≤ n ∧ r ≤ 4 ∧ (∀ j : Nat, pB ws (pT ws r) k = .bad j → X e.nt [("at", .int j)]) ∧ (∀ (t : Tm) (j : Nat), pB ws (pT ws r) k = .got t j → Φ (.fz (.tup [t.d c, .int j])))
abbrev W__pick_at (c : TC) (e : E24) (n : Nat) : W0 := fun ds Φ X => ∃ (ws : List Str) (k r : Nat) (b : Tm), ds = [.lst (ws.map .str), .int k, .int r, b.d c] ∧ WsOk ws ∧ k ≤ ws.length ∧ 1 ≤ r ∧ r ≤ n ∧ r ≤ 4 ∧ b.lv ≤ 4 ∧ (∀ j : Nat, pP ws (pT ws r) k b = .bad j → X e.nt [("at", .int j)]) ∧ (∀ (t : Tm) (j : Nat), pP ws (pT ws r) k b = .got t j → Φ (.fz (.tup [t.d c, .int j])))
abbrev W_read_term (c : TC) (e : E24) : W0 := fun ds Φ X => ∃ d, ds = [d] ∧ (tyD d).isSome = true ∧ ((∀ s, d ≠ .str s) → X e.nt [("at", .int 0)]) ∧ ∀ s, d = .str s → s.length ≤ 90000 ∧ okS s ∧ WsOk (Txt.split s " ") ∧ (∀ j : Nat, rdT (Txt.split s " ") = .bad j → X e.nt [("at", .int j)]) ∧ (∀ (t : Tm) (j : Nat), rdT (Txt.split s " ") = .got t j → Φ (.fz (t.d c)))
theorem ws_back {ws : List Str} : ∀ w ∈ ws, ∀ v, rdS w = v → v ≠ .non → vtx v = w := fun w _ v h hv => (rd_back h hv).1
theorem pT_got {ws : List Str} {r k j : Nat} {t : Tm} (hr : 1 ≤ r) (h : pT ws r k = .got t j) : t.lv ≤ r ∧ j ≤ ws.length ∧ t.ok := by
  obtain ⟨r0, rfl⟩ : ∃ r0, r = r0 + 1 := ⟨r - 1, by omega⟩
  have := run_term (ws := ws) ws_back r0 k []
  rw [h] at this
  exact ⟨this.2.1, this.2.2.1, pT_ok _ _ _ _ h⟩
theorem join_app (y : Str) : ∀ {as bs : List Str}, as ≠ [] → bs ≠ [] → Str.join y (as ++ bs) = Str.join y as ++ y ++ Str.join y bs
  | [], _, h, _ => absurd rfl h
  | [a], [], _, h => absurd rfl h
  | [a], b :: r, _, _ => rfl
  | a :: a2 :: r, bs, _, hb => by
    have e := join_app y (as := a2 :: r) (bs := bs) (by simp) hb
    show a ++ y ++ Str.join y (a2 :: r ++ bs) = (a ++ y ++ Str.join y (a2 :: r)) ++ y ++ Str.join y bs
    rw [e]
    apply Str.ext'
    simp only [cps_app, List.append_assoc]
def tx (t : Tm) : Str := Txt.join " " (toks t)
theorem tx_j (t : Tm) : tx t = Str.join " " (toks t) := PySem.StrLaws.glued_eq_join _ _
theorem toks_ne : ∀ t : Tm, toks t ≠ []
  | .nm _ => by simp [toks] | .vl _ => by simp [toks] | .tw _ _ _ => by simp [toks] | .nt _ => by simp [toks] | .pk _ _ _ => by simp [toks]
theorem cA : (Str.ofString "( ").cps.toList = [40, 32] ∧ (Str.ofString "( ! ").cps.toList = [40, 32, 33, 32] ∧ (Str.ofString " )").cps.toList = [32, 41] ∧ (Str.ofString " ").cps.toList = [32] ∧ (Str.ofString " ? ").cps.toList = [32, 63, 32] ∧ (Str.ofString " : ").cps.toList = [32, 58, 32] ∧ (Str.ofString "(").cps.toList = [40] ∧ (Str.ofString ")").cps.toList = [41] ∧ (Str.ofString "!").cps.toList = [33] ∧ (Str.ofString "?").cps.toList = [63] ∧ (Str.ofString ":").cps.toList = [58] := by decide +kernel
theorem join_cons (y a : Str) {l : List Str} (h : l ≠ []) : Str.join y (a :: l) = a ++ y ++ Str.join y l := join_app y (as := [a]) (bs := l) (by simp) h
theorem tx_nt (a : Tm) : tx (.nt a) = Str.empty ++ Str.ofString "( ! " ++ tx a ++ Str.ofString " )" := by
  obtain ⟨c1, c2, c3, c4, c5, c6, c7, c8, c9, c10, c11⟩ := cA
  rw [tx_j, tx_j]
  show Str.join " " (("(" : Str) :: ("!" : Str) :: (toks a ++ [(")" : Str)])) = _
  rw [join_cons _ _ (by simp), join_cons _ _ (by simp), join_app _ (toks_ne a) (by simp)]
  apply Str.ext'
  simp only [cps_app, c2, c3, c4, c7, c9, Str.join, c8]
  simp [Str.empty]
theorem tx_tw (op : Str) (a b : Tm) : tx (.tw op a b) = Str.empty ++ Str.ofString "( " ++ tx a ++ Str.ofString " " ++ op ++ Str.ofString " " ++ tx b ++ Str.ofString " )" := by
  obtain ⟨c1, c2, c3, c4, c5, c6, c7, c8, c9, c10, c11⟩ := cA
  rw [tx_j, tx_j, tx_j]
  show Str.join " " (("(" : Str) :: (toks a ++ op :: (toks b ++ [(")" : Str)]))) = _
  rw [join_cons _ _ (by simp), join_app _ (toks_ne a) (by simp), join_cons _ _ (by simp), join_app _ (toks_ne b) (by simp)]
  apply Str.ext'
  simp only [cps_app, c1, c3, c4, c7, c8, Str.join]
  simp [Str.empty]
theorem tx_pk (a b e : Tm) : tx (.pk a b e) = Str.empty ++ Str.ofString "( " ++ tx a ++ Str.ofString " ? " ++ tx b ++ Str.ofString " : " ++ tx e ++ Str.ofString " )" := by
  obtain ⟨c1, c2, c3, c4, c5, c6, c7, c8, c9, c10, c11⟩ := cA
  rw [tx_j, tx_j, tx_j, tx_j]
  show Str.join " " (("(" : Str) :: (toks a ++ ("?" : Str) :: (toks b ++ (":" : Str) :: (toks e ++ [(")" : Str)])))) = _
  rw [join_cons _ _ (by simp), join_app _ (toks_ne a) (by simp), join_cons _ _ (by simp), join_app _ (toks_ne b) (by simp), join_cons _ _ (by simp), join_app _ (toks_ne e) (by simp)]
  apply Str.ext'
  simp only [cps_app, c1, c3, c4, c5, c6, c7, c8, c10, c11, Str.join]
  simp [Str.empty]
theorem tx_len : ∀ t : Tm, t.ok → (tx t).length ≤ 120 * 4 ^ t.lv
  | .nm s, h => by
    have := h.1
    show s.length ≤ 120 * 4
    omega
  | .vl v, h => by
    have := (vtx_rd h).2.1
    show (vtx v).length ≤ 120 * 4
    omega
  | .nt a, h => by
    have h1 := tx_len a h
    rw [tx_nt]
    simp only [len_app]
    have e1 : (Str.ofString "( ! ").length = 4 := by decide +kernel
    have e2 : (Str.ofString " )").length = 2 := by decide +kernel
    have e3 : Str.empty.length = 0 := rfl
    have e4 : (Tm.nt a).lv = 1 + a.lv := rfl
    have e5 : 1 ≤ 4 ^ a.lv := Nat.pow_pos (by decide)
    rw [e1, e2, e3, e4, Nat.pow_add]
    omega
  | .tw op a b, h => by
    have h1 := tx_len a h.2.1
    have h2 := tx_len b h.2.2
    have ho := (op_small op h.1).1
    rw [tx_tw]
    simp only [len_app]
    have e1 : (Str.ofString "( ").length = 2 := by decide +kernel
    have e2 : (Str.ofString " )").length = 2 := by decide +kernel
    have e6 : (Str.ofString " ").length = 1 := by decide +kernel
    have e3 : Str.empty.length = 0 := rfl
    have e4 : (Tm.tw op a b).lv = 1 + max a.lv b.lv := rfl
    have e5 : 1 ≤ 4 ^ max a.lv b.lv := Nat.pow_pos (by decide)
    have p1 : 4 ^ a.lv ≤ 4 ^ max a.lv b.lv := pow4 (Nat.le_max_left _ _)
    have p2 : 4 ^ b.lv ≤ 4 ^ max a.lv b.lv := pow4 (Nat.le_max_right _ _)
    rw [e1, e2, e3, e4, e6, Nat.pow_add]
    omega
  | .pk a b e, h => by
    have h1 := tx_len a h.1
    have h2 := tx_len b h.2.1
    have h3 := tx_len e h.2.2
    rw [tx_pk]
    simp only [len_app]
    have e1 : (Str.ofString "( ").length = 2 := by decide +kernel
    have e2 : (Str.ofString " )").length = 2 := by decide +kernel
    have e6 : (Str.ofString " ? ").length = 3 := by decide +kernel
    have e7 : (Str.ofString " : ").length = 3 := by decide +kernel
    have e3 : Str.empty.length = 0 := rfl
    have e4 : (Tm.pk a b e).lv = 1 + max (max a.lv b.lv) e.lv := rfl
    have e5 : 1 ≤ 4 ^ max (max a.lv b.lv) e.lv := Nat.pow_pos (by decide)
    have p1 : 4 ^ a.lv ≤ 4 ^ max (max a.lv b.lv) e.lv := pow4 (by omega)
    have p2 : 4 ^ b.lv ≤ 4 ^ max (max a.lv b.lv) e.lv := pow4 (by omega)
    have p3 : 4 ^ e.lv ≤ 4 ^ max (max a.lv b.lv) e.lv := pow4 (by omega)
    rw [e1, e2, e3, e4, e6, e7, Nat.pow_add]
    omega
theorem tx_small {t : Tm} (h : t.ok) (hl : t.lv ≤ 5) : (tx t).length ≤ 122880 := by
  have h1 := tx_len t h
  have h2 : 4 ^ t.lv ≤ 4 ^ 5 := pow4 hl
  have h3 : (4 : Nat) ^ 5 = 1024 := by decide
  omega
abbrev W_words (c : TC) (n : Nat) (tag : Nat) : W0 := fun ds Φ _ => ∃ t : Tm, ds = [t.d c] ∧ t.tag = tag ∧ t.lv ≤ n ∧ t.lv ≤ 5 ∧ t.ok ∧ Φ (.fz (.str (tx t)))
theorem nf_words (c : TC) : ∀ t : Tm, (t.fs c).lookup ("words" : Str) = none
  | .nm _ => rfl | .vl _ => rfl | .tw _ _ _ => rfl | .nt _ => rfl | .pk _ _ _ => rfl
theorem no_words {c : TC} {K : PySem.W.Frag} {tag : Nat} {vs : List V} {H : Hp} {Q : VK} {E : XK} : ¬ sp0 K (W_words c 0 tag) vs H Q E := sp0_no fun _ _ _ ⟨t, _, _, h, _⟩ => absurd t.lv_pos (by omega)
theorem good_ok : ∀ t : Tm, t.good → t.ok
  | .nm _, h => nameS_ok h
  | .vl _, h => h
  | .tw _ a b, h => ⟨h.1, good_ok a h.2.1, good_ok b h.2.2⟩
  | .nt a, h => good_ok a h
  | .pk a b e, h => ⟨good_ok a h.1, good_ok b h.2.1, good_ok e h.2.2⟩
theorem ws_at {ws : List Str} (h : WsOk ws) {k : Nat} {w : Str} (e : ws[k]? = some w) : w.length ≤ 1000 ∧ okS w := h.2 w (List.mem_of_getElem? e)
theorem pE_bad {ws : List Str} {x : Str} {k : Nat} {g : Nat → PR} (h : ¬ ws[k]? = some x) : pE ws x k g = .bad k := by
  unfold pE
  cases q : ws[k]? with
  | none => rfl
  | some w =>
    show (if w = x then _ else _) = _
    rw [if_neg (fun z => h (by rw [q, z]))]
theorem okC : okS (Str.ofString ")") ∧ okS (Str.ofString ":") := ⟨okS_of (by decide +kernel), okS_of (by decide +kernel)⟩
theorem lt_len {ws : List Str} {k : Nat} {w : Str} (h : ws[k]? = some w) : k + 1 ≤ ws.length := lt_of_at h
section
variable {ws : List Str} {f : Nat → PR} {k k1 j : Nat} {w op : Str} {t : Tm}
theorem pB_no (h : ws[k]? = none) : pB ws f k = .bad k := by unfold pB; rw [h]
theorem pB_not (h : ws[k]? = some "!") : pB ws f k = thn (f (k + 1)) fun t k => pE ws ")" k fun k1 => .got (.nt t) k1 := by
  unfold pB
  rw [h]
  exact if_pos rfl
theorem pB_bad (h : ws[k]? = some w) (hw : ¬ w = "!") (hf : f k = .bad j) : pB ws f k = .bad j := by
  unfold pB
  rw [h]
  show (if w = "!" then _ else _) = _
  rw [if_neg hw, thn_bad hf]
theorem pB_none (h : ws[k]? = some w) (hw : ¬ w = "!") (hf : f k = .got t k1) (h1 : ws[k1]? = none) : pB ws f k = .bad k1 := by
  unfold pB
  rw [h]
  show (if w = "!" then _ else _) = _
  rw [if_neg hw, thn_got hf, h1]
theorem pB_pick (h : ws[k]? = some w) (hw : ¬ w = "!") (hf : f k = .got t k1) (h1 : ws[k1]? = some "?") : pB ws f k = pP ws f (k1 + 1) t := by
  unfold pB
  rw [h]
  show (if w = "!" then _ else _) = _
  rw [if_neg hw, thn_got hf, h1]
  exact if_pos rfl
theorem pB_op (h : ws[k]? = some w) (hw : ¬ w = "!") (hf : f k = .got t k1) (h1 : ws[k1]? = some op) (h2 : ¬ op = "?") (h3 : op ∈ opsL) : pB ws f k = thn (f (k1 + 1)) fun u k2 => pE ws ")" k2 fun k3 => .got (.tw op t u) k3 := by
  unfold pB
  rw [h]
  show (if w = "!" then _ else _) = _
  rw [if_neg hw, thn_got hf, h1]
  show (if op = "?" then _ else _) = _
  rw [if_neg h2, if_pos h3]
theorem pB_odd (h : ws[k]? = some w) (hw : ¬ w = "!") (hf : f k = .got t k1) (h1 : ws[k1]? = some op) (h2 : ¬ op = "?") (h3 : ¬ op ∈ opsL) : pB ws f k = .bad k1 := by
  unfold pB
  rw [h]
  show (if w = "!" then _ else _) = _
  rw [if_neg hw, thn_got hf, h1]
  show (if op = "?" then _ else _) = _
  rw [if_neg h2, if_neg h3]
end
theorem pT_no {ws : List Str} {r k : Nat} (h : ws[k]? = none) : pT ws (r + 1) k = .bad k := by
  show (match ws[k]? with | none => _ | some w => _) = _
  rw [h]
theorem pT_odd {ws : List Str} {r k : Nat} {w : Str} (h : ws[k]? = some w) (hw : ¬ (w = "(" ∧ 1 ≤ r)) (hl : leafW w = none) : pT ws (r + 1) k = .bad k := by
  show (match ws[k]? with | none => _ | some w => _) = _
  rw [h]
  show (if w = "(" ∧ 1 ≤ r then _ else _) = _
  rw [if_neg hw, hl]
theorem pT_leaf' {ws : List Str} {r k : Nat} {w : Str} {t : Tm} (h : ws[k]? = some w) (hw : ¬ (w = "(" ∧ 1 ≤ r)) (hl : leafW w = some t) : pT ws (r + 1) k = .got t (k + 1) := by
  show (match ws[k]? with | none => _ | some w => _) = _
  rw [h]
  show (if w = "(" ∧ 1 ≤ r then _ else _) = _
  rw [if_neg hw, hl]
theorem leaf_non {w : Str} (hn : ¬ nameS w = true) (h : rdS w = .non) : leafW w = none := by
  unfold leafW
  rw [if_neg hn, h]
theorem leaf_bl {w : Str} {b : Bool} (hn : ¬ nameS w = true) (h : rdS w = .bl b) : leafW w = some (.vl (.bl b)) := by
  unfold leafW
  rw [if_neg hn, h]
theorem leaf_int {w : Str} {i : Int} (hn : ¬ nameS w = true) (h : rdS w = .int i) : leafW w = some (.vl (.int i)) := by
  unfold leafW
  rw [if_neg hn, h]
theorem rdT_bad {ws : List Str} {j : Nat} (h : pT ws 5 0 = .bad j) : rdT ws = .bad j := by unfold rdT; rw [h]
theorem rdT_more {ws : List Str} {t : Tm} {j : Nat} (h : pT ws 5 0 = .got t j) (hj : j < ws.length) : rdT ws = .bad j := by
  unfold rdT
  rw [h]
  exact if_pos hj
theorem rdT_all {ws : List Str} {t : Tm} {j : Nat} (h : pT ws 5 0 = .got t j) (hj : ¬ j < ws.length) : rdT ws = .got t j := by
  unfold rdT
  rw [h]
  exact if_neg hj
theorem toks_len : ∀ t : Tm, (toks t).length ≤ 2 * 4 ^ t.lv - 3
  | .nm _ => by show 1 ≤ 5; decide
  | .vl _ => by show 1 ≤ 5; decide
  | .nt a => by
    have h1 := toks_len a
    have e4 : (Tm.nt a).lv = 1 + a.lv := rfl
    have e5 : 4 ≤ 4 ^ a.lv := by have := pow4 a.lv_pos; simpa using this
    have : (toks (.nt a)).length = (toks a).length + 3 := by simp [toks]
    rw [this, e4, Nat.pow_add]
    omega
  | .tw op a b => by
    have h1 := toks_len a
    have h2 := toks_len b
    have e4 : (Tm.tw op a b).lv = 1 + max a.lv b.lv := rfl
    have e5 : 4 ≤ 4 ^ a.lv := by have := pow4 a.lv_pos; simpa using this
    have p1 : 4 ^ a.lv ≤ 4 ^ max a.lv b.lv := pow4 (Nat.le_max_left _ _)
    have p2 : 4 ^ b.lv ≤ 4 ^ max a.lv b.lv := pow4 (Nat.le_max_right _ _)
    have : (toks (.tw op a b)).length = (toks a).length + (toks b).length + 3 := by simp [toks]; omega
    rw [this, e4, Nat.pow_add]
    omega
  | .pk a b e => by
    have h1 := toks_len a
    have h2 := toks_len b
    have h3 := toks_len e
    have e4 : (Tm.pk a b e).lv = 1 + max (max a.lv b.lv) e.lv := rfl
    have e5 : 4 ≤ 4 ^ a.lv := by have := pow4 a.lv_pos; simpa using this
    have p1 : 4 ^ a.lv ≤ 4 ^ max (max a.lv b.lv) e.lv := pow4 (by omega)
    have p2 : 4 ^ b.lv ≤ 4 ^ max (max a.lv b.lv) e.lv := pow4 (by omega)
    have p3 : 4 ^ e.lv ≤ 4 ^ max (max a.lv b.lv) e.lv := pow4 (by omega)
    have : (toks (.pk a b e)).length = (toks a).length + (toks b).length + (toks e).length + 4 := by simp [toks]; omega
    rw [this, e4, Nat.pow_add]
    omega
theorem toks_small {t : Tm} (hl : t.lv ≤ 5) : (toks t).length ≤ 2045 := by
  have h1 := toks_len t
  have h2 : 4 ^ t.lv ≤ 4 ^ 5 := pow4 hl
  have h3 : (4 : Nat) ^ 5 = 1024 := by decide
  omega
theorem toks_nt (a : Tm) : (toks (.nt a)).map D.str = ([D.str "(", D.str "!"] ++ (toks a).map D.str) ++ [D.str ")"] := by simp [toks]
theorem toks_tw (op : Str) (a b : Tm) : (toks (.tw op a b)).map D.str = ((([D.str "("] ++ (toks a).map D.str) ++ [D.str op]) ++ (toks b).map D.str) ++ [D.str ")"] := by simp [toks]
theorem toks_pk (a b e : Tm) : (toks (.pk a b e)).map D.str = ((((([D.str "("] ++ (toks a).map D.str) ++ [D.str "?"]) ++ (toks b).map D.str) ++ [D.str ":"]) ++ (toks e).map D.str) ++ [D.str ")"] := by simp [toks]
theorem abs_text (i : Int) : Str.ofString (toString i) = (if i < 0 then Str.ofString "-" else Str.ofString "") ++ Str.ofString (toString ((i.natAbs : Nat) : Int)) := by
  apply Str.ext'
  rw [cps_app, txt_cps, txt_cps, if_neg (show ¬ ((i.natAbs : Nat) : Int) < 0 by omega), Int.natAbs_natCast]
  by_cases h : i < 0
  · rw [if_pos h, if_pos h]; rfl
  · rw [if_neg h, if_neg h]; rfl
theorem simp_tf : simpS "true" = true ∧ simpS "false" = true := by decide +kernel
abbrev own12 : List Str := ["node", "in", "out", "before", "when", "hold", "like", "same", "call", "mod", "beat", "desk"]
theorem simp_own {w : Str} (h : w ∈ own12) : simpS w = false := by
  simp only [List.mem_cons, List.not_mem_nil, or_false] at h
  rcases h with rfl | rfl | rfl | rfl | rfl | rfl | rfl | rfl | rfl | rfl | rfl | rfl <;> decide +kernel
theorem own_no {w : Str} (h1 : ¬ w = "true") (h2 : ¬ w = "false") (h : ¬ w ∈ own12) : inOwn w = false := by
  have e : inOwn w = decide (w ∈ ownW) := inD_str w ownW
  rw [e]
  refine decide_eq_false fun z => ?_
  simp only [List.mem_cons, List.not_mem_nil, or_false] at z h
  simp only [not_or] at h
  rcases z with z | z | z | z | z | z | z | z | z | z | z | z | z | z <;> first | exact h1 z | exact h2 z | (exact absurd z (by simp [h]))
theorem simp_name {w : Str} (h : nameS w = true) : simpS w = true := by
  unfold simpS
  rw [leaf_nm h]
  rfl
theorem simp_num {w : Str} (h1 : ¬ w = "true") (h2 : ¬ w = "false") (hn : ¬ nameS w = true) : simpS w = (isNumL w.cps.toList && inBd (numL w.cps.toList)) := by
  unfold simpS leafW
  rw [if_neg hn]
  unfold rdS
  rw [if_neg h1, if_neg h2]
  cases isNumL w.cps.toList
  · rfl
  · cases inBd (numL w.cps.toList) <;> rfl
theorem own_eq (w : Str) : inD (.str w) [.str "node", .str "in", .str "out", .str "before", .str "when", .str "hold", .str "like", .str "same", .str "call", .str "mod", .str "beat", .str "desk"] = decide (w ∈ own12) := inD_str w own12
theorem tf_eq (w : Str) : inD (.str w) [.str "true", .str "false"] = decide (w ∈ (["true", "false"] : List Str)) := inD_str w ["true", "false"]
theorem le_0 (c : Nat) : (!decide (([c] : List Nat) < (Str.ofString "0").cps.toList)) = decide (48 ≤ c) := by
  have e : (Str.ofString "0").cps.toList = [48] := by decide +kernel
  rw [e, ← decide_not]
  apply decide_eq_decide.mpr
  rw [List.cons_lt_cons_iff]
  simp
theorem le_9 (c : Nat) : (!decide ((Str.ofString "9").cps.toList < ([c] : List Nat))) = decide (c ≤ 57) := by
  have e : (Str.ofString "9").cps.toList = [57] := by decide +kernel
  rw [e, ← decide_not]
  apply decide_eq_decide.mpr
  rw [List.cons_lt_cons_iff]
  simp
theorem num_short {l : List Nat} (h : ¬ (0 < (figs l).length)) : isNumL l = false := by
  cases e : isNumL l with
  | false => rfl
  | true => exact absurd (isNum_facts e).1.1 (by omega)
theorem num_long {l : List Nat} (h : ¬ ((figs l).length < 11)) : isNumL l = false := by
  cases e : isNumL l with
  | false => rfl
  | true => exact absurd (isNum_facts e).1.2 (by omega)
theorem num_odd {l : List Nat} (h : (figs l).all dg1 = false) : isNumL l = false := by
  cases e : isNumL l with
  | false => rfl
  | true =>
    have := (isNum_facts e).2.1
    rw [h] at this
    cases this
theorem num_all {l : List Nat} (h0 : 0 < (figs l).length) (h1 : (figs l).length < 11) (h2 : (figs l).all dg1 = true) : isNumL l = !((figs l).head? == some 48 && !(l == [48])) := by
  unfold isNumL
  rw [h2, decide_eq_true (show (1 : Int) ≤ ((figs l).length : Int) by omega), decide_eq_true (show ((figs l).length : Int) ≤ 10 by omega)]
  simp
theorem num_bd (l : List Nat) : inBd (numL l) = decide (fo (figs l) ≤ 1000000000) := by
  unfold inBd numL
  rw [← Bool.decide_and]
  apply decide_eq_decide.mpr
  split <;> omega
def Ro.d : Ro → D
  | .term l => .tup [.str "term", .int l]
  | .first l => .tup [.str "first", .int l]
  | .behind l => .tup [.str "behind", .int l]
  | .cl => .tup [.str ")", .int 0]
  | .co => .tup [.str ":", .int 0]
/-- the waiting ones as they stand: the next one last -/
def stD (st : List Ro) : List D := (st.map Ro.d).reverse
/-- short words, whatever stands in them -/
def Sh (n : Nat) (ws : List Str) : Prop := ∀ w ∈ ws, w.length ≤ n ∧ okS w
theorem stD_cons (o : Ro) (s : List Ro) : stD (o :: s) = stD s ++ [o.d] := by simp [stD]
theorem stD_len (s : List Ro) : (stD s).length = s.length := by simp [stD]
theorem beq_dec (a b : Str) : (a == b) = decide (a = b) := by rw [Bool.eq_iff_iff]; simp
theorem ops_dec (w : Str) : inD (.str w) [.str "+", .str "-", .str "*", .str "/", .str "mod", .str "<", .str "=", .str "&", .str "|"] = decide (w ∈ opsL) := inD_str w opsL
def Ro.py : Ro → PyData
  | .term l => .tuple [.str "term", .int l]
  | .first l => .tuple [.str "first", .int l]
  | .behind l => .tuple [.str "behind", .int l]
  | .cl => .tuple [.str ")", .int 0]
  | .co => .tuple [.str ":", .int 0]
theorem ro_toPy : ∀ l : List Ro, toPyL (l.map Ro.d) = some (l.map Ro.py)
  | [] => rfl
  | o :: l => by
    rw [List.map_cons, toPyL, ro_toPy l]
    cases o <;> rfl
theorem ro_ok : okS (Str.ofString "term") ∧ okS (Str.ofString "first") ∧ okS (Str.ofString "behind") ∧ okS (Str.ofString ")") ∧ okS (Str.ofString ":") := ⟨okS_of (by decide +kernel), okS_of (by decide +kernel), okS_of (by decide +kernel), okS_of (by decide +kernel), okS_of (by decide +kernel)⟩
theorem ro_lay : ∀ l : List Ro, PyData.canLayAll0 (l.map Ro.py) = true
  | [] => by simp [PyData.canLayAll0]
  | o :: l => by
    obtain ⟨h1, h2, h3, h4, h5⟩ := ro_ok
    have := ro_lay l
    cases o <;> simp [PyData.canLayAll0, PyData.canLay0, Ro.py, this, okS_strOk h1, okS_strOk h2, okS_strOk h3, okS_strOk h4, okS_strOk h5]
theorem ro_depth : ∀ l : List Ro, PyData.depthAll (l.map Ro.py) ≤ 5
  | [] => by simp [PyData.depthAll]
  | o :: l => by
    have := ro_depth l
    cases o <;> simp only [List.map_cons, PyData.depthAll, PyData.depth, Ro.py] <;> omega
theorem ro_shaped (l : List Ro) : SeqAt.shaped (.list (l.map Ro.py)) = true := by
  show (PyData.canLay0 (.list (l.map Ro.py)) && decide (PyData.depth (.list (l.map Ro.py)) ≤ 64)) = true
  rw [Bool.and_eq_true]
  refine ⟨by simp only [PyData.canLay0]; exact ro_lay l, decide_eq_true ?_⟩
  have := ro_depth l
  simp only [PyData.depth]
  omega
theorem stD_rev (st : List Ro) : stD st = st.reverse.map Ro.d := by simp [stD]
theorem ro_nil (l : List Ro) : PyData.eqv (.list (l.map Ro.py)) (.list []) = l.isEmpty := by
  cases l with
  | nil => simp [PyData.eqv, PyData.eqvAll]
  | cons o l => simp [PyData.eqv, PyData.eqvAll]
theorem stp_len {o : Ro} {s : List Ro} {w : Str} : (stp (o :: s) w).2.length ≤ s.length + 4 := by
  cases o with
  | term l =>
    show (if w = "(" ∧ 1 < l then _ else _ : Bool × List Ro).2.length ≤ _
    split <;> simp
  | first l =>
    show (if w = "!" then _ else if w = "(" ∧ 1 < l then _ else _ : Bool × List Ro).2.length ≤ _
    split
    · simp
    · split <;> simp
  | behind l =>
    show (if w = "?" then _ else _ : Bool × List Ro).2.length ≤ _
    split <;> simp
  | cl => show s.length ≤ _; omega
  | co => show s.length ≤ _; omega
theorem mch_nil {ws : List Str} {k : Nat} {w : Str} (h : ws[k]? = some w) : mch [] (ws.drop k) k = some k := by
  rw [drop_at h]
  rfl
theorem own_z : ∀ s ∈ ownW, s.cps.toList.getLast? ≠ some 122 := by decide +kernel
theorem nameS_z {u : Str} (hl : u.length ≤ 7) (h : u.cps.toList.all letter = true) : nameS (u ++ Str.ofString "z") = true := by
  have ez : (Str.ofString "z").cps.toList = [122] := by decide +kernel
  have lz : (Str.ofString "z").length = 1 := by decide +kernel
  have hin : inOwn (u ++ Str.ofString "z") = false := by
    have e : inOwn (u ++ Str.ofString "z") = decide (u ++ Str.ofString "z" ∈ ownW) := inD_str _ ownW
    rw [e]
    refine decide_eq_false fun z => own_z _ z ?_
    rw [cps_app, ez]
    simp
  unfold nameS
  rw [hin, len_app, lz, cps_app, ez, List.all_append, h, decide_eq_true (show (1 : Int) ≤ ((u.length + 1 : Nat) : Int) by omega), decide_eq_true (show ((u.length + 1 : Nat) : Int) ≤ 8 by omega)]
  decide
theorem okL : okS (Str.ofString "abcdefghijklmnopqrstuvwxyz") := okS_of (by decide +kernel)
theorem lenL : (Str.ofString "abcdefghijklmnopqrstuvwxyz").cps.toList.length = 26 := by decide +kernel
theorem sum_ones : ∀ ss : List Str, (∀ s ∈ ss, s.length = 1) → (ss.map (·.length)).sum = ss.length
  | [], _ => rfl
  | s :: r, h => by
    rw [List.map_cons, List.sum_cons, h s List.mem_cons_self, sum_ones r fun t ht => h t (List.mem_cons_of_mem _ ht), List.length_cons]
    omega
theorem sIx_nat (n d a : Nat) : HT.sIx n d (some (a : Int)) = min a n := by
  unfold HT.sIx
  simp
  try omega
theorem cut_to {α : Type} (xs : List α) (b : Nat) : (cutD xs none (some (b : Int))).length = min b xs.length := by
  unfold cutD
  rw [sIx_nat]
  have e : HT.sIx xs.length 0 none = 0 := rfl
  rw [e, List.length_take, List.length_drop]
  omega
theorem cut_from' {α : Type} (xs : List α) (a : Nat) : (cutD xs (some (a : Int)) none).length = xs.length - a := by
  unfold cutD
  rw [sIx_nat]
  have e : HT.sIx xs.length xs.length none = xs.length := rfl
  rw [e, List.length_take, List.length_drop]
  omega
theorem cut_mid {α : Type} (xs : List α) (a b : Nat) : (cutD xs (some (a : Int)) (some (b : Int))).length = min b xs.length - min a xs.length := by
  unfold cutD
  rw [sIx_nat, sIx_nat, List.length_take, List.length_drop]
  omega
section
variable {K : PySem.W.Frag} {F : Fr} {ρ : Sls} {P : Sls → D → Prop}
end
theorem cutS_sum (w : Str) (k : Nat) : (cutS w none (some (k : Int))).length + (cutS w (some (k : Int)) none).length ≤ w.length := by
  have e0 : HT.sIx w.length 0 none = 0 := rfl
  have e1 : HT.sIx w.length w.length none = w.length := rfl
  have lw := len_cps w
  have h1 : (cutS w none (some (k : Int))).length = ((w.cps.toList.drop (HT.sIx w.length 0 none)).take (HT.sIx w.length w.length (some (k : Int)) - HT.sIx w.length 0 none)).toArray.size := rfl
  have h2 : (cutS w (some (k : Int)) none).length = ((w.cps.toList.drop (HT.sIx w.length 0 (some (k : Int)))).take (HT.sIx w.length w.length none - HT.sIx w.length 0 (some (k : Int)))).toArray.size := rfl
  rw [h1, h2, sIx_nat, sIx_nat, e0, e1, List.size_toArray, List.size_toArray, List.length_take, List.length_take, List.length_drop, List.length_drop]
  omega
theorem rdT_got {ws : List Str} {t : Tm} {j : Nat} (h : rdT ws = .got t j) : t.lv ≤ 5 ∧ t.ok := by
  unfold rdT at h
  cases q : pT ws 5 0 with
  | bad k => rw [q] at h; cases h
  | got u k =>
    rw [q] at h
    have h2 : (if k < ws.length then PR.bad k else PR.got u k) = .got t j := h
    split at h2
    · cases h2
    · cases h2
      have := pT_got (by decide) q
      exact ⟨this.1, this.2.2⟩
theorem sum_le {n : Nat} : ∀ l : List Str, (∀ s ∈ l, s.length ≤ n) → (l.map (·.length)).sum ≤ n * l.length
  | [], _ => Nat.le_refl _
  | s :: l, h => by
    have h1 := sum_le l fun t ht => h t (.tail _ ht)
    have h2 := h s (.head _)
    rw [List.map_cons, List.sum_cons, List.length_cons, Nat.mul_succ]
    omega
theorem op_nosp : ∀ op ∈ opsL, 32 ∉ op.cps.toList := by decide +kernel
theorem br_sh : ∀ w ∈ (["(", ")", "!", "?", ":"] : List Str), w.length ≤ 12 ∧ 32 ∉ w.cps.toList ∧ okS w := by
  intro w hw
  simp only [List.mem_cons, List.not_mem_nil, or_false] at hw
  rcases hw with rfl | rfl | rfl | rfl | rfl <;> exact ⟨by decide +kernel, by decide +kernel, okS_of (by decide +kernel)⟩
def Tok (w : Str) : Prop := w.length ≤ 12 ∧ 32 ∉ w.cps.toList ∧ okS w
theorem tok_br {w : Str} (h : w ∈ (["(", ")", "!", "?", ":"] : List Str)) : Tok w := br_sh w h
theorem tok_op {op : Str} (h : op ∈ opsL) : Tok op := ⟨by have := (op_small op h).1; omega, op_nosp op h, (op_small op h).2⟩
theorem vtx_nosp {v : D} (h : vok v) : 32 ∉ (vtx v).cps.toList := by
  cases v with
  | bl b => cases b <;> decide +kernel
  | int i =>
    have e : (vtx (.int i)).cps.toList = if i < 0 then 45 :: dgN i.natAbs else dgN i.natAbs := txt_cps i
    rw [e]
    intro z
    have hd : 32 ∈ dgN i.natAbs := by
      split at z
      · rcases List.mem_cons.mp z with q | q
        · omega
        · exact q
      · exact z
    have := dg1_of (dgN_facts i.natAbs).1 hd
    omega
  | _ => exact absurd h (fun z => z)
theorem toks_tok : ∀ t : Tm, t.good → ∀ w ∈ toks t, Tok w
  | .nm s, h, w, hw => by
    have e : w = s := by simpa [toks] using hw
    subst e
    obtain ⟨⟨h1, h2⟩, h3, h4⟩ := nameS_facts h
    have hl : ∀ c ∈ w.cps.toList, 97 ≤ c ∧ c ≤ 122 := fun c hc => letter_bd (List.all_eq_true.mp h4 c hc)
    exact ⟨by omega, fun z => by have := hl _ z; omega, fun c hc => by have := hl c hc; omega⟩
  | .vl v, h, w, hw => by
    have e : w = vtx v := by simpa [toks] using hw
    subst e
    obtain ⟨_, h2, h3⟩ := vtx_rd h
    exact ⟨by omega, vtx_nosp h, h3⟩
  | .nt a, h, w, hw => by
    have ia := toks_tok a h w
    simp only [toks, List.mem_cons, List.mem_append, List.not_mem_nil, or_false] at hw
    rcases hw with rfl | rfl | hw | rfl
    · exact tok_br (by simp)
    · exact tok_br (by simp)
    · exact ia hw
    · exact tok_br (by simp)
  | .tw op a b, h, w, hw => by
    have ia := toks_tok a h.2.1 w
    have ib := toks_tok b h.2.2 w
    simp only [toks, List.mem_cons, List.mem_append, List.not_mem_nil, or_false] at hw
    rcases hw with rfl | hw | rfl | hw | rfl
    · exact tok_br (by simp)
    · exact ia hw
    · exact tok_op h.1
    · exact ib hw
    · exact tok_br (by simp)
  | .pk a b e, h, w, hw => by
    have ia := toks_tok a h.1 w
    have ib := toks_tok b h.2.1 w
    have ie := toks_tok e h.2.2 w
    simp only [toks, List.mem_cons, List.mem_append, List.not_mem_nil, or_false] at hw
    rcases hw with rfl | hw | rfl | hw | rfl | hw | rfl
    · exact tok_br (by simp)
    · exact ia hw
    · exact tok_br (by simp)
    · exact ib hw
    · exact tok_br (by simp)
    · exact ie hw
    · exact tok_br (by simp)
theorem sp_eq : (Str.ofString " " : Str) = ⟨#[32]⟩ := by decide +kernel
theorem split_tx {t : Tm} (h : t.good) : Txt.split (tx t) " " = toks t := by
  unfold tx
  rw [sp_eq]
  exact split_join (toks_ne t) fun w hw => (toks_tok t h w hw).2.1
theorem join_flat {c : Nat} : ∀ {us : List Str}, us ≠ [] → Str.join ⟨#[c]⟩ ((us.map fun u => Txt.split u ⟨#[c]⟩).flatten) = Str.join ⟨#[c]⟩ us
  | [], h => absurd rfl h
  | [u], _ => by
    show Str.join _ (Txt.split u ⟨#[c]⟩ ++ []) = u
    rw [List.append_nil, PySem.StrLaws.join_split]
  | u :: v :: r, _ => by
    have ih := join_flat (c := c) (us := v :: r) (by simp)
    have hne : (((v :: r).map fun u => Txt.split u ⟨#[c]⟩).flatten) ≠ [] := by
      rw [List.map_cons, List.flatten_cons]
      intro z
      exact split_ne _ _ (List.append_eq_nil_iff.mp z).1
    show Str.join _ (Txt.split u ⟨#[c]⟩ ++ ((v :: r).map fun u => Txt.split u ⟨#[c]⟩).flatten) = u ++ ⟨#[c]⟩ ++ Str.join _ (v :: r)
    rw [join_app _ (split_ne _ _) hne, ih, PySem.StrLaws.join_split]
theorem split_flat {c : Nat} {us : List Str} (h : us ≠ []) : Txt.split (Txt.join ⟨#[c]⟩ us) ⟨#[c]⟩ = (us.map fun u => Txt.split u ⟨#[c]⟩).flatten := by
  have e : Txt.join ⟨#[c]⟩ us = Str.join ⟨#[c]⟩ us := PySem.StrLaws.glued_eq_join _ _
  rw [e]
  refine join_inj (c := c) (split_ne _ _) ?_ (fun p hp => PySem.StrLaws.split_free _ _ p hp) (fun p hp => ?_) ?_
  · obtain ⟨u, r, rfl⟩ := List.exists_cons_of_ne_nil h
    rw [List.map_cons, List.flatten_cons]
    intro z
    exact split_ne _ _ (List.append_eq_nil_iff.mp z).1
  · obtain ⟨l, hl, hp⟩ := List.mem_flatten.mp hp
    obtain ⟨u, _, rfl⟩ := List.mem_map.mp hl
    exact PySem.StrLaws.split_free _ _ p hp
  · rw [PySem.StrLaws.join_split, join_flat h]
theorem bent_ok {us : List Str} (h0 : 0 < us.length) (h1 : us.length ≤ 2047) (hS : Sh 14 us) : (Txt.join " " us).length ≤ 90000 ∧ okS (Txt.join " " us) ∧ WsOk (Txt.split (Txt.join " " us) " ") := by
  have hj := join_len " " us
  have hs := sum_le (n := 14) us fun s h => (hS s h).1
  have l1 : (Str.ofString " ").length = 1 := by decide +kernel
  have okj : okS (Txt.join " " us) := okS_joinT (okS_of (by decide +kernel)) fun s h => (hS s h).2
  rw [l1] at hj
  have hn : us ≠ [] := by intro z; rw [z] at h0; simp at h0
  refine ⟨by omega, okj, ?_, fun w hw => ⟨?_, split_ok okj w hw⟩⟩
  · have := (split_bd (Txt.join " " us) " " (by decide +kernel)).1
    omega
  · rw [sp_eq, split_flat hn] at hw
    obtain ⟨l, hl, hp⟩ := List.mem_flatten.mp hw
    obtain ⟨u, hu, rfl⟩ := List.mem_map.mp hl
    have a1 := (split_bd u ⟨#[32]⟩ (by decide)).2 w hp
    have a2 := (hS u hu).1
    omega
theorem tx_ok {t : Tm} (h : t.good) (hl : t.lv ≤ 5) : (tx t).length ≤ 90000 ∧ okS (tx t) ∧ WsOk (toks t) := by
  have hN := toks_small hl
  have hS : Sh 14 (toks t) := fun w hw => ⟨by have := (toks_tok t h w hw).1; omega, (toks_tok t h w hw).2.2⟩
  have h0 : 0 < (toks t).length := by
    cases q : toks t with
    | nil => exact absurd q (toks_ne t)
    | cons a r => simp
  obtain ⟨a1, a2, a3⟩ := bent_ok h0 (by omega) hS
  have e := split_tx h
  unfold tx at e
  rw [e] at a3
  exact ⟨a1, a2, a3⟩
def bad? : PR → Option Nat
  | .bad k => some k
  | .got _ _ => none
theorem bad_of {p : PR} {k : Nat} (h : bad? p = some k) : p = .bad k := by
  cases p with
  | bad j => cases h; rfl
  | got t j => cases h
theorem lit_ok (s : Str) (h : ((Txt.split s " ").all fun w => decide (w.length ≤ 1000) && (w.cps.toList.all fun c => decide (c < 0x110000))) = true) (hl : (Txt.split s " ").length ≤ 31000) : WsOk (Txt.split s " ") := by
  refine ⟨hl, fun w hw => ?_⟩
  have := List.all_eq_true.mp h w hw
  rw [Bool.and_eq_true] at this
  exact ⟨of_decide_eq_true this.1, okS_of this.2⟩
theorem join_back {ws : List Str} {x : Str} (h : ws = Txt.split x " ") : Txt.join " " ws = x := by
  rw [h, sp_eq]
  exact join_split' x 32
/-! the text of what is told with its words -/
theorem eq_nt (k j : Int) : PyData.eqv (.tuple [.str "no text", .int k]) (.tuple [.str "no text", .int j]) = (k == j) := by simp [PyData.eqv, PyData.eqvAll]
/-- things that are no texts of terms from their first word -/
theorem no__term_at {c : TC} {e : E24} {K : PySem.W.Frag} {vs : List V} {H : Hp} {Q : VK} {E : XK} : ¬ sp0 K (W__term_at c e 0) vs H Q E := sp0_no fun _ _ _ ⟨_, _, r, _, _, _, h1, h2, _⟩ => by omega
abbrev W__made_of (c : TC) (n : Nat) : W0 := W_made_of_terms c n
theorem no__made_of {c : TC} {K : PySem.W.Frag} {vs : List V} {H : Hp} {Q : VK} {E : XK} : ¬ sp0 K (W__made_of c 0) vs H Q E := no_made_of_terms
abbrev plL : List Str := ["a", "b", "c", "zz"]
abbrev W__law_value (c : TC) : W1 := fun ds es Φ _ => es = [] ∧ Box ds ∧ ∀ (ds' : List D) (v : D), Box ds' → vok v → Φ ds' (.fz v)
abbrev W__law_told (c : TC) (n : Nat) : W1 := fun ds es Φ _ => ∃ (l : Nat) (nl : List Str), es = [.int l, .lst (nl.map .str)] ∧ Box ds ∧ 1 ≤ l ∧ l ≤ n ∧ 0 < nl.length ∧ nl.length ≤ 1000 ∧ (∀ s ∈ nl, gdN s) ∧
  ∀ (ds' : List D) (t : Tm), Box ds' → t.ok → t.lv ≤ l → (∀ s ∈ tn t, s ∈ nl) → Φ ds' (.fz t.told)
abbrev W__law_made (c : TC) (n : Nat) : W0 := W_made_of_terms c n
abbrev W__law_sum : W0 := fun ds Φ _ => ∃ o x y, ds = [.str (Op.s o), Va.d x, Va.d y] ∧ x.ok ∧ y.ok ∧ Φ (.fz (rk o x y).d)
abbrev W__law_due (n : Nat) : W0 := fun ds Φ _ => ∃ (t : Tm) (bk : KV), ds = [t.told, .dkv (kvs bk)] ∧ t.lv ≤ n ∧ t.ok ∧ BkOk bk ∧ InB bk (tn t) ∧ Φ (.fz (t.rkn bk).d)
abbrev W__law_all (c : TC) : W0 := fun ds Φ _ => ∃ t : Tm, ds = [t.told] ∧ t.ok ∧ t.lv ≤ 5 ∧ (∀ s ∈ tn t, s ∈ plL) ∧ Φ (.fz (.lst [t.d c, t.d c, t.d c, t.d c]))
abbrev W__law_joined : W1 := fun ds es Φ _ => ∃ t : Tm, es = [t.told] ∧ Box ds ∧ t.ok ∧ ∀ (ds' : List D) (a b : Tm), Box ds' → (∀ u ∈ [a, b], u.ok ∧ u.lv = 1 + t.lv ∧ tn u = tn t) → Φ ds' (.fz (.lst [a.told, b.told]))
abbrev W_law : W0 := WLaw
theorem no__law_made {c : TC} {K : PySem.W.Frag} {vs : List V} {H : Hp} {Q : VK} {E : XK} : ¬ sp0 K (W__law_made c 0) vs H Q E := no_made_of_terms
theorem no__law_told {c : TC} {K : PySem.W.Frag} {vs : List V} {H : Hp} {Q : VK} {E : XK} : ¬ sp1 K (W__law_told c 0) vs H Q E := sp1_no fun _ _ _ _ ⟨l, _, _, _, h, h', _⟩ => by omega
theorem no__law_due {K : PySem.W.Frag} {vs : List V} {H : Hp} {Q : VK} {E : XK} : ¬ sp0 K (W__law_due 0) vs H Q E := sp0_no fun _ _ _ ⟨t, _, _, h, _⟩ => absurd t.lv_pos (by omega)
theorem ways_great {v : Int} {A B : Prop} (h1 : ¬ Bd v → A) (h2 : Bd v → B) : Ways (decide ((10 : Int) ^ Int.toNat 9 < if v < 0 then -v else v)) A B := by
  have e : (10 : Int) ^ Int.toNat 9 = 1000000000 := by decide
  rw [e]
  refine ways_dec (fun h => h1 fun ⟨a, b⟩ => ?_) (fun h => h2 ⟨?_, ?_⟩)
  all_goals (split at h <;> omega)
theorem quot_eq {a b : Int} (hb : b ≠ 0) : (a - a.fmod b).fdiv b = a.fdiv b := by
  have e : b * a.fdiv b + a.fmod b = a := Int.mul_fdiv_add_fmod a b
  have e2 : a - a.fmod b = b * a.fdiv b := by omega
  rw [e2]
  exact Int.mul_fdiv_cancel_left _ hb
theorem rest_eq {a b : Int} : a - b * a.fdiv b = a.fmod b := by
  have e : b * a.fdiv b + a.fmod b = a := Int.mul_fdiv_add_fmod a b
  omega
abbrev thereL : KV := [("a", .str "b.a"), ("b", .str "c"), ("c", .str "a"), ("zz", .str "zz")]
abbrev hereL : KV := [("b.a", .str "a"), ("c", .str "b"), ("a", .str "c"), ("zz", .str "zz")]
theorem there_kvs : mergeD [] (([("a", "b.a"), ("b", "c"), ("c", "a"), ("zz", "zz")] : List (Str × Str)).map fun p => ((.inr p.1 : Key), D.str p.2)) = kvs thereL := merge_kvs (l := thereL) (by decide +kernel)
theorem here_kvs : mergeD [] (([("b.a", "a"), ("c", "b"), ("a", "c"), ("zz", "zz")] : List (Str × Str)).map fun p => ((.inr p.1 : Key), D.str p.2)) = kvs hereL := merge_kvs (l := hereL) (by decide +kernel)
theorem Tm.back {l l2 : KV} : ∀ {t u : Tm}, (∀ s ∈ tn t, ∀ z, namF l s = .ok z → namF l2 z = .ok s) → t.ren l = .ok u → u.ren l2 = .ok t
  | .nm s, u, h, e => by
    unfold ren at e
    cases q : namF l s with
    | error d => rw [q] at e; cases e
    | ok z =>
      rw [q] at e
      cases e
      unfold ren
      rw [h s (List.mem_singleton.mpr rfl) z q]
  | .vl v, u, h, e => by cases e; rfl
  | .tw op a b, u, h, e => by
    unfold ren at e
    cases q : a.ren l with
    | error d => rw [q] at e; cases e
    | ok x =>
      rw [q] at e
      cases q2 : b.ren l with
      | error d => rw [q2] at e; cases e
      | ok y =>
        rw [q2] at e
        cases e
        unfold ren
        rw [back (fun s hs => h s (List.mem_append.mpr (.inl hs))) q, back (fun s hs => h s (List.mem_append.mpr (.inr hs))) q2]
  | .nt a, u, h, e => by
    unfold ren at e
    cases q : a.ren l with
    | error d => rw [q] at e; cases e
    | ok x =>
      rw [q] at e
      cases e
      unfold ren
      rw [back (t := a) h q]
  | .pk a b c, u, h, e => by
    unfold ren at e
    cases q : a.ren l with
    | error d => rw [q] at e; cases e
    | ok x =>
      rw [q] at e
      cases q2 : b.ren l with
      | error d => rw [q2] at e; cases e
      | ok y =>
        rw [q2] at e
        cases q3 : c.ren l with
        | error d => rw [q3] at e; cases e
        | ok z =>
          rw [q3] at e
          cases e
          unfold ren
          rw [back (fun s hs => h s (List.mem_append.mpr (.inl (List.mem_append.mpr (.inl hs))))) q, back (fun s hs => h s (List.mem_append.mpr (.inl (List.mem_append.mpr (.inr hs))))) q2, back (fun s hs => h s (List.mem_append.mpr (.inr hs))) q3]
theorem first_none {l : KV} : ∀ {ss : List Str}, (∀ s ∈ ss, ∃ t, namF l s = .ok t) → firstF l ss = none
  | [], _ => rfl
  | s :: r, h => by
    obtain ⟨t, q⟩ := h s (.head _)
    rw [first_cons, first_none fun u hu => h u (.tail _ hu)]
    unfold badF
    rw [q]
    rfl
theorem pl_good : ∀ {t : Tm}, t.ok → (∀ s ∈ tn t, s ∈ plL) → t.good
  | .nm s, _, h => by
    have e : (plL.all nameS) = true := by decide +kernel
    exact List.all_eq_true.mp e s (h s (.head _))
  | .vl _, hok, _ => hok
  | .tw _ a b, hok, h => ⟨hok.1, pl_good hok.2.1 fun s hs => h s (List.mem_append_left _ hs), pl_good hok.2.2 fun s hs => h s (List.mem_append_right _ hs)⟩
  | .nt a, hok, h => pl_good (t := a) hok h
  | .pk a b e, hok, h => ⟨pl_good hok.1 fun s hs => h s (List.mem_append_left _ (List.mem_append_left _ hs)), pl_good hok.2.1 fun s hs => h s (List.mem_append_left _ (List.mem_append_right _ hs)), pl_good hok.2.2 fun s hs => h s (List.mem_append_right _ hs)⟩
theorem gd_by {s : Str} (h : (decide (s.length ≤ 100) && ((s.cps.toList.all fun c => decide (c < 0x110000)) && isPt (.str s))) = true) : gdN s := by
  rw [Bool.and_eq_true, Bool.and_eq_true] at h
  exact ⟨of_decide_eq_true h.1, okS_of h.2.1, h.2.2⟩
theorem pl_there : ∀ s ∈ plL, ∃ z, namF thereL s = .ok z ∧ namF hereL z = .ok s := by
  intro s h
  simp only [List.mem_cons, List.not_mem_nil, or_false] at h
  rcases h with rfl | rfl | rfl | rfl
  · exact ⟨"b.a", namF_str (by rfl) (gd_by (by decide +kernel)), namF_str (by rfl) (gd_by (by decide +kernel))⟩
  · exact ⟨"c", namF_str (by rfl) (gd_by (by decide +kernel)), namF_str (by rfl) (gd_by (by decide +kernel))⟩
  · exact ⟨"a", namF_str (by rfl) (gd_by (by decide +kernel)), namF_str (by rfl) (gd_by (by decide +kernel))⟩
  · exact ⟨"zz", namF_str (by rfl) (gd_by (by decide +kernel)), namF_str (by rfl) (gd_by (by decide +kernel))⟩
theorem there_ok : KvOk thereL ∧ KvOk hereL := by
  constructor <;> (intro p hp; simp only [List.mem_cons, List.not_mem_nil, or_false] at hp; rcases hp with rfl | rfl | rfl | rfl <;> exact Gd.str (by decide +kernel) (okS_of (by decide +kernel)))
theorem pl_ren {t : Tm} (h : ∀ s ∈ tn t, s ∈ plL) : ∃ u, t.ren thereL = .ok u ∧ u.ren hereL = .ok t := by
  obtain ⟨u, hu⟩ := res_ok ((t.res thereL).trans (first_none fun s hs => let ⟨z, q, _⟩ := pl_there s (h s hs); ⟨z, q⟩))
  refine ⟨u, hu, Tm.back (fun s hs z hz => ?_) hu⟩
  obtain ⟨y, q1, q2⟩ := pl_there s (h s hs)
  rw [q1] at hz
  cases hz
  exact q2
def OkP (u : Tm) : Prop := u.ok ∧ u.lv ≤ 5 ∧ ∀ s ∈ tn u, s ∈ plL
abbrev prL (c : TC) (us : List Tm) : List D := us.map fun u => .tup [u.d c, u.told]
theorem okP_more {t a b : Tm} (hok : t.ok) (hl : t.lv ≤ 4) (hin : ∀ s ∈ tn t, s ∈ plL) (hab : ∀ u ∈ [a, b], u.ok ∧ u.lv = 1 + t.lv ∧ tn u = tn t) : ∀ u ∈ [a, b, .pk (.nm "a") t (.nm "b"), .nt t], OkP u := by
  have hp := t.lv_pos
  intro u hu
  have hab2 : ∀ u, (u.ok ∧ u.lv = 1 + t.lv ∧ tn u = tn t) → OkP u := fun u ⟨h1, h2, h3⟩ => ⟨h1, by omega, by rw [h3]; exact hin⟩
  rcases List.mem_cons.mp hu with rfl | hu
  · exact hab2 _ (hab _ (.head _))
  rcases List.mem_cons.mp hu with rfl | hu
  · exact hab2 _ (hab _ (.tail _ (.head _)))
  rcases List.mem_cons.mp hu with rfl | hu
  · refine ⟨⟨gd_by (by decide +kernel), hok, gd_by (by decide +kernel)⟩, by show 1 + max (max 1 t.lv) 1 ≤ 5; omega, fun s hs => ?_⟩
    rcases List.mem_append.mp hs with hs | hs
    · rcases List.mem_append.mp hs with hs | hs
      · rw [List.mem_singleton.mp hs]; decide +kernel
      · exact hin s hs
    · rw [List.mem_singleton.mp hs]; decide +kernel
  · rw [List.mem_singleton.mp hu]
    exact ⟨hok, by show 1 + t.lv ≤ 5; omega, hin⟩
end K26
namespace K26
open PySem L2 DL
open Evl (Ex)
local macro_rules | `(tactic| walk_at "nm") => `(tactic| dsimp only [st0, st1, List.map, List.length_cons, List.length_nil, List.replicate, List.set_cons_zero, List.set_cons_succ, List.cons_append, List.nil_append, wipeU, wipeS, unloc, restS, rest1, List.contains, List.elem, Nat.reduceBEq, Nat.reduceAdd, Nat.reduceSub, Nat.zero_add, cond_true, cond_false])
local macro_rules | `(tactic| walk_at "sd") => `(tactic| first
  | (show (0 : Int) < _; omega)
  | (show _ ∨ _; first | (left; constructor <;> omega) | (right; constructor <;> omega))
  | (show _ ∧ _; constructor <;> omega)
  | (show _ ∧ _ ∧ _; exact ⟨by decide, by decide, by decide⟩))
local macro_rules | `(tactic| walk_at "eC") => `(tactic| first
  | with_reducible refine wE_int ?_
  | with_reducible refine wE_bl ?_
  | with_reducible refine wE_str ?_
  | with_reducible refine wE_non ?_
  | with_reducible refine wE_ty ?_
  | ((with_reducible refine wE_con (d := ?_) ?_ ?_); rotate_left; (· assumption)))
local macro_rules | `(tactic| walk_at "eO") => `(tactic| first
  | ((with_reducible refine wE_xOc (l := ?_) (ds := ?_) (d := ?_) ?_ ?_ ?_); rotate_left 3; (· rfl); (· rfl))
  | ((with_reducible refine wE_neO (l := ?_) (ds := ?_) (ps := ?_) ?_ ?_ ?_ ?_); rotate_left 3; (· rfl); (· rfl); (· kernel_rfl))
  | with_reducible refine wE_op ?_)
local macro_rules | `(tactic| walk_at "eB") => `(tactic| first
  | ((with_reducible refine wE_isLO (l := ?_) (ds := ?_) ?_ ?_); rotate_left 2; (· rfl))
  | with_reducible refine wE_cb (wA_cons ?_))
local macro_rules | `(tactic| walk_at "eL") => `(tactic| first
  | with_reducible refine wE_call eok0 (wA_cons ?_)
  | with_reducible refine wE_call eok0 (wA_nil ?_))
local macro_rules | `(tactic| walk_at "gE") => `(tactic| first
  | ((with_reducible show wE _ _ (tC _) _ _); walk_at "eC")
  | ((with_reducible refine wE_var (d := ?_) ?_ ?_); rotate_left; (· rfl))
  | ((with_reducible show wE _ _ (tOp _ _ _) _ _); walk_at "eO")
  | ((with_reducible show wE _ _ (tCB _ _) _ _); walk_at "eB")
  | ((with_reducible show wE _ _ (tCall _ _ _ _) _ _); walk_at "eL")
  | with_reducible refine wE_tup (wA_cons ?_)
  | with_reducible refine wE_ofO (wO_lst ?_)
  | with_reducible refine wE_andV ?_
  | with_reducible refine wE_orV ?_
  | with_reducible refine wE_notV ?_
  | with_reducible refine wE_chain ?_
  | with_reducible refine wE_if ?_
  | with_reducible refine wE_un ?_
  | with_reducible refine wE_dnew ?_
  | with_reducible refine wE_disp1 ?_
  | ((with_reducible refine wE_ofO (wO_lcL (tgt_tup2 ?_ ?_) ?_)); (· decide); (· decide))
  | ((with_reducible refine wE_ofO (wO_lcL (tgt_name ?_) ?_)); (· decide))
  | with_reducible refine wE_countF ?_
  | with_reducible refine wE_join ?_
  | with_reducible refine wE_upper ?_
  | with_reducible refine wE_slS ?_
  | with_reducible refine wE_ofO (wO_split ?_))
local macro_rules | `(tactic| walk_at "rE") => `(tactic| first
  | ((with_reducible refine wR_eqS ?_ ?_ ?_); (· assumption); (· first | assumption | exact okS_of (by decide +kernel)))
  | ((with_reducible refine wR_eqD (a := ?_) (b := ?_) ?_ ?_ ?_ ?_ ?_); rotate_left 2; (· rfl); (· rfl); (· kernel_rfl); (· kernel_rfl)))
local macro_rules | `(tactic| walk_at "rN") => `(tactic| first
  | ((with_reducible refine wR_neS ?_ ?_ ?_); (· assumption); (· first | assumption | exact okS_of (by decide +kernel)))
  | ((with_reducible refine wR_neD (a := ?_) (b := ?_) ?_ ?_ ?_ ?_ ?_); rotate_left 2; (· rfl); (· rfl); (· kernel_rfl); (· kernel_rfl)))
local macro_rules | `(tactic| walk_at "rI") => `(tactic| first
  | ((with_reducible refine wR_inT ?_ ?_ ?_); (· rfl); (· rfl))
  | ((with_reducible refine wR_niT ?_ ?_ ?_); (· rfl); (· rfl))
  | ((with_reducible refine wR_inL ?_ ?_ ?_); (· rfl); (· rfl))
  | ((with_reducible refine wR_niL ?_ ?_ ?_); (· rfl); (· rfl)))
local macro_rules | `(tactic| walk_at "rX") => `(tactic| first
  | ((with_reducible refine wR_xL (d := ?_) ?_ ?_); rotate_left; (· rfl))
  | ((with_reducible refine wR_xT (d := ?_) ?_ ?_); rotate_left; (· rfl)))
local macro_rules | `(tactic| walk_at "rP") => `(tactic| first
  | ((with_reducible refine wRO_E (wRO_plusL ?_ ?_)); (· exact Nat.le_of_ble_eq_true rfl))
  | with_reducible refine wR_plusI ?_)
local macro_rules | `(tactic| walk_at "gR") => `(tactic| first
  | ((with_reducible show wR _ _ (rEqD _) _ _ _ _); walk_at "rE")
  | ((with_reducible show wR _ _ (rNeD _) _ _ _ _); walk_at "rN")
  | ((with_reducible show wR _ _ (rIn _ _) _ _ _ _); walk_at "rI")
  | ((with_reducible show wR _ _ (rIx _) _ _ _ _); walk_at "rX")
  | ((with_reducible show wR _ _ rPlus _ _ _ _); walk_at "rP")
  | with_reducible refine wR_subI ?_
  | with_reducible refine wR_subB ?_
  | with_reducible refine wR_I0 ?_
  | with_reducible refine wR_B0 ?_
  | with_reducible refine wR_inSg ?_
  | ((with_reducible refine wR_inD (a := ?_) (es := ?_) ?_ ?_ ?_ ?_ ?_); rotate_left 2; (· rfl); (· rfl); (· kernel_rfl); (· kernel_rfl))
  | with_reducible refine wR_niSg ?_
  | with_reducible refine wR_leS ?_
  | ((with_reducible refine wR_isTF ?_ ?_); (· rfl))
  | ((with_reducible refine wR_notTF ?_ ?_); (· rfl))
  | with_reducible refine wR_isN ?_
  | with_reducible refine wR_notN ?_
  | ((with_reducible refine wR_I ?_ ?_); (· walk_at "sd")))
local macro_rules | `(tactic| walk_at "cI") => `(tactic| first
  | ((with_reducible refine wC_isInt ?_ ?_); (· rfl))
  | ((with_reducible refine wC_isBool ?_ ?_); (· rfl))
  | ((with_reducible refine wC_isStr ?_ ?_); (· rfl))
  | ((with_reducible refine wC_isList ?_ ?_); (· rfl))
  | ((with_reducible refine wC_isTuple ?_ ?_); (· rfl))
  | ((with_reducible refine wC_isDict ?_ ?_); (· rfl)))
local macro_rules | `(tactic| walk_at "gC") => `(tactic| first
  | ((with_reducible show wC _ _ (rIsi _) _ _ _); walk_at "cI")
  | with_reducible refine wC_neg ?_
  | with_reducible refine wC_max2 ?_
  | with_reducible refine wC_min2 ?_
  | with_reducible refine wC_abs ?_
  | with_reducible refine wC_intB ?_
  | with_reducible refine wC_intI ?_
  | ((with_reducible refine wC_len (n := ?_) ?_ ?_); rotate_left; (· rfl)))
local macro_rules | `(tactic| walk_at "gS") => `(tactic| first
  | ((with_reducible refine wS_seq ?_); (try walk_at "nm"))
  | with_reducible refine wS_set ?_
  | with_reducible refine wS_ret ?_
  | with_reducible refine wS_next ?_
  | with_reducible refine wS_if ?_
  | ((with_reducible refine wS_set0 ?_))
  | ((with_reducible refine wS_set1 ?_))
  | ((with_reducible refine wS_set2 ?_))
  | with_reducible refine wS_asg ?_
  | with_reducible refine wS_forL ?_
  | with_reducible refine wS_forR1 ?_)
local macro_rules | `(tactic| walk_at "gT") => `(tactic| first
  | with_reducible refine wT_test ?_
  | with_reducible refine wT_B ?_
  | with_reducible refine wT_not ?_
  | with_reducible refine wT_and ?_
  | with_reducible refine wT_or ?_
  | with_reducible refine wT_yes ?_)
local macro_rules | `(tactic| walk_at "gW") => `(tactic| first
  | with_reducible refine ways_t ?_
  | with_reducible refine ways_f ?_
  | ((with_reducible refine ways_ev_t ?_ ?_); (· decide +kernel))
  | ((with_reducible refine ways_ev_f ?_ ?_); (· decide +kernel))
  | ((with_reducible refine ways_ev_t ?_ ?_); (· rfl))
  | ((with_reducible refine ways_ev_f ?_ ?_); (· rfl)))
local macro_rules | `(tactic| walk_at "gA") => `(tactic| first
  | with_reducible refine wA_cons ?_
  | with_reducible refine wA_nil ?_)
local macro_rules | `(tactic| walk_at "gG") => `(tactic| first
  | with_reducible refine wG_name ?_
  | with_reducible refine wG_tup2 ?_)
local macro_rules | `(tactic| walk_at "gL") => `(tactic| first
  | ((with_reducible refine compL_nil ?_); (try walk_at "nm"))
  | ((with_reducible refine compL_cons (fun _ => ?_)); (try walk_at "nm")))
local macro_rules | `(tactic| walk_at "gF") => `(tactic| first
  | ((with_reducible refine forS_nil ?_); (try walk_at "nm"))
  | ((with_reducible refine forS_cons ?_); (try walk_at "nm")))
local macro_rules | `(tactic| walk_at "w1") => `(tactic| first
  | ((with_reducible show wE _ _ _ _ _); walk_at "gE")
  | ((with_reducible show wR _ _ _ _ _ _ _); walk_at "gR")
  | ((with_reducible show wS _ _ _ _ _); walk_at "gS")
  | ((with_reducible show wA _ _ _ _ _); walk_at "gA")
  | ((with_reducible show wC _ _ _ _ _ _); walk_at "gC")
  | ((with_reducible show Ways _ _ _); walk_at "gW")
  | ((with_reducible show wT _ _ _ _ _); walk_at "gT")
  | ((with_reducible show wG _ _ _ _ _ _); walk_at "gG")
  | ((with_reducible show forS _ _ _ _ _ _ _); walk_at "gF")
  | ((with_reducible show compL _ _ _ _ _ _ _ _ _); walk_at "gL")
  | with_reducible refine rsp_fz ?_
  | with_reducible refine rsp_ow ?_
  | with_reducible refine onB_bl ?_
  | (refine And.intro (Nat.le_of_ble_eq_true rfl) ?_)
  | (refine ⟨_, _, rfl, Nat.lt_of_sub_eq_succ rfl, ?_⟩)
  | with_reducible refine rso_ow ?_
  | (refine ⟨_, rfl, Nat.le_of_ble_eq_true rfl, ?_⟩)
  | (refine ⟨_, rfl, (show wE _ _ _ _ _ from ?_)⟩)
  | (refine ⟨_, rfl, (show forS _ _ _ _ _ _ _ from ?_)⟩)
  | (refine And.intro (show flatD _ = true from rfl) (And.intro (show List.all _ flatD = true from rfl) ?_)))
local macro_rules | `(tactic| walk_at "w") => `(tactic| repeat walk_at "w1")
local macro_rules | `(tactic| walk_at "wm") => `(tactic| repeat first | ((with_reducible refine wR_modB ?_ ?_); (· omega); intro _ _ _) | walk_at "w1")
local macro_rules | `(tactic| walk_at "cE") => `(tactic| first
  | ((with_reducible refine wE_con (d := D.adr _) (fun _ => Rep.adr _) ?_))
  | ((with_reducible refine wE_fd (ns := _) (by assumption) rfl (by decide +kernel) rfl ?_))
  | with_reducible refine wE_make (wA_cons ?_)
  | walk_at "gE")
local macro_rules | `(tactic| walk_at "cR") => `(tactic| first
  | with_reducible refine wR_neStr ?_
  | walk_at "gR")
local macro_rules | `(tactic| walk_at "c1") => `(tactic| first
  | ((with_reducible show wE _ _ _ _ _); walk_at "cE")
  | ((with_reducible show wR _ _ _ _ _ _ _); walk_at "cR")
  | walk_at "w1")
local macro_rules | `(tactic| walk_at "c") => `(tactic| repeat walk_at "c1")

section
variable {P : Program} {w : World} {K : PySem.W.Frag} {mg : Str → Option Value} {base : Heap} {c : TC} {e : E24} {nn tb : Addr}
theorem ok_is_whole {f : Addr} {fd : FuncData} (F : L2.Fun K "is_whole" "is_whole" s_is_whole f fd) (T : Txt K mg c) (m_isinstance : mg "isinstance" = none) (m_bool : mg "bool" = none) (m_int : mg "int" = none) : FnOk P w K mg base L2.CX0 1 f fd ["thing"] (sp0 K W_is_whole) := by
  refine F.ok sc_is_whole (fun vs H Q E h => sp0_len (by rintro _ _ _ ⟨_, rfl, _⟩; rfl) h) (fun cdv A outer s H vs Q E hr h => ⟨_, (pss_one (ps_ret (pe_and (pe_callB call_isi (by rfl) m_isinstance PyProof.Rows.boot_isinstance (pa_cons (pv 0) (pa_cons (pe_bltn (v := .ty "int") (by rfl) m_int PyProof.Rows.boot_int rfl) pa_nil))) (pe_one (pe_not (pe_callB call_isi (by rfl) m_isinstance PyProof.Rows.boot_isinstance (pa_cons (pv 0) (pa_cons (pe_bltn (v := .ty "bool") (by rfl) m_bool PyProof.Rows.boot_bool rfl) pa_nil)))))))), body0 h ?_⟩)
  try dsimp only [cxOf]
  intro ds Φ X F hW hE
  obtain ⟨d, rfl, hd, hΦ⟩ := hW
  cases d <;> first | (cases hd; done) | (walk_at "w"; exact hΦ)

theorem ok_is_within {f : Addr} {fd : FuncData} (F : L2.Fun K "is_within" "is_within" s_is_within f fd) (T : Txt K mg c) (c_is_whole : Callee P w K mg base 1 "is_whole" (sp0 K W_is_whole)) : FnOk P w K mg base L2.CX0 2 f fd ["thing", "low", "high"] (sp0 K W_is_within) := by
  refine F.ok sc_is_within (fun vs H Q E h => sp0_len (by rintro _ _ _ ⟨_, _, _, rfl, _⟩; rfl) h) (fun cdv A outer s H vs Q E hr h => ⟨_, (pss_one (ps_ret (pe_and (DL.pe_cl c_is_whole hr (by omega) (by rfl) (pa_cons (pv 0) pa_nil)) (pe_one (pe_chain op_le op_le (pv 1) (pv 0) (pv 2)))))), body0 h ?_⟩)
  try dsimp only [cxOf]
  intro ds Φ X F hW hE
  obtain ⟨d, lo, hi, rfl, hd, hΦ⟩ := hW
  cases d <;> first | (cases hd; done) | (walk_at "w"; exact ⟨_, rfl, hd, by walk_at "w"; exact hΦ⟩) | skip
  rename_i n
  walk_at "w"
  refine ⟨_, rfl, hd, rsp_fz ?_⟩
  walk_at "w"
  have e : isWin (.int n) lo hi = (decide (lo ≤ n) && decide (n ≤ hi)) := rfl
  rw [e] at hΦ
  refine ways_dec (fun h => ?_) (fun h => ?_)
  · walk_at "w"
    rw [decide_eq_true h] at hΦ
    exact hΦ
  · walk_at "w"
    rw [decide_eq_false h] at hΦ
    exact hΦ

theorem ok_is_name {f : Addr} {fd : FuncData} (F : L2.Fun K "is_name" "is_name" s_is_name f fd) (T : Txt K mg c) (m_len : mg "len" = none) (m_isinstance : mg "isinstance" = none) (m_str : mg "str" = none) (m_all : mg "all" = none) (k__NAME_SIGNS : Kon K mg "_NAME_SIGNS" (.int 8)) (k__LETTERS : Kon K mg "_LETTERS" (.str "abcdefghijklmnopqrstuvwxyz")) (k__OWN_WORDS : Kon K mg "_OWN_WORDS" (.tup [(.str "node"), (.str "in"), (.str "out"), (.str "before"), (.str "when"), (.str "hold"), (.str "like"), (.str "same"), (.str "call"), (.str "true"), (.str "false"), (.str "mod"), (.str "beat"), (.str "desk")])) : FnOk P w K mg base L2.CX0 1 f fd ["thing"] (sp0 K W_is_name) := by
  obtain ⟨u__NAME_SIGNS, v__NAME_SIGNS, m__NAME_SIGNS, r__NAME_SIGNS, q__NAME_SIGNS⟩ := k__NAME_SIGNS.ex
  obtain ⟨u__LETTERS, v__LETTERS, m__LETTERS, r__LETTERS, q__LETTERS⟩ := k__LETTERS.ex
  obtain ⟨u__OWN_WORDS, v__OWN_WORDS, m__OWN_WORDS, r__OWN_WORDS, q__OWN_WORDS⟩ := k__OWN_WORDS.ex
  refine F.ok sc_is_name (fun vs H Q E h => sp0_len (by rintro _ _ _ ⟨_, rfl, _⟩; rfl) h) (fun cdv A outer s H vs Q E hr h => ⟨_, (pss_cons (ps_if (PW.pt (pw_or (pt_not (pt_val (pe_callB call_isi (by rfl) m_isinstance PyProof.Rows.boot_isinstance (pa_cons (pv 0) (pa_cons (pe_bltn (v := .ty "str") (by rfl) m_str PyProof.Rows.boot_str rfl) pa_nil))))) (pw_or1 (pt_not (pt_chain op_le op_le pe_int (pe_callB call_len (by rfl) m_len PySem.boot_len (pa_cons (pv 0) pa_nil)) (pe_glob (by rfl) m__NAME_SIGNS r__NAME_SIGNS)))))) (pss_one (ps_ret pe_bl)) pss_nil) (pss_one (ps_ret (pe_and (pe_cmpR op_notIn_seq (pv 0) (pe_glob (by rfl) m__OWN_WORDS r__OWN_WORDS) (by rfl)) (pe_one (pe_callB (cr_all rfl) (by rfl) m_all (by decide +kernel) (pa_cons (pe_lc (own := [("sign", 1)]) (g := (gName 1)) (tt := tYes) rfl sc_is_name.nd (pi_str (pv 0)) (blkOk_by (N := N_is_name) (sc := defScope s_is_name) (by decide +kernel)) (fun _ _ _ _ _ => (pg_name (i := 1) sc_is_name.nd rfl (Or.inl rfl))) (fun _ _ _ _ _ => pts_nil) (fun _ _ _ _ _ => (pe_cmpR op_in_sign (pv 1) (pe_glob (by rfl) m__LETTERS r__LETTERS) (by rfl)))) pa_nil))))))), body0 h ?_⟩)
  try dsimp only [cxOf]
  intro ds Φ X F hW hE
  obtain ⟨d, rfl, ⟨hd, hl⟩, hΦ⟩ := hW
  cases d <;> first | (cases hd; done) | (walk_at "w"; exact hΦ) | skip
  rename_i s
  obtain ⟨hs, hok⟩ := hl s rfl
  walk_at "w"
  refine wC_len (len_str hs) ?_
  walk_at "w"
  have hN : isNm (.str s) = nameS s := rfl
  unfold nameS at hN
  rw [hN] at hΦ
  refine ways_dec (fun h1 => ?_) (fun h1 => ?_)
  · walk_at "w"
    refine ways_not (ways_dec (fun h2 => ?_) (fun h2 => ?_))
    · rw [decide_eq_true h1, decide_eq_true h2] at hΦ
      walk_at "w"
      have hown : inD (.str s) [.str "node", .str "in", .str "out", .str "before", .str "when", .str "hold", .str "like", .str "same", .str "call", .str "true", .str "false", .str "mod", .str "beat", .str "desk"] = inOwn s := rfl
      rw [hown]
      cases ho : inOwn s with
      | true =>
        rw [ho] at hΦ
        walk_at "w"
        exact hΦ
      | false =>
        rw [ho] at hΦ
        walk_at "w"
        refine wE_ofO (wO_lcS (tgt_name (by decide)) ?_)
        walk_at "w"
        refine ⟨s, rfl, by have : s.cps.size ≤ 1000 := hs; omega, ?_⟩
        walk_at "nm"
        refine compL_flt (p := fun _ => true) (f := fun d => match d with | .str z => .bl (letter (z.cps.getD 0 0)) | _ => .non) _ _ (fun F' x hx => ?_) ?_
        · obtain ⟨c, hc, rfl⟩ := List.mem_map.mp hx
          walk_at "w"
          refine ⟨rfl, fun h => (nomatch h), fun _ => ?_⟩
          walk_at "w"
          refine ⟨rfl, ?_⟩
          show D.bl (decide (c ∈ (Str.ofString "abcdefghijklmnopqrstuvwxyz").cps.toList)) = .bl (letter c)
          rw [mem_letters]
        · walk_at "w"
          refine wC_all' (bs := s.cps.toList.map letter) ?_ ?_
          · rw [List.nil_append, List.filter_eq_self.mpr (fun _ _ => rfl)]
            unfold sgD
            rw [List.map_map, List.map_map]
            exact List.map_congr_left fun c _ => rfl
          · rw [all_map_bl]
            exact hΦ
    · rw [decide_eq_true h1, decide_eq_false h2] at hΦ
      walk_at "w"
      exact hΦ
  · rw [decide_eq_false h1] at hΦ
    walk_at "w"
    exact hΦ

theorem ok_is_pointed {f : Addr} {fd : FuncData} (F : L2.Fun K "is_pointed" "is_pointed" s_is_pointed f fd) (T : Txt K mg c) (c_is_name : Callee P w K mg base 1 "is_name" (sp0 K W_is_name)) (m_len : mg "len" = none) (m_isinstance : mg "isinstance" = none) (m_str : mg "str" = none) (m_all : mg "all" = none) (k__POINTED_SIGNS : Kon K mg "_POINTED_SIGNS" (.int 80)) : FnOk P w K mg base L2.CX0 2 f fd ["thing"] (sp0 K W_is_pointed) := by
  obtain ⟨u__POINTED_SIGNS, v__POINTED_SIGNS, m__POINTED_SIGNS, r__POINTED_SIGNS, q__POINTED_SIGNS⟩ := k__POINTED_SIGNS.ex
  refine F.ok sc_is_pointed (fun vs H Q E h => sp0_len (by rintro _ _ _ ⟨_, rfl, _⟩; rfl) h) (fun cdv A outer s H vs Q E hr h => ⟨_, (pss_cons (ps_if (PW.pt (pw_or (pt_not (pt_val (pe_callB call_isi (by rfl) m_isinstance PyProof.Rows.boot_isinstance (pa_cons (pv 0) (pa_cons (pe_bltn (v := .ty "str") (by rfl) m_str PyProof.Rows.boot_str rfl) pa_nil))))) (pw_or1 (pt_cmpR op_gt (pe_callB call_len (by rfl) m_len PySem.boot_len (pa_cons (pv 0) pa_nil)) (pe_glob (by rfl) m__POINTED_SIGNS r__POINTED_SIGNS) (nomark _))))) (pss_one (ps_ret pe_bl)) pss_nil) (pss_one (ps_ret (pe_callB (cr_all rfl) (by rfl) m_all (by decide +kernel) (pa_cons (pe_lc (own := [("part", 1)]) (g := (gName 1)) (tt := tYes) rfl sc_is_pointed.nd (pi_list (pe_split (pv 0) pe_str)) (blkOk_by (N := N_is_pointed) (sc := defScope s_is_pointed) (by decide +kernel)) (fun _ _ _ _ _ => (pg_name (i := 1) sc_is_pointed.nd rfl (Or.inl rfl))) (fun _ _ _ _ _ => pts_nil) (fun _ _ _ _ _ => (DL.pe_cl c_is_name hr (by omega) (by rfl) (pa_cons (pv 1) pa_nil)))) pa_nil))))), body0 h ?_⟩)
  try dsimp only [cxOf]
  intro ds Φ X F hW hE
  obtain ⟨d, rfl, ⟨hd, hl⟩, hΦ⟩ := hW
  cases d <;> first | (cases hd; done) | (walk_at "w"; exact hΦ) | skip
  rename_i s
  obtain ⟨hs, hok⟩ := hl s rfl
  walk_at "w"
  refine wC_len (len_str hs) ?_
  walk_at "w"
  have hP : isPt (.str s) = (!decide ((80 : Int) < (s.length : Int)) && (Txt.split s ".").all nameS) := rfl
  rw [hP] at hΦ
  refine ways_dec (fun h1 => ?_) (fun h1 => ?_)
  · rw [decide_eq_true h1] at hΦ
    walk_at "w"
    exact hΦ
  · rw [decide_eq_false h1] at hΦ
    walk_at "w"
    refine ⟨_, rfl, by decide +kernel, by omega, _, rfl, part_ln hs, ?_⟩
    walk_at "nm"
    refine compL_flt (p := fun _ => true) (f := fun d => .bl (isNm d)) _ _ (fun F' x hx => ?_) ?_
    · obtain ⟨q, hq, rfl⟩ := List.mem_map.mp hx
      walk_at "w"
      refine ⟨rfl, fun h => (nomatch h), fun _ => ?_⟩
      walk_at "w"
      exact ⟨_, rfl, part_gd hs hok hq, rsp_fz ⟨rfl, rfl⟩⟩
    · walk_at "w"
      refine wC_all' (bs := (Txt.split s ".").map nameS) ?_ ?_
      · rw [List.nil_append, List.filter_eq_self.mpr (fun _ _ => rfl), List.map_map, List.map_map]
        exact List.map_congr_left fun c _ => rfl
      · rw [List.all_map]
        exact hΦ

theorem ok_is_value {f : Addr} {fd : FuncData} (F : L2.Fun K "is_value" "is_value" s_is_value f fd) (T : Txt K mg c) (c_is_within : Callee P w K mg base 2 "is_within" (sp0 K W_is_within)) (m_isinstance : mg "isinstance" = none) (m_bool : mg "bool" = none) (k__GREATEST : Kon K mg "_GREATEST" (.int 1000000000)) : FnOk P w K mg base L2.CX0 3 f fd ["thing"] (sp0 K W_is_value) := by
  obtain ⟨u__GREATEST, v__GREATEST, m__GREATEST, r__GREATEST, q__GREATEST⟩ := k__GREATEST.ex
  refine F.ok sc_is_value (fun vs H Q E h => sp0_len (by rintro _ _ _ ⟨_, rfl, _⟩; rfl) h) (fun cdv A outer s H vs Q E hr h => ⟨_, (pss_one (ps_ret (pe_or (pe_callB call_isi (by rfl) m_isinstance PyProof.Rows.boot_isinstance (pa_cons (pv 0) (pa_cons (pe_bltn (v := .ty "bool") (by rfl) m_bool PyProof.Rows.boot_bool rfl) pa_nil))) (pe_one (DL.pe_cl c_is_within hr (by omega) (by rfl) (pa_cons (pv 0) (pa_cons (pe_un un_neg (pe_glob (by rfl) m__GREATEST r__GREATEST)) (pa_cons (pe_glob (by rfl) m__GREATEST r__GREATEST) pa_nil)))))))), body0 h ?_⟩)
  try dsimp only [cxOf]
  intro ds Φ X F hW hE
  obtain ⟨d, rfl, hd, hΦ⟩ := hW
  cases d <;> first | (cases hd; done) | (walk_at "w"; exact hΦ) | (walk_at "w"; exact ⟨_, _, _, rfl, hd, hΦ⟩)

theorem ok_value_text {f : Addr} {fd : FuncData} (F : L2.Fun K "value_text" "value_text" s_value_text f fd) (T : Txt K mg c) (m_isinstance : mg "isinstance" = none) (m_bool : mg "bool" = none) (m_str : mg "str" = none) : FnOk P w K mg base L2.CX0 1 f fd ["value"] (sp0 K W_value_text) := by
  refine F.ok sc_value_text (fun vs H Q E h => sp0_len (by rintro _ _ _ ⟨_, rfl, _⟩; rfl) h) (fun cdv A outer s H vs Q E hr h => ⟨_, (pss_cons (ps_if (pt_val (pe_callB call_isi (by rfl) m_isinstance PyProof.Rows.boot_isinstance (pa_cons (pv 0) (pa_cons (pe_bltn (v := .ty "bool") (by rfl) m_bool PyProof.Rows.boot_bool rfl) pa_nil)))) (pss_one (ps_ret (pe_ifExp (pt_val (pv 0)) pe_str pe_str))) pss_nil) (pss_one (ps_ret (pe_callTy call_str_int (by rfl) m_str PyProof.Rows.boot_str (pa_cons (pv 0) pa_nil))))), body0 h ?_⟩)
  try dsimp only [cxOf]
  intro ds Φ X F hW hE
  obtain ⟨x, rfl, hx, hΦ⟩ := hW
  cases x with
  | n i =>
    dsimp only [Va.d]
    obtain ⟨h1, h2⟩ : -1000000000 ≤ i ∧ i ≤ 1000000000 := hx
    walk_at "w"
    refine wC_strI (log2_small (by omega)) hΦ
  | t b =>
    cases b
    all_goals
      dsimp only [Va.d]
      walk_at "w"
      exact hΦ

theorem ok__is_number_text {f : Addr} {fd : FuncData} (F : L2.Fun K "_is_number_text" "_is_number_text" s__is_number_text f fd) (T : Txt K mg c) (m_len : mg "len" = none) (m_all : mg "all" = none) (k__GREATEST_SIGNS : Kon K mg "_GREATEST_SIGNS" (.int 10)) (k__FIGURES : Kon K mg "_FIGURES" (.str "0123456789")) : FnOk P w K mg base L2.CX0 1 f fd ["text"] (sp0 K W__is_number_text) := by
  obtain ⟨u__GREATEST_SIGNS, v__GREATEST_SIGNS, m__GREATEST_SIGNS, r__GREATEST_SIGNS, q__GREATEST_SIGNS⟩ := k__GREATEST_SIGNS.ex
  obtain ⟨u__FIGURES, v__FIGURES, m__FIGURES, r__FIGURES, q__FIGURES⟩ := k__FIGURES.ex
  refine F.ok sc__is_number_text (fun vs H Q E h => sp0_len (by rintro _ _ _ ⟨_, rfl, _⟩; rfl) h) (fun cdv A outer s H vs Q E hr h => ⟨_, (pss_cons (ps_set (i := 1) sc__is_number_text.nd rfl (Or.inl rfl) (pe_m1 PySem.F.slot_str_removeprefix PySem.F.type_str_removeprefix mt_removeprefix (pv 0) pe_str)) (pss_cons (ps_if (pt_not (pt_chain op_le op_le pe_int (pe_callB call_len (by rfl) m_len PySem.boot_len (pa_cons (pv 1) pa_nil)) (pe_glob (by rfl) m__GREATEST_SIGNS r__GREATEST_SIGNS))) (pss_one (ps_ret pe_bl)) pss_nil) (pss_cons (ps_if (PW.pt (pw_and (pt_val (pe_m1 PySem.F.slot_str_startswith PySem.F.type_str_startswith mt_startswith (pv 1) pe_str)) (pw_and1 (pt_cmpR (op_neD hr.units) (pv 0) pe_str (nomark _))))) (pss_one (ps_ret pe_bl)) pss_nil) (pss_one (ps_ret (pe_callB (cr_all rfl) (by rfl) m_all (by decide +kernel) (pa_cons (pe_lc (own := [("sign", 2)]) (g := (gName 2)) (tt := tYes) rfl sc__is_number_text.nd (pi_str (pv 1)) (blkOk_by (N := N__is_number_text) (sc := defScope s__is_number_text) (by decide +kernel)) (fun _ _ _ _ _ => (pg_name (i := 2) sc__is_number_text.nd rfl (Or.inl rfl))) (fun _ _ _ _ _ => pts_nil) (fun _ _ _ _ _ => (pe_cmpR op_in_sign (pv 2) (pe_glob (by rfl) m__FIGURES r__FIGURES) (by rfl)))) pa_nil))))))), body0 h ?_⟩)
  try dsimp only [cxOf]
  intro ds Φ X F hW hE
  obtain ⟨s, rfl, hs, hok, hΦ⟩ := hW
  refine wS_seq ?_
  refine wS_set (wE_rmp ?_)
  walk_at "w"
  refine ⟨s, rfl, by omega, ?_⟩
  walk_at "w"
  refine ⟨_, rfl, ?_⟩
  have hF := rmp_figs s
  have hsub := figs_sub (l := s.cps.toList)
  generalize Txt.removeprefix s (Str.ofString "-") = T at *
  have hT : T.length = (figs s.cps.toList).length := by rw [← hF]; exact len_cps T
  have hT2 : T.length ≤ 20000 := by
    have := len_cps s
    omega
  have hI : isNumL s.cps.toList = ((decide ((1 : Int) ≤ (T.length : Int)) && decide ((T.length : Int) ≤ 10)) && (!((T.cps.toList.head? == some 48) && !(s.cps.toList == [48])) && T.cps.toList.all dg1)) := by
    unfold isNumL
    rw [hF, hT]
  rw [hI] at hΦ
  walk_at "nm"
  walk_at "w"
  refine wC_len (len_str2 hT2) ?_
  walk_at "w"
  refine ways_dec (fun h1 => ?_) (fun h1 => ?_)
  · walk_at "w"
    refine ways_not (ways_dec (fun h2 => ?_) (fun h2 => ?_))
    · rw [decide_eq_true h1, decide_eq_true h2] at hΦ
      have fin : (T.cps.toList.head? == some 48 && !(s.cps.toList == [48])) = false → wS K F (tRet (tCB (rAll K) (tCons (tLc (iStr (tVar 1)) (gName 2) tYes (tOp rInSg (tVar 2) (tC v__FIGURES)) [2]) tNil))) [.fz (.str s), .fz (.str T), .un] (out0 Φ) := fun hc => by
        rw [hc] at hΦ
        walk_at "w"
        refine wE_ofO (wO_lcS (tgt_name (by decide)) ?_)
        walk_at "w"
        refine ⟨T, rfl, by have : T.cps.size ≤ 20000 := hT2; omega, ?_⟩
        walk_at "nm"
        refine compL_flt (p := fun _ => true) (f := fun d => match d with | .str z => .bl (dg1 (z.cps.getD 0 0)) | _ => .non) _ _ (fun F' x hx => ?_) ?_
        · obtain ⟨c, hc, rfl⟩ := List.mem_map.mp hx
          walk_at "w"
          refine ⟨rfl, fun h => (nomatch h), fun _ => ?_⟩
          walk_at "w"
          refine ⟨rfl, ?_⟩
          show D.bl (decide (c ∈ (Str.ofString "0123456789").cps.toList)) = .bl (dg1 c)
          rw [mem_figs]
        · walk_at "w"
          refine wC_all' (bs := T.cps.toList.map dg1) ?_ ?_
          · rw [List.nil_append, List.filter_eq_self.mpr (fun _ _ => rfl)]
            unfold sgD
            rw [List.map_map, List.map_map]
            exact List.map_congr_left fun c _ => rfl
          · rw [List.all_map]
            exact hΦ
      walk_at "w"
      refine wE_m1 (f := fun a b => .bl (Txt.startswith a b)) (fun a b G => .bl _) ?_
      walk_at "w"
      refine ⟨_, rfl, ?_⟩
      rw [stw_0]
      cases hh : (T.cps.toList.head? == some 48) with
      | true =>
        walk_at "w"
        rw [eq0]
        cases hz : (s.cps.toList == [48]) with
        | true =>
          refine ways_f ?_
          walk_at "w1"
          exact fin (by rw [hh, hz]; rfl)
        | false =>
          rw [hh, hz] at hΦ
          walk_at "w"
          exact hΦ
      | false =>
        refine ways_f (ways_f ?_)
        walk_at "w1"
        exact fin (by rw [hh]; rfl)
    · rw [decide_eq_true h1, decide_eq_false h2] at hΦ
      walk_at "w"
      exact hΦ
  · rw [decide_eq_false h1] at hΦ
    walk_at "w"
    exact hΦ

theorem ok_value_of {f : Addr} {fd : FuncData} (F : L2.Fun K "value_of" "value_of" s_value_of f fd) (T : Txt K mg c) (c__is_number_text : Callee P w K mg base 1 "_is_number_text" (sp0 K W__is_number_text)) (c_is_value : Callee P w K mg base 3 "is_value" (sp0 K W_is_value)) (m_isinstance : mg "isinstance" = none) (m_str : mg "str" = none) (m_int : mg "int" = none) : FnOk P w K mg base L2.CX0 4 f fd ["thing"] (sp0 K W_value_of) := by
  refine F.ok sc_value_of (fun vs H Q E h => sp0_len (by rintro _ _ _ ⟨_, rfl, _⟩; rfl) h) (fun cdv A outer s H vs Q E hr h => ⟨_, (pss_cons (ps_if (pt_not (pt_val (pe_callB call_isi (by rfl) m_isinstance PyProof.Rows.boot_isinstance (pa_cons (pv 0) (pa_cons (pe_bltn (v := .ty "str") (by rfl) m_str PyProof.Rows.boot_str rfl) pa_nil))))) (pss_one (ps_ret pe_non)) pss_nil) (pss_cons (ps_if (pt_cmpR op_in_seq (pv 0) (pe_tup (pa_cons pe_str (pa_cons pe_str pa_nil))) (by rfl)) (pss_one (ps_ret (pe_cmpR (op_eqD hr.units) (pv 0) pe_str (nomark _)))) pss_nil) (pss_cons (ps_if (pt_not (pt_val (DL.pe_cl c__is_number_text hr (by omega) (by rfl) (pa_cons (pv 0) pa_nil)))) (pss_one (ps_ret pe_non)) pss_nil) (pss_cons (ps_set (i := 1) sc_value_of.nd rfl (Or.inl rfl) (pe_callTy call_int_str (by rfl) m_int PyProof.Rows.boot_int (pa_cons (pv 0) pa_nil))) (pss_one (ps_ret (pe_ifExp (pt_val (DL.pe_cl c_is_value hr (by omega) (by rfl) (pa_cons (pv 1) pa_nil))) (pv 1) pe_non))))))), body0 h ?_⟩)
  try dsimp only [cxOf]
  intro ds Φ X F hW hE
  obtain ⟨d, rfl, ⟨hd, hl⟩, hΦ⟩ := hW
  cases d <;> first | (cases hd; done) | (walk_at "w"; exact hΦ) | skip
  rename_i s
  obtain ⟨hs, hok⟩ := hl s rfl
  have hR : rdD (.str s) = rdS s := rfl
  rw [hR] at hΦ
  by_cases h1 : s = "true"
  · subst h1
    walk_at "w"
    exact hΦ
  · by_cases h2 : s = "false"
    · subst h2
      walk_at "w"
      exact hΦ
    · walk_at "w"
      rw [in_tf h1 h2]
      walk_at "w"
      refine ⟨s, rfl, hs, hok, rsp_fz ?_⟩
      cases hn : isNumL s.cps.toList with
      | false =>
        have e : rdS s = .non := by
          unfold rdS
          rw [if_neg h1, if_neg h2, if_neg (by rw [hn]; exact Bool.false_ne_true)]
        rw [e] at hΦ
        walk_at "w"
        exact hΦ
      | true =>
        obtain ⟨⟨n1, n2⟩, _, _⟩ := isNum_facts hn
        have e : rdS s = if inBd (numL s.cps.toList) then .int (numL s.cps.toList) else .non := by
          unfold rdS
          rw [if_neg h1, if_neg h2, if_pos hn]
        rw [e] at hΦ
        have hl11 : s.length ≤ 11 := by
          rw [len_cps]
          have := congrArg List.length (figs_ng s.cps.toList)
          cases hg : ng s.cps.toList with
          | true => rw [hg, if_pos rfl, List.length_cons] at this; omega
          | false => rw [hg, if_neg Bool.false_ne_true] at this; omega
        walk_at "w"
        refine wC_intS (intNum hn) (by omega) ?_
        walk_at "w"
        refine ⟨_, rfl, rfl, rsp_fz ?_⟩
        have e2 : inB (.int (numL s.cps.toList)) = inBd (numL s.cps.toList) := rfl
        rw [e2]
        cases hb : inBd (numL s.cps.toList) with
        | true =>
          rw [hb, if_pos rfl] at hΦ
          walk_at "w"
          exact hΦ
        | false =>
          rw [hb, if_neg Bool.false_ne_true] at hΦ
          walk_at "w"
          exact hΦ

theorem ok_name_for {f : Addr} {fd : FuncData} (F : L2.Fun K "name_for" "name_for" s_name_for f fd) (T : Txt K mg c) (c_is_pointed : Callee P w K mg base 2 "is_pointed" (sp0 K W_is_pointed)) (x_NoName : ECallee P w K mg base 2 "NoName" nn "found") : FnOk P w K mg base (L2.CX P w) 4 f fd ["name", "names"] (sp0 K (W_name_for nn)) := by
  refine F.okX sc_name_for (fun vs H Q E h => sp0_len (by rintro _ _ _ ⟨_, _, rfl, _⟩; rfl) h) (fun cdv A outer s H vs Q E hr h => ⟨_, (pss_cons (ps_if (pt_cmp (pc_dnotin (DL.units1 hr) (pv 0) (pv 1))) (pss_one (DL.ps_rse x_NoName hr (by omega) rfl (takes_of rfl rfl rfl rfl) (by rfl) (pv 0))) pss_nil) (pss_cons (ps_if (pt_not (pt_val (DL.pe_cl c_is_pointed hr (by omega) (by rfl) (pa_cons (pe_dget (DL.units1 hr) (pv 1) (pv 0) (fun _ _ => rfl)) pa_nil)))) (pss_one (DL.ps_rse x_NoName hr (by omega) rfl (takes_of rfl rfl rfl rfl) (by rfl) (pe_dget (DL.units1 hr) (pv 1) (pv 0) (fun _ _ => rfl)))) pss_nil) (pss_one (ps_ret (pe_dget (DL.units1 hr) (pv 1) (pv 0) (fun _ _ => rfl)))))), body0 h ?_⟩)
  try dsimp only [cxOf]
  intro ds Φ X F hW hE
  obtain ⟨l, s, rfl, hk, hΦ, hX⟩ := hW
  refine wS_seq (wS_if (wT_B (wE_dni (wE_var rfl (wE_var rfl ⟨_, _, rfl, rfl, ?_⟩)))))
  refine onB_bl ?_
  cases q : atKD (kvs l) (.inr s) with
  | none =>
    refine ways_ev_t rfl ?_
    exact wS_raise hE (wE_var rfl (hX _ (namF_none q)))
  | some d =>
    refine ways_ev_f rfl (wS_next ?_)
    have gd := hk _ (at_mem q)
    walk_at "c"
    refine wE_dget (wE_var rfl (wE_var rfl ⟨_, _, d, rfl, rfl, q, ?_⟩))
    walk_at "c"
    refine ⟨d, rfl, gd, rsp_fz ?_⟩
    walk_at "c"
    cases p : isPt d with
    | false =>
      walk_at "c"
      refine wS_raise hE (wE_dget (wE_var rfl (wE_var rfl ⟨_, _, d, rfl, rfl, q, hX _ (namF_bad q p)⟩)))
    | true =>
      walk_at "c"
      refine wE_dget (wE_var rfl (wE_var rfl ⟨_, _, d, rfl, rfl, q, ?_⟩))
      cases d <;> first | (cases p; done) | skip
      exact hΦ _ (by unfold namF; rw [q]; dsimp only; rw [p]; rfl)

theorem ok_ops_told {f : Addr} {fd : FuncData} (F : L2.Fun K "ops_told" "ops_told" s_ops_told f fd) (T : Txt K mg c) (m_list : mg "list" = none) (k__OPS : Kon K mg "_OPS" (.tup [(.str "+"), (.str "-"), (.str "*"), (.str "/"), (.str "mod"), (.str "<"), (.str "="), (.str "&"), (.str "|")])) : FnOk P w K mg base L2.CX0 1 f fd [] (sp0 K W_ops_told) := by
  obtain ⟨u__OPS, v__OPS, m__OPS, r__OPS, q__OPS⟩ := k__OPS.ex
  refine F.ok sc_ops_told (fun vs H Q E h => sp0_len (by rintro _ _ _ ⟨rfl, _⟩; rfl) h) (fun cdv A outer s H vs Q E hr h => ⟨_, (pss_one (ps_ret (pe_callTy call_list_of (by rfl) m_list PyProof.Rows.boot_list (pa_cons (pe_glob (by rfl) m__OPS r__OPS) pa_nil)))), body0 h ?_⟩)
  try dsimp only [cxOf]
  intro ds Φ X F hW hE
  obtain ⟨rfl, hΦ⟩ := hW
  refine wS_retO (wO_cb (wA_cons ?_))
  walk_at "w"
  exact wCO_list (.inr rfl) hΦ

theorem ok__takes {f : Addr} {fd : FuncData} (F : L2.Fun K "_takes" "_takes" s__takes f fd) (T : Txt K mg c) (c_is_whole : Callee P w K mg base 1 "is_whole" (sp0 K W_is_whole)) : FnOk P w K mg base L2.CX0 2 f fd ["op", "one", "other"] (sp0 K W__takes) := by
  refine F.ok sc__takes (fun vs H Q E h => sp0_len (by rintro _ _ _ ⟨_, _, _, rfl, _⟩; rfl) h) (fun cdv A outer s H vs Q E hr h => ⟨_, (pss_cons (ps_if (pt_cmpR (op_eqD hr.units) (pv 0) pe_str (nomark _)) (pss_one (ps_ret (pe_cmpR (op_eqD hr.units) (DL.pe_cl c_is_whole hr (by omega) (by rfl) (pa_cons (pv 1) pa_nil)) (DL.pe_cl c_is_whole hr (by omega) (by rfl) (pa_cons (pv 2) pa_nil)) (nomark _)))) pss_nil) (pss_cons (ps_if (pt_cmpR op_in_seq (pv 0) (pe_tup (pa_cons pe_str (pa_cons pe_str pa_nil))) (by rfl)) (pss_one (ps_ret (pe_and (pe_not (DL.pe_cl c_is_whole hr (by omega) (by rfl) (pa_cons (pv 1) pa_nil))) (pe_one (pe_not (DL.pe_cl c_is_whole hr (by omega) (by rfl) (pa_cons (pv 2) pa_nil))))))) pss_nil) (pss_one (ps_ret (pe_and (DL.pe_cl c_is_whole hr (by omega) (by rfl) (pa_cons (pv 1) pa_nil)) (pe_one (DL.pe_cl c_is_whole hr (by omega) (by rfl) (pa_cons (pv 2) pa_nil)))))))), body0 h ?_⟩)
  try dsimp only [cxOf]
  intro ds Φ X F hW hE
  obtain ⟨o, x, y, rfl, hΦ⟩ := hW
  cases o <;> cases x <;> cases y <;> (walk_at "w"; first | exact hΦ | exact ⟨_, rfl, rfl, by walk_at "w"; first | exact hΦ | exact ⟨_, rfl, rfl, by walk_at "w"; exact hΦ⟩⟩)

theorem ok__outcome {f : Addr} {fd : FuncData} (F : L2.Fun K "_outcome" "_outcome" s__outcome f fd) (T : Txt K mg c)  : FnOk P w K mg base L2.CX0 1 f fd ["op", "one", "other"] (sp0 K W__outcome) := by
  refine F.ok sc__outcome (fun vs H Q E h => sp0_len (by rintro _ _ _ ⟨_, _, _, rfl, _⟩; rfl) h) (fun cdv A outer s H vs Q E hr h => ⟨_, (pss_cons (ps_if (pt_cmpR (op_eqD hr.units) (pv 0) pe_str (nomark _)) (pss_one (ps_ret (pe_op DL.op_plus (pv 1) (pv 2)))) pss_nil) (pss_cons (ps_if (pt_cmpR (op_eqD hr.units) (pv 0) pe_str (nomark _)) (pss_one (ps_ret (pe_op op_sub (pv 1) (pv 2)))) pss_nil) (pss_cons (ps_if (pt_cmpR (op_eqD hr.units) (pv 0) pe_str (nomark _)) (pss_one (ps_ret (pe_op op_mul (pv 1) (pv 2)))) pss_nil) (pss_cons (ps_if (pt_cmpR (op_eqD hr.units) (pv 0) pe_str (nomark _)) (pss_one (ps_ret (pe_op op_fdivN (pv 1) (pv 2)))) pss_nil) (pss_cons (ps_if (pt_cmpR (op_eqD hr.units) (pv 0) pe_str (nomark _)) (pss_one (ps_ret (pe_op op_modN (pv 1) (pv 2)))) pss_nil) (pss_cons (ps_if (pt_cmpR (op_eqD hr.units) (pv 0) pe_str (nomark _)) (pss_one (ps_ret (pe_cmpR op_lt (pv 1) (pv 2) (nomark _)))) pss_nil) (pss_cons (ps_if (pt_cmpR (op_eqD hr.units) (pv 0) pe_str (nomark _)) (pss_one (ps_ret (pe_cmpR (op_eqD hr.units) (pv 1) (pv 2) (nomark _)))) pss_nil) (pss_cons (ps_if (pt_cmpR (op_eqD hr.units) (pv 0) pe_str (nomark _)) (pss_one (ps_ret (pe_and (pv 1) (pe_one (pv 2))))) pss_nil) (pss_one (ps_ret (pe_or (pv 1) (pe_one (pv 2))))))))))))), body0 h ?_⟩)
  try dsimp only [cxOf]
  intro ds Φ X F hW hE
  obtain ⟨o, x, y, rfl, hx, hy, ht, hn, hΦ⟩ := hW
  cases o <;> cases x <;> cases y <;> first | (cases ht; done) | skip
  all_goals dsimp only [Va.d]
  all_goals try dsimp only [Va.ok] at hx hy
  all_goals walk_at "w"
  all_goals first | exact hΦ | skip
  case div.n.n => first
    | exact wR_I ⟨of_decide_eq_false hn, by omega⟩ hΦ
  case md.n.n => first
    | exact wR_I (of_decide_eq_false hn) hΦ
  case an.t.t b c => cases b <;> (walk_at "w"; exact hΦ)
  case or.t.t b c => cases b <;> (walk_at "w"; exact hΦ)

theorem ok_reckoned {f : Addr} {fd : FuncData} (F : L2.Fun K "reckoned" "reckoned" s_reckoned f fd) (T : Txt K mg c) (c__takes : Callee P w K mg base 2 "_takes" (sp0 K W__takes)) (c__outcome : Callee P w K mg base 1 "_outcome" (sp0 K W__outcome)) (c_is_value : Callee P w K mg base 3 "is_value" (sp0 K W_is_value)) : FnOk P w K mg base L2.CX0 4 f fd ["op", "one", "other"] (sp0 K W_reckoned) := by
  refine F.ok sc_reckoned (fun vs H Q E h => sp0_len (by rintro _ _ _ ⟨_, _, _, rfl, _⟩; rfl) h) (fun cdv A outer s H vs Q E hr h => ⟨_, (pss_cons (ps_if (pt_not (pt_val (DL.pe_cl c__takes hr (by omega) (by rfl) (pa_cons (pv 0) (pa_cons (pv 1) (pa_cons (pv 2) pa_nil)))))) (pss_one (ps_ret (pe_tup (pa_cons pe_non (pa_cons pe_str pa_nil))))) pss_nil) (pss_cons (ps_if (PW.pt (pw_and (pt_cmpR op_in_seq (pv 0) (pe_tup (pa_cons pe_str (pa_cons pe_str pa_nil))) (by rfl)) (pw_and1 (pt_cmpR (op_eqD hr.units) (pv 2) pe_int (nomark _))))) (pss_one (ps_ret (pe_tup (pa_cons pe_non (pa_cons pe_str pa_nil))))) pss_nil) (pss_cons (ps_set (i := 3) sc_reckoned.nd rfl (Or.inl rfl) (DL.pe_cl c__outcome hr (by omega) (by rfl) (pa_cons (pv 0) (pa_cons (pv 1) (pa_cons (pv 2) pa_nil))))) (pss_cons (ps_if (pt_not (pt_val (DL.pe_cl c_is_value hr (by omega) (by rfl) (pa_cons (pv 3) pa_nil)))) (pss_one (ps_ret (pe_tup (pa_cons pe_non (pa_cons pe_str pa_nil))))) pss_nil) (pss_one (ps_ret (pe_tup (pa_cons (pv 3) (pa_cons pe_non pa_nil))))))))), body0 h ?_⟩)
  try dsimp only [cxOf]
  intro ds Φ X F hW hE
  obtain ⟨o, x, y, rfl, hx, hy, hΦ⟩ := hW
  walk_at "w"
  refine ⟨o, x, y, rfl, rsp_fz ?_⟩
  walk_at "w"
  cases ht : tk o x y with
  | false =>
    walk_at "w"
    have e : rk o x y = .kind := by unfold rk; rw [if_neg (by rw [ht]; exact Bool.false_ne_true)]
    rw [e] at hΦ
    exact hΦ
  | true =>
    refine ways_f ?_
    have done : nul o y = false → wS K F (tSeq (tAsg (tCall (sp0 K W__outcome) [] E0 (tCons (tVar 0) (tCons (tVar 1) (tCons (tVar 2) tNil)))) (gName 3)) (tSeq (tIfS (tNot (tB (tCall (sp0 K W_is_value) [] E0 (tCons (tVar 3) tNil)))) (tRet (tTup (tCons (tC .non) (tCons (tC (.str "great")) tNil)))) tNext) (tRet (tTup (tCons (tVar 3) (tCons (tC .non) tNil)))))) (st0 N_reckoned [.str o.s, x.d, y.d]) (out0 Φ) := fun hn => by
      walk_at "w"
      refine ⟨o, x, y, rfl, hx, hy, ht, hn, rsp_fz ?_⟩
      walk_at "w"
      have hty : (tyD (oc o x y)).isSome = true := by cases o <;> cases x <;> cases y <;> first | rfl | (cases ht; done)
      refine ⟨_, rfl, hty, rsp_fz ?_⟩
      walk_at "w"
      have e : rk o x y = fin (oc o x y) := by unfold rk; rw [if_pos ht, if_neg (by rw [hn]; exact Bool.false_ne_true)]
      rw [e] at hΦ
      cases hb : inB (oc o x y) with
      | true =>
        rw [fin_t hb] at hΦ
        walk_at "w"
        exact hΦ
      | false =>
        rw [fin_f hb] at hΦ
        walk_at "w"
        exact hΦ
    walk_at "w"
    cases hd : isDm o with
    | false =>
      refine ways_ev_f (by cases o <;> first | rfl | cases hd) ?_
      walk_at "w1"; walk_at "w1"
      exact done (by cases o <;> first | rfl | cases hd)
    | true =>
      refine ways_ev_t (by cases o <;> first | rfl | cases hd) ?_
      obtain ⟨b, rfl⟩ : ∃ b, y = .n b := by cases o <;> first | (cases hd; done) | (cases x <;> cases y <;> first | (cases ht; done) | exact ⟨_, rfl⟩)
      walk_at "w"
      rw [eqi]
      refine ways (fun hc => ?_) (fun hc => ?_)
      · walk_at "w"
        have hn : nul o (.n b) = true := by cases o <;> first | (cases hd; done) | exact hc
        have e : rk o x (.n b) = .nought := by unfold rk; rw [if_pos ht, if_pos hn]
        rw [e] at hΦ
        exact hΦ
      · walk_at "w1"
        exact done (by cases o <;> first | (cases hd; done) | exact hc)

theorem ok_contrary {f : Addr} {fd : FuncData} (F : L2.Fun K "contrary" "contrary" s_contrary f fd) (T : Txt K mg c) (c_is_whole : Callee P w K mg base 1 "is_whole" (sp0 K W_is_whole)) : FnOk P w K mg base L2.CX0 2 f fd ["one"] (sp0 K W_contrary) := by
  refine F.ok sc_contrary (fun vs H Q E h => sp0_len (by rintro _ _ _ ⟨_, rfl, _⟩; rfl) h) (fun cdv A outer s H vs Q E hr h => ⟨_, (pss_cons (ps_if (pt_val (DL.pe_cl c_is_whole hr (by omega) (by rfl) (pa_cons (pv 0) pa_nil))) (pss_one (ps_ret (pe_tup (pa_cons pe_non (pa_cons pe_str pa_nil))))) pss_nil) (pss_one (ps_ret (pe_tup (pa_cons (pe_not (pv 0)) (pa_cons pe_non pa_nil)))))), body0 h ?_⟩)
  try dsimp only [cxOf]
  intro ds Φ X F hW hE
  obtain ⟨x, rfl, hΦ⟩ := hW
  cases x <;> (dsimp only [Va.d]; walk_at "w"; exact ⟨_, rfl, rfl, by walk_at "w"; exact hΦ⟩)

theorem ok_Name_told {n : Nat} {f : Addr} {fd : FuncData} (F : L2.Fun K "told" "Name.told" s_Name_told f fd) (T : Txt K mg c)  : FnOk P w K mg base L2.CX0 (0 + n + 1) f fd ["self"] (sp0 K (W_told c (n + 1) 0)) := by
  refine F.ok sc_Name_told (fun vs H Q E h => sp0_len (by rintro _ _ _ ⟨_, rfl, _⟩; rfl) h) (fun cdv A outer s H vs Q E hr h => ⟨_, (pss_one (ps_ret (pe_tup (pa_cons pe_str (pa_cons (pe_fld (pv 0) rfl) pa_nil))))), body0 h ?_⟩)
  try dsimp only [cxOf]
  intro ds Φ X F hW hE
  obtain ⟨t, rfl, ht, hl, hΦ⟩ := hW
  cases t <;> first | (cases ht; done) | skip
  have o := T.nm
  walk_at "c"
  exact hΦ

theorem ok_Value_told {n : Nat} {f : Addr} {fd : FuncData} (F : L2.Fun K "told" "Value.told" s_Value_told f fd) (T : Txt K mg c)  : FnOk P w K mg base L2.CX0 (0 + n + 1) f fd ["self"] (sp0 K (W_told c (n + 1) 1)) := by
  refine F.ok sc_Value_told (fun vs H Q E h => sp0_len (by rintro _ _ _ ⟨_, rfl, _⟩; rfl) h) (fun cdv A outer s H vs Q E hr h => ⟨_, (pss_one (ps_ret (pe_tup (pa_cons pe_str (pa_cons (pe_fld (pv 0) rfl) pa_nil))))), body0 h ?_⟩)
  try dsimp only [cxOf]
  intro ds Φ X F hW hE
  obtain ⟨t, rfl, ht, hl, hΦ⟩ := hW
  cases t <;> first | (cases ht; done) | skip
  have o := T.vl
  walk_at "c"
  exact hΦ

theorem ok_Two_told {n : Nat} {f : Addr} {fd : FuncData} (F : L2.Fun K "told" "Two.told" s_Two_told f fd) (T : Txt K mg c) (v_told : ∀ z ∈ vias K c (W_told c n), MCallee P w K mg base (0 + n) z.1 "told" z.2) : FnOk P w K mg base L2.CX0 (0 + n + 1) f fd ["self"] (sp0 K (W_told c (n + 1) 2)) := by
  refine F.ok sc_Two_told (fun vs H Q E h => sp0_len (by rintro _ _ _ ⟨_, rfl, _⟩; rfl) h) (fun cdv A outer s H vs Q E hr h => ⟨_, (pss_one (ps_ret (pe_tup (pa_cons pe_str (pa_cons (pe_fld (pv 0) rfl) (pa_cons (DL.pe_via v_told hr (by omega) (pe_fld (pv 0) rfl)) (pa_cons (DL.pe_via v_told hr (by omega) (pe_fld (pv 0) rfl)) pa_nil))))))), body0 h ?_⟩)
  try dsimp only [cxOf]
  intro ds Φ X F hW hE
  obtain ⟨t, rfl, ht, hl, hΦ⟩ := hW
  cases t <;> first | (cases ht; done) | skip
  rename_i op a b
  have o := T.tw
  have hl' : 1 + max a.lv b.lv ≤ n + 1 := hl
  walk_at "c"
  refine wE_tm (nf_told c) ?_
  walk_at "c"
  refine ⟨a, rfl, a, rfl, rfl, by omega, rsp_fz ?_⟩
  walk_at "c"
  refine wE_tm (nf_told c) ?_
  walk_at "c"
  refine ⟨b, rfl, b, rfl, rfl, by omega, rsp_fz ?_⟩
  walk_at "c"
  exact hΦ

theorem ok_Not_told {n : Nat} {f : Addr} {fd : FuncData} (F : L2.Fun K "told" "Not.told" s_Not_told f fd) (T : Txt K mg c) (v_told : ∀ z ∈ vias K c (W_told c n), MCallee P w K mg base (0 + n) z.1 "told" z.2) : FnOk P w K mg base L2.CX0 (0 + n + 1) f fd ["self"] (sp0 K (W_told c (n + 1) 3)) := by
  refine F.ok sc_Not_told (fun vs H Q E h => sp0_len (by rintro _ _ _ ⟨_, rfl, _⟩; rfl) h) (fun cdv A outer s H vs Q E hr h => ⟨_, (pss_one (ps_ret (pe_tup (pa_cons pe_str (pa_cons (DL.pe_via v_told hr (by omega) (pe_fld (pv 0) rfl)) pa_nil))))), body0 h ?_⟩)
  try dsimp only [cxOf]
  intro ds Φ X F hW hE
  obtain ⟨t, rfl, ht, hl, hΦ⟩ := hW
  cases t <;> first | (cases ht; done) | skip
  rename_i a
  have o := T.nt
  have hl' : 1 + a.lv ≤ n + 1 := hl
  walk_at "c"
  refine wE_tm (nf_told c) ?_
  walk_at "c"
  refine ⟨a, rfl, a, rfl, rfl, by omega, rsp_fz ?_⟩
  walk_at "c"
  exact hΦ

theorem ok_Pick_told {n : Nat} {f : Addr} {fd : FuncData} (F : L2.Fun K "told" "Pick.told" s_Pick_told f fd) (T : Txt K mg c) (v_told : ∀ z ∈ vias K c (W_told c n), MCallee P w K mg base (0 + n) z.1 "told" z.2) : FnOk P w K mg base L2.CX0 (0 + n + 1) f fd ["self"] (sp0 K (W_told c (n + 1) 4)) := by
  refine F.ok sc_Pick_told (fun vs H Q E h => sp0_len (by rintro _ _ _ ⟨_, rfl, _⟩; rfl) h) (fun cdv A outer s H vs Q E hr h => ⟨_, (pss_one (ps_ret (pe_tup (pa_cons pe_str (pa_cons (DL.pe_via v_told hr (by omega) (pe_fld (pv 0) rfl)) (pa_cons (DL.pe_via v_told hr (by omega) (pe_fld (pv 0) rfl)) (pa_cons (DL.pe_via v_told hr (by omega) (pe_fld (pv 0) rfl)) pa_nil))))))), body0 h ?_⟩)
  try dsimp only [cxOf]
  intro ds Φ X F hW hE
  obtain ⟨t, rfl, ht, hl, hΦ⟩ := hW
  cases t <;> first | (cases ht; done) | skip
  rename_i a b e
  have o := T.pk
  have hl' : 1 + max (max a.lv b.lv) e.lv ≤ n + 1 := hl
  walk_at "c"
  refine wE_tm (nf_told c) ?_
  walk_at "c"
  refine ⟨a, rfl, a, rfl, rfl, by omega, rsp_fz ?_⟩
  walk_at "c"
  refine wE_tm (nf_told c) ?_
  walk_at "c"
  refine ⟨b, rfl, b, rfl, rfl, by omega, rsp_fz ?_⟩
  walk_at "c"
  refine wE_tm (nf_told c) ?_
  walk_at "c"
  refine ⟨e, rfl, e, rfl, rfl, by omega, rsp_fz ?_⟩
  walk_at "c"
  exact hΦ

theorem ok_Name_levels {n : Nat} {f : Addr} {fd : FuncData} (F : L2.Fun K "levels" "Name.levels" s_Name_levels f fd) (T : Txt K mg c)  : FnOk P w K mg base L2.CX0 (0 + n + 1) f fd ["self"] (sp0 K (W_levels c (n + 1) 0)) := by
  refine F.ok sc_Name_levels (fun vs H Q E h => sp0_len (by rintro _ _ _ ⟨_, rfl, _⟩; rfl) h) (fun cdv A outer s H vs Q E hr h => ⟨_, (pss_one (ps_ret pe_int)), body0 h ?_⟩)
  try dsimp only [cxOf]
  intro ds Φ X F hW hE
  obtain ⟨t, rfl, ht, hl, hΦ⟩ := hW
  cases t <;> first | (cases ht; done) | skip
  walk_at "c"
  exact hΦ

theorem ok_Value_levels {n : Nat} {f : Addr} {fd : FuncData} (F : L2.Fun K "levels" "Value.levels" s_Value_levels f fd) (T : Txt K mg c)  : FnOk P w K mg base L2.CX0 (0 + n + 1) f fd ["self"] (sp0 K (W_levels c (n + 1) 1)) := by
  refine F.ok sc_Value_levels (fun vs H Q E h => sp0_len (by rintro _ _ _ ⟨_, rfl, _⟩; rfl) h) (fun cdv A outer s H vs Q E hr h => ⟨_, (pss_one (ps_ret pe_int)), body0 h ?_⟩)
  try dsimp only [cxOf]
  intro ds Φ X F hW hE
  obtain ⟨t, rfl, ht, hl, hΦ⟩ := hW
  cases t <;> first | (cases ht; done) | skip
  walk_at "c"
  exact hΦ

theorem ok_Two_levels {n : Nat} {f : Addr} {fd : FuncData} (F : L2.Fun K "levels" "Two.levels" s_Two_levels f fd) (T : Txt K mg c) (v_levels : ∀ z ∈ vias K c (W_levels c n), MCallee P w K mg base (0 + n) z.1 "levels" z.2) (m_max : mg "max" = none) : FnOk P w K mg base L2.CX0 (0 + n + 1) f fd ["self"] (sp0 K (W_levels c (n + 1) 2)) := by
  refine F.ok sc_Two_levels (fun vs H Q E h => sp0_len (by rintro _ _ _ ⟨_, rfl, _⟩; rfl) h) (fun cdv A outer s H vs Q E hr h => ⟨_, (pss_one (ps_ret (pe_op DL.op_plus pe_int (pe_callB (call_max2 rfl) (by rfl) m_max (by decide +kernel) (pa_cons (DL.pe_via v_levels hr (by omega) (pe_fld (pv 0) rfl)) (pa_cons (DL.pe_via v_levels hr (by omega) (pe_fld (pv 0) rfl)) pa_nil)))))), body0 h ?_⟩)
  try dsimp only [cxOf]
  intro ds Φ X F hW hE
  obtain ⟨t, rfl, ht, hl, hΦ⟩ := hW
  cases t <;> first | (cases ht; done) | skip
  rename_i op a b
  have o := T.tw
  have hl' : 1 + max a.lv b.lv ≤ n + 1 := hl
  walk_at "c"
  refine wE_tm (nf_levels c) ?_
  walk_at "c"
  refine ⟨a, rfl, a, rfl, rfl, by omega, rsp_fz ?_⟩
  walk_at "c"
  refine wE_tm (nf_levels c) ?_
  walk_at "c"
  refine ⟨b, rfl, b, rfl, rfl, by omega, rsp_fz ?_⟩
  walk_at "c"
  have e : (1 : Int) + (if (b.lv : Int) > (a.lv : Int) then (b.lv : Int) else (a.lv : Int)) = ((Tm.tw op a b).lv : Int) := by
    show _ = ((1 + max a.lv b.lv : Nat) : Int)
    split <;> omega
  rw [e]
  exact hΦ

theorem ok_Not_levels {n : Nat} {f : Addr} {fd : FuncData} (F : L2.Fun K "levels" "Not.levels" s_Not_levels f fd) (T : Txt K mg c) (v_levels : ∀ z ∈ vias K c (W_levels c n), MCallee P w K mg base (0 + n) z.1 "levels" z.2) : FnOk P w K mg base L2.CX0 (0 + n + 1) f fd ["self"] (sp0 K (W_levels c (n + 1) 3)) := by
  refine F.ok sc_Not_levels (fun vs H Q E h => sp0_len (by rintro _ _ _ ⟨_, rfl, _⟩; rfl) h) (fun cdv A outer s H vs Q E hr h => ⟨_, (pss_one (ps_ret (pe_op DL.op_plus pe_int (DL.pe_via v_levels hr (by omega) (pe_fld (pv 0) rfl))))), body0 h ?_⟩)
  try dsimp only [cxOf]
  intro ds Φ X F hW hE
  obtain ⟨t, rfl, ht, hl, hΦ⟩ := hW
  cases t <;> first | (cases ht; done) | skip
  rename_i a
  have o := T.nt
  have hl' : 1 + a.lv ≤ n + 1 := hl
  walk_at "c"
  refine wE_tm (nf_levels c) ?_
  walk_at "c"
  refine ⟨a, rfl, a, rfl, rfl, by omega, rsp_fz ?_⟩
  walk_at "c"
  have e : (1 : Int) + (a.lv : Int) = ((Tm.nt a).lv : Int) := by
    show _ = ((1 + a.lv : Nat) : Int)
    omega
  rw [e]
  exact hΦ

theorem ok_Pick_levels {n : Nat} {f : Addr} {fd : FuncData} (F : L2.Fun K "levels" "Pick.levels" s_Pick_levels f fd) (T : Txt K mg c) (v_levels : ∀ z ∈ vias K c (W_levels c n), MCallee P w K mg base (0 + n) z.1 "levels" z.2) (m_max : mg "max" = none) : FnOk P w K mg base L2.CX0 (0 + n + 1) f fd ["self"] (sp0 K (W_levels c (n + 1) 4)) := by
  refine F.ok sc_Pick_levels (fun vs H Q E h => sp0_len (by rintro _ _ _ ⟨_, rfl, _⟩; rfl) h) (fun cdv A outer s H vs Q E hr h => ⟨_, (pss_one (ps_ret (pe_op DL.op_plus pe_int (pe_callB (call_max3Nu rfl) (by rfl) m_max (by decide +kernel) (pa_cons (DL.pe_via v_levels hr (by omega) (pe_fld (pv 0) rfl)) (pa_cons (DL.pe_via v_levels hr (by omega) (pe_fld (pv 0) rfl)) (pa_cons (DL.pe_via v_levels hr (by omega) (pe_fld (pv 0) rfl)) pa_nil))))))), body0 h ?_⟩)
  try dsimp only [cxOf]
  intro ds Φ X F hW hE
  obtain ⟨t, rfl, ht, hl, hΦ⟩ := hW
  cases t <;> first | (cases ht; done) | skip
  rename_i a b e
  have o := T.pk
  have hl' : 1 + max (max a.lv b.lv) e.lv ≤ n + 1 := hl
  walk_at "c"
  refine wE_tm (nf_levels c) ?_
  walk_at "c"
  refine ⟨a, rfl, a, rfl, rfl, by omega, rsp_fz ?_⟩
  walk_at "c"
  refine wE_tm (nf_levels c) ?_
  walk_at "c"
  refine ⟨b, rfl, b, rfl, rfl, by omega, rsp_fz ?_⟩
  walk_at "c"
  refine wE_tm (nf_levels c) ?_
  walk_at "c"
  refine ⟨e, rfl, e, rfl, rfl, by omega, rsp_fz ?_⟩
  walk_at "c"
  refine wC_max3 ?_
  walk_at "c"
  have e1 : (1 : Int) + mx (mx (a.lv : Int) (b.lv : Int)) (e.lv : Int) = ((Tm.pk a b e).lv : Int) := by
    rw [mx_nat, mx_nat]
    show _ = ((1 + max (max a.lv b.lv) e.lv : Nat) : Int)
    omega
  rw [e1]
  exact hΦ

theorem ok_Name_words {n : Nat} {f : Addr} {fd : FuncData} (F : L2.Fun K "words" "Name.words" s_Name_words f fd) (T : Txt K mg c)  : FnOk P w K mg base L2.CX0 (1 + n + 1) f fd ["self"] (sp0 K (W_words c (n + 1) 0)) := by
  refine F.ok sc_Name_words (fun vs H Q E h => sp0_len (by rintro _ _ _ ⟨_, rfl, _⟩; rfl) h) (fun cdv A outer s H vs Q E hr h => ⟨_, (pss_one (ps_ret (pe_fld (pv 0) rfl))), body0 h ?_⟩)
  try dsimp only [cxOf]
  intro ds Φ X F hW hE
  obtain ⟨t, rfl, ht, hl, h5, hok, hΦ⟩ := hW
  cases t <;> first | (cases ht; done) | skip
  have o := T.nm
  walk_at "c"
  exact hΦ

theorem ok_Value_words {n : Nat} {f : Addr} {fd : FuncData} (F : L2.Fun K "words" "Value.words" s_Value_words f fd) (T : Txt K mg c) (c_value_text : Callee P w K mg base 1 "value_text" (sp0 K W_value_text)) : FnOk P w K mg base L2.CX0 (1 + n + 1) f fd ["self"] (sp0 K (W_words c (n + 1) 1)) := by
  refine F.ok sc_Value_words (fun vs H Q E h => sp0_len (by rintro _ _ _ ⟨_, rfl, _⟩; rfl) h) (fun cdv A outer s H vs Q E hr h => ⟨_, (pss_one (ps_ret (DL.pe_cl c_value_text hr (by omega) (by rfl) (pa_cons (pe_fld (pv 0) rfl) pa_nil)))), body0 h ?_⟩)
  try dsimp only [cxOf]
  intro ds Φ X F hW hE
  obtain ⟨t, rfl, ht, hl, h5, hok, hΦ⟩ := hW
  cases t <;> first | (cases ht; done) | skip
  rename_i v
  have o := T.vl
  walk_at "c"
  cases v with
  | bl b => exact ⟨.t b, rfl, trivial, rsp_fz (by cases b <;> exact hΦ)⟩
  | int i => exact ⟨.n i, rfl, hok, rsp_fz hΦ⟩
  | _ => exact absurd hok (fun z => z)

theorem ok_Two_words {n : Nat} {f : Addr} {fd : FuncData} (F : L2.Fun K "words" "Two.words" s_Two_words f fd) (T : Txt K mg c) (v_words : ∀ z ∈ vias K c (W_words c n), MCallee P w K mg base (1 + n) z.1 "words" z.2) : FnOk P w K mg base L2.CX0 (1 + n + 1) f fd ["self"] (sp0 K (W_words c (n + 1) 2)) := by
  refine F.ok sc_Two_words (fun vs H Q E h => sp0_len (by rintro _ _ _ ⟨_, rfl, _⟩; rfl) h) (fun cdv A outer s H vs Q E hr h => ⟨_, (pss_one (ps_ret (pe_joined (L2.PJ.cons pe_str (L2.PJ.cons (pe_fmt (DL.pe_via v_words hr (by omega) (pe_fld (pv 0) rfl))) (L2.PJ.cons pe_str (L2.PJ.cons (pe_fmt (pe_fld (pv 0) rfl)) (L2.PJ.cons pe_str (L2.PJ.cons (pe_fmt (DL.pe_via v_words hr (by omega) (pe_fld (pv 0) rfl))) (L2.PJ.cons pe_str L2.PJ.nil)))))))))), body0 h ?_⟩)
  try dsimp only [cxOf]
  intro ds Φ X F hW hE
  obtain ⟨t, rfl, ht, hl, h5, hok, hΦ⟩ := hW
  cases t <;> first | (cases ht; done) | skip
  rename_i op a b
  have o := T.tw
  have hl' : 1 + max a.lv b.lv ≤ n + 1 := hl
  have h5' : 1 + max a.lv b.lv ≤ 5 := h5
  have a1 := tx_small (t := a) hok.2.1 (by omega)
  have b1 := tx_small (t := b) hok.2.2 (by omega)
  have o1 := (op_small op hok.1).1
  have b2 := tx_small (t := .tw op a b) hok h5
  have sz : 200000 ≤ sizeLine := by decide
  rw [tx_tw] at b2 hΦ
  simp only [len_app] at b2
  refine wS_ret (wE_joined ?_)
  dsimp only [wJ]
  refine wE_str ⟨_, rfl, by decide +kernel, ?_⟩
  refine wE_fmt (wE_tm (nf_words c) ?_)
  walk_at "c"
  refine ⟨a, rfl, a, rfl, rfl, by omega, by omega, hok.2.1, rsp_fz ⟨_, rfl, by omega, _, rfl, by simp only [len_app]; omega, ?_⟩⟩
  refine wE_str ⟨_, rfl, by simp only [len_app]; omega, ?_⟩
  refine wE_fmt ?_
  walk_at "c"
  refine ⟨_, rfl, by omega, _, rfl, by simp only [len_app]; omega, ?_⟩
  refine wE_str ⟨_, rfl, by simp only [len_app]; omega, ?_⟩
  refine wE_fmt (wE_tm (nf_words c) ?_)
  walk_at "c"
  refine ⟨b, rfl, b, rfl, rfl, by omega, by omega, hok.2.2, rsp_fz ⟨_, rfl, by omega, _, rfl, by simp only [len_app]; omega, ?_⟩⟩
  exact wE_str ⟨_, rfl, by simp only [len_app]; omega, hΦ⟩

theorem ok_Not_words {n : Nat} {f : Addr} {fd : FuncData} (F : L2.Fun K "words" "Not.words" s_Not_words f fd) (T : Txt K mg c) (v_words : ∀ z ∈ vias K c (W_words c n), MCallee P w K mg base (1 + n) z.1 "words" z.2) : FnOk P w K mg base L2.CX0 (1 + n + 1) f fd ["self"] (sp0 K (W_words c (n + 1) 3)) := by
  refine F.ok sc_Not_words (fun vs H Q E h => sp0_len (by rintro _ _ _ ⟨_, rfl, _⟩; rfl) h) (fun cdv A outer s H vs Q E hr h => ⟨_, (pss_one (ps_ret (pe_joined (L2.PJ.cons pe_str (L2.PJ.cons (pe_fmt (DL.pe_via v_words hr (by omega) (pe_fld (pv 0) rfl))) (L2.PJ.cons pe_str L2.PJ.nil)))))), body0 h ?_⟩)
  try dsimp only [cxOf]
  intro ds Φ X F hW hE
  obtain ⟨t, rfl, ht, hl, h5, hok, hΦ⟩ := hW
  cases t <;> first | (cases ht; done) | skip
  rename_i a
  have o := T.nt
  have hl' : 1 + a.lv ≤ n + 1 := hl
  have h5' : 1 + a.lv ≤ 5 := h5
  have b1 := tx_small (t := a) hok (by omega)
  have b2 := tx_small (t := .nt a) hok h5
  have sz : 200000 ≤ sizeLine := by decide
  rw [tx_nt] at b2 hΦ
  refine wS_ret (wE_joined ?_)
  dsimp only [wJ]
  refine wE_str ⟨_, rfl, by decide +kernel, ?_⟩
  refine wE_fmt (wE_tm (nf_words c) ?_)
  walk_at "c"
  refine ⟨a, rfl, a, rfl, rfl, by omega, by omega, hok, rsp_fz ⟨_, rfl, by omega, _, rfl, ?_, ?_⟩⟩
  · rw [len_app] at b2; omega
  · exact wE_str ⟨_, rfl, by omega, hΦ⟩

theorem ok_Pick_words {n : Nat} {f : Addr} {fd : FuncData} (F : L2.Fun K "words" "Pick.words" s_Pick_words f fd) (T : Txt K mg c) (v_words : ∀ z ∈ vias K c (W_words c n), MCallee P w K mg base (1 + n) z.1 "words" z.2) : FnOk P w K mg base L2.CX0 (1 + n + 1) f fd ["self"] (sp0 K (W_words c (n + 1) 4)) := by
  refine F.ok sc_Pick_words (fun vs H Q E h => sp0_len (by rintro _ _ _ ⟨_, rfl, _⟩; rfl) h) (fun cdv A outer s H vs Q E hr h => ⟨_, (pss_one (ps_ret (pe_joined (L2.PJ.cons pe_str (L2.PJ.cons (pe_fmt (DL.pe_via v_words hr (by omega) (pe_fld (pv 0) rfl))) (L2.PJ.cons pe_str (L2.PJ.cons (pe_fmt (DL.pe_via v_words hr (by omega) (pe_fld (pv 0) rfl))) (L2.PJ.cons pe_str (L2.PJ.cons (pe_fmt (DL.pe_via v_words hr (by omega) (pe_fld (pv 0) rfl))) (L2.PJ.cons pe_str L2.PJ.nil)))))))))), body0 h ?_⟩)
  try dsimp only [cxOf]
  intro ds Φ X F hW hE
  obtain ⟨t, rfl, ht, hl, h5, hok, hΦ⟩ := hW
  cases t <;> first | (cases ht; done) | skip
  rename_i a b e
  have o := T.pk
  have hl' : 1 + max (max a.lv b.lv) e.lv ≤ n + 1 := hl
  have h5' : 1 + max (max a.lv b.lv) e.lv ≤ 5 := h5
  have a1 := tx_small (t := a) hok.1 (by omega)
  have b1 := tx_small (t := b) hok.2.1 (by omega)
  have e1 := tx_small (t := e) hok.2.2 (by omega)
  have b2 := tx_small (t := .pk a b e) hok h5
  have sz : 200000 ≤ sizeLine := by decide
  rw [tx_pk] at b2 hΦ
  simp only [len_app] at b2
  refine wS_ret (wE_joined ?_)
  dsimp only [wJ]
  refine wE_str ⟨_, rfl, by decide +kernel, ?_⟩
  refine wE_fmt (wE_tm (nf_words c) ?_)
  walk_at "c"
  refine ⟨a, rfl, a, rfl, rfl, by omega, by omega, hok.1, rsp_fz ⟨_, rfl, by omega, _, rfl, by simp only [len_app]; omega, ?_⟩⟩
  refine wE_str ⟨_, rfl, by simp only [len_app]; omega, ?_⟩
  refine wE_fmt (wE_tm (nf_words c) ?_)
  walk_at "c"
  refine ⟨b, rfl, b, rfl, rfl, by omega, by omega, hok.2.1, rsp_fz ⟨_, rfl, by omega, _, rfl, by simp only [len_app]; omega, ?_⟩⟩
  refine wE_str ⟨_, rfl, by simp only [len_app]; omega, ?_⟩
  refine wE_fmt (wE_tm (nf_words c) ?_)
  walk_at "c"
  refine ⟨e, rfl, e, rfl, rfl, by omega, by omega, hok.2.2, rsp_fz ⟨_, rfl, by omega, _, rfl, by simp only [len_app]; omega, ?_⟩⟩
  exact wE_str ⟨_, rfl, by simp only [len_app]; omega, hΦ⟩

theorem ok__inner {f : Addr} {fd : FuncData} (F : L2.Fun K "_inner" "_inner" s__inner f fd) (T : Txt K mg c) (v_levels : ∀ z ∈ vias K c (W_levels c 5), MCallee P w K mg base (0 + 5) z.1 "levels" z.2) (g_Pick : mg "Pick" = some (.ref c.pk)) (g_Not : mg "Not" = some (.ref c.nt)) (g_Two : mg "Two" = some (.ref c.tw)) (g_Value : mg "Value" = some (.ref c.vl)) (g_Name : mg "Name" = some (.ref c.nm)) (m_isinstance : mg "isinstance" = none) (k_LEVELS : Kon K mg "LEVELS" (.int 5)) : FnOk P w K mg base L2.CX0 6 f fd ["thing"] (sp0 K (W__inner c)) := by
  obtain ⟨u_LEVELS, v_LEVELS, m_LEVELS, r_LEVELS, q_LEVELS⟩ := k_LEVELS.ex
  refine F.ok sc__inner (fun vs H Q E h => sp0_len (by rintro _ _ _ ⟨_, rfl, _⟩; rfl) h) (fun cdv A outer s H vs Q E hr h => ⟨_, (pss_cons (ps_if (PW.pt (pw_or (pt_not (pt_val (pe_callB call_isiT (by rfl) m_isinstance PyProof.Rows.boot_isinstance (pa_cons (pv 0) (pa_cons (pe_tup (pa_cons (pe_glob (v := .ref c.nm) (by rfl) g_Name rfl) (pa_cons (pe_glob (v := .ref c.vl) (by rfl) g_Value rfl) (pa_cons (pe_glob (v := .ref c.tw) (by rfl) g_Two rfl) (pa_cons (pe_glob (v := .ref c.nt) (by rfl) g_Not rfl) (pa_cons (pe_glob (v := .ref c.pk) (by rfl) g_Pick rfl) pa_nil)))))) pa_nil))))) (pw_or1 (pt_cmpR (op_eqD hr.units) (DL.pe_via v_levels hr (by omega) (pv 0)) (pe_glob (by rfl) m_LEVELS r_LEVELS) (nomark _))))) (pss_one DL.ps_bad) pss_nil) (pss_one (ps_ret (pv 0)))), body0 h ?_⟩)
  try dsimp only [cxOf]
  intro ds Φ X F hW hE
  obtain ⟨t, rfl, hl, hΦ⟩ := hW
  walk_at "nm"
  refine wS_seq (wS_if (wT_or (wT_not (wT_B (wE_isiT (Cs := c.all) (fun _ _ _ q => q) (Nat.le_of_ble_eq_true rfl) ?_)))))
  walk_at "c"
  refine ⟨_, _, T.kd t, T.any t, ?_⟩
  refine onB_bl ?_
  refine ways_f ?_
  walk_at "c"
  refine wE_tm (nf_levels c) ?_
  walk_at "c"
  refine ⟨t, rfl, t, rfl, rfl, by omega, rsp_fz ?_⟩
  walk_at "c"
  refine ways_ev_f ?_ ?_
  · rw [eqi]; exact beq_eq_false_iff_ne.mpr (by omega)
  walk_at "c"
  exact hΦ

theorem ok_Name_init {f : Addr} {fd : FuncData} (F : L2.Fun K "__init__" "Name.__init__" s_Name_init f fd) (T : Txt K mg c) (c_is_pointed : Callee P w K mg base 2 "is_pointed" (sp0 K W_is_pointed)) : FnOk P w K mg base L2.CX0 3 f fd ["self", "name"] (spI K c.nm (W_Name_init c)) := by
  refine F.ok sc_Name_init (fun vs H Q E h => spI_len (by rintro _ _ ⟨_, rfl, _⟩; rfl) h) (fun cdv A outer s H vs Q E hr h => ⟨_, (pss_cons (ps_if (pt_not (pt_val (DL.pe_cl c_is_pointed hr (by omega) (by rfl) (pa_cons (pv 1) pa_nil)))) (pss_one DL.ps_bad) pss_nil) (pss_one (ps_fld (pv 0) (pv 1) rfl))), bodyI h ?_⟩)
  try dsimp only [cxOf]
  intro ds Φ hW
  obtain ⟨s, rfl, hg, hΦ⟩ := hW
  refine wI_if (fun F => ?_)
  walk_at "c"
  refine ⟨_, rfl, hg.gd, rsp_fz ⟨rfl, ways_ev_f (by rw [hg.2.2]; rfl) ?_⟩⟩
  refine wI_skip (wI_last (wI_fld T.nm (by decide +kernel) (Nat.le_of_ble_eq_true rfl) (fun F => ?_)))
  walk_at "c"
  exact ⟨rfl, wI_end hΦ⟩

theorem ok_Value_init {f : Addr} {fd : FuncData} (F : L2.Fun K "__init__" "Value.__init__" s_Value_init f fd) (T : Txt K mg c) (c_is_value : Callee P w K mg base 3 "is_value" (sp0 K W_is_value)) : FnOk P w K mg base L2.CX0 4 f fd ["self", "value"] (spI K c.vl (W_Value_init c)) := by
  refine F.ok sc_Value_init (fun vs H Q E h => spI_len (by rintro _ _ ⟨_, rfl, _⟩; rfl) h) (fun cdv A outer s H vs Q E hr h => ⟨_, (pss_cons (ps_if (pt_not (pt_val (DL.pe_cl c_is_value hr (by omega) (by rfl) (pa_cons (pv 1) pa_nil)))) (pss_one DL.ps_bad) pss_nil) (pss_one (ps_fld (pv 0) (pv 1) rfl))), bodyI h ?_⟩)
  try dsimp only [cxOf]
  intro ds Φ hW
  obtain ⟨v, rfl, hg, hΦ⟩ := hW
  refine wI_if (fun F => ?_)
  walk_at "c"
  have hb : inB v = true ∧ (tyD v).isSome = true := by
    cases v <;> first | exact hg.elim | exact ⟨rfl, rfl⟩ | skip
    refine ⟨?_, rfl⟩
    show (decide _ && decide _) = true
    rw [decide_eq_true hg.1, decide_eq_true hg.2]
    rfl
  refine ⟨_, rfl, hb.2, rsp_fz ⟨rfl, ways_ev_f (by rw [hb.1]; rfl) ?_⟩⟩
  refine wI_skip (wI_last (wI_fld T.vl (by decide +kernel) (Nat.le_of_ble_eq_true rfl) (fun F => ?_)))
  walk_at "c"
  exact ⟨rfl, wI_end hΦ⟩

theorem ok_Two_init {f : Addr} {fd : FuncData} (F : L2.Fun K "__init__" "Two.__init__" s_Two_init f fd) (T : Txt K mg c) (c_ops_told : Callee P w K mg base 1 "ops_told" (sp0 K W_ops_told)) (c__inner : Callee P w K mg base 6 "_inner" (sp0 K (W__inner c))) : FnOk P w K mg base L2.CX0 7 f fd ["self", "op", "one", "other"] (spI K c.tw (W_Two_init c)) := by
  refine F.ok sc_Two_init (fun vs H Q E h => spI_len (by rintro _ _ ⟨_, _, _, rfl, _⟩; rfl) h) (fun cdv A outer s H vs Q E hr h => ⟨_, (pss_cons (ps_if (pt_cmpR op_notIn_seq (pv 1) (DL.pe_cl0 c_ops_told hr (by omega) (by rfl)) (by rfl)) (pss_one DL.ps_bad) pss_nil) (pss_cons (ps_fld (pv 0) (pv 1) rfl) (pss_cons (ps_fld (pv 0) (DL.pe_cl c__inner hr (by omega) (by rfl) (pa_cons (pv 2) pa_nil)) rfl) (pss_one (ps_fld (pv 0) (DL.pe_cl c__inner hr (by omega) (by rfl) (pa_cons (pv 3) pa_nil)) rfl))))), bodyI h ?_⟩)
  try dsimp only [cxOf]
  intro ds Φ hW
  obtain ⟨op, a, b, rfl, ho, ha, hb, hΦ⟩ := hW
  refine wI_if (fun F => ?_)
  walk_at "c"
  refine ⟨rfl, rsp_ow ?_⟩
  refine wR_niL rfl rfl ?_
  walk_at "c"
  refine ⟨rfl, ways_ev_f (by rw [ops_in op ho]; rfl) ?_⟩
  refine wI_skip (wI_fld T.tw (by decide +kernel) (Nat.le_of_ble_eq_true rfl) (fun F => ?_))
  walk_at "c"
  refine ⟨rfl, wI_fld T.tw (by decide +kernel) (Nat.le_of_ble_eq_true rfl) (fun F => ?_)⟩
  walk_at "c"
  refine ⟨a, rfl, ha, rsp_fz ⟨rfl, wI_last (wI_fld T.tw (by decide +kernel) (Nat.le_of_ble_eq_true rfl) (fun F => ?_))⟩⟩
  walk_at "c"
  refine ⟨b, rfl, hb, rsp_fz ⟨rfl, wI_end ?_⟩⟩
  exact hΦ

theorem ok_Not_init {f : Addr} {fd : FuncData} (F : L2.Fun K "__init__" "Not.__init__" s_Not_init f fd) (T : Txt K mg c) (c__inner : Callee P w K mg base 6 "_inner" (sp0 K (W__inner c))) : FnOk P w K mg base L2.CX0 7 f fd ["self", "one"] (spI K c.nt (W_Not_init c)) := by
  refine F.ok sc_Not_init (fun vs H Q E h => spI_len (by rintro _ _ ⟨_, rfl, _⟩; rfl) h) (fun cdv A outer s H vs Q E hr h => ⟨_, (pss_one (ps_fld (pv 0) (DL.pe_cl c__inner hr (by omega) (by rfl) (pa_cons (pv 1) pa_nil)) rfl)), bodyI h ?_⟩)
  try dsimp only [cxOf]
  intro ds Φ hW
  obtain ⟨a, rfl, ha, hΦ⟩ := hW
  refine wI_last (wI_fld T.nt (by decide +kernel) (Nat.le_of_ble_eq_true rfl) (fun F => ?_))
  walk_at "c"
  refine ⟨a, rfl, ha, rsp_fz ⟨rfl, wI_end ?_⟩⟩
  exact hΦ

theorem ok_Pick_init {f : Addr} {fd : FuncData} (F : L2.Fun K "__init__" "Pick.__init__" s_Pick_init f fd) (T : Txt K mg c) (c__inner : Callee P w K mg base 6 "_inner" (sp0 K (W__inner c))) : FnOk P w K mg base L2.CX0 7 f fd ["self", "by", "one", "other"] (spI K c.pk (W_Pick_init c)) := by
  refine F.ok sc_Pick_init (fun vs H Q E h => spI_len (by rintro _ _ ⟨_, _, _, rfl, _⟩; rfl) h) (fun cdv A outer s H vs Q E hr h => ⟨_, (pss_cons (ps_fld (pv 0) (DL.pe_cl c__inner hr (by omega) (by rfl) (pa_cons (pv 1) pa_nil)) rfl) (pss_cons (ps_fld (pv 0) (DL.pe_cl c__inner hr (by omega) (by rfl) (pa_cons (pv 2) pa_nil)) rfl) (pss_one (ps_fld (pv 0) (DL.pe_cl c__inner hr (by omega) (by rfl) (pa_cons (pv 3) pa_nil)) rfl)))), bodyI h ?_⟩)
  try dsimp only [cxOf]
  intro ds Φ hW
  obtain ⟨a, b, e, rfl, ha, hb, he, hΦ⟩ := hW
  refine wI_fld T.pk (by decide +kernel) (Nat.le_of_ble_eq_true rfl) (fun F => ?_)
  walk_at "c"
  refine ⟨a, rfl, ha, rsp_fz ⟨rfl, wI_fld T.pk (by decide +kernel) (Nat.le_of_ble_eq_true rfl) (fun F => ?_)⟩⟩
  walk_at "c"
  refine ⟨b, rfl, hb, rsp_fz ⟨rfl, wI_last (wI_fld T.pk (by decide +kernel) (Nat.le_of_ble_eq_true rfl) (fun F => ?_))⟩⟩
  walk_at "c"
  refine ⟨e, rfl, he, rsp_fz ⟨rfl, wI_end ?_⟩⟩
  exact hΦ

theorem ok__made_of {n : Nat} {f : Addr} {fd : FuncData} (F : L2.Fun K "_made_of" "_made_of" s__made_of f fd) (T : Txt K mg c) (c__made_of : Callee P w K mg base (8 + n) "_made_of" (sp0 K (W__made_of c n))) (n_Name : KCallee P w K mg base 3 "Name" c.nm (spI K c.nm (W_Name_init c))) (n_Value : KCallee P w K mg base 4 "Value" c.vl (spI K c.vl (W_Value_init c))) (n_Not : KCallee P w K mg base 7 "Not" c.nt (spI K c.nt (W_Not_init c))) (n_Two : KCallee P w K mg base 7 "Two" c.tw (spI K c.tw (W_Two_init c))) (n_Pick : KCallee P w K mg base 7 "Pick" c.pk (spI K c.pk (W_Pick_init c))) (m_isinstance : mg "isinstance" = none) (m_tuple : mg "tuple" = none) (m_len : mg "len" = none) : FnOk P w K mg base L2.CX0 (8 + n + 1) f fd ["told"] (sp0 K (W__made_of c (n + 1))) := by
  refine F.ok sc__made_of (fun vs H Q E h => sp0_len (by rintro _ _ _ ⟨_, rfl, _⟩; rfl) h) (fun cdv A outer s H vs Q E hr h => ⟨_, (pss_cons (ps_if (PW.pt (pw_or (pt_not (pt_val (pe_callB call_isi (by rfl) m_isinstance PyProof.Rows.boot_isinstance (pa_cons (pv 0) (pa_cons (pe_bltn (v := .ty "tuple") (by rfl) m_tuple PyProof.Rows.boot_tuple rfl) pa_nil))))) (pw_or1 (pt_not (pt_truth (pv 0) (by intro _; rfl)))))) (pss_one DL.ps_bad) pss_nil) (pss_cons (ps_set (i := 1) sc__made_of.nd rfl (Or.inl rfl) (pe_tup (pa_cons (pe_ix ix_seq (pv 0) pe_int (fun _ _ => rfl)) (pa_cons (pe_callB call_len (by rfl) m_len PySem.boot_len (pa_cons (pv 0) pa_nil)) pa_nil)))) (pss_cons (ps_if (pt_cmpR (op_eqD hr.units) (pv 1) (pe_tup (pa_cons pe_str (pa_cons pe_int pa_nil))) (nomark _)) (pss_one (ps_ret (DL.pe_new1 n_Name hr (by omega) (by rfl) (pa_cons (pe_ix ix_seq (pv 0) pe_int (fun _ _ => rfl)) pa_nil)))) pss_nil) (pss_cons (ps_if (pt_cmpR (op_eqD hr.units) (pv 1) (pe_tup (pa_cons pe_str (pa_cons pe_int pa_nil))) (nomark _)) (pss_one (ps_ret (DL.pe_new1 n_Value hr (by omega) (by rfl) (pa_cons (pe_ix ix_seq (pv 0) pe_int (fun _ _ => rfl)) pa_nil)))) pss_nil) (pss_cons (ps_if (pt_cmpR (op_eqD hr.units) (pv 1) (pe_tup (pa_cons pe_str (pa_cons pe_int pa_nil))) (nomark _)) (pss_one (ps_ret (DL.pe_new1 n_Not hr (by omega) (by rfl) (pa_cons (DL.pe_cl c__made_of hr (by omega) (by rfl) (pa_cons (pe_ix ix_seq (pv 0) pe_int (fun _ _ => rfl)) pa_nil)) pa_nil)))) pss_nil) (pss_cons (ps_if (pt_cmpR (op_eqD hr.units) (pv 1) (pe_tup (pa_cons pe_str (pa_cons pe_int pa_nil))) (nomark _)) (pss_one (ps_ret (DL.pe_new1 n_Two hr (by omega) (by rfl) (pa_cons (pe_ix ix_seq (pv 0) pe_int (fun _ _ => rfl)) (pa_cons (DL.pe_cl c__made_of hr (by omega) (by rfl) (pa_cons (pe_ix ix_seq (pv 0) pe_int (fun _ _ => rfl)) pa_nil)) (pa_cons (DL.pe_cl c__made_of hr (by omega) (by rfl) (pa_cons (pe_ix ix_seq (pv 0) pe_int (fun _ _ => rfl)) pa_nil)) pa_nil)))))) pss_nil) (pss_cons (ps_if (pt_cmpR (op_eqD hr.units) (pv 1) (pe_tup (pa_cons pe_str (pa_cons pe_int pa_nil))) (nomark _)) (pss_one (ps_ret (DL.pe_new1 n_Pick hr (by omega) (by rfl) (pa_cons (DL.pe_cl c__made_of hr (by omega) (by rfl) (pa_cons (pe_ix ix_seq (pv 0) pe_int (fun _ _ => rfl)) pa_nil)) (pa_cons (DL.pe_cl c__made_of hr (by omega) (by rfl) (pa_cons (pe_ix ix_seq (pv 0) pe_int (fun _ _ => rfl)) pa_nil)) (pa_cons (DL.pe_cl c__made_of hr (by omega) (by rfl) (pa_cons (pe_ix ix_seq (pv 0) pe_int (fun _ _ => rfl)) pa_nil)) pa_nil)))))) pss_nil) (pss_one DL.ps_bad)))))))), body0 h ?_⟩)
  try dsimp only [cxOf]
  intro ds Φ X F hW hE
  obtain ⟨t, rfl, hok, hl, h5, hΦ⟩ := hW
  cases t with
  | nm s =>
    dsimp only [Tm.told]
    walk_at "c"
    refine wT_truT (b := true) ?_
    walk_at "c"
    refine ⟨_, rfl, rfl, ?_⟩
    walk_at "c"
    exact ⟨s, rfl, hok, hΦ⟩
  | vl v =>
    dsimp only [Tm.told]
    walk_at "c"
    refine wT_truT (b := true) ?_
    walk_at "c"
    refine ⟨_, rfl, rfl, ?_⟩
    walk_at "c"
    exact ⟨v, rfl, hok, hΦ⟩
  | nt a =>
    have hl' : 1 + a.lv ≤ n + 1 := hl
    have h5' : 1 + a.lv ≤ 5 := h5
    dsimp only [Tm.told]
    walk_at "c"
    refine wT_truT (b := true) ?_
    walk_at "c"
    refine ⟨_, rfl, rfl, ?_⟩
    walk_at "c"
    refine ⟨a, rfl, hok, by omega, by omega, rsp_fz ?_⟩
    walk_at "c"
    exact ⟨a, rfl, by omega, hΦ⟩
  | tw op a b =>
    have hl' : 1 + max a.lv b.lv ≤ n + 1 := hl
    have h5' : 1 + max a.lv b.lv ≤ 5 := h5
    dsimp only [Tm.told]
    walk_at "c"
    refine wT_truT (b := true) ?_
    walk_at "c"
    refine ⟨_, rfl, rfl, ?_⟩
    walk_at "c"
    refine ⟨a, rfl, hok.2.1, by omega, by omega, rsp_fz ?_⟩
    walk_at "c"
    refine ⟨b, rfl, hok.2.2, by omega, by omega, rsp_fz ?_⟩
    walk_at "c"
    exact ⟨op, a, b, rfl, hok.1, by omega, by omega, hΦ⟩
  | pk a b e =>
    have hl' : 1 + max (max a.lv b.lv) e.lv ≤ n + 1 := hl
    have h5' : 1 + max (max a.lv b.lv) e.lv ≤ 5 := h5
    dsimp only [Tm.told]
    walk_at "c"
    refine wT_truT (b := true) ?_
    walk_at "c"
    refine ⟨_, rfl, rfl, ?_⟩
    walk_at "c"
    refine ⟨a, rfl, hok.1, by omega, by omega, rsp_fz ?_⟩
    walk_at "c"
    refine ⟨b, rfl, hok.2.1, by omega, by omega, rsp_fz ?_⟩
    walk_at "c"
    refine ⟨e, rfl, hok.2.2, by omega, by omega, rsp_fz ?_⟩
    walk_at "c"
    exact ⟨a, b, e, rfl, by omega, by omega, by omega, hΦ⟩

theorem ok_term_of {f : Addr} {fd : FuncData} (F : L2.Fun K "term_of" "term_of" s_term_of f fd) (T : Txt K mg c) (c__made_of : Callee P w K mg base (8 + 5) "_made_of" (sp0 K (W__made_of c 5))) : FnOk P w K mg base L2.CX0 14 f fd ["told"] (sp0 K (W_term_of c)) := by
  refine F.ok sc_term_of (fun vs H Q E h => sp0_len (by rintro _ _ _ ⟨_, rfl, _⟩; rfl) h) (fun cdv A outer s H vs Q E hr h => ⟨_, (pss_one (ps_try_thru0 (pss_one (ps_ret (DL.pe_cl c__made_of hr (by omega) (by rfl) (pa_cons (pv 0) pa_nil)))))), body0 h ?_⟩)
  try dsimp only [cxOf]
  intro ds Φ X F hW hE
  obtain ⟨t, rfl, hok, hl, hΦ⟩ := hW
  walk_at "c"
  exact ⟨t, rfl, hok, hl, hl, hΦ⟩

theorem ok_Name_renamed {n : Nat} {f : Addr} {fd : FuncData} (F : L2.Fun K "renamed" "Name.renamed" s_Name_renamed f fd) (T : Txt K mg c) (c_name_for : CalleeX P w K mg base 4 "name_for" (sp0 K (W_name_for nn))) (n_Name : KCallee P w K mg base 3 "Name" c.nm (spI K c.nm (W_Name_init c))) : FnOk P w K mg base (L2.CX P w) (8 + n + 1) f fd ["self", "names"] (sp0 K (W_renamed c nn (n + 1) 0)) := by
  refine F.okX sc_Name_renamed (fun vs H Q E h => sp0_len (by rintro _ _ _ ⟨_, _, rfl, _⟩; rfl) h) (fun cdv A outer s H vs Q E hr h => ⟨_, (pss_one (ps_ret (DL.pe_new1 n_Name hr (by omega) (by rfl) (pa_cons (DL.pe_clxS c_name_for hr (by omega) (by rfl) (takes_of rfl rfl rfl rfl) (pa_cons (pe_fld (pv 0) rfl) (pa_cons (pv 1) pa_nil))) pa_nil)))), body0 h ?_⟩)
  try dsimp only [cxOf]
  intro ds Φ X F hW hE
  obtain ⟨t, l, rfl, ht, hl, hok, hl5, hk, hΦ, hX⟩ := hW
  cases t <;> first | (cases ht; done) | skip
  rename_i s
  have o := T.nm
  walk_at "c"
  refine wE_callX hE ?_
  walk_at "c"
  refine ⟨l, s, rfl, hk, fun t q => rsp_fz ?_, fun d q => hX d (by unfold Tm.ren; rw [q])⟩
  walk_at "c"
  exact ⟨t, rfl, (namF_ok hk q).2, hΦ (.nm t) (by unfold Tm.ren; rw [q])⟩

theorem ok_Value_renamed {n : Nat} {f : Addr} {fd : FuncData} (F : L2.Fun K "renamed" "Value.renamed" s_Value_renamed f fd) (T : Txt K mg c)  : FnOk P w K mg base (L2.CX P w) (8 + n + 1) f fd ["self", "names"] (sp0 K (W_renamed c nn (n + 1) 1)) := by
  refine F.okX sc_Value_renamed (fun vs H Q E h => sp0_len (by rintro _ _ _ ⟨_, _, rfl, _⟩; rfl) h) (fun cdv A outer s H vs Q E hr h => ⟨_, (pss_one (ps_ret (pv 0))), body0 h ?_⟩)
  try dsimp only [cxOf]
  intro ds Φ X F hW hE
  obtain ⟨t, l, rfl, ht, hl, hok, hl5, hk, hΦ, hX⟩ := hW
  cases t <;> first | (cases ht; done) | skip
  rename_i v
  walk_at "c"
  exact hΦ (.vl v) rfl

theorem ok_Two_renamed {n : Nat} {f : Addr} {fd : FuncData} (F : L2.Fun K "renamed" "Two.renamed" s_Two_renamed f fd) (T : Txt K mg c) (v_renamed : ∀ z ∈ vias K c (W_renamed c nn n), MCalleeX P w K mg base (8 + n) z.1 "renamed" z.2) (n_Two : KCallee P w K mg base 7 "Two" c.tw (spI K c.tw (W_Two_init c))) : FnOk P w K mg base (L2.CX P w) (8 + n + 1) f fd ["self", "names"] (sp0 K (W_renamed c nn (n + 1) 2)) := by
  refine F.okX sc_Two_renamed (fun vs H Q E h => sp0_len (by rintro _ _ _ ⟨_, _, rfl, _⟩; rfl) h) (fun cdv A outer s H vs Q E hr h => ⟨_, (pss_one (ps_ret (DL.pe_new1 n_Two hr (by omega) (by rfl) (pa_cons (pe_fld (pv 0) rfl) (pa_cons (DL.pe_viaS v_renamed hr (by omega) (takes_of rfl rfl rfl rfl) (pe_fld (pv 0) rfl) (pa_cons (pv 1) pa_nil)) (pa_cons (DL.pe_viaS v_renamed hr (by omega) (takes_of rfl rfl rfl rfl) (pe_fld (pv 0) rfl) (pa_cons (pv 1) pa_nil)) pa_nil)))))), body0 h ?_⟩)
  try dsimp only [cxOf]
  intro ds Φ X F hW hE
  obtain ⟨t, l, rfl, ht, hl, hok, hl5, hk, hΦ, hX⟩ := hW
  cases t <;> first | (cases ht; done) | skip
  rename_i op a b
  have o := T.tw
  have hl' : 1 + max a.lv b.lv ≤ n + 1 := hl
  have hl6 : 1 + max a.lv b.lv ≤ 5 := hl5
  walk_at "c"
  refine wE_tmA hE (nf_renamed c) ?_
  walk_at "c"
  refine ⟨a, rfl, ?_⟩
  walk_at "c"
  refine ⟨a, l, rfl, rfl, by omega, hok.2.1, by omega, hk, fun x q => rsp_fz ?_, fun d q => hX d (by rw [Tm.ren, q])⟩
  walk_at "c"
  refine wE_tmA hE (nf_renamed c) ?_
  walk_at "c"
  refine ⟨b, rfl, ?_⟩
  walk_at "c"
  refine ⟨b, l, rfl, rfl, by omega, hok.2.2, by omega, hk, fun y q2 => rsp_fz ?_, fun d q2 => hX d (by rw [Tm.ren, q, q2])⟩
  walk_at "c"
  obtain ⟨k1, k2⟩ := Tm.ren_ok hk hok.2.1 q
  obtain ⟨k3, k4⟩ := Tm.ren_ok hk hok.2.2 q2
  exact ⟨op, x, y, rfl, hok.1, by omega, by omega, hΦ (.tw op x y) (by rw [Tm.ren, q, q2])⟩

theorem ok_Not_renamed {n : Nat} {f : Addr} {fd : FuncData} (F : L2.Fun K "renamed" "Not.renamed" s_Not_renamed f fd) (T : Txt K mg c) (v_renamed : ∀ z ∈ vias K c (W_renamed c nn n), MCalleeX P w K mg base (8 + n) z.1 "renamed" z.2) (n_Not : KCallee P w K mg base 7 "Not" c.nt (spI K c.nt (W_Not_init c))) : FnOk P w K mg base (L2.CX P w) (8 + n + 1) f fd ["self", "names"] (sp0 K (W_renamed c nn (n + 1) 3)) := by
  refine F.okX sc_Not_renamed (fun vs H Q E h => sp0_len (by rintro _ _ _ ⟨_, _, rfl, _⟩; rfl) h) (fun cdv A outer s H vs Q E hr h => ⟨_, (pss_one (ps_ret (DL.pe_new1 n_Not hr (by omega) (by rfl) (pa_cons (DL.pe_viaS v_renamed hr (by omega) (takes_of rfl rfl rfl rfl) (pe_fld (pv 0) rfl) (pa_cons (pv 1) pa_nil)) pa_nil)))), body0 h ?_⟩)
  try dsimp only [cxOf]
  intro ds Φ X F hW hE
  obtain ⟨t, l, rfl, ht, hl, hok, hl5, hk, hΦ, hX⟩ := hW
  cases t <;> first | (cases ht; done) | skip
  rename_i a
  have o := T.nt
  have hl' : 1 + a.lv ≤ n + 1 := hl
  have hl6 : 1 + a.lv ≤ 5 := hl5
  walk_at "c"
  refine wE_tmA hE (nf_renamed c) ?_
  walk_at "c"
  refine ⟨a, rfl, ?_⟩
  walk_at "c"
  refine ⟨a, l, rfl, rfl, by omega, hok, by omega, hk, fun x q => rsp_fz ?_, fun d q => hX d (by rw [Tm.ren, q])⟩
  walk_at "c"
  obtain ⟨k1, k2⟩ := Tm.ren_ok hk (t := a) hok q
  exact ⟨x, rfl, by omega, hΦ (.nt x) (by rw [Tm.ren, q])⟩

theorem ok_Pick_renamed {n : Nat} {f : Addr} {fd : FuncData} (F : L2.Fun K "renamed" "Pick.renamed" s_Pick_renamed f fd) (T : Txt K mg c) (v_renamed : ∀ z ∈ vias K c (W_renamed c nn n), MCalleeX P w K mg base (8 + n) z.1 "renamed" z.2) (n_Pick : KCallee P w K mg base 7 "Pick" c.pk (spI K c.pk (W_Pick_init c))) : FnOk P w K mg base (L2.CX P w) (8 + n + 1) f fd ["self", "names"] (sp0 K (W_renamed c nn (n + 1) 4)) := by
  refine F.okX sc_Pick_renamed (fun vs H Q E h => sp0_len (by rintro _ _ _ ⟨_, _, rfl, _⟩; rfl) h) (fun cdv A outer s H vs Q E hr h => ⟨_, (pss_one (ps_ret (DL.pe_new1 n_Pick hr (by omega) (by rfl) (pa_cons (DL.pe_viaS v_renamed hr (by omega) (takes_of rfl rfl rfl rfl) (pe_fld (pv 0) rfl) (pa_cons (pv 1) pa_nil)) (pa_cons (DL.pe_viaS v_renamed hr (by omega) (takes_of rfl rfl rfl rfl) (pe_fld (pv 0) rfl) (pa_cons (pv 1) pa_nil)) (pa_cons (DL.pe_viaS v_renamed hr (by omega) (takes_of rfl rfl rfl rfl) (pe_fld (pv 0) rfl) (pa_cons (pv 1) pa_nil)) pa_nil)))))), body0 h ?_⟩)
  try dsimp only [cxOf]
  intro ds Φ X F hW hE
  obtain ⟨t, l, rfl, ht, hl, hok, hl5, hk, hΦ, hX⟩ := hW
  cases t <;> first | (cases ht; done) | skip
  rename_i a b g
  have o := T.pk
  have hl' : 1 + max (max a.lv b.lv) g.lv ≤ n + 1 := hl
  have hl6 : 1 + max (max a.lv b.lv) g.lv ≤ 5 := hl5
  walk_at "c"
  refine wE_tmA hE (nf_renamed c) ?_
  walk_at "c"
  refine ⟨a, rfl, ?_⟩
  walk_at "c"
  refine ⟨a, l, rfl, rfl, by omega, hok.1, by omega, hk, fun x q => rsp_fz ?_, fun d q => hX d (by rw [Tm.ren, q])⟩
  walk_at "c"
  refine wE_tmA hE (nf_renamed c) ?_
  walk_at "c"
  refine ⟨b, rfl, ?_⟩
  walk_at "c"
  refine ⟨b, l, rfl, rfl, by omega, hok.2.1, by omega, hk, fun y q2 => rsp_fz ?_, fun d q2 => hX d (by rw [Tm.ren, q, q2])⟩
  walk_at "c"
  refine wE_tmA hE (nf_renamed c) ?_
  walk_at "c"
  refine ⟨g, rfl, ?_⟩
  walk_at "c"
  refine ⟨g, l, rfl, rfl, by omega, hok.2.2, by omega, hk, fun z q3 => rsp_fz ?_, fun d q3 => hX d (by rw [Tm.ren, q, q2, q3])⟩
  walk_at "c"
  obtain ⟨k1, k2⟩ := Tm.ren_ok hk hok.1 q
  obtain ⟨k3, k4⟩ := Tm.ren_ok hk hok.2.1 q2
  obtain ⟨k5, k6⟩ := Tm.ren_ok hk hok.2.2 q3
  exact ⟨x, y, z, rfl, by omega, by omega, by omega, hΦ (.pk x y z) (by rw [Tm.ren, q, q2, q3])⟩

theorem ok_Name_reckoned_by {n : Nat} {f : Addr} {fd : FuncData} (F : L2.Fun K "reckoned_by" "Name.reckoned_by" s_Name_reckoned_by f fd) (T : Txt K mg c) (V_fn : FnV P w K mg base 2 s_given_in "_law_book_worth" qlG "book" "name") : FnOk P w K mg base (L2.CX P w) (4 + n + 1) f fd ["self", "values"] (sp0 K (W_reckoned_by c (n + 1) 0)) := by
  refine F.okX sc_Name_reckoned_by (fun vs H Q E h => sp0_len (by rintro _ _ _ ⟨_, _, rfl, _⟩; rfl) h) (fun cdv A outer s H vs Q E hr h => ⟨_, (pss_one (ps_ret (pe_tup (pa_cons (DL.pe_callF (i := 1) V_fn hr (by omega) rfl (Or.inl rfl) (pa_cons (pe_fld (pv 0) rfl) pa_nil)) (pa_cons pe_non pa_nil))))), body0 h ?_⟩)
  try dsimp only [cxOf]
  intro ds Φ X F hW hE
  obtain ⟨t, bk, rfl, ht, hl, hok, hb, hin, hΦ⟩ := hW
  cases t <;> first | (cases ht; done) | skip
  rename_i s
  have o := T.nm
  obtain ⟨d, hd⟩ := hin s (.head _)
  obtain ⟨x, rfl, hx, e⟩ := vok_res (hb _ (at_mem hd))
  have er : (Tm.nm s).rkn bk = x.res := by rw [Tm.rkn, hd]; exact e
  rw [er, res_d] at hΦ
  walk_at "c"
  refine wE_callF rfl ?_
  walk_at "c"
  refine ⟨_, _, _, rfl, rfl, hd, ?_⟩
  walk_at "c"
  exact hΦ

theorem ok_Value_reckoned_by {n : Nat} {f : Addr} {fd : FuncData} (F : L2.Fun K "reckoned_by" "Value.reckoned_by" s_Value_reckoned_by f fd) (T : Txt K mg c)  : FnOk P w K mg base (L2.CX P w) (4 + n + 1) f fd ["self", "values"] (sp0 K (W_reckoned_by c (n + 1) 1)) := by
  refine F.okX sc_Value_reckoned_by (fun vs H Q E h => sp0_len (by rintro _ _ _ ⟨_, _, rfl, _⟩; rfl) h) (fun cdv A outer s H vs Q E hr h => ⟨_, (pss_one (ps_ret (pe_tup (pa_cons (pe_fld (pv 0) rfl) (pa_cons pe_non pa_nil))))), body0 h ?_⟩)
  try dsimp only [cxOf]
  intro ds Φ X F hW hE
  obtain ⟨t, bk, rfl, ht, hl, hok, hb, hin, hΦ⟩ := hW
  cases t <;> first | (cases ht; done) | skip
  rename_i v
  have o := T.vl
  obtain ⟨x, rfl, hx, e⟩ := vok_res (v := v) hok
  have er : (Tm.vl x.d).rkn bk = x.res := e
  rw [er, res_d] at hΦ
  walk_at "c"
  exact hΦ

theorem ok_Two_reckoned_by {n : Nat} {f : Addr} {fd : FuncData} (F : L2.Fun K "reckoned_by" "Two.reckoned_by" s_Two_reckoned_by f fd) (T : Txt K mg c) (c_reckoned : Callee P w K mg base 4 "reckoned" (sp0 K W_reckoned)) (v_reckoned_by : ∀ z ∈ vias K c (W_reckoned_by c n), MCalleeX P w K mg base (4 + n) z.1 "reckoned_by" z.2) : FnOk P w K mg base (L2.CX P w) (4 + n + 1) f fd ["self", "values"] (sp0 K (W_reckoned_by c (n + 1) 2)) := by
  refine F.okX sc_Two_reckoned_by (fun vs H Q E h => sp0_len (by rintro _ _ _ ⟨_, _, rfl, _⟩; rfl) h) (fun cdv A outer s H vs Q E hr h => ⟨_, (pss_cons (ps_asg (DL.pe_viaS v_reckoned_by hr (by omega) (takes_of rfl rfl rfl rfl) (pe_fld (pv 0) rfl) (pa_cons (pv 1) pa_nil)) (show PG _ _ (gTup K 2 _) from pg_tup rfl (pgs_cons (pg_name (i := 2) sc_Two_reckoned_by.nd rfl (Or.inl rfl)) (pgs_cons (pg_name (i := 3) sc_Two_reckoned_by.nd rfl (Or.inl rfl)) pgs_nil)))) (pss_cons (ps_if (pt_cmpR op_notN (pv 3) pe_non (nomark _)) (pss_one (ps_ret (pe_tup (pa_cons pe_non (pa_cons (pv 3) pa_nil))))) pss_nil) (pss_cons (ps_asg (DL.pe_viaS v_reckoned_by hr (by omega) (takes_of rfl rfl rfl rfl) (pe_fld (pv 0) rfl) (pa_cons (pv 1) pa_nil)) (show PG _ _ (gTup K 2 _) from pg_tup rfl (pgs_cons (pg_name (i := 4) sc_Two_reckoned_by.nd rfl (Or.inl rfl)) (pgs_cons (pg_name (i := 3) sc_Two_reckoned_by.nd rfl (Or.inl rfl)) pgs_nil)))) (pss_cons (ps_if (pt_cmpR op_notN (pv 3) pe_non (nomark _)) (pss_one (ps_ret (pe_tup (pa_cons pe_non (pa_cons (pv 3) pa_nil))))) pss_nil) (pss_one (ps_ret (DL.pe_cl c_reckoned hr (by omega) (by rfl) (pa_cons (pe_fld (pv 0) rfl) (pa_cons (pv 2) (pa_cons (pv 4) pa_nil)))))))))), body0 h ?_⟩)
  try dsimp only [cxOf]
  intro ds Φ X F hW hE
  obtain ⟨t, bk, rfl, ht, hl, hok, hb, hin, hΦ⟩ := hW
  cases t <;> first | (cases ht; done) | skip
  rename_i op a b
  have o := T.tw
  have hl' : 1 + max a.lv b.lv ≤ n + 1 := hl
  walk_at "c"
  refine wE_tmA hE (nf_reckoned_by c) ?_
  walk_at "c"
  refine ⟨a, rfl, ?_⟩
  walk_at "c"
  refine ⟨a, bk, rfl, rfl, by omega, hok.2.1, hb, fun s hs => hin s (List.mem_append_left _ hs), rsp_fz ?_⟩
  rw [Tm.rkn] at hΦ
  cases ea : (a.rkn bk).va with
  | none =>
    obtain ⟨e1, e2, e3⟩ := va_none ea
    rw [ea] at hΦ
    have hΦ2 : Φ (.fz (a.rkn bk).d) := hΦ
    rw [e3] at hΦ2 ⊢
    generalize (a.rkn bk).w = w1 at e2 hΦ2 ⊢
    walk_at "c"
    refine ways_ev_t (by rw [e2]; rfl) ?_
    walk_at "c"
    exact hΦ2
  | some x =>
    obtain ⟨e1, e2, e3⟩ := va_some ea
    have hx := rkn_ok hb hok.2.1 ea
    rw [ea] at hΦ
    rw [e1, res_d]
    walk_at "c"
    refine wE_tmA hE (nf_reckoned_by c) ?_
    walk_at "c"
    refine ⟨b, rfl, ?_⟩
    walk_at "c"
    refine ⟨b, bk, rfl, rfl, by omega, hok.2.2, hb, fun s hs => hin s (List.mem_append_right _ hs), rsp_fz ?_⟩
    cases eb : (b.rkn bk).va with
    | none =>
      obtain ⟨f1, f2, f3⟩ := va_none eb
      rw [eb] at hΦ
      have hΦ2 : Φ (.fz (b.rkn bk).d) := hΦ
      rw [f3] at hΦ2 ⊢
      generalize (b.rkn bk).w = w1 at f2 hΦ2 ⊢
      walk_at "c"
      refine ways_ev_t (by rw [f2]; rfl) ?_
      walk_at "c"
      exact hΦ2
    | some y =>
      obtain ⟨f1, f2, f3⟩ := va_some eb
      have hy := rkn_ok hb hok.2.2 eb
      rw [eb] at hΦ
      rw [f1, res_d]
      walk_at "c"
      exact ⟨opOf op, x, y, by rw [opOf_s op hok.1], hx, hy, rsp_fz hΦ⟩

theorem ok_Not_reckoned_by {n : Nat} {f : Addr} {fd : FuncData} (F : L2.Fun K "reckoned_by" "Not.reckoned_by" s_Not_reckoned_by f fd) (T : Txt K mg c) (c_contrary : Callee P w K mg base 2 "contrary" (sp0 K W_contrary)) (v_reckoned_by : ∀ z ∈ vias K c (W_reckoned_by c n), MCalleeX P w K mg base (4 + n) z.1 "reckoned_by" z.2) : FnOk P w K mg base (L2.CX P w) (4 + n + 1) f fd ["self", "values"] (sp0 K (W_reckoned_by c (n + 1) 3)) := by
  refine F.okX sc_Not_reckoned_by (fun vs H Q E h => sp0_len (by rintro _ _ _ ⟨_, _, rfl, _⟩; rfl) h) (fun cdv A outer s H vs Q E hr h => ⟨_, (pss_cons (ps_asg (DL.pe_viaS v_reckoned_by hr (by omega) (takes_of rfl rfl rfl rfl) (pe_fld (pv 0) rfl) (pa_cons (pv 1) pa_nil)) (show PG _ _ (gTup K 2 _) from pg_tup rfl (pgs_cons (pg_name (i := 2) sc_Not_reckoned_by.nd rfl (Or.inl rfl)) (pgs_cons (pg_name (i := 3) sc_Not_reckoned_by.nd rfl (Or.inl rfl)) pgs_nil)))) (pss_cons (ps_if (pt_cmpR op_notN (pv 3) pe_non (nomark _)) (pss_one (ps_ret (pe_tup (pa_cons pe_non (pa_cons (pv 3) pa_nil))))) pss_nil) (pss_one (ps_ret (DL.pe_cl c_contrary hr (by omega) (by rfl) (pa_cons (pv 2) pa_nil)))))), body0 h ?_⟩)
  try dsimp only [cxOf]
  intro ds Φ X F hW hE
  obtain ⟨t, bk, rfl, ht, hl, hok, hb, hin, hΦ⟩ := hW
  cases t <;> first | (cases ht; done) | skip
  rename_i a
  have o := T.nt
  have hl' : 1 + a.lv ≤ n + 1 := hl
  walk_at "c"
  refine wE_tmA hE (nf_reckoned_by c) ?_
  walk_at "c"
  refine ⟨a, rfl, ?_⟩
  walk_at "c"
  refine ⟨a, bk, rfl, rfl, by omega, hok, hb, hin, rsp_fz ?_⟩
  rw [Tm.rkn] at hΦ
  cases ea : (a.rkn bk).va with
  | none =>
    obtain ⟨e1, e2, e3⟩ := va_none ea
    rw [ea] at hΦ
    have hΦ2 : Φ (.fz (a.rkn bk).d) := hΦ
    rw [e3] at hΦ2 ⊢
    generalize (a.rkn bk).w = w1 at e2 hΦ2 ⊢
    walk_at "c"
    refine ways_ev_t (by rw [e2]; rfl) ?_
    walk_at "c"
    exact hΦ2
  | some x =>
    obtain ⟨e1, e2, e3⟩ := va_some ea
    rw [ea] at hΦ
    rw [e1, res_d]
    walk_at "c"
    exact ⟨x, rfl, rsp_fz hΦ⟩

theorem ok_Pick_reckoned_by {n : Nat} {f : Addr} {fd : FuncData} (F : L2.Fun K "reckoned_by" "Pick.reckoned_by" s_Pick_reckoned_by f fd) (T : Txt K mg c) (v_reckoned_by : ∀ z ∈ vias K c (W_reckoned_by c n), MCalleeX P w K mg base (4 + n) z.1 "reckoned_by" z.2) (m_isinstance : mg "isinstance" = none) (m_bool : mg "bool" = none) : FnOk P w K mg base (L2.CX P w) (4 + n + 1) f fd ["self", "values"] (sp0 K (W_reckoned_by c (n + 1) 4)) := by
  refine F.okX sc_Pick_reckoned_by (fun vs H Q E h => sp0_len (by rintro _ _ _ ⟨_, _, rfl, _⟩; rfl) h) (fun cdv A outer s H vs Q E hr h => ⟨_, (pss_cons (ps_set (i := 2) sc_Pick_reckoned_by.nd rfl (Or.inl rfl) (pe_lst pa_nil)) (pss_cons (ps_for (passes_of rfl) rfl (pi_tup (pe_tup (pa_cons (pe_fld (pv 0) rfl) (pa_cons (pe_fld (pv 0) rfl) (pa_cons (pe_fld (pv 0) rfl) pa_nil))))) (pg_name (i := 3) sc_Pick_reckoned_by.nd rfl (Or.inl rfl)) (pss_cons (ps_asg (DL.pe_viaS v_reckoned_by hr (by omega) (takes_of rfl rfl rfl rfl) (pv 3) (pa_cons (pv 1) pa_nil)) (show PG _ _ (gTup K 2 _) from pg_tup rfl (pgs_cons (pg_name (i := 4) sc_Pick_reckoned_by.nd rfl (Or.inl rfl)) (pgs_cons (pg_name (i := 5) sc_Pick_reckoned_by.nd rfl (Or.inl rfl)) pgs_nil)))) (pss_cons (ps_if (pt_cmpR op_notN (pv 5) pe_non (nomark _)) (pss_one (ps_ret (pe_tup (pa_cons pe_non (pa_cons (pv 5) pa_nil))))) pss_nil) (pss_one (ps_expr (pe_bm PySem.F.plainAttrs_list PySem.F.slot_list_append PySem.F.type_list_append mt_append (pv 2) (pa_cons (pv 4) pa_nil))))))) (pss_cons (ps_asg (pv 2) (show PG _ _ (L2.gLst K 3 _) from L2.pg_lst rfl (pgs_cons (pg_name (i := 6) sc_Pick_reckoned_by.nd rfl (Or.inl rfl)) (pgs_cons (pg_name (i := 7) sc_Pick_reckoned_by.nd rfl (Or.inl rfl)) (pgs_cons (pg_name (i := 8) sc_Pick_reckoned_by.nd rfl (Or.inl rfl)) pgs_nil))))) (pss_cons (ps_if (pt_not (pt_val (pe_callB call_isi (by rfl) m_isinstance PyProof.Rows.boot_isinstance (pa_cons (pv 6) (pa_cons (pe_bltn (v := .ty "bool") (by rfl) m_bool PyProof.Rows.boot_bool rfl) pa_nil))))) (pss_one (ps_ret (pe_tup (pa_cons pe_non (pa_cons pe_str pa_nil))))) pss_nil) (pss_one (ps_ret (pe_tup (pa_cons (pe_ifExp (pt_val (pv 6)) (pv 7) (pv 8)) (pa_cons pe_non pa_nil))))))))), body0 h ?_⟩)
  try dsimp only [cxOf]
  intro ds Φ X F hW hE
  obtain ⟨t, bk, rfl, ht, hl, hok, hb, hin, hΦ⟩ := hW
  cases t <;> first | (cases ht; done) | skip
  rename_i a b e
  have o := T.pk
  have hl' : 1 + max (max a.lv b.lv) e.lv ≤ n + 1 := hl
  refine wS_seq (wS_setO (wO_lst (wA_nil ⟨Nat.le_of_ble_eq_true rfl, ?_⟩)))
  walk_at "nm"
  refine wS_seq (wS_forT (wE_tup ?_))
  walk_at "c"
  rw [Tm.rkn] at hΦ
  refine wE_tmA hE (nf_reckoned_by c) ?_
  walk_at "c"
  refine ⟨a, rfl, ?_⟩
  walk_at "c"
  refine ⟨a, bk, rfl, rfl, by omega, hok.1, hb, fun s hs => hin s (List.mem_append_left _ (List.mem_append_left _ hs)), rsp_fz ?_⟩
  cases ea : (a.rkn bk).va with
  | none =>
    obtain ⟨g1, g2, g3⟩ := va_none ea
    rw [ea] at hΦ
    have hΦ2 : Φ (.fz (a.rkn bk).d) := hΦ
    rw [g3] at hΦ2 ⊢
    generalize (a.rkn bk).w = w1 at g2 hΦ2 ⊢
    walk_at "c"
    refine ways_ev_t (by rw [g2]; rfl) ?_
    walk_at "c"
    exact hΦ2
  | some x =>
    obtain ⟨g1_a, g2_a, g3_a⟩ := va_some ea
    rw [ea] at hΦ
    rw [g1_a, res_d]
    walk_at "c"
    walk_at "nm"
    walk_at "c"
    refine wS_append ⟨_, _, rfl⟩ (wE_var rfl ⟨_, _, rfl, Nat.le_of_ble_eq_true rfl, ?_⟩)
    walk_at "nm"
    walk_at "c"
    refine wE_tmA hE (nf_reckoned_by c) ?_
    walk_at "c"
    refine ⟨b, rfl, ?_⟩
    walk_at "c"
    refine ⟨b, bk, rfl, rfl, by omega, hok.2.1, hb, fun s hs => hin s (List.mem_append_left _ (List.mem_append_right _ hs)), rsp_fz ?_⟩
    cases eb : (b.rkn bk).va with
    | none =>
      obtain ⟨g1, g2, g3⟩ := va_none eb
      rw [eb] at hΦ
      have hΦ2 : Φ (.fz (b.rkn bk).d) := hΦ
      rw [g3] at hΦ2 ⊢
      generalize (b.rkn bk).w = w1 at g2 hΦ2 ⊢
      walk_at "c"
      refine ways_ev_t (by rw [g2]; rfl) ?_
      walk_at "c"
      exact hΦ2
    | some y =>
      obtain ⟨g1_b, g2_b, g3_b⟩ := va_some eb
      rw [eb] at hΦ
      rw [g1_b, res_d]
      walk_at "c"
      walk_at "nm"
      walk_at "c"
      refine wS_append ⟨_, _, rfl⟩ (wE_var rfl ⟨_, _, rfl, Nat.le_of_ble_eq_true rfl, ?_⟩)
      walk_at "nm"
      walk_at "c"
      refine wE_tmA hE (nf_reckoned_by c) ?_
      walk_at "c"
      refine ⟨e, rfl, ?_⟩
      walk_at "c"
      refine ⟨e, bk, rfl, rfl, by omega, hok.2.2, hb, fun s hs => hin s (List.mem_append_right _ hs), rsp_fz ?_⟩
      cases ee : (e.rkn bk).va with
      | none =>
        obtain ⟨g1, g2, g3⟩ := va_none ee
        rw [ee] at hΦ
        have hΦ2 : Φ (.fz (e.rkn bk).d) := hΦ
        rw [g3] at hΦ2 ⊢
        generalize (e.rkn bk).w = w1 at g2 hΦ2 ⊢
        walk_at "c"
        refine ways_ev_t (by rw [g2]; rfl) ?_
        walk_at "c"
        exact hΦ2
      | some z =>
        obtain ⟨g1_e, g2_e, g3_e⟩ := va_some ee
        rw [ee] at hΦ
        rw [g1_e, res_d]
        walk_at "c"
        walk_at "nm"
        walk_at "c"
        refine wS_append ⟨_, _, rfl⟩ (wE_var rfl ⟨_, _, rfl, Nat.le_of_ble_eq_true rfl, ?_⟩)
        walk_at "nm"
        walk_at "c"
        refine wE_varF rfl (wG_lst3 ?_)
        walk_at "nm"
        cases x with
        | n i =>
          walk_at "c"
          exact hΦ
        | t c1 =>
          dsimp only [Va.d]
          cases c1 with
          | true =>
            have hΦ2 : Φ (.fz y.res.d) := hΦ
            rw [res_d] at hΦ2
            walk_at "c"
            exact hΦ2
          | false =>
            have hΦ2 : Φ (.fz z.res.d) := hΦ
            rw [res_d] at hΦ2
            walk_at "c"
            exact hΦ2

theorem ok__word_at {f : Addr} {fd : FuncData} (F : L2.Fun K "_word_at" "_word_at" s__word_at f fd) (T : Txt K mg c) (x_NoText : ECallee P w K mg base 2 "NoText" e.nt "at") (m_len : mg "len" = none) : FnOk P w K mg base (L2.CX P w) 4 f fd ["words", "at"] (sp0 K (W__word_at e)) := by
  refine F.okX sc__word_at (fun vs H Q E h => sp0_len (by rintro _ _ _ ⟨_, _, rfl, _⟩; rfl) h) (fun cdv A outer s H vs Q E hr h => ⟨_, (pss_cons (ps_if (pt_cmpR (op_eqD hr.units) (pv 1) (pe_callB call_len (by rfl) m_len PySem.boot_len (pa_cons (pv 0) pa_nil)) (nomark _)) (pss_one (DL.ps_rse x_NoText hr (by omega) rfl (takes_of rfl rfl rfl rfl) (by rfl) (pv 1))) pss_nil) (pss_one (ps_ret (pe_ix ix_seq (pv 0) (pv 1) (fun _ _ => rfl))))), body0 h ?_⟩)
  try dsimp only [cxOf]
  intro ds Φ X F hW hE
  obtain ⟨ws, k, rfl, hws, hk, hX, hΦ⟩ := hW
  have hl := hws.1
  walk_at "w"
  rw [eqi, List.length_map]
  cases e : ws[k]? with
  | none =>
    have h1 := List.getElem?_eq_none_iff.mp e
    refine ways_ev_t (by rw [beq_iff_eq]; omega) ?_
    exact wS_raise hE (wE_var rfl (hX e))
  | some w =>
    have h1 := lt_of_at e
    refine ways_ev_f (beq_eq_false_iff_ne.mpr (by omega)) ?_
    refine wS_next (wS_ret (wE_op (wE_var rfl (wE_var rfl (wR_xL (d := .str w) (atI_nat (by rw [List.getElem?_map, e]; rfl)) (hΦ w e))))))

theorem ok__behind {f : Addr} {fd : FuncData} (F : L2.Fun K "_behind" "_behind" s__behind f fd) (T : Txt K mg c) (c__word_at : CalleeX P w K mg base 4 "_word_at" (sp0 K (W__word_at e))) (x_NoText : ECallee P w K mg base 2 "NoText" e.nt "at") : FnOk P w K mg base (L2.CX P w) 5 f fd ["words", "at", "word"] (sp0 K (W__behind e)) := by
  refine F.okX sc__behind (fun vs H Q E h => sp0_len (by rintro _ _ _ ⟨_, _, _, rfl, _⟩; rfl) h) (fun cdv A outer s H vs Q E hr h => ⟨_, (pss_cons (ps_if (pt_cmpR (op_neD hr.units) (DL.pe_clxS c__word_at hr (by omega) (by rfl) (takes_of rfl rfl rfl rfl) (pa_cons (pv 0) (pa_cons (pv 1) pa_nil))) (pv 2) (nomark _)) (pss_one (DL.ps_rse x_NoText hr (by omega) rfl (takes_of rfl rfl rfl rfl) (by rfl) (pv 1))) pss_nil) (pss_one (ps_ret (pe_op DL.op_plus (pv 1) pe_int)))), body0 h ?_⟩)
  try dsimp only [cxOf]
  intro ds Φ X F hW hE
  obtain ⟨ws, k, x, rfl, hws, hk, hx, hX, hΦ⟩ := hW
  walk_at "w"
  refine wE_callX hE (wA_cons (wE_var rfl (wA_cons (wE_var rfl (wA_nil ⟨ws, k, rfl, hws, hk, fun q => hX (by rw [q]; exact fun z => nomatch z), fun w q => rsp_fz ?_⟩)))))
  have ow := (ws_at hws q).2
  walk_at "w"
  by_cases hw : w = x
  · subst hw
    refine ways_ev_f (by simp) ?_
    refine wS_next (wS_ret (wE_op (wE_var rfl (wE_int (wR_plusI ?_)))))
    exact hΦ q
  · refine ways_ev_t (by simpa using hw) ?_
    exact wS_raise hE (wE_var rfl (hX (by rw [q]; exact fun z => hw (Option.some.inj z))))

theorem ok__pick_at {n : Nat} {f : Addr} {fd : FuncData} (F : L2.Fun K "_pick_at" "_pick_at" s__pick_at f fd) (T : Txt K mg c) (c__term_at : CalleeX P w K mg base (8 + 3 * n) "_term_at" (sp0 K (W__term_at c e n))) (c__behind : CalleeX P w K mg base 5 "_behind" (sp0 K (W__behind e))) (n_Pick : KCallee P w K mg base 7 "Pick" c.pk (spI K c.pk (W_Pick_init c))) : FnOk P w K mg base (L2.CX P w) (8 + 3 * n + 1) f fd ["words", "at", "room", "by"] (sp0 K (W__pick_at c e n)) := by
  refine F.okX sc__pick_at (fun vs H Q E h => sp0_len (by rintro _ _ _ ⟨_, _, _, _, rfl, _⟩; rfl) h) (fun cdv A outer s H vs Q E hr h => ⟨_, (pss_cons (ps_asg (DL.pe_clxS c__term_at hr (by omega) (by rfl) (takes_of rfl rfl rfl rfl) (pa_cons (pv 0) (pa_cons (pv 1) (pa_cons (pv 2) pa_nil)))) (show PG _ _ (gTup K 2 _) from pg_tup rfl (pgs_cons (pg_name (i := 4) sc__pick_at.nd rfl (Or.inl rfl)) (pgs_cons (pg_name (i := 1) sc__pick_at.nd rfl (Or.inl rfl)) pgs_nil)))) (pss_cons (ps_asg (DL.pe_clxS c__term_at hr (by omega) (by rfl) (takes_of rfl rfl rfl rfl) (pa_cons (pv 0) (pa_cons (DL.pe_clxS c__behind hr (by omega) (by rfl) (takes_of rfl rfl rfl rfl) (pa_cons (pv 0) (pa_cons (pv 1) (pa_cons pe_str pa_nil)))) (pa_cons (pv 2) pa_nil)))) (show PG _ _ (gTup K 2 _) from pg_tup rfl (pgs_cons (pg_name (i := 5) sc__pick_at.nd rfl (Or.inl rfl)) (pgs_cons (pg_name (i := 1) sc__pick_at.nd rfl (Or.inl rfl)) pgs_nil)))) (pss_one (ps_ret (pe_tup (pa_cons (DL.pe_new1 n_Pick hr (by omega) (by rfl) (pa_cons (pv 3) (pa_cons (pv 4) (pa_cons (pv 5) pa_nil)))) (pa_cons (DL.pe_clxS c__behind hr (by omega) (by rfl) (takes_of rfl rfl rfl rfl) (pa_cons (pv 0) (pa_cons (pv 1) (pa_cons pe_str pa_nil)))) pa_nil))))))), body0 h ?_⟩)
  try dsimp only [cxOf]
  intro ds Φ X F hW hE
  obtain ⟨ws, k, r, b, rfl, hws, hk, hr1, hrn, hr4, hb, hX, hΦ⟩ := hW
  unfold pP at hX hΦ
  walk_at "c"
  refine wE_callX hE (wA_cons (wE_var rfl (wA_cons (wE_var rfl (wA_cons (wE_var rfl (wA_nil ⟨ws, k, r, rfl, hws, hk, hr1, hrn, by omega, fun j q => hX j (thn_bad q), fun t k1 q => rsp_fz ?_⟩)))))))
  obtain ⟨q1, q2, q3⟩ := pT_got hr1 q
  walk_at "c"
  refine wE_callX hE (wA_cons (wE_var rfl (wA_cons (wE_callX hE (wA_cons (wE_var rfl (wA_cons (wE_var rfl (wA_cons (wE_str (wA_nil ⟨ws, k1, _, rfl, hws, q2, okC.2, fun z => hX k1 ?_, fun z => rsp_fz ?_⟩)))))))))))
  · rw [thn_got q, pE_bad z]
  refine wA_cons (wE_var rfl (wA_nil ⟨ws, k1 + 1, r, rfl, hws, lt_len z, hr1, hrn, by omega, fun j q5 => hX j (by rw [thn_got q, pE_ok z, thn_bad q5]), fun u k2 q5 => rsp_fz ?_⟩))
  obtain ⟨q6, q7, q8⟩ := pT_got hr1 q5
  walk_at "c"
  refine ⟨b, t, u, rfl, by omega, by omega, by omega, ?_⟩
  walk_at "c"
  refine wE_callX hE (wA_cons (wE_var rfl (wA_cons (wE_var rfl (wA_cons (wE_str (wA_nil ⟨ws, k2, _, rfl, hws, q7, okC.1, fun z2 => hX k2 ?_, fun z2 => rsp_fz ?_⟩)))))))
  · rw [thn_got q, pE_ok z, thn_got q5, pE_bad z2]
  walk_at "c"
  exact hΦ (.pk b t u) (k2 + 1) (by rw [thn_got q, pE_ok z, thn_got q5, pE_ok z2])

theorem ok__bracket_at {n : Nat} {f : Addr} {fd : FuncData} (F : L2.Fun K "_bracket_at" "_bracket_at" s__bracket_at f fd) (T : Txt K mg c) (c__word_at : CalleeX P w K mg base 4 "_word_at" (sp0 K (W__word_at e))) (c__term_at : CalleeX P w K mg base (8 + 3 * n) "_term_at" (sp0 K (W__term_at c e n))) (c__behind : CalleeX P w K mg base 5 "_behind" (sp0 K (W__behind e))) (c__pick_at : CalleeX P w K mg base (8 + 3 * n + 1) "_pick_at" (sp0 K (W__pick_at c e n))) (c_ops_told : Callee P w K mg base 1 "ops_told" (sp0 K W_ops_told)) (n_Not : KCallee P w K mg base 7 "Not" c.nt (spI K c.nt (W_Not_init c))) (n_Two : KCallee P w K mg base 7 "Two" c.tw (spI K c.tw (W_Two_init c))) (x_NoText : ECallee P w K mg base 2 "NoText" e.nt "at") : FnOk P w K mg base (L2.CX P w) (8 + 3 * n + 1 + 1) f fd ["words", "at", "room"] (sp0 K (W__bracket_at c e n)) := by
  refine F.okX sc__bracket_at (fun vs H Q E h => sp0_len (by rintro _ _ _ ⟨_, _, _, rfl, _⟩; rfl) h) (fun cdv A outer s H vs Q E hr h => ⟨_, (pss_cons (ps_if (pt_cmpR (op_eqD hr.units) (DL.pe_clxS c__word_at hr (by omega) (by rfl) (takes_of rfl rfl rfl rfl) (pa_cons (pv 0) (pa_cons (pv 1) pa_nil))) pe_str (nomark _)) (pss_cons (ps_asg (DL.pe_clxS c__term_at hr (by omega) (by rfl) (takes_of rfl rfl rfl rfl) (pa_cons (pv 0) (pa_cons (pe_op DL.op_plus (pv 1) pe_int) (pa_cons (pv 2) pa_nil)))) (show PG _ _ (gTup K 2 _) from pg_tup rfl (pgs_cons (pg_name (i := 3) sc__bracket_at.nd rfl (Or.inl rfl)) (pgs_cons (pg_name (i := 1) sc__bracket_at.nd rfl (Or.inl rfl)) pgs_nil)))) (pss_one (ps_ret (pe_tup (pa_cons (DL.pe_new1 n_Not hr (by omega) (by rfl) (pa_cons (pv 3) pa_nil)) (pa_cons (DL.pe_clxS c__behind hr (by omega) (by rfl) (takes_of rfl rfl rfl rfl) (pa_cons (pv 0) (pa_cons (pv 1) (pa_cons pe_str pa_nil)))) pa_nil)))))) pss_nil) (pss_cons (ps_asg (DL.pe_clxS c__term_at hr (by omega) (by rfl) (takes_of rfl rfl rfl rfl) (pa_cons (pv 0) (pa_cons (pv 1) (pa_cons (pv 2) pa_nil)))) (show PG _ _ (gTup K 2 _) from pg_tup rfl (pgs_cons (pg_name (i := 3) sc__bracket_at.nd rfl (Or.inl rfl)) (pgs_cons (pg_name (i := 1) sc__bracket_at.nd rfl (Or.inl rfl)) pgs_nil)))) (pss_cons (ps_set (i := 4) sc__bracket_at.nd rfl (Or.inl rfl) (DL.pe_clxS c__word_at hr (by omega) (by rfl) (takes_of rfl rfl rfl rfl) (pa_cons (pv 0) (pa_cons (pv 1) pa_nil)))) (pss_cons (ps_if (pt_cmpR (op_eqD hr.units) (pv 4) pe_str (nomark _)) (pss_one (ps_ret (DL.pe_clxS c__pick_at hr (by omega) (by rfl) (takes_of rfl rfl rfl rfl) (pa_cons (pv 0) (pa_cons (pe_op DL.op_plus (pv 1) pe_int) (pa_cons (pv 2) (pa_cons (pv 3) pa_nil))))))) pss_nil) (pss_cons (ps_if (pt_cmpR op_notIn_seq (pv 4) (DL.pe_cl0 c_ops_told hr (by omega) (by rfl)) (by rfl)) (pss_one (DL.ps_rse x_NoText hr (by omega) rfl (takes_of rfl rfl rfl rfl) (by rfl) (pv 1))) pss_nil) (pss_cons (ps_asg (DL.pe_clxS c__term_at hr (by omega) (by rfl) (takes_of rfl rfl rfl rfl) (pa_cons (pv 0) (pa_cons (pe_op DL.op_plus (pv 1) pe_int) (pa_cons (pv 2) pa_nil)))) (show PG _ _ (gTup K 2 _) from pg_tup rfl (pgs_cons (pg_name (i := 5) sc__bracket_at.nd rfl (Or.inl rfl)) (pgs_cons (pg_name (i := 1) sc__bracket_at.nd rfl (Or.inl rfl)) pgs_nil)))) (pss_one (ps_ret (pe_tup (pa_cons (DL.pe_new1 n_Two hr (by omega) (by rfl) (pa_cons (pv 4) (pa_cons (pv 3) (pa_cons (pv 5) pa_nil)))) (pa_cons (DL.pe_clxS c__behind hr (by omega) (by rfl) (takes_of rfl rfl rfl rfl) (pa_cons (pv 0) (pa_cons (pv 1) (pa_cons pe_str pa_nil)))) pa_nil))))))))))), body0 h ?_⟩)
  try dsimp only [cxOf]
  intro ds Φ X F hW hE
  obtain ⟨ws, k, r, rfl, hws, hk, hr1, hrn, hr4, hX, hΦ⟩ := hW
  walk_at "c"
  refine wE_callX hE (wA_cons (wE_var rfl (wA_cons (wE_var rfl (wA_nil ⟨ws, k, rfl, hws, hk, fun q => hX k (pB_no q), fun w q => rsp_fz ?_⟩)))))
  have ow := (ws_at hws q).2
  walk_at "c"
  by_cases hw : w = "!"
  · subst hw
    refine ways_ev_t (by simp) ?_
    walk_at "c"
    refine wE_callX hE (wA_cons ?_)
    walk_at "c"
    refine ⟨ws, k + 1, r, rfl, hws, lt_len q, hr1, hrn, by omega, fun j q2 => hX j (by rw [pB_not q, thn_bad q2]), fun t k1 q2 => rsp_fz ?_⟩
    obtain ⟨q3, q4, q5⟩ := pT_got hr1 q2
    walk_at "c"
    refine ⟨t, rfl, by omega, ?_⟩
    walk_at "c"
    refine wE_callX hE (wA_cons ?_)
    walk_at "c"
    refine ⟨ws, k1, _, rfl, hws, q4, okC.1, fun z => hX k1 ?_, fun z => rsp_fz ?_⟩
    · rw [pB_not q, thn_got q2, pE_bad z]
    walk_at "c"
    exact hΦ (.nt t) (k1 + 1) (by rw [pB_not q, thn_got q2, pE_ok z])
  · refine ways_ev_f (by simpa using hw) ?_
    refine wS_next ?_
    walk_at "c"
    refine wE_callX hE (wA_cons ?_)
    walk_at "c"
    refine ⟨ws, k, r, rfl, hws, hk, hr1, hrn, by omega, fun j q2 => hX j (pB_bad q hw q2), fun t k1 q2 => rsp_fz ?_⟩
    obtain ⟨q3, q4, q5⟩ := pT_got hr1 q2
    walk_at "c"
    refine wE_callX hE (wA_cons ?_)
    walk_at "c"
    refine ⟨ws, k1, rfl, hws, q4, fun z => hX k1 (pB_none q hw q2 z), fun op z => rsp_fz ?_⟩
    have oop := (ws_at hws z).2
    walk_at "c"
    by_cases h1 : op = "?"
    · subst h1
      refine ways_ev_t (by simp) ?_
      walk_at "c"
      refine wE_callX hE (wA_cons ?_)
      walk_at "c"
      refine ⟨ws, k1 + 1, r, t, rfl, hws, lt_len z, hr1, hrn, hr4, by omega, fun j q6 => hX j (by rw [pB_pick q hw q2 z, q6]), fun u j q6 => rsp_fz (hΦ u j (by rw [pB_pick q hw q2 z, q6]))⟩
    · refine ways_ev_f (by simpa using h1) ?_
      refine wS_next ?_
      walk_at "c"
      refine ⟨rfl, rsp_ow ?_⟩
      refine wR_niL rfl rfl (onB_bl ?_)
      have ei : inD (.str op) (opsL.map .str) = decide (op ∈ opsL) := inD_str op opsL
      rw [ei]
      by_cases h2 : op ∈ opsL
      · rw [decide_eq_true h2]
        refine ways_ev_f (by rfl) (wS_next ?_)
        walk_at "c"
        refine wE_callX hE (wA_cons ?_)
        walk_at "c"
        refine ⟨ws, k1 + 1, r, rfl, hws, lt_len z, hr1, hrn, by omega, fun j q6 => hX j (by rw [pB_op q hw q2 z h1 h2, thn_bad q6]), fun u k2 q6 => rsp_fz ?_⟩
        obtain ⟨q7, q8, q9⟩ := pT_got hr1 q6
        walk_at "c"
        refine ⟨op, t, u, rfl, h2, by omega, by omega, ?_⟩
        walk_at "c"
        refine wE_callX hE (wA_cons ?_)
        walk_at "c"
        refine ⟨ws, k2, _, rfl, hws, q8, okC.1, fun z2 => hX k2 ?_, fun z2 => rsp_fz ?_⟩
        · rw [pB_op q hw q2 z h1 h2, thn_got q6, pE_bad z2]
        walk_at "c"
        exact hΦ (.tw op t u) (k2 + 1) (by rw [pB_op q hw q2 z h1 h2, thn_got q6, pE_ok z2])
      · rw [decide_eq_false h2]
        refine ways_ev_t (by rfl) ?_
        exact wS_raise hE (wE_var rfl (hX k1 (pB_odd q hw q2 z h1 h2)))

theorem ok__term_at {n : Nat} {f : Addr} {fd : FuncData} (F : L2.Fun K "_term_at" "_term_at" s__term_at f fd) (T : Txt K mg c) (c__word_at : CalleeX P w K mg base 4 "_word_at" (sp0 K (W__word_at e))) (c__bracket_at : CalleeX P w K mg base (8 + 3 * n + 2) "_bracket_at" (sp0 K (W__bracket_at c e n))) (c_is_name : Callee P w K mg base 1 "is_name" (sp0 K W_is_name)) (c_value_of : Callee P w K mg base 4 "value_of" (sp0 K W_value_of)) (n_Name : KCallee P w K mg base 3 "Name" c.nm (spI K c.nm (W_Name_init c))) (n_Value : KCallee P w K mg base 4 "Value" c.vl (spI K c.vl (W_Value_init c))) (x_NoText : ECallee P w K mg base 2 "NoText" e.nt "at") : FnOk P w K mg base (L2.CX P w) (8 + 3 * n + 2 + 1) f fd ["words", "at", "room"] (sp0 K (W__term_at c e (n + 1))) := by
  refine F.okX sc__term_at (fun vs H Q E h => sp0_len (by rintro _ _ _ ⟨_, _, _, rfl, _⟩; rfl) h) (fun cdv A outer s H vs Q E hr h => ⟨_, (pss_cons (ps_set (i := 3) sc__term_at.nd rfl (Or.inl rfl) (DL.pe_clxS c__word_at hr (by omega) (by rfl) (takes_of rfl rfl rfl rfl) (pa_cons (pv 0) (pa_cons (pv 1) pa_nil)))) (pss_cons (ps_if (PW.pt (pw_and (pt_cmpR (op_eqD hr.units) (pv 3) pe_str (nomark _)) (pw_and1 (pt_cmpR op_gt (pv 2) pe_int (nomark _))))) (pss_one (ps_ret (DL.pe_clxS c__bracket_at hr (by omega) (by rfl) (takes_of rfl rfl rfl rfl) (pa_cons (pv 0) (pa_cons (pe_op DL.op_plus (pv 1) pe_int) (pa_cons (pe_op op_sub (pv 2) pe_int) pa_nil)))))) pss_nil) (pss_cons (ps_if (pt_val (DL.pe_cl c_is_name hr (by omega) (by rfl) (pa_cons (pv 3) pa_nil))) (pss_one (ps_ret (pe_tup (pa_cons (DL.pe_new1 n_Name hr (by omega) (by rfl) (pa_cons (pv 3) pa_nil)) (pa_cons (pe_op DL.op_plus (pv 1) pe_int) pa_nil))))) pss_nil) (pss_cons (ps_set (i := 4) sc__term_at.nd rfl (Or.inl rfl) (DL.pe_cl c_value_of hr (by omega) (by rfl) (pa_cons (pv 3) pa_nil))) (pss_cons (ps_if (pt_cmpR op_isN (pv 4) pe_non (nomark _)) (pss_one (DL.ps_rse x_NoText hr (by omega) rfl (takes_of rfl rfl rfl rfl) (by rfl) (pv 1))) pss_nil) (pss_one (ps_ret (pe_tup (pa_cons (DL.pe_new1 n_Value hr (by omega) (by rfl) (pa_cons (pv 4) pa_nil)) (pa_cons (pe_op DL.op_plus (pv 1) pe_int) pa_nil)))))))))), body0 h ?_⟩)
  try dsimp only [cxOf]
  intro ds Φ X F hW hE
  obtain ⟨ws, k, r, rfl, hws, hk, hr1, hrn, hr5, hX, hΦ⟩ := hW
  obtain ⟨r0, rfl⟩ : ∃ r0, r = r0 + 1 := ⟨r - 1, by omega⟩
  walk_at "c"
  refine wE_callX hE (wA_cons (wE_var rfl (wA_cons (wE_var rfl (wA_nil ⟨ws, k, rfl, hws, hk, fun q => hX k (pT_no q), fun w q => rsp_fz ?_⟩)))))
  have ow := (ws_at hws q).2
  walk_at "c"
  by_cases hw : w = "(" ∧ 1 ≤ r0
  · refine ways_ev_t (by rw [hw.1]; rfl) ?_
    walk_at "c"
    refine ways_dec (fun _ => ?_) (fun z => absurd (show (1 : Int) < ((r0 + 1 : Nat) : Int) by omega) z)
    walk_at "c"
    refine wE_callX hE (wA_cons ?_)
    walk_at "c"
    have er : ((r0 + 1 : Nat) : Int) - 1 = (r0 : Int) := by omega
    rw [er]
    have eb := pT_br (ws := ws) (r := r0) (k := k) (q.trans (congrArg some hw.1)) hw.2
    exact ⟨ws, k + 1, r0, rfl, hws, lt_len q, hw.2, by omega, by omega, fun j q6 => hX j (by rw [eb, q6]), fun u j q6 => rsp_fz (hΦ u j (by rw [eb, q6]))⟩
  by_cases h2 : w = "("
  refine ways_ev_t (by rw [h2]; rfl) ?_
  walk_at "c"
  refine ways_dec (fun z => absurd z (fun z2 => hw ⟨h2, by omega⟩)) (fun _ => wS_next ?_)
  rotate_left
  refine ways_ev_f (by simpa using h2) (ways_f (wS_next ?_))
  all_goals (
    walk_at "c"
    refine ⟨_, rfl, Gd.str (ws_at hws q).1 ow, rsp_fz ?_⟩
    refine onB_bl ?_
    have en : isNm (.str w) = nameS w := rfl
    rw [en]
    by_cases hn : nameS w = true
    · refine ways_ev_t hn ?_
      walk_at "c"
      refine ⟨w, rfl, nameS_ok hn, ?_⟩
      walk_at "c"
      exact hΦ (.nm w) (k + 1) (pT_leaf' q hw (leaf_nm hn))
    refine ways_ev_f (by simpa using hn) (wS_next ?_)
    walk_at "c"
    refine ⟨_, rfl, G2.str (Nat.le_trans (ws_at hws q).1 (by decide)) ow, rsp_fz ?_⟩
    have ed : rdD (.str w) = rdS w := rfl
    rw [ed]
    walk_at "c"
    rcases rd_kind w with e1 | ⟨b, e1⟩ | ⟨m, e1⟩
    · rw [e1]
      walk_at "c"
      exact wS_raise hE (wE_var rfl (hX k (pT_odd q hw (leaf_non hn e1))))
    · rw [e1]
      walk_at "c"
      refine ⟨_, rfl, (rd_back e1 (fun z => nomatch z)).2, ?_⟩
      walk_at "c"
      exact hΦ (.vl (.bl b)) (k + 1) (pT_leaf' q hw (leaf_bl hn e1))
    · rw [e1]
      walk_at "c"
      refine ⟨_, rfl, (rd_back e1 (fun z => nomatch z)).2, ?_⟩
      walk_at "c"
      exact hΦ (.vl (.int m)) (k + 1) (pT_leaf' q hw (leaf_int hn e1))
    )

theorem ok_read_term {f : Addr} {fd : FuncData} (F : L2.Fun K "read_term" "read_term" s_read_term f fd) (T : Txt K mg c) (c__term_at : CalleeX P w K mg base (8 + 3 * 5) "_term_at" (sp0 K (W__term_at c e 5))) (x_NoText : ECallee P w K mg base 2 "NoText" e.nt "at") (m_isinstance : mg "isinstance" = none) (m_str : mg "str" = none) (m_len : mg "len" = none) (k_LEVELS : Kon K mg "LEVELS" (.int 5)) : FnOk P w K mg base (L2.CX P w) 24 f fd ["text"] (sp0 K (W_read_term c e)) := by
  obtain ⟨u_LEVELS, v_LEVELS, m_LEVELS, r_LEVELS, q_LEVELS⟩ := k_LEVELS.ex
  refine F.okX sc_read_term (fun vs H Q E h => sp0_len (by rintro _ _ _ ⟨_, rfl, _⟩; rfl) h) (fun cdv A outer s H vs Q E hr h => ⟨_, (pss_cons (ps_if (pt_not (pt_val (pe_callB call_isi (by rfl) m_isinstance PyProof.Rows.boot_isinstance (pa_cons (pv 0) (pa_cons (pe_bltn (v := .ty "str") (by rfl) m_str PyProof.Rows.boot_str rfl) pa_nil))))) (pss_one (DL.ps_rse x_NoText hr (by omega) rfl (takes_of rfl rfl rfl rfl) (by rfl) pe_int)) pss_nil) (pss_cons (ps_set (i := 1) sc_read_term.nd rfl (Or.inl rfl) (pe_split (pv 0) pe_str)) (pss_cons (ps_asg (DL.pe_clxS c__term_at hr (by omega) (by rfl) (takes_of rfl rfl rfl rfl) (pa_cons (pv 1) (pa_cons pe_int (pa_cons (pe_glob (by rfl) m_LEVELS r_LEVELS) pa_nil)))) (show PG _ _ (gTup K 2 _) from pg_tup rfl (pgs_cons (pg_name (i := 2) sc_read_term.nd rfl (Or.inl rfl)) (pgs_cons (pg_name (i := 3) sc_read_term.nd rfl (Or.inl rfl)) pgs_nil)))) (pss_cons (ps_if (pt_cmpR op_lt (pv 3) (pe_callB call_len (by rfl) m_len PySem.boot_len (pa_cons (pv 1) pa_nil)) (nomark _)) (pss_one (DL.ps_rse x_NoText hr (by omega) rfl (takes_of rfl rfl rfl rfl) (by rfl) (pv 3))) pss_nil) (pss_one (ps_ret (pv 2))))))), body0 h ?_⟩)
  try dsimp only [cxOf]
  intro ds Φ X F hW hE
  obtain ⟨d, rfl, hty, hX0, hS⟩ := hW
  walk_at "c"
  refine wC_isStr hty (onB_bl ?_)
  by_cases hd : ∃ s, d = .str s
  · obtain ⟨s, rfl⟩ := hd
    obtain ⟨h1, h2, hws, hX, hΦ⟩ := hS s rfl
    refine ways_ev_f (by rfl) (wS_next ?_)
    walk_at "c"
    refine ⟨_, rfl, by decide +kernel, by omega, ?_⟩
    walk_at "c"
    refine wE_callX hE (wA_cons ?_)
    walk_at "c"
    refine ⟨Txt.split s " ", 0, 5, rfl, hws, Nat.zero_le _, by decide, by decide, by decide, fun j q => hX j (rdT_bad q), fun t j q => rsp_fz ?_⟩
    walk_at "c"
    rw [List.length_map]
    refine ways_dec (fun hj => ?_) (fun hj => ?_)
    · exact wS_raise hE (wE_var rfl (hX j (rdT_more q (by omega))))
    · exact wS_next (wS_ret (wE_var rfl (hΦ t j (rdT_all q (by omega)))))
  · refine ways_ev_t ?_ ?_
    · cases d <;> first | rfl | exact absurd ⟨_, rfl⟩ hd
    · exact wS_raise hE (wE_int (hX0 fun s e => hd ⟨s, e⟩))

theorem ok__law_cell_at {f : Addr} {fd : FuncData} (F : L2.Fun K "_law_cell_at" "_law_cell_at" s__law_cell_at f fd) (T : Txt K mg c) (m_len : mg "len" = none) : FnOk P w K mg base L2.CX0 1 f fd ["script", "k"] (sp0 K W__law_cell_at) := by
  refine F.ok sc__law_cell_at (fun vs H Q E h => sp0_len (by rintro _ _ _ ⟨_, _, rfl, _⟩; rfl) h) (fun cdv A outer s H vs Q E hr h => ⟨_, (pss_cons (ps_if (pt_cmpR op_lt (pv 1) (pe_callB call_len (by rfl) m_len PySem.boot_len (pa_cons (pv 0) pa_nil)) (nomark _)) (pss_one (ps_ret (pe_ix ix_seq (pv 0) (pv 1) (fun _ _ => rfl)))) pss_nil) (pss_one (ps_ret (pe_op DL.op_plus (pe_op op_mul pe_int (pv 1)) pe_int)))), body0 h ?_⟩)
  try dsimp only [cxOf]
  intro ds Φ X F hW hE
  obtain ⟨ns, k, rfl, hk, hΦ⟩ := hW
  walk_at "w"
  refine ways_dec (fun hc => ?_) (fun hc => ?_)
  · walk_at "w"
    obtain ⟨d, _, e⟩ := atI_of hk hc
    exact wR_xScr e (hΦ d)
  · walk_at "w"
    exact hΦ _

theorem ok__law_box {f : Addr} {fd : FuncData} (F : L2.Fun K "_law_box" "_law_box" s__law_box f fd) (T : Txt K mg c)  : FnOk P w K mg base L2.CX0 1 f fd ["cell"] (sp0 K W__law_box) := by
  refine F.ok sc__law_box (fun vs H Q E h => sp0_len (by rintro _ _ _ ⟨_, rfl, _⟩; rfl) h) (fun cdv A outer s H vs Q E hr h => ⟨_, (pss_cons (ps_if (pt_cmpR op_ge (pv 0) (pe_op op_pow pe_int pe_int) (nomark _)) (pss_one (ps_ret (pe_lst (pa_cons (pv 0) (pa_cons (pe_op op_mod (pv 0) pe_int) (pa_cons pe_int pa_nil)))))) pss_nil) (pss_one (ps_ret (pe_lst (pa_cons pe_int (pa_cons (pe_op op_mod (pv 0) pe_int) (pa_cons pe_int pa_nil))))))), body0 h ?_⟩)
  try dsimp only [cxOf]
  intro ds Φ X F hW hE
  obtain ⟨cc, rfl, hΦ⟩ := hW
  walk_at "w"
  refine ways_dec (fun h => ?_) (fun h => ?_)
  · refine wS_retO (wO_lst (wA_cons ?_))
    walk_at "wm"
    refine hΦ _ ⟨_, _, _, rfl, ?_, by assumption⟩
    have e : (10 : Int) ^ Int.toNat 18 = 1000000000000000000 := by decide
    rw [e] at h
    omega
  · refine wS_next ?_
    refine wS_retO (wO_lst (wA_cons ?_))
    walk_at "wm"
    exact hΦ _ ⟨_, _, _, rfl, by omega, by assumption⟩

theorem ok__law_take {f : Addr} {fd : FuncData} (F : L2.Fun K "_law_take" "_law_take" s__law_take f fd) (T : Txt K mg c)  : FnOk P w K mg base L2.CX0 1 f fd ["box", "many"] (sp1 K W__law_take) := by
  refine F.ok sc__law_take (fun vs H Q E h => sp1_len (by rintro _ _ _ _ ⟨_, rfl, _⟩; rfl) h) (fun cdv A outer s H vs Q E hr h => ⟨_, (pss_cons (ps_if (pt_cmpR op_gt (pe_ix ix_seq (pv 0) pe_int (fun _ _ => rfl)) pe_int (nomark _)) (pss_cons (ps_set (i := 2) sc__law_take.nd rfl (Or.inl rfl) (pe_op op_mod (pe_ix ix_seq (pv 0) pe_int (fun _ _ => rfl)) (pv 1))) (pss_cons (ps_asg (pe_op op_fdiv (pe_ix ix_seq (pv 0) pe_int (fun _ _ => rfl)) (pv 1)) (pg_sub (pv 0) pe_int set_list)) (pss_one (ps_ret (pv 2))))) pss_nil) (pss_cons (ps_asg (pe_op DL.op_plus (pe_ix ix_seq (pv 0) pe_int (fun _ _ => rfl)) pe_int) (pg_sub (pv 0) pe_int set_list)) (pss_cons (ps_set (i := 2) sc__law_take.nd rfl (Or.inl rfl) (pe_op op_mod (pe_op DL.op_plus (pe_op DL.op_plus (pe_op op_mul (pe_ix ix_seq (pv 0) pe_int (fun _ _ => rfl)) pe_int) (pe_op op_mul pe_int (pe_ix ix_seq (pv 0) pe_int (fun _ _ => rfl)))) pe_int) pe_int)) (pss_cons (ps_set (i := 2) sc__law_take.nd rfl (Or.inl rfl) (pe_op op_mod (pe_op DL.op_plus (pe_op DL.op_plus (pe_op op_mul (pv 2) (pv 2)) (pe_op op_mul pe_int (pe_ix ix_seq (pv 0) pe_int (fun _ _ => rfl)))) pe_int) pe_int)) (pss_one (ps_ret (pe_op op_mod (pe_op op_mod (pe_op op_mul (pv 2) (pv 2)) pe_int) (pv 1)))))))), body1 h ?_⟩)
  try dsimp only [cxOf]
  intro ds es Φ X F hW hE
  obtain ⟨m, rfl, ⟨a, b, c, rfl, ha, hb⟩, hm, hm2, hΦ⟩ := hW
  walk_at "w"
  refine ways_dec (fun hc => ?_) (fun hc => ?_)
  · walk_at "wm"
    exact ⟨_, rfl, hΦ _ _ ⟨_, _, _, rfl, Int.ediv_nonneg ha (Int.le_of_lt hm), hb⟩ (by assumption) (by assumption)⟩
  · walk_at "wm"
    exact ⟨_, rfl, hΦ _ _ ⟨_, _, _, rfl, ha, hb⟩ (by assumption) (by assumption)⟩

theorem ok__law_value {f : Addr} {fd : FuncData} (F : L2.Fun K "_law_value" "_law_value" s__law_value f fd) (T : Txt K mg c) (c__law_take : Callee P w K mg base 1 "_law_take" (sp1 K W__law_take)) : FnOk P w K mg base L2.CX0 2 f fd ["box"] (sp1 K (W__law_value c)) := by
  refine F.ok sc__law_value (fun vs H Q E h => sp1_len (by rintro _ _ _ _ ⟨rfl, _⟩; rfl) h) (fun cdv A outer s H vs Q E hr h => ⟨_, (pss_cons (ps_set (i := 1) sc__law_value.nd rfl (Or.inl rfl) (DL.pe_cl c__law_take hr (by omega) (by rfl) (pa_cons (pv 0) (pa_cons pe_int pa_nil)))) (pss_cons (ps_if (pt_cmpR op_lt (pv 1) pe_int (nomark _)) (pss_one (ps_ret (pe_cmpR (op_eqD hr.units) (pv 1) pe_int (nomark _)))) pss_nil) (pss_cons (ps_if (pt_cmpR (op_eqD hr.units) (pv 1) pe_int (nomark _)) (pss_one (ps_ret (pe_ix ix_seq (pe_lst (pa_cons (pe_op op_pow pe_int pe_int) (pa_cons (pe_un un_neg (pe_op op_pow pe_int pe_int)) (pa_cons (pe_op op_sub (pe_op op_pow pe_int pe_int) pe_int) (pa_cons (pe_op op_sub pe_int (pe_op op_pow pe_int pe_int)) (pa_cons pe_int (pa_cons (pe_un un_neg pe_int) pa_nil))))))) (DL.pe_cl c__law_take hr (by omega) (by rfl) (pa_cons (pv 0) (pa_cons pe_int pa_nil))) (fun _ _ => rfl)))) pss_nil) (pss_one (ps_ret (pe_op op_sub (DL.pe_cl c__law_take hr (by omega) (by rfl) (pa_cons (pv 0) (pa_cons (pe_ix ix_seq (pe_lst (pa_cons pe_int (pa_cons pe_int (pa_cons pe_int pa_nil)))) (pe_op op_sub (pv 1) pe_int) (fun _ _ => rfl)) pa_nil))) (pe_ix ix_seq (pe_lst (pa_cons pe_int (pa_cons pe_int (pa_cons pe_int pa_nil)))) (pe_op op_sub (pv 1) pe_int) (fun _ _ => rfl)))))))), body1 h ?_⟩)
  try dsimp only [cxOf]
  intro ds es Φ X F hW hE
  obtain ⟨rfl, hB, hΦ⟩ := hW
  walk_at "w"
  refine wE_call1 eok0 ⟨_, _, rfl⟩ (wA_cons ?_)
  walk_at "w"
  refine ⟨_, _, rfl, _, rfl, hB, by decide, by decide, fun ds1 y hB1 h0 h1 => rsp_fz ?_⟩
  walk_at "w"
  refine ways_dec (fun h2 => ?_) (fun h2 => ?_)
  · walk_at "w"
    exact ⟨_, rfl, hΦ _ _ hB1 trivial⟩
  · walk_at "w"
    rw [eqi]
    by_cases h3 : y = 2
    · refine ways_ev_t (by rw [h3]; rfl) ?_
      walk_at "w"
      refine wE_call1 eok0 ⟨_, _, rfl⟩ (wA_cons ?_)
      walk_at "w"
      refine ⟨_, _, rfl, _, rfl, hB1, by decide, by decide, fun ds2 j hB2 hj0 hj1 => rsp_fz ?_⟩
      refine wR_xLAll hj0 hj1 fun d hd => ?_
      have hv : vok d := by
        have e9 : (10 : Int) ^ Int.toNat 9 = 1000000000 := by decide
        simp only [e9, List.mem_cons, List.not_mem_nil, or_false] at hd
        rcases hd with rfl | rfl | rfl | rfl | rfl | rfl <;> (show _ ∧ _; omega)
      exact ⟨_, rfl, hΦ _ _ hB2 hv⟩
    · refine ways_ev_f (beq_eq_false_iff_ne.mpr h3) ?_
      walk_at "w"
      have hy : y = 3 ∨ y = 4 ∨ y = 5 := by omega
      rcases hy with rfl | rfl | rfl
      · refine wE_call1 eok0 ⟨_, _, rfl⟩ (wA_cons ?_)
        walk_at "w"
        refine ⟨_, _, rfl, _, rfl, hB1, by decide, by decide, fun ds2 j hB2 hj0 hj1 => rsp_fz ?_⟩
        walk_at "w"
        exact ⟨_, rfl, hΦ _ _ hB2 (by show _ ∧ _; omega)⟩
      · refine wE_call1 eok0 ⟨_, _, rfl⟩ (wA_cons ?_)
        walk_at "w"
        refine ⟨_, _, rfl, _, rfl, hB1, by decide, by decide, fun ds2 j hB2 hj0 hj1 => rsp_fz ?_⟩
        walk_at "w"
        exact ⟨_, rfl, hΦ _ _ hB2 (by show _ ∧ _; omega)⟩
      · refine wE_call1 eok0 ⟨_, _, rfl⟩ (wA_cons ?_)
        walk_at "w"
        refine ⟨_, _, rfl, _, rfl, hB1, by decide, by decide, fun ds2 j hB2 hj0 hj1 => rsp_fz ?_⟩
        walk_at "w"
        exact ⟨_, rfl, hΦ _ _ hB2 (by show _ ∧ _; omega)⟩

theorem ok__law_told {n : Nat} {f : Addr} {fd : FuncData} (F : L2.Fun K "_law_told" "_law_told" s__law_told f fd) (T : Txt K mg c) (c__law_take : Callee P w K mg base 1 "_law_take" (sp1 K W__law_take)) (c__law_value : Callee P w K mg base 2 "_law_value" (sp1 K (W__law_value c))) (c__law_told : Callee P w K mg base (2 + n) "_law_told" (sp1 K (W__law_told c n))) (m_len : mg "len" = none) (m_range : mg "range" = none) : FnOk P w K mg base L2.CX0 (2 + n + 1) f fd ["box", "left", "names"] (sp1 K (W__law_told c (n + 1))) := by
  refine F.ok sc__law_told (fun vs H Q E h => sp1_len (by rintro _ _ _ _ ⟨_, _, rfl, _⟩; rfl) h) (fun cdv A outer s H vs Q E hr h => ⟨_, (pss_cons (ps_set (i := 3) sc__law_told.nd rfl (Or.inl rfl) (DL.pe_cl c__law_take hr (by omega) (by rfl) (pa_cons (pv 0) (pa_cons pe_int pa_nil)))) (pss_cons (ps_if (PW.pt (pw_or (pt_cmpR (op_eqD hr.units) (pv 1) pe_int (nomark _)) (pw_or1 (pt_cmpR op_lt (pv 3) pe_int (nomark _))))) (pss_cons (ps_if (pt_cmpR (op_eqD hr.units) (DL.pe_cl c__law_take hr (by omega) (by rfl) (pa_cons (pv 0) (pa_cons pe_int pa_nil))) pe_int (nomark _)) (pss_one (ps_ret (pe_tup (pa_cons pe_str (pa_cons (DL.pe_cl c__law_value hr (by omega) (by rfl) (pa_cons (pv 0) pa_nil)) pa_nil))))) pss_nil) (pss_one (ps_ret (pe_tup (pa_cons pe_str (pa_cons (pe_ix ix_seq (pv 2) (DL.pe_cl c__law_take hr (by omega) (by rfl) (pa_cons (pv 0) (pa_cons (pe_callB call_len (by rfl) m_len PySem.boot_len (pa_cons (pv 2) pa_nil)) pa_nil))) (fun _ _ => rfl)) pa_nil)))))) pss_nil) (pss_cons (ps_if (pt_cmpR (op_eqD hr.units) (pv 3) pe_int (nomark _)) (pss_one (ps_ret (pe_tup (pa_cons pe_str (pa_cons (DL.pe_cl c__law_told hr (by omega) (by rfl) (pa_cons (pv 0) (pa_cons (pe_op op_sub (pv 1) pe_int) (pa_cons (pv 2) pa_nil)))) pa_nil))))) pss_nil) (pss_cons (ps_if (pt_cmpR (op_eqD hr.units) (pv 3) pe_int (nomark _)) (pss_cons (ps_setLc (i := 4) (own := [("k", 5)]) (g := (gName 5)) (tt := tYes) rfl sc__law_told.nd rfl rfl (sw_true rfl rfl rfl (by decide +kernel)) (pi_range1 rfl m_range (pa_cons pe_int pa_nil)) (blkOk_by (N := N__law_told) (sc := defScope s__law_told) (by decide +kernel)) (fun _ _ _ _ _ => (pg_name (i := 5) sc__law_told.nd rfl (Or.inl rfl))) (fun _ _ _ _ _ => pts_nil) (fun _ _ _ _ _ => (DL.pe_cl c__law_told hr (by omega) (by rfl) (pa_cons (pv 0) (pa_cons (pe_op op_sub (pv 1) pe_int) (pa_cons (pv 2) pa_nil)))))) (pss_one (ps_ret (pe_tup (pa_cons pe_str (pa_cons (pe_ix ix_seq (pv 4) pe_int (fun _ _ => rfl)) (pa_cons (pe_ix ix_seq (pv 4) pe_int (fun _ _ => rfl)) (pa_cons (pe_ix ix_seq (pv 4) pe_int (fun _ _ => rfl)) pa_nil)))))))) pss_nil) (pss_cons (ps_set (i := 6) sc__law_told.nd rfl (Or.inl rfl) (pe_ix ix_seq (pe_lst (pa_cons pe_str (pa_cons pe_str (pa_cons pe_str (pa_cons pe_str (pa_cons pe_str (pa_cons pe_str (pa_cons pe_str (pa_cons pe_str (pa_cons pe_str pa_nil)))))))))) (DL.pe_cl c__law_take hr (by omega) (by rfl) (pa_cons (pv 0) (pa_cons pe_int pa_nil))) (fun _ _ => rfl))) (pss_cons (ps_set (i := 7) sc__law_told.nd rfl (Or.inl rfl) (DL.pe_cl c__law_told hr (by omega) (by rfl) (pa_cons (pv 0) (pa_cons (pe_op op_sub (pv 1) pe_int) (pa_cons (pv 2) pa_nil))))) (pss_one (ps_ret (pe_tup (pa_cons pe_str (pa_cons (pv 6) (pa_cons (pv 7) (pa_cons (DL.pe_cl c__law_told hr (by omega) (by rfl) (pa_cons (pv 0) (pa_cons (pe_op op_sub (pv 1) pe_int) (pa_cons (pv 2) pa_nil)))) pa_nil))))))))))))), body1 h ?_⟩)
  try dsimp only [cxOf]
  intro ds es Φ X F hW hE
  obtain ⟨l, nl, rfl, hB, hl1, hln, hn0, hn1, hnm, hΦ⟩ := hW
  have e1 : (l : Int) - 1 = ((l - 1 : Nat) : Int) := by omega
  walk_at "w"
  refine wE_call1 eok0 ⟨_, _, rfl⟩ (wA_cons ?_)
  walk_at "w"
  refine ⟨_, _, rfl, _, rfl, hB, by decide, by decide, fun ds1 y hB1 h0 h1 => rsp_fz ?_⟩
  walk_at "w"
  rw [eqi]
  by_cases hl : l = 1
  · refine ways_ev_t (by rw [hl]; rfl) ?_
    walk_at "w"
    refine wE_call1 eok0 ⟨_, _, rfl⟩ (wA_cons (wE_int (wA_nil ⟨_, _, rfl, 3, rfl, hB1, by decide, by decide, fun ds2 z hB2 _ _ => rsp_fz ?_⟩)))
    walk_at "w"
    rw [eqi]
    by_cases hz : z = 0
    · refine ways_ev_t (by rw [hz]; rfl) ?_
      walk_at "w"
      refine wE_call1 eok0 ⟨_, _, rfl⟩ (wA_nil ⟨_, _, rfl, rfl, hB2, fun ds3 v hB3 hv => rsp_fz ?_⟩)
      walk_at "w"
      exact ⟨_, rfl, hΦ _ (.vl v) hB3 hv hl1 (fun _ h => nomatch h)⟩
    · refine ways_ev_f (beq_eq_false_iff_ne.mpr hz) ?_
      walk_at "w"
      refine wE_call1 eok0 ⟨_, _, rfl⟩ (wA_cons ?_)
      walk_at "w"
      refine ⟨_, _, rfl, _, rfl, hB2, by rw [List.length_map]; omega, by rw [List.length_map]; omega, fun ds3 j hB3 hj0 hj1 => rsp_fz ?_⟩
      refine wR_xLAll hj0 hj1 fun d hd => ?_
      obtain ⟨s, hs, rfl⟩ := List.mem_map.mp hd
      walk_at "w"
      exact ⟨_, rfl, hΦ _ (.nm s) hB3 (hnm s hs) hl1 (fun z hz => by rw [List.mem_singleton.mp hz]; exact hs)⟩
  refine ways_ev_f (beq_eq_false_iff_ne.mpr (by omega)) ?_
  walk_at "w"
  refine ways_dec (fun h2 => ?_) (fun h2 => ?_)
  · skip
    walk_at "w"
    refine wE_call1 eok0 ⟨_, _, rfl⟩ (wA_cons (wE_int (wA_nil ⟨_, _, rfl, 3, rfl, hB1, by decide, by decide, fun ds2 z hB2 _ _ => rsp_fz ?_⟩)))
    walk_at "w"
    rw [eqi]
    by_cases hz : z = 0
    · refine ways_ev_t (by rw [hz]; rfl) ?_
      walk_at "w"
      refine wE_call1 eok0 ⟨_, _, rfl⟩ (wA_nil ⟨_, _, rfl, rfl, hB2, fun ds3 v hB3 hv => rsp_fz ?_⟩)
      walk_at "w"
      exact ⟨_, rfl, hΦ _ (.vl v) hB3 hv hl1 (fun _ h => nomatch h)⟩
    · refine ways_ev_f (beq_eq_false_iff_ne.mpr hz) ?_
      walk_at "w"
      refine wE_call1 eok0 ⟨_, _, rfl⟩ (wA_cons ?_)
      walk_at "w"
      refine ⟨_, _, rfl, _, rfl, hB2, by rw [List.length_map]; omega, by rw [List.length_map]; omega, fun ds3 j hB3 hj0 hj1 => rsp_fz ?_⟩
      refine wR_xLAll hj0 hj1 fun d hd => ?_
      obtain ⟨s, hs, rfl⟩ := List.mem_map.mp hd
      walk_at "w"
      exact ⟨_, rfl, hΦ _ (.nm s) hB3 (hnm s hs) hl1 (fun z hz => by rw [List.mem_singleton.mp hz]; exact hs)⟩
  walk_at "w"
  rw [eqi]
  by_cases hy2 : y = 2
  · refine ways_ev_t (by rw [hy2]; rfl) ?_
    walk_at "w"
    refine wE_call1 eok0 ⟨_, _, rfl⟩ (wA_cons ?_)
    walk_at "w"
    rw [e1]
    refine ⟨_, _, rfl, l - 1, nl, rfl, hB1, by omega, by omega, hn0, hn1, hnm, fun ds2 t hB2 hok hlv ht => rsp_fz ?_⟩
    walk_at "w"
    exact ⟨_, rfl, hΦ _ (.nt t) hB2 hok (by show 1 + t.lv ≤ l; omega) ht⟩
  refine ways_ev_f (beq_eq_false_iff_ne.mpr hy2) ?_
  walk_at "w"
  rw [eqi]
  by_cases hy3 : y = 3
  · refine ways_ev_t (by rw [hy3]; rfl) ?_
    walk_at "w"
    refine wE_ofO (wO_lcR1 (tgt_name (by decide)) (wA_cons (wE_int (wA_nil ⟨3, rfl, by decide, by decide, ?_⟩))))
    walk_at "nm"
    refine compL_inv (rng 0 (3 : Int).toNat) (fun i ρ acc => ∃ ds' ts, Box ds' ∧ ρ = [.ow .any ds', .fz (.int l), .fz (.lst (nl.map .str)), .fz (.int y), .un, .un, .un, .un] ∧ acc = ts.map Tm.told ∧ ts.length = i ∧ ∀ t ∈ ts, t.ok ∧ t.lv ≤ l - 1 ∧ ∀ s ∈ tn t, s ∈ nl) ⟨ds1, [], hB1, rfl, rfl, rfl, fun _ h => nomatch h⟩ (fun i x ρ2 acc F' hx hI => ?_) (fun ρ2 acc hI => ?_)
    · obtain ⟨ds', ts, hB', rfl, rfl, hl2, hT⟩ := hI
      walk_at "w"
      refine wE_call1 eok0 ⟨_, _, rfl⟩ (wA_cons ?_)
      walk_at "w"
      rw [e1]
      refine ⟨_, _, rfl, l - 1, nl, rfl, hB', by omega, by omega, hn0, hn1, hnm, fun ds2 t hB2 hok hlv ht => rsp_fz ?_⟩
      refine ⟨ds2, ts ++ [t], hB2, rfl, by rw [List.map_append]; rfl, by rw [List.length_append, hl2]; rfl, fun u hu => ?_⟩
      rcases List.mem_append.mp hu with hu | hu
      · exact hT u hu
      · rw [List.mem_singleton] at hu
        subst hu
        exact ⟨hok, hlv, ht⟩
    · obtain ⟨ds', ts, hB', rfl, rfl, hl2, hT⟩ := hI
      rw [rng_len] at hl2
      match ts, hl2, hT with
      | [ta, tb, te], _, hT =>
        obtain ⟨oa, la, ia⟩ := hT ta (.head _)
        obtain ⟨ob, lb, ib⟩ := hT tb (.tail _ (.head _))
        obtain ⟨oe, le, ie⟩ := hT te (.tail _ (.tail _ (.head _)))
        walk_at "nm"
        walk_at "w"
        exact ⟨_, rfl, hΦ _ (.pk ta tb te) hB' ⟨oa, ob, oe⟩ (by show 1 + max (max ta.lv tb.lv) te.lv ≤ l; omega) fun z hz => (List.mem_append.mp hz).elim (fun y => (List.mem_append.mp y).elim (ia z) (ib z)) (ie z)⟩
  refine ways_ev_f (beq_eq_false_iff_ne.mpr hy3) ?_
  walk_at "w"
  refine wE_call1 eok0 ⟨_, _, rfl⟩ (wA_cons (wE_int (wA_nil ⟨_, _, rfl, 9, rfl, hB1, by decide, by decide, fun ds2 j hB2 hj0 hj1 => rsp_fz ?_⟩)))
  refine wR_xLAll hj0 hj1 fun d hd => ?_
  obtain ⟨op, hop, rfl⟩ : ∃ op, op ∈ opsL ∧ d = .str op := by
    have hd2 : d ∈ opsL.map D.str := hd
    obtain ⟨op, h, e⟩ := List.mem_map.mp hd2
    exact ⟨op, h, e.symm⟩
  walk_at "w"
  refine wE_call1 eok0 ⟨_, _, rfl⟩ (wA_cons ?_)
  walk_at "w"
  rw [e1]
  refine ⟨_, _, rfl, l - 1, nl, rfl, hB2, by omega, by omega, hn0, hn1, hnm, fun ds3 ta hB3 oka hla ia => rsp_fz ?_⟩
  walk_at "w"
  refine wE_call1 eok0 ⟨_, _, rfl⟩ (wA_cons ?_)
  walk_at "w"
  rw [e1]
  refine ⟨_, _, rfl, l - 1, nl, rfl, hB3, by omega, by omega, hn0, hn1, hnm, fun ds4 tb hB4 okb hlb ib => rsp_fz ?_⟩
  walk_at "w"
  exact ⟨_, rfl, hΦ _ (.tw op ta tb) hB4 ⟨hop, oka, okb⟩ (by show 1 + max ta.lv tb.lv ≤ l; omega) fun z hz => (List.mem_append.mp hz).elim (ia z) (ib z)⟩

theorem ok__law_made {n : Nat} {f : Addr} {fd : FuncData} (F : L2.Fun K "_law_made" "_law_made" s__law_made f fd) (T : Txt K mg c) (c__law_made : Callee P w K mg base (8 + n) "_law_made" (sp0 K (W__law_made c n))) (n_Name : KCallee P w K mg base 3 "Name" c.nm (spI K c.nm (W_Name_init c))) (n_Value : KCallee P w K mg base 4 "Value" c.vl (spI K c.vl (W_Value_init c))) (n_Not : KCallee P w K mg base 7 "Not" c.nt (spI K c.nt (W_Not_init c))) (n_Pick : KCallee P w K mg base 7 "Pick" c.pk (spI K c.pk (W_Pick_init c))) (n_Two : KCallee P w K mg base 7 "Two" c.tw (spI K c.tw (W_Two_init c))) : FnOk P w K mg base L2.CX0 (8 + n + 1) f fd ["told"] (sp0 K (W__law_made c (n + 1))) := by
  refine F.ok sc__law_made (fun vs H Q E h => sp0_len (by rintro _ _ _ ⟨_, rfl, _⟩; rfl) h) (fun cdv A outer s H vs Q E hr h => ⟨_, (pss_cons (ps_if (pt_cmpR (op_eqD hr.units) (pe_ix ix_seq (pv 0) pe_int (fun _ _ => rfl)) pe_str (nomark _)) (pss_one (ps_ret (DL.pe_new1 n_Name hr (by omega) (by rfl) (pa_cons (pe_ix ix_seq (pv 0) pe_int (fun _ _ => rfl)) pa_nil)))) pss_nil) (pss_cons (ps_if (pt_cmpR (op_eqD hr.units) (pe_ix ix_seq (pv 0) pe_int (fun _ _ => rfl)) pe_str (nomark _)) (pss_one (ps_ret (DL.pe_new1 n_Value hr (by omega) (by rfl) (pa_cons (pe_ix ix_seq (pv 0) pe_int (fun _ _ => rfl)) pa_nil)))) pss_nil) (pss_cons (ps_if (pt_cmpR (op_eqD hr.units) (pe_ix ix_seq (pv 0) pe_int (fun _ _ => rfl)) pe_str (nomark _)) (pss_one (ps_ret (DL.pe_new1 n_Not hr (by omega) (by rfl) (pa_cons (DL.pe_cl c__law_made hr (by omega) (by rfl) (pa_cons (pe_ix ix_seq (pv 0) pe_int (fun _ _ => rfl)) pa_nil)) pa_nil)))) pss_nil) (pss_cons (ps_if (pt_cmpR (op_eqD hr.units) (pe_ix ix_seq (pv 0) pe_int (fun _ _ => rfl)) pe_str (nomark _)) (pss_one (ps_ret (DL.pe_new1 n_Pick hr (by omega) (by rfl) (pa_cons (DL.pe_cl c__law_made hr (by omega) (by rfl) (pa_cons (pe_ix ix_seq (pv 0) pe_int (fun _ _ => rfl)) pa_nil)) (pa_cons (DL.pe_cl c__law_made hr (by omega) (by rfl) (pa_cons (pe_ix ix_seq (pv 0) pe_int (fun _ _ => rfl)) pa_nil)) (pa_cons (DL.pe_cl c__law_made hr (by omega) (by rfl) (pa_cons (pe_ix ix_seq (pv 0) pe_int (fun _ _ => rfl)) pa_nil)) pa_nil)))))) pss_nil) (pss_one (ps_ret (DL.pe_new1 n_Two hr (by omega) (by rfl) (pa_cons (pe_ix ix_seq (pv 0) pe_int (fun _ _ => rfl)) (pa_cons (DL.pe_cl c__law_made hr (by omega) (by rfl) (pa_cons (pe_ix ix_seq (pv 0) pe_int (fun _ _ => rfl)) pa_nil)) (pa_cons (DL.pe_cl c__law_made hr (by omega) (by rfl) (pa_cons (pe_ix ix_seq (pv 0) pe_int (fun _ _ => rfl)) pa_nil)) pa_nil)))))))))), body0 h ?_⟩)
  try dsimp only [cxOf]
  intro ds Φ X F hW hE
  obtain ⟨t, rfl, hok, hl, h5, hΦ⟩ := hW
  cases t with
  | nm s =>
    dsimp only [Tm.told]
    walk_at "c"
    exact ⟨s, rfl, hok, hΦ⟩
  | vl v =>
    dsimp only [Tm.told]
    walk_at "c"
    exact ⟨v, rfl, hok, hΦ⟩
  | nt a =>
    have hl' : 1 + a.lv ≤ n + 1 := hl
    have h5' : 1 + a.lv ≤ 5 := h5
    dsimp only [Tm.told]
    walk_at "c"
    refine ⟨a, rfl, hok, by omega, by omega, rsp_fz ?_⟩
    walk_at "c"
    exact ⟨a, rfl, by omega, hΦ⟩
  | tw op a b =>
    have hl' : 1 + max a.lv b.lv ≤ n + 1 := hl
    have h5' : 1 + max a.lv b.lv ≤ 5 := h5
    dsimp only [Tm.told]
    walk_at "c"
    refine ⟨a, rfl, hok.2.1, by omega, by omega, rsp_fz ?_⟩
    walk_at "c"
    refine ⟨b, rfl, hok.2.2, by omega, by omega, rsp_fz ?_⟩
    walk_at "c"
    exact ⟨op, a, b, rfl, hok.1, by omega, by omega, hΦ⟩
  | pk a b e =>
    have hl' : 1 + max (max a.lv b.lv) e.lv ≤ n + 1 := hl
    have h5' : 1 + max (max a.lv b.lv) e.lv ≤ 5 := h5
    dsimp only [Tm.told]
    walk_at "c"
    refine ⟨a, rfl, hok.1, by omega, by omega, rsp_fz ?_⟩
    walk_at "c"
    refine ⟨b, rfl, hok.2.1, by omega, by omega, rsp_fz ?_⟩
    walk_at "c"
    refine ⟨e, rfl, hok.2.2, by omega, by omega, rsp_fz ?_⟩
    walk_at "c"
    exact ⟨a, b, e, rfl, by omega, by omega, by omega, hΦ⟩

theorem ok__law_sum {f : Addr} {fd : FuncData} (F : L2.Fun K "_law_sum" "_law_sum" s__law_sum f fd) (T : Txt K mg c) (m_isinstance : mg "isinstance" = none) (m_bool : mg "bool" = none) (m_len : mg "len" = none) (m_int : mg "int" = none) (m_abs : mg "abs" = none) : FnOk P w K mg base L2.CX0 1 f fd ["op", "one", "other"] (sp0 K W__law_sum) := by
  refine F.ok sc__law_sum (fun vs H Q E h => sp0_len (by rintro _ _ _ ⟨_, _, _, rfl, _⟩; rfl) h) (fun cdv A outer s H vs Q E hr h => ⟨_, (pss_cons (ps_setLc (i := 3) (own := [("thing", 4)]) (g := (gName 4)) (tt := _) rfl sc__law_sum.nd rfl rfl (sw_true rfl rfl rfl (by decide +kernel)) (pi_list (pe_lst (pa_cons (pv 1) (pa_cons (pv 2) pa_nil)))) (blkOk_by (N := N__law_sum) (sc := defScope s__law_sum) (by decide +kernel)) (fun _ _ _ _ _ => (pg_name (i := 4) sc__law_sum.nd rfl (Or.inl rfl))) (fun _ _ _ _ _ => pts_one (pt_not (pt_val (pe_callB (show CallR _ _ (rIsi K) from call_isi) (by rfl) m_isinstance PyProof.Rows.boot_isinstance (pa_cons (pv 4) (pa_cons (pe_bltn (v := .ty "bool") (by rfl) m_bool PyProof.Rows.boot_bool rfl) pa_nil)))))) (fun _ _ _ _ _ => (pv 4))) (pss_cons (ps_if (PW.pt (pw_or (PW.pt (pw_and (pt_cmpR (op_eqD hr.units) (pv 0) pe_str (nomark _)) (pw_and1 (pt_cmpR (op_eqD hr.units) (pe_callB call_len (by rfl) m_len PySem.boot_len (pa_cons (pv 3) pa_nil)) pe_int (nomark _))))) (pw_or1 (PW.pt (pw_and (pt_cmpR op_in_seq (pv 0) (pe_tup (pa_cons pe_str (pa_cons pe_str pa_nil))) (by rfl)) (pw_and1 (pt_cmpR (op_neD hr.units) (pv 3) (pe_lst pa_nil) (nomark _)))))))) (pss_one (ps_ret (pe_tup (pa_cons pe_non (pa_cons pe_str pa_nil))))) pss_nil) (pss_cons (ps_if (pt_cmpR (op_eqD hr.units) (pv 0) pe_str (nomark _)) (pss_one (ps_ret (pe_tup (pa_cons (pe_cmpR (op_eqD hr.units) (pv 1) (pv 2) (nomark _)) (pa_cons pe_non pa_nil))))) pss_nil) (pss_cons (ps_if (pt_cmpR op_in_seq (pv 0) (pe_tup (pa_cons pe_str (pa_cons pe_str pa_nil))) (by rfl)) (pss_one (ps_ret (pe_tup (pa_cons (pe_cmpR op_gt (pe_bm PySem.F.plainAttrs_list PySem.F.slot_list_count PySem.F.type_list_count DL.mt_countF (pe_lst (pa_cons (pv 1) (pa_cons (pv 2) pa_nil))) (pa_cons pe_bl pa_nil)) (pe_callTy call_int1 (by rfl) m_int PyProof.Rows.boot_int (pa_cons (pe_cmpR (op_eqD hr.units) (pv 0) pe_str (nomark _)) pa_nil)) (nomark _)) (pa_cons pe_non pa_nil))))) pss_nil) (pss_cons (ps_if (pt_cmpR op_lt (pe_callB call_len (by rfl) m_len PySem.boot_len (pa_cons (pv 3) pa_nil)) pe_int (nomark _)) (pss_one (ps_ret (pe_tup (pa_cons pe_non (pa_cons pe_str pa_nil))))) pss_nil) (pss_cons (ps_if (pt_cmpR (op_eqD hr.units) (pv 0) pe_str (nomark _)) (pss_one (ps_ret (pe_tup (pa_cons (pe_cmpR op_lt (pv 1) (pv 2) (nomark _)) (pa_cons pe_non pa_nil))))) pss_nil) (pss_cons (ps_if (PW.pt (pw_and (pt_cmpR op_in_seq (pv 0) (pe_tup (pa_cons pe_str (pa_cons pe_str pa_nil))) (by rfl)) (pw_and1 (pt_cmpR (op_eqD hr.units) (pv 2) pe_int (nomark _))))) (pss_one (ps_ret (pe_tup (pa_cons pe_non (pa_cons pe_str pa_nil))))) pss_nil) (pss_cons (ps_set (i := 5) sc__law_sum.nd rfl (Or.inl rfl) pe_int) (pss_cons (ps_if (pt_cmpR (op_eqD hr.units) (pv 0) pe_str (nomark _)) (pss_one (ps_set (i := 5) sc__law_sum.nd rfl (Or.inl rfl) (pe_op DL.op_plus (pv 1) (pv 2)))) (pss_one (ps_if (pt_cmpR (op_eqD hr.units) (pv 0) pe_str (nomark _)) (pss_one (ps_set (i := 5) sc__law_sum.nd rfl (Or.inl rfl) (pe_op op_sub (pv 1) (pv 2)))) (pss_one (ps_if (pt_cmpR (op_eqD hr.units) (pv 0) pe_str (nomark _)) (pss_one (ps_set (i := 5) sc__law_sum.nd rfl (Or.inl rfl) (pe_op op_mul (pv 1) (pv 2)))) (pss_one (ps_if (pt_cmpR (op_eqD hr.units) (pv 0) pe_str (nomark _)) (pss_one (ps_set (i := 5) sc__law_sum.nd rfl (Or.inl rfl) (pe_op op_fdivN (pe_op op_sub (pv 1) (pe_op op_modN (pv 1) (pv 2))) (pv 2)))) (pss_one (ps_set (i := 5) sc__law_sum.nd rfl (Or.inl rfl) (pe_op op_sub (pv 1) (pe_op op_mul (pv 2) (pe_op op_fdivN (pv 1) (pv 2))))))))))))) (pss_cons (ps_if (pt_cmpR op_gt (pe_callB call_abs (by rfl) m_abs PyProof.Rows.boot_abs (pa_cons (pv 5) pa_nil)) (pe_op op_pow pe_int pe_int) (nomark _)) (pss_one (ps_ret (pe_tup (pa_cons pe_non (pa_cons pe_str pa_nil))))) pss_nil) (pss_one (ps_ret (pe_tup (pa_cons (pv 5) (pa_cons pe_non pa_nil))))))))))))))), body0 h ?_⟩)
  try dsimp only [cxOf]
  intro ds Φ X F hW hE
  obtain ⟨o, x, y, rfl, hx, hy, hΦ⟩ := hW
  rcases x with i | b <;> rcases y with j | b2
  case n.n =>
    dsimp only [Va.ok] at hx hy
    cases o
    all_goals dsimp only [Va.d, Op.s]
    all_goals walk_at "w"
    all_goals first | exact hΦ | skip
    case add =>
      have e : rk .add (.n i) (.n j) = fin (.int (i + j)) := rfl
      rw [e] at hΦ
      refine ways_great (fun h => ?_) (fun h => ?_)
      · rw [fin_neg h] at hΦ
        walk_at "w"
        exact hΦ
      · rw [fin_pos h] at hΦ
        walk_at "w"
        exact hΦ
    case sub =>
      have e : rk .sub (.n i) (.n j) = fin (.int (i - j)) := rfl
      rw [e] at hΦ
      refine ways_great (fun h => ?_) (fun h => ?_)
      · rw [fin_neg h] at hΦ
        walk_at "w"
        exact hΦ
      · rw [fin_pos h] at hΦ
        walk_at "w"
        exact hΦ
    case mul =>
      have e : rk .mul (.n i) (.n j) = fin (.int (i * j)) := rfl
      rw [e] at hΦ
      refine ways_great (fun h => ?_) (fun h => ?_)
      · rw [fin_neg h] at hΦ
        walk_at "w"
        exact hΦ
      · rw [fin_pos h] at hΦ
        walk_at "w"
        exact hΦ
    case div =>
      rw [eqi]
      by_cases hj : j = 0
      · refine ways_ev_t (by rw [hj]; rfl) ?_
        have e : rk .div (.n i) (.n j) = .nought := by rw [hj]; rfl
        rw [e] at hΦ
        walk_at "w"
        exact hΦ
      · refine ways_ev_f (beq_eq_false_iff_ne.mpr hj) ?_
        rw [rk_div hj, ← quot_eq hj] at hΦ
        have hm := fmod_bd (a := i) hj
        walk_at "w"
        refine wR_I hj ?_
        walk_at "w"
        refine ways_great (fun h => ?_) (fun h => ?_)
        · rw [fin_neg h] at hΦ
          walk_at "w"
          exact hΦ
        · rw [fin_pos h] at hΦ
          walk_at "w"
          exact hΦ
    case md =>
      rw [eqi]
      by_cases hj : j = 0
      · refine ways_ev_t (by rw [hj]; rfl) ?_
        have e : rk .md (.n i) (.n j) = .nought := by rw [hj]; rfl
        rw [e] at hΦ
        walk_at "w"
        exact hΦ
      · refine ways_ev_f (beq_eq_false_iff_ne.mpr hj) ?_
        rw [rk_md hj, ← rest_eq] at hΦ
        walk_at "w"
        refine ways_great (fun h => ?_) (fun h => ?_)
        · rw [fin_neg h] at hΦ
          walk_at "w"
          exact hΦ
        · rw [fin_pos h] at hΦ
          walk_at "w"
          exact hΦ
  case n.t => cases o <;> (dsimp only [Va.d, Op.s]; walk_at "w"; exact hΦ)
  case t.n => cases o <;> (dsimp only [Va.d, Op.s]; walk_at "w"; exact hΦ)
  case t.t =>
    cases o
    case an => cases b <;> cases b2 <;> (dsimp only [Va.d, Op.s]; walk_at "w"; exact hΦ)
    case or => cases b <;> cases b2 <;> (dsimp only [Va.d, Op.s]; walk_at "w"; exact hΦ)
    all_goals (dsimp only [Va.d, Op.s]; walk_at "w"; exact hΦ)

theorem ok__law_due {n : Nat} {f : Addr} {fd : FuncData} (F : L2.Fun K "_law_due" "_law_due" s__law_due f fd) (T : Txt K mg c) (c__law_due : Callee P w K mg base (2 + n) "_law_due" (sp0 K (W__law_due n))) (c__law_sum : Callee P w K mg base 1 "_law_sum" (sp0 K W__law_sum)) (m_int : mg "int" = none) (m_isinstance : mg "isinstance" = none) (m_bool : mg "bool" = none) : FnOk P w K mg base L2.CX0 (2 + n + 1) f fd ["told", "book"] (sp0 K (W__law_due (n + 1))) := by
  refine F.ok sc__law_due (fun vs H Q E h => sp0_len (by rintro _ _ _ ⟨_, _, rfl, _⟩; rfl) h) (fun cdv A outer s H vs Q E hr h => ⟨_, (pss_cons (ps_if (pt_cmpR (op_eqD hr.units) (pe_ix ix_seq (pv 0) pe_int (fun _ _ => rfl)) pe_str (nomark _)) (pss_one (ps_ret (pe_tup (pa_cons (pe_dget (DL.units1 hr) (pv 1) (pe_ix ix_seq (pv 0) pe_int (fun _ _ => rfl)) (fun _ _ => rfl)) (pa_cons pe_non pa_nil))))) pss_nil) (pss_cons (ps_if (pt_cmpR (op_eqD hr.units) (pe_ix ix_seq (pv 0) pe_int (fun _ _ => rfl)) pe_str (nomark _)) (pss_one (ps_ret (pe_tup (pa_cons (pe_ix ix_seq (pv 0) pe_int (fun _ _ => rfl)) (pa_cons pe_non pa_nil))))) pss_nil) (pss_cons (ps_set (i := 2) sc__law_due.nd rfl (Or.inl rfl) (pe_lst pa_nil)) (pss_cons (ps_for PassesOwn.never rfl (pi_tup (pe_slice sl_tup (pv 0) (po_some (pe_op DL.op_plus pe_int (pe_callTy call_int1 (by rfl) m_int PyProof.Rows.boot_int (pa_cons (pe_cmpR (op_eqD hr.units) (pe_ix ix_seq (pv 0) pe_int (fun _ _ => rfl)) pe_str (nomark _)) pa_nil)))) po_none)) (pg_name (i := 3) sc__law_due.nd rfl (Or.inl rfl)) (pss_cons (ps_asg (DL.pe_cl c__law_due hr (by omega) (by rfl) (pa_cons (pv 3) (pa_cons (pv 1) pa_nil))) (show PG _ _ (gTup K 2 _) from pg_tup rfl (pgs_cons (pg_name (i := 4) sc__law_due.nd rfl (Or.inl rfl)) (pgs_cons (pg_name (i := 5) sc__law_due.nd rfl (Or.inl rfl)) pgs_nil)))) (pss_cons (ps_if (pt_cmpR op_notN (pv 5) pe_non (nomark _)) (pss_one (ps_ret (pe_tup (pa_cons pe_non (pa_cons (pv 5) pa_nil))))) pss_nil) (pss_one (ps_expr (pe_bm PySem.F.plainAttrs_list PySem.F.slot_list_append PySem.F.type_list_append mt_append (pv 2) (pa_cons (pv 4) pa_nil))))))) (pss_cons (ps_if (pt_cmpR (op_eqD hr.units) (pe_ix ix_seq (pv 0) pe_int (fun _ _ => rfl)) pe_str (nomark _)) (pss_one (ps_ret (DL.pe_cl c__law_sum hr (by omega) (by rfl) (pa_cons (pe_ix ix_seq (pv 0) pe_int (fun _ _ => rfl)) (pa_cons (pe_ix ix_seq (pv 2) pe_int (fun _ _ => rfl)) (pa_cons (pe_ix ix_seq (pv 2) pe_int (fun _ _ => rfl)) pa_nil)))))) pss_nil) (pss_cons (ps_if (pt_not (pt_val (pe_callB call_isi (by rfl) m_isinstance PyProof.Rows.boot_isinstance (pa_cons (pe_ix ix_seq (pv 2) pe_int (fun _ _ => rfl)) (pa_cons (pe_bltn (v := .ty "bool") (by rfl) m_bool PyProof.Rows.boot_bool rfl) pa_nil))))) (pss_one (ps_ret (pe_tup (pa_cons pe_non (pa_cons pe_str pa_nil))))) pss_nil) (pss_cons (ps_if (pt_cmpR (op_eqD hr.units) (pe_ix ix_seq (pv 0) pe_int (fun _ _ => rfl)) pe_str (nomark _)) (pss_one (ps_ret (pe_tup (pa_cons (pe_not (pe_ix ix_seq (pv 2) pe_int (fun _ _ => rfl))) (pa_cons pe_non pa_nil))))) pss_nil) (pss_one (ps_ret (pe_tup (pa_cons (pe_ix ix_seq (pe_lst (pa_cons (pe_ix ix_seq (pv 2) pe_int (fun _ _ => rfl)) (pa_cons (pe_ix ix_seq (pv 2) pe_int (fun _ _ => rfl)) pa_nil))) (pe_callTy call_int1 (by rfl) m_int PyProof.Rows.boot_int (pa_cons (pe_ix ix_seq (pv 2) pe_int (fun _ _ => rfl)) pa_nil)) (fun _ _ => rfl)) (pa_cons pe_non pa_nil)))))))))))), body0 h ?_⟩)
  try dsimp only [cxOf]
  intro ds Φ X F hW hE
  obtain ⟨t, bk, rfl, hl, hok, hb, hin, hΦ⟩ := hW
  cases t with
  | nm s =>
    obtain ⟨d, hd⟩ := hin s (.head _)
    obtain ⟨x, rfl, hx, e⟩ := vok_res (hb _ (at_mem hd))
    have er : (Tm.nm s).rkn bk = x.res := by rw [Tm.rkn, hd]; exact e
    rw [er, res_d] at hΦ
    rw [show (Tm.nm s).told = .tup [.str "name", .str s] from rfl]
    walk_at "c"
    refine wE_dget (wE_var rfl ?_)
    walk_at "c"
    refine ⟨_, _, _, rfl, rfl, hd, ?_⟩
    walk_at "c"
    exact hΦ
  | vl v =>
    obtain ⟨x, rfl, hx, e⟩ := vok_res (v := v) hok
    have er : (Tm.vl x.d).rkn bk = x.res := e
    rw [er, res_d] at hΦ
    rw [show (Tm.vl x.d).told = .tup [.str "value", x.d] from rfl]
    walk_at "c"
    exact hΦ
  | nt a =>
    have hl' : 1 + a.lv ≤ n + 1 := hl
    rw [Tm.rkn] at hΦ
    rw [show (Tm.nt a).told = .tup [D.str "not", a.told] from rfl]
    have e0 : PyData.eqv (.str "not") (.str "two") = false := by rw [eqs]; decide +kernel
    iterate 26 walk_at "c1"
    walk_at "nm"
    refine wS_seq (wS_setO (wO_lst (wA_nil ⟨Nat.le_of_ble_eq_true rfl, ?_⟩)))
    walk_at "nm"
    refine wS_seq (wS_forT (wE_slT ?_))
    walk_at "c"
    refine ⟨_, rfl, wP_some ?_⟩
    walk_at "c"
    refine ⟨1, by rw [e0]; rfl, wP_no ⟨by show ¬ (HT.sIx 2 0 (some 1) = 0 ∧ HT.sIx 2 2 none = 2); decide, _, rfl, ?_⟩⟩
    rw [show cutD [D.str "not", a.told] (some 1) none = [a.told] from rfl]
    refine forS_cons ?_
    refine wG_name ?_
    walk_at "nm"
    walk_at "c"
    refine ⟨a, bk, rfl, by omega, hok, hb, fun s hs => hin s (hs), rsp_fz ?_⟩
    cases ea : (a.rkn bk).va with
    | none =>
      obtain ⟨g1, g2, g3⟩ := va_none ea
      rw [ea] at hΦ
      have hΦ2 : Φ (.fz (a.rkn bk).d) := hΦ
      rw [g3] at hΦ2 ⊢
      generalize (a.rkn bk).w = w1 at g2 hΦ2 ⊢
      walk_at "c"
      refine ways_ev_t (by rw [g2]; rfl) ?_
      walk_at "c"
      exact hΦ2
    | some x =>
      obtain ⟨g1_a, g2_a, g3_a⟩ := va_some ea
      have ok_a := rkn_ok hb (t := a) hok ea
      rw [ea] at hΦ
      rw [g1_a, res_d]
      walk_at "c"
      walk_at "nm"
      walk_at "c"
      refine wS_append ⟨_, _, rfl⟩ (wE_var rfl ⟨_, _, rfl, Nat.le_of_ble_eq_true rfl, ?_⟩)
      walk_at "nm"
      cases x with
      | n i =>
        dsimp only [Va.d]
        walk_at "c"
        exact hΦ
      | t b =>
        dsimp only [Va.d]
        walk_at "c"
        exact hΦ
  | tw op a b =>
    have hl' : 1 + max a.lv b.lv ≤ n + 1 := hl
    rw [Tm.rkn] at hΦ
    rw [show (Tm.tw op a b).told = .tup [D.str "two", D.str op, a.told, b.told] from rfl]
    have e0 : PyData.eqv (.str "two") (.str "two") = true := by rw [eqs]; decide +kernel
    iterate 26 walk_at "c1"
    walk_at "nm"
    refine wS_seq (wS_setO (wO_lst (wA_nil ⟨Nat.le_of_ble_eq_true rfl, ?_⟩)))
    walk_at "nm"
    refine wS_seq (wS_forT (wE_slT ?_))
    walk_at "c"
    refine ⟨_, rfl, wP_some ?_⟩
    walk_at "c"
    refine ⟨2, by rw [e0]; rfl, wP_no ⟨by show ¬ (HT.sIx 4 0 (some 2) = 0 ∧ HT.sIx 4 4 none = 4); decide, _, rfl, ?_⟩⟩
    rw [show cutD [D.str "two", D.str op, a.told, b.told] (some 2) none = [a.told, b.told] from rfl]
    refine forS_cons ?_
    refine wG_name ?_
    walk_at "nm"
    walk_at "c"
    refine ⟨a, bk, rfl, by omega, hok.2.1, hb, fun s hs => hin s (List.mem_append_left _ hs), rsp_fz ?_⟩
    cases ea : (a.rkn bk).va with
    | none =>
      obtain ⟨g1, g2, g3⟩ := va_none ea
      rw [ea] at hΦ
      have hΦ2 : Φ (.fz (a.rkn bk).d) := hΦ
      rw [g3] at hΦ2 ⊢
      generalize (a.rkn bk).w = w1 at g2 hΦ2 ⊢
      walk_at "c"
      refine ways_ev_t (by rw [g2]; rfl) ?_
      walk_at "c"
      exact hΦ2
    | some x =>
      obtain ⟨g1_a, g2_a, g3_a⟩ := va_some ea
      have ok_a := rkn_ok hb (hok.2.1) ea
      rw [ea] at hΦ
      rw [g1_a, res_d]
      walk_at "c"
      walk_at "nm"
      walk_at "c"
      refine wS_append ⟨_, _, rfl⟩ (wE_var rfl ⟨_, _, rfl, Nat.le_of_ble_eq_true rfl, ?_⟩)
      walk_at "nm"
      walk_at "c"
      refine ⟨b, bk, rfl, by omega, hok.2.2, hb, fun s hs => hin s (List.mem_append_right _ hs), rsp_fz ?_⟩
      cases eb : (b.rkn bk).va with
      | none =>
        obtain ⟨g1, g2, g3⟩ := va_none eb
        rw [eb] at hΦ
        have hΦ2 : Φ (.fz (b.rkn bk).d) := hΦ
        rw [g3] at hΦ2 ⊢
        generalize (b.rkn bk).w = w1 at g2 hΦ2 ⊢
        walk_at "c"
        refine ways_ev_t (by rw [g2]; rfl) ?_
        walk_at "c"
        exact hΦ2
      | some y =>
        obtain ⟨g1_b, g2_b, g3_b⟩ := va_some eb
        have ok_b := rkn_ok hb (hok.2.2) eb
        rw [eb] at hΦ
        rw [g1_b, res_d]
        walk_at "c"
        walk_at "nm"
        walk_at "c"
        refine wS_append ⟨_, _, rfl⟩ (wE_var rfl ⟨_, _, rfl, Nat.le_of_ble_eq_true rfl, ?_⟩)
        walk_at "nm"
        walk_at "c"
        exact ⟨opOf op, x, y, by rw [opOf_s op hok.1], ok_a, ok_b, rsp_fz hΦ⟩
  | pk a b g =>
    have hl' : 1 + max (max a.lv b.lv) g.lv ≤ n + 1 := hl
    rw [Tm.rkn] at hΦ
    rw [show (Tm.pk a b g).told = .tup [D.str "pick", a.told, b.told, g.told] from rfl]
    have e0 : PyData.eqv (.str "pick") (.str "two") = false := by rw [eqs]; decide +kernel
    iterate 26 walk_at "c1"
    walk_at "nm"
    refine wS_seq (wS_setO (wO_lst (wA_nil ⟨Nat.le_of_ble_eq_true rfl, ?_⟩)))
    walk_at "nm"
    refine wS_seq (wS_forT (wE_slT ?_))
    walk_at "c"
    refine ⟨_, rfl, wP_some ?_⟩
    walk_at "c"
    refine ⟨1, by rw [e0]; rfl, wP_no ⟨by show ¬ (HT.sIx 4 0 (some 1) = 0 ∧ HT.sIx 4 4 none = 4); decide, _, rfl, ?_⟩⟩
    rw [show cutD [D.str "pick", a.told, b.told, g.told] (some 1) none = [a.told, b.told, g.told] from rfl]
    refine forS_cons ?_
    refine wG_name ?_
    walk_at "nm"
    walk_at "c"
    refine ⟨a, bk, rfl, by omega, hok.1, hb, fun s hs => hin s (List.mem_append_left _ (List.mem_append_left _ hs)), rsp_fz ?_⟩
    cases ea : (a.rkn bk).va with
    | none =>
      obtain ⟨g1, g2, g3⟩ := va_none ea
      rw [ea] at hΦ
      have hΦ2 : Φ (.fz (a.rkn bk).d) := hΦ
      rw [g3] at hΦ2 ⊢
      generalize (a.rkn bk).w = w1 at g2 hΦ2 ⊢
      walk_at "c"
      refine ways_ev_t (by rw [g2]; rfl) ?_
      walk_at "c"
      exact hΦ2
    | some x =>
      obtain ⟨g1_a, g2_a, g3_a⟩ := va_some ea
      have ok_a := rkn_ok hb (hok.1) ea
      rw [ea] at hΦ
      rw [g1_a, res_d]
      walk_at "c"
      walk_at "nm"
      walk_at "c"
      refine wS_append ⟨_, _, rfl⟩ (wE_var rfl ⟨_, _, rfl, Nat.le_of_ble_eq_true rfl, ?_⟩)
      walk_at "nm"
      walk_at "c"
      refine ⟨b, bk, rfl, by omega, hok.2.1, hb, fun s hs => hin s (List.mem_append_left _ (List.mem_append_right _ hs)), rsp_fz ?_⟩
      cases eb : (b.rkn bk).va with
      | none =>
        obtain ⟨g1, g2, g3⟩ := va_none eb
        rw [eb] at hΦ
        have hΦ2 : Φ (.fz (b.rkn bk).d) := hΦ
        rw [g3] at hΦ2 ⊢
        generalize (b.rkn bk).w = w1 at g2 hΦ2 ⊢
        walk_at "c"
        refine ways_ev_t (by rw [g2]; rfl) ?_
        walk_at "c"
        exact hΦ2
      | some y =>
        obtain ⟨g1_b, g2_b, g3_b⟩ := va_some eb
        have ok_b := rkn_ok hb (hok.2.1) eb
        rw [eb] at hΦ
        rw [g1_b, res_d]
        walk_at "c"
        walk_at "nm"
        walk_at "c"
        refine wS_append ⟨_, _, rfl⟩ (wE_var rfl ⟨_, _, rfl, Nat.le_of_ble_eq_true rfl, ?_⟩)
        walk_at "nm"
        walk_at "c"
        refine ⟨g, bk, rfl, by omega, hok.2.2, hb, fun s hs => hin s (List.mem_append_right _ hs), rsp_fz ?_⟩
        cases eg : (g.rkn bk).va with
        | none =>
          obtain ⟨g1, g2, g3⟩ := va_none eg
          rw [eg] at hΦ
          have hΦ2 : Φ (.fz (g.rkn bk).d) := hΦ
          rw [g3] at hΦ2 ⊢
          generalize (g.rkn bk).w = w1 at g2 hΦ2 ⊢
          walk_at "c"
          refine ways_ev_t (by rw [g2]; rfl) ?_
          walk_at "c"
          exact hΦ2
        | some z =>
          obtain ⟨g1_g, g2_g, g3_g⟩ := va_some eg
          have ok_g := rkn_ok hb (hok.2.2) eg
          rw [eg] at hΦ
          rw [g1_g, res_d]
          walk_at "c"
          walk_at "nm"
          walk_at "c"
          refine wS_append ⟨_, _, rfl⟩ (wE_var rfl ⟨_, _, rfl, Nat.le_of_ble_eq_true rfl, ?_⟩)
          walk_at "nm"
          cases x with
          | n i =>
            dsimp only [Va.d]
            walk_at "c"
            exact hΦ
          | t c1 =>
            dsimp only [Va.d]
            cases c1 with
            | true =>
              have hΦ2 : Φ (.fz y.res.d) := hΦ
              rw [res_d] at hΦ2
              walk_at "c"
              exact hΦ2
            | false =>
              have hΦ2 : Φ (.fz z.res.d) := hΦ
              rw [res_d] at hΦ2
              walk_at "c"
              exact hΦ2

theorem ok__law_all {f : Addr} {fd : FuncData} (F : L2.Fun K "_law_all" "_law_all" s__law_all f fd) (T : Txt K mg c) (c__law_made : Callee P w K mg base (8 + 5) "_law_made" (sp0 K (W__law_made c 5))) (c_read_term : CalleeX P w K mg base 24 "read_term" (sp0 K (W_read_term c e))) (c_term_of : Callee P w K mg base 14 "term_of" (sp0 K (W_term_of c))) (v_renamed : ∀ z ∈ vias K c (W_renamed c nn 5), MCalleeX P w K mg base (8 + 5) z.1 "renamed" z.2) (v_words : ∀ z ∈ vias K c (W_words c 5), MCallee P w K mg base (1 + 5) z.1 "words" z.2) (v_told : ∀ z ∈ vias K c (W_told c 5), MCallee P w K mg base (0 + 5) z.1 "told" z.2) : FnOk P w K mg base L2.CX0 25 f fd ["told"] (sp0 K (W__law_all c)) := by
  refine F.ok sc__law_all (fun vs H Q E h => sp0_len (by rintro _ _ _ ⟨_, rfl, _⟩; rfl) h) (fun cdv A outer s H vs Q E hr h => ⟨_, (pss_cons (ps_set (i := 1) sc__law_all.nd rfl (Or.inl rfl) (DL.pe_cl c__law_made hr (by omega) (by rfl) (pa_cons (pv 0) pa_nil))) (pss_cons (ps_set (i := 2) sc__law_all.nd rfl (Or.inl rfl) (DL.pe_fz (pe_disp (pps_cons pe_str pe_str (pps_cons pe_str pe_str (pps_cons pe_str pe_str (pps_cons pe_str pe_str pps_nil)))) rfl rfl (by decide) (by decide)))) (pss_cons (ps_set (i := 3) sc__law_all.nd rfl (Or.inl rfl) (DL.pe_fz (pe_disp (pps_cons pe_str pe_str (pps_cons pe_str pe_str (pps_cons pe_str pe_str (pps_cons pe_str pe_str pps_nil)))) rfl rfl (by decide) (by decide)))) (pss_one (ps_ret (pe_lst (pa_cons (pv 1) (pa_cons (DL.pe_cl c_term_of hr (by omega) (by rfl) (pa_cons (DL.pe_via v_told hr (by omega) (pv 1)) pa_nil)) (pa_cons (DL.pe_clx0 c_read_term hr (by omega) (by rfl) (pa_cons (DL.pe_via v_words hr (by omega) (pv 1)) pa_nil)) (pa_cons (DL.pe_viaS v_renamed hr (by omega) DL.takes0 (DL.pe_viaS v_renamed hr (by omega) DL.takes0 (pv 1) (pa_cons (pv 2) pa_nil)) (pa_cons (pv 3) pa_nil)) pa_nil)))))))))), body0 h ?_⟩)
  try dsimp only [cxOf]
  intro ds Φ X F hW hE
  obtain ⟨t, rfl, hok, hl, hn, hΦ⟩ := hW
  walk_at "c"
  refine ⟨t, rfl, hok, hl, hl, rsp_fz ?_⟩
  walk_at "nm"
  refine wS_seq (wS_set (wE_fzD (wD_dispS (l := [("a", "b.a"), ("b", "c"), ("c", "a"), ("zz", "zz")]) (by decide) ?_)))
  rw [there_kvs]
  walk_at "nm"
  refine wS_seq (wS_set (wE_fzD (wD_dispS (l := [("b.a", "a"), ("c", "b"), ("a", "c"), ("zz", "zz")]) (by decide) ?_)))
  rw [here_kvs]
  walk_at "nm"
  have hg := pl_good hok hn
  obtain ⟨u, hu, hb⟩ := pl_ren hn
  obtain ⟨huok, hulv⟩ := Tm.ren_ok there_ok.1 hok hu
  obtain ⟨x1, x2, x3⟩ := tx_ok hg hl
  refine wS_ret (wE_ofO (wO_lst (wA_cons (wE_var rfl (wA_cons ?_)))))
  refine wE_call eok0 (wA_cons (wE_tm (nf_told c) (wE_var rfl ⟨t, rfl, t, rfl, rfl, hl, rsp_fz (wA_nil ⟨t, rfl, hok, hl, rsp_fz ?_⟩)⟩)))
  refine wA_cons (wE_call eok0 (wA_cons (wE_tm (nf_words c) (wE_var rfl ⟨t, rfl, t, rfl, rfl, hl, hl, hok, rsp_fz (wA_nil ?_)⟩))))
  refine ⟨_, rfl, rfl, fun h => absurd rfl (h _), fun s hs => ?_⟩
  cases hs
  refine ⟨x1, x2, by rw [split_tx hg]; exact x3, fun j h => ?_, fun t' k h => rsp_fz ?_⟩
  · rw [split_tx hg, rdT_toks hg hl] at h
    cases h
  rw [split_tx hg, rdT_toks hg hl] at h
  cases h
  refine wA_cons (wE_tmA (E := E0) eok0 (nf_renamed c) (wE_tmA (E := E0) eok0 (nf_renamed c) (wE_var rfl ⟨t, rfl, wA_cons (wE_var rfl (wA_nil ⟨t, thereL, rfl, rfl, hl, hok, hl, there_ok.1, fun u' z => rsp_fz ?_, fun d z => ?_⟩))⟩)))
  case refine_2 =>
    rw [hu] at z
    cases z
  rw [hu] at z
  cases z
  refine ⟨u, rfl, wA_cons (wE_var rfl (wA_nil ⟨u, hereL, rfl, rfl, by omega, huok, by omega, there_ok.2, fun u' z => rsp_fz ?_, fun d z => ?_⟩))⟩
  case refine_2 =>
    rw [hb] at z
    cases z
  rw [hb] at z
  cases z
  exact wA_nil ⟨Nat.le_of_ble_eq_true rfl, hΦ⟩

theorem ok__law_joined {f : Addr} {fd : FuncData} (F : L2.Fun K "_law_joined" "_law_joined" s__law_joined f fd) (T : Txt K mg c) (c__law_take : Callee P w K mg base 1 "_law_take" (sp1 K W__law_take)) (c__law_value : Callee P w K mg base 2 "_law_value" (sp1 K (W__law_value c))) : FnOk P w K mg base L2.CX0 3 f fd ["box", "told"] (sp1 K W__law_joined) := by
  refine F.ok sc__law_joined (fun vs H Q E h => sp1_len (by rintro _ _ _ _ ⟨_, rfl, _⟩; rfl) h) (fun cdv A outer s H vs Q E hr h => ⟨_, (pss_cons (ps_set (i := 2) sc__law_joined.nd rfl (Or.inl rfl) (pe_ix ix_seq (pe_lst (pa_cons pe_str (pa_cons pe_str (pa_cons pe_str (pa_cons pe_str (pa_cons pe_str (pa_cons pe_str (pa_cons pe_str (pa_cons pe_str (pa_cons pe_str pa_nil)))))))))) (DL.pe_cl c__law_take hr (by omega) (by rfl) (pa_cons (pv 0) (pa_cons pe_int pa_nil))) (fun _ _ => rfl))) (pss_one (ps_ret (pe_lst (pa_cons (pe_tup (pa_cons pe_str (pa_cons (pv 2) (pa_cons (pv 1) (pa_cons (pe_tup (pa_cons pe_str (pa_cons (DL.pe_cl c__law_value hr (by omega) (by rfl) (pa_cons (pv 0) pa_nil)) pa_nil))) pa_nil))))) (pa_cons (pe_tup (pa_cons pe_str (pa_cons (pv 2) (pa_cons (pe_tup (pa_cons pe_str (pa_cons (DL.pe_cl c__law_value hr (by omega) (by rfl) (pa_cons (pv 0) pa_nil)) pa_nil))) (pa_cons (pv 1) pa_nil))))) pa_nil)))))), body1 h ?_⟩)
  try dsimp only [cxOf]
  intro ds es Φ X F hW hE
  obtain ⟨t, rfl, hB, hok, hΦ⟩ := hW
  walk_at "w"
  refine wE_call1 eok0 ⟨_, _, rfl⟩ (wA_cons (wE_int (wA_nil ⟨_, _, rfl, 9, rfl, hB, by decide, by decide, fun ds2 j hB2 hj0 hj1 => rsp_fz ?_⟩)))
  refine wR_xLAll hj0 hj1 fun d hd => ?_
  obtain ⟨op, hop, rfl⟩ : ∃ op, op ∈ opsL ∧ d = .str op := by
    have hd2 : d ∈ opsL.map D.str := hd
    obtain ⟨op, h, e⟩ := List.mem_map.mp hd2
    exact ⟨op, h, e.symm⟩
  walk_at "w"
  refine wE_call1 eok0 ⟨_, _, rfl⟩ (wA_nil ⟨_, _, rfl, rfl, hB2, fun ds3 v hB3 hv => rsp_fz ?_⟩)
  walk_at "w"
  refine wE_call1 eok0 ⟨_, _, rfl⟩ (wA_nil ⟨_, _, rfl, rfl, hB3, fun ds4 w hB4 hw => rsp_fz ?_⟩)
  walk_at "w"
  have hp := t.lv_pos
  refine ⟨_, rfl, hΦ _ (.tw op t (.vl v)) (.tw op (.vl w) t) hB4 fun u hu => ?_⟩
  rcases List.mem_cons.mp hu with rfl | hu
  · exact ⟨⟨hop, hok, hv⟩, by show 1 + max t.lv 1 = _; omega, List.append_nil _⟩
  · rw [List.mem_singleton.mp hu]
    exact ⟨⟨hop, hw, hok⟩, by show 1 + max 1 t.lv = _; omega, rfl⟩

theorem ok_law {f : Addr} {fd : FuncData} (F : L2.Fun K "law" "law" s_law f fd) (T : Txt K mg c) (c__law_box : Callee P w K mg base 1 "_law_box" (sp0 K W__law_box)) (c__law_cell_at : Callee P w K mg base 1 "_law_cell_at" (sp0 K W__law_cell_at)) (c__law_told : Callee P w K mg base (2 + 5) "_law_told" (sp1 K (W__law_told c 5))) (c__law_take : Callee P w K mg base 1 "_law_take" (sp1 K W__law_take)) (c__law_all : Callee P w K mg base 25 "_law_all" (sp0 K (W__law_all c))) (c__law_joined : Callee P w K mg base 3 "_law_joined" (sp1 K W__law_joined)) (c__law_value : Callee P w K mg base 2 "_law_value" (sp1 K (W__law_value c))) (c__law_given : Callee P w K mg base 3 "_law_given" (spG K (TT tb) s_given_in "_law_book_worth" qlG "book")) (c__law_due : Callee P w K mg base (2 + 5) "_law_due" (sp0 K (W__law_due 5))) (v_reckoned_by : ∀ z ∈ vias K c (W_reckoned_by c 5), MCalleeX P w K mg base (4 + 5) z.1 "reckoned_by" z.2) (v_told : ∀ z ∈ vias K c (W_told c 5), MCallee P w K mg base (0 + 5) z.1 "told" z.2) (m_range : mg "range" = none) (m_max : mg "max" = none) (m_min : mg "min" = none) (m_len : mg "len" = none) (m_repr : mg "repr" = none) : FnG P w K mg base 26 f fd ["script"] (spT K (TT tb) W_law) := by
  refine FnG.of F sc_law (fun vs H Q E h => spT_len (by rintro _ _ _ ⟨_, _, rfl, _⟩; rfl) h) (fun cdv A outer s H vs Q E hq hr h => ⟨_, (pss_cons (ps_for PassesOwn.never rfl (pi_range1 rfl m_range (pa_cons (pe_callB (call_max2 rfl) (by rfl) m_max (by decide +kernel) (pa_cons pe_int (pa_cons (pe_callB (call_min2 rfl) (by rfl) m_min (by decide +kernel) (pa_cons (pe_callB call_len (by rfl) m_len PySem.boot_len (pa_cons (pv 0) pa_nil)) (pa_cons pe_int pa_nil))) pa_nil))) pa_nil)) (pg_name (i := 1) sc_law.nd rfl (Or.inl rfl)) (pss_cons (ps_set (i := 2) sc_law.nd rfl (Or.inl rfl) (DL.pe_cl c__law_box hr (by omega) (by rfl) (pa_cons (DL.pe_cl c__law_cell_at hr (by omega) (by rfl) (pa_cons (pv 0) (pa_cons (pv 1) pa_nil))) pa_nil))) (pss_cons (ps_set (i := 3) sc_law.nd rfl (Or.inr rfl) (DL.pe_cl c__law_told hr (by omega) (by rfl) (pa_cons (pv 2) (pa_cons (pe_op DL.op_plus pe_int (DL.pe_cl c__law_take hr (by omega) (by rfl) (pa_cons (pv 2) (pa_cons pe_int pa_nil)))) (pa_cons (pe_lst (pa_cons pe_str (pa_cons pe_str (pa_cons pe_str (pa_cons pe_str pa_nil))))) pa_nil))))) (pss_cons (ps_setLc (i := 4) (own := [("one", 5)]) (g := (gName 5)) (tt := tYes) rfl sc_law.nd rfl rfl (sw_true rfl rfl rfl (by decide +kernel)) (pi_list (DL.pe_cl c__law_all hr (by omega) (by rfl) (pa_cons (pv 3) pa_nil))) (blkOk_by (N := N_law) (sc := defScope s_law) (by decide +kernel)) (fun _ _ _ _ _ => (pg_name (i := 5) sc_law.nd rfl (Or.inl rfl))) (fun _ _ _ _ _ => pts_nil) (fun _ _ _ _ _ => (pe_tup (pa_cons (pv 5) (pa_cons (pv 3) pa_nil))))) (pss_cons (ps_for PassesOwn.never rfl (pi_list (pe_op DL.op_plus (DL.pe_cl c__law_joined hr (by omega) (by rfl) (pa_cons (pv 2) (pa_cons (pv 3) pa_nil))) (pe_lst (pa_cons (pe_tup (pa_cons pe_str (pa_cons (pe_tup (pa_cons pe_str (pa_cons pe_str pa_nil))) (pa_cons (pv 3) (pa_cons (pe_tup (pa_cons pe_str (pa_cons pe_str pa_nil))) pa_nil))))) (pa_cons (pe_tup (pa_cons pe_str (pa_cons (pv 3) pa_nil))) pa_nil))))) (pg_name (i := 6) sc_law.nd rfl (Or.inr rfl)) (pss_one (ps_set (i := 4) sc_law.nd rfl (Or.inl rfl) (pe_op DL.op_plus (pv 4) (pe_lc (own := [("one", 5)]) (g := (gName 5)) (tt := tYes) rfl sc_law.nd (pi_list (DL.pe_cl c__law_all hr (by omega) (by rfl) (pa_cons (pv 6) pa_nil))) (blkOk_by (N := N_law) (sc := defScope s_law) (by decide +kernel)) (fun _ _ _ _ _ => (pg_name (i := 5) sc_law.nd rfl (Or.inl rfl))) (fun _ _ _ _ _ => pts_nil) (fun _ _ _ _ _ => (pe_tup (pa_cons (pv 5) (pa_cons (pv 6) pa_nil))))))))) (pss_one (ps_for PassesOwn.never rfl (pi_range1 rfl m_range (pa_cons pe_int pa_nil)) (pg_name (i := 7) sc_law.nd rfl (Or.inl rfl)) (pss_cons (ps_set (i := 8) sc_law.nd rfl (Or.inl rfl) pe_dnewK) (pss_cons (ps_for PassesOwn.never rfl (pi_list (pe_lst (pa_cons pe_str (pa_cons pe_str (pa_cons pe_str (pa_cons pe_str pa_nil)))))) (pg_name (i := 9) sc_law.nd rfl (Or.inl rfl)) (pss_one (ps_dput (DL.units1 hr) (pv 8) (pv 9) (DL.pe_cl c__law_value hr (by omega) (by rfl) (pa_cons (pv 2) pa_nil)) rfl))) (pss_one (ps_for PassesOwn.never rfl (pi_list (pv 4)) (show PG _ _ (gTup K 2 _) from pg_tup rfl (pgs_cons (pg_name (i := 10) sc_law.nd rfl (Or.inl rfl)) (pgs_cons (pg_name (i := 11) sc_law.nd rfl (Or.inl rfl)) pgs_nil))) (pss_cons (ps_set (i := 12) sc_law.nd rfl (Or.inl rfl) (DL.pe_viaS v_reckoned_by hr (by omega) DL.takes0 (pv 10) (pa_cons (DL.pe_cl c__law_given hr (by omega) (by rfl) (pa_cons (DL.pe_fzM (pv 8)) pa_nil)) pa_nil))) (pss_one (ps_if (PW.pt (pw_or (pt_cmpR op_ne (pe_callB (DL.call_reprA hq hr.units) (by rfl) m_repr PyProof.Rows.bootS_repr (pa_cons (pv 12) pa_nil)) (pe_callB (DL.call_reprA hq hr.units) (by rfl) m_repr PyProof.Rows.bootS_repr (pa_cons (DL.pe_cl c__law_due hr (by omega) (by rfl) (pa_cons (pv 11) (pa_cons (pv 8) pa_nil))) pa_nil)) (nomark _)) (pw_or1 (pt_cmpR op_ne (pe_callB (DL.call_reprA hq hr.units) (by rfl) m_repr PyProof.Rows.bootS_repr (pa_cons (DL.pe_via v_told hr (by omega) (pv 10)) pa_nil)) (pe_callB (DL.call_reprA hq hr.units) (by rfl) m_repr PyProof.Rows.bootS_repr (pa_cons (pv 11) pa_nil)) (nomark _))))) (pss_one (ps_ret pe_bl)) pss_nil)))))))))))))) (pss_one (ps_ret pe_bl))), bodyT h ?_⟩)
  try dsimp only [cxOf]
  intro ds Φ X F hW hE hL
  obtain ⟨ns, hl, rfl, hΦ⟩ := hW
  walk_at "c"
  refine ⟨_, rfl, by split <;> split <;> omega, by split <;> split <;> omega, ?_⟩
  try walk_at "nm"
  refine forS_inv _ (fun _ ρ => ∃ (s1 s2 s3 s4 s5 s6 s7 s8 s9 s10 s11 s12 : Sl), ρ = [.fz (.scr ns), s1, s2, s3, s4, s5, s6, s7, s8, s9, s10, s11, s12]) ⟨_, _, _, _, _, _, _, _, _, _, _, _, rfl⟩ (fun i x ρ2 hx hI => ?_) (fun ρ2 hI => ?_)
  · obtain ⟨s1, s2, s3, s4, s5, s6, s7, s8, s9, s10, s11, s12, rfl⟩ := hI
    obtain ⟨hi, rfl⟩ := rng_at hx
    refine wG_name (wS_uns [2, 3, 4, 5, 6, 7, 8, 9, 10, 11, 12] ?_)
    dsimp only [List.foldl, List.set_cons_zero, List.set_cons_succ]
    refine wS_seq ?_
    walk_at "nm"
    refine wS_setO (wO_call eok0 (wA_cons ?_))
    walk_at "c"
    refine ⟨ns, _, rfl, by omega, fun cc => rsp_fz ?_⟩
    walk_at "c"
    refine ⟨cc, rfl, fun ds hB => rso_ow ?_⟩
    walk_at "c"
    refine wE_call1 eok0 ⟨_, _, rfl⟩ (wA_cons ?_)
    walk_at "c"
    refine wE_call1 eok0 ⟨_, _, rfl⟩ (wA_cons (wE_int (wA_nil ⟨_, _, rfl, 4, rfl, hB, by decide, by decide, fun ds1 r hB1 hr0 hr1 => rsp_fz ?_⟩)))
    walk_at "c"
    refine ⟨_, _, rfl, (1 + r).toNat, plL, ?_, hB1, by omega, by omega, by decide, by decide, ?_, fun ds2 t hB2 hok hlv hin => rsp_fz ?_⟩
    · rw [Int.toNat_of_nonneg (by omega)]
      rfl
    · intro s hs
      have e : (plL.all fun s => decide (s.length ≤ 100) && ((s.cps.toList.all fun c => decide (c < 0x110000)) && isPt (.str s))) = true := by decide +kernel
      exact gd_by (List.all_eq_true.mp e s hs)
    have h4 : t.lv ≤ 4 := by omega
    walk_at "c"
    refine ⟨t, rfl, hok, by omega, hin, rsp_fz ?_⟩
    walk_at "c"
    refine wE_call1 eok0 ⟨_, _, rfl⟩ (wA_cons (wE_var rfl (wA_nil ⟨_, _, rfl, t, rfl, hB2, hok, fun ds3 a b hB3 hab => rsp_fz ?_⟩)))
    have hms := okP_more hok h4 hin hab
    refine wE_ofO (wO_lst (wA_cons (wE_tup (wA_cons (wE_str (wA_cons ?_))))))
    refine wE_tup (wA_cons (wE_str (wA_cons (wE_str (wA_nil ⟨Nat.le_of_ble_eq_true rfl, ?_⟩)))))
    refine wA_cons (wE_var rfl (wA_cons ?_))
    refine wE_tup (wA_cons (wE_str (wA_cons (wE_str (wA_nil ⟨Nat.le_of_ble_eq_true rfl, ?_⟩)))))
    refine wA_nil ⟨Nat.le_of_ble_eq_true rfl, ?_⟩
    refine wA_cons (wE_tup (wA_cons (wE_str (wA_cons (wE_var rfl (wA_nil ⟨Nat.le_of_ble_eq_true rfl, ?_⟩))))))
    refine wA_nil ⟨Nat.le_of_ble_eq_true rfl, ?_⟩
    refine wRO_E (wRO_plusL (Nat.le_of_ble_eq_true rfl) ⟨_, rfl, ?_⟩)
    refine forS_inv _ (fun j ρ => ∃ (us : List Tm) (s5 s6 : Sl), ρ = [.fz (.scr ns), .fz (.int (0 + (i : Int))), .ow .loc ds3, .fz t.told, .fz (.lst (prL c us)), s5, s6, .un, .un, .un, .un, .un, .un] ∧ us.length = 4 + 4 * j ∧ ∀ u ∈ us, OkP u) ⟨[t, t, t, t], _, _, rfl, rfl, fun u hu => ?_⟩ (fun j x ρ2 hx hI => ?_) (fun ρ2 hI => ?_)
    · have e : u = t := by simpa using hu
      rw [e]
      exact ⟨hok, by omega, hin⟩
    · obtain ⟨us, s5, s6, rfl, hul, huk⟩ := hI
      have hx2 : (([a, b, .pk (.nm "a") t (.nm "b"), .nt t] : List Tm).map Tm.told)[j]? = some x := hx
      rw [List.getElem?_map] at hx2
      obtain ⟨m, hm, rfl⟩ := Option.map_eq_some_iff.mp hx2
      have hj : j < 4 := (List.getElem?_eq_some_iff.mp hm).1
      obtain ⟨m1, m2, m3⟩ := hms m (List.mem_of_getElem? hm)
      refine wG_name (wS_uns [5] ?_)
      dsimp only [List.foldl, List.set_cons_zero, List.set_cons_succ]
      refine wS_set (wE_op (wE_var rfl (wE_ofO (wO_lcL (tgt_name (by decide)) ?_))))
      walk_at "c"
      refine ⟨m, rfl, m1, m2, m3, rsp_fz ?_⟩
      walk_at "c"
      refine wRO_E (wRO_plusL (by rw [List.length_map]; show us.length + 4 ≤ 100000; omega) ?_)
      refine ⟨us ++ [m, m, m, m], .un, .fz m.told, ?_, by rw [List.length_append]; show us.length + 4 = _; omega, fun u hu => ?_⟩
      · rw [show prL c (us ++ [m, m, m, m]) = prL c us ++ prL c [m, m, m, m] from List.map_append]
        rfl
      · rcases List.mem_append.mp hu with hu | hu
        · exact huk u hu
        · have e : u = m := by simpa using hu
          rw [e]
          exact ⟨m1, m2, m3⟩
    · obtain ⟨us, s5, s6, rfl, hul, huk⟩ := hI
      walk_at "nm"
      refine wS_forR1 (wA_cons (wE_int (wA_nil ⟨_, rfl, by decide, by decide, ?_⟩)))
      refine forS_inv _ (fun _ ρ => ∃ (ds' : List D) (s5 s6 s7 s8 s9 s10 s11 s12 : Sl), ρ = [.fz (.scr ns), .fz (.int (0 + (i : Int))), .ow .loc ds', .fz t.told, .fz (.lst (prL c us)), s5, s6, s7, s8, s9, s10, s11, s12] ∧ Box ds') ⟨ds3, _, _, _, _, _, _, _, _, rfl, hB3⟩ (fun q x ρ2 hx hI => ?_) (fun ρ2 hI => ?_)
      · clear hB hB1 hB2 hB3
        obtain ⟨ds, s5, s6, s7, s8, s9, s10, s11, s12, rfl, hB⟩ := hI
        obtain ⟨hq, rfl⟩ := rng_at hx
        refine wG_name (wS_uns [5, 6, 8, 9, 10, 11, 12] ?_)
        dsimp only [List.foldl, List.set_cons_zero, List.set_cons_succ]
        refine wS_seq (wS_setD (wD_new ?_))
        walk_at "nm"
        refine wS_seq (wS_forL (wE_ofO (wO_lst (wA_cons (wE_str (wA_cons (wE_str (wA_cons (wE_str (wA_cons (wE_str (wA_nil ⟨Nat.le_of_ble_eq_true rfl, _, rfl, ?_⟩))))))))))))
        refine forS_inv _ (fun j ρ => ∃ (ds' : List D) (bk : KV) (s9 : Sl), ρ = [.fz (.scr ns), .fz (.int (0 + (i : Int))), .ow .loc ds', .fz t.told, .fz (.lst (prL c us)), .un, .un, .fz (.int (0 + (q : Int))), .od .loc (kvs bk), s9, .un, .un, .un] ∧ Box ds' ∧ ValAt bk (plL.take j)) ⟨ds, [], _, rfl, hB, rfl, fun _ h => nomatch h⟩ (fun j x ρ2 hx hI => ?_) (fun ρ2 hI => ?_)
        · clear hB
          obtain ⟨ds, bk, s9, rfl, hB, hV⟩ := hI
          have hx2 : (plL.map D.str)[j]? = some x := hx
          rw [List.getElem?_map] at hx2
          obtain ⟨s, hs, rfl⟩ := Option.map_eq_some_iff.mp hx2
          refine wG_name ?_
          walk_at "nm"
          refine wS_put (wE_call1 eok0 ⟨_, _, rfl⟩ (wA_nil ⟨_, _, rfl, rfl, hB, fun ds3 v hB3 hv => rsp_fz ?_⟩))
          refine ⟨⟨_, _, rfl⟩, wE_var rfl ⟨_, _, .inr s, rfl, rfl, ?_, ?_⟩⟩
          · have hlen : bk.length ≤ 7 := by
              have z := congrArg List.length hV.1
              rw [List.length_map, List.length_take] at z
              have y : plL.length = 4 := by decide +kernel
              omega
            unfold kvs
            rw [List.length_map]
            omega
          rw [put_kvs]
          refine ⟨ds3, _, _, rfl, hB3, ?_⟩
          rw [take_snoc hs]
          exact hV.put (take_new (by decide +kernel) hs) hv
        · clear hB
          obtain ⟨ds, bk, s9, rfl, hB, hV⟩ := hI
          have hV4 : ValAt bk plL := by
            have e2 : plL.take 4 = plL := by decide +kernel
            rw [← e2]
            exact hV
          clear hV
          walk_at "nm"
          refine wS_forL (wE_var rfl ⟨_, rfl, ?_⟩)
          refine forS_inv _ (fun j ρ => ∃ (s8 s10 s11 s12 : Sl), ρ = [.fz (.scr ns), .fz (.int (0 + (i : Int))), .ow .loc ds, .fz t.told, .fz (.lst (prL c us)), .un, .un, .fz (.int (0 + (q : Int))), s8, s9, s10, s11, s12] ∧ (s8 = .od .loc (kvs bk) ∨ s8 = .fz (.dkv (kvs bk)))) ⟨_, _, _, _, rfl, .inl rfl⟩ (fun j x ρ2 hx hI => ?_) (fun ρ2 hI => ?_)
          · obtain ⟨s8, s10, s11, s12, rfl, h8⟩ := hI
            rw [List.getElem?_map] at hx
            obtain ⟨m, hm, rfl⟩ := Option.map_eq_some_iff.mp hx
            obtain ⟨m1, m2, m3⟩ := huk m (List.mem_of_getElem? hm)
            have hib : InB bk (tn m) := fun s hs => by
              obtain ⟨d, hd, _⟩ := hV4.at (m3 s hs)
              exact ⟨d, hd⟩
            refine wG_tup2 ?_
            walk_at "nm"
            have fin : wS K F (tIfS (tOr (tTest (tOp rNe (tCB (rReprA K) (tCons (tVar 12) tNil)) (tCB (rReprA K) (tCons (tCall (sp0 K (W__law_due 5)) [] E0 (tCons (tVar 11) (tCons (tVar 8) tNil))) tNil)))) (tTest (tOp rNe (tCB (rReprA K) (tCons (tVia (vias K c (W_told c 5)) "told" E0 (tVar 10)) tNil)) (tCB (rReprA K) (tCons (tVar 11) tNil))))) (tRet (tC (V.bl false))) tNext)
                [.fz (.scr ns), .fz (.int (0 + (i : Int))), .ow .loc ds, .fz t.told, .fz (.lst (prL c us)), .un, .un, .fz (.int (0 + (q : Int))), .fz (.dkv (kvs bk)), s9, .fz (m.d c), .fz m.told, .fz (m.rkn bk).d]
                { nx := fun ρ => ∃ (s8 s10 s11 s12 : Sl), ρ = [.fz (.scr ns), .fz (.int (0 + (i : Int))), .ow .loc ds, .fz t.told, .fz (.lst (prL c us)), .un, .un, .fz (.int (0 + (q : Int))), s8, s9, s10, s11, s12] ∧ (s8 = .od .loc (kvs bk) ∨ s8 = .fz (.dkv (kvs bk))), rt := fun _ _ => False } := by
              refine wS_if ?_
              walk_at "c"
              refine wC_reprA (res_rpr fun x hx => rkn_ok hV4.2 m1 hx) ?_
              walk_at "c"
              refine ⟨m, bk, rfl, m2, m1, hV4.2, hib, rsp_fz ?_⟩
              walk_at "c"
              refine wC_reprA (res_rpr fun x hx => rkn_ok hV4.2 m1 hx) ?_
              refine wR_neStr ?_
              refine onB_bl ?_
              refine ways_ev_f (by simp) ?_
              walk_at "c"
              refine wE_tm (nf_told c) ?_
              walk_at "c"
              refine ⟨m, rfl, m, rfl, rfl, m2, rsp_fz ?_⟩
              refine wA_nil (wC_reprA (Tm.rprOk m1 m2) ?_)
              walk_at "c"
              refine wC_reprA (Tm.rprOk m1 m2) ?_
              refine wR_neStr ?_
              refine onB_bl ?_
              refine ways_ev_f (by simp) ?_
              refine wS_next ?_
              exact ⟨_, _, _, _, rfl, .inr rfl⟩
            have fin2 := fun (O : Out) (h : ∀ ρ, (∃ (s8 s10 s11 s12 : Sl), ρ = [.fz (.scr ns), .fz (.int (0 + (i : Int))), .ow .loc ds, .fz t.told, .fz (.lst (prL c us)), .un, .un, .fz (.int (0 + (q : Int))), s8, s9, s10, s11, s12] ∧ (s8 = .od .loc (kvs bk) ∨ s8 = .fz (.dkv (kvs bk)))) → O.nx ρ) => wS_mono (O' := O) fin h (fun _ _ h => h.elim) (fun _ _ h => h.elim) (fun _ h => h.elim) (fun _ h => h.elim)
            rcases h8 with rfl | rfl
            · refine wS_seq (wS_set (wE_tmA (E := E0) eok0 (nf_reckoned_by c) (wE_var rfl ⟨m, rfl, wA_cons (wE_given hL (wA_cons (wE_fzMo rfl (wA_nil ⟨_, rfl, wA_nil ⟨m, bk, rfl, rfl, m2, m1, hV4.2, hib, rsp_fz ?_⟩⟩))))⟩)))
              exact fin2 _ fun _ h => h
            · refine wS_seq (wS_set (wE_tmA (E := E0) eok0 (nf_reckoned_by c) (wE_var rfl ⟨m, rfl, wA_cons (wE_given hL (wA_cons (wE_fzMf rfl (wA_nil ⟨_, rfl, wA_nil ⟨m, bk, rfl, rfl, m2, m1, hV4.2, hib, rsp_fz ?_⟩⟩))))⟩)))
              exact fin2 _ fun _ h => h
          · obtain ⟨s8, s10, s11, s12, rfl, h8⟩ := hI
            exact ⟨_, _, _, _, _, _, _, _, _, rfl, hB⟩
      · obtain ⟨ds, s5, s6, s7, s8, s9, s10, s11, s12, rfl, hB⟩ := hI
        exact ⟨_, _, _, _, _, _, _, _, _, _, _, _, rfl⟩
  · obtain ⟨s1, s2, s3, s4, s5, s6, s7, s8, s9, s10, s11, s12, rfl⟩ := hI
    walk_at "c"
    exact hΦ

end
end K26
namespace K26
open PySem L2 DL
open Evl (Ex)
theorem exm_ownG {K : PySem.W.Frag} {C B : Addr} (ex : PySem.W.subIn K (.ref B) (.type "BaseException") = some true) (cm : PySem.W.mroIn K B (.type "object") = some true) (ty : PySem.W.typeIn K (.ref B) = some (.type "type")) (su : PySem.W.subIn K (.ref C) (.ref B) = some true) : PySem.W.exmOne K (.ref C) (.ref B) = some true := by
  unfold PySem.W.exmOne
  rw [ex, if_pos (by decide)]
  exact kit_sub cm ty su
theorem all_mk {l : PySem.W.OpenLaw} {w : World} {K : PySem.W.Frag} {h : Heap} {mg : Str → Option Value} {fa : Addr} (X : K.In h) (G : h.Ns mainGlobals mg) (hfa : mg "law" = some (.ref fa))
    {C_Name C_Value C_Two C_Not C_Pick C_Term C_NoName C_NoText C_BeatError c0 tb f0 f1 f2 f3 f4 f5 f6 f7 f8 f9 f10 f11 f12 f13 f14 f15 f16 f17 f18 f19 f20 f21 f22 f23 f24 f25 f26 f27 f28 f29 f30 f31 f32 f33 f34 f35 f36 f37 f38 f39 f40 f41 f42 f43 f44 f45 f46 f47 f48 f49 f50 f51 f52 f53 f54 f55 f56 f57 f58 f59 f60 f61 f62 f63 f64 fB fINoName fINoText : Addr} {fd0 fd1 fd2 fd3 fd4 fd5 fd6 fd7 fd8 fd9 fd10 fd11 fd12 fd13 fd14 fd15 fd16 fd17 fd18 fd19 fd20 fd21 fd22 fd23 fd24 fd25 fd26 fd27 fd28 fd29 fd30 fd31 fd32 fd33 fd34 fd35 fd36 fd37 fd38 fd39 fd40 fd41 fd42 fd43 fd44 fd45 fd46 fd47 fd48 fd49 fd50 fd51 fd52 fd53 fd54 fd55 fd56 fd57 fd58 fd59 fd60 fd61 fd62 fd63 fd64 fdB fdINoName fdINoText : FuncData}
    (aC_Name : PySem.W.nsIn K mainGlobals "Name" = some (some (.ref C_Name)))
    (aC_Value : PySem.W.nsIn K mainGlobals "Value" = some (some (.ref C_Value)))
    (aC_Two : PySem.W.nsIn K mainGlobals "Two" = some (some (.ref C_Two)))
    (aC_Not : PySem.W.nsIn K mainGlobals "Not" = some (some (.ref C_Not)))
    (aC_Pick : PySem.W.nsIn K mainGlobals "Pick" = some (some (.ref C_Pick)))
    (aC_Term : PySem.W.nsIn K mainGlobals "Term" = some (some (.ref C_Term)))
    (aC_NoName : PySem.W.nsIn K mainGlobals "NoName" = some (some (.ref C_NoName)))
    (aC_NoText : PySem.W.nsIn K mainGlobals "NoText" = some (some (.ref C_NoText)))
    (aC_BeatError : PySem.W.nsIn K mainGlobals "BeatError" = some (some (.ref C_BeatError)))
    (a0 : PySem.W.nsIn K mainGlobals "is_whole" = some (some (.ref f0)))
    (F0 : L2.Fun K "is_whole" "is_whole" s_is_whole f0 fd0)
    (a1 : PySem.W.nsIn K mainGlobals "is_within" = some (some (.ref f1)))
    (F1 : L2.Fun K "is_within" "is_within" s_is_within f1 fd1)
    (a2 : PySem.W.nsIn K mainGlobals "is_name" = some (some (.ref f2)))
    (F2 : L2.Fun K "is_name" "is_name" s_is_name f2 fd2)
    (a3 : PySem.W.nsIn K mainGlobals "is_pointed" = some (some (.ref f3)))
    (F3 : L2.Fun K "is_pointed" "is_pointed" s_is_pointed f3 fd3)
    (a4 : PySem.W.nsIn K mainGlobals "is_value" = some (some (.ref f4)))
    (F4 : L2.Fun K "is_value" "is_value" s_is_value f4 fd4)
    (a5 : PySem.W.nsIn K mainGlobals "value_text" = some (some (.ref f5)))
    (F5 : L2.Fun K "value_text" "value_text" s_value_text f5 fd5)
    (a6 : PySem.W.nsIn K mainGlobals "_is_number_text" = some (some (.ref f6)))
    (F6 : L2.Fun K "_is_number_text" "_is_number_text" s__is_number_text f6 fd6)
    (a7 : PySem.W.nsIn K mainGlobals "value_of" = some (some (.ref f7)))
    (F7 : L2.Fun K "value_of" "value_of" s_value_of f7 fd7)
    (a8 : PySem.W.nsIn K mainGlobals "name_for" = some (some (.ref f8)))
    (F8 : L2.Fun K "name_for" "name_for" s_name_for f8 fd8)
    (a9 : PySem.W.nsIn K mainGlobals "ops_told" = some (some (.ref f9)))
    (F9 : L2.Fun K "ops_told" "ops_told" s_ops_told f9 fd9)
    (a10 : PySem.W.nsIn K mainGlobals "_takes" = some (some (.ref f10)))
    (F10 : L2.Fun K "_takes" "_takes" s__takes f10 fd10)
    (a11 : PySem.W.nsIn K mainGlobals "_outcome" = some (some (.ref f11)))
    (F11 : L2.Fun K "_outcome" "_outcome" s__outcome f11 fd11)
    (a12 : PySem.W.nsIn K mainGlobals "reckoned" = some (some (.ref f12)))
    (F12 : L2.Fun K "reckoned" "reckoned" s_reckoned f12 fd12)
    (a13 : PySem.W.nsIn K mainGlobals "contrary" = some (some (.ref f13)))
    (F13 : L2.Fun K "contrary" "contrary" s_contrary f13 fd13)
    (a14 : PySem.W.findIn K (.ref C_Name) "told" = some (some (.ref f14)))
    (i14 : PySem.W.isFn K (.ref f14) = true)
    (F14 : L2.Fun K "told" "Name.told" s_Name_told f14 fd14)
    (a15 : PySem.W.findIn K (.ref C_Value) "told" = some (some (.ref f15)))
    (i15 : PySem.W.isFn K (.ref f15) = true)
    (F15 : L2.Fun K "told" "Value.told" s_Value_told f15 fd15)
    (a16 : PySem.W.findIn K (.ref C_Two) "told" = some (some (.ref f16)))
    (i16 : PySem.W.isFn K (.ref f16) = true)
    (F16 : L2.Fun K "told" "Two.told" s_Two_told f16 fd16)
    (a17 : PySem.W.findIn K (.ref C_Not) "told" = some (some (.ref f17)))
    (i17 : PySem.W.isFn K (.ref f17) = true)
    (F17 : L2.Fun K "told" "Not.told" s_Not_told f17 fd17)
    (a18 : PySem.W.findIn K (.ref C_Pick) "told" = some (some (.ref f18)))
    (i18 : PySem.W.isFn K (.ref f18) = true)
    (F18 : L2.Fun K "told" "Pick.told" s_Pick_told f18 fd18)
    (a19 : PySem.W.findIn K (.ref C_Name) "levels" = some (some (.ref f19)))
    (i19 : PySem.W.isFn K (.ref f19) = true)
    (F19 : L2.Fun K "levels" "Name.levels" s_Name_levels f19 fd19)
    (a20 : PySem.W.findIn K (.ref C_Value) "levels" = some (some (.ref f20)))
    (i20 : PySem.W.isFn K (.ref f20) = true)
    (F20 : L2.Fun K "levels" "Value.levels" s_Value_levels f20 fd20)
    (a21 : PySem.W.findIn K (.ref C_Two) "levels" = some (some (.ref f21)))
    (i21 : PySem.W.isFn K (.ref f21) = true)
    (F21 : L2.Fun K "levels" "Two.levels" s_Two_levels f21 fd21)
    (a22 : PySem.W.findIn K (.ref C_Not) "levels" = some (some (.ref f22)))
    (i22 : PySem.W.isFn K (.ref f22) = true)
    (F22 : L2.Fun K "levels" "Not.levels" s_Not_levels f22 fd22)
    (a23 : PySem.W.findIn K (.ref C_Pick) "levels" = some (some (.ref f23)))
    (i23 : PySem.W.isFn K (.ref f23) = true)
    (F23 : L2.Fun K "levels" "Pick.levels" s_Pick_levels f23 fd23)
    (a24 : PySem.W.findIn K (.ref C_Name) "words" = some (some (.ref f24)))
    (i24 : PySem.W.isFn K (.ref f24) = true)
    (F24 : L2.Fun K "words" "Name.words" s_Name_words f24 fd24)
    (a25 : PySem.W.findIn K (.ref C_Value) "words" = some (some (.ref f25)))
    (i25 : PySem.W.isFn K (.ref f25) = true)
    (F25 : L2.Fun K "words" "Value.words" s_Value_words f25 fd25)
    (a26 : PySem.W.findIn K (.ref C_Two) "words" = some (some (.ref f26)))
    (i26 : PySem.W.isFn K (.ref f26) = true)
    (F26 : L2.Fun K "words" "Two.words" s_Two_words f26 fd26)
    (a27 : PySem.W.findIn K (.ref C_Not) "words" = some (some (.ref f27)))
    (i27 : PySem.W.isFn K (.ref f27) = true)
    (F27 : L2.Fun K "words" "Not.words" s_Not_words f27 fd27)
    (a28 : PySem.W.findIn K (.ref C_Pick) "words" = some (some (.ref f28)))
    (i28 : PySem.W.isFn K (.ref f28) = true)
    (F28 : L2.Fun K "words" "Pick.words" s_Pick_words f28 fd28)
    (a29 : PySem.W.nsIn K mainGlobals "_inner" = some (some (.ref f29)))
    (F29 : L2.Fun K "_inner" "_inner" s__inner f29 fd29)
    (a30 : PySem.W.findIn K (.ref C_Name) "__init__" = some (some (.ref f30)))
    (i30 : PySem.W.isFn K (.ref f30) = true)
    (F30 : L2.Fun K "__init__" "Name.__init__" s_Name_init f30 fd30)
    (a31 : PySem.W.findIn K (.ref C_Value) "__init__" = some (some (.ref f31)))
    (i31 : PySem.W.isFn K (.ref f31) = true)
    (F31 : L2.Fun K "__init__" "Value.__init__" s_Value_init f31 fd31)
    (a32 : PySem.W.findIn K (.ref C_Two) "__init__" = some (some (.ref f32)))
    (i32 : PySem.W.isFn K (.ref f32) = true)
    (F32 : L2.Fun K "__init__" "Two.__init__" s_Two_init f32 fd32)
    (a33 : PySem.W.findIn K (.ref C_Not) "__init__" = some (some (.ref f33)))
    (i33 : PySem.W.isFn K (.ref f33) = true)
    (F33 : L2.Fun K "__init__" "Not.__init__" s_Not_init f33 fd33)
    (a34 : PySem.W.findIn K (.ref C_Pick) "__init__" = some (some (.ref f34)))
    (i34 : PySem.W.isFn K (.ref f34) = true)
    (F34 : L2.Fun K "__init__" "Pick.__init__" s_Pick_init f34 fd34)
    (a35 : PySem.W.nsIn K mainGlobals "_made_of" = some (some (.ref f35)))
    (F35 : L2.Fun K "_made_of" "_made_of" s__made_of f35 fd35)
    (a36 : PySem.W.nsIn K mainGlobals "term_of" = some (some (.ref f36)))
    (F36 : L2.Fun K "term_of" "term_of" s_term_of f36 fd36)
    (a37 : PySem.W.findIn K (.ref C_Name) "renamed" = some (some (.ref f37)))
    (i37 : PySem.W.isFn K (.ref f37) = true)
    (F37 : L2.Fun K "renamed" "Name.renamed" s_Name_renamed f37 fd37)
    (a38 : PySem.W.findIn K (.ref C_Value) "renamed" = some (some (.ref f38)))
    (i38 : PySem.W.isFn K (.ref f38) = true)
    (F38 : L2.Fun K "renamed" "Value.renamed" s_Value_renamed f38 fd38)
    (a39 : PySem.W.findIn K (.ref C_Two) "renamed" = some (some (.ref f39)))
    (i39 : PySem.W.isFn K (.ref f39) = true)
    (F39 : L2.Fun K "renamed" "Two.renamed" s_Two_renamed f39 fd39)
    (a40 : PySem.W.findIn K (.ref C_Not) "renamed" = some (some (.ref f40)))
    (i40 : PySem.W.isFn K (.ref f40) = true)
    (F40 : L2.Fun K "renamed" "Not.renamed" s_Not_renamed f40 fd40)
    (a41 : PySem.W.findIn K (.ref C_Pick) "renamed" = some (some (.ref f41)))
    (i41 : PySem.W.isFn K (.ref f41) = true)
    (F41 : L2.Fun K "renamed" "Pick.renamed" s_Pick_renamed f41 fd41)
    (a42 : PySem.W.findIn K (.ref C_Name) "reckoned_by" = some (some (.ref f42)))
    (i42 : PySem.W.isFn K (.ref f42) = true)
    (F42 : L2.Fun K "reckoned_by" "Name.reckoned_by" s_Name_reckoned_by f42 fd42)
    (a43 : PySem.W.findIn K (.ref C_Value) "reckoned_by" = some (some (.ref f43)))
    (i43 : PySem.W.isFn K (.ref f43) = true)
    (F43 : L2.Fun K "reckoned_by" "Value.reckoned_by" s_Value_reckoned_by f43 fd43)
    (a44 : PySem.W.findIn K (.ref C_Two) "reckoned_by" = some (some (.ref f44)))
    (i44 : PySem.W.isFn K (.ref f44) = true)
    (F44 : L2.Fun K "reckoned_by" "Two.reckoned_by" s_Two_reckoned_by f44 fd44)
    (a45 : PySem.W.findIn K (.ref C_Not) "reckoned_by" = some (some (.ref f45)))
    (i45 : PySem.W.isFn K (.ref f45) = true)
    (F45 : L2.Fun K "reckoned_by" "Not.reckoned_by" s_Not_reckoned_by f45 fd45)
    (a46 : PySem.W.findIn K (.ref C_Pick) "reckoned_by" = some (some (.ref f46)))
    (i46 : PySem.W.isFn K (.ref f46) = true)
    (F46 : L2.Fun K "reckoned_by" "Pick.reckoned_by" s_Pick_reckoned_by f46 fd46)
    (a47 : PySem.W.nsIn K mainGlobals "_word_at" = some (some (.ref f47)))
    (F47 : L2.Fun K "_word_at" "_word_at" s__word_at f47 fd47)
    (a48 : PySem.W.nsIn K mainGlobals "_behind" = some (some (.ref f48)))
    (F48 : L2.Fun K "_behind" "_behind" s__behind f48 fd48)
    (a49 : PySem.W.nsIn K mainGlobals "_pick_at" = some (some (.ref f49)))
    (F49 : L2.Fun K "_pick_at" "_pick_at" s__pick_at f49 fd49)
    (a50 : PySem.W.nsIn K mainGlobals "_bracket_at" = some (some (.ref f50)))
    (F50 : L2.Fun K "_bracket_at" "_bracket_at" s__bracket_at f50 fd50)
    (a51 : PySem.W.nsIn K mainGlobals "_term_at" = some (some (.ref f51)))
    (F51 : L2.Fun K "_term_at" "_term_at" s__term_at f51 fd51)
    (a52 : PySem.W.nsIn K mainGlobals "read_term" = some (some (.ref f52)))
    (F52 : L2.Fun K "read_term" "read_term" s_read_term f52 fd52)
    (a53 : PySem.W.nsIn K mainGlobals "_law_cell_at" = some (some (.ref f53)))
    (F53 : L2.Fun K "_law_cell_at" "_law_cell_at" s__law_cell_at f53 fd53)
    (a54 : PySem.W.nsIn K mainGlobals "_law_box" = some (some (.ref f54)))
    (F54 : L2.Fun K "_law_box" "_law_box" s__law_box f54 fd54)
    (a55 : PySem.W.nsIn K mainGlobals "_law_take" = some (some (.ref f55)))
    (F55 : L2.Fun K "_law_take" "_law_take" s__law_take f55 fd55)
    (a56 : PySem.W.nsIn K mainGlobals "_law_value" = some (some (.ref f56)))
    (F56 : L2.Fun K "_law_value" "_law_value" s__law_value f56 fd56)
    (a57 : PySem.W.nsIn K mainGlobals "_law_told" = some (some (.ref f57)))
    (F57 : L2.Fun K "_law_told" "_law_told" s__law_told f57 fd57)
    (a58 : PySem.W.nsIn K mainGlobals "_law_made" = some (some (.ref f58)))
    (F58 : L2.Fun K "_law_made" "_law_made" s__law_made f58 fd58)
    (a59 : PySem.W.nsIn K mainGlobals "_law_sum" = some (some (.ref f59)))
    (F59 : L2.Fun K "_law_sum" "_law_sum" s__law_sum f59 fd59)
    (a60 : PySem.W.nsIn K mainGlobals "_law_due" = some (some (.ref f60)))
    (F60 : L2.Fun K "_law_due" "_law_due" s__law_due f60 fd60)
    (a61 : PySem.W.nsIn K mainGlobals "_law_all" = some (some (.ref f61)))
    (F61 : L2.Fun K "_law_all" "_law_all" s__law_all f61 fd61)
    (a62 : PySem.W.nsIn K mainGlobals "_law_joined" = some (some (.ref f62)))
    (F62 : L2.Fun K "_law_joined" "_law_joined" s__law_joined f62 fd62)
    (a63 : PySem.W.nsIn K mainGlobals "_law_given" = some (some (.ref f63)))
    (F63 : L2.Fun K "_law_given" "_law_given" s__law_given f63 fd63)
    (a64 : PySem.W.nsIn K mainGlobals "law" = some (some (.ref f64)))
    (F64 : L2.Fun K "law" "law" s_law f64 fd64)
    (gaB : PySem.W.specialIn K (.ref C_BeatError) "__getattribute__" = some (some (.builtin "type.__getattribute__")))
    (rdB : PySem.W.readsIn K C_BeatError (.type "type") = true)
    (atB : clsAt K (.ref C_BeatError) (.type "type") "__init__" (.ref fB) = true)
    (FB : L2.Fun K "__init__" "BeatError.__init__" s_BeatError_init fB fdB)
    (vV : clsAt K (.type "ValueError") (.type "type") "__init__" (.builtin "ValueError.__init__") = true)
    (iINoName : PySem.W.findIn K (.ref C_NoName) "__init__" = some (some (.ref fINoName)))
    (FINoName : L2.Fun K "__init__" "NoName.__init__" s_NoName_init fINoName fdINoName)
    (tINoName : PySem.W.typeIn K (.ref fINoName) = some (.type "function"))
    (lXNoName : oexB K C_NoName = true)
    (saXNoName : PySem.W.findIn K (.ref C_NoName) "__setattr__" = some (some (.builtin "object.__setattr__")))
    (exXNoName : PySem.W.subIn K (.ref C_NoName) (.type "BaseException") = some true)
    (tyXNoName : PySem.W.typeIn K (.ref C_NoName) = some (.type "type"))
    (kXNoName : PySem.W.keepIn K (.ref C_NoName) = true)
    (noXNoName : PySem.W.findIn K (.ref C_NoName) "found" = some none)
    (cmXNoName : PySem.W.mroIn K C_NoName (.type "object") = some true)
    (xgaNoName : PySem.W.findIn K (.ref C_NoName) "__getattribute__" = some (some (.builtin "BaseException.__getattribute__")))
    (xggNoName : PySem.W.findIn K (.ref C_NoName) "__getattr__" = some none)
    (xhdNoName : PySem.W.hasDictIn K C_NoName = true)
    (xclNoName : (PySem.W.clsIn K C_NoName).isSome = true)
    (xcaNoName : PySem.W.findIn K (.ref C_NoName) "__class__" = some (some (.builtin "object.__class__")))
    (suXNoName_NoName : PySem.W.subIn K (.ref C_NoName) (.ref C_NoName) = some true)
    (iINoText : PySem.W.findIn K (.ref C_NoText) "__init__" = some (some (.ref fINoText)))
    (FINoText : L2.Fun K "__init__" "NoText.__init__" s_NoText_init fINoText fdINoText)
    (tINoText : PySem.W.typeIn K (.ref fINoText) = some (.type "function"))
    (lXNoText : oexB K C_NoText = true)
    (saXNoText : PySem.W.findIn K (.ref C_NoText) "__setattr__" = some (some (.builtin "object.__setattr__")))
    (exXNoText : PySem.W.subIn K (.ref C_NoText) (.type "BaseException") = some true)
    (tyXNoText : PySem.W.typeIn K (.ref C_NoText) = some (.type "type"))
    (kXNoText : PySem.W.keepIn K (.ref C_NoText) = true)
    (noXNoText : PySem.W.findIn K (.ref C_NoText) "at" = some none)
    (cmXNoText : PySem.W.mroIn K C_NoText (.type "object") = some true)
    (xgaNoText : PySem.W.findIn K (.ref C_NoText) "__getattribute__" = some (some (.builtin "BaseException.__getattribute__")))
    (xggNoText : PySem.W.findIn K (.ref C_NoText) "__getattr__" = some none)
    (xhdNoText : PySem.W.hasDictIn K C_NoText = true)
    (xclNoText : (PySem.W.clsIn K C_NoText).isSome = true)
    (xcaNoText : PySem.W.findIn K (.ref C_NoText) "__class__" = some (some (.builtin "object.__class__")))
    (suXNoText_NoText : PySem.W.subIn K (.ref C_NoText) (.ref C_NoText) = some true)
    (z_isinstance : PySem.W.nsIn K mainGlobals "isinstance" = some none)
    (z_bool : PySem.W.nsIn K mainGlobals "bool" = some none)
    (z_int : PySem.W.nsIn K mainGlobals "int" = some none)
    (z_len : PySem.W.nsIn K mainGlobals "len" = some none)
    (z_str : PySem.W.nsIn K mainGlobals "str" = some none)
    (z_all : PySem.W.nsIn K mainGlobals "all" = some none)
    (z_list : PySem.W.nsIn K mainGlobals "list" = some none)
    (z_max : PySem.W.nsIn K mainGlobals "max" = some none)
    (z_tuple : PySem.W.nsIn K mainGlobals "tuple" = some none)
    (z_range : PySem.W.nsIn K mainGlobals "range" = some none)
    (z_abs : PySem.W.nsIn K mainGlobals "abs" = some none)
    (z_min : PySem.W.nsIn K mainGlobals "min" = some none)
    (z_repr : PySem.W.nsIn K mainGlobals "repr" = some none)
    (z_ValueError : PySem.W.nsIn K mainGlobals "ValueError" = some none)
    (g__NAME_SIGNS : konI K "_NAME_SIGNS" 8 = true)
    (g__LETTERS : konS K "_LETTERS" "abcdefghijklmnopqrstuvwxyz" = true)
    (g__OWN_WORDS : konT K "_OWN_WORDS" ["node", "in", "out", "before", "when", "hold", "like", "same", "call", "true", "false", "mod", "beat", "desk"] = true)
    (g__POINTED_SIGNS : konI K "_POINTED_SIGNS" 80 = true)
    (g__GREATEST : konI K "_GREATEST" 1000000000 = true)
    (g__GREATEST_SIGNS : konI K "_GREATEST_SIGNS" 10 = true)
    (g__FIGURES : konS K "_FIGURES" "0123456789" = true)
    (g__OPS : konT K "_OPS" ["+", "-", "*", "/", "mod", "<", "=", "&", "|"] = true)
    (g_LEVELS : konI K "LEVELS" 5 = true)
    (pg_Name : PySem.W.plainGet K C_Name Str.empty = true)
    (hd_Name : PySem.W.hasDictIn K C_Name = true)
    (po_Name : PySem.W.plainOver K C_Name = true)
    (sa_Name : PySem.W.findIn K (.ref C_Name) "__setattr__" = some (some (.builtin "object.__setattr__")))
    (mk_Name : PySem.W.makesIn K C_Name = true)
    (kc_Name : PySem.W.keepIn K (.ref C_Name) = true)
    (cc_Name : PySem.W.findIn K (.ref C_Name) "__class__" = some (some (.builtin "object.__class__")))
    (no_Name_name : PySem.W.findIn K (.ref C_Name) "_name" = some none)
    (pg_Value : PySem.W.plainGet K C_Value Str.empty = true)
    (hd_Value : PySem.W.hasDictIn K C_Value = true)
    (po_Value : PySem.W.plainOver K C_Value = true)
    (sa_Value : PySem.W.findIn K (.ref C_Value) "__setattr__" = some (some (.builtin "object.__setattr__")))
    (mk_Value : PySem.W.makesIn K C_Value = true)
    (kc_Value : PySem.W.keepIn K (.ref C_Value) = true)
    (cc_Value : PySem.W.findIn K (.ref C_Value) "__class__" = some (some (.builtin "object.__class__")))
    (no_Value_value : PySem.W.findIn K (.ref C_Value) "_value" = some none)
    (pg_Two : PySem.W.plainGet K C_Two Str.empty = true)
    (hd_Two : PySem.W.hasDictIn K C_Two = true)
    (po_Two : PySem.W.plainOver K C_Two = true)
    (sa_Two : PySem.W.findIn K (.ref C_Two) "__setattr__" = some (some (.builtin "object.__setattr__")))
    (mk_Two : PySem.W.makesIn K C_Two = true)
    (kc_Two : PySem.W.keepIn K (.ref C_Two) = true)
    (cc_Two : PySem.W.findIn K (.ref C_Two) "__class__" = some (some (.builtin "object.__class__")))
    (no_Two_op : PySem.W.findIn K (.ref C_Two) "_op" = some none)
    (no_Two_one : PySem.W.findIn K (.ref C_Two) "_one" = some none)
    (no_Two_other : PySem.W.findIn K (.ref C_Two) "_other" = some none)
    (pg_Not : PySem.W.plainGet K C_Not Str.empty = true)
    (hd_Not : PySem.W.hasDictIn K C_Not = true)
    (po_Not : PySem.W.plainOver K C_Not = true)
    (sa_Not : PySem.W.findIn K (.ref C_Not) "__setattr__" = some (some (.builtin "object.__setattr__")))
    (mk_Not : PySem.W.makesIn K C_Not = true)
    (kc_Not : PySem.W.keepIn K (.ref C_Not) = true)
    (cc_Not : PySem.W.findIn K (.ref C_Not) "__class__" = some (some (.builtin "object.__class__")))
    (no_Not_one : PySem.W.findIn K (.ref C_Not) "_one" = some none)
    (pg_Pick : PySem.W.plainGet K C_Pick Str.empty = true)
    (hd_Pick : PySem.W.hasDictIn K C_Pick = true)
    (po_Pick : PySem.W.plainOver K C_Pick = true)
    (sa_Pick : PySem.W.findIn K (.ref C_Pick) "__setattr__" = some (some (.builtin "object.__setattr__")))
    (mk_Pick : PySem.W.makesIn K C_Pick = true)
    (kc_Pick : PySem.W.keepIn K (.ref C_Pick) = true)
    (cc_Pick : PySem.W.findIn K (.ref C_Pick) "__class__" = some (some (.builtin "object.__class__")))
    (no_Pick_by : PySem.W.findIn K (.ref C_Pick) "_by" = some none)
    (no_Pick_one : PySem.W.findIn K (.ref C_Pick) "_one" = some none)
    (no_Pick_other : PySem.W.findIn K (.ref C_Pick) "_other" = some none)
    (cd0 : PySem.W.codeHdIn K c0 tb = true)
    (ca0 : cdAt K f63 c0 = true)
    (cm_Name : PySem.W.mroIn K C_Name (.type "object") = some true)
    (ty_Name : PySem.W.typeIn K (.ref C_Name) = some (.type "type"))
    (cm_Value : PySem.W.mroIn K C_Value (.type "object") = some true)
    (ty_Value : PySem.W.typeIn K (.ref C_Value) = some (.type "type"))
    (cm_Two : PySem.W.mroIn K C_Two (.type "object") = some true)
    (ty_Two : PySem.W.typeIn K (.ref C_Two) = some (.type "type"))
    (cm_Not : PySem.W.mroIn K C_Not (.type "object") = some true)
    (ty_Not : PySem.W.typeIn K (.ref C_Not) = some (.type "type"))
    (cm_Pick : PySem.W.mroIn K C_Pick (.type "object") = some true)
    (ty_Pick : PySem.W.typeIn K (.ref C_Pick) = some (.type "type"))
    (cm_Term : PySem.W.mroIn K C_Term (.type "object") = some true)
    (ty_Term : PySem.W.typeIn K (.ref C_Term) = some (.type "type"))
    (st_Name : PySem.W.subIn K (.ref C_Name) (.ref C_Term) = some true)
    (su_Name_Value : PySem.W.subIn K (.ref C_Name) (.ref C_Value) = some false)
    (su_Name_Two : PySem.W.subIn K (.ref C_Name) (.ref C_Two) = some false)
    (su_Name_Not : PySem.W.subIn K (.ref C_Name) (.ref C_Not) = some false)
    (su_Name_Pick : PySem.W.subIn K (.ref C_Name) (.ref C_Pick) = some false)
    (st_Value : PySem.W.subIn K (.ref C_Value) (.ref C_Term) = some true)
    (su_Value_Name : PySem.W.subIn K (.ref C_Value) (.ref C_Name) = some false)
    (su_Value_Two : PySem.W.subIn K (.ref C_Value) (.ref C_Two) = some false)
    (su_Value_Not : PySem.W.subIn K (.ref C_Value) (.ref C_Not) = some false)
    (su_Value_Pick : PySem.W.subIn K (.ref C_Value) (.ref C_Pick) = some false)
    (st_Two : PySem.W.subIn K (.ref C_Two) (.ref C_Term) = some true)
    (su_Two_Name : PySem.W.subIn K (.ref C_Two) (.ref C_Name) = some false)
    (su_Two_Value : PySem.W.subIn K (.ref C_Two) (.ref C_Value) = some false)
    (su_Two_Not : PySem.W.subIn K (.ref C_Two) (.ref C_Not) = some false)
    (su_Two_Pick : PySem.W.subIn K (.ref C_Two) (.ref C_Pick) = some false)
    (st_Not : PySem.W.subIn K (.ref C_Not) (.ref C_Term) = some true)
    (su_Not_Name : PySem.W.subIn K (.ref C_Not) (.ref C_Name) = some false)
    (su_Not_Value : PySem.W.subIn K (.ref C_Not) (.ref C_Value) = some false)
    (su_Not_Two : PySem.W.subIn K (.ref C_Not) (.ref C_Two) = some false)
    (su_Not_Pick : PySem.W.subIn K (.ref C_Not) (.ref C_Pick) = some false)
    (st_Pick : PySem.W.subIn K (.ref C_Pick) (.ref C_Term) = some true)
    (su_Pick_Name : PySem.W.subIn K (.ref C_Pick) (.ref C_Name) = some false)
    (su_Pick_Value : PySem.W.subIn K (.ref C_Pick) (.ref C_Value) = some false)
    (su_Pick_Two : PySem.W.subIn K (.ref C_Pick) (.ref C_Two) = some false)
    (su_Pick_Not : PySem.W.subIn K (.ref C_Pick) (.ref C_Not) = some false)
    (cg : PySem.W.specialIn K (.builtin "object.__class__") "__get__" = some (some (.builtin "getset_descriptor.__get__")))
    (ct : PySem.W.takesIn K (.builtin "object.__class__") = some true)
    : ∃ fd : FuncData, (∀ (s : Shared) (v : Value), BindsTo s fd ⟨[v], []⟩ [("script", v)]) ∧ ∀ base : Heap, K.In base → base.Ns mainGlobals mg → LamX.TabB base mg c0 tb → FnG l.prog w K mg base 26 fa fd ["script"] (spT K (TT tb) W_law) := by
  have hh := hfa.symm.trans (PySem.W.mg_of X G a64)
  cases hh
  let c : TC := ⟨C_Name, C_Value, C_Two, C_Not, C_Pick, C_Term⟩
  let nn : Addr := C_NoName
  let e : E24 := ⟨C_NoText, C_BeatError⟩
  have b0 := F0.binds (ps := ["thing"]) fun _ _ _ _ _ _ us hl => match us, hl with | [_], _ => rfl
  have b1 := F1.binds (ps := ["thing", "low", "high"]) fun _ _ _ _ _ _ us hl => match us, hl with | [_, _, _], _ => rfl
  have b2 := F2.binds (ps := ["thing"]) fun _ _ _ _ _ _ us hl => match us, hl with | [_], _ => rfl
  have b3 := F3.binds (ps := ["thing"]) fun _ _ _ _ _ _ us hl => match us, hl with | [_], _ => rfl
  have b4 := F4.binds (ps := ["thing"]) fun _ _ _ _ _ _ us hl => match us, hl with | [_], _ => rfl
  have b5 := F5.binds (ps := ["value"]) fun _ _ _ _ _ _ us hl => match us, hl with | [_], _ => rfl
  have b6 := F6.binds (ps := ["text"]) fun _ _ _ _ _ _ us hl => match us, hl with | [_], _ => rfl
  have b7 := F7.binds (ps := ["thing"]) fun _ _ _ _ _ _ us hl => match us, hl with | [_], _ => rfl
  have b8 := F8.binds (ps := ["name", "names"]) fun _ _ _ _ _ _ us hl => match us, hl with | [_, _], _ => rfl
  have b9 := F9.binds (ps := []) fun _ _ _ _ _ _ us hl => match us, hl with | [], _ => rfl
  have b10 := F10.binds (ps := ["op", "one", "other"]) fun _ _ _ _ _ _ us hl => match us, hl with | [_, _, _], _ => rfl
  have b11 := F11.binds (ps := ["op", "one", "other"]) fun _ _ _ _ _ _ us hl => match us, hl with | [_, _, _], _ => rfl
  have b12 := F12.binds (ps := ["op", "one", "other"]) fun _ _ _ _ _ _ us hl => match us, hl with | [_, _, _], _ => rfl
  have b13 := F13.binds (ps := ["one"]) fun _ _ _ _ _ _ us hl => match us, hl with | [_], _ => rfl
  have b14 := F14.binds (ps := ["self"]) fun _ _ _ _ _ _ us hl => match us, hl with | [_], _ => rfl
  have b15 := F15.binds (ps := ["self"]) fun _ _ _ _ _ _ us hl => match us, hl with | [_], _ => rfl
  have b16 := F16.binds (ps := ["self"]) fun _ _ _ _ _ _ us hl => match us, hl with | [_], _ => rfl
  have b17 := F17.binds (ps := ["self"]) fun _ _ _ _ _ _ us hl => match us, hl with | [_], _ => rfl
  have b18 := F18.binds (ps := ["self"]) fun _ _ _ _ _ _ us hl => match us, hl with | [_], _ => rfl
  have b19 := F19.binds (ps := ["self"]) fun _ _ _ _ _ _ us hl => match us, hl with | [_], _ => rfl
  have b20 := F20.binds (ps := ["self"]) fun _ _ _ _ _ _ us hl => match us, hl with | [_], _ => rfl
  have b21 := F21.binds (ps := ["self"]) fun _ _ _ _ _ _ us hl => match us, hl with | [_], _ => rfl
  have b22 := F22.binds (ps := ["self"]) fun _ _ _ _ _ _ us hl => match us, hl with | [_], _ => rfl
  have b23 := F23.binds (ps := ["self"]) fun _ _ _ _ _ _ us hl => match us, hl with | [_], _ => rfl
  have b24 := F24.binds (ps := ["self"]) fun _ _ _ _ _ _ us hl => match us, hl with | [_], _ => rfl
  have b25 := F25.binds (ps := ["self"]) fun _ _ _ _ _ _ us hl => match us, hl with | [_], _ => rfl
  have b26 := F26.binds (ps := ["self"]) fun _ _ _ _ _ _ us hl => match us, hl with | [_], _ => rfl
  have b27 := F27.binds (ps := ["self"]) fun _ _ _ _ _ _ us hl => match us, hl with | [_], _ => rfl
  have b28 := F28.binds (ps := ["self"]) fun _ _ _ _ _ _ us hl => match us, hl with | [_], _ => rfl
  have b29 := F29.binds (ps := ["thing"]) fun _ _ _ _ _ _ us hl => match us, hl with | [_], _ => rfl
  have b30 := F30.binds (ps := ["self", "name"]) fun _ _ _ _ _ _ us hl => match us, hl with | [_, _], _ => rfl
  have b31 := F31.binds (ps := ["self", "value"]) fun _ _ _ _ _ _ us hl => match us, hl with | [_, _], _ => rfl
  have b32 := F32.binds (ps := ["self", "op", "one", "other"]) fun _ _ _ _ _ _ us hl => match us, hl with | [_, _, _, _], _ => rfl
  have b33 := F33.binds (ps := ["self", "one"]) fun _ _ _ _ _ _ us hl => match us, hl with | [_, _], _ => rfl
  have b34 := F34.binds (ps := ["self", "by", "one", "other"]) fun _ _ _ _ _ _ us hl => match us, hl with | [_, _, _, _], _ => rfl
  have b35 := F35.binds (ps := ["told"]) fun _ _ _ _ _ _ us hl => match us, hl with | [_], _ => rfl
  have b36 := F36.binds (ps := ["told"]) fun _ _ _ _ _ _ us hl => match us, hl with | [_], _ => rfl
  have b37 := F37.binds (ps := ["self", "names"]) fun _ _ _ _ _ _ us hl => match us, hl with | [_, _], _ => rfl
  have b38 := F38.binds (ps := ["self", "names"]) fun _ _ _ _ _ _ us hl => match us, hl with | [_, _], _ => rfl
  have b39 := F39.binds (ps := ["self", "names"]) fun _ _ _ _ _ _ us hl => match us, hl with | [_, _], _ => rfl
  have b40 := F40.binds (ps := ["self", "names"]) fun _ _ _ _ _ _ us hl => match us, hl with | [_, _], _ => rfl
  have b41 := F41.binds (ps := ["self", "names"]) fun _ _ _ _ _ _ us hl => match us, hl with | [_, _], _ => rfl
  have b42 := F42.binds (ps := ["self", "values"]) fun _ _ _ _ _ _ us hl => match us, hl with | [_, _], _ => rfl
  have b43 := F43.binds (ps := ["self", "values"]) fun _ _ _ _ _ _ us hl => match us, hl with | [_, _], _ => rfl
  have b44 := F44.binds (ps := ["self", "values"]) fun _ _ _ _ _ _ us hl => match us, hl with | [_, _], _ => rfl
  have b45 := F45.binds (ps := ["self", "values"]) fun _ _ _ _ _ _ us hl => match us, hl with | [_, _], _ => rfl
  have b46 := F46.binds (ps := ["self", "values"]) fun _ _ _ _ _ _ us hl => match us, hl with | [_, _], _ => rfl
  have b47 := F47.binds (ps := ["words", "at"]) fun _ _ _ _ _ _ us hl => match us, hl with | [_, _], _ => rfl
  have b48 := F48.binds (ps := ["words", "at", "word"]) fun _ _ _ _ _ _ us hl => match us, hl with | [_, _, _], _ => rfl
  have b49 := F49.binds (ps := ["words", "at", "room", "by"]) fun _ _ _ _ _ _ us hl => match us, hl with | [_, _, _, _], _ => rfl
  have b50 := F50.binds (ps := ["words", "at", "room"]) fun _ _ _ _ _ _ us hl => match us, hl with | [_, _, _], _ => rfl
  have b51 := F51.binds (ps := ["words", "at", "room"]) fun _ _ _ _ _ _ us hl => match us, hl with | [_, _, _], _ => rfl
  have b52 := F52.binds (ps := ["text"]) fun _ _ _ _ _ _ us hl => match us, hl with | [_], _ => rfl
  have b53 := F53.binds (ps := ["script", "k"]) fun _ _ _ _ _ _ us hl => match us, hl with | [_, _], _ => rfl
  have b54 := F54.binds (ps := ["cell"]) fun _ _ _ _ _ _ us hl => match us, hl with | [_], _ => rfl
  have b55 := F55.binds (ps := ["box", "many"]) fun _ _ _ _ _ _ us hl => match us, hl with | [_, _], _ => rfl
  have b56 := F56.binds (ps := ["box"]) fun _ _ _ _ _ _ us hl => match us, hl with | [_], _ => rfl
  have b57 := F57.binds (ps := ["box", "left", "names"]) fun _ _ _ _ _ _ us hl => match us, hl with | [_, _, _], _ => rfl
  have b58 := F58.binds (ps := ["told"]) fun _ _ _ _ _ _ us hl => match us, hl with | [_], _ => rfl
  have b59 := F59.binds (ps := ["op", "one", "other"]) fun _ _ _ _ _ _ us hl => match us, hl with | [_, _, _], _ => rfl
  have b60 := F60.binds (ps := ["told", "book"]) fun _ _ _ _ _ _ us hl => match us, hl with | [_, _], _ => rfl
  have b61 := F61.binds (ps := ["told"]) fun _ _ _ _ _ _ us hl => match us, hl with | [_], _ => rfl
  have b62 := F62.binds (ps := ["box", "told"]) fun _ _ _ _ _ _ us hl => match us, hl with | [_, _], _ => rfl
  have b63 := F63.binds (ps := ["book"]) fun _ _ _ _ _ _ us hl => match us, hl with | [_], _ => rfl
  have bB := FB.binds (ps := ["self", "text"]) fun _ _ _ _ _ _ us hl => match us, hl with | [_, _], _ => rfl
  have bINoName := FINoName.binds (ps := ["self", "found"]) fun _ _ _ _ _ _ us hl => match us, hl with | [_, _], _ => rfl
  have bINoText := FINoText.binds (ps := ["self", "at"]) fun _ _ _ _ _ _ us hl => match us, hl with | [_, _], _ => rfl
  have m_isinstance := PySem.W.mg_none_of X G z_isinstance
  have m_bool := PySem.W.mg_none_of X G z_bool
  have m_int := PySem.W.mg_none_of X G z_int
  have m_len := PySem.W.mg_none_of X G z_len
  have m_str := PySem.W.mg_none_of X G z_str
  have m_all := PySem.W.mg_none_of X G z_all
  have m_list := PySem.W.mg_none_of X G z_list
  have m_max := PySem.W.mg_none_of X G z_max
  have m_tuple := PySem.W.mg_none_of X G z_tuple
  have m_range := PySem.W.mg_none_of X G z_range
  have m_abs := PySem.W.mg_none_of X G z_abs
  have m_min := PySem.W.mg_none_of X G z_min
  have m_repr := PySem.W.mg_none_of X G z_repr
  have m_ValueError := PySem.W.mg_none_of X G z_ValueError
  have g_Name : mg "Name" = some (.ref c.nm) := PySem.W.mg_of X G aC_Name
  have g_Value : mg "Value" = some (.ref c.vl) := PySem.W.mg_of X G aC_Value
  have g_Two : mg "Two" = some (.ref c.tw) := PySem.W.mg_of X G aC_Two
  have g_Not : mg "Not" = some (.ref c.nt) := PySem.W.mg_of X G aC_Not
  have g_Pick : mg "Pick" = some (.ref c.pk) := PySem.W.mg_of X G aC_Pick
  have g_Term : mg "Term" = some (.ref c.tm) := PySem.W.mg_of X G aC_Term
  have g_NoName : mg "NoName" = some (.ref nn) := PySem.W.mg_of X G aC_NoName
  have g_NoText : mg "NoText" = some (.ref e.nt) := PySem.W.mg_of X G aC_NoText
  have g_BeatError : mg "BeatError" = some (.ref e.be) := PySem.W.mg_of X G aC_BeatError
  have o_Name : OC K c.nm ["_name"] := ⟨⟨pg_Name, hd_Name, po_Name, sa_Name⟩, fun f hf => by
    simp only [List.mem_cons, List.not_mem_nil, or_false] at hf
    rcases hf with rfl
    · exact no_Name_name, cc_Name, cg, ct, cm_Name⟩
  have o_Value : OC K c.vl ["_value"] := ⟨⟨pg_Value, hd_Value, po_Value, sa_Value⟩, fun f hf => by
    simp only [List.mem_cons, List.not_mem_nil, or_false] at hf
    rcases hf with rfl
    · exact no_Value_value, cc_Value, cg, ct, cm_Value⟩
  have o_Two : OC K c.tw ["_op", "_one", "_other"] := ⟨⟨pg_Two, hd_Two, po_Two, sa_Two⟩, fun f hf => by
    simp only [List.mem_cons, List.not_mem_nil, or_false] at hf
    rcases hf with rfl | rfl | rfl
    · exact no_Two_op
    · exact no_Two_one
    · exact no_Two_other, cc_Two, cg, ct, cm_Two⟩
  have o_Not : OC K c.nt ["_one"] := ⟨⟨pg_Not, hd_Not, po_Not, sa_Not⟩, fun f hf => by
    simp only [List.mem_cons, List.not_mem_nil, or_false] at hf
    rcases hf with rfl
    · exact no_Not_one, cc_Not, cg, ct, cm_Not⟩
  have o_Pick : OC K c.pk ["_by", "_one", "_other"] := ⟨⟨pg_Pick, hd_Pick, po_Pick, sa_Pick⟩, fun f hf => by
    simp only [List.mem_cons, List.not_mem_nil, or_false] at hf
    rcases hf with rfl | rfl | rfl
    · exact no_Pick_by
    · exact no_Pick_one
    · exact no_Pick_other, cc_Pick, cg, ct, cm_Pick⟩
  have any_Name : PySem.W.kitAny K (.ref C_Name) [.ref C_Name, .ref C_Value, .ref C_Two, .ref C_Not, .ref C_Pick] = some true := any_own [C_Name, C_Value, C_Two, C_Not, C_Pick] (by simp) fun y hy => by
    simp only [List.mem_cons, List.not_mem_nil, or_false] at hy
    rcases hy with rfl | rfl | rfl | rfl | rfl
    · exact .inl rfl
    · exact .inr ⟨_, kit_sub cm_Value ty_Value su_Name_Value⟩
    · exact .inr ⟨_, kit_sub cm_Two ty_Two su_Name_Two⟩
    · exact .inr ⟨_, kit_sub cm_Not ty_Not su_Name_Not⟩
    · exact .inr ⟨_, kit_sub cm_Pick ty_Pick su_Name_Pick⟩
  have any_Value : PySem.W.kitAny K (.ref C_Value) [.ref C_Name, .ref C_Value, .ref C_Two, .ref C_Not, .ref C_Pick] = some true := any_own [C_Name, C_Value, C_Two, C_Not, C_Pick] (by simp) fun y hy => by
    simp only [List.mem_cons, List.not_mem_nil, or_false] at hy
    rcases hy with rfl | rfl | rfl | rfl | rfl
    · exact .inr ⟨_, kit_sub cm_Name ty_Name su_Value_Name⟩
    · exact .inl rfl
    · exact .inr ⟨_, kit_sub cm_Two ty_Two su_Value_Two⟩
    · exact .inr ⟨_, kit_sub cm_Not ty_Not su_Value_Not⟩
    · exact .inr ⟨_, kit_sub cm_Pick ty_Pick su_Value_Pick⟩
  have any_Two : PySem.W.kitAny K (.ref C_Two) [.ref C_Name, .ref C_Value, .ref C_Two, .ref C_Not, .ref C_Pick] = some true := any_own [C_Name, C_Value, C_Two, C_Not, C_Pick] (by simp) fun y hy => by
    simp only [List.mem_cons, List.not_mem_nil, or_false] at hy
    rcases hy with rfl | rfl | rfl | rfl | rfl
    · exact .inr ⟨_, kit_sub cm_Name ty_Name su_Two_Name⟩
    · exact .inr ⟨_, kit_sub cm_Value ty_Value su_Two_Value⟩
    · exact .inl rfl
    · exact .inr ⟨_, kit_sub cm_Not ty_Not su_Two_Not⟩
    · exact .inr ⟨_, kit_sub cm_Pick ty_Pick su_Two_Pick⟩
  have any_Not : PySem.W.kitAny K (.ref C_Not) [.ref C_Name, .ref C_Value, .ref C_Two, .ref C_Not, .ref C_Pick] = some true := any_own [C_Name, C_Value, C_Two, C_Not, C_Pick] (by simp) fun y hy => by
    simp only [List.mem_cons, List.not_mem_nil, or_false] at hy
    rcases hy with rfl | rfl | rfl | rfl | rfl
    · exact .inr ⟨_, kit_sub cm_Name ty_Name su_Not_Name⟩
    · exact .inr ⟨_, kit_sub cm_Value ty_Value su_Not_Value⟩
    · exact .inr ⟨_, kit_sub cm_Two ty_Two su_Not_Two⟩
    · exact .inl rfl
    · exact .inr ⟨_, kit_sub cm_Pick ty_Pick su_Not_Pick⟩
  have any_Pick : PySem.W.kitAny K (.ref C_Pick) [.ref C_Name, .ref C_Value, .ref C_Two, .ref C_Not, .ref C_Pick] = some true := any_own [C_Name, C_Value, C_Two, C_Not, C_Pick] (by simp) fun y hy => by
    simp only [List.mem_cons, List.not_mem_nil, or_false] at hy
    rcases hy with rfl | rfl | rfl | rfl | rfl
    · exact .inr ⟨_, kit_sub cm_Name ty_Name su_Pick_Name⟩
    · exact .inr ⟨_, kit_sub cm_Value ty_Value su_Pick_Value⟩
    · exact .inr ⟨_, kit_sub cm_Two ty_Two su_Pick_Two⟩
    · exact .inr ⟨_, kit_sub cm_Not ty_Not su_Pick_Not⟩
    · exact .inl rfl
  have sub_Name := one_own cm_Term ty_Term st_Name
  have sub_Value := one_own cm_Term ty_Term st_Value
  have sub_Two := one_own cm_Term ty_Term st_Two
  have sub_Not := one_own cm_Term ty_Term st_Not
  have sub_Pick := one_own cm_Term ty_Term st_Pick
  have T : Txt K mg c := ⟨o_Name, o_Value, o_Two, o_Not, o_Pick, mk_any any_Name any_Value any_Two any_Not any_Pick, mk_sub sub_Name sub_Value sub_Two sub_Not sub_Pick⟩
  have xf_NoName : XfC K nn := ⟨xgaNoName, xggNoName, exXNoName, xhdNoName⟩
  have xi_NoName : XiC K nn := ⟨xf_NoName, xclNoName, xcaNoName, cg, ct, cmXNoName⟩
  have xn_NoName : PySem.W.findIn K (.ref nn) "found" = some none := noXNoName
  have xm_NoName : PySem.W.exmOne K (.ref nn) (.ref nn) = some true := exm_ownG exXNoName cmXNoName tyXNoName suXNoName_NoName
  have xf_NoText : XfC K e.nt := ⟨xgaNoText, xggNoText, exXNoText, xhdNoText⟩
  have xi_NoText : XiC K e.nt := ⟨xf_NoText, xclNoText, xcaNoText, cg, ct, cmXNoText⟩
  have xn_NoText : PySem.W.findIn K (.ref e.nt) "at" = some none := noXNoText
  have xm_NoText : PySem.W.exmOne K (.ref e.nt) (.ref e.nt) = some true := exm_ownG exXNoText cmXNoText tyXNoText suXNoText_NoText
  have xm_NoName_NoName : PySem.W.exmOne K (.ref nn) (.ref nn) = some true := xm_NoName
  have xm_NoText_NoText : PySem.W.exmOne K (.ref e.nt) (.ref e.nt) = some true := xm_NoText
  have k__NAME_SIGNS : Kon K mg "_NAME_SIGNS" (.int 8) := konI_ok X G g__NAME_SIGNS
  have k__LETTERS : Kon K mg "_LETTERS" (.str "abcdefghijklmnopqrstuvwxyz") := konS_ok X G g__LETTERS
  have k__OWN_WORDS : Kon K mg "_OWN_WORDS" (.tup [(.str "node"), (.str "in"), (.str "out"), (.str "before"), (.str "when"), (.str "hold"), (.str "like"), (.str "same"), (.str "call"), (.str "true"), (.str "false"), (.str "mod"), (.str "beat"), (.str "desk")]) := konT_ok X G (l := ["node", "in", "out", "before", "when", "hold", "like", "same", "call", "true", "false", "mod", "beat", "desk"]) (by decide) g__OWN_WORDS
  have k__POINTED_SIGNS : Kon K mg "_POINTED_SIGNS" (.int 80) := konI_ok X G g__POINTED_SIGNS
  have k__GREATEST : Kon K mg "_GREATEST" (.int 1000000000) := konI_ok X G g__GREATEST
  have k__GREATEST_SIGNS : Kon K mg "_GREATEST_SIGNS" (.int 10) := konI_ok X G g__GREATEST_SIGNS
  have k__FIGURES : Kon K mg "_FIGURES" (.str "0123456789") := konS_ok X G g__FIGURES
  have k__OPS : Kon K mg "_OPS" (.tup [(.str "+"), (.str "-"), (.str "*"), (.str "/"), (.str "mod"), (.str "<"), (.str "="), (.str "&"), (.str "|")]) := konT_ok X G (l := ["+", "-", "*", "/", "mod", "<", "=", "&", "|"]) (by decide) g__OPS
  have k_LEVELS : Kon K mg "LEVELS" (.int 5) := konI_ok X G g_LEVELS
  obtain ⟨oc, od, kV, doc, pm, an, cdv, ct, osl, rfl, lk, hcd⟩ := F64.ex
  refine ⟨PySem.W.fnOf "law" "law" (defArgs s_law) (defBody s_law) (defScope s_law) .none kV doc pm an cdv ct, fun s v => .of_eq rfl, fun base _ _ TBx => ?_⟩
  obtain ⟨posG, WG⟩ := hands_given
  have V_fn : FnV l.prog w K mg base 2 s_given_in "_law_book_worth" qlG "book" "name" := fnV_given
  have okB : FnOk l.prog w K mg base L2.CX0 1 fB fdB ["self", "text"] (spBE K) := ok_BeatError_init FB m_ValueError (clsAt_ok vV)
  have oexNoName : OexC K nn := ⟨oexB_ok lXNoName, saXNoName, exXNoName, tyXNoName, kXNoName⟩
  have okINoName : FnOk l.prog w K mg base L2.CX0 2 fINoName fdINoName ["self", "found"] (spNX K nn "found") := ok_NoName_init FINoName ⟨gaB, rdB, clsAt_ok atB, FB.kp⟩ okB g_BeatError bB oexNoName noXNoName
  have x_NoName : ECallee l.prog w K mg base 2 "NoName" nn "found" := ⟨fINoName, _, _, oexNoName, iINoName, tINoName, okINoName, g_NoName, bINoName⟩
  have oexNoText : OexC K e.nt := ⟨oexB_ok lXNoText, saXNoText, exXNoText, tyXNoText, kXNoText⟩
  have okINoText : FnOk l.prog w K mg base L2.CX0 2 fINoText fdINoText ["self", "at"] (spNX K e.nt "at") := ok_NoText_init FINoText ⟨gaB, rdB, clsAt_ok atB, FB.kp⟩ okB g_BeatError bB oexNoText noXNoText
  have x_NoText : ECallee l.prog w K mg base 2 "NoText" e.nt "at" := ⟨fINoText, _, _, oexNoText, iINoText, tINoText, okINoText, g_NoText, bINoText⟩
  have c_is_whole : Callee l.prog w K mg base 1 "is_whole" (sp0 K W_is_whole) := ⟨f0, _, _, ok_is_whole F0 T m_isinstance m_bool m_int, PySem.W.mg_of X G a0, F0.kp, b0⟩
  have c_is_within : Callee l.prog w K mg base 2 "is_within" (sp0 K W_is_within) := ⟨f1, _, _, ok_is_within F1 T c_is_whole, PySem.W.mg_of X G a1, F1.kp, b1⟩
  have c_is_name : Callee l.prog w K mg base 1 "is_name" (sp0 K W_is_name) := ⟨f2, _, _, ok_is_name F2 T m_len m_isinstance m_str m_all k__NAME_SIGNS k__LETTERS k__OWN_WORDS, PySem.W.mg_of X G a2, F2.kp, b2⟩
  have c_is_pointed : Callee l.prog w K mg base 2 "is_pointed" (sp0 K W_is_pointed) := ⟨f3, _, _, ok_is_pointed F3 T c_is_name m_len m_isinstance m_str m_all k__POINTED_SIGNS, PySem.W.mg_of X G a3, F3.kp, b3⟩
  have c_is_value : Callee l.prog w K mg base 3 "is_value" (sp0 K W_is_value) := ⟨f4, _, _, ok_is_value F4 T c_is_within m_isinstance m_bool k__GREATEST, PySem.W.mg_of X G a4, F4.kp, b4⟩
  have c_value_text : Callee l.prog w K mg base 1 "value_text" (sp0 K W_value_text) := ⟨f5, _, _, ok_value_text F5 T m_isinstance m_bool m_str, PySem.W.mg_of X G a5, F5.kp, b5⟩
  have c__is_number_text : Callee l.prog w K mg base 1 "_is_number_text" (sp0 K W__is_number_text) := ⟨f6, _, _, ok__is_number_text F6 T m_len m_all k__GREATEST_SIGNS k__FIGURES, PySem.W.mg_of X G a6, F6.kp, b6⟩
  have c_value_of : Callee l.prog w K mg base 4 "value_of" (sp0 K W_value_of) := ⟨f7, _, _, ok_value_of F7 T c__is_number_text c_is_value m_isinstance m_str m_int, PySem.W.mg_of X G a7, F7.kp, b7⟩
  have c_name_for : CalleeX l.prog w K mg base 4 "name_for" (sp0 K (W_name_for nn)) := ⟨f8, _, _, ok_name_for F8 T c_is_pointed x_NoName, PySem.W.mg_of X G a8, F8.kp, b8⟩
  have c_ops_told : Callee l.prog w K mg base 1 "ops_told" (sp0 K W_ops_told) := ⟨f9, _, _, ok_ops_told F9 T m_list k__OPS, PySem.W.mg_of X G a9, F9.kp, b9⟩
  have c__takes : Callee l.prog w K mg base 2 "_takes" (sp0 K W__takes) := ⟨f10, _, _, ok__takes F10 T c_is_whole, PySem.W.mg_of X G a10, F10.kp, b10⟩
  have c__outcome : Callee l.prog w K mg base 1 "_outcome" (sp0 K W__outcome) := ⟨f11, _, _, ok__outcome F11 T , PySem.W.mg_of X G a11, F11.kp, b11⟩
  have c_reckoned : Callee l.prog w K mg base 4 "reckoned" (sp0 K W_reckoned) := ⟨f12, _, _, ok_reckoned F12 T c__takes c__outcome c_is_value, PySem.W.mg_of X G a12, F12.kp, b12⟩
  have c_contrary : Callee l.prog w K mg base 2 "contrary" (sp0 K W_contrary) := ⟨f13, _, _, ok_contrary F13 T c_is_whole, PySem.W.mg_of X G a13, F13.kp, b13⟩
  have VV_told : ∀ n, ∀ z ∈ vias K c (W_told c n), MCallee l.prog w K mg base (0 + n) z.1 "told" z.2 := by
    intro n
    induction n with
    | zero => exact vias_all ⟨⟨f14, _, _, o_Name.cl, ⟨a14, i14, F14.kp⟩, FnOk.vac fun _ _ _ _ => no_told, b14⟩⟩ ⟨⟨f15, _, _, o_Value.cl, ⟨a15, i15, F15.kp⟩, FnOk.vac fun _ _ _ _ => no_told, b15⟩⟩ ⟨⟨f16, _, _, o_Two.cl, ⟨a16, i16, F16.kp⟩, FnOk.vac fun _ _ _ _ => no_told, b16⟩⟩ ⟨⟨f17, _, _, o_Not.cl, ⟨a17, i17, F17.kp⟩, FnOk.vac fun _ _ _ _ => no_told, b17⟩⟩ ⟨⟨f18, _, _, o_Pick.cl, ⟨a18, i18, F18.kp⟩, FnOk.vac fun _ _ _ _ => no_told, b18⟩⟩
    | succ n ih => exact vias_all ⟨⟨f14, _, _, o_Name.cl, ⟨a14, i14, F14.kp⟩, ok_Name_told F14 T , b14⟩⟩ ⟨⟨f15, _, _, o_Value.cl, ⟨a15, i15, F15.kp⟩, ok_Value_told F15 T , b15⟩⟩ ⟨⟨f16, _, _, o_Two.cl, ⟨a16, i16, F16.kp⟩, ok_Two_told F16 T ih, b16⟩⟩ ⟨⟨f17, _, _, o_Not.cl, ⟨a17, i17, F17.kp⟩, ok_Not_told F17 T ih, b17⟩⟩ ⟨⟨f18, _, _, o_Pick.cl, ⟨a18, i18, F18.kp⟩, ok_Pick_told F18 T ih, b18⟩⟩
  have v_told := VV_told 5
  have VV_levels : ∀ n, ∀ z ∈ vias K c (W_levels c n), MCallee l.prog w K mg base (0 + n) z.1 "levels" z.2 := by
    intro n
    induction n with
    | zero => exact vias_all ⟨⟨f19, _, _, o_Name.cl, ⟨a19, i19, F19.kp⟩, FnOk.vac fun _ _ _ _ => no_levels, b19⟩⟩ ⟨⟨f20, _, _, o_Value.cl, ⟨a20, i20, F20.kp⟩, FnOk.vac fun _ _ _ _ => no_levels, b20⟩⟩ ⟨⟨f21, _, _, o_Two.cl, ⟨a21, i21, F21.kp⟩, FnOk.vac fun _ _ _ _ => no_levels, b21⟩⟩ ⟨⟨f22, _, _, o_Not.cl, ⟨a22, i22, F22.kp⟩, FnOk.vac fun _ _ _ _ => no_levels, b22⟩⟩ ⟨⟨f23, _, _, o_Pick.cl, ⟨a23, i23, F23.kp⟩, FnOk.vac fun _ _ _ _ => no_levels, b23⟩⟩
    | succ n ih => exact vias_all ⟨⟨f19, _, _, o_Name.cl, ⟨a19, i19, F19.kp⟩, ok_Name_levels F19 T , b19⟩⟩ ⟨⟨f20, _, _, o_Value.cl, ⟨a20, i20, F20.kp⟩, ok_Value_levels F20 T , b20⟩⟩ ⟨⟨f21, _, _, o_Two.cl, ⟨a21, i21, F21.kp⟩, ok_Two_levels F21 T ih m_max, b21⟩⟩ ⟨⟨f22, _, _, o_Not.cl, ⟨a22, i22, F22.kp⟩, ok_Not_levels F22 T ih, b22⟩⟩ ⟨⟨f23, _, _, o_Pick.cl, ⟨a23, i23, F23.kp⟩, ok_Pick_levels F23 T ih m_max, b23⟩⟩
  have v_levels := VV_levels 5
  have VV_words : ∀ n, ∀ z ∈ vias K c (W_words c n), MCallee l.prog w K mg base (1 + n) z.1 "words" z.2 := by
    intro n
    induction n with
    | zero => exact vias_all ⟨⟨f24, _, _, o_Name.cl, ⟨a24, i24, F24.kp⟩, FnOk.vac fun _ _ _ _ => no_words, b24⟩⟩ ⟨⟨f25, _, _, o_Value.cl, ⟨a25, i25, F25.kp⟩, FnOk.vac fun _ _ _ _ => no_words, b25⟩⟩ ⟨⟨f26, _, _, o_Two.cl, ⟨a26, i26, F26.kp⟩, FnOk.vac fun _ _ _ _ => no_words, b26⟩⟩ ⟨⟨f27, _, _, o_Not.cl, ⟨a27, i27, F27.kp⟩, FnOk.vac fun _ _ _ _ => no_words, b27⟩⟩ ⟨⟨f28, _, _, o_Pick.cl, ⟨a28, i28, F28.kp⟩, FnOk.vac fun _ _ _ _ => no_words, b28⟩⟩
    | succ n ih => exact vias_all ⟨⟨f24, _, _, o_Name.cl, ⟨a24, i24, F24.kp⟩, ok_Name_words F24 T , b24⟩⟩ ⟨⟨f25, _, _, o_Value.cl, ⟨a25, i25, F25.kp⟩, ok_Value_words F25 T c_value_text, b25⟩⟩ ⟨⟨f26, _, _, o_Two.cl, ⟨a26, i26, F26.kp⟩, ok_Two_words F26 T ih, b26⟩⟩ ⟨⟨f27, _, _, o_Not.cl, ⟨a27, i27, F27.kp⟩, ok_Not_words F27 T ih, b27⟩⟩ ⟨⟨f28, _, _, o_Pick.cl, ⟨a28, i28, F28.kp⟩, ok_Pick_words F28 T ih, b28⟩⟩
  have v_words := VV_words 5
  have c__inner : Callee l.prog w K mg base 6 "_inner" (sp0 K (W__inner c)) := ⟨f29, _, _, ok__inner F29 T v_levels g_Pick g_Not g_Two g_Value g_Name m_isinstance k_LEVELS, PySem.W.mg_of X G a29, F29.kp, b29⟩
  have n_Name : KCallee l.prog w K mg base 3 "Name" c.nm (spI K c.nm (W_Name_init c)) := ⟨f30, _, _, ⟨mk_Name, a30, i30, kc_Name⟩, ok_Name_init F30 T c_is_pointed, PySem.W.mg_of X G aC_Name, b30⟩
  have n_Value : KCallee l.prog w K mg base 4 "Value" c.vl (spI K c.vl (W_Value_init c)) := ⟨f31, _, _, ⟨mk_Value, a31, i31, kc_Value⟩, ok_Value_init F31 T c_is_value, PySem.W.mg_of X G aC_Value, b31⟩
  have n_Two : KCallee l.prog w K mg base 7 "Two" c.tw (spI K c.tw (W_Two_init c)) := ⟨f32, _, _, ⟨mk_Two, a32, i32, kc_Two⟩, ok_Two_init F32 T c_ops_told c__inner, PySem.W.mg_of X G aC_Two, b32⟩
  have n_Not : KCallee l.prog w K mg base 7 "Not" c.nt (spI K c.nt (W_Not_init c)) := ⟨f33, _, _, ⟨mk_Not, a33, i33, kc_Not⟩, ok_Not_init F33 T c__inner, PySem.W.mg_of X G aC_Not, b33⟩
  have n_Pick : KCallee l.prog w K mg base 7 "Pick" c.pk (spI K c.pk (W_Pick_init c)) := ⟨f34, _, _, ⟨mk_Pick, a34, i34, kc_Pick⟩, ok_Pick_init F34 T c__inner, PySem.W.mg_of X G aC_Pick, b34⟩
  have R__made_of : ∀ n, Callee l.prog w K mg base (8 + n) "_made_of" (sp0 K (W__made_of c n)) := by
    intro n
    induction n with
    | zero => exact ⟨f35, _, _, FnOk.vac fun _ _ _ _ => no__made_of, PySem.W.mg_of X G a35, F35.kp, b35⟩
    | succ n ih => exact ⟨f35, _, _, ok__made_of F35 T ih n_Name n_Value n_Not n_Two n_Pick m_isinstance m_tuple m_len, PySem.W.mg_of X G a35, F35.kp, b35⟩
  have c__made_of := R__made_of 5
  have c_term_of : Callee l.prog w K mg base 14 "term_of" (sp0 K (W_term_of c)) := ⟨f36, _, _, ok_term_of F36 T c__made_of, PySem.W.mg_of X G a36, F36.kp, b36⟩
  have VV_renamed : ∀ n, ∀ z ∈ vias K c (W_renamed c nn n), MCalleeX l.prog w K mg base (8 + n) z.1 "renamed" z.2 := by
    intro n
    induction n with
    | zero => exact vias_all ⟨⟨f37, _, _, o_Name.cl, ⟨a37, i37, F37.kp⟩, FnOk.vacX fun _ _ _ _ => no_renamed, b37⟩⟩ ⟨⟨f38, _, _, o_Value.cl, ⟨a38, i38, F38.kp⟩, FnOk.vacX fun _ _ _ _ => no_renamed, b38⟩⟩ ⟨⟨f39, _, _, o_Two.cl, ⟨a39, i39, F39.kp⟩, FnOk.vacX fun _ _ _ _ => no_renamed, b39⟩⟩ ⟨⟨f40, _, _, o_Not.cl, ⟨a40, i40, F40.kp⟩, FnOk.vacX fun _ _ _ _ => no_renamed, b40⟩⟩ ⟨⟨f41, _, _, o_Pick.cl, ⟨a41, i41, F41.kp⟩, FnOk.vacX fun _ _ _ _ => no_renamed, b41⟩⟩
    | succ n ih => exact vias_all ⟨⟨f37, _, _, o_Name.cl, ⟨a37, i37, F37.kp⟩, ok_Name_renamed F37 T c_name_for n_Name, b37⟩⟩ ⟨⟨f38, _, _, o_Value.cl, ⟨a38, i38, F38.kp⟩, ok_Value_renamed F38 T , b38⟩⟩ ⟨⟨f39, _, _, o_Two.cl, ⟨a39, i39, F39.kp⟩, ok_Two_renamed F39 T ih n_Two, b39⟩⟩ ⟨⟨f40, _, _, o_Not.cl, ⟨a40, i40, F40.kp⟩, ok_Not_renamed F40 T ih n_Not, b40⟩⟩ ⟨⟨f41, _, _, o_Pick.cl, ⟨a41, i41, F41.kp⟩, ok_Pick_renamed F41 T ih n_Pick, b41⟩⟩
  have v_renamed := VV_renamed 5
  have VV_reckoned_by : ∀ n, ∀ z ∈ vias K c (W_reckoned_by c n), MCalleeX l.prog w K mg base (4 + n) z.1 "reckoned_by" z.2 := by
    intro n
    induction n with
    | zero => exact vias_all ⟨⟨f42, _, _, o_Name.cl, ⟨a42, i42, F42.kp⟩, FnOk.vacX fun _ _ _ _ => no_reckoned_by, b42⟩⟩ ⟨⟨f43, _, _, o_Value.cl, ⟨a43, i43, F43.kp⟩, FnOk.vacX fun _ _ _ _ => no_reckoned_by, b43⟩⟩ ⟨⟨f44, _, _, o_Two.cl, ⟨a44, i44, F44.kp⟩, FnOk.vacX fun _ _ _ _ => no_reckoned_by, b44⟩⟩ ⟨⟨f45, _, _, o_Not.cl, ⟨a45, i45, F45.kp⟩, FnOk.vacX fun _ _ _ _ => no_reckoned_by, b45⟩⟩ ⟨⟨f46, _, _, o_Pick.cl, ⟨a46, i46, F46.kp⟩, FnOk.vacX fun _ _ _ _ => no_reckoned_by, b46⟩⟩
    | succ n ih => exact vias_all ⟨⟨f42, _, _, o_Name.cl, ⟨a42, i42, F42.kp⟩, ok_Name_reckoned_by F42 T V_fn, b42⟩⟩ ⟨⟨f43, _, _, o_Value.cl, ⟨a43, i43, F43.kp⟩, ok_Value_reckoned_by F43 T , b43⟩⟩ ⟨⟨f44, _, _, o_Two.cl, ⟨a44, i44, F44.kp⟩, ok_Two_reckoned_by F44 T c_reckoned ih, b44⟩⟩ ⟨⟨f45, _, _, o_Not.cl, ⟨a45, i45, F45.kp⟩, ok_Not_reckoned_by F45 T c_contrary ih, b45⟩⟩ ⟨⟨f46, _, _, o_Pick.cl, ⟨a46, i46, F46.kp⟩, ok_Pick_reckoned_by F46 T ih m_isinstance m_bool, b46⟩⟩
  have v_reckoned_by := VV_reckoned_by 5
  have c__word_at : CalleeX l.prog w K mg base 4 "_word_at" (sp0 K (W__word_at e)) := ⟨f47, _, _, ok__word_at F47 T x_NoText m_len, PySem.W.mg_of X G a47, F47.kp, b47⟩
  have c__behind : CalleeX l.prog w K mg base 5 "_behind" (sp0 K (W__behind e)) := ⟨f48, _, _, ok__behind F48 T c__word_at x_NoText, PySem.W.mg_of X G a48, F48.kp, b48⟩
  have R__term_at : ∀ n, CalleeX l.prog w K mg base (8 + 3 * n) "_term_at" (sp0 K (W__term_at c e n)) := by
    intro n
    induction n with
    | zero => exact ⟨f51, _, _, FnOk.vacX fun _ _ _ _ => no__term_at, PySem.W.mg_of X G a51, F51.kp, b51⟩
    | succ n ih =>
      have c__term_at := ih
      have c__pick_at : CalleeX l.prog w K mg base (8 + 3 * n + 1) "_pick_at" (sp0 K (W__pick_at c e n)) := ⟨f49, _, _, ok__pick_at F49 T c__term_at c__behind n_Pick, PySem.W.mg_of X G a49, F49.kp, b49⟩
      have c__bracket_at : CalleeX l.prog w K mg base (8 + 3 * n + 2) "_bracket_at" (sp0 K (W__bracket_at c e n)) := ⟨f50, _, _, ok__bracket_at F50 T c__word_at c__term_at c__behind c__pick_at c_ops_told n_Not n_Two x_NoText, PySem.W.mg_of X G a50, F50.kp, b50⟩
      exact ⟨f51, _, _, ok__term_at F51 T c__word_at c__bracket_at c_is_name c_value_of n_Name n_Value x_NoText, PySem.W.mg_of X G a51, F51.kp, b51⟩
  have c__term_at := R__term_at 5
  have c_read_term : CalleeX l.prog w K mg base 24 "read_term" (sp0 K (W_read_term c e)) := ⟨f52, _, _, ok_read_term F52 T c__term_at x_NoText m_isinstance m_str m_len k_LEVELS, PySem.W.mg_of X G a52, F52.kp, b52⟩
  have c__law_cell_at : Callee l.prog w K mg base 1 "_law_cell_at" (sp0 K W__law_cell_at) := ⟨f53, _, _, ok__law_cell_at F53 T m_len, PySem.W.mg_of X G a53, F53.kp, b53⟩
  have c__law_box : Callee l.prog w K mg base 1 "_law_box" (sp0 K W__law_box) := ⟨f54, _, _, ok__law_box F54 T , PySem.W.mg_of X G a54, F54.kp, b54⟩
  have c__law_take : Callee l.prog w K mg base 1 "_law_take" (sp1 K W__law_take) := ⟨f55, _, _, ok__law_take F55 T , PySem.W.mg_of X G a55, F55.kp, b55⟩
  have c__law_value : Callee l.prog w K mg base 2 "_law_value" (sp1 K (W__law_value c)) := ⟨f56, _, _, ok__law_value F56 T c__law_take, PySem.W.mg_of X G a56, F56.kp, b56⟩
  have R__law_told : ∀ n, Callee l.prog w K mg base (2 + n) "_law_told" (sp1 K (W__law_told c n)) := by
    intro n
    induction n with
    | zero => exact ⟨f57, _, _, FnOk.vac fun _ _ _ _ => no__law_told, PySem.W.mg_of X G a57, F57.kp, b57⟩
    | succ n ih => exact ⟨f57, _, _, ok__law_told F57 T c__law_take c__law_value ih m_len m_range, PySem.W.mg_of X G a57, F57.kp, b57⟩
  have c__law_told := R__law_told 5
  have R__law_made : ∀ n, Callee l.prog w K mg base (8 + n) "_law_made" (sp0 K (W__law_made c n)) := by
    intro n
    induction n with
    | zero => exact ⟨f58, _, _, FnOk.vac fun _ _ _ _ => no__law_made, PySem.W.mg_of X G a58, F58.kp, b58⟩
    | succ n ih => exact ⟨f58, _, _, ok__law_made F58 T ih n_Name n_Value n_Not n_Pick n_Two, PySem.W.mg_of X G a58, F58.kp, b58⟩
  have c__law_made := R__law_made 5
  have c__law_sum : Callee l.prog w K mg base 1 "_law_sum" (sp0 K W__law_sum) := ⟨f59, _, _, ok__law_sum F59 T m_isinstance m_bool m_len m_int m_abs, PySem.W.mg_of X G a59, F59.kp, b59⟩
  have R__law_due : ∀ n, Callee l.prog w K mg base (2 + n) "_law_due" (sp0 K (W__law_due n)) := by
    intro n
    induction n with
    | zero => exact ⟨f60, _, _, FnOk.vac fun _ _ _ _ => no__law_due, PySem.W.mg_of X G a60, F60.kp, b60⟩
    | succ n ih => exact ⟨f60, _, _, ok__law_due F60 T ih c__law_sum m_int m_isinstance m_bool, PySem.W.mg_of X G a60, F60.kp, b60⟩
  have c__law_due := R__law_due 5
  have c__law_all : Callee l.prog w K mg base 25 "_law_all" (sp0 K (W__law_all c)) := ⟨f61, _, _, ok__law_all F61 T c__law_made c_read_term c_term_of v_renamed v_words v_told, PySem.W.mg_of X G a61, F61.kp, b61⟩
  have c__law_joined : Callee l.prog w K mg base 3 "_law_joined" (sp1 K W__law_joined) := ⟨f62, _, _, ok__law_joined F62 T c__law_take c__law_value, PySem.W.mg_of X G a62, F62.kp, b62⟩
  have c__law_given : Callee l.prog w K mg base 3 "_law_given" (spG K (TT tb) s_given_in "_law_book_worth" qlG "book") := ⟨f63, _, _, given_ok (k := 2) F63 ca0 WG TBx (.head _) rfl (fun p hp _ => by rw [List.mem_singleton.mp hp]), PySem.W.mg_of X G a63, F63.kp, b63⟩
  exact ok_law F64 T c__law_box c__law_cell_at c__law_told c__law_take c__law_all c__law_joined c__law_value c__law_given c__law_due v_reckoned_by v_told m_range m_max m_min m_len m_repr
end K26
namespace K26
open PySem L2 DL
open Evl (Ex)
theorem facts {l : PySem.W.OpenLaw} {w : World} {K : PySem.W.Frag} {h : Heap} {mg : Str → Option Value} {fa : Addr} (X : K.In h) (G : h.Ns mainGlobals mg) (hfa : mg "law" = some (.ref fa)) (c : (obA K, obB K) = (vA, vB)) : PySem.W.codeHdIn K 705 701 = true ∧ ∃ fd : FuncData, (∀ (s : Shared) (v : Value), BindsTo s fd ⟨[v], []⟩ [("script", v)]) ∧ ∀ base : Heap, K.In base → base.Ns mainGlobals mg → LamX.TabB base mg 705 701 → FnG l.prog w K mg base 26 fa fd ["script"] (spT K (TT 701) WLaw) := by
  have cA : obA K = vA := congrArg Prod.fst c
  have cB : obB K = vB := congrArg Prod.snd c
  have eo : oL K = oV := congrArg (fun z : AlA => z.1) cA
  have eb : bL K = bV := congrArg (fun z : AlA => z.2.1) cA
  have es : sL K = sV := congrArg (fun z : AlA => z.2.2.1) cA
  have et : tL K = tV := congrArg (fun z : AlA => z.2.2.2) cA
  have ef : fL K = fV := congrArg (fun z : AlB => z.1) cB
  have eg : gL K = gV := congrArg (fun z : AlB => z.2) cB
  have eo0 : ol0 K = ov0 := ob_get eo 0 rfl rfl
  have eo1 : ol1 K = ov1 := ob_get eo 1 rfl rfl
  have eo2 : ol2 K = ov2 := ob_get eo 2 rfl rfl
  have eo3 : ol3 K = ov3 := ob_get eo 3 rfl rfl
  have eo4 : ol4 K = ov4 := ob_get eo 4 rfl rfl
  have eb0 : bl0 K = bv0 := ob_get eb 0 rfl rfl
  have eb1 : bl1 K = bv1 := ob_get eb 1 rfl rfl
  have eb2 : bl2 K = bv2 := ob_get eb 2 rfl rfl
  have es0 : sl0 K = sv0 := ob_get es 0 rfl rfl
  have es1 : sl1 K = sv1 := ob_get es 1 rfl rfl
  have et0 : tl0 K = tv0 := ob_get et 0 rfl rfl
  have ef0 : fl0 K = fv0 := ob_get ef 0 rfl rfl
  have ef1 : fl1 K = fv1 := ob_get ef 1 rfl rfl
  have ef2 : fl2 K = fv2 := ob_get ef 2 rfl rfl
  have eg0 : gl0 K = gv0 := ob_get eg 0 rfl rfl
  have eg1 : gl1 K = gv1 := ob_get eg 1 rfl rfl
  have eg2 : gl2 K = gv2 := ob_get eg 2 rfl rfl
  obtain ⟨fd0, F0⟩ := fn_of (K := K) (f := 118) (x := "is_whole") (q := "is_whole") (st := s_is_whole) (ob_get ef0 0 rfl rfl) (ob_get eg0 0 rfl rfl)
  obtain ⟨fd1, F1⟩ := fn_of (K := K) (f := 125) (x := "is_within") (q := "is_within") (st := s_is_within) (ob_get ef0 1 rfl rfl) (ob_get eg0 1 rfl rfl)
  obtain ⟨fd2, F2⟩ := fn_of (K := K) (f := 130) (x := "is_name") (q := "is_name") (st := s_is_name) (ob_get ef0 2 rfl rfl) (ob_get eg0 2 rfl rfl)
  obtain ⟨fd3, F3⟩ := fn_of (K := K) (f := 135) (x := "is_pointed") (q := "is_pointed") (st := s_is_pointed) (ob_get ef0 3 rfl rfl) (ob_get eg0 3 rfl rfl)
  obtain ⟨fd4, F4⟩ := fn_of (K := K) (f := 142) (x := "is_value") (q := "is_value") (st := s_is_value) (ob_get ef0 4 rfl rfl) (ob_get eg0 4 rfl rfl)
  obtain ⟨fd5, F5⟩ := fn_of (K := K) (f := 149) (x := "value_text") (q := "value_text") (st := s_value_text) (ob_get ef0 5 rfl rfl) (ob_get eg0 5 rfl rfl)
  obtain ⟨fd6, F6⟩ := fn_of (K := K) (f := 161) (x := "_is_number_text") (q := "_is_number_text") (st := s__is_number_text) (ob_get ef0 6 rfl rfl) (ob_get eg0 6 rfl rfl)
  obtain ⟨fd7, F7⟩ := fn_of (K := K) (f := 156) (x := "value_of") (q := "value_of") (st := s_value_of) (ob_get ef0 7 rfl rfl) (ob_get eg0 7 rfl rfl)
  obtain ⟨fd8, F8⟩ := fn_of (K := K) (f := 173) (x := "name_for") (q := "name_for") (st := s_name_for) (ob_get ef0 8 rfl rfl) (ob_get eg0 8 rfl rfl)
  obtain ⟨fd9, F9⟩ := fn_of (K := K) (f := 181) (x := "ops_told") (q := "ops_told") (st := s_ops_told) (ob_get ef0 9 rfl rfl) (ob_get eg0 9 rfl rfl)
  obtain ⟨fd10, F10⟩ := fn_of (K := K) (f := 202) (x := "_takes") (q := "_takes") (st := s__takes) (ob_get ef0 10 rfl rfl) (ob_get eg0 10 rfl rfl)
  obtain ⟨fd11, F11⟩ := fn_of (K := K) (f := 209) (x := "_outcome") (q := "_outcome") (st := s__outcome) (ob_get ef0 11 rfl rfl) (ob_get eg0 11 rfl rfl)
  obtain ⟨fd12, F12⟩ := fn_of (K := K) (f := 188) (x := "reckoned") (q := "reckoned") (st := s_reckoned) (ob_get ef0 12 rfl rfl) (ob_get eg0 12 rfl rfl)
  obtain ⟨fd13, F13⟩ := fn_of (K := K) (f := 195) (x := "contrary") (q := "contrary") (st := s_contrary) (ob_get ef0 13 rfl rfl) (ob_get eg0 13 rfl rfl)
  obtain ⟨fd14, F14⟩ := fn_of (K := K) (f := 314) (x := "told") (q := "Name.told") (st := s_Name_told) (ob_get ef0 14 rfl rfl) (ob_get eg0 14 rfl rfl)
  obtain ⟨fd15, F15⟩ := fn_of (K := K) (f := 375) (x := "told") (q := "Value.told") (st := s_Value_told) (ob_get ef0 15 rfl rfl) (ob_get eg0 15 rfl rfl)
  obtain ⟨fd16, F16⟩ := fn_of (K := K) (f := 436) (x := "told") (q := "Two.told") (st := s_Two_told) (ob_get ef0 16 rfl rfl) (ob_get eg0 16 rfl rfl)
  obtain ⟨fd17, F17⟩ := fn_of (K := K) (f := 497) (x := "told") (q := "Not.told") (st := s_Not_told) (ob_get ef0 17 rfl rfl) (ob_get eg0 17 rfl rfl)
  obtain ⟨fd18, F18⟩ := fn_of (K := K) (f := 558) (x := "told") (q := "Pick.told") (st := s_Pick_told) (ob_get ef0 18 rfl rfl) (ob_get eg0 18 rfl rfl)
  obtain ⟨fd19, F19⟩ := fn_of (K := K) (f := 293) (x := "levels") (q := "Name.levels") (st := s_Name_levels) (ob_get ef0 19 rfl rfl) (ob_get eg0 19 rfl rfl)
  obtain ⟨fd20, F20⟩ := fn_of (K := K) (f := 354) (x := "levels") (q := "Value.levels") (st := s_Value_levels) (ob_get ef0 20 rfl rfl) (ob_get eg0 20 rfl rfl)
  obtain ⟨fd21, F21⟩ := fn_of (K := K) (f := 415) (x := "levels") (q := "Two.levels") (st := s_Two_levels) (ob_get ef0 21 rfl rfl) (ob_get eg0 21 rfl rfl)
  obtain ⟨fd22, F22⟩ := fn_of (K := K) (f := 476) (x := "levels") (q := "Not.levels") (st := s_Not_levels) (ob_get ef0 22 rfl rfl) (ob_get eg0 22 rfl rfl)
  obtain ⟨fd23, F23⟩ := fn_of (K := K) (f := 537) (x := "levels") (q := "Pick.levels") (st := s_Pick_levels) (ob_get ef0 23 rfl rfl) (ob_get eg0 23 rfl rfl)
  obtain ⟨fd24, F24⟩ := fn_of (K := K) (f := 321) (x := "words") (q := "Name.words") (st := s_Name_words) (ob_get ef0 24 rfl rfl) (ob_get eg0 24 rfl rfl)
  obtain ⟨fd25, F25⟩ := fn_of (K := K) (f := 382) (x := "words") (q := "Value.words") (st := s_Value_words) (ob_get ef0 25 rfl rfl) (ob_get eg0 25 rfl rfl)
  obtain ⟨fd26, F26⟩ := fn_of (K := K) (f := 443) (x := "words") (q := "Two.words") (st := s_Two_words) (ob_get ef0 26 rfl rfl) (ob_get eg0 26 rfl rfl)
  obtain ⟨fd27, F27⟩ := fn_of (K := K) (f := 504) (x := "words") (q := "Not.words") (st := s_Not_words) (ob_get ef0 27 rfl rfl) (ob_get eg0 27 rfl rfl)
  obtain ⟨fd28, F28⟩ := fn_of (K := K) (f := 565) (x := "words") (q := "Pick.words") (st := s_Pick_words) (ob_get ef0 28 rfl rfl) (ob_get eg0 28 rfl rfl)
  obtain ⟨fd29, F29⟩ := fn_of (K := K) (f := 584) (x := "_inner") (q := "_inner") (st := s__inner) (ob_get ef0 29 rfl rfl) (ob_get eg0 29 rfl rfl)
  obtain ⟨fd30, F30⟩ := fn_of (K := K) (f := 279) (x := "__init__") (q := "Name.__init__") (st := s_Name_init) (ob_get ef1 0 rfl rfl) (ob_get eg1 0 rfl rfl)
  obtain ⟨fd31, F31⟩ := fn_of (K := K) (f := 340) (x := "__init__") (q := "Value.__init__") (st := s_Value_init) (ob_get ef1 1 rfl rfl) (ob_get eg1 1 rfl rfl)
  obtain ⟨fd32, F32⟩ := fn_of (K := K) (f := 401) (x := "__init__") (q := "Two.__init__") (st := s_Two_init) (ob_get ef1 2 rfl rfl) (ob_get eg1 2 rfl rfl)
  obtain ⟨fd33, F33⟩ := fn_of (K := K) (f := 462) (x := "__init__") (q := "Not.__init__") (st := s_Not_init) (ob_get ef1 3 rfl rfl) (ob_get eg1 3 rfl rfl)
  obtain ⟨fd34, F34⟩ := fn_of (K := K) (f := 523) (x := "__init__") (q := "Pick.__init__") (st := s_Pick_init) (ob_get ef1 4 rfl rfl) (ob_get eg1 4 rfl rfl)
  obtain ⟨fd35, F35⟩ := fn_of (K := K) (f := 591) (x := "_made_of") (q := "_made_of") (st := s__made_of) (ob_get ef1 5 rfl rfl) (ob_get eg1 5 rfl rfl)
  obtain ⟨fd36, F36⟩ := fn_of (K := K) (f := 577) (x := "term_of") (q := "term_of") (st := s_term_of) (ob_get ef1 6 rfl rfl) (ob_get eg1 6 rfl rfl)
  obtain ⟨fd37, F37⟩ := fn_of (K := K) (f := 307) (x := "renamed") (q := "Name.renamed") (st := s_Name_renamed) (ob_get ef1 7 rfl rfl) (ob_get eg1 7 rfl rfl)
  obtain ⟨fd38, F38⟩ := fn_of (K := K) (f := 368) (x := "renamed") (q := "Value.renamed") (st := s_Value_renamed) (ob_get ef1 8 rfl rfl) (ob_get eg1 8 rfl rfl)
  obtain ⟨fd39, F39⟩ := fn_of (K := K) (f := 429) (x := "renamed") (q := "Two.renamed") (st := s_Two_renamed) (ob_get ef1 9 rfl rfl) (ob_get eg1 9 rfl rfl)
  obtain ⟨fd40, F40⟩ := fn_of (K := K) (f := 490) (x := "renamed") (q := "Not.renamed") (st := s_Not_renamed) (ob_get ef1 10 rfl rfl) (ob_get eg1 10 rfl rfl)
  obtain ⟨fd41, F41⟩ := fn_of (K := K) (f := 551) (x := "renamed") (q := "Pick.renamed") (st := s_Pick_renamed) (ob_get ef1 11 rfl rfl) (ob_get eg1 11 rfl rfl)
  obtain ⟨fd42, F42⟩ := fn_of (K := K) (f := 300) (x := "reckoned_by") (q := "Name.reckoned_by") (st := s_Name_reckoned_by) (ob_get ef1 12 rfl rfl) (ob_get eg1 12 rfl rfl)
  obtain ⟨fd43, F43⟩ := fn_of (K := K) (f := 361) (x := "reckoned_by") (q := "Value.reckoned_by") (st := s_Value_reckoned_by) (ob_get ef1 13 rfl rfl) (ob_get eg1 13 rfl rfl)
  obtain ⟨fd44, F44⟩ := fn_of (K := K) (f := 422) (x := "reckoned_by") (q := "Two.reckoned_by") (st := s_Two_reckoned_by) (ob_get ef1 14 rfl rfl) (ob_get eg1 14 rfl rfl)
  obtain ⟨fd45, F45⟩ := fn_of (K := K) (f := 483) (x := "reckoned_by") (q := "Not.reckoned_by") (st := s_Not_reckoned_by) (ob_get ef1 15 rfl rfl) (ob_get eg1 15 rfl rfl)
  obtain ⟨fd46, F46⟩ := fn_of (K := K) (f := 544) (x := "reckoned_by") (q := "Pick.reckoned_by") (st := s_Pick_reckoned_by) (ob_get ef1 16 rfl rfl) (ob_get eg1 16 rfl rfl)
  obtain ⟨fd47, F47⟩ := fn_of (K := K) (f := 633) (x := "_word_at") (q := "_word_at") (st := s__word_at) (ob_get ef1 17 rfl rfl) (ob_get eg1 17 rfl rfl)
  obtain ⟨fd48, F48⟩ := fn_of (K := K) (f := 626) (x := "_behind") (q := "_behind") (st := s__behind) (ob_get ef1 18 rfl rfl) (ob_get eg1 18 rfl rfl)
  obtain ⟨fd49, F49⟩ := fn_of (K := K) (f := 619) (x := "_pick_at") (q := "_pick_at") (st := s__pick_at) (ob_get ef1 19 rfl rfl) (ob_get eg1 19 rfl rfl)
  obtain ⟨fd50, F50⟩ := fn_of (K := K) (f := 612) (x := "_bracket_at") (q := "_bracket_at") (st := s__bracket_at) (ob_get ef1 20 rfl rfl) (ob_get eg1 20 rfl rfl)
  obtain ⟨fd51, F51⟩ := fn_of (K := K) (f := 605) (x := "_term_at") (q := "_term_at") (st := s__term_at) (ob_get ef1 21 rfl rfl) (ob_get eg1 21 rfl rfl)
  obtain ⟨fd52, F52⟩ := fn_of (K := K) (f := 598) (x := "read_term") (q := "read_term") (st := s_read_term) (ob_get ef1 22 rfl rfl) (ob_get eg1 22 rfl rfl)
  obtain ⟨fd53, F53⟩ := fn_of (K := K) (f := 640) (x := "_law_cell_at") (q := "_law_cell_at") (st := s__law_cell_at) (ob_get ef1 23 rfl rfl) (ob_get eg1 23 rfl rfl)
  obtain ⟨fd54, F54⟩ := fn_of (K := K) (f := 647) (x := "_law_box") (q := "_law_box") (st := s__law_box) (ob_get ef1 24 rfl rfl) (ob_get eg1 24 rfl rfl)
  obtain ⟨fd55, F55⟩ := fn_of (K := K) (f := 654) (x := "_law_take") (q := "_law_take") (st := s__law_take) (ob_get ef1 25 rfl rfl) (ob_get eg1 25 rfl rfl)
  obtain ⟨fd56, F56⟩ := fn_of (K := K) (f := 661) (x := "_law_value") (q := "_law_value") (st := s__law_value) (ob_get ef1 26 rfl rfl) (ob_get eg1 26 rfl rfl)
  obtain ⟨fd57, F57⟩ := fn_of (K := K) (f := 666) (x := "_law_told") (q := "_law_told") (st := s__law_told) (ob_get ef1 27 rfl rfl) (ob_get eg1 27 rfl rfl)
  obtain ⟨fd58, F58⟩ := fn_of (K := K) (f := 673) (x := "_law_made") (q := "_law_made") (st := s__law_made) (ob_get ef1 28 rfl rfl) (ob_get eg1 28 rfl rfl)
  obtain ⟨fd59, F59⟩ := fn_of (K := K) (f := 678) (x := "_law_sum") (q := "_law_sum") (st := s__law_sum) (ob_get ef1 29 rfl rfl) (ob_get eg1 29 rfl rfl)
  obtain ⟨fd60, F60⟩ := fn_of (K := K) (f := 685) (x := "_law_due") (q := "_law_due") (st := s__law_due) (ob_get ef2 0 rfl rfl) (ob_get eg2 0 rfl rfl)
  obtain ⟨fd61, F61⟩ := fn_of (K := K) (f := 692) (x := "_law_all") (q := "_law_all") (st := s__law_all) (ob_get ef2 1 rfl rfl) (ob_get eg2 1 rfl rfl)
  obtain ⟨fd62, F62⟩ := fn_of (K := K) (f := 699) (x := "_law_joined") (q := "_law_joined") (st := s__law_joined) (ob_get ef2 2 rfl rfl) (ob_get eg2 2 rfl rfl)
  obtain ⟨fd63, F63⟩ := fn_of (K := K) (f := 706) (x := "_law_given") (q := "_law_given") (st := s__law_given) (ob_get ef2 3 rfl rfl) (ob_get eg2 3 rfl rfl)
  obtain ⟨fd64, F64⟩ := fn_of (K := K) (f := 711) (x := "law") (q := "law") (st := s_law) (ob_get ef2 4 rfl rfl) (ob_get eg2 4 rfl rfl)
  obtain ⟨fdB, FB⟩ := fn_of (K := K) (f := 28) (x := "__init__") (q := "BeatError.__init__") (st := s_BeatError_init) (ob_get ef2 5 rfl rfl) (ob_get eg2 5 rfl rfl)
  obtain ⟨fdINoName, FINoName⟩ := fn_of (K := K) (f := 67) (x := "__init__") (q := "NoName.__init__") (st := s_NoName_init) (ob_get ef2 6 rfl rfl) (ob_get eg2 6 rfl rfl)
  obtain ⟨fdINoText, FINoText⟩ := fn_of (K := K) (f := 105) (x := "__init__") (q := "NoText.__init__") (st := s_NoText_init) (ob_get ef2 7 rfl rfl) (ob_get eg2 7 rfl rfl)
  exact ⟨(ob_get eb2 15 rfl rfl), all_mk X G hfa (ob_get eo0 0 rfl rfl) (ob_get eo0 1 rfl rfl) (ob_get eo0 2 rfl rfl) (ob_get eo0 3 rfl rfl) (ob_get eo0 4 rfl rfl) (ob_get eo0 5 rfl rfl) (ob_get eo0 6 rfl rfl) (ob_get eo0 7 rfl rfl) (ob_get eo0 8 rfl rfl) (ob_get eo0 9 rfl rfl) F0 (ob_get eo0 10 rfl rfl) F1 (ob_get eo0 11 rfl rfl) F2 (ob_get eo0 12 rfl rfl) F3 (ob_get eo0 13 rfl rfl) F4 (ob_get eo0 14 rfl rfl) F5 (ob_get eo0 15 rfl rfl) F6 (ob_get eo0 16 rfl rfl) F7 (ob_get eo0 17 rfl rfl) F8 (ob_get eo0 18 rfl rfl) F9 (ob_get eo0 19 rfl rfl) F10 (ob_get eo0 20 rfl rfl) F11 (ob_get eo0 21 rfl rfl) F12 (ob_get eo0 22 rfl rfl) F13 (ob_get eo0 23 rfl rfl) (ob_get eb0 0 rfl rfl) F14 (ob_get eo0 24 rfl rfl) (ob_get eb0 1 rfl rfl) F15 (ob_get eo0 25 rfl rfl) (ob_get eb0 2 rfl rfl) F16 (ob_get eo0 26 rfl rfl) (ob_get eb0 3 rfl rfl) F17 (ob_get eo0 27 rfl rfl) (ob_get eb0 4 rfl rfl) F18 (ob_get eo0 28 rfl rfl) (ob_get eb0 5 rfl rfl) F19 (ob_get eo0 29 rfl rfl) (ob_get eb0 6 rfl rfl) F20 (ob_get eo1 0 rfl rfl) (ob_get eb0 7 rfl rfl) F21 (ob_get eo1 1 rfl rfl) (ob_get eb0 8 rfl rfl) F22 (ob_get eo1 2 rfl rfl) (ob_get eb0 9 rfl rfl) F23 (ob_get eo1 3 rfl rfl) (ob_get eb0 10 rfl rfl) F24 (ob_get eo1 4 rfl rfl) (ob_get eb0 11 rfl rfl) F25 (ob_get eo1 5 rfl rfl) (ob_get eb0 12 rfl rfl) F26 (ob_get eo1 6 rfl rfl) (ob_get eb0 13 rfl rfl) F27 (ob_get eo1 7 rfl rfl) (ob_get eb0 14 rfl rfl) F28 (ob_get eo1 8 rfl rfl) F29 (ob_get eo1 9 rfl rfl) (ob_get eb0 15 rfl rfl) F30 (ob_get eo1 10 rfl rfl) (ob_get eb0 16 rfl rfl) F31 (ob_get eo1 11 rfl rfl) (ob_get eb0 17 rfl rfl) F32 (ob_get eo1 12 rfl rfl) (ob_get eb0 18 rfl rfl) F33 (ob_get eo1 13 rfl rfl) (ob_get eb0 19 rfl rfl) F34 (ob_get eo1 14 rfl rfl) F35 (ob_get eo1 15 rfl rfl) F36 (ob_get eo1 16 rfl rfl) (ob_get eb0 20 rfl rfl) F37 (ob_get eo1 17 rfl rfl) (ob_get eb0 21 rfl rfl) F38 (ob_get eo1 18 rfl rfl) (ob_get eb0 22 rfl rfl) F39 (ob_get eo1 19 rfl rfl) (ob_get eb0 23 rfl rfl) F40 (ob_get eo1 20 rfl rfl) (ob_get eb0 24 rfl rfl) F41 (ob_get eo1 21 rfl rfl) (ob_get eb0 25 rfl rfl) F42 (ob_get eo1 22 rfl rfl) (ob_get eb0 26 rfl rfl) F43 (ob_get eo1 23 rfl rfl) (ob_get eb0 27 rfl rfl) F44 (ob_get eo1 24 rfl rfl) (ob_get eb0 28 rfl rfl) F45 (ob_get eo1 25 rfl rfl) (ob_get eb0 29 rfl rfl) F46 (ob_get eo1 26 rfl rfl) F47 (ob_get eo1 27 rfl rfl) F48 (ob_get eo1 28 rfl rfl) F49 (ob_get eo1 29 rfl rfl) F50 (ob_get eo2 0 rfl rfl) F51 (ob_get eo2 1 rfl rfl) F52 (ob_get eo2 2 rfl rfl) F53 (ob_get eo2 3 rfl rfl) F54 (ob_get eo2 4 rfl rfl) F55 (ob_get eo2 5 rfl rfl) F56 (ob_get eo2 6 rfl rfl) F57 (ob_get eo2 7 rfl rfl) F58 (ob_get eo2 8 rfl rfl) F59 (ob_get eo2 9 rfl rfl) F60 (ob_get eo2 10 rfl rfl) F61 (ob_get eo2 11 rfl rfl) F62 (ob_get eo2 12 rfl rfl) F63 (ob_get eo2 13 rfl rfl) F64 (ob_get eo2 14 rfl rfl) (ob_get eb1 0 rfl rfl) (ob_get eb1 1 rfl rfl) FB (ob_get eb1 2 rfl rfl) (ob_get eo2 15 rfl rfl) FINoName (ob_get et0 0 rfl rfl) (ob_get eb1 3 rfl rfl) (ob_get eo2 16 rfl rfl) (ob_get es0 0 rfl rfl) (ob_get et0 1 rfl rfl) (ob_get eb1 4 rfl rfl) (ob_get eo2 17 rfl rfl) (ob_get es0 1 rfl rfl) (ob_get eo2 18 rfl rfl) (ob_get eo2 19 rfl rfl) (ob_get eb1 5 rfl rfl) (ob_get eb1 6 rfl rfl) (ob_get eo2 20 rfl rfl) (ob_get es0 2 rfl rfl) (ob_get eo2 21 rfl rfl) FINoText (ob_get et0 2 rfl rfl) (ob_get eb1 7 rfl rfl) (ob_get eo2 22 rfl rfl) (ob_get es0 3 rfl rfl) (ob_get et0 3 rfl rfl) (ob_get eb1 8 rfl rfl) (ob_get eo2 23 rfl rfl) (ob_get es0 4 rfl rfl) (ob_get eo2 24 rfl rfl) (ob_get eo2 25 rfl rfl) (ob_get eb1 9 rfl rfl) (ob_get eb1 10 rfl rfl) (ob_get eo2 26 rfl rfl) (ob_get es0 5 rfl rfl) (ob_get eo2 27 rfl rfl) (ob_get eo2 28 rfl rfl) (ob_get eo2 29 rfl rfl) (ob_get eo3 0 rfl rfl) (ob_get eo3 1 rfl rfl) (ob_get eo3 2 rfl rfl) (ob_get eo3 3 rfl rfl) (ob_get eo3 4 rfl rfl) (ob_get eo3 5 rfl rfl) (ob_get eo3 6 rfl rfl) (ob_get eo3 7 rfl rfl) (ob_get eo3 8 rfl rfl) (ob_get eo3 9 rfl rfl) (ob_get eo3 10 rfl rfl) (ob_get eb1 11 rfl rfl) (ob_get eb1 12 rfl rfl) (ob_get eb1 13 rfl rfl) (ob_get eb1 14 rfl rfl) (ob_get eb1 15 rfl rfl) (ob_get eb1 16 rfl rfl) (ob_get eb1 17 rfl rfl) (ob_get eb1 18 rfl rfl) (ob_get eb1 19 rfl rfl) (ob_get eb1 20 rfl rfl) (ob_get eb1 21 rfl rfl) (ob_get eb1 22 rfl rfl) (ob_get eo3 11 rfl rfl) (ob_get eb1 23 rfl rfl) (ob_get eb1 24 rfl rfl) (ob_get eo3 12 rfl rfl) (ob_get eo3 13 rfl rfl) (ob_get eb1 25 rfl rfl) (ob_get eb1 26 rfl rfl) (ob_get eb1 27 rfl rfl) (ob_get eo3 14 rfl rfl) (ob_get eb1 28 rfl rfl) (ob_get eb1 29 rfl rfl) (ob_get eo3 15 rfl rfl) (ob_get eo3 16 rfl rfl) (ob_get eb2 0 rfl rfl) (ob_get eb2 1 rfl rfl) (ob_get eb2 2 rfl rfl) (ob_get eo3 17 rfl rfl) (ob_get eb2 3 rfl rfl) (ob_get eb2 4 rfl rfl) (ob_get eo3 18 rfl rfl) (ob_get eo3 19 rfl rfl) (ob_get eo3 20 rfl rfl) (ob_get eo3 21 rfl rfl) (ob_get eb2 5 rfl rfl) (ob_get eb2 6 rfl rfl) (ob_get eb2 7 rfl rfl) (ob_get eo3 22 rfl rfl) (ob_get eb2 8 rfl rfl) (ob_get eb2 9 rfl rfl) (ob_get eo3 23 rfl rfl) (ob_get eo3 24 rfl rfl) (ob_get eb2 10 rfl rfl) (ob_get eb2 11 rfl rfl) (ob_get eb2 12 rfl rfl) (ob_get eo3 25 rfl rfl) (ob_get eb2 13 rfl rfl) (ob_get eb2 14 rfl rfl) (ob_get eo3 26 rfl rfl) (ob_get eo3 27 rfl rfl) (ob_get eo3 28 rfl rfl) (ob_get eo3 29 rfl rfl) (ob_get eb2 15 rfl rfl) (ob_get eb2 16 rfl rfl) (ob_get es0 6 rfl rfl) (ob_get et0 4 rfl rfl) (ob_get es0 7 rfl rfl) (ob_get et0 5 rfl rfl) (ob_get es0 8 rfl rfl) (ob_get et0 6 rfl rfl) (ob_get es0 9 rfl rfl) (ob_get et0 7 rfl rfl) (ob_get es0 10 rfl rfl) (ob_get et0 8 rfl rfl) (ob_get es0 11 rfl rfl) (ob_get et0 9 rfl rfl) (ob_get es0 12 rfl rfl) (ob_get es0 13 rfl rfl) (ob_get es0 14 rfl rfl) (ob_get es0 15 rfl rfl) (ob_get es0 16 rfl rfl) (ob_get es0 17 rfl rfl) (ob_get es0 18 rfl rfl) (ob_get es0 19 rfl rfl) (ob_get es0 20 rfl rfl) (ob_get es0 21 rfl rfl) (ob_get es0 22 rfl rfl) (ob_get es0 23 rfl rfl) (ob_get es0 24 rfl rfl) (ob_get es0 25 rfl rfl) (ob_get es0 26 rfl rfl) (ob_get es0 27 rfl rfl) (ob_get es0 28 rfl rfl) (ob_get es0 29 rfl rfl) (ob_get es1 0 rfl rfl) (ob_get es1 1 rfl rfl) (ob_get es1 2 rfl rfl) (ob_get es1 3 rfl rfl) (ob_get es1 4 rfl rfl) (ob_get es1 5 rfl rfl) (ob_get es1 6 rfl rfl) (ob_get eo4 0 rfl rfl) (ob_get es1 7 rfl rfl)⟩
end K26
open PySem PySem.W PySem.Calls PyProof.Rows
set_option maxRecDepth 100000 in
set_option maxHeartbeats 0 in
theorem PySem.Challenge.cw_beatrows_k26_whole_terms_alike_holds : PySem.Challenge.rw_beatrows_k26_whole_terms_alike.Holds := by
  w_on; o_law
  refine HandSHeadRun.head_any (r := OpenLaw.row PySem.Challenge.rw_beatrows_k26_whole_terms_alike) (q := view (OpenLaw.row PySem.Challenge.rw_beatrows_k26_whole_terms_alike).prog [61]) (H := K26.hk) (ob := K26.ob) (M := 9500) (loose := K26.lns) (d := HandSHeadRun.topDef (OpenLaw.row PySem.Challenge.rw_beatrows_k26_whole_terms_alike).prog 61) (kwd := []) K26.ob_eq
    (by kernel_rfl) (fun s => by kernel_rfl) K26.run (by kernel_rfl) (by kernel_rfl) (by kernel_rfl) (by rfl) (by first | assumption | decide +kernel) (by decide +kernel) ⟨rfl, rfl, rfl, rfl, rfl, by decide +kernel⟩ ?hw ?hc
  case hw => w_witness2
  case hc =>
    refine DL.walk_goT (c0 := 705) (tb := 701) (T := K26.TT 701) (fun p hp => by rw [List.mem_singleton.mp hp]) (l := PySem.Challenge.rw_beatrows_k26_whole_terms_alike) (n := 63) (k := 26) (x := "script") rfl (by decide) (by kernel_rfl) ⟨rfl, by decide, by decide⟩ ?F
    intro w mg fa h Y G hmg0
    obtain ⟨K, KX, c, hN, hT⟩ := Y
    have hmg : mg ("law" : PySem.Str) = some (.ref fa) := by
      have e : (HandSHeadRun.topDef (OpenLaw.row PySem.Challenge.rw_beatrows_k26_whole_terms_alike).prog 61).name = ("law" : PySem.Str) := by kernel_rfl
      rw [← e]
      exact hmg0
    obtain ⟨hC, fd, hb, hF⟩ := K26.facts (l := PySem.Challenge.rw_beatrows_k26_whole_terms_alike) (w := w) KX G hmg c
    exact ⟨K, fd, KX, hT, hN, hC, hb, hF⟩
