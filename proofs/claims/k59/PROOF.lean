import PyProof.Rows.All
import HandS.ForMost
import HandS.ForExc
import HandS.Head0
import HandS.Head1
import HandS.Head2
import HandS.HeadEnd
import HandS.HeadHook1
import HandS.HeadHook2
import HandS.HeadNt
import Wide.All
import OpenK.AllK
import Wide.FinOn
import HandS.IsInst
import HandS.Evl
import HandS.TupLe
import HandS.SetFor
import HandS.Walk
import HandS.Text
import HandS.Style
import HandS.Deep
import HandS.StrMore
import HandS.More
import HandS.DictComp
import PyProof.ReprRoads
import PyProof.ReprBulk
import HandS.Flt
import HandS.ExcInit
import HandS.ExcField
import HandS.ExcOwn
import HandS.WordsExc
import HandS.ForDict
import HandS.ListItems
import KE.KExcIs
import KE.KEqNest
import PyProof.NeKinds
import HandS.Replace
import HandS.Wide
import PySem.Challenge.RW_beatrows_k59_rows_with_other_names
set_option Elab.async false
set_option linter.all false
set_option autoImplicit false
set_option maxRecDepth 100000
set_option maxHeartbeats 4000000
namespace DL
open PySem PySem.Spec PyProof.Rows L2
/-! ### texts laid at the top -/
def strsB : List Value → List Str → Bool
  | [], [] => true
  | .str y _ :: r, x :: l => decide (y = x) && strsB r l
  | _, _ => false
def konI (K : PySem.W.Frag) (x : Str) (i : Int) : Bool := match PySem.W.nsIn K mainGlobals x with
  | some (some (.int j _)) => decide (j = i)
  | _ => false
def konS (K : PySem.W.Frag) (x z : Str) : Bool := match PySem.W.nsIn K mainGlobals x with
  | some (some (.str y _)) => decide (y = z)
  | _ => false
def konT (K : PySem.W.Frag) (x : Str) (l : List Str) : Bool := decide (PySem.W.nsIn K mainGlobals x = some (some (.ref (He.ga K x)))) && match K.lookup (He.ga K x) with
  | some ⟨.type t, _, .seq its _, _⟩ => decide (t = "tuple") && strsB its.toList l
  | _ => false
def slotB : List (Option Value) → Bool
  | [_, _, _, _, some (.builtin n), _] => decide (n = "ValueError.__new__")
  | _ => false
def mroB (C : Addr) : List Value → Bool
  | .ref C' :: bm => decide (C' = C) && PySem.HandSPX.refsVE bm
  | _ => false
def oexB (K : PySem.W.Frag) (C : Addr) : Bool := match K.lookup C with
  | some ⟨.type t, _, .cls cd, sl⟩ => decide (t = "type") && (mroB C cd.mro && (cd.hasDict && (!cd.hasDel && slotB sl.toList)))
  | _ => false
theorem oexB_ok {K : PySem.W.Frag} {C : Addr} (c : oexB K C = true) : ∃ nm q N bs bm sn sub ab col dd k0 k1 k2 k3 k5, K.lookup C = some (excClassObj nm q C N bs bm true sn sub ab col dd k0 k1 k2 k3 k5 "ValueError.__new__") ∧ PySem.HandSPX.refsVE bm = true := by
  unfold oexB at c
  cases e : K.lookup C with
  | none => rw [e] at c; cases c
  | some o =>
    rw [e] at c
    obtain ⟨cls, dd, data, ⟨sl⟩⟩ := o
    cases cls with
    | type t =>
      cases data with
      | cls cd =>
        obtain ⟨h1, h2⟩ := He.ba c
        obtain ⟨h2, h3⟩ := He.ba h2
        obtain ⟨h3, h4⟩ := He.ba h3
        obtain ⟨h4, h5⟩ := He.ba h4
        have et : t = "type" := of_decide_eq_true h1
        subst et
        obtain ⟨nm, bs, mro, ns, q, hd, sn, sub, ab, col, hdl⟩ := cd
        have h3' : hd = true := h3
        have h4' : hdl = false := by
          have z : (!hdl) = true := h4
          cases hdl with
          | true => cases z
          | false => rfl
        subst h3' h4'
        have h2' : mroB C mro = true := h2
        have h5' : slotB sl = true := h5
        match mro, h2' with
        | .ref C' :: bm, h2' =>
          obtain ⟨q1, q2⟩ := He.ba h2'
          have ec : C' = C := of_decide_eq_true q1
          subst ec
          match sl, h5' with
          | [k0, k1, k2, k3, some (.builtin n), k5], h5' =>
            have en : n = "ValueError.__new__" := of_decide_eq_true h5'
            subst en
            exact ⟨nm, q, ns, bs, bm, sn, sub, ab, col, dd, k0, k1, k2, k3, k5, rfl, q2⟩
      | _ => cases c
    | _ => cases c
def clsAt (K : PySem.W.Frag) (a b : Value) (m : Str) (v : Value) : Bool := match PySem.W.findCls K a b m with
  | some (.val u) => decide (u = v)
  | _ => false
theorem clsAt_ok {K : PySem.W.Frag} {a b : Value} {m : Str} {v : Value} (c : clsAt K a b m v = true) : PySem.W.findCls K a b m = some (.val v) := by
  unfold clsAt at c
  cases e : PySem.W.findCls K a b m with
  | none => rw [e] at c; cases c
  | some u =>
    rw [e] at c
    cases u with
    | val w =>
      have z : w = v := of_decide_eq_true c
      rw [z]
    | _ => cases c
/-! ### the head by kernel runs, addresses written out -/
def hookA {α : Type} (as : List Addr) (ob : PySem.W.Frag → α) (v : α) : PySem.W.Hook where
  α := α
  obs := fun s => ob (He.frG s.heap.get? as)
  val := fun _ => v
  says := fun _ h => ∃ K : PySem.W.Frag, K.In h ∧ ob K = v
  of := fun _ _ e => ⟨_, He.frG_in, e⟩
  keeps := fun _ _ _ ⟨K, hK, c⟩ k => ⟨K, PySem.W.Frag.In.keeps hK k, c⟩
theorem hookA_eq {α : Type} {as : List Addr} {ob : PySem.W.Frag → α} {v : α} {g : Addr → Option Obj} {s : Shared} (h : ∀ a, g a = s.heap.get? a) : ob (He.frG g as) = (hookA as ob v).obs s := by
  have e : g = s.heap.get? := funext h
  rw [e] <;> rfl
/-- two looks behind one top, each by a run of its own -/
theorem run_pair {S A B C D : Type} {x : Option S} {f : S → A} {g : S → B} {o1 : S → C} {o2 : S → D} {a : A} {b : B} {v1 : C} {v2 : D}
    (h1 : x.map (fun s => (f s, g s, o1 s)) = some (a, b, v1)) (h2 : x.map o2 = some v2) : x.map (fun s => (f s, g s, (o1 s, o2 s))) = some (a, b, (v1, v2)) := by
  cases x with
  | none => cases h1
  | some s =>
    have e1 := Option.some.inj h1
    have e2 := Option.some.inj h2
    simp only [Prod.mk.injEq] at e1
    obtain ⟨q1, q2, q3⟩ := e1
    show some (f s, g s, (o1 s, o2 s)) = _
    rw [q1, q2, q3, e2]
/-- a def at its address -/
def fnA (K : PySem.W.Frag) (f : Addr) : He.FnW := match K.lookup f with
  | some ⟨_, _, .func fd, _⟩ => some (fd.name, fd.qualname, fd.params, fd.body, fd.scope, fd.globals, fd.closure, fd.builtins)
  | _ => none
def fnV (x q : Str) (st : Stmt) : He.FnW := some (x, q, defArgs st, .stmts (defBody st), defScope st, mainGlobals, [], builtinsNs)
def fnB (K : PySem.W.Frag) (f : Addr) (q : Str) : Bool := match K.lookup f with
  | some ⟨_, _, .func fd, _⟩ => (match fd.defaults with
    | .none => PySem.W.codeIn K fd.code q
    | _ => false)
  | _ => false
theorem fn_of {K : PySem.W.Frag} {f : Addr} {x q : Str} {st : Stmt} (e : fnA K f = fnV x q st) (c : fnB K f q = true) : ∃ fd, L2.Fun K x q st f fd := by
  unfold fnA at e
  unfold fnB at c
  cases z : K.lookup f with
  | none =>
    rw [z] at c
    cases c
  | some o =>
    obtain ⟨oc, od, dt, osl⟩ := o
    rw [z] at c e
    cases dt with
    | func fd =>
      obtain ⟨n1, n2, n3, n4, n5, n6, n7, n8, n9, n10, n11, n12, n13, n14, n15⟩ := fd
      have e2 : (some (n1, n2, n3, n4, n5, n6, n7, n15) : He.FnW) = some (x, q, defArgs st, .stmts (defBody st), defScope st, mainGlobals, [], builtinsNs) := e
      simp only [Option.some.injEq, Prod.mk.injEq] at e2
      obtain ⟨h1, h2, h3, h4, h5, h6, h7, h8⟩ := e2
      subst h1 h2 h3 h4 h5 h6 h7 h8
      cases n8 with
      | none =>
        have c3 : PySem.W.codeIn K n13 n2 = true := c
        exact ⟨_, ⟨oc, od, n9, n10, n11, n12, n13, n14, osl, rfl, z, c3⟩, by
          show (match K.lookup f with
            | some ⟨_, _, .func _, _⟩ => true
            | some ⟨_, _, .cls _, _⟩ => PySem.W.specialIn K (.ref f) "__call__" == some (some (.builtin "type.__call__"))
            | _ => false) = true
          rw [z]⟩
      | _ => cases c
    | _ => cases c
/-- the results of looks, laid side by side -/
abbrev ObT : Type := List (Option (Option Value)) × List Bool × List (Option Bool) × List (Option Value) × List He.FnW
theorem ob_get {α : Type} {l m : List α} (e : l = m) (i : Nat) {x y : α} (h1 : l[i]? = some x) (h2 : m[i]? = some y) : x = y := by
  rw [e] at h1
  exact Option.some.inj (h1.symm.trans h2)
theorem bs_get {l : List Bool} {n : Nat} (e : l = List.replicate n true) (i : Nat) {x : Bool} (h1 : l[i]? = some x) : x = true := by
  rw [e] at h1
  exact (List.mem_replicate.mp (List.mem_of_getElem? h1)).2
end DL
namespace K59
open PySem L2 DL
def top (i : Nat) : Stmt := PySem.Challenge.pw_beatrows_k59_rows_with_other_names.main.body.getD i (.Pass ⟨0, 0, 0, 0⟩)
abbrev s_named_row : Stmt := top 4
abbrev s_named_clock : Stmt := top 5
abbrev s__law_cell_at : Stmt := top 7
abbrev s__law_box : Stmt := top 8
abbrev s__law_take : Stmt := top 9
abbrev s__law_mixed : Stmt := top 11
abbrev s__law_names : Stmt := top 12
abbrev s__law_pairs : Stmt := top 13
abbrev s__law_answer : Stmt := top 14
abbrev s__law_due : Stmt := top 15
abbrev s_law : Stmt := top 16
abbrev s_BeatError_init : Stmt := inClass (top 1) 0
abbrev s_Twice_init : Stmt := inClass (top 2) 0
def ol0 (K : PySem.W.Frag) : List (Option (Option Value)) := [PySem.W.nsIn K mainGlobals "Twice",
  PySem.W.nsIn K mainGlobals "BeatError",
  PySem.W.nsIn K mainGlobals "named_row",
  PySem.W.nsIn K mainGlobals "named_clock",
  PySem.W.nsIn K mainGlobals "_law_cell_at",
  PySem.W.nsIn K mainGlobals "_law_box",
  PySem.W.nsIn K mainGlobals "_law_take",
  PySem.W.nsIn K mainGlobals "_law_mixed",
  PySem.W.nsIn K mainGlobals "_law_names",
  PySem.W.nsIn K mainGlobals "_law_pairs",
  PySem.W.nsIn K mainGlobals "_law_answer",
  PySem.W.nsIn K mainGlobals "_law_due",
  PySem.W.nsIn K mainGlobals "law",
  PySem.W.specialIn K (.ref 31) "__getattribute__",
  PySem.W.specialIn K (.builtin "object.__class__") "__get__",
  PySem.W.findIn K (.ref 51) "__init__",
  PySem.W.findIn K (.ref 51) "__setattr__",
  PySem.W.findIn K (.ref 51) "name",
  PySem.W.findIn K (.ref 51) "__getattribute__",
  PySem.W.findIn K (.ref 51) "__getattr__",
  PySem.W.findIn K (.ref 51) "__class__",
  PySem.W.nsIn K mainGlobals "tuple",
  PySem.W.nsIn K mainGlobals "len",
  PySem.W.nsIn K mainGlobals "list",
  PySem.W.nsIn K mainGlobals "range",
  PySem.W.nsIn K mainGlobals "enumerate",
  PySem.W.nsIn K mainGlobals "isinstance",
  PySem.W.nsIn K mainGlobals "dict",
  PySem.W.nsIn K mainGlobals "max",
  PySem.W.nsIn K mainGlobals "min"]
def ov0 : List (Option (Option Value)) := [some (some (.ref 51)), some (some (.ref 31)), some (some (.ref 60)), some (some (.ref 65)), some (some (.ref 72)), some (some (.ref 79)), some (some (.ref 86)), some (some (.ref 100)), some (some (.ref 105)), some (some (.ref 112)), some (some (.ref 119)), some (some (.ref 124)), some (some (.ref 129)), some (some (.builtin "type.__getattribute__")), some (some (.builtin "getset_descriptor.__get__")), some (some (.ref 48)), some (some (.builtin "object.__setattr__")), some none, some (some (.builtin "BaseException.__getattribute__")), some none, some (some (.builtin "object.__class__")), some none, some none, some none, some none, some none, some none, some none, some none, some none]
def ol1 (K : PySem.W.Frag) : List (Option (Option Value)) := [PySem.W.nsIn K mainGlobals "repr",
  PySem.W.nsIn K mainGlobals "ValueError"]
def ov1 : List (Option (Option Value)) := [some none, some none]
def oL (K : PySem.W.Frag) : List (List (Option (Option Value))) := [ol0 K, ol1 K]
def oV : List (List (Option (Option Value))) := [ov0, ov1]
def bl0 (K : PySem.W.Frag) : List (Bool) := [PySem.W.readsIn K 31 (.type "type"),
  clsAt K (.ref 31) (.type "type") "__init__" (.ref 28),
  clsAt K (.type "ValueError") (.type "type") "__init__" (.builtin "ValueError.__init__"),
  oexB K 51,
  PySem.W.keepIn K (.ref 51),
  PySem.W.hasDictIn K 51,
  (PySem.W.clsIn K 51).isSome]
def bv0 : List (Bool) := [true, true, true, true, true, true, true]
def bL (K : PySem.W.Frag) : List (List (Bool)) := [bl0 K]
def bV : List (List (Bool)) := [bv0]
def sl0 (K : PySem.W.Frag) : List (Option Bool) := [PySem.W.takesIn K (.builtin "object.__class__"),
  PySem.W.subIn K (.ref 51) (.type "BaseException"),
  PySem.W.mroIn K 51 (.type "object"),
  PySem.W.subIn K (.ref 51) (.ref 51),
  PySem.W.mroIn K 31 (.type "object"),
  PySem.W.subIn K (.ref 51) (.ref 31)]
def sv0 : List (Option Bool) := [some true, some true, some true, some true, some true, some true]
def sL (K : PySem.W.Frag) : List (List (Option Bool)) := [sl0 K]
def sV : List (List (Option Bool)) := [sv0]
def tl0 (K : PySem.W.Frag) : List (Option Value) := [PySem.W.typeIn K (.ref 48),
  PySem.W.typeIn K (.ref 51),
  PySem.W.typeIn K (.ref 31)]
def tv0 : List (Option Value) := [some (.type "function"), some (.type "type"), some (.type "type")]
def tL (K : PySem.W.Frag) : List (List (Option Value)) := [tl0 K]
def tV : List (List (Option Value)) := [tv0]
def fl0 (K : PySem.W.Frag) : List (He.FnW) := [fnA K 60,
  fnA K 65,
  fnA K 72,
  fnA K 79,
  fnA K 86,
  fnA K 100,
  fnA K 105,
  fnA K 112,
  fnA K 119,
  fnA K 124,
  fnA K 129,
  fnA K 28,
  fnA K 48]
def fv0 : List (He.FnW) := [fnV "named_row" "named_row" s_named_row, fnV "named_clock" "named_clock" s_named_clock, fnV "_law_cell_at" "_law_cell_at" s__law_cell_at, fnV "_law_box" "_law_box" s__law_box, fnV "_law_take" "_law_take" s__law_take, fnV "_law_mixed" "_law_mixed" s__law_mixed, fnV "_law_names" "_law_names" s__law_names, fnV "_law_pairs" "_law_pairs" s__law_pairs, fnV "_law_answer" "_law_answer" s__law_answer, fnV "_law_due" "_law_due" s__law_due, fnV "law" "law" s_law, fnV "__init__" "BeatError.__init__" s_BeatError_init, fnV "__init__" "Twice.__init__" s_Twice_init]
def fL (K : PySem.W.Frag) : List (List (He.FnW)) := [fl0 K]
def fV : List (List (He.FnW)) := [fv0]
def gl0 (K : PySem.W.Frag) : List (Bool) := [fnB K 60 "named_row",
  fnB K 65 "named_clock",
  fnB K 72 "_law_cell_at",
  fnB K 79 "_law_box",
  fnB K 86 "_law_take",
  fnB K 100 "_law_mixed",
  fnB K 105 "_law_names",
  fnB K 112 "_law_pairs",
  fnB K 119 "_law_answer",
  fnB K 124 "_law_due",
  fnB K 129 "law",
  fnB K 28 "BeatError.__init__",
  fnB K 48 "Twice.__init__"]
def gv0 : List (Bool) := [true, true, true, true, true, true, true, true, true, true, true, true, true]
def gL (K : PySem.W.Frag) : List (List (Bool)) := [gl0 K]
def gV : List (List (Bool)) := [gv0]
abbrev AlA : Type := List (List (Option (Option Value))) × List (List (Bool)) × List (List (Option Bool)) × List (List (Option Value))
abbrev AlB : Type := List (List (He.FnW)) × List (List (Bool))
def obA (K : PySem.W.Frag) : AlA := (oL K, bL K, sL K, tL K)
def vA : AlA := (oV, bV, sV, tV)
def obB (K : PySem.W.Frag) : AlB := (fL K, gL K)
def vB : AlB := (fV, gV)
def as0 : List Addr := [3, 2, 31, 30, 51, 50, 60, 59, 65, 64, 72, 71, 79, 78, 86, 85, 100, 99, 105, 104, 112, 111, 119, 118, 124, 123, 129, 128, 28, 27, 48, 47]
def asX : List Addr := as0
abbrev R : PySem.W.OpenRow := PySem.W.OpenLaw.row PySem.Challenge.rw_beatrows_k59_rows_with_other_names
def ln0 : List Str := ["__name__", "BeatError", "Twice", "named_row", "named_clock", "_law_cell_at", "_law_box", "_law_take", "_law_is_whole", "_law_mixed", "_law_names", "_law_pairs", "_law_answer", "_law_due"]
def lns : List Str := ln0
set_option maxHeartbeats 0 in
theorem runA (w : World) (os : OsState) : ((HandSHeadRun.endF (HandSHeadRun.stepQ (HandSHeadRun.denQ HandSHeadRun.tabQ) R.prog w) 2500 R.prog w os)).map (fun s => (HandSHeadRun.looksF R.prog (PySem.W.boot_heap w.params) s.abs, HandSHeadRun.seenQ (PySem.W.view R.prog [16]) lns (importedModules R.prog.main.body) (fun s => PySem.W.xlAt (PySem.W.view R.prog [16]) [] s && PySem.W.recOk R.toRowW.records s) s.abs, obA (He.frG (HandSHeadRun.getT s) asX))) = some (true, PySem.W.openGood (PySem.W.view R.prog [16]) lns, vA) := by
  kernel_rfl
set_option maxHeartbeats 0 in
theorem runB (w : World) (os : OsState) : ((HandSHeadRun.endF (HandSHeadRun.stepQ (HandSHeadRun.denQ HandSHeadRun.tabQ) R.prog w) 2500 R.prog w os)).map (fun s => obB (He.frG (HandSHeadRun.getT s) asX)) = some vB := by
  kernel_rfl
abbrev hk : PySem.W.Hook := hookA asX (fun K => (obA K, obB K)) (vA, vB)
def ob (s : PySem.W.SharedT) : AlA × AlB := (obA (He.frG (HandSHeadRun.getT s) asX), obB (He.frG (HandSHeadRun.getT s) asX))
theorem ob_eq (s : PySem.W.SharedT) : ob s = hk.obs s.abs := hookA_eq (ob := fun K => (obA K, obB K)) (v := (vA, vB)) (as := asX) (HandSHeadRun.getT_eq s)
theorem run (w : World) : HandSHeadRun.RunEq R (PySem.W.view R.prog [16]) hk ob 2500 lns w := fun os => run_pair (runA w os) (runB w os)
end K59
namespace DL
open PySem L2
open Evl (Ex)
abbrev St := L2.St

/-! ### data, and what represents it in a heap -/
inductive D where
  | non | bl (b : Bool) | int (i : Int) | str (x : Str) | ty (n : String) | adr (a : Addr)
  | lst (xs : List D) | tup (xs : List D) | scr (ns : List Int) | dct (kvs : List (Key × D)) | dkv (kvs : List (Key × D)) | exc (a d C : Addr) (fs : List (Str × D)) | obj (C : Addr) (fs : List (Str × D))

mutual
inductive Rep (K : PySem.W.Frag) (G : Hp) : V → D → Prop
  | non : Rep K G .non .non
  | bl (b : Bool) : Rep K G (.bl b) (.bl b)
  | int (i : Int) : Rep K G (.int i) (.int i)
  | str (x : Str) : Rep K G (.str x) (.str x)
  | ty (n : String) : Rep K G (.ty n) (.ty n)
  | adr (a : Addr) : Rep K G (.ref a) (.adr a)
  | lst {a : Addr} {xs : List V} {ds : List D} : G a = some (.lst xs) → RepL K G xs ds → Rep K G (.ref a) (.lst ds)
  | tup {a : Addr} {xs : List V} {ds : List D} : SqT K G a xs → RepL K G xs ds → Rep K G (.ref a) (.tup ds)
  | scr {a : Addr} {ns : List Int} : SqL K G a (ns.map V.int) → Rep K G (.ref a) (.scr ns)
  | dct {a : Addr} {kvs : List (Key × V)} {ds : List (Key × D)} : G a = some (.dK kvs) → RepK K G kvs ds → Rep K G (.ref a) (.dct ds)
  | dkv {a : Addr} {o : Obj} {kvs : List (Key × V)} {ds : List (Key × D)} : G a = some (.frz o (.dK kvs)) → RepK K G kvs ds → Rep K G (.ref a) (.dkv ds)
  | exc {a d C : Addr} {fvs : List (Str × V)} {fs : List (Str × D)} : G d = some (.xd fvs) → RepF K G fvs fs → Rep K G (.ref a) (.exc a d C fs)
  | obj {a C dx : Addr} {fs : List (Str × V)} {ds : List (Str × D)} : G a = some (.ins C dx fs) → RepF K G fs ds → Rep K G (.ref a) (.obj C ds)
inductive RepL (K : PySem.W.Frag) (G : Hp) : List V → List D → Prop
  | nil : RepL K G [] []
  | cons {v : V} {vs : List V} {d : D} {ds : List D} : Rep K G v d → RepL K G vs ds → RepL K G (v :: vs) (d :: ds)
inductive RepK (K : PySem.W.Frag) (G : Hp) : List (Key × V) → List (Key × D) → Prop
  | nil : RepK K G [] []
  | cons {k : Key} {v : V} {vs : List (Key × V)} {d : D} {ds : List (Key × D)} : Rep K G v d → RepK K G vs ds → RepK K G ((k, v) :: vs) ((k, d) :: ds)
inductive RepF (K : PySem.W.Frag) (G : Hp) : List (Str × V) → List (Str × D) → Prop
  | nil : RepF K G [] []
  | cons {k : Str} {v : V} {vs : List (Str × V)} {d : D} {ds : List (Str × D)} : Rep K G v d → RepF K G vs ds → RepF K G ((k, v) :: vs) ((k, d) :: ds)
end

section
variable {K : PySem.W.Frag} {G G' H H' : Hp}
mutual
theorem Rep.mono (e : Ex G G') : ∀ (d : D) (v : V), Rep K G v d → Rep K G' v d
  | .non, _, h => by cases h; exact .non
  | .bl b, _, h => by cases h; exact .bl b
  | .int i, _, h => by cases h; exact .int i
  | .str x, _, h => by cases h; exact .str x
  | .ty n, _, h => by cases h; exact .ty n
  | .adr a, _, h => by cases h; exact .adr a
  | .lst ds, _, h => by cases h with | lst h1 h2 => exact .lst (e _ _ h1) (RepL.mono e ds _ h2)
  | .tup ds, _, h => by cases h with | tup h1 h2 => exact .tup (Evl.ex_t e h1) (RepL.mono e ds _ h2)
  | .scr ns, _, h => by cases h with | scr h1 => exact .scr (Evl.ex_l e h1)
  | .dct ds, _, h => by cases h with | dct h1 h2 => exact .dct (e _ _ h1) (RepK.mono e ds _ h2)
  | .dkv ds, _, h => by cases h with | dkv h1 h2 => exact .dkv (e _ _ h1) (RepK.mono e ds _ h2)
  | .exc a d C ds, _, h => by cases h with | exc h1 h2 => exact .exc (e _ _ h1) (RepF.mono e ds _ h2)
  | .obj C ds, _, h => by cases h with | obj h1 h2 => exact .obj (e _ _ h1) (RepF.mono e ds _ h2)
theorem RepL.mono (e : Ex G G') : ∀ (ds : List D) (vs : List V), RepL K G vs ds → RepL K G' vs ds
  | [], _, h => by cases h; exact .nil
  | d :: ds, _, h => by cases h with | cons h1 h2 => exact .cons (Rep.mono e d _ h1) (RepL.mono e ds _ h2)
theorem RepK.mono (e : Ex G G') : ∀ (ds : List (Key × D)) (vs : List (Key × V)), RepK K G vs ds → RepK K G' vs ds
  | [], _, h => by cases h; exact .nil
  | (k, d) :: ds, _, h => by cases h with | cons h1 h2 => exact .cons (Rep.mono e d _ h1) (RepK.mono e ds _ h2)
theorem RepF.mono (e : Ex G G') : ∀ (ds : List (Str × D)) (vs : List (Str × V)), RepF K G vs ds → RepF K G' vs ds
  | [], _, h => by cases h; exact .nil
  | (k, d) :: ds, _, h => by cases h with | cons h1 h2 => exact .cons (Rep.mono e d _ h1) (RepF.mono e ds _ h2)
end
theorem Rep.up (e : Ex G G') {d : D} {v : V} (h : Rep K G v d) : Rep K G' v d := Rep.mono e d v h
theorem RepK.up (e : Ex G G') {ds : List (Key × D)} {vs : List (Key × V)} (h : RepK K G vs ds) : RepK K G' vs ds := RepK.mono e ds vs h
theorem RepL.up (e : Ex G G') {ds : List D} {vs : List V} (h : RepL K G vs ds) : RepL K G' vs ds := RepL.mono e ds vs h
theorem RepL.length : ∀ {vs : List V} {ds : List D}, RepL K G vs ds → vs.length = ds.length
  | _, _, .nil => rfl
  | _, _, .cons _ t => congrArg (· + 1) (RepL.length t)
theorem RepL.get : ∀ {vs : List V} {ds : List D} {i : Nat} {d : D}, RepL K G vs ds → ds[i]? = some d → ∃ v, vs[i]? = some v ∧ Rep K G v d
  | _, _, _, _, .nil, e => by simp at e
  | _, _, 0, _, .cons r _, e => by simp at e; subst e; exact ⟨_, rfl, r⟩
  | _, _, i + 1, _, .cons _ t, e => by
    obtain ⟨u, h1, h2⟩ := RepL.get (i := i) t (by simpa using e)
    exact ⟨u, by simpa using h1, h2⟩
theorem RepL.getV : ∀ {vs : List V} {ds : List D} {i : Nat} {v : V}, RepL K G vs ds → vs[i]? = some v → ∃ d, ds[i]? = some d ∧ Rep K G v d
  | _, _, _, _, .nil, e => by simp at e
  | _, _, 0, _, .cons r _, e => by simp at e; subst e; exact ⟨_, rfl, r⟩
  | _, _, i + 1, _, .cons _ t, e => by
    obtain ⟨u, h1, h2⟩ := RepL.getV (i := i) t (by simpa using e)
    exact ⟨u, by simpa using h1, h2⟩
theorem RepL.append : ∀ {vs ws : List V} {ds es : List D}, RepL K G vs ds → RepL K G ws es → RepL K G (vs ++ ws) (ds ++ es)
  | _, _, _, _, .nil, s => s
  | _, _, _, _, .cons r t, s => .cons r (RepL.append t s)
theorem RepL.set : ∀ {vs : List V} {ds : List D} (i : Nat) {v : V} {d : D}, Rep K G v d → RepL K G vs ds → RepL K G (vs.set i v) (ds.set i d)
  | _, _, _, _, _, _, .nil => .nil
  | _, _, 0, _, _, r, .cons _ t => .cons r t
  | _, _, i + 1, _, _, r, .cons q t => .cons q (RepL.set i r t)
theorem RepL.drop : ∀ {vs : List V} {ds : List D} (i : Nat), RepL K G vs ds → RepL K G (vs.drop i) (ds.drop i)
  | _, _, 0, h => h
  | _, _, _ + 1, .nil => .nil
  | _, _, i + 1, .cons _ t => RepL.drop i t
theorem RepL.take : ∀ {vs : List V} {ds : List D} (i : Nat), RepL K G vs ds → RepL K G (vs.take i) (ds.take i)
  | _, _, 0, _ => .nil
  | _, _, _ + 1, .nil => .nil
  | _, _, i + 1, .cons r t => .cons r (RepL.take i t)
theorem RepL.ints : ∀ {vs : List V} {ns : List Int}, RepL K G vs (ns.map D.int) → vs = ns.map V.int
  | _, [], h => by cases h; rfl
  | _, n :: ns, h => by
    cases h with
    | cons r t =>
      cases r
      rw [RepL.ints t]
      rfl
theorem RepL.strs : ∀ {vs : List V} {ns : List Str}, RepL K G vs (ns.map D.str) → vs = ns.map V.str
  | _, [], h => by cases h; rfl
  | _, n :: ns, h => by
    cases h with
    | cons r t =>
      cases r
      rw [RepL.strs t]
      rfl
theorem RepL.bls : ∀ {vs : List V} {ns : List Bool}, RepL K G vs (ns.map D.bl) → vs = ns.map V.bl
  | _, [], h => by cases h; rfl
  | _, n :: ns, h => by
    cases h with
    | cons r t =>
      cases r
      rw [RepL.bls t]
      rfl
theorem RepL.ofStrs : ∀ (ns : List Str), RepL K G (ns.map V.str) (ns.map D.str)
  | [] => .nil
  | n :: ns => .cons (.str n) (RepL.ofStrs ns)
theorem RepL.ofInts : ∀ (ns : List Int), RepL K G (ns.map V.int) (ns.map D.int)
  | [] => .nil
  | n :: ns => .cons (.int n) (RepL.ofInts ns)
end

/-! ### slots, frames, states -/
/-- whose a list is: the def's own; a parameter's; one of both -/
inductive Kd where
  | loc | par | any
inductive Sl where
  | un
  | fz (d : D)
  | ow (k : Kd) (ds : List D)
  | od (k : Kd) (kvs : List (Key × D))

abbrev Sls := List Sl

structure Fr where
  G0 : Hp
  H0 : Hp
  P : Addr → Prop

def SlR (K : PySem.W.Frag) (G H : Hp) : Option V → Sl → Prop
  | _, .un => True
  | some v, .fz d => Rep K G v d
  | some v, .ow _ ds => ∃ p vs, v = .ref p ∧ G p = none ∧ H p = some (.lst vs) ∧ RepL K G vs ds
  | some v, .od _ ds => ∃ p vs, v = .ref p ∧ G p = none ∧ H p = some (.dK vs) ∧ RepK K G vs ds
  | none, _ => False

structure FrOk (F : Fr) (G H : Hp) : Prop where
  ex : Ex G H
  old : ∀ a o, F.H0 a = some o → G a = F.G0 a
  kp : ∀ a o, F.H0 a = some o → ¬ F.P a → H a = some o
  th : ∀ a o, F.H0 a = some o → ∃ o', H a = some o'

def OwnK (F : Fr) (p : Addr) : Kd → Prop
  | .loc => F.H0 p = none
  | .par => F.P p
  | .any => F.H0 p = none ∨ F.P p
theorem OwnK.or {F : Fr} {p : Addr} : ∀ {k : Kd}, OwnK F p k → F.H0 p = none ∨ F.P p
  | .loc, h => .inl h
  | .par, h => .inr h
  | .any, h => h
structure SRel (K : PySem.W.Frag) (F : Fr) (G H : Hp) (σ : St) (ρ : Sls) : Prop where
  fr : FrOk F G H
  len : σ.length = ρ.length
  sl : ∀ (i : Nat) (s : Sl) (o : Option V), ρ[i]? = some s → σ[i]? = some o → SlR K G H o s
  dis : ∀ (i j : Nat) (p : Addr) (l m : Kd) (di dj : List D), ρ[i]? = some (.ow l di) → ρ[j]? = some (.ow m dj) → σ[i]? = some (some (.ref p)) → σ[j]? = some (some (.ref p)) → i = j
  own : ∀ (i : Nat) (l : Kd) (ds : List D) (p : Addr), ρ[i]? = some (.ow l ds) → σ[i]? = some (some (.ref p)) → OwnK F p l
  disD : ∀ (i j : Nat) (p : Addr) (l m : Kd) (di dj : List (Key × D)), ρ[i]? = some (.od l di) → ρ[j]? = some (.od m dj) → σ[i]? = some (some (.ref p)) → σ[j]? = some (some (.ref p)) → i = j
  ownD : ∀ (i : Nat) (l : Kd) (ds : List (Key × D)) (p : Addr), ρ[i]? = some (.od l ds) → σ[i]? = some (some (.ref p)) → OwnK F p l

section
variable {K : PySem.W.Frag} {F : Fr} {G G' H H' : Hp} {σ : St} {ρ : Sls}
theorem FrOk.fresh (f : FrOk F G H) {p : Addr} (h : H p = none) : F.H0 p = none := by
  cases e : F.H0 p with
  | none => rfl
  | some o =>
    obtain ⟨o', q⟩ := f.th p o e
    rw [h] at q
    cases q
theorem FrOk.freshG (f : FrOk F G H) {p : Addr} (h : H p = none) : G p = none := by
  cases e : G p with
  | none => rfl
  | some o =>
    rw [f.ex p o e] at h
    cases h
theorem SRel.ex (S : SRel K F G H σ ρ) : Ex G H := S.fr.ex
theorem SRel.fz (S : SRel K F G H σ ρ) {i : Nat} {d : D} (h : ρ[i]? = some (.fz d)) : ∃ v, σ[i]? = some (some v) ∧ Rep K G v d := by
  have hl : i < σ.length := by rw [S.len]; exact (List.getElem?_eq_some_iff.mp h).1
  have e : σ[i]? = some σ[i] := List.getElem?_eq_getElem hl
  have q := S.sl i _ _ h e
  cases hv : σ[i] with
  | none => rw [hv] at q; exact q.elim
  | some v => rw [hv] at q e; exact ⟨v, e, q⟩
theorem SRel.ow (S : SRel K F G H σ ρ) {i : Nat} {l : Kd} {ds : List D} (h : ρ[i]? = some (.ow l ds)) : ∃ p vs, σ[i]? = some (some (.ref p)) ∧ G p = none ∧ H p = some (.lst vs) ∧ RepL K G vs ds := by
  have hl : i < σ.length := by rw [S.len]; exact (List.getElem?_eq_some_iff.mp h).1
  have e : σ[i]? = some σ[i] := List.getElem?_eq_getElem hl
  have q := S.sl i _ _ h e
  cases hv : σ[i] with
  | none => rw [hv] at q; exact q.elim
  | some v =>
    rw [hv] at q e
    obtain ⟨p, vs, rfl, q⟩ := q
    exact ⟨p, vs, e, q⟩
theorem SRel.od (S : SRel K F G H σ ρ) {i : Nat} {l : Kd} {ds : List (Key × D)} (h : ρ[i]? = some (.od l ds)) : ∃ p vs, σ[i]? = some (some (.ref p)) ∧ G p = none ∧ H p = some (.dK vs) ∧ RepK K G vs ds := by
  have hl : i < σ.length := by rw [S.len]; exact (List.getElem?_eq_some_iff.mp h).1
  have e : σ[i]? = some σ[i] := List.getElem?_eq_getElem hl
  have q := S.sl i _ _ h e
  cases hv : σ[i] with
  | none => rw [hv] at q; exact q.elim
  | some v =>
    rw [hv] at q e
    obtain ⟨p, vs, rfl, q⟩ := q
    exact ⟨p, vs, e, q⟩
/-- where no own dict stands -/
def ND (σ : St) (ρ : Sls) (p : Addr) : Prop := ∀ (i : Nat) (l : Kd) (ds : List (Key × D)), ρ[i]? = some (.od l ds) → σ[i]? ≠ some (some (.ref p))
theorem SRel.nd (S : SRel K F G H σ ρ) {p : Addr} (h : ∀ vs, H p ≠ some (.dK vs)) : ND σ ρ p := fun i l ds hi hz => by
  obtain ⟨q, vs, e1, _, e3, _⟩ := S.od hi
  rw [hz] at e1
  cases e1
  exact h vs e3
theorem SRel.ndL (S : SRel K F G H σ ρ) {p : Addr} {vs : List V} (h : H p = some (.lst vs)) : ND σ ρ p := S.nd fun ws z => by rw [h] at z; cases z
theorem SRel.nd0 (S : SRel K F G H σ ρ) {p : Addr} (h : H p = none) : ND σ ρ p := S.nd fun ws z => by rw [h] at z; cases z
theorem SlR.up {o : Option V} {s : Sl} (e : Ex G G') (n : ∀ p, G p = none → (∃ o, H p = some o) → G' p = none) (k : ∀ p o, H p = some o → G p = none → H' p = some o) (h : SlR K G H o s) : SlR K G' H' o s := by
  cases s with
  | un => cases o <;> trivial
  | fz d =>
    cases o with
    | none => exact h
    | some v => exact Rep.up e h
  | ow l ds =>
    cases o with
    | none => exact h
    | some v =>
      obtain ⟨p, vs, rfl, h1, h2, h3⟩ := h
      exact ⟨p, vs, rfl, n p h1 ⟨_, h2⟩, k p _ h2 h1, RepL.up e h3⟩
  | od l ds =>
    cases o with
    | none => exact h
    | some v =>
      obtain ⟨p, vs, rfl, h1, h2, h3⟩ := h
      exact ⟨p, vs, rfl, n p h1 ⟨_, h2⟩, k p _ h2 h1, RepK.up e h3⟩
/-- a new object, not known -/
theorem SRel.alloc (S : SRel K F G H σ ρ) {p : Addr} {o : HO} (h : H p = none) : SRel K F G (upd H p o) σ ρ := by
  have e : Ex H (upd H p o) := Ex.new h
  refine ⟨⟨S.ex.trans e, S.fr.old, fun a u q np => e a u (S.fr.kp a u q np), fun a u q => ?_⟩, S.len, fun i s o h1 h2 => (S.sl i s o h1 h2).up (Ex.refl G) (fun p h _ => h) (fun p o q _ => e p o q), S.dis, S.own, S.disD, S.ownD⟩
  obtain ⟨o', q'⟩ := S.fr.th a u q
  exact ⟨o', e a o' q'⟩
/-- an object that is nobody's own comes to be known -/
theorem SRel.freeze (S : SRel K F G H σ ρ) {p : Addr} {o : HO} (hg : G p = none) (h : H p = some o) (hf : F.H0 p = none) (hn : ∀ (i : Nat) (l : Kd) (ds : List D), ρ[i]? = some (.ow l ds) → σ[i]? ≠ some (some (.ref p))) (hd : ND σ ρ p) : SRel K F (upd G p o) H σ ρ := by
  have e : Ex G (upd G p o) := Ex.new hg
  refine ⟨⟨fun a u q => ?_, fun a u q => ?_, S.fr.kp, S.fr.th⟩, S.len, fun i s w h1 h2 => ?_, S.dis, S.own, S.disD, S.ownD⟩
  · by_cases hp : a = p
    · subst hp
      rw [upd_same] at q
      cases q
      exact h
    · rw [upd_ne hp] at q
      exact S.ex a u q
  · have hp : a ≠ p := fun z => by rw [z, hf] at q; cases q
    rw [upd_ne hp]
    exact S.fr.old a u q
  · have q := S.sl i s w h1 h2
    cases s with
    | un => cases w <;> trivial
    | fz d =>
      cases w with
      | none => exact q
      | some v => exact Rep.up e q
    | ow l ds =>
      cases w with
      | none => exact q
      | some v =>
        obtain ⟨a, vs, rfl, q1, q2, q3⟩ := q
        have ha : a ≠ p := fun z => hn i l ds h1 (by rw [h2, z])
        exact ⟨a, vs, rfl, by rw [upd_ne ha]; exact q1, q2, RepL.up e q3⟩
    | od l ds =>
      cases w with
      | none => exact q
      | some v =>
        obtain ⟨a, vs, rfl, q1, q2, q3⟩ := q
        have ha : a ≠ p := fun z => hd i l ds h1 (by rw [h2, z])
        exact ⟨a, vs, rfl, by rw [upd_ne ha]; exact q1, q2, RepK.up e q3⟩
theorem SRel.notOwn (S : SRel K F G H σ ρ) {p : Addr} (h : H p = none) : ∀ (i : Nat) (l : Kd) (ds : List D), ρ[i]? = some (.ow l ds) → σ[i]? ≠ some (some (.ref p)) := fun i l ds hi hz => by
  obtain ⟨q, vs, e1, _, e3, _⟩ := S.ow hi
  rw [hz] at e1
  cases e1
  rw [h] at e3
  cases e3
/-- a new object, known -/
theorem SRel.new (S : SRel K F G H σ ρ) {p : Addr} {o : HO} (h : H p = none) : SRel K F (upd G p o) (upd H p o) σ ρ :=
  (S.alloc h).freeze (S.fr.freshG h) upd_same (S.fr.fresh h) (S.notOwn h) (S.nd0 h)
/-- a slot's own list is changed -/
theorem SRel.mut (S : SRel K F G H σ ρ) {i : Nat} {l : Kd} {ds es : List D} {p : Addr} {ws : List V} (hi : ρ[i]? = some (.ow l ds)) (hp : σ[i]? = some (some (.ref p))) (hw : RepL K G ws es) :
    SRel K F G (upd H p (.lst ws)) σ (ρ.set i (.ow l es)) := by
  obtain ⟨p', vs, e1, e2, e3, e4⟩ := S.ow hi
  rw [hp] at e1
  cases e1
  have hl : i < ρ.length := (List.getElem?_eq_some_iff.mp hi).1
  have get : ∀ (j : Nat) (s : Sl), (ρ.set i (.ow l es))[j]? = some s → (j = i ∧ s = .ow l es) ∨ (j ≠ i ∧ ρ[j]? = some s) := fun j s h => by
    by_cases hj : j = i
    · subst hj
      rw [List.getElem?_set_self hl] at h
      cases h
      exact .inl ⟨rfl, rfl⟩
    · rw [List.getElem?_set_ne (Ne.symm hj)] at h
      exact .inr ⟨hj, h⟩
  refine ⟨⟨fun a u q => ?_, S.fr.old, fun a u q np => ?_, fun a u q => ?_⟩, by rw [List.length_set]; exact S.len, fun j s w h1 h2 => ?_, fun a b q m n da db h1 h2 h3 h4 => ?_, fun j m da q h1 h2 => ?_, fun a b q m n da db h1 h2 h3 h4 => ?_, fun j m da q h1 h2 => ?_⟩
  · have ha : a ≠ p := fun z => by rw [z, e2] at q; cases q
    rw [upd_ne ha]
    exact S.ex a u q
  · have ha : a ≠ p := fun z => by
      subst z
      rcases (S.own i l ds a hi hp).or with z | z
      · rw [z] at q; cases q
      · exact np z
    rw [upd_ne ha]
    exact S.fr.kp a u q np
  · by_cases ha : a = p
    · subst ha
      exact ⟨_, upd_same⟩
    · rw [upd_ne ha]
      exact S.fr.th a u q
  · rcases get j s h1 with ⟨rfl, rfl⟩ | ⟨hj, h1⟩
    · rw [hp] at h2
      cases h2
      exact ⟨p, ws, rfl, e2, upd_same, hw⟩
    · have q := S.sl j s w h1 h2
      cases s with
      | un => cases w <;> trivial
      | fz d =>
        cases w with
        | none => exact q
        | some v => exact q
      | ow m dj =>
        cases w with
        | none => exact q
        | some v =>
          obtain ⟨a, us, rfl, q1, q2, q3⟩ := q
          have ha : a ≠ p := fun z => by
            subst z
            exact hj (S.dis j i a m l dj ds h1 hi h2 hp)
          exact ⟨a, us, rfl, q1, by rw [upd_ne ha]; exact q2, q3⟩
      | od m dj =>
        cases w with
        | none => exact q
        | some v =>
          obtain ⟨a, us, rfl, q1, q2, q3⟩ := q
          have ha : a ≠ p := fun z => by
            subst z
            rw [e3] at q2
            cases q2
          exact ⟨a, us, rfl, q1, by rw [upd_ne ha]; exact q2, q3⟩
  · have h1' : ∃ m' da', ρ[a]? = some (.ow m' da') := by
      rcases get a _ h1 with ⟨rfl, _⟩ | ⟨_, h⟩
      · exact ⟨_, _, hi⟩
      · exact ⟨_, _, h⟩
    have h2' : ∃ m' da', ρ[b]? = some (.ow m' da') := by
      rcases get b _ h2 with ⟨rfl, _⟩ | ⟨_, h⟩
      · exact ⟨_, _, hi⟩
      · exact ⟨_, _, h⟩
    obtain ⟨_, _, h1'⟩ := h1'
    obtain ⟨_, _, h2'⟩ := h2'
    exact S.dis a b q _ _ _ _ h1' h2' h3 h4
  · rcases get j _ h1 with ⟨rfl, e⟩ | ⟨_, h⟩
    · cases e
      exact S.own j l ds q hi h2
    · exact S.own j m da q h h2
  · rcases get a _ h1 with ⟨_, e⟩ | ⟨_, h1⟩
    · cases e
    · rcases get b _ h2 with ⟨_, e⟩ | ⟨_, h2⟩
      · cases e
      · exact S.disD a b q _ _ _ _ h1 h2 h3 h4
  · rcases get j _ h1 with ⟨_, e⟩ | ⟨_, h⟩
    · cases e
    · exact S.ownD j m da q h h2
/-- a slot is stored: a known thing -/
theorem SRel.set (S : SRel K F G H σ ρ) {i : Nat} {v : V} {d : D} (r : Rep K G v d) : SRel K F G H (σ.set i (some v)) (ρ.set i (.fz d)) := by
  have get : ∀ (j : Nat) (s : Sl), (ρ.set i (.fz d))[j]? = some s → (j = i ∧ s = .fz d) ∨ (j ≠ i ∧ ρ[j]? = some s) := fun j s h => by
    by_cases hj : j = i
    · subst hj
      have hl : j < ρ.length := by
        have := (List.getElem?_eq_some_iff.mp h).1
        rwa [List.length_set] at this
      rw [List.getElem?_set_self hl] at h
      cases h
      exact .inl ⟨rfl, rfl⟩
    · rw [List.getElem?_set_ne (Ne.symm hj)] at h
      exact .inr ⟨hj, h⟩
  have getv : ∀ (j : Nat) (w : Option V), j ≠ i → (σ.set i (some v))[j]? = some w → σ[j]? = some w := fun j w hj h => by
    rw [List.getElem?_set_ne (Ne.symm hj)] at h
    exact h
  refine ⟨S.fr, by rw [List.length_set, List.length_set]; exact S.len, fun j s w h1 h2 => ?_, fun a b q m n da db h1 h2 h3 h4 => ?_, fun j m da q h1 h2 => ?_, fun a b q m n da db h1 h2 h3 h4 => ?_, fun j m da q h1 h2 => ?_⟩
  · rcases get j s h1 with ⟨rfl, rfl⟩ | ⟨hj, h1⟩
    · have hl : j < σ.length := by
        have := (List.getElem?_eq_some_iff.mp h2).1
        rwa [List.length_set] at this
      rw [List.getElem?_set_self hl] at h2
      cases h2
      exact r
    · exact S.sl j s w h1 (getv j w hj h2)
  · rcases get a _ h1 with ⟨_, e⟩ | ⟨ha, h1⟩
    · cases e
    · rcases get b _ h2 with ⟨_, e⟩ | ⟨hb, h2⟩
      · cases e
      · exact S.dis a b q _ _ _ _ h1 h2 (getv a _ ha h3) (getv b _ hb h4)
  · rcases get j _ h1 with ⟨_, e⟩ | ⟨hj, h1⟩
    · cases e
    · exact S.own j m da q h1 (getv j _ hj h2)
  · rcases get a _ h1 with ⟨_, e⟩ | ⟨ha, h1⟩
    · cases e
    · rcases get b _ h2 with ⟨_, e⟩ | ⟨hb, h2⟩
      · cases e
      · exact S.disD a b q _ _ _ _ h1 h2 (getv a _ ha h3) (getv b _ hb h4)
  · rcases get j _ h1 with ⟨_, e⟩ | ⟨hj, h1⟩
    · cases e
    · exact S.ownD j m da q h1 (getv j _ hj h2)
/-- a slot is stored: a list of its own -/
theorem SRel.setO (S : SRel K F G H σ ρ) {i : Nat} {p : Addr} {vs : List V} {ds : List D} (hg : G p = none) (h : H p = some (.lst vs)) (hr : RepL K G vs ds) (hf : F.H0 p = none) (hn : ∀ (i : Nat) (l : Kd) (ds : List D), ρ[i]? = some (.ow l ds) → σ[i]? ≠ some (some (.ref p))) :
    SRel K F G H (σ.set i (some (.ref p))) (ρ.set i (.ow .loc ds)) := by
  have get : ∀ (j : Nat) (s : Sl), (ρ.set i (.ow .loc ds))[j]? = some s → (j = i ∧ s = .ow .loc ds) ∨ (j ≠ i ∧ ρ[j]? = some s) := fun j s h => by
    by_cases hj : j = i
    · subst hj
      have hl : j < ρ.length := by
        have := (List.getElem?_eq_some_iff.mp h).1
        rwa [List.length_set] at this
      rw [List.getElem?_set_self hl] at h
      cases h
      exact .inl ⟨rfl, rfl⟩
    · rw [List.getElem?_set_ne (Ne.symm hj)] at h
      exact .inr ⟨hj, h⟩
  have getv : ∀ (j : Nat) (w : Option V), j ≠ i → (σ.set i (some (V.ref p)))[j]? = some w → σ[j]? = some w := fun j w hj h => by
    rw [List.getElem?_set_ne (Ne.symm hj)] at h
    exact h
  have gets : ∀ (w : Option V), (σ.set i (some (V.ref p)))[i]? = some w → w = some (V.ref p) := fun w h2 => by
    have hl : i < σ.length := by
      have := (List.getElem?_eq_some_iff.mp h2).1
      rwa [List.length_set] at this
    rw [List.getElem?_set_self hl] at h2
    cases h2
    rfl
  refine ⟨S.fr, by rw [List.length_set, List.length_set]; exact S.len, fun j s w h1 h2 => ?_, fun a b q m n da db h1 h2 h3 h4 => ?_, fun j m da q h1 h2 => ?_, fun a b q m n da db h1 h2 h3 h4 => ?_, fun j m da q h1 h2 => ?_⟩
  · rcases get j s h1 with ⟨rfl, rfl⟩ | ⟨hj, h1⟩
    · rw [gets w h2]
      exact ⟨p, vs, rfl, hg, h, hr⟩
    · exact S.sl j s w h1 (getv j w hj h2)
  · rcases get a _ h1 with ⟨rfl, e⟩ | ⟨ha, h1⟩
    · rcases get b _ h2 with ⟨rfl, e⟩ | ⟨hb, h2⟩
      · rfl
      · have e1 := gets _ h3
        cases e1
        exact absurd (getv b _ hb h4) (hn b n db h2)
    · rename_i h1'
      rcases get b _ h2 with ⟨rfl, e⟩ | ⟨hb, h2⟩
      · have e1 := gets _ h4
        cases e1
        exact absurd (getv a _ ha h3) (hn a m da (by assumption))
      · exact S.dis a b q _ _ _ _ h1 h2 (getv a _ ha h3) (getv b _ hb h4)
  · rcases get j _ h1 with ⟨rfl, e⟩ | ⟨hj, h1⟩
    · have e1 := gets _ h2
      cases e1
      cases e
      exact hf
    · exact S.own j m da q h1 (getv j _ hj h2)
  · rcases get a _ h1 with ⟨_, e⟩ | ⟨ha, h1⟩
    · cases e
    · rcases get b _ h2 with ⟨_, e⟩ | ⟨hb, h2⟩
      · cases e
      · exact S.disD a b q _ _ _ _ h1 h2 (getv a _ ha h3) (getv b _ hb h4)
  · rcases get j _ h1 with ⟨_, e⟩ | ⟨hj, h1⟩
    · cases e
    · exact S.ownD j m da q h1 (getv j _ hj h2)
/-- a slot is forgotten -/
theorem SRel.wipe1 (S : SRel K F G H σ ρ) (i : Nat) (w : Option V) : SRel K F G H (σ.set i w) (ρ.set i .un) := by
  have get : ∀ (j : Nat) (s : Sl), (ρ.set i .un)[j]? = some s → (j = i ∧ s = .un) ∨ (j ≠ i ∧ ρ[j]? = some s) := fun j s h => by
    by_cases hj : j = i
    · subst hj
      have hl : j < ρ.length := by
        have := (List.getElem?_eq_some_iff.mp h).1
        rwa [List.length_set] at this
      rw [List.getElem?_set_self hl] at h
      cases h
      exact .inl ⟨rfl, rfl⟩
    · rw [List.getElem?_set_ne (Ne.symm hj)] at h
      exact .inr ⟨hj, h⟩
  have getv : ∀ (j : Nat) (u : Option V), j ≠ i → (σ.set i w)[j]? = some u → σ[j]? = some u := fun j u hj h => by
    rw [List.getElem?_set_ne (Ne.symm hj)] at h
    exact h
  refine ⟨S.fr, by rw [List.length_set, List.length_set]; exact S.len, fun j s u h1 h2 => ?_, fun a b q m n da db h1 h2 h3 h4 => ?_, fun j m da q h1 h2 => ?_, fun a b q m n da db h1 h2 h3 h4 => ?_, fun j m da q h1 h2 => ?_⟩
  · rcases get j s h1 with ⟨rfl, rfl⟩ | ⟨hj, h1⟩
    · cases u <;> trivial
    · exact S.sl j s u h1 (getv j u hj h2)
  · rcases get a _ h1 with ⟨_, e⟩ | ⟨ha, h1⟩
    · cases e
    · rcases get b _ h2 with ⟨_, e⟩ | ⟨hb, h2⟩
      · cases e
      · exact S.dis a b q _ _ _ _ h1 h2 (getv a _ ha h3) (getv b _ hb h4)
  · rcases get j _ h1 with ⟨_, e⟩ | ⟨hj, h1⟩
    · cases e
    · exact S.own j m da q h1 (getv j _ hj h2)
  · rcases get a _ h1 with ⟨_, e⟩ | ⟨ha, h1⟩
    · cases e
    · rcases get b _ h2 with ⟨_, e⟩ | ⟨hb, h2⟩
      · cases e
      · exact S.disD a b q _ _ _ _ h1 h2 (getv a _ ha h3) (getv b _ hb h4)
  · rcases get j _ h1 with ⟨_, e⟩ | ⟨hj, h1⟩
    · cases e
    · exact S.ownD j m da q h1 (getv j _ hj h2)
/-- the same state, told from here on -/
def here (G H : Hp) (σ : St) (ρ : Sls) : Fr := ⟨G, H, fun a => (∃ (i : Nat) (l : Kd) (ds : List D), ρ[i]? = some (.ow l ds) ∧ σ[i]? = some (some (.ref a))) ∨ ∃ (i : Nat) (l : Kd) (ds : List (Key × D)), ρ[i]? = some (.od l ds) ∧ σ[i]? = some (some (.ref a))⟩
def unloc : Sl → Sl
  | .ow _ ds => .ow .any ds
  | .od _ ds => .od .any ds
  | s => s
theorem SRel.reframe (S : SRel K F G H σ ρ) : SRel K (here G H σ ρ) G H σ (ρ.map unloc) := by
  have get : ∀ (j : Nat) (s : Sl), (ρ.map unloc)[j]? = some s → ∃ s', ρ[j]? = some s' ∧ s = unloc s' := fun j s h => by
    rw [List.getElem?_map] at h
    cases e : ρ[j]? with
    | none => rw [e] at h; cases h
    | some s' => rw [e] at h; cases h; exact ⟨s', rfl, rfl⟩
  have geto : ∀ (j : Nat) (l : Kd) (ds : List D), (ρ.map unloc)[j]? = some (.ow l ds) → l = .any ∧ ∃ l', ρ[j]? = some (.ow l' ds) := fun j l ds h => by
    obtain ⟨s', h1, h2⟩ := get j _ h
    cases s' with
    | un => cases h2
    | fz d => cases h2
    | ow l' ds' => cases h2; exact ⟨rfl, l', h1⟩
    | od l' ds' => cases h2
  have getd : ∀ (j : Nat) (l : Kd) (ds : List (Key × D)), (ρ.map unloc)[j]? = some (.od l ds) → l = .any ∧ ∃ l', ρ[j]? = some (.od l' ds) := fun j l ds h => by
    obtain ⟨s', h1, h2⟩ := get j _ h
    cases s' with
    | un => cases h2
    | fz d => cases h2
    | ow l' ds' => cases h2
    | od l' ds' => cases h2; exact ⟨rfl, l', h1⟩
  refine ⟨⟨S.ex, fun a o _ => rfl, fun a o h _ => h, fun a o h => ⟨o, h⟩⟩, by rw [List.length_map]; exact S.len, fun j s w h1 h2 => ?_, fun a b q m n da db h1 h2 h3 h4 => ?_, fun j m da q h1 h2 => ?_, fun a b q m n da db h1 h2 h3 h4 => ?_, fun j m da q h1 h2 => ?_⟩
  · obtain ⟨s', h1', rfl⟩ := get j s h1
    have q := S.sl j s' w h1' h2
    cases s' with
    | un => exact q
    | fz d => exact q
    | ow l ds => cases w <;> exact q
    | od l ds => cases w <;> exact q
  · obtain ⟨_, _, h1⟩ := geto a _ _ h1
    obtain ⟨_, _, h2⟩ := geto b _ _ h2
    exact S.dis a b q _ _ _ _ h1 h2 h3 h4
  · obtain ⟨e, l', h1'⟩ := geto j _ _ h1
    subst e
    exact .inr (.inl ⟨j, l', da, h1', h2⟩)
  · obtain ⟨_, _, h1⟩ := getd a _ _ h1
    obtain ⟨_, _, h2⟩ := getd b _ _ h2
    exact S.disD a b q _ _ _ _ h1 h2 h3 h4
  · obtain ⟨e, l', h1'⟩ := getd j _ _ h1
    subst e
    exact .inr (.inr ⟨j, l', da, h1', h2⟩)
theorem FrOk.back (S : SRel K F G H σ ρ) (T : FrOk (here G H σ ρ) G' H') : FrOk F G' H' := by
  refine ⟨T.ex, fun a o h => ?_, fun a o h np => ?_, fun a o h => ?_⟩
  · obtain ⟨o', q⟩ := S.fr.th a o h
    exact (T.old a o' q).trans (S.fr.old a o h)
  · have q := S.fr.kp a o h np
    refine T.kp a o q ?_
    rintro (⟨i, l, ds, h1, h2⟩ | ⟨i, l, ds, h1, h2⟩)
    · rcases (S.own i l ds a h1 h2).or with z | z
      · rw [h] at z; cases z
      · exact np z
    · rcases (S.ownD i l ds a h1 h2).or with z | z
      · rw [h] at z; cases z
      · exact np z
  · obtain ⟨o', q⟩ := S.fr.th a o h
    exact T.th a o' q
theorem FrOk.grow (T : FrOk (here G H σ ρ) G' H') (e : Ex G H) : Ex G G' := fun a o h => by
  rw [T.old a o (e a o h)]
  exact h
end
end DL
namespace DL
open PySem L2
open Evl (Ex)

/-! ### judgements over data -/
section
variable (K : PySem.W.Frag) (F : Fr)
def wE (te : TE) (ρ : Sls) (P : Sls → D → Prop) : Prop := ∀ (σ : St) (G H : Hp), SRel K F G H σ ρ → ∀ Q : VK,
  (∀ (v : V) (d : D) (ρ' : Sls) (G' H' : Hp), P ρ' d → SRel K F G' H' σ ρ' → Rep K G' v d → Ex G G' → Q v H') → te σ H Q
def wT (tt : TT) (ρ : Sls) (P : Sls → Bool → Prop) : Prop := ∀ (σ : St) (G H : Hp), SRel K F G H σ ρ → ∀ Q : Bool → Hp → Prop,
  (∀ (b : Bool) (ρ' : Sls) (G' H' : Hp), P ρ' b → SRel K F G' H' σ ρ' → Ex G G' → Q b H') → tt σ H Q
def wA (ta : TA) (ρ : Sls) (P : Sls → List D → Prop) : Prop := ∀ (σ : St) (G H : Hp), SRel K F G H σ ρ → ∀ Q : List V → Hp → Prop,
  (∀ (vs : List V) (ds : List D) (ρ' : Sls) (G' H' : Hp), P ρ' ds → SRel K F G' H' σ ρ' → RepL K G' vs ds → Ex G G' → Q vs H') → ta σ H Q
/-- a new list of its own -/
structure Own (G H : Hp) (σ : St) (ρ : Sls) (p : Addr) (vs : List V) (ds : List D) : Prop where
  g : G p = none
  h : H p = some (.lst vs)
  r : RepL K G vs ds
  f : F.H0 p = none
  n : ∀ (i : Nat) (l : Kd) (ds : List D), ρ[i]? = some (.ow l ds) → σ[i]? ≠ some (some (.ref p))
def wO (te : TE) (ρ : Sls) (P : Sls → List D → Prop) : Prop := ∀ (σ : St) (G H : Hp), SRel K F G H σ ρ → ∀ Q : VK,
  (∀ (p : Addr) (vs : List V) (ds : List D) (ρ' : Sls) (G' H' : Hp), P ρ' ds → SRel K F G' H' σ ρ' → Own K F G' H' σ ρ' p vs ds → Ex G G' → Q (.ref p) H') → te σ H Q
/-- an operation on values -/
def wR (r : R2) (x y : D) (ρ : Sls) (P : Sls → D → Prop) : Prop := ∀ (σ : St) (G H : Hp) (vx vy : V), SRel K F G H σ ρ → Rep K G vx x → Rep K G vy y → ∀ Q : VK,
  (∀ (v : V) (d : D) (ρ' : Sls) (G' H' : Hp), P ρ' d → SRel K F G' H' σ ρ' → Rep K G' v d → Ex G G' → Q v H') → r vx vy H Q
def wRO (r : R2) (x y : D) (ρ : Sls) (P : Sls → List D → Prop) : Prop := ∀ (σ : St) (G H : Hp) (vx vy : V), SRel K F G H σ ρ → Rep K G vx x → Rep K G vy y → ∀ Q : VK,
  (∀ (p : Addr) (vs : List V) (ds : List D) (ρ' : Sls) (G' H' : Hp), P ρ' ds → SRel K F G' H' σ ρ' → Own K F G' H' σ ρ' p vs ds → Ex G G' → Q (.ref p) H') → r vx vy H Q
def wC (r : List V → Hp → VK → Prop) (xs : List D) (ρ : Sls) (P : Sls → D → Prop) : Prop := ∀ (σ : St) (G H : Hp) (vs : List V), SRel K F G H σ ρ → RepL K G vs xs → ∀ Q : VK,
  (∀ (v : V) (d : D) (ρ' : Sls) (G' H' : Hp), P ρ' d → SRel K F G' H' σ ρ' → Rep K G' v d → Ex G G' → Q v H') → r vs H Q
def wCO (r : List V → Hp → VK → Prop) (xs : List D) (ρ : Sls) (P : Sls → List D → Prop) : Prop := ∀ (σ : St) (G H : Hp) (vs : List V), SRel K F G H σ ρ → RepL K G vs xs → ∀ Q : VK,
  (∀ (p : Addr) (ws : List V) (ds : List D) (ρ' : Sls) (G' H' : Hp), P ρ' ds → SRel K F G' H' σ ρ' → Own K F G' H' σ ρ' p ws ds → Ex G G' → Q (.ref p) H') → r vs H Q
/-- a target -/
def wG (g : TG) (x : D) (ρ : Sls) (P : Sls → Prop) : Prop := ∀ (σ : St) (G H : Hp) (v : V), SRel K F G H σ ρ → Rep K G v x → ∀ Q : St → Hp → Prop,
  (∀ (ρ' : Sls) (σ' : St) (G' H' : Hp), P ρ' → SRel K F G' H' σ' ρ' → Ex G G' → Q σ' H') → g v σ H Q
structure Out where
  nx : Sls → Prop
  rt : Sls → D → Prop
  ro : Sls → List D → Prop := fun _ _ => False
  bk : Sls → Prop := fun _ => False
  ct : Sls → Prop := fun _ => False
structure DOk (G0 : Hp) (D1 : Ends) (O : Out) : Prop where
  nx : ∀ (ρ : Sls) (σ : St) (G H : Hp), O.nx ρ → SRel K F G H σ ρ → Ex G0 G → D1.nx σ H
  rt : ∀ (ρ : Sls) (σ : St) (G H : Hp) (v : V) (d : D), O.rt ρ d → SRel K F G H σ ρ → Ex G0 G → Rep K G v d → D1.rt v H
  ro : ∀ (ρ : Sls) (σ : St) (G H : Hp) (p : Addr) (vs : List V) (ds : List D), O.ro ρ ds → SRel K F G H σ ρ → Ex G0 G → G p = none → H p = some (.lst vs) → RepL K G vs ds → F.H0 p = none → D1.rt (.ref p) H
  bk : ∀ (ρ : Sls) (σ : St) (G H : Hp), O.bk ρ → SRel K F G H σ ρ → Ex G0 G → D1.bk σ H
  ct : ∀ (ρ : Sls) (σ : St) (G H : Hp), O.ct ρ → SRel K F G H σ ρ → Ex G0 G → D1.ct σ H
def wS (ts : TS) (ρ : Sls) (O : Out) : Prop := ∀ (σ : St) (G H : Hp), SRel K F G H σ ρ → ∀ D1 : Ends, DOk K F G D1 O → ts D1 σ H
end

section
variable {K : PySem.W.Frag} {F : Fr} {ρ : Sls} {P : Sls → D → Prop} {te ta tb : TE} {r : R2} {x y : D}

theorem wE_mono {P' : Sls → D → Prop} (h : wE K F te ρ P) (m : ∀ ρ d, P ρ d → P' ρ d) : wE K F te ρ P' := fun σ G H S Q q => h σ G H S Q fun v d ρ' G' H' p => q v d ρ' G' H' (m _ _ p)
theorem wT_mono {tt : TT} {P P' : Sls → Bool → Prop} (h : wT K F tt ρ P) (m : ∀ ρ d, P ρ d → P' ρ d) : wT K F tt ρ P' := fun σ G H S Q q => h σ G H S Q fun v d ρ' G' p => q v d ρ' G' (m _ _ p)
theorem wA_mono {ta : TA} {P P' : Sls → List D → Prop} (h : wA K F ta ρ P) (m : ∀ ρ d, P ρ d → P' ρ d) : wA K F ta ρ P' := fun σ G H S Q q => h σ G H S Q fun v d ρ' G' H' p => q v d ρ' G' H' (m _ _ p)
theorem wO_mono {P P' : Sls → List D → Prop} (h : wO K F te ρ P) (m : ∀ ρ d, P ρ d → P' ρ d) : wO K F te ρ P' := fun σ G H S Q q => h σ G H S Q fun v ws d ρ' G' H' p => q v ws d ρ' G' H' (m _ _ p)
theorem wG_mono {g : TG} {x : D} {P P' : Sls → Prop} (h : wG K F g x ρ P) (m : ∀ ρ, P ρ → P' ρ) : wG K F g x ρ P' := fun σ G H v S r Q q => h σ G H v S r Q fun ρ' σ' G' H' p => q ρ' σ' G' H' (m _ p)
theorem wS_mono {ts : TS} {O O' : Out} (h : wS K F ts ρ O) (nx : ∀ ρ, O.nx ρ → O'.nx ρ) (rt : ∀ ρ d, O.rt ρ d → O'.rt ρ d) (ro : ∀ ρ d, O.ro ρ d → O'.ro ρ d) (bk : ∀ ρ, O.bk ρ → O'.bk ρ) (ct : ∀ ρ, O.ct ρ → O'.ct ρ) : wS K F ts ρ O' := fun σ G H S D1 q =>
  h σ G H S D1 ⟨fun a b c d e => q.nx a b c d (nx _ e), fun a b c d e f g => q.rt a b c d e f (rt _ _ g), fun a b c d e f g i => q.ro a b c d e f g (ro _ _ i), fun a b c d e => q.bk a b c d (bk _ e), fun a b c d e => q.ct a b c d (ct _ e)⟩

/-! names, constants -/
theorem wE_var {i : Nat} {d : D} (h : ρ[i]? = some (.fz d)) (p : P ρ d) : wE K F (tVar i) ρ P := fun σ G H S Q q => by
  obtain ⟨v, e, r⟩ := S.fz h
  exact ⟨v, e, q v d ρ G H p S r (Ex.refl G)⟩
theorem wE_int {i : Int} (p : P ρ (.int i)) : wE K F (tC (.int i)) ρ P := fun σ G H S Q q => q _ _ ρ G H p S (.int i) (Ex.refl G)
theorem wE_bl {i : Bool} (p : P ρ (.bl i)) : wE K F (tC (.bl i)) ρ P := fun σ G H S Q q => q _ _ ρ G H p S (.bl i) (Ex.refl G)
theorem wE_str {i : Str} (p : P ρ (.str i)) : wE K F (tC (.str i)) ρ P := fun σ G H S Q q => q _ _ ρ G H p S (.str i) (Ex.refl G)
theorem wE_non (p : P ρ .non) : wE K F (tC .non) ρ P := fun σ G H S Q q => q _ _ ρ G H p S .non (Ex.refl G)
theorem wE_ty {n : String} (p : P ρ (.ty n)) : wE K F (tC (.ty n)) ρ P := fun σ G H S Q q => q _ _ ρ G H p S (.ty n) (Ex.refl G)
theorem wE_con {v : V} {d : D} (hc : ∀ G, Rep K G v d) (p : P ρ d) : wE K F (tC v) ρ P := fun σ G H S Q q => q _ _ ρ G H p S (hc G) (Ex.refl G)
/-- an own list is taken as it stands from now on -/
theorem SRel.freezeAt {G H : Hp} {σ : St} (S : SRel K F G H σ ρ) {i : Nat} {ds : List D} (h : ρ[i]? = some (.ow .loc ds)) : ∃ p vs G', σ[i]? = some (some (.ref p)) ∧ SRel K F G' H σ (ρ.set i (.fz (.lst ds))) ∧ Ex G G' ∧ G' p = some (.lst vs) ∧ RepL K G' vs ds := by
  obtain ⟨p, vs, e, hg, hh, hr⟩ := S.ow h
  have hf : F.H0 p = none := S.own i .loc ds p h e
  have S1 : SRel K F G H σ (ρ.set i .un) := by
    have q := S.wipe1 i (some (.ref p))
    have e1 : σ.set i (some (.ref p)) = σ := by
      apply List.ext_getElem?
      intro j
      by_cases hj : j = i
      · subst hj
        rw [List.getElem?_set_self (List.getElem?_eq_some_iff.mp e).1, e]
      · rw [List.getElem?_set_ne (Ne.symm hj)]
    rw [e1] at q
    exact q
  have hn : ∀ (j : Nat) (l : Kd) (es : List D), (ρ.set i .un)[j]? = some (.ow l es) → σ[j]? ≠ some (some (.ref p)) := fun j l es h1 h2 => by
    by_cases hj : j = i
    · subst hj
      rw [List.getElem?_set_self (List.getElem?_eq_some_iff.mp h).1] at h1
      cases h1
    · rw [List.getElem?_set_ne (Ne.symm hj)] at h1
      exact hj (S.dis j i p l .loc es ds h1 h h2 e)
  have S2 := S1.freeze (o := .lst vs) hg hh hf hn (S1.ndL hh)
  have ex : Ex G (upd G p (.lst vs)) := Ex.new hg
  have S3 := S2.set (i := i) (v := .ref p) (d := .lst ds) (.lst upd_same (RepL.up ex hr))
  have e1 : σ.set i (some (.ref p)) = σ := by
    apply List.ext_getElem?
    intro j
    by_cases hj : j = i
    · subst hj
      rw [List.getElem?_set_self (List.getElem?_eq_some_iff.mp e).1, e]
    · rw [List.getElem?_set_ne (Ne.symm hj)]
  rw [e1, List.set_set] at S3
  exact ⟨p, vs, _, e, S3, ex, upd_same, RepL.up ex hr⟩
theorem wE_varF {i : Nat} {ds : List D} (h : ρ[i]? = some (.ow .loc ds)) (p : P (ρ.set i (.fz (.lst ds))) (.lst ds)) : wE K F (tVar i) ρ P := fun σ G H S Q q => by
  obtain ⟨a, vs, G', e, S', ex, hg, hr⟩ := S.freezeAt h
  exact ⟨.ref a, e, q _ _ _ G' H p S' (.lst hg hr) ex⟩
/-- an own list made is taken as a thing -/
theorem Own.freeze {G H : Hp} {σ : St} {p : Addr} {vs : List V} {ds : List D} (S : SRel K F G H σ ρ) (o : Own K F G H σ ρ p vs ds) : ∃ G', SRel K F G' H σ ρ ∧ Ex G G' ∧ Rep K G' (.ref p) (.lst ds) :=
  ⟨upd G p (.lst vs), S.freeze o.g o.h o.f o.n (S.ndL o.h), Ex.new o.g, .lst upd_same (RepL.up (Ex.new o.g) o.r)⟩
theorem wE_ofO (h : wO K F te ρ fun ρ' ds => P ρ' (.lst ds)) : wE K F te ρ P := fun σ G H S Q q => h σ G H S Q fun p vs ds ρ' G' H' pp S' o ex => by
  obtain ⟨G2, S2, e2, r2⟩ := o.freeze S'
  exact q _ _ ρ' G2 H' pp S2 r2 (ex.trans e2)
theorem wRO_E (h : wRO K F r x y ρ fun ρ' ds => P ρ' (.lst ds)) : wR K F r x y ρ P := fun σ G H vx vy S rx ry Q q => h σ G H vx vy S rx ry Q fun p vs ds ρ' G' H' pp S' o ex => by
  obtain ⟨G2, S2, e2, r2⟩ := o.freeze S'
  exact q _ _ ρ' G2 H' pp S2 r2 (ex.trans e2)

/-! operators -/
theorem wE_op (h : wE K F ta ρ fun ρ1 x => wE K F tb ρ1 fun ρ2 y => wR K F r x y ρ2 P) : wE K F (tOp r ta tb) ρ P := fun σ G H S Q q =>
  h σ G H S _ fun vx x ρ1 G1 H1 h1 S1 r1 e1 => h1 σ G1 H1 S1 _ fun vy y ρ2 G2 H2 h2 S2 r2 e2 =>
    h2 σ G2 H2 vx vy S2 (r1.up e2) r2 Q fun v d ρ' G' H' p S' r' e' => q v d ρ' G' H' p S' r' ((e1.trans e2).trans e')
theorem wO_op {P : Sls → List D → Prop} (h : wE K F ta ρ fun ρ1 x => wE K F tb ρ1 fun ρ2 y => wRO K F r x y ρ2 P) : wO K F (tOp r ta tb) ρ P := fun σ G H S Q q =>
  h σ G H S _ fun vx x ρ1 G1 H1 h1 S1 r1 e1 => h1 σ G1 H1 S1 _ fun vy y ρ2 G2 H2 h2 S2 r2 e2 =>
    h2 σ G2 H2 vx vy S2 (r1.up e2) r2 Q fun p vs d ρ' G' H' pp S' r' e' => q p vs d ρ' G' H' pp S' r' ((e1.trans e2).trans e')
theorem wR_I0 {g : Int → Int → Int} {i j : Int} (p : P ρ (.int (g i j))) : wR K F (rI0 fun i j => .int (g i j)) (.int i) (.int j) ρ P := fun σ G H vx vy S rx ry Q q => by
  cases rx
  cases ry
  exact ⟨i, j, rfl, rfl, q _ _ ρ G H p S (.int _) (Ex.refl G)⟩
theorem wR_B0 {g : Int → Int → Bool} {i j : Int} (p : P ρ (.bl (g i j))) : wR K F (rI0 fun i j => .bl (g i j)) (.int i) (.int j) ρ P := fun σ G H vx vy S rx ry Q q => by
  cases rx
  cases ry
  exact ⟨i, j, rfl, rfl, q _ _ ρ G H p S (.bl _) (Ex.refl G)⟩
theorem wR_I {C : Int → Int → Prop} {g : Int → Int → Int} {i j : Int} (hc : C i j) (p : P ρ (.int (g i j))) : wR K F (rI C fun i j => .int (g i j)) (.int i) (.int j) ρ P := fun σ G H vx vy S rx ry Q q => by
  cases rx
  cases ry
  exact ⟨i, j, rfl, rfl, hc, q _ _ ρ G H p S (.int _) (Ex.refl G)⟩
/-! data that == goes through -/
mutual
def toPy : D → Option PyData
  | .non => some .none
  | .bl b => some (.bool b)
  | .int i => some (.int i)
  | .str x => some (.str x)
  | .lst xs => (toPyL xs).map .list
  | .tup xs => (toPyL xs).map .tuple
  | .scr _ => none
  | .ty _ => none
  | .adr _ => none
  | .dct _ => none
  | .dkv _ => none
  | .exc _ _ _ _ => none
  | .obj _ _ => none
def toPyL : List D → Option (List PyData)
  | [] => some []
  | d :: ds => match toPy d, toPyL ds with
    | some p, some ps => some (p :: ps)
    | _, _ => none
end
mutual
theorem Rep.dp {G H : Hp} (ex : Ex G H) : ∀ (d : D) (v : V) (p : PyData), Rep K G v d → toPy d = some p → Dp K H v p
  | .non, _, _, h, e => by cases h; simp [toPy] at e; subst e; exact .non
  | .bl b, _, _, h, e => by cases h; simp [toPy] at e; subst e; exact .bl b
  | .int b, _, _, h, e => by cases h; simp [toPy] at e; subst e; exact .int b
  | .str b, _, _, h, e => by cases h; simp [toPy] at e; subst e; exact .str b
  | .lst ds, _, _, h, e => by
    cases h with
    | lst h1 h2 =>
      simp only [toPy, Option.map_eq_some_iff] at e
      obtain ⟨ps, e1, rfl⟩ := e
      exact .lst (SqL.of (ex _ _ h1)) (RepL.dp ex ds _ ps h2 e1)
  | .tup ds, _, _, h, e => by
    cases h with
    | tup h1 h2 =>
      simp only [toPy, Option.map_eq_some_iff] at e
      obtain ⟨ps, e1, rfl⟩ := e
      exact .tup (Evl.ex_t ex h1) (RepL.dp ex ds _ ps h2 e1)
  | .scr _, _, _, _, e => by simp [toPy] at e
  | .ty _, _, _, _, e => by simp [toPy] at e
  | .adr _, _, _, _, e => by simp [toPy] at e
  | .dct _, _, _, _, e => by simp [toPy] at e
  | .dkv _, _, _, _, e => by simp [toPy] at e
  | .exc _ _ _ _, _, _, _, e => by simp [toPy] at e
  | .obj _ _, _, _, _, e => by simp [toPy] at e
theorem RepL.dp {G H : Hp} (ex : Ex G H) : ∀ (ds : List D) (vs : List V) (ps : List PyData), RepL K G vs ds → toPyL ds = some ps → DpAll K H vs ps
  | [], _, _, h, e => by cases h; simp [toPyL] at e; subst e; exact .nil
  | d :: ds, _, _, h, e => by
    cases h with
    | cons h1 h2 =>
      rw [toPyL] at e
      cases e1 : toPy d with
      | none => rw [e1] at e; cases e
      | some p =>
        cases e2 : toPyL ds with
        | none => rw [e1, e2] at e; cases e
        | some ps =>
          rw [e1, e2] at e
          cases e
          exact .cons (Rep.dp ex d _ p h1 e1) (RepL.dp ex ds _ ps h2 e2)
end
theorem wR_eqD {a b : PyData} (h1 : toPy x = some a) (h2 : toPy y = some b) (s1 : SeqAt.shaped a = true) (s2 : SeqAt.shaped b = true) (p : P ρ (.bl (PyData.eqv a b))) : wR K F (rEqD K) x y ρ P := fun σ G H vx vy S rx ry Q q =>
  ⟨a, b, Rep.dp S.ex x vx a rx h1, Rep.dp S.ex y vy b ry h2, s1, s2, q _ _ ρ G H p S (.bl _) (Ex.refl G)⟩
theorem wR_neD {a b : PyData} (h1 : toPy x = some a) (h2 : toPy y = some b) (s1 : SeqAt.shaped a = true) (s2 : SeqAt.shaped b = true) (p : P ρ (.bl (!PyData.eqv a b))) : wR K F (rNeD K) x y ρ P := fun σ G H vx vy S rx ry Q q =>
  ⟨a, b, Rep.dp S.ex x vx a rx h1, Rep.dp S.ex y vy b ry h2, s1, s2, q _ _ ρ G H p S (.bl _) (Ex.refl G)⟩
/-- is None -/
def isN : D → Bool
  | .non => true
  | _ => false
theorem Rep.isN {G : Hp} {v : V} {d : D} (h : Rep K G v d) : decide (v = .non) = DL.isN d := by
  cases h <;> first | rfl | (exact decide_eq_false (fun z => nomatch z))
theorem wR_isN (p : P ρ (.bl (isN x))) : wR K F (fun x y H Q => y = .non ∧ Q (.bl (decide (x = .non))) H) x .non ρ P := fun σ G H vx vy S rx ry Q q => by
  cases ry
  refine ⟨rfl, ?_⟩
  rw [rx.isN]
  exact q _ _ ρ G H p S (.bl _) (Ex.refl G)
theorem wR_notN (p : P ρ (.bl (!isN x))) : wR K F (fun x y H Q => y = .non ∧ Q (.bl (!decide (x = .non))) H) x .non ρ P := fun σ G H vx vy S rx ry Q q => by
  cases ry
  refine ⟨rfl, ?_⟩
  rw [rx.isN]
  exact q _ _ ρ G H p S (.bl _) (Ex.refl G)
/-- items -/
theorem atI_rep {G : Hp} {vs : List V} {ds : List D} {i : Int} {d : D} (h : RepL K G vs ds) (e : atI ds i = some d) : ∃ v, atI vs i = some v ∧ Rep K G v d := by
  unfold atI at e ⊢
  rw [h.length]
  cases q : ixN ds.length i with
  | none => rw [q] at e; cases e
  | some j =>
    rw [q] at e
    obtain ⟨v, h1, h2⟩ := h.get (i := j) (by simpa using e)
    exact ⟨v, by simpa using h1, h2⟩
theorem wR_ixL {ds : List D} {i : Int} {d : D} (h : atI ds i = some d) (p : P ρ d) : wR K F (rIxL K) (.lst ds) (.int i) ρ P := fun σ G H vx vy S rx ry Q q => by
  cases ry
  cases rx with
  | lst h1 h2 =>
    obtain ⟨v, e, r⟩ := atI_rep h2 h
    exact ⟨_, _, i, v, rfl, rfl, SqL.of (S.ex _ _ h1), e, q _ _ ρ G H p S r (Ex.refl G)⟩
theorem wR_ixT {ds : List D} {i : Int} {d : D} (h : atI ds i = some d) (p : P ρ d) : wR K F (rIxT K) (.tup ds) (.int i) ρ P := fun σ G H vx vy S rx ry Q q => by
  cases ry
  cases rx with
  | tup h1 h2 =>
    obtain ⟨v, e, r⟩ := atI_rep h2 h
    exact ⟨_, _, i, v, rfl, rfl, Evl.ex_t S.ex h1, e, q _ _ ρ G H p S r (Ex.refl G)⟩
theorem atI_of {α : Type} {ds : List α} {i : Int} (h0 : 0 ≤ i) (h1 : i < (ds.length : Int)) : ∃ d, d ∈ ds ∧ atI ds i = some d := by
  have hl : i.toNat < ds.length := by omega
  refine ⟨ds[i.toNat], List.getElem_mem hl, ?_⟩
  have e : i = (i.toNat : Int) := by omega
  conv => lhs; rw [e]
  exact atI_nat (List.getElem?_eq_getElem hl)
/-- an item of a written list at a drawn place -/
theorem wR_ixLAll {ds : List D} {i : Int} (h0 : 0 ≤ i) (h1 : i < (ds.length : Int)) (p : ∀ d, d ∈ ds → P ρ d) : wR K F (rIxL K) (.lst ds) (.int i) ρ P := by
  obtain ⟨d, hm, e⟩ := atI_of h0 h1
  exact wR_ixL e (p d hm)
theorem wR_ixScr {ns : List Int} {i : Int} {n : Int} (h : atI ns i = some n) (p : P ρ (.int n)) : wR K F (rIxL K) (.scr ns) (.int i) ρ P := fun σ G H vx vy S rx ry Q q => by
  cases ry
  cases rx with
  | scr h1 =>
    refine ⟨_, _, i, .int n, rfl, rfl, Evl.ex_l S.ex h1, ?_, q _ _ ρ G H p S (.int n) (Ex.refl G)⟩
    unfold atI at h ⊢
    rw [List.length_map]
    cases e : ixN ns.length i with
    | none => rw [e] at h; cases h
    | some j =>
      rw [e] at h
      simp only [Option.bind_some] at h ⊢
      rw [List.getElem?_map, h]
      rfl
/-- an item of an own list -/
theorem wE_ixO {i : Nat} {l : Kd} {ds : List D} (h : ρ[i]? = some (.ow l ds)) (hb : wE K F tb ρ fun ρ2 y => ∃ (k : Int) (ds2 : List D) (d : D), y = .int k ∧ ρ2[i]? = some (.ow l ds2) ∧ atI ds2 k = some d ∧ P ρ2 d) : wE K F (tOp (rIxL K) (tVar i) tb) ρ P := fun σ G H S Q q => by
  obtain ⟨p, vs, e, hg, hh, hr⟩ := S.ow h
  refine ⟨.ref p, e, hb σ G H S _ fun vy y ρ2 G2 H2 hp S2 r2 e2 => ?_⟩
  obtain ⟨k, ds2, d, rfl, hi2, ha, pp⟩ := hp
  obtain ⟨p2, vs2, e', hg2, hh2, hr2⟩ := S2.ow hi2
  rw [e] at e'
  cases e'
  cases r2
  obtain ⟨v, ev, rv⟩ := atI_rep hr2 ha
  exact ⟨p, vs2, k, v, rfl, rfl, SqL.of hh2, ev, q _ _ ρ2 G2 H2 pp S2 rv e2⟩

/-- a truth -/
def onB (P : Bool → Prop) : D → Prop
  | .bl b => P b
  | _ => False
theorem onB_bl {P : Bool → Prop} {b : Bool} (p : P b) : onB P (.bl b) := p
theorem onB_ex {P : Bool → Prop} : ∀ {d : D}, onB P d → ∃ b, d = .bl b ∧ P b
  | .bl b, h => ⟨b, rfl, h⟩
  | .non, h => h.elim
  | .int _, h => h.elim
  | .str _, h => h.elim
  | .ty _, h => h.elim
  | .adr _, h => h.elim
  | .lst _, h => h.elim
  | .tup _, h => h.elim
  | .scr _, h => h.elim
  | .dct _, h => h.elim
  | .obj _ _, h => h.elim
/-- two ways, told apart by a truth -/
structure Ways (b : Bool) (A B : Prop) : Prop where
  yes : b = true → A
  no : b = false → B
theorem ways {b : Bool} {A B : Prop} (h1 : b = true → A) (h2 : b = false → B) : Ways b A B := ⟨h1, h2⟩
theorem ways_t {A B : Prop} (h1 : A) : Ways true A B := ⟨fun _ => h1, fun z => (nomatch z)⟩
theorem ways_f {A B : Prop} (h1 : B) : Ways false A B := ⟨fun z => (nomatch z), fun _ => h1⟩
theorem ways_not {b : Bool} {A B : Prop} (h : Ways b B A) : Ways (!b) A B := by
  cases b with
  | true => exact ways_f (h.yes rfl)
  | false => exact ways_t (h.no rfl)
theorem ways_dec {p : Prop} {h : Decidable p} {A B : Prop} (h1 : p → A) (h2 : ¬ p → B) : Ways (@decide p h) A B := ⟨fun z => h1 (of_decide_eq_true z), fun z => h2 (of_decide_eq_false z)⟩
theorem ways_ev_t {b : Bool} {A B : Prop} (e : b = true) (h : A) : Ways b A B := by rw [e]; exact ways_t h
theorem ways_ev_f {b : Bool} {A B : Prop} (e : b = false) (h : B) : Ways b A B := by rw [e]; exact ways_f h
theorem ways_same {b : Bool} {A : Prop} (h : A) : Ways b A A := ⟨fun _ => h, fun _ => h⟩

/-! and, or, not, if as values -/
theorem wE_andV (h : wE K F ta ρ fun ρ1 => onB fun b => Ways b (wE K F tb ρ1 P) (P ρ1 (.bl false))) : wE K F (tAndV ta tb) ρ P := fun σ G H S Q q =>
  h σ G H S _ fun vx x ρ1 G1 H1 h1 S1 r1 e1 => by
    obtain ⟨b, rfl, ⟨ht, hf⟩⟩ := onB_ex h1
    cases r1
    refine ⟨b, rfl, ?_⟩
    cases b with
    | true => exact ht rfl σ G1 H1 S1 Q fun v d ρ' G' H' p S' r' e' => q v d ρ' G' H' p S' r' (e1.trans e')
    | false => exact q _ _ ρ1 G1 H1 (hf rfl) S1 (.bl false) e1
theorem wE_orV (h : wE K F ta ρ fun ρ1 => onB fun b => Ways b (P ρ1 (.bl true)) (wE K F tb ρ1 P)) : wE K F (tOrV ta tb) ρ P := fun σ G H S Q q =>
  h σ G H S _ fun vx x ρ1 G1 H1 h1 S1 r1 e1 => by
    obtain ⟨b, rfl, ⟨hf, ht⟩⟩ := onB_ex h1
    cases r1
    refine ⟨b, rfl, ?_⟩
    cases b with
    | false => exact ht rfl σ G1 H1 S1 Q fun v d ρ' G' H' p S' r' e' => q v d ρ' G' H' p S' r' (e1.trans e')
    | true => exact q _ _ ρ1 G1 H1 (hf rfl) S1 (.bl true) e1
theorem wE_notV (h : wE K F ta ρ fun ρ1 => onB fun b => P ρ1 (.bl (!b))) : wE K F (tNotV ta) ρ P := fun σ G H S Q q =>
  h σ G H S _ fun vx x ρ1 G1 H1 h1 S1 r1 e1 => by
    obtain ⟨b, rfl, hp⟩ := onB_ex h1
    cases r1
    exact ⟨b, rfl, q _ _ ρ1 G1 H1 hp S1 (.bl _) e1⟩
theorem wE_if {t : TT} (h : wT K F t ρ fun ρ1 b => Ways b (wE K F ta ρ1 P) (wE K F tb ρ1 P)) : wE K F (tIf t ta tb) ρ P := fun σ G H S Q q =>
  h σ G H S _ fun b ρ1 G1 H1 h1 S1 e1 => by
    cases b with
    | true => exact h1.1 rfl σ G1 H1 S1 Q fun v d ρ' G' H' p S' r' e' => q v d ρ' G' H' p S' r' (e1.trans e')
    | false => exact h1.2 rfl σ G1 H1 S1 Q fun v d ρ' G' H' p S' r' e' => q v d ρ' G' H' p S' r' (e1.trans e')
theorem wE_chain {r' : R2} {tc : TE} (h : wE K F ta ρ fun ρ1 x => wE K F tb ρ1 fun ρ2 y => wR K F r x y ρ2 fun ρ3 => onB fun b => Ways b (wE K F tc ρ3 fun ρ4 w => wR K F r' y w ρ4 P) (P ρ3 (.bl false))) : wE K F (tChain r r' ta tb tc) ρ P := fun σ G H S Q q =>
  h σ G H S _ fun vx x ρ1 G1 H1 h1 S1 r1 e1 => h1 σ G1 H1 S1 _ fun vy y ρ2 G2 H2 h2 S2 r2 e2 =>
    h2 σ G2 H2 vx vy S2 (r1.up e2) r2 _ fun v d ρ3 G3 H3 hp S3 r3 e3 => by
      obtain ⟨b, rfl, ⟨ht, hf⟩⟩ := onB_ex hp
      cases r3
      refine ⟨b, rfl, ?_⟩
      cases b with
      | true => exact ht rfl σ G3 H3 S3 _ fun vw w ρ4 G4 H4 h4 S4 r4 e4 => h4 σ G4 H4 vy vw S4 ((r2.up e3).up e4) r4 Q fun v d ρ' G' H' p S' r' e' => q v d ρ' G' H' p S' r' (((e1.trans e2).trans e3).trans (e4.trans e'))
      | false => exact q _ _ ρ3 G3 H3 (hf rfl) S3 (.bl false) ((e1.trans e2).trans e3)

/-! tests -/
section
variable {t u : TT} {PB : Sls → Bool → Prop}
theorem wT_test (h : wE K F te ρ fun ρ1 => onB (PB ρ1)) : wT K F (tTest te) ρ PB := fun σ G H S Q q =>
  h σ G H S _ fun vx x ρ1 G1 H1 h1 S1 r1 e1 => by
    obtain ⟨b, rfl, hp⟩ := onB_ex h1
    cases r1
    exact ⟨b, rfl, q _ ρ1 G1 H1 hp S1 e1⟩
theorem wT_B (h : wE K F te ρ fun ρ1 => onB (PB ρ1)) : wT K F (tB te) ρ PB := wT_test h
theorem wT_not (h : wT K F t ρ fun ρ1 b => PB ρ1 (!b)) : wT K F (tNot t) ρ PB := fun σ G H S Q q => h σ G H S _ fun b ρ1 G1 H1 h1 S1 e1 => q _ ρ1 G1 H1 h1 S1 e1
theorem wT_and (h : wT K F t ρ fun ρ1 b => Ways b (wT K F u ρ1 PB) (PB ρ1 false)) : wT K F (tAnd t u) ρ PB := fun σ G H S Q q =>
  h σ G H S _ fun b ρ1 G1 H1 h1 S1 e1 => by
    cases b with
    | true => exact h1.1 rfl σ G1 H1 S1 Q fun b ρ' G' H' p S' e' => q b ρ' G' H' p S' (e1.trans e')
    | false => exact q _ ρ1 G1 H1 (h1.2 rfl) S1 e1
theorem wT_or (h : wT K F t ρ fun ρ1 b => Ways b (PB ρ1 true) (wT K F u ρ1 PB)) : wT K F (tOr t u) ρ PB := fun σ G H S Q q =>
  h σ G H S _ fun b ρ1 G1 H1 h1 S1 e1 => by
    cases b with
    | false => exact h1.2 rfl σ G1 H1 S1 Q fun b ρ' G' H' p S' e' => q b ρ' G' H' p S' (e1.trans e')
    | true => exact q _ ρ1 G1 H1 (h1.1 rfl) S1 e1
end

/-! arguments, displays -/
theorem wA_nil {PA : Sls → List D → Prop} (p : PA ρ []) : wA K F tNil ρ PA := fun σ G H S Q q => q _ _ ρ G H p S .nil (Ex.refl G)
theorem wA_cons {PA : Sls → List D → Prop} {tr : TA} (h : wE K F ta ρ fun ρ1 x => wA K F tr ρ1 fun ρ2 xs => PA ρ2 (x :: xs)) : wA K F (tCons ta tr) ρ PA := fun σ G H S Q q =>
  h σ G H S _ fun vx x ρ1 G1 H1 h1 S1 r1 e1 => h1 σ G1 H1 S1 _ fun vs xs ρ2 G2 H2 h2 S2 r2 e2 => q _ _ ρ2 G2 H2 h2 S2 (.cons (r1.up e2) r2) (e1.trans e2)
theorem wE_tup {t : TA} (h : wA K F t ρ fun ρ1 ds => ds.length ≤ 100000 ∧ P ρ1 (.tup ds)) : wE K F (tTup t) ρ P := fun σ G H S Q q =>
  h σ G H S _ fun vs ds ρ1 G1 H1 h1 S1 r1 e1 => ⟨Evl.sz_of (by rw [r1.length]; exact h1.1), fun p hp =>
    q _ _ ρ1 (upd G1 p (.tup vs)) _ h1.2 (S1.new hp) (.tup (SqT.of upd_same) (r1.up (Ex.new (S1.fr.freshG hp)))) (e1.trans (Ex.new (S1.fr.freshG hp)))⟩
theorem Own.alloc {G H : Hp} {σ : St} {p : Addr} {vs : List V} {ds : List D} (S : SRel K F G H σ ρ) (hp : H p = none) (r : RepL K G vs ds) : Own K F G (upd H p (.lst vs)) σ ρ p vs ds :=
  ⟨S.fr.freshG hp, upd_same, r, S.fr.fresh hp, S.notOwn hp⟩
theorem wO_lst {t : TA} {PO : Sls → List D → Prop} (h : wA K F t ρ fun ρ1 ds => ds.length ≤ 100000 ∧ PO ρ1 ds) : wO K F (tLst t) ρ PO := fun σ G H S Q q =>
  h σ G H S _ fun vs ds ρ1 G1 H1 h1 S1 r1 e1 => ⟨Evl.sz_of (by rw [r1.length]; exact h1.1), fun p hp => q _ vs ds ρ1 G1 _ h1.2 (S1.alloc hp) (.alloc S1 hp r1) e1⟩

/-! list operators -/
theorem wRO_cat {xs ys : List D} {PO : Sls → List D → Prop} (hl : xs.length + ys.length ≤ 100000) (p : PO ρ (xs ++ ys)) : wRO K F rCat (.lst xs) (.lst ys) ρ PO := fun σ G H vx vy S rx ry Q q => by
  cases rx with
  | lst h1 h2 =>
    cases ry with
    | lst h3 h4 => exact ⟨_, _, _, _, rfl, rfl, S.ex _ _ h1, S.ex _ _ h3, Evl.sz_of (by rw [h2.length, h4.length]; exact hl), fun a ha => q _ _ _ ρ G _ p (S.alloc ha) (.alloc S ha (h2.append h4)) (Ex.refl G)⟩
/-- in, among flat things -/
def flatD : D → Bool
  | .non => true
  | .bl _ => true
  | .int _ => true
  | .str _ => true
  | _ => false
def valD : D → V
  | .non => .non
  | .bl b => .bl b
  | .int i => .int i
  | .str x => .str x
  | _ => .non
theorem Rep.flat {G : Hp} {v : V} {d : D} (h : Rep K G v d) (f : flatD d = true) : v = valD d ∧ flatV v = true := by
  cases h <;> first | exact ⟨rfl, rfl⟩ | cases f
theorem RepL.flat {G : Hp} : ∀ {vs : List V} {ds : List D}, RepL K G vs ds → ds.all flatD = true → vs = ds.map valD ∧ vs.all flatV = true
  | _, _, .nil, _ => ⟨rfl, rfl⟩
  | _, _, .cons r t, f => by
    rw [List.all_cons, Bool.and_eq_true] at f
    obtain ⟨e1, f1⟩ := r.flat f.1
    obtain ⟨e2, f2⟩ := RepL.flat t f.2
    refine ⟨by rw [e1, e2]; rfl, by rw [List.all_cons, f1, f2]; rfl⟩
def inD (x : D) (ds : List D) : Bool := inV (valD x) (ds.map valD)
theorem wR_inL {ds : List D} (hx : flatD x = true) (hd : ds.all flatD = true) (p : P ρ (.bl (inD x ds))) : wR K F (rIn K false) x (.lst ds) ρ P := fun σ G H vx vy S rx ry Q q => by
  obtain ⟨e1, f1⟩ := rx.flat hx
  cases ry with
  | lst h1 h2 =>
    obtain ⟨e2, f2⟩ := h2.flat hd
    refine ⟨_, _, rfl, .inl (SqL.of (S.ex _ _ h1)), f1, f2, ?_⟩
    subst e1 e2
    exact q _ _ ρ G H p S (.bl _) (Ex.refl G)
theorem wR_niL {ds : List D} (hx : flatD x = true) (hd : ds.all flatD = true) (p : P ρ (.bl (!inD x ds))) : wR K F (rIn K true) x (.lst ds) ρ P := fun σ G H vx vy S rx ry Q q => by
  obtain ⟨e1, f1⟩ := rx.flat hx
  cases ry with
  | lst h1 h2 =>
    obtain ⟨e2, f2⟩ := h2.flat hd
    refine ⟨_, _, rfl, .inl (SqL.of (S.ex _ _ h1)), f1, f2, ?_⟩
    subst e1 e2
    exact q _ _ ρ G H p S (.bl _) (Ex.refl G)
theorem wR_inT {ds : List D} (hx : flatD x = true) (hd : ds.all flatD = true) (p : P ρ (.bl (inD x ds))) : wR K F (rIn K false) x (.tup ds) ρ P := fun σ G H vx vy S rx ry Q q => by
  obtain ⟨e1, f1⟩ := rx.flat hx
  cases ry with
  | tup h1 h2 =>
    obtain ⟨e2, f2⟩ := h2.flat hd
    refine ⟨_, _, rfl, .inr (Evl.ex_t S.ex h1), f1, f2, ?_⟩
    subst e1 e2
    exact q _ _ ρ G H p S (.bl _) (Ex.refl G)
theorem wR_niT {ds : List D} (hx : flatD x = true) (hd : ds.all flatD = true) (p : P ρ (.bl (!inD x ds))) : wR K F (rIn K true) x (.tup ds) ρ P := fun σ G H vx vy S rx ry Q q => by
  obtain ⟨e1, f1⟩ := rx.flat hx
  cases ry with
  | tup h1 h2 =>
    obtain ⟨e2, f2⟩ := h2.flat hd
    refine ⟨_, _, rfl, .inr (Evl.ex_t S.ex h1), f1, f2, ?_⟩
    subst e1 e2
    exact q _ _ ρ G H p S (.bl _) (Ex.refl G)

/-! built-ins -/
theorem wE_cb {r : List V → Hp → VK → Prop} {t : TA} (h : wA K F t ρ fun ρ1 ds => wC K F r ds ρ1 P) : wE K F (tCB r t) ρ P := fun σ G H S Q q =>
  h σ G H S _ fun vs ds ρ1 G1 H1 h1 S1 r1 e1 => h1 σ G1 H1 vs S1 r1 Q fun v d ρ' G' H' p S' r' e' => q v d ρ' G' H' p S' r' (e1.trans e')
theorem wO_cb {r : List V → Hp → VK → Prop} {t : TA} {PO : Sls → List D → Prop} (h : wA K F t ρ fun ρ1 ds => wCO K F r ds ρ1 PO) : wO K F (tCB r t) ρ PO := fun σ G H S Q q =>
  h σ G H S _ fun vs ds ρ1 G1 H1 h1 S1 r1 e1 => h1 σ G1 H1 vs S1 r1 Q fun p ws d ρ' G' H' pp S' r' e' => q p ws d ρ' G' H' pp S' r' (e1.trans e')
/-- len -/
def lenD : D → Option Nat
  | .lst xs => some xs.length
  | .tup xs => some xs.length
  | .scr ns => some ns.length
  | .str x => if x.length ≤ 100000 then some x.length else none
  | _ => none
theorem wC_len {n : Nat} (h : lenD x = some n) (p : P ρ (.int n)) : wC K F (fun xs H Q => ∃ x n, xs = [x] ∧ LenV K x H n ∧ Q (.int n) H) [x] ρ P := fun σ G H vs S rs Q q => by
  cases rs with
  | cons rx rr =>
    cases rr
    refine ⟨_, n, rfl, ?_, q _ _ ρ G H p S (.int n) (Ex.refl G)⟩
    cases rx with
    | lst h1 h2 => cases h; exact .inl ⟨_, SqL.of (S.ex _ _ h1), h2.length.symm⟩
    | tup h1 h2 => cases h; exact .inr ⟨_, Evl.ex_t S.ex h1, h2.length.symm⟩
    | scr h1 => cases h; exact .inl ⟨_, Evl.ex_l S.ex h1, by rw [List.length_map]⟩
    | str s =>
      have h' : (if s.length ≤ 100000 then some s.length else none) = some n := h
      by_cases hs : s.length ≤ 100000
      · rw [if_pos hs] at h'
        cases h'
        exact ⟨Evl.sz_of hs, rfl⟩
      · rw [if_neg hs] at h'
        cases h'
    | _ => cases h
theorem wC_max2 {i j : Int} (p : P ρ (.int (if j > i then j else i))) : wC K F (fun xs H Q => ∃ i j, xs = [.int i, .int j] ∧ Q (.int (if j > i then j else i)) H) [.int i, .int j] ρ P := fun σ G H vs S rs Q q => by
  cases rs with
  | cons r1 rr =>
    cases rr with
    | cons r2 rr =>
      cases rr; cases r1; cases r2
      exact ⟨i, j, rfl, q _ _ ρ G H p S (.int _) (Ex.refl G)⟩
theorem wC_min2 {i j : Int} (p : P ρ (.int (if j < i then j else i))) : wC K F (fun xs H Q => ∃ i j, xs = [.int i, .int j] ∧ Q (.int (if j < i then j else i)) H) [.int i, .int j] ρ P := fun σ G H vs S rs Q q => by
  cases rs with
  | cons r1 rr =>
    cases rr with
    | cons r2 rr =>
      cases rr; cases r1; cases r2
      exact ⟨i, j, rfl, q _ _ ρ G H p S (.int _) (Ex.refl G)⟩
theorem wC_abs {i : Int} (p : P ρ (.int (if i < 0 then -i else i))) : wC K F (fun xs H Q => ∃ i, xs = [.int i] ∧ Q (.int (if i < 0 then -i else i)) H) [.int i] ρ P := fun σ G H vs S rs Q q => by
  cases rs with
  | cons r1 rr =>
    cases rr; cases r1
    exact ⟨i, rfl, q _ _ ρ G H p S (.int _) (Ex.refl G)⟩
theorem wC_intB {b : Bool} (p : P ρ (.int (if b then 1 else 0))) : wC K F (fun xs H Q => (∃ i, xs = [.int i] ∧ Q (.int i) H) ∨ ∃ k, xs = [.bl k] ∧ Q (.int (if k then 1 else 0)) H) [.bl b] ρ P := fun σ G H vs S rs Q q => by
  cases rs with
  | cons r1 rr =>
    cases rr; cases r1
    exact .inr ⟨b, rfl, q _ _ ρ G H p S (.int _) (Ex.refl G)⟩
theorem wC_intI {b : Int} (p : P ρ (.int b)) : wC K F (fun xs H Q => (∃ i, xs = [.int i] ∧ Q (.int i) H) ∨ ∃ k, xs = [.bl k] ∧ Q (.int (if k then 1 else 0)) H) [.int b] ρ P := fun σ G H vs S rs Q q => by
  cases rs with
  | cons r1 rr =>
    cases rr; cases r1
    exact .inl ⟨b, rfl, q _ _ ρ G H p S (.int _) (Ex.refl G)⟩
theorem wCO_list {d : D} {ds : List D} {PO : Sls → List D → Prop} (hd : d = .lst ds ∨ d = .tup ds) (p : PO ρ ds) : wCO K F (fun xs H Q => ∃ p ys, xs = [.ref p] ∧ (SqL K H p ys ∨ SqT K H p ys) ∧ ∀ l, H l = none → Q (.ref l) (upd H l (.lst ys))) [d] ρ PO := fun σ G H vs S rs Q q => by
  cases rs with
  | cons r1 rr =>
    cases rr
    rcases hd with rfl | rfl
    · cases r1 with
      | lst h1 h2 => exact ⟨_, _, rfl, .inl (SqL.of (S.ex _ _ h1)), fun a ha => q _ _ _ ρ G _ p (S.alloc ha) (.alloc S ha h2) (Ex.refl G)⟩
    · cases r1 with
      | tup h1 h2 => exact ⟨_, _, rfl, .inr (Evl.ex_t S.ex h1), fun a ha => q _ _ _ ρ G _ p (S.alloc ha) (.alloc S ha h2) (Ex.refl G)⟩
/-- isinstance -/
def tyD : D → Option String
  | .non => some "NoneType"
  | .bl _ => some "bool"
  | .int _ => some "int"
  | .str _ => some "str"
  | .lst _ => some "list"
  | .tup _ => some "tuple"
  | .dct _ => some "dict"
  | .dkv _ => some "dict"
  | _ => none
theorem Rep.tyx {G H : Hp} (ex : Ex G H) {v : V} {d : D} {n : String} (h : Rep K G v d) (e : tyD d = some n) : TyX K H v (.type n) := by
  cases h with
  | non => cases e; exact .base .non
  | bl b => cases e; exact .base (.bl b)
  | int b => cases e; exact .base (.int b)
  | str b => cases e; exact .base (.str b)
  | lst h1 h2 => cases e; exact .base (.lst (ex _ _ h1))
  | tup h1 h2 =>
    cases e
    rcases h1 with (h1 | ⟨o, h1⟩) | ⟨o, its, n, h1, h2, _⟩
    · exact .base (.tup (ex _ _ h1))
    · exact .fTuple (ex _ _ h1)
    · exact .kTuple h1 h2
  | dct h1 h2 => cases e; exact .base (.dK (ex _ _ h1))
  | dkv h1 h2 => cases e; exact .fDict (ex _ _ h1)
  | _ => cases e
theorem wC_isi {c : String} {n : String} {b : Bool} (h1 : tyD x = some n) (h2 : kitB n c = some b) (p : P ρ (.bl b)) : wC K F (rIsi K) [x, .ty c] ρ P := fun σ G H vs S rs Q q => by
  cases rs with
  | cons r1 rr =>
    cases rr with
    | cons r2 rr =>
      cases rr; cases r2
      exact ⟨_, _, .type n, .type c, b, rfl, .ty c, r1.tyx S.ex h1, kit_ty h2, q _ _ ρ G H p S (.bl b) (Ex.refl G)⟩

/-! targets -/
theorem wG_name {i : Nat} {PN : Sls → Prop} (p : PN (ρ.set i (.fz x))) : wG K F (gName i) x ρ PN := fun σ G H v S r Q q => q _ _ G H p (S.set r) (Ex.refl G)
theorem wG_tup2 {i j : Nat} {a b : D} {PN : Sls → Prop} (p : PN ((ρ.set i (.fz a)).set j (.fz b))) : wG K F (gTup K 2 (gCons (gName i) (gCons (gName j) gNil))) (.tup [a, b]) ρ PN := fun σ G H v S r Q q => by
  cases r with
  | tup h1 h2 =>
    cases h2 with
    | cons r1 rr =>
      cases rr with
      | cons r2 rr =>
        cases rr
        exact ⟨_, _, rfl, Evl.ex_t S.ex h1, rfl, _, _, rfl, _, _, rfl, rfl, q _ _ G H p ((S.set r1).set r2) (Ex.refl G)⟩
theorem wG_tup3 {i j k : Nat} {a b c : D} {PN : Sls → Prop} (p : PN (((ρ.set i (.fz a)).set j (.fz b)).set k (.fz c))) : wG K F (gTup K 3 (gCons (gName i) (gCons (gName j) (gCons (gName k) gNil)))) (.tup [a, b, c]) ρ PN := fun σ G H v S r Q q => by
  cases r with
  | tup h1 h2 =>
    cases h2 with
    | cons r1 rr =>
      cases rr with
      | cons r2 rr =>
        cases rr with
        | cons r3 rr =>
          cases rr
          exact ⟨_, _, rfl, Evl.ex_t S.ex h1, rfl, _, _, rfl, _, _, rfl, _, _, rfl, rfl, q _ _ G H p (((S.set r1).set r2).set r3) (Ex.refl G)⟩

/-! statements -/
section
variable {O : Out} {ts tu : TS} {g : TG}
theorem DOk.from {G0 G1 : Hp} {D1 : Ends} (k : DOk K F G0 D1 O) (e : Ex G0 G1) : DOk K F G1 D1 O :=
  ⟨fun a b c d h S x => k.nx a b c d h S (e.trans x), fun a b c d v w h S x => k.rt a b c d v w h S (e.trans x), fun a b c d p v w h S x => k.ro a b c d p v w h S (e.trans x), fun a b c d h S x => k.bk a b c d h S (e.trans x), fun a b c d h S x => k.ct a b c d h S (e.trans x)⟩
theorem wS_seq (h : wS K F ts ρ { O with nx := fun ρ1 => wS K F tu ρ1 O }) : wS K F (tSeq ts tu) ρ O := fun σ G H S D1 k =>
  h σ G H S { D1 with nx := tu D1 } ⟨fun ρ1 σ1 G1 H1 h1 S1 e1 => h1 σ1 G1 H1 S1 D1 (k.from e1), k.rt, k.ro, k.bk, k.ct⟩
theorem wS_next (p : O.nx ρ) : wS K F tNext ρ O := fun σ G H S D1 k => k.nx ρ σ G H p S (Ex.refl G)
theorem wS_brk (p : O.bk ρ) : wS K F tBreak ρ O := fun σ G H S D1 k => k.bk ρ σ G H p S (Ex.refl G)
theorem wS_ct (p : O.ct ρ) : wS K F tCont ρ O := fun σ G H S D1 k => k.ct ρ σ G H p S (Ex.refl G)
theorem wS_asg (h : wE K F te ρ fun ρ1 x => wG K F g x ρ1 O.nx) : wS K F (tAsg te g) ρ O := fun σ G H S D1 k =>
  h σ G H S _ fun v x ρ1 G1 H1 h1 S1 r1 e1 => h1 σ G1 H1 v S1 r1 _ fun ρ2 σ2 G2 H2 h2 S2 e2 => k.nx ρ2 σ2 G2 H2 h2 S2 (e1.trans e2)
theorem wS_set {i : Nat} (h : wE K F te ρ fun ρ1 x => O.nx (ρ1.set i (.fz x))) : wS K F (tAsg te (gName i)) ρ O := wS_asg (wE_mono h fun _ _ p => wG_name p)
theorem wS_setO {i : Nat} (h : wO K F te ρ fun ρ1 ds => O.nx (ρ1.set i (.ow .loc ds))) : wS K F (tAsg te (gName i)) ρ O := fun σ G H S D1 k =>
  h σ G H S _ fun p vs ds ρ1 G1 H1 h1 S1 o e1 => k.nx _ _ G1 H1 h1 (S1.setO o.g o.h o.r o.f o.n) e1
theorem wS_drop (h : wE K F te ρ fun ρ1 _ => O.nx ρ1) : wS K F (tDrop te) ρ O := fun σ G H S D1 k =>
  h σ G H S _ fun v x ρ1 G1 H1 h1 S1 r1 e1 => k.nx ρ1 σ G1 H1 h1 S1 e1
theorem wS_ret (h : wE K F te ρ fun ρ1 x => O.rt ρ1 x) : wS K F (tRet te) ρ O := fun σ G H S D1 k =>
  h σ G H S _ fun v x ρ1 G1 H1 h1 S1 r1 e1 => k.rt ρ1 σ G1 H1 v x h1 S1 e1 r1
theorem wS_retO (h : wO K F te ρ fun ρ1 ds => O.ro ρ1 ds) : wS K F (tRet te) ρ O := fun σ G H S D1 k =>
  h σ G H S _ fun p vs ds ρ1 G1 H1 h1 S1 o e1 => k.ro ρ1 σ G1 H1 p vs ds h1 S1 e1 o.g o.h o.r o.f
theorem wS_retN (p : O.rt ρ .non) : wS K F tRetN ρ O := fun σ G H S D1 k => k.rt ρ σ G H .non .non p S (Ex.refl G) .non
theorem wS_if {t : TT} (h : wT K F t ρ fun ρ1 b => Ways b (wS K F ts ρ1 O) (wS K F tu ρ1 O)) : wS K F (tIfS t ts tu) ρ O := fun σ G H S D1 k =>
  h σ G H S _ fun b ρ1 G1 H1 h1 S1 e1 => by
    cases b with
    | true => exact h1.1 rfl σ G1 H1 S1 D1 (k.from e1)
    | false => exact h1.2 rfl σ G1 H1 S1 D1 (k.from e1)
/-- own[i] = e -/
theorem wS_setIx {i : Nat} {ti : TE} (h : wE K F te ρ fun ρ1 x => ∃ (l1 : Kd) (ds1 : List D), ρ1[i]? = some (.ow l1 ds1) ∧ wE K F ti ρ1 fun ρ2 y => ∃ (l : Kd) (ds : List D) (j : Nat), y = .int (j : Int) ∧ ρ2[i]? = some (.ow l ds) ∧ j < ds.length ∧ O.nx (ρ2.set i (.ow l (ds.set j x)))) :
    wS K F (tAsg te (gSub (tVar i) ti rSetL)) ρ O := fun σ G H S D1 k =>
  h σ G H S _ fun v x ρ1 G1 H1 h1 S1 r1 e1 => by
    obtain ⟨l1, ds1, hi1, h1⟩ := h1
    obtain ⟨p, vs1, hp, _⟩ := S1.ow hi1
    refine ⟨.ref p, hp, h1 σ G1 H1 S1 _ fun vy y ρ2 G2 H2 h2 S2 r2 e2 => ?_⟩
    obtain ⟨l, ds, j, rfl, hi, hj, hn⟩ := h2
    cases r2
    obtain ⟨p', vs, e', hg, hh, hr⟩ := S2.ow hi
    rw [hp] at e'
    cases e'
    exact ⟨p, vs, _, j, rfl, rfl, hh, Evl.ixN_nat (by rw [hr.length]; exact hj), k.nx _ _ G2 _ hn (S2.mut hi hp (RepL.set j (r1.up e2) hr)) (e1.trans e2)⟩
/-- own.append(e) -/
theorem wS_append {i : Nat} (h0 : ∃ (l1 : Kd) (ds1 : List D), ρ[i]? = some (.ow l1 ds1)) (h : wE K F te ρ fun ρ1 x => ∃ (l : Kd) (ds : List D), ρ1[i]? = some (.ow l ds) ∧ ds.length < 100000 ∧ O.nx (ρ1.set i (.ow l (ds ++ [x])))) :
    wS K F (tDrop (tBM K "list" rAppend (tVar i) (tCons te tNil))) ρ O := fun σ G H S D1 k => by
  obtain ⟨l1, ds1, hi1⟩ := h0
  obtain ⟨p, vs1, hp, hg1, hh1, hr1⟩ := S.ow hi1
  refine ⟨.ref p, hp, .inl ⟨rfl, vs1, SqL.of hh1⟩, h σ G H S _ fun v x ρ1 G1 H1 h1 S1 r1 e1 => ?_⟩
  obtain ⟨l, ds, hi, hl, hn⟩ := h1
  obtain ⟨p', vs, e', hg, hh, hr⟩ := S1.ow hi
  rw [hp] at e'
  cases e'
  exact ⟨p, vs, v, rfl, rfl, hh, Evl.sz_lt (by rw [hr.length]; exact hl), k.nx _ _ G1 _ hn (S1.mut hi hp (hr.append (.cons r1 .nil))) e1⟩
end
end
end DL
namespace DL
open PySem L2
open Evl (Ex)

/-! ### loops -/
section
variable (K : PySem.W.Frag) (F : Fr)
def forS (g : TG) (tb : TS) (O : Out) : List D → Sls → Prop
  | [], ρ => O.nx ρ
  | x :: r, ρ => wG K F g x ρ fun ρ3 => wS K F tb ρ3 { nx := forS g tb O r, ct := forS g tb O r, bk := O.nx, rt := O.rt, ro := O.ro }
end
section
variable {K : PySem.W.Frag} {F : Fr} {ρ : Sls} {O : Out} {g : TG} {tb : TS}
/-- a loop by its word -/
theorem forS_inv (ds : List D) (Inv : Nat → Sls → Prop) (h0 : Inv 0 ρ) (hs : ∀ (i : Nat) (x : D) (ρ2 : Sls), ds[i]? = some x → Inv i ρ2 → wG K F g x ρ2 fun ρ3 => wS K F tb ρ3 { nx := Inv (i + 1), ct := Inv (i + 1), bk := O.nx, rt := O.rt, ro := O.ro })
    (hd : ∀ ρ2, Inv ds.length ρ2 → O.nx ρ2) : forS K F g tb O ds ρ := by
  have key : ∀ (k : Nat) (es : List D), ds = ds.take k ++ es → k ≤ ds.length → ∀ ρ2, Inv k ρ2 → forS K F g tb O es ρ2 := by
    intro k es
    induction es generalizing k with
    | nil =>
      intro e hk ρ2 hi
      have hl : ds.length = k := by
        have := congrArg List.length e
        rw [List.append_nil, List.length_take] at this
        omega
      exact hd ρ2 (hl ▸ hi)
    | cons x r ih =>
      intro e hk ρ2 hi
      have hlt : k < ds.length := by
        have := congrArg List.length e
        rw [List.length_append, List.length_take, List.length_cons] at this
        omega
      have hx : ds[k]? = some x := by
        rw [e, List.getElem?_append_right (by rw [List.length_take]; omega), List.length_take, Nat.min_eq_left hk, Nat.sub_self]
        rfl
      have e' : ds = ds.take (k + 1) ++ r := by
        rw [List.take_add_one, hx]
        simpa using e
      show wG K F g x ρ2 fun ρ3 => wS K F tb ρ3 { nx := forS K F g tb O r, ct := forS K F g tb O r, bk := O.nx, rt := O.rt, ro := O.ro }
      exact wG_mono (hs k x ρ2 hx hi) fun ρ3 h3 => wS_mono h3 (fun ρ4 h4 => ih (k + 1) e' hlt ρ4 h4) (fun _ _ h => h) (fun _ _ h => h) (fun _ h => h) (fun ρ4 h4 => ih (k + 1) e' hlt ρ4 h4)
  exact key 0 ds (by simp) (Nat.zero_le _) ρ h0
theorem drop_at {ds : List D} {i : Nat} {d : D} (h : ds[i]? = some d) : ds.drop i = d :: ds.drop (i + 1) := by
  have hl := (List.getElem?_eq_some_iff.mp h).1
  rw [List.drop_eq_getElem_cons hl, (List.getElem?_eq_some_iff.mp h).2]
/-- one turn of a loop, from the data's loop to the heap's -/
theorem for_turn {σ : St} {G1 G2 H2 : Hp} {D1 : Ends} {G0 : Hp} (k : DOk K F G0 D1 O) (e0 : Ex G0 G1) {ds : List D} {i : Nat} {d : D} {v : V} {ρ2 : Sls} (S2 : SRel K F G2 H2 σ ρ2) (e2 : Ex G1 G2) (hd : ds[i]? = some d) (r : Rep K G2 v d) (f : forS K F g tb O (ds.drop i) ρ2) :
    g v σ H2 fun σ3 H3 => tb { D1 with nx := fun σ' H' => ∃ G' ρ', SRel K F G' H' σ' ρ' ∧ Ex G1 G' ∧ forS K F g tb O (ds.drop (i + 1)) ρ', ct := fun σ' H' => ∃ G' ρ', SRel K F G' H' σ' ρ' ∧ Ex G1 G' ∧ forS K F g tb O (ds.drop (i + 1)) ρ', bk := D1.nx } σ3 H3 := by
  rw [drop_at hd] at f
  refine f σ G2 H2 v S2 r _ fun ρ3 σ3 G3 H3 h3 S3 e3 => ?_
  exact h3 σ3 G3 H3 S3 _ ⟨fun ρ' σ' G' H' h S' x => ⟨G', ρ', S', (e2.trans e3).trans x, h⟩, fun a b c dd v w h S x => k.rt a b c dd v w h S ((e0.trans e2).trans (e3.trans x)), fun a b c dd p v w h S x => k.ro a b c dd p v w h S ((e0.trans e2).trans (e3.trans x)), fun a b c dd h S x => k.nx a b c dd h S ((e0.trans e2).trans (e3.trans x)), fun ρ' σ' G' H' h S' x => ⟨G', ρ', S', (e2.trans e3).trans x, h⟩⟩
theorem wS_forL {tl : TE} (h : wE K F tl ρ fun ρ1 d => ∃ ds, d = .lst ds ∧ forS K F g tb O ds ρ1) : wS K F (tFor (iList K tl) g tb) ρ O := fun σ G H S D1 k =>
  h σ G H S _ fun v d ρ1 G1 H1 h1 S1 r1 e1 => by
    obtain ⟨ds, rfl, f⟩ := h1
    cases r1 with
    | lst ha hr =>
      rename_i a xs
      refine ⟨a, rfl, ⟨xs, SqL.of (S1.ex _ _ ha)⟩, for_list (K := K) (a := a) (xs := xs) (fun i σ' H' => ∃ G' ρ', SRel K F G' H' σ' ρ' ∧ Ex G1 G' ∧ forS K F g tb O (ds.drop i) ρ') ⟨G1, ρ1, S1, Ex.refl G1, f⟩ (fun i σ' H' _ ⟨G', ρ', S', e', _⟩ => SqL.of (S'.ex _ _ (e' _ _ ha))) ?_ ?_⟩
      · rintro i x σ' H' hx ⟨G', ρ', S', e', f'⟩
        obtain ⟨d, hd, rd⟩ := hr.getV hx
        exact for_turn k e1 S' e' hd (rd.up e') f'
      · rintro σ' H' ⟨G', ρ', S', e', f'⟩
        rw [hr.length, List.drop_length] at f'
        exact k.nx ρ' σ' G' H' f' S' (e1.trans e')
theorem wS_forT {tl : TE} (h : wE K F tl ρ fun ρ1 d => ∃ ds, d = .tup ds ∧ forS K F g tb O ds ρ1) : wS K F (tFor (iTup K tl) g tb) ρ O := fun σ G H S D1 k =>
  h σ G H S _ fun v d ρ1 G1 H1 h1 S1 r1 e1 => by
    obtain ⟨ds, rfl, f⟩ := h1
    cases r1 with
    | tup ha hr =>
      rename_i a xs
      refine ⟨a, rfl, ⟨xs, Evl.ex_t S1.ex ha⟩, for_tup (K := K) (a := a) (xs := xs) (fun i σ' H' => ∃ G' ρ', SRel K F G' H' σ' ρ' ∧ Ex G1 G' ∧ forS K F g tb O (ds.drop i) ρ') ⟨G1, ρ1, S1, Ex.refl G1, f⟩ (fun i σ' H' _ ⟨G', ρ', S', e', _⟩ => Evl.ex_t (e'.trans S'.ex) ha) ?_ ?_⟩
      · rintro i x σ' H' hx ⟨G', ρ', S', e', f'⟩
        obtain ⟨d, hd, rd⟩ := hr.getV hx
        exact for_turn k e1 S' e' hd (rd.up e') f'
      · rintro σ' H' ⟨G', ρ', S', e', f'⟩
        rw [hr.length, List.drop_length] at f'
        exact k.nx ρ' σ' G' H' f' S' (e1.trans e')
def rng (lo : Int) (n : Nat) : List D := (List.range n).map fun (k : Nat) => D.int (lo + (k : Int))
theorem rng_get {lo : Int} {n i : Nat} (h : i < n) : (rng lo n)[i]? = some (.int (lo + (i : Int))) := by
  unfold rng
  rw [List.getElem?_map, List.getElem?_range h]
  rfl
theorem rng_len {lo : Int} {n : Nat} : (rng lo n).length = n := by
  unfold rng
  rw [List.length_map, List.length_range]
theorem for_rng {σ : St} {G1 H1 : Hp} {D1 : Ends} {G0 : Hp} (k : DOk K F G0 D1 O) (e0 : Ex G0 G1) {lo : Int} {n : Nat} {ρ1 : Sls} (S1 : SRel K F G1 H1 σ ρ1) (f : forS K F g tb O (rng lo n) ρ1) :
    ∃ W : Nat → Nat → St → Hp → Prop, (∃ m, W 0 m σ H1) ∧ ∀ i m σ H, W i m σ H →
      ((Itr lo n).stop i H ∧ D1.nx σ H) ∨ ((Itr lo n).go i H ∧ ∃ N : St → Hp → Prop, (∀ σ' H', N σ' H' → ∃ m', m' < m ∧ W (i + 1) m' σ' H') ∧ ∀ x H', (Itr lo n).yld i H x H' → g x σ H' fun σ2 H2 => tb { D1 with nx := N, ct := N, bk := D1.nx } σ2 H2) := by
  refine for_range (lo := lo) (n := n) (fun i σ' H' => ∃ G' ρ', SRel K F G' H' σ' ρ' ∧ Ex G1 G' ∧ forS K F g tb O ((rng lo n).drop i) ρ') ⟨G1, ρ1, S1, Ex.refl G1, f⟩ ?_ ?_
  · rintro i σ' H' hi ⟨G', ρ', S', e', f'⟩
    exact for_turn k e0 S' e' (rng_get hi) (.int _) f'
  · rintro σ' H' ⟨G', ρ', S', e', f'⟩
    have q : (rng lo n).drop n = [] := List.drop_eq_nil_of_le (by rw [rng_len]; exact Nat.le_refl n)
    rw [q] at f'
    exact k.nx ρ' σ' G' H' f' S' (e0.trans e')
theorem wS_forR1 {ta : TA} (h : wA K F ta ρ fun ρ1 ds => ∃ n : Int, ds = [.int n] ∧ -(2 ^ 62) ≤ n ∧ n < 2 ^ 62 ∧ forS K F g tb O (rng 0 n.toNat) ρ1) : wS K F (tFor (iRng1 ta) g tb) ρ O := fun σ G H S D1 k =>
  h σ G H S _ fun vs ds ρ1 G1 H1 h1 S1 r1 e1 => by
    obtain ⟨n, rfl, h2, h3, f⟩ := h1
    cases r1 with
    | cons ra rr =>
      cases rr; cases ra
      exact ⟨n, rfl, h2, h3, for_rng k e1 S1 f⟩
theorem wS_forR2 {ta : TA} (h : wA K F ta ρ fun ρ1 ds => ∃ m n : Int, ds = [.int m, .int n] ∧ (-(2 ^ 62) ≤ m ∧ m < 2 ^ 62 ∧ -(2 ^ 62) ≤ n ∧ n < 2 ^ 62) ∧ forS K F g tb O (rng m (n - m).toNat) ρ1) : wS K F (tFor (iRng2 ta) g tb) ρ O := fun σ G H S D1 k =>
  h σ G H S _ fun vs ds ρ1 G1 H1 h1 S1 r1 e1 => by
    obtain ⟨m, n, rfl, h2, f⟩ := h1
    cases r1 with
    | cons ra rr =>
      cases rr with
      | cons rb rr =>
        cases rr; cases ra; cases rb
        exact ⟨m, n, rfl, h2, for_rng k e1 S1 f⟩
end

/-! ### comprehensions -/
def wipeS (ρ : Sls) : List Nat → Sls
  | [] => ρ
  | v :: vs => (wipeS ρ vs).set v .un
def rest1 (vs : List Nat) (k : Nat) : Sl → Sl → Sl
  | .un, .ow _ _ => .un
  | .un, .un => .un
  | .un, .fz d => cond (vs.contains k) .un (.fz d)
  | .fz d, .ow _ _ => .fz d
  | .fz d, .un => .fz d
  | .fz d, .fz e => cond (vs.contains k) (.fz d) (.fz e)
  | .ow l ds, .ow m es => cond (vs.contains k) .un (.ow l es)
  | .ow l ds, .un => .un
  | .ow l ds, .fz d => cond (vs.contains k) .un (.fz d)
  | .un, .od _ _ => .un
  | .fz d, .od _ _ => .fz d
  | .ow _ _, .od _ _ => .un
  | .od l ds, .od m es => cond (vs.contains k) .un (.od l es)
  | .od l ds, .un => .un
  | .od l ds, .fz d => cond (vs.contains k) .un (.fz d)
  | .od _ _, .ow _ _ => .un
def restS (vs : List Nat) : Nat → Sls → Sls → Sls
  | k, a :: as, b :: bs => rest1 vs k a b :: restS vs (k + 1) as bs
  | _, _, _ => []
theorem restS_len (vs : List Nat) : ∀ (k : Nat) (as bs : Sls), as.length = bs.length → (restS vs k as bs).length = as.length
  | _, [], [], _ => rfl
  | k, a :: as, b :: bs, h => congrArg (· + 1) (restS_len vs (k + 1) as bs (by simpa using h))
  | _, [], _ :: _, h => by simp at h
  | _, _ :: _, [], h => by simp at h
theorem restS_get (vs : List Nat) : ∀ (k : Nat) (as bs : Sls) (i : Nat) (s : Sl), (restS vs k as bs)[i]? = some s → ∃ a b, as[i]? = some a ∧ bs[i]? = some b ∧ s = rest1 vs (k + i) a b
  | k, a :: as, b :: bs, 0, s, h => ⟨a, b, rfl, rfl, by rw [restS] at h; simpa using h.symm⟩
  | k, a :: as, b :: bs, i + 1, s, h => by
    rw [restS] at h
    obtain ⟨a', b', h1, h2, h3⟩ := restS_get vs (k + 1) as bs i s (by simpa using h)
    exact ⟨a', b', by simpa using h1, by simpa using h2, by rw [h3]; congr 1; omega⟩
  | _, [], _, _, _, h => by simp [restS] at h
  | _, _ :: _, [], _, _, h => by simp [restS] at h
section
variable {K : PySem.W.Frag} {F : Fr} {ρ : Sls}
theorem SRel.wipes {G H : Hp} {σ : St} (S : SRel K F G H σ ρ) : ∀ vs : List Nat, SRel K F G H (wipe σ vs) (wipeS ρ vs)
  | [] => S
  | v :: vs => (SRel.wipes S vs).wipe1 v none
theorem SRel.back {G H G' H' : Hp} {σ σ' : St} {ρ' : Sls} (S : SRel K F G H σ ρ) (T : SRel K (here G H σ ρ) G' H' σ' ρ') : SRel K F G' H' σ' (ρ'.map unloc) := by
  have geto : ∀ (j : Nat) (l : Kd) (ds : List D), (ρ'.map unloc)[j]? = some (.ow l ds) → l = .any ∧ ∃ l', ρ'[j]? = some (.ow l' ds) := fun j l ds h => by
    rw [List.getElem?_map] at h
    cases e : ρ'[j]? with
    | none => rw [e] at h; cases h
    | some s' =>
      rw [e] at h
      cases s' with
      | un => cases h
      | fz d => cases h
      | ow l' ds' => cases h; exact ⟨rfl, l', rfl⟩
      | od l' ds' => cases h
  have getd : ∀ (j : Nat) (l : Kd) (ds : List (Key × D)), (ρ'.map unloc)[j]? = some (.od l ds) → l = .any ∧ ∃ l', ρ'[j]? = some (.od l' ds) := fun j l ds h => by
    rw [List.getElem?_map] at h
    cases e : ρ'[j]? with
    | none => rw [e] at h; cases h
    | some s' =>
      rw [e] at h
      cases s' with
      | un => cases h
      | fz d => cases h
      | ow l' ds' => cases h
      | od l' ds' => cases h; exact ⟨rfl, l', rfl⟩
  refine ⟨FrOk.back S T.fr, by rw [List.length_map]; exact T.len, fun j s w h1 h2 => ?_, fun a b q m n da db h1 h2 h3 h4 => ?_, fun i l ds p h1 h2 => ?_, fun a b q m n da db h1 h2 h3 h4 => ?_, fun i l ds p h1 h2 => ?_⟩
  · rw [List.getElem?_map] at h1
    cases e : ρ'[j]? with
    | none => rw [e] at h1; cases h1
    | some s' =>
      rw [e] at h1
      cases h1
      have q := T.sl j s' w e h2
      cases s' with
      | un => exact q
      | fz d => exact q
      | ow l ds => cases w <;> exact q
      | od l ds => cases w <;> exact q
  · obtain ⟨_, _, h1⟩ := geto a _ _ h1
    obtain ⟨_, _, h2⟩ := geto b _ _ h2
    exact T.dis a b q _ _ _ _ h1 h2 h3 h4
  · obtain ⟨rfl, l', h1'⟩ := geto i _ _ h1
    rcases (T.own i l' ds p h1' h2).or with z | ⟨j, l2, ds', h3, h4⟩ | ⟨j, l2, ds', h3, h4⟩
    · exact .inl (S.fr.fresh z)
    · exact (S.own j l2 ds' p h3 h4).or
    · exact (S.ownD j l2 ds' p h3 h4).or
  · obtain ⟨_, _, h1⟩ := getd a _ _ h1
    obtain ⟨_, _, h2⟩ := getd b _ _ h2
    exact T.disD a b q _ _ _ _ h1 h2 h3 h4
  · obtain ⟨rfl, l', h1'⟩ := getd i _ _ h1
    rcases (T.ownD i l' ds p h1' h2).or with z | ⟨j, l2, ds', h3, h4⟩ | ⟨j, l2, ds', h3, h4⟩
    · exact .inl (S.fr.fresh z)
    · exact (S.own j l2 ds' p h3 h4).or
    · exact (S.ownD j l2 ds' p h3 h4).or
theorem wipe_get {σ : St} {i : Nat} : ∀ {vs : List Nat}, i ∉ vs → (wipe σ vs)[i]? = σ[i]?
  | [], _ => rfl
  | v :: vs, h => by
    have h1 : i ≠ v := fun z => h (by rw [z]; exact List.mem_cons_self ..)
    have h2 : i ∉ vs := fun z => h (List.mem_cons_of_mem _ z)
    unfold wipe
    rw [List.getElem?_set_ne (Ne.symm h1)]
    exact wipe_get h2
/-- behind a comprehension: the slots as they were, what is the owners' own as it is -/
theorem SRel.rest {G G' H H' : Hp} {σ : St} {ρ' : Sls} {vs : List Nat} (S : SRel K F G H σ ρ) (e : Ex G G') (T : SRel K F G' H' (wipe σ vs) ρ') : SRel K F G' H' σ (restS vs 0 ρ ρ') := by
  have hl : ρ.length = ρ'.length := by
    have h1 := S.len
    have h2 := T.len
    rw [wipe_length] at h2
    omega
  have geto : ∀ (i : Nat) (l : Kd) (ds : List D), (restS vs 0 ρ ρ')[i]? = some (.ow l ds) → i ∉ vs ∧ (∃ m, ρ'[i]? = some (.ow m ds)) ∧ ∃ es, ρ[i]? = some (.ow l es) := fun i l ds h => by
    obtain ⟨a, b, h1, h2, h3⟩ := restS_get vs 0 ρ ρ' i _ h
    rw [Nat.zero_add] at h3
    by_cases c : vs.contains i = true
    · cases a <;> cases b <;> simp only [rest1, c, cond_true] at h3 <;> cases h3
    · have cm : i ∉ vs := fun z => c (by simpa using z)
      have cf : vs.contains i = false := Bool.eq_false_iff.mpr c
      cases a <;> cases b <;> simp only [rest1, cf, cond_false] at h3 <;> cases h3
      exact ⟨cm, ⟨_, h2⟩, _, h1⟩
  have getd : ∀ (i : Nat) (l : Kd) (ds : List (Key × D)), (restS vs 0 ρ ρ')[i]? = some (.od l ds) → i ∉ vs ∧ (∃ m, ρ'[i]? = some (.od m ds)) ∧ ∃ es, ρ[i]? = some (.od l es) := fun i l ds h => by
    obtain ⟨a, b, h1, h2, h3⟩ := restS_get vs 0 ρ ρ' i _ h
    rw [Nat.zero_add] at h3
    by_cases c : vs.contains i = true
    · cases a <;> cases b <;> simp only [rest1, c, cond_true] at h3 <;> cases h3
    · have cm : i ∉ vs := fun z => c (by simpa using z)
      have cf : vs.contains i = false := Bool.eq_false_iff.mpr c
      cases a <;> cases b <;> simp only [rest1, cf, cond_false] at h3 <;> cases h3
      exact ⟨cm, ⟨_, h2⟩, _, h1⟩
  refine ⟨T.fr, by rw [restS_len vs 0 ρ ρ' hl]; exact S.len, fun i s o h1 h2 => ?_, fun i j p l m di dj h1 h2 h3 h4 => ?_, fun i l ds p h1 h2 => ?_, fun i j p l m di dj h1 h2 h3 h4 => ?_, fun i l ds p h1 h2 => ?_⟩
  · obtain ⟨a, b, q1, q2, rfl⟩ := restS_get vs 0 ρ ρ' i _ h1
    rw [Nat.zero_add]
    have qa := S.sl i a o q1 h2
    have fzq : ∀ {d : D}, SlR K G H o (.fz d) → SlR K G' H' o (.fz d) := fun {d} q => by
      cases o with
      | none => exact q
      | some v => exact Rep.up e q
    have unq : SlR K G' H' o .un := by cases o <;> trivial
    by_cases c : vs.contains i = true
    · cases a <;> cases b <;> simp only [rest1, c, cond_true] <;> first | exact unq | exact fzq qa
    · have cm : i ∉ vs := fun z => c (by simpa using z)
      have cf : vs.contains i = false := Bool.eq_false_iff.mpr c
      have qb := T.sl i b o q2 (by rw [wipe_get cm]; exact h2)
      cases a <;> cases b <;> simp only [rest1, cf, cond_false] <;> first | exact unq | exact fzq qa | exact qb | (cases o <;> exact qb)
  · obtain ⟨n1, ⟨m1, k1⟩, _⟩ := geto i _ _ h1
    obtain ⟨n2, ⟨m2, k2⟩, _⟩ := geto j _ _ h2
    exact T.dis i j p _ _ _ _ k1 k2 (by rw [wipe_get n1]; exact h3) (by rw [wipe_get n2]; exact h4)
  · obtain ⟨n1, _, es, k2⟩ := geto i _ _ h1
    exact S.own i l es p k2 h2
  · obtain ⟨n1, ⟨m1, k1⟩, _⟩ := getd i _ _ h1
    obtain ⟨n2, ⟨m2, k2⟩, _⟩ := getd j _ _ h2
    exact T.disD i j p _ _ _ _ k1 k2 (by rw [wipe_get n1]; exact h3) (by rw [wipe_get n2]; exact h4)
  · obtain ⟨n1, _, es, k2⟩ := getd i _ _ h1
    exact S.ownD i l es p k2 h2
end
theorem SRel.unlocs {G H : Hp} {σ : St} {K : PySem.W.Frag} {F : Fr} {ρ : Sls} (S : SRel K F G H σ ρ) : SRel K F G H σ (ρ.map unloc) := by
  have geto : ∀ (j : Nat) (l : Kd) (ds : List D), (ρ.map unloc)[j]? = some (.ow l ds) → l = .any ∧ ∃ l', ρ[j]? = some (.ow l' ds) := fun j l ds h => by
    rw [List.getElem?_map] at h
    cases e : ρ[j]? with
    | none => rw [e] at h; cases h
    | some s' =>
      rw [e] at h
      cases s' with
      | un => cases h
      | fz d => cases h
      | ow l' ds' => cases h; exact ⟨rfl, l', rfl⟩
      | od l' ds' => cases h
  have getd : ∀ (j : Nat) (l : Kd) (ds : List (Key × D)), (ρ.map unloc)[j]? = some (.od l ds) → l = .any ∧ ∃ l', ρ[j]? = some (.od l' ds) := fun j l ds h => by
    rw [List.getElem?_map] at h
    cases e : ρ[j]? with
    | none => rw [e] at h; cases h
    | some s' =>
      rw [e] at h
      cases s' with
      | un => cases h
      | fz d => cases h
      | ow l' ds' => cases h
      | od l' ds' => cases h; exact ⟨rfl, l', rfl⟩
  refine ⟨S.fr, by rw [List.length_map]; exact S.len, fun j s w h1 h2 => ?_, fun a b q m n da db h1 h2 h3 h4 => ?_, fun i l ds p h1 h2 => ?_, fun a b q m n da db h1 h2 h3 h4 => ?_, fun i l ds p h1 h2 => ?_⟩
  · rw [List.getElem?_map] at h1
    cases e : ρ[j]? with
    | none => rw [e] at h1; cases h1
    | some s' =>
      rw [e] at h1
      cases h1
      have q := S.sl j s' w e h2
      cases s' with
      | un => exact q
      | fz d => exact q
      | ow l ds => cases w <;> exact q
      | od l ds => cases w <;> exact q
  · obtain ⟨_, _, h1⟩ := geto a _ _ h1
    obtain ⟨_, _, h2⟩ := geto b _ _ h2
    exact S.dis a b q _ _ _ _ h1 h2 h3 h4
  · obtain ⟨rfl, l', h1'⟩ := geto i _ _ h1
    exact (S.own i l' ds p h1' h2).or
  · obtain ⟨_, _, h1⟩ := getd a _ _ h1
    obtain ⟨_, _, h2⟩ := getd b _ _ h2
    exact S.disD a b q _ _ _ _ h1 h2 h3 h4
  · obtain ⟨rfl, l', h1'⟩ := getd i _ _ h1
    exact (S.ownD i l' ds p h1' h2).or
theorem unloc_unloc : ∀ s : Sl, unloc (unloc s) = unloc s
  | .un => rfl
  | .fz _ => rfl
  | .ow _ _ => rfl
  | .od _ _ => rfl
theorem map_unloc (ρ : Sls) : (ρ.map unloc).map unloc = ρ.map unloc := by
  rw [List.map_map]
  exact List.map_congr_left fun s _ => unloc_unloc s
theorem wipeS_unloc (ρ : Sls) : ∀ vs : List Nat, wipeS (ρ.map unloc) vs = (wipeS ρ vs).map unloc
  | [] => rfl
  | v :: vs => by
    show (wipeS (ρ.map unloc) vs).set v .un = ((wipeS ρ vs).set v .un).map unloc
    rw [wipeS_unloc ρ vs, List.map_set]
    rfl
def wipeU (ρ : Sls) (vs : List Nat) : Sls := (wipeS ρ vs).map unloc
section
variable (K : PySem.W.Frag) (g : TG) (tt : TT) (te : TE) (vs : List Nat)
def compL : List D → Sls → List D → (Sls → List D → Prop) → Prop
  | [], ρ, acc, P => P ρ acc
  | x :: r, ρ, acc, P => ∀ F, wG K F g x ρ fun ρ2 => wT K F tt ρ2 fun ρ3 b => Ways b (wE K F te ρ3 fun ρ4 y => compL r (wipeU ρ4 vs) (acc ++ [y]) P) (compL r (wipeU ρ3 vs) acc P)
end
/-- the target's slots are those that are wiped -/
def Tgt (g : TG) (vs : List Nat) : Prop := ∀ (x : V) (σ : St) (H : Hp) (Q Q' : St → Hp → Prop), g x (wipe σ vs) H Q → (∀ σ2 H2, wipe σ2 vs = wipe σ vs → Q σ2 H2 → Q' σ2 H2) → g x (wipe σ vs) H Q'
theorem wipe_set {σ : St} {w : Option V} : ∀ {vs : List Nat} {i : Nat}, i ∈ vs → wipe (σ.set i w) vs = wipe σ vs
  | v :: vs, i, h => by
    unfold wipe
    by_cases hi : i = v
    · subst hi
      by_cases hm : i ∈ vs
      · rw [wipe_set hm]
      · have : ∀ us : List Nat, i ∉ us → wipe (σ.set i w) us = (wipe σ us).set i w := by
          intro us
          induction us with
          | nil => intro _; rfl
          | cons u us ih =>
            intro hu
            have h1 : i ≠ u := fun z => hu (by rw [z]; exact List.mem_cons_self ..)
            have h2 : i ∉ us := fun z => hu (List.mem_cons_of_mem _ z)
            unfold wipe
            rw [ih h2, List.set_comm _ _ h1]
        rw [this vs hm, List.set_set]
    · rw [wipe_set ((List.mem_cons.mp h).resolve_left hi)]
theorem wipe_wipe {σ : St} : ∀ {vs us : List Nat}, (∀ v ∈ vs, v ∈ us) → wipe (wipe σ vs) us = wipe σ us
  | [], _, _ => rfl
  | v :: vs, us, h => by
    show wipe ((wipe σ vs).set v none) us = wipe σ us
    rw [wipe_set (h v (List.mem_cons_self ..)), wipe_wipe fun w hw => h w (List.mem_cons_of_mem _ hw)]
theorem tgt_name {i : Nat} {vs : List Nat} (h : i ∈ vs) : Tgt (gName i) vs := fun x σ H Q Q' q m => m _ _ (by rw [wipe_set h, wipe_wipe fun v hv => hv]) q
theorem tgt_tup2 {K : PySem.W.Frag} {i j : Nat} {vs : List Nat} (h : i ∈ vs) (h' : j ∈ vs) : Tgt (gTup K 2 (gCons (gName i) (gCons (gName j) gNil))) vs := fun x σ H Q Q' q m => by
  obtain ⟨a, xs, h1, h2, h3, v, r, h4, v', r', h5, h6, q⟩ := q
  refine ⟨a, xs, h1, h2, h3, v, r, h4, v', r', h5, h6, m _ _ ?_ q⟩
  rw [wipe_set h', wipe_set h, wipe_wipe fun v hv => hv]
theorem tgt_tup3 {K : PySem.W.Frag} {i j k : Nat} {vs : List Nat} (h : i ∈ vs) (h' : j ∈ vs) (h'' : k ∈ vs) : Tgt (gTup K 3 (gCons (gName i) (gCons (gName j) (gCons (gName k) gNil)))) vs := fun x σ H Q Q' q m => by
  obtain ⟨a, xs, h1, h2, h3, v, r, h4, v', r', h5, v'', r'', h6, h7, q⟩ := q
  refine ⟨a, xs, h1, h2, h3, v, r, h4, v', r', h5, v'', r'', h6, h7, m _ _ ?_ q⟩
  rw [wipe_set h'', wipe_set h', wipe_set h, wipe_wipe fun v hv => hv]
section
variable {K : PySem.W.Frag} {F : Fr} {ρ : Sls} {g : TG} {tt : TT} {te : TE} {vs : List Nat}
/-- what stands between two turns of a comprehension whose list is at Dl -/
structure CompAt (K : PySem.W.Frag) (F : Fr) (g : TG) (tt : TT) (te : TE) (vs : List Nat) (σ : St) (G1 : Hp) (Dl : Addr) (P : Sls → List D → Prop) (n : Nat) (r : List D) (H' G' : Hp) (ρ' : Sls) (acc : List D) (vacc : List V) : Prop where
  S : SRel K F G' H' (wipe σ vs) ρ'
  e : Ex G1 G'
  hg : G' Dl = none
  hh : H' Dl = some (.lst vacc)
  hr : RepL K G' vacc acc
  hno : ∀ (i : Nat) (l : Kd) (ds : List D), ρ'[i]? = some (.ow l ds) → (wipe σ vs)[i]? ≠ some (some (.ref Dl))
  hf : F.H0 Dl = none
  hl : acc.length ≤ n
  u : ρ'.map unloc = ρ'
  c : compL K g tt te vs r ρ' acc P
abbrev CompEx (K : PySem.W.Frag) (F : Fr) (g : TG) (tt : TT) (te : TE) (vs : List Nat) (σ : St) (G1 : Hp) (Dl : Addr) (P : Sls → List D → Prop) (n : Nat) (r : List D) (H' : Hp) : Prop := ∃ G' ρ' acc vacc, CompAt K F g tt te vs σ G1 Dl P n r H' G' ρ' acc vacc
/-- a list that is nobody's own is changed -/
theorem SRel.other {G H : Hp} {σ : St} (S : SRel K F G H σ ρ) {p : Addr} {o : HO} (hg : G p = none) (hf : F.H0 p = none) (hn : ∀ (i : Nat) (l : Kd) (ds : List D), ρ[i]? = some (.ow l ds) → σ[i]? ≠ some (some (.ref p))) (hd : ND σ ρ p) : SRel K F G (upd H p o) σ ρ := by
  refine ⟨⟨fun a u q => ?_, S.fr.old, fun a u q np => ?_, fun a u q => ?_⟩, S.len, fun i s w h1 h2 => ?_, S.dis, S.own, S.disD, S.ownD⟩
  · have ha : a ≠ p := fun z => by rw [z, hg] at q; cases q
    rw [upd_ne ha]
    exact S.ex a u q
  · have ha : a ≠ p := fun z => by rw [z, hf] at q; cases q
    rw [upd_ne ha]
    exact S.fr.kp a u q np
  · have ha : a ≠ p := fun z => by rw [z, hf] at q; cases q
    rw [upd_ne ha]
    exact S.fr.th a u q
  · have q := S.sl i s w h1 h2
    cases s with
    | un => cases w <;> trivial
    | fz d =>
      cases w with
      | none => exact q
      | some v => exact q
    | ow l ds =>
      cases w with
      | none => exact q
      | some v =>
        obtain ⟨a, us, rfl, q1, q2, q3⟩ := q
        have ha : a ≠ p := fun z => hn i l ds h1 (by rw [h2, z])
        exact ⟨a, us, rfl, q1, by rw [upd_ne ha]; exact q2, q3⟩
    | od l ds =>
      cases w with
      | none => exact q
      | some v =>
        obtain ⟨a, us, rfl, q1, q2, q3⟩ := q
        have ha : a ≠ p := fun z => hd i l ds h1 (by rw [h2, z])
        exact ⟨a, us, rfl, q1, by rw [upd_ne ha]; exact q2, q3⟩
theorem comp_turn (hT : Tgt g vs) {σ : St} {G1 H2 : Hp} {Dl : Addr} {P : Sls → List D → Prop} {n : Nat} {d : D} {r : List D} {x : V} (hn : n < 100000) (c : CompEx K F g tt te vs σ G1 Dl P n (d :: r) H2) (hx : ∀ G', Ex G1 G' → Rep K G' x d) :
    g x (wipe σ vs) H2 fun σ2 H3 => wipe σ2 vs = wipe σ vs ∧ tt σ2 H3 fun b H4 =>
      if b = true then te σ2 H4 fun y H5 => ∃ acc, H5 Dl = some (.lst acc) ∧ acc.length < sizeLine ∧ CompEx K F g tt te vs σ G1 Dl P (n + 1) r (upd H5 Dl (.lst (acc ++ [y]))) else CompEx K F g tt te vs σ G1 Dl P (n + 1) r H4 := by
  obtain ⟨G', ρ', acc, vacc, S', e', hg, hh, hr, hno, hf, hl, hu, hc⟩ := c
  have R := S'.reframe
  rw [hu] at R
  -- from the turn's own frame to the loop's
  have back : ∀ {G'' H'' : Hp} {σ'' : St} {ρ'' : Sls}, SRel K (here G' H2 (wipe σ vs) ρ') G'' H'' σ'' ρ'' → wipe σ'' vs = wipe σ vs → SRel K F G'' H'' (wipe σ vs) (wipeU ρ'' vs) ∧ Ex G' G'' ∧ G'' Dl = none ∧ H'' Dl = some (.lst vacc) ∧ (∀ (i : Nat) (l : Kd) (ds : List D), (wipeU ρ'' vs)[i]? = some (.ow l ds) → (wipe σ vs)[i]? ≠ some (some (.ref Dl))) := by
    intro G'' H'' σ'' ρ'' T hw
    have W := (S'.back T).wipes vs
    rw [hw, wipeS_unloc] at W
    have W1 := T.unlocs.wipes vs
    rw [hw, wipeS_unloc] at W1
    have hD : H'' Dl = some (.lst vacc) := T.fr.kp Dl _ hh (by
      rintro (⟨i, l, ds, h1, h2⟩ | ⟨i, l, ds, h1, h2⟩)
      · exact hno i l ds h1 h2
      · exact S'.ndL hh i l ds h1 h2)
    refine ⟨W, FrOk.grow T.fr S'.ex, ?_, hD, fun i l ds h z => ?_⟩
    · rw [T.fr.old Dl _ hh]
      exact hg
    · rcases (W1.own i l ds Dl h z).or with q | ⟨j, l', ds', k1, k2⟩ | ⟨j, l', ds', k1, k2⟩
      · have q' : H2 Dl = none := q
        rw [hh] at q'
        cases q'
      · exact hno j l' ds' k1 k2
      · exact S'.ndL hh j l' ds' k1 k2
  refine hT x σ H2 _ _ (hc (here G' H2 (wipe σ vs) ρ') (wipe σ vs) G' H2 x R (hx G' e') (fun σ3 H3 => ∃ ρ3 G3, wT K (here G' H2 (wipe σ vs) ρ') tt ρ3 _ ∧ SRel K (here G' H2 (wipe σ vs) ρ') G3 H3 σ3 ρ3 ∧ Ex G' G3) fun ρ3 σ3 G3 H3 h3 S3 e3 => ⟨ρ3, G3, h3, S3, e3⟩) ?_
  rintro σ3 H3 hw ⟨ρ3, G3, h3, S3, e3⟩
  refine ⟨hw, h3 σ3 G3 H3 S3 _ fun b ρ4 G4 H4 h4 S4 e4 => ?_⟩
  cases b with
  | false =>
    obtain ⟨B1, B2, B3, B4, B5⟩ := back S4 hw
    exact ⟨G4, wipeU ρ4 vs, acc, vacc, B1, e'.trans B2, B3, B4, RepL.up B2 hr, B5, hf, Nat.le_succ_of_le hl, map_unloc _, h4.2 rfl⟩
  | true =>
    refine h4.1 rfl σ3 G4 H4 S4 _ fun y dy ρ5 G5 H5 h5 S5 r5 e5 => ?_
    obtain ⟨B1, B2, B3, B4, B5⟩ := back S5 hw
    refine ⟨vacc, B4, Evl.sz_lt (by rw [hr.length]; omega), G5, wipeU ρ5 vs, acc ++ [dy], vacc ++ [y], B1.other B3 hf B5 (B1.ndL B4), e'.trans B2, B3, upd_same, (RepL.up B2 hr).append (.cons r5 .nil), B5, hf, by rw [List.length_append, List.length_singleton]; omega, map_unloc _, h5⟩
theorem comp_start {σ : St} {G1 H1 : Hp} (S1 : SRel K F G1 H1 σ ρ) {ds : List D} {P : Sls → List D → Prop} (c : compL K g tt te vs ds (wipeU ρ vs) [] P) {Dl : Addr} (hD : H1 Dl = none) : CompEx K F g tt te vs σ G1 Dl P 0 ds (upd H1 Dl (.lst [])) := by
  have W := (S1.wipes vs).unlocs
  exact ⟨G1, wipeU ρ vs, [], [], W.alloc hD, Ex.refl G1, W.fr.freshG hD, upd_same, .nil, W.notOwn hD, W.fr.fresh hD, Nat.le_refl _, map_unloc _, c⟩
theorem comp_end {σ : St} {G1 H1 H' : Hp} (S1 : SRel K F G1 H1 σ ρ) {Dl : Addr} {n : Nat} {P : Sls → List D → Prop} (c : CompEx K F g tt te vs σ G1 Dl (fun ρ' acc => P (restS vs 0 ρ ρ') acc) n [] H') (hD : H1 Dl = none) :
    ∃ G' ρ' acc vacc, P ρ' acc ∧ SRel K F G' H' σ ρ' ∧ Own K F G' H' σ ρ' Dl vacc acc ∧ Ex G1 G' := by
  obtain ⟨G', ρ', acc, vacc, S', e', hg, hh, hr, hno, hf, hl, hu, hc⟩ := c
  have T := S1.rest e' S'
  refine ⟨G', _, acc, vacc, hc, T, ⟨hg, hh, hr, hf, fun i l ds h z => ?_⟩, e'⟩
  obtain ⟨a, b, q1, q2, q3⟩ := restS_get vs 0 ρ _ i _ h
  rw [Nat.zero_add] at q3
  by_cases cc : vs.contains i = true
  · cases a <;> cases b <;> simp only [rest1, cc, cond_true] at q3 <;> cases q3
  · have cm : i ∉ vs := fun z => cc (by simpa using z)
    cases a <;> cases b <;> simp only [rest1, Bool.eq_false_iff.mpr cc, cond_false] at q3 <;> cases q3
    exact hno i _ _ q2 (by rw [wipe_get cm]; exact z)
variable {P : Sls → List D → Prop}
theorem wO_lcL {tl : TE} (hT : Tgt g vs) (h : wE K F tl ρ fun ρ1 d => ∃ ds, d = .lst ds ∧ ds.length ≤ 100000 ∧ compL K g tt te vs ds (wipeU ρ1 vs) [] fun ρ' acc => P (restS vs 0 ρ1 ρ') acc) : wO K F (tLc (iList K tl) g tt te vs) ρ P := fun σ G H S Q q =>
  h σ G H S _ fun v d ρ1 G1 H1 h1 S1 r1 e1 => by
    obtain ⟨ds, rfl, hl, f⟩ := h1
    cases r1 with
    | lst ha hr =>
      rename_i a xs
      refine ⟨a, rfl, ⟨xs, SqL.of (S1.ex _ _ ha)⟩, fun Dl hD => lc_list (K := K) (a := a) (xs := xs) (fun i H' => CompEx K F g tt te vs σ G1 Dl (fun ρ' acc => P (restS vs 0 ρ1 ρ') acc) i (ds.drop i) H') (comp_start S1 f hD) (fun i H' _ c => ?_) (fun i x H' hx c => ?_) fun H' c => ?_⟩
      · obtain ⟨G', ρ', acc, vacc, c⟩ := c
        exact SqL.of (c.S.ex _ _ (c.e _ _ ha))
      · obtain ⟨d, hd, rd⟩ := hr.getV hx
        rw [drop_at hd] at c
        have hlt := (List.getElem?_eq_some_iff.mp hd).1
        exact comp_turn hT (by omega) c fun G' e' => rd.up e'
      · rw [hr.length, List.drop_length] at c
        obtain ⟨G', ρ', acc, vacc, p, S', o, e'⟩ := comp_end (P := P) S1 c hD
        exact q _ _ _ ρ' G' H' p S' o (e1.trans e')
theorem wO_lcT {tl : TE} (hT : Tgt g vs) (h : wE K F tl ρ fun ρ1 d => ∃ ds, d = .tup ds ∧ ds.length ≤ 100000 ∧ compL K g tt te vs ds (wipeU ρ1 vs) [] fun ρ' acc => P (restS vs 0 ρ1 ρ') acc) : wO K F (tLc (iTup K tl) g tt te vs) ρ P := fun σ G H S Q q =>
  h σ G H S _ fun v d ρ1 G1 H1 h1 S1 r1 e1 => by
    obtain ⟨ds, rfl, hl, f⟩ := h1
    cases r1 with
    | tup ha hr =>
      rename_i a xs
      refine ⟨a, rfl, ⟨xs, Evl.ex_t S1.ex ha⟩, fun Dl hD => lc_tup (K := K) (a := a) (xs := xs) (fun i H' => CompEx K F g tt te vs σ G1 Dl (fun ρ' acc => P (restS vs 0 ρ1 ρ') acc) i (ds.drop i) H') (comp_start S1 f hD) (fun i H' _ c => ?_) (fun i x H' hx c => ?_) fun H' c => ?_⟩
      · obtain ⟨G', ρ', acc, vacc, c⟩ := c
        exact Evl.ex_t (c.e.trans c.S.ex) ha
      · obtain ⟨d, hd, rd⟩ := hr.getV hx
        rw [drop_at hd] at c
        have hlt := (List.getElem?_eq_some_iff.mp hd).1
        exact comp_turn hT (by omega) c fun G' e' => rd.up e'
      · rw [hr.length, List.drop_length] at c
        obtain ⟨G', ρ', acc, vacc, p, S', o, e'⟩ := comp_end (P := P) S1 c hD
        exact q _ _ _ ρ' G' H' p S' o (e1.trans e')
theorem comp_rng (hT : Tgt g vs) {σ : St} {G1 H1 : Hp} (S1 : SRel K F G1 H1 σ ρ) {lo : Int} {n : Nat} (hn : n ≤ 100000) (f : compL K g tt te vs (rng lo n) (wipeU ρ vs) [] fun ρ' acc => P (restS vs 0 ρ ρ') acc) {Q : VK}
    (q : ∀ (p : Addr) (vs : List V) (ds : List D) (ρ' : Sls) (G' H' : Hp), P ρ' ds → SRel K F G' H' σ ρ' → Own K F G' H' σ ρ' p vs ds → Ex G1 G' → Q (.ref p) H') : ∀ Dl, H1 Dl = none → ∃ W : Nat → Nat → Hp → Prop, (∃ m, W 0 m (upd H1 Dl (.lst []))) ∧ ∀ i m H, W i m H →
      ((Itr lo n).stop i H ∧ Q (.ref Dl) H) ∨ ((Itr lo n).go i H ∧ ∃ Nx : Hp → Prop, (∀ H', Nx H' → ∃ m', m' < m ∧ W (i + 1) m' H') ∧ ∀ x H', (Itr lo n).yld i H x H' → g x (wipe σ vs) H' fun σ2 H2 => wipe σ2 vs = wipe σ vs ∧ tt σ2 H2 fun b H3 =>
        if b = true then te σ2 H3 fun y H4 => ∃ acc, H4 Dl = some (.lst acc) ∧ acc.length < sizeLine ∧ Nx (upd H4 Dl (.lst (acc ++ [y]))) else Nx H3) := fun Dl hD => by
  refine lc_range (lo := lo) (n := n) (Qd := fun H => Q (.ref Dl) H) (fun i H' => CompEx K F g tt te vs σ G1 Dl (fun ρ' acc => P (restS vs 0 ρ ρ') acc) i ((rng lo n).drop i) H') (comp_start S1 f hD) (fun i H' hi c => ?_) fun H' c => ?_
  · rw [drop_at (rng_get hi)] at c
    exact comp_turn hT (by omega) c fun G' e' => .int _
  · have z : (rng lo n).drop n = [] := List.drop_eq_nil_of_le (by rw [rng_len]; exact Nat.le_refl n)
    rw [z] at c
    obtain ⟨G', ρ', acc, vacc, p, S', o, e'⟩ := comp_end (P := P) S1 c hD
    exact q _ _ _ ρ' G' H' p S' o e'
theorem wO_lcR1 {ta : TA} (hT : Tgt g vs) (h : wA K F ta ρ fun ρ1 ds => ∃ n : Int, ds = [.int n] ∧ -(2 ^ 62) ≤ n ∧ n ≤ 100000 ∧ compL K g tt te vs (rng 0 n.toNat) (wipeU ρ1 vs) [] fun ρ' acc => P (restS vs 0 ρ1 ρ') acc) : wO K F (tLc (iRng1 ta) g tt te vs) ρ P := fun σ G H S Q q =>
  h σ G H S _ fun vs' ds ρ1 G1 H1 h1 S1 r1 e1 => by
    obtain ⟨n, rfl, h2, h3, f⟩ := h1
    cases r1 with
    | cons ra rr =>
      cases rr; cases ra
      exact ⟨n, rfl, h2, by omega, comp_rng hT S1 (by omega) f fun p ws ds ρ' G' H' pp S' o e' => q p ws ds ρ' G' H' pp S' o (e1.trans e')⟩
end
end DL
namespace DL
open PySem L2
open Evl (Ex)

/-! ### promises of defs, over data -/
inductive Rs where
  | fz (d : D)
  | ow (ds : List D)
def RsR (K : PySem.W.Frag) (F : Fr) (G' H' : Hp) (v : V) : Rs → Prop
  | .fz d => Rep K G' v d
  | .ow ds => ∃ p vs, v = .ref p ∧ G' p = none ∧ H' p = some (.lst vs) ∧ RepL K G' vs ds ∧ F.H0 p = none
def RsP (P : D → Prop) : Rs → Prop
  | .fz d => P d
  | .ow ds => P (.lst ds)
def RsO (P : List D → Prop) : Rs → Prop
  | .fz _ => False
  | .ow ds => P ds
abbrev XD := Addr → List (Str × D) → Prop
/-- what is wished of what is raised -/
def EOk (K : PySem.W.Frag) (F : Fr) (E : XK) (X : XD) : Prop := ∀ (C : Addr) (fs : List (Str × D)) (d : Addr) (G' H' : Hp) (fvs : List (Str × V)), X C fs → FrOk F G' H' → H' d = some (.xd fvs) → RepF K G' fvs fs → F.H0 d = none → G' d = none → E (.ref C) (some d) H'
def fr0 (G H : Hp) : Fr := ⟨G, H, fun _ => False⟩
def fr1 (G H : Hp) (p : Addr) : Fr := ⟨G, H, fun a => a = p⟩
abbrev X0 : XD := fun _ _ => False
theorem eok0 {K : PySem.W.Frag} {F : Fr} {E : XK} : EOk K F E X0 := fun _ _ _ _ _ _ h => h.elim
/-- things in, a thing out -/
abbrev W0 := List D → (Rs → Prop) → XD → Prop
def sp0 (K : PySem.W.Frag) (W : W0) : Sp := fun vs H Q E => ∃ (G : Hp) (ds : List D) (Φ : Rs → Prop) (X : XD), Ex G H ∧ RepL K G vs ds ∧ W ds Φ X ∧
  (∀ (r : Rs) (v : V) (G' H' : Hp), Φ r → FrOk (fr0 G H) G' H' → RsR K (fr0 G H) G' H' v r → Q v H') ∧ EOk K (fr0 G H) E X
/-- an own list ahead, which the def may change -/
abbrev W1 := List D → List D → (List D → Rs → Prop) → XD → Prop
def sp1 (K : PySem.W.Frag) (W : W1) : Sp := fun vs H Q E => ∃ (G : Hp) (p : Addr) (us : List V) (ds : List D) (ws : List V) (es : List D) (Φ : List D → Rs → Prop) (X : XD), vs = .ref p :: ws ∧ Ex G H ∧ G p = none ∧ H p = some (.lst us) ∧ RepL K G us ds ∧ RepL K G ws es ∧ W ds es Φ X ∧
  (∀ (ds' : List D) (r : Rs) (v : V) (G' H' : Hp) (us' : List V), Φ ds' r → FrOk (fr1 G H p) G' H' → G' p = none → H' p = some (.lst us') → RepL K G' us' ds' → RsR K (fr1 G H p) G' H' v r → Q v H') ∧ EOk K (fr1 G H p) E X
section
variable {K : PySem.W.Frag} {F : Fr} {ρ : Sls} {P : Sls → D → Prop} {ta : TA}
theorem FrOk.after0 {G H G' H' : Hp} (f : FrOk F G H) (T : FrOk (fr0 G H) G' H') : FrOk F G' H' := ⟨T.ex, fun a o h => by
    obtain ⟨o', q⟩ := f.th a o h
    exact (T.old a o' q).trans (f.old a o h), fun a o h np => T.kp a o (f.kp a o h np) (fun z => z), fun a o h => by
    obtain ⟨o', q⟩ := f.th a o h
    exact T.th a o' q⟩
theorem SRel.after0 {G H G' H' : Hp} {σ : St} (S : SRel K F G H σ ρ) (T : FrOk (fr0 G H) G' H') : SRel K F G' H' σ ρ ∧ Ex G G' := by
  have e : Ex G G' := fun a o h => by
    rw [T.old a o (S.ex a o h)]
    exact h
  refine ⟨⟨S.fr.after0 T, S.len, fun i s o h1 h2 => (S.sl i s o h1 h2).up e (fun p hg ⟨o, hh⟩ => (T.old p o hh).trans hg) (fun p o hh _ => T.kp p o hh (fun z => z)), S.dis, S.own, S.disD, S.ownD⟩, e⟩
theorem RsR.own {G H G' H' : Hp} {σ : St} {v : V} {r : Rs} {ds : List D} (S : SRel K F G H σ ρ) (T : FrOk (fr0 G H) G' H') (h : RsR K (fr0 G H) G' H' v (.ow ds)) : ∃ p vs, v = .ref p ∧ Own K F G' H' σ ρ p vs ds := by
  obtain ⟨p, vs, rfl, h1, h2, h3, h4⟩ := h
  exact ⟨p, vs, rfl, h1, h2, h3, S.fr.fresh h4, S.notOwn h4⟩
theorem EOk.after0 {G H : Hp} {σ : St} {E : XK} {X : XD} (S : SRel K F G H σ ρ) (hE : EOk K F E X) : EOk K (fr0 G H) E X := fun C fs d G' H' fvs h T hd hr n1 n2 => hE C fs d G' H' fvs h (S.fr.after0 T) hd hr (S.fr.fresh n1) n2
theorem wE_call {W : W0} {E : XK} {X : XD} (hE : EOk K F E X) (h : wA K F ta ρ fun ρ1 ds => W ds (RsP (P ρ1)) X) : wE K F (tCall (sp0 K W) [] E ta) ρ P := fun σ G H S Q q =>
  h σ G H S _ fun vs ds ρ1 G1 H1 h1 S1 r1 e1 => by
    rw [List.append_nil]
    refine ⟨G1, ds, _, X, S1.ex, r1, h1, fun r v G' H' hr T rr => ?_, EOk.after0 S1 hE⟩
    obtain ⟨S2, e2⟩ := S1.after0 T
    cases r with
    | fz d => exact q v d ρ1 G' H' hr S2 rr (e1.trans e2)
    | ow ds' =>
      obtain ⟨p, vs', rfl, o⟩ := RsR.own (r := .ow ds') S1 T rr
      obtain ⟨G3, S3, e3, r3⟩ := o.freeze S2
      exact q _ _ ρ1 G3 H' hr S3 r3 ((e1.trans e2).trans e3)
theorem wO_call {W : W0} {E : XK} {X : XD} {PO : Sls → List D → Prop} (hE : EOk K F E X) (h : wA K F ta ρ fun ρ1 ds => W ds (RsO (PO ρ1)) X) : wO K F (tCall (sp0 K W) [] E ta) ρ PO := fun σ G H S Q q =>
  h σ G H S _ fun vs ds ρ1 G1 H1 h1 S1 r1 e1 => by
    rw [List.append_nil]
    refine ⟨G1, ds, _, X, S1.ex, r1, h1, fun r v G' H' hr T rr => ?_, EOk.after0 S1 hE⟩
    obtain ⟨S2, e2⟩ := S1.after0 T
    cases r with
    | fz d => exact hr.elim
    | ow ds' =>
      obtain ⟨p, vs', rfl, o⟩ := RsR.own (r := .ow ds') S1 T rr
      exact q p vs' ds' ρ1 G' H' hr S2 o (e1.trans e2)
/-- behind a call that may change slot i's own list -/
theorem FrOk.after1 {G H G' H' : Hp} {σ : St} {i : Nat} {l : Kd} {ds : List D} {p : Addr} (S : SRel K F G H σ ρ) (hi : ρ[i]? = some (.ow l ds)) (hp : σ[i]? = some (some (.ref p))) (T : FrOk (fr1 G H p) G' H') : FrOk F G' H' := ⟨T.ex, fun a o h => by
    obtain ⟨o', q⟩ := S.fr.th a o h
    exact (T.old a o' q).trans (S.fr.old a o h), fun a o h np => T.kp a o (S.fr.kp a o h np) (fun z => by
      have z' : a = p := z
      subst z'
      rcases (S.own i l ds a hi hp).or with w | w
      · rw [w] at h; cases h
      · exact np w), fun a o h => by
    obtain ⟨o', q⟩ := S.fr.th a o h
    exact T.th a o' q⟩
theorem SRel.after1 {G H G' H' : Hp} {σ : St} {i : Nat} {l : Kd} {ds ds' : List D} {p : Addr} {us : List V} (S : SRel K F G H σ ρ) (hi : ρ[i]? = some (.ow l ds)) (hp : σ[i]? = some (some (.ref p))) (T : FrOk (fr1 G H p) G' H') (hg : G' p = none) (hh : H' p = some (.lst us)) (hr : RepL K G' us ds') :
    SRel K F G' H' σ (ρ.set i (.ow l ds')) ∧ Ex G G' := by
  have e : Ex G G' := fun a o h => by
    rw [T.old a o (S.ex a o h)]
    exact h
  have hl : i < ρ.length := (List.getElem?_eq_some_iff.mp hi).1
  have get : ∀ (j : Nat) (s : Sl), (ρ.set i (.ow l ds'))[j]? = some s → (j = i ∧ s = .ow l ds') ∨ (j ≠ i ∧ ρ[j]? = some s) := fun j s h => by
    by_cases hj : j = i
    · subst hj
      rw [List.getElem?_set_self hl] at h
      cases h
      exact .inl ⟨rfl, rfl⟩
    · rw [List.getElem?_set_ne (Ne.symm hj)] at h
      exact .inr ⟨hj, h⟩
  have geto : ∀ (j : Nat) (m : Kd) (es : List D), (ρ.set i (.ow l ds'))[j]? = some (.ow m es) → ∃ es', ρ[j]? = some (.ow m es') := fun j m es h => by
    rcases get j _ h with ⟨rfl, z⟩ | ⟨_, h⟩
    · cases z
      exact ⟨_, hi⟩
    · exact ⟨_, h⟩
  refine ⟨⟨FrOk.after1 S hi hp T, by rw [List.length_set]; exact S.len, fun j s w h1 h2 => ?_, fun a b q m n da db h1 h2 h3 h4 => ?_, fun j m da q h1 h2 => ?_, fun a b q m n da db h1 h2 h3 h4 => ?_, fun j m da q h1 h2 => ?_⟩, e⟩
  · rcases get j s h1 with ⟨rfl, rfl⟩ | ⟨hj, h1⟩
    · rw [hp] at h2
      cases h2
      exact ⟨p, us, rfl, hg, hh, hr⟩
    · have q := S.sl j s w h1 h2
      cases s with
      | un => cases w <;> trivial
      | fz d =>
        cases w with
        | none => exact q
        | some v => exact Rep.up e q
      | ow m dj =>
        cases w with
        | none => exact q
        | some v =>
          obtain ⟨a, vs, rfl, q1, q2, q3⟩ := q
          have ha : a ≠ p := fun z => by
            subst z
            exact hj (S.dis j i a m l dj ds h1 hi h2 hp)
          exact ⟨a, vs, rfl, (T.old a _ q2).trans q1, T.kp a _ q2 ha, RepL.up e q3⟩
      | od m dj =>
        cases w with
        | none => exact q
        | some v =>
          obtain ⟨a, vs, rfl, q1, q2, q3⟩ := q
          have ha : a ≠ p := fun z => by
            subst z
            obtain ⟨p', us', e1, _, e3, _⟩ := S.ow hi
            rw [hp] at e1
            cases e1
            rw [e3] at q2
            cases q2
          exact ⟨a, vs, rfl, (T.old a _ q2).trans q1, T.kp a _ q2 ha, RepK.up e q3⟩
  · obtain ⟨_, h1⟩ := geto a _ _ h1
    obtain ⟨_, h2⟩ := geto b _ _ h2
    exact S.dis a b q _ _ _ _ h1 h2 h3 h4
  · obtain ⟨es', h1⟩ := geto j _ _ h1
    exact S.own j m es' q h1 h2
  · rcases get a _ h1 with ⟨_, z⟩ | ⟨_, h1⟩
    · cases z
    · rcases get b _ h2 with ⟨_, z⟩ | ⟨_, h2⟩
      · cases z
      · exact S.disD a b q _ _ _ _ h1 h2 h3 h4
  · rcases get j _ h1 with ⟨_, z⟩ | ⟨_, h⟩
    · cases z
    · exact S.ownD j m da q h h2
theorem EOk.after1 {G H : Hp} {σ : St} {i : Nat} {l : Kd} {ds : List D} {p : Addr} {E : XK} {X : XD} (S : SRel K F G H σ ρ) (hi : ρ[i]? = some (.ow l ds)) (hp : σ[i]? = some (some (.ref p))) (hE : EOk K F E X) : EOk K (fr1 G H p) E X := fun C fs d G' H' fvs h T hd hr n1 n2 => hE C fs d G' H' fvs h (FrOk.after1 S hi hp T) hd hr (S.fr.fresh n1) n2
theorem wE_call1 {W : W1} {E : XK} {X : XD} {i : Nat} {tr : TA} (hE : EOk K F E X) (hi : ∃ (l : Kd) (ds : List D), ρ[i]? = some (.ow l ds)) (h : wA K F tr ρ fun ρ1 es => ∃ (l : Kd) (ds : List D), ρ1[i]? = some (.ow l ds) ∧ W ds es (fun ds' r => RsP (P (ρ1.set i (.ow l ds'))) r) X) :
    wE K F (tCall (sp1 K W) [] E (tCons (tVar i) tr)) ρ P := fun σ G H S Q q => by
  obtain ⟨l0, ds0, hi⟩ := hi
  obtain ⟨p, us0, hp, _⟩ := S.ow hi
  refine ⟨.ref p, hp, h σ G H S _ fun vs es ρ1 G1 H1 h1 S1 r1 e1 => ?_⟩
  obtain ⟨l, ds, hi1, hW⟩ := h1
  obtain ⟨p', us, hp', hg, hh, hr⟩ := S1.ow hi1
  rw [hp] at hp'
  cases hp'
  show sp1 K W ((V.ref p :: vs) ++ []) H1 Q E
  rw [List.append_nil]
  refine ⟨G1, p, us, ds, vs, es, _, X, rfl, S1.ex, hg, hh, hr, r1, hW, fun ds' r v G' H' us' hΦ T hg' hh' hr' rr => ?_, EOk.after1 S1 hi1 hp hE⟩
  obtain ⟨S2, e2⟩ := S1.after1 hi1 hp T hg' hh' hr'
  cases r with
  | fz d => exact q v d _ G' H' hΦ S2 rr (e1.trans e2)
  | ow ds2 =>
    obtain ⟨a, ws, rfl, k1, k2, k3, k4⟩ := rr
    have o : Own K F G' H' σ (ρ1.set i (.ow l ds')) a ws ds2 := ⟨k1, k2, k3, S1.fr.fresh k4, fun j m es hj => by
      by_cases hji : j = i
      · subst hji
        intro z
        rw [hp] at z
        cases z
        have k4' : H1 p = none := k4
        rw [hh] at k4'
        cases k4'
      · rw [List.getElem?_set_ne (Ne.symm hji)] at hj
        exact S1.notOwn (show H1 a = none from k4) j m es hj⟩
    obtain ⟨G3, S3, e3, r3⟩ := o.freeze S2
    exact q _ _ _ G3 H' hΦ S3 r3 ((e1.trans e2).trans e3)

/-! ### a def's body against its promise -/
def st0 (N : List Str) (ds : List D) : Sls := ds.map .fz ++ List.replicate (N.length - ds.length) .un
def out0 (Φ : Rs → Prop) : Out := { nx := fun _ => Φ (.fz .non), rt := fun _ d => Φ (.fz d), ro := fun _ ds => Φ (.ow ds) }
theorem start_get {N : List Str} {vs : List V} {i : Nat} {o : Option V} (h : (start N vs)[i]? = some o) : (i < vs.length ∧ o = vs[i]?) ∨ (vs.length ≤ i ∧ o = none) := by
  unfold L2.start at h
  by_cases hl : i < vs.length
  · rw [List.getElem?_append_left (by rw [List.length_map]; exact hl), List.getElem?_map, List.getElem?_eq_getElem hl] at h
    cases h
    exact .inl ⟨hl, (List.getElem?_eq_getElem hl).symm⟩
  · rw [List.getElem?_append_right (by rw [List.length_map]; omega)] at h
    refine .inr ⟨by omega, ?_⟩
    have := List.mem_of_getElem? h
    exact (List.mem_replicate.mp this).2
theorem st0_get {N : List Str} {ds : List D} {i : Nat} {s : Sl} (h : (st0 N ds)[i]? = some s) : (∃ d, ds[i]? = some d ∧ s = .fz d) ∨ s = .un := by
  unfold st0 at h
  by_cases hl : i < ds.length
  · rw [List.getElem?_append_left (by rw [List.length_map]; exact hl), List.getElem?_map, List.getElem?_eq_getElem hl] at h
    cases h
    exact .inl ⟨ds[i], List.getElem?_eq_getElem hl, rfl⟩
  · rw [List.getElem?_append_right (by rw [List.length_map]; omega)] at h
    exact .inr (List.mem_replicate.mp (List.mem_of_getElem? h)).2
theorem srel0 {N : List Str} {vs : List V} {ds : List D} {G H : Hp} (e : Ex G H) (r : RepL K G vs ds) : SRel K (fr0 G H) G H (start N vs) (st0 N ds) := by
  refine ⟨⟨e, fun _ _ _ => rfl, fun a o h _ => h, fun a o h => ⟨o, h⟩⟩, ?_, fun i s o h1 h2 => ?_, fun i j p l m di dj h1 => ?_, fun i l di p h1 => ?_, fun i j p l m di dj h1 => ?_, fun i l di p h1 => ?_⟩
  · unfold L2.start st0
    rw [List.length_append, List.length_append, List.length_map, List.length_map, List.length_replicate, List.length_replicate, r.length]
  · rcases st0_get h1 with ⟨d, hd, rfl⟩ | rfl
    · obtain ⟨v, hv, rv⟩ := r.get hd
      rcases start_get h2 with ⟨_, z⟩ | ⟨z, _⟩
      · rw [z, hv]
        exact rv
      · rw [List.getElem?_eq_none z] at hv
        cases hv
    · cases o <;> trivial
  · rcases st0_get h1 with ⟨_, _, z⟩ | z <;> cases z
  · rcases st0_get h1 with ⟨_, _, z⟩ | z <;> cases z
  · rcases st0_get h1 with ⟨_, _, z⟩ | z <;> cases z
  · rcases st0_get h1 with ⟨_, _, z⟩ | z <;> cases z
theorem body0 {W : W0} {t : TS} {N : List Str} {vs : List V} {H : Hp} {Q : VK} {E : XK} (h : sp0 K W vs H Q E) (hb : ∀ (ds : List D) (Φ : Rs → Prop) (X : XD) (F : Fr), W ds Φ X → EOk K F E X → wS K F t (st0 N ds) (out0 Φ)) : t { nx := fun _ H' => Q .non H', rt := Q } (start N vs) H := by
  obtain ⟨G, ds, Φ, X, e, r, hW, hQ, hE⟩ := h
  exact hb ds Φ X (fr0 G H) hW hE _ G H (srel0 e r) _ ⟨fun ρ σ G' H' h S _ => hQ _ _ G' H' h S.fr .non, fun ρ σ G' H' v d h S _ rr => hQ _ v G' H' h S.fr rr, fun ρ σ G' H' p ws ds' h S _ h1 h2 h3 h4 => hQ _ _ G' H' h S.fr ⟨p, ws, rfl, h1, h2, h3, h4⟩, fun _ _ _ _ h => h.elim, fun _ _ _ _ h => h.elim⟩
theorem sp0_len {W : W0} {vs : List V} {H : Hp} {Q : VK} {E : XK} {n : Nat} (hl : ∀ ds Φ X, W ds Φ X → ds.length = n) (h : sp0 K W vs H Q E) : vs.length = n := by
  obtain ⟨G, ds, Φ, X, e, r, hW, hQ, hE⟩ := h
  rw [r.length]
  exact hl ds Φ X hW
def st1 (N : List Str) (ds es : List D) : Sls := .ow .par ds :: (es.map .fz ++ List.replicate (N.length - (es.length + 1)) .un)
def out1 (Φ : List D → Rs → Prop) : Out := { nx := fun ρ => ∃ ds, ρ[0]? = some (.ow .par ds) ∧ Φ ds (.fz .non), rt := fun ρ d => ∃ ds, ρ[0]? = some (.ow .par ds) ∧ Φ ds (.fz d), ro := fun ρ es => ∃ ds, ρ[0]? = some (.ow .par ds) ∧ Φ ds (.ow es) }
theorem srel1 {N : List Str} {p : Addr} {us vs : List V} {ds es : List D} {G H : Hp} (e : Ex G H) (hg : G p = none) (hh : H p = some (.lst us)) (hr : RepL K G us ds) (r : RepL K G vs es) : SRel K (fr1 G H p) G H (start N (.ref p :: vs)) (st1 N ds es) := by
  have es1 : st1 N ds es = .ow .par ds :: (es.map .fz ++ List.replicate (N.length - (es.length + 1)) .un) := rfl
  have get : ∀ (i : Nat) (s : Sl), (st1 N ds es)[i]? = some s → (i = 0 ∧ s = .ow .par ds) ∨ (∃ j d, i = j + 1 ∧ es[j]? = some d ∧ s = .fz d) ∨ s = .un := fun i s h => by
    cases i with
    | zero => cases h; exact .inl ⟨rfl, rfl⟩
    | succ j =>
      right
      have h' : (es.map Sl.fz ++ List.replicate (N.length - (es.length + 1)) Sl.un)[j]? = some s := h
      by_cases hl : j < es.length
      · rw [List.getElem?_append_left (by rw [List.length_map]; exact hl), List.getElem?_map, List.getElem?_eq_getElem hl] at h'
        cases h'
        exact .inl ⟨j, es[j], rfl, List.getElem?_eq_getElem hl, rfl⟩
      · rw [List.getElem?_append_right (by rw [List.length_map]; omega)] at h'
        exact .inr (List.mem_replicate.mp (List.mem_of_getElem? h')).2
  have s0 : ∀ o, (start N (.ref p :: vs))[0]? = some o → o = some (.ref p) := fun o h => by
    rcases start_get h with ⟨_, z⟩ | ⟨z, _⟩
    · exact z
    · simp at z
  refine ⟨⟨e, fun _ _ _ => rfl, fun a o h _ => h, fun a o h => ⟨o, h⟩⟩, ?_, fun i s o h1 h2 => ?_, fun i j q l m di dj h1 h2 _ _ => ?_, fun i l di q h1 h2 => ?_, fun i j q l m di dj h1 h2 _ _ => ?_, fun i l di q h1 h2 => ?_⟩
  · unfold L2.start st1
    simp only [List.length_append, List.length_map, List.length_cons, List.length_replicate, r.length]
    omega
  · rcases get i s h1 with ⟨rfl, rfl⟩ | ⟨j, d, rfl, hd, rfl⟩ | rfl
    · rw [s0 o h2]
      exact ⟨p, us, rfl, hg, hh, hr⟩
    · obtain ⟨v, hv, rv⟩ := r.get hd
      rcases start_get h2 with ⟨_, z⟩ | ⟨z, _⟩
      · rw [z, List.getElem?_cons_succ, hv]
        exact rv
      · rw [List.length_cons] at z
        rw [List.getElem?_eq_none (by omega)] at hv
        cases hv
    · cases o <;> trivial
  · rcases get i _ h1 with ⟨rfl, _⟩ | ⟨_, _, _, _, z⟩ | z
    · rcases get j _ h2 with ⟨rfl, _⟩ | ⟨_, _, _, _, z⟩ | z
      · rfl
      · cases z
      · cases z
    · cases z
    · cases z
  · rcases get i _ h1 with ⟨rfl, z⟩ | ⟨_, _, _, _, z⟩ | z
    · cases z
      have := s0 _ h2
      cases this
      exact rfl
    · cases z
    · cases z
  · rcases get i _ h1 with ⟨rfl, z⟩ | ⟨_, _, _, _, z⟩ | z <;> cases z
  · rcases get i _ h1 with ⟨rfl, z⟩ | ⟨_, _, _, _, z⟩ | z <;> cases z
theorem body1 {W : W1} {t : TS} {N : List Str} {vs : List V} {H : Hp} {Q : VK} {E : XK} (h : sp1 K W vs H Q E) (hb : ∀ (ds es : List D) (Φ : List D → Rs → Prop) (X : XD) (F : Fr), W ds es Φ X → EOk K F E X → wS K F t (st1 N ds es) (out1 Φ)) : t { nx := fun _ H' => Q .non H', rt := Q } (start N vs) H := by
  obtain ⟨G, p, us, ds, ws, es, Φ, X, rfl, e, hg, hh, hr, r, hW, hQ, hE⟩ := h
  have key : ∀ {ρ : Sls} {σ : St} {G' H' : Hp} {ds' : List D}, SRel K (fr1 G H p) G' H' σ ρ → ρ[0]? = some (.ow .par ds') → ∃ us', G' p = none ∧ H' p = some (.lst us') ∧ RepL K G' us' ds' := fun {ρ σ G' H' ds'} S h0 => by
    obtain ⟨p', us', h1, h2, h3, h4⟩ := S.ow h0
    have z : p' = p := S.own 0 .par ds' p' h0 h1
    subst z
    exact ⟨us', h2, h3, h4⟩
  refine hb ds es Φ X (fr1 G H p) hW hE _ G H (srel1 e hg hh hr r) _ ⟨fun ρ σ G' H' h S _ => ?_, fun ρ σ G' H' v d h S _ rr => ?_, fun ρ σ G' H' q zs ds' h S _ h1 h2 h3 h4 => ?_, fun _ _ _ _ h => h.elim, fun _ _ _ _ h => h.elim⟩
  · obtain ⟨ds', h0, hΦ⟩ := h
    obtain ⟨us', k1, k2, k3⟩ := key S h0
    exact hQ ds' _ _ G' H' us' hΦ S.fr k1 k2 k3 .non
  · obtain ⟨ds', h0, hΦ⟩ := h
    obtain ⟨us', k1, k2, k3⟩ := key S h0
    exact hQ ds' _ v G' H' us' hΦ S.fr k1 k2 k3 rr
  · obtain ⟨es', h0, hΦ⟩ := h
    obtain ⟨us', k1, k2, k3⟩ := key S h0
    exact hQ es' _ _ G' H' us' hΦ S.fr k1 k2 k3 ⟨q, zs, rfl, h1, h2, h3, h4⟩
theorem sp1_len {W : W1} {vs : List V} {H : Hp} {Q : VK} {E : XK} {n : Nat} (hl : ∀ ds es Φ X, W ds es Φ X → es.length + 1 = n) (h : sp1 K W vs H Q E) : vs.length = n := by
  obtain ⟨G, p, us, ds, ws, es, Φ, X, rfl, e, hg, hh, hr, r, hW, hQ, hE⟩ := h
  rw [List.length_cons, r.length]
  exact hl ds es Φ X hW
/-- the law: a list of at most 63 ints is handed in, True comes out -/
def WLaw : W0 := fun ds Φ _ => ∃ ns : List Int, ns.length ≤ 63 ∧ ds = [.scr ns] ∧ Φ (.fz (.bl true))
theorem law_sp (K : PySem.W.Frag) (H : Hp) (a : Addr) (ns : List Int) (hl : ns.length ≤ 63) (ho : Only H) (hS : SqL K H a (ns.map V.int)) : sp0 K WLaw [.ref a] H (fun v _ => v = .bl true) fun _ _ _ => False :=
  ⟨H, [.scr ns], fun r => r = .fz (.bl true), X0, Ex.refl H, .cons (.scr hS) .nil, ⟨ns, hl, rfl, rfl⟩, fun r v G' H' hr _ rr => by
    subst hr
    cases rr
    rfl, eok0⟩
end
end DL
namespace DL
open PySem L2
open Evl (Ex)

/-! ### rules of one's own at the level of the hand layer -/
/-- a def of the module that may be called by its name -/
structure Callee (P : Program) (w : World) (K : PySem.W.Frag) (mg : Str → Option Value) (base : Heap) (k : Nat) (x : Str) (sp : Sp) : Prop where
  ex : ∃ (f : Addr) (fd : FuncData) (ps : List Str), FnOk P w K mg base L2.CX0 k f fd ps sp ∧ mg x = some (.ref f) ∧ PySem.W.keepIn K (.ref f) = true ∧ Binds K fd ps []
theorem Callee.mono {P : Program} {w : World} {K : PySem.W.Frag} {mg : Str → Option Value} {base : Heap} {j k : Nat} {x : Str} {sp : Sp} (c : Callee P w K mg base j x sp) (h : j ≤ k) : Callee P w K mg base k x sp := by
  obtain ⟨f, fd, ps, F, r⟩ := c.ex
  exact ⟨f, fd, ps, F.mono h, r⟩
section
variable {X : Cx} {k j : Nat} {x : Str} {sp : Sp} {p pos : Pos} {e : Expr} {es : List Expr} {t : TA}
theorem pe_cl (c : Callee X.prog X.w X.K X.mg X.base k x sp) (hr : Room j X.A) (hk : k ≤ j) (hg : Gl X x) (ha : PA X (e :: es) t)
    (hd : (x == ("__debug__" : Str)) = false := by decide) (he : starEach (e :: es) X.env = (false, eval e X.env) :: starEach es X.env := by rfl) (hpl : (backTo pos (starEach es X.env)).any (·.1) = false := by rfl) : PE X (.Call (.Name x p) (e :: es) [] pos) (tCall sp [] L2.E0 t) := by
  obtain ⟨f, fd, ps, F, hm, hkp, hb⟩ := c.ex
  exact pe_call F (hr.mono hk) hg hm hkp hb .nil pass0 ha hd he hpl
theorem pe_cl0 (c : Callee X.prog X.w X.K X.mg X.base k x sp) (hr : Room j X.A) (hk : k ≤ j) (hg : Gl X x)
    (hd : (x == ("__debug__" : Str)) = false := by decide) : PE X (.Call (.Name x p) [] [] pos) (tCall sp [] L2.E0 tNil) := by
  obtain ⟨f, fd, ps, F, hm, hkp, hb⟩ := c.ex
  exact pe_call0 F (hr.mono hk) hg hm hkp hb .nil pass0 hd
/-- a constant of the module -/
structure Kon (K : PySem.W.Frag) (mg : Str → Option Value) (x : Str) (d : D) : Prop where
  ex : ∃ u v, mg x = some u ∧ RelV v u ∧ ∀ G, Rep K G v d
/-- + of numbers, of lists, of texts -/
def rPlus : R2 := fun x y H Q => (rI0 fun i j => .int (i + j)) x y H Q ∨ rCat x y H Q ∨ (∃ i j, x = .str i ∧ y = .str j ∧ i.length + j.length ≤ sizeLine ∧ Q (.str (i ++ j)) H)
theorem op_plus : OpR X (binaryOp .Add) rPlus := op_add.or (op_cat.or op_add_str)
/-- is True, is False -/
def rIsTF (neg : Bool) : R2 := fun x y H Q => ∃ b : Bool, y = .bl b ∧ ((∃ a : Bool, x = .bl a ∧ Q (.bl (xor neg (decide (a = b)))) H) ∨ ((∀ a, x ≠ .bl a) ∧ (∀ n, x ≠ .ty n) ∧ Q (.bl neg) H))
end
/-- list.count of flat things -/
def rCntF (K : PySem.W.Frag) : V → List V → Hp → VK → Prop := fun x xs H Q => ∃ (p : Addr) (ys : List V) (y : V), x = .ref p ∧ xs = [y] ∧ SqL K H p ys ∧ flatV y = true ∧ ys.all flatV = true ∧ Q (.int ((ys.countP fun z => eqV z y : Nat) : Int)) H
theorem countP_eqU {x : V} : ∀ {xs : List V} {us : List Value}, Vals xs us → xs.all flatV = true → us.countP (eqU x) = xs.countP fun y => eqV y x
  | _, _, .nil, _ => rfl
  | _, _, .cons r t, f => by
    rw [List.all_cons, Bool.and_eq_true] at f
    rw [List.countP_cons, List.countP_cons, countP_eqU t f.2, eqU_of r f.1]
theorem mt_countF {X : Cx} : MtR X "list.count" (rCntF X.K) := by
  intro pins s σ H x xs v us Q I rx rxs h
  obtain ⟨p, ys, y, rfl, rfl, hs, fy, fys, q⟩ := h
  cases rx
  obtain ⟨u, rfl, ru⟩ := rxs.one
  obtain ⟨its, rv, ⟨⟨cls, dd, data, sl⟩, n, ho, hc, hdn, hd⟩, hlen⟩ := I.list hs
  simp only at hc hd
  subst hc hd
  refine call_meets PySem.F.slot_list_count ⟨_, ho, rfl⟩ PySem.F.entry_list_count (PySem.F.args_list_count_2 _ _)
    (SeqAt.list_countAt p its.toArray n dd sl u (eqU y)) ⟨ho, fun z hz => mem_eqAt ru fy rv fys z (by simpa using hz), ?_⟩
  have ec : its.toArray.toList.countP (eqU y) = ys.countP fun z => eqV z y := by
    rw [← countP_eqU rv fys]
  refine ⟨.int _, H, I.tok _, ⟨s.toks, ?_⟩, q⟩
  show Value.int ((its.toArray.toList.countP (eqU y) : Nat) : Int) s.toks = _
  rw [ec]

theorem rso_ow {P : List D → Prop} {ds : List D} (h : P ds) : RsO P (.ow ds) := h
theorem rng_at {lo : Int} {n i : Nat} {x : D} (h : (rng lo n)[i]? = some x) : i < n ∧ x = .int (lo + (i : Int)) := by
  have hl := (List.getElem?_eq_some_iff.mp h).1
  rw [rng_len] at hl
  rw [rng_get hl] at h
  cases h
  exact ⟨hl, rfl⟩
theorem rsp_fz {P : D → Prop} {d : D} (h : P d) : RsP P (.fz d) := h
section
variable {K : PySem.W.Frag} {F : Fr} {g : TG} {tt : TT} {te : TE} {vs : List Nat} {ρ : Sls} {acc : List D} {P : Sls → List D → Prop} {x : D} {r : List D} {tb : TS} {O : Out}
theorem compL_nil (h : P ρ acc) : compL K g tt te vs [] ρ acc P := h
theorem compL_cons (h : ∀ F, wG K F g x ρ fun ρ2 => wT K F tt ρ2 fun ρ3 b => Ways b (wE K F te ρ3 fun ρ4 y => compL K g tt te vs r (wipeU ρ4 vs) (acc ++ [y]) P) (compL K g tt te vs r (wipeU ρ3 vs) acc P)) : compL K g tt te vs (x :: r) ρ acc P := h
theorem forS_nil (h : O.nx ρ) : forS K F g tb O [] ρ := h
theorem forS_cons (h : wG K F g x ρ fun ρ3 => wS K F tb ρ3 { nx := forS K F g tb O r, ct := forS K F g tb O r, bk := O.nx, rt := O.rt, ro := O.ro }) : forS K F g tb O (x :: r) ρ := h
theorem wT_yes {PB : Sls → Bool → Prop} (h : PB ρ true) : wT K F tYes ρ PB := fun σ G H S Q q => q true ρ G H h S (Ex.refl G)
end
/-! ### their readings over data -/
section
variable {K : PySem.W.Frag} {F : Fr} {ρ : Sls} {P : Sls → D → Prop} {te ta tb : TE} {r : R2} {x y : D}
theorem wE_un {rr : V → Hp → VK → Prop} (h : wE K F ta ρ fun ρ1 x => wC K F (fun vs H Q => ∃ v, vs = [v] ∧ rr v H Q) [x] ρ1 P) : wE K F (tUn rr ta) ρ P := fun σ G H S Q q =>
  h σ G H S _ fun v x ρ1 G1 H1 h1 S1 r1 e1 => by
    obtain ⟨v', e, z⟩ := h1 σ G1 H1 [v] S1 (.cons r1 .nil) Q fun w d ρ' G' H' p S' r' e' => q w d ρ' G' H' p S' r' (e1.trans e')
    cases e
    exact z
theorem wC_neg {i : Int} (p : P ρ (.int (-i))) : wC K F (fun vs H Q => ∃ v, vs = [v] ∧ rU (fun i => .int (-i)) v H Q) [.int i] ρ P := fun σ G H vs S rs Q q => by
  cases rs with
  | cons r1 rr =>
    cases rr; cases r1
    exact ⟨_, rfl, i, rfl, q _ _ ρ G H p S (.int _) (Ex.refl G)⟩
/-- a rest by a positive number, of which its bounds alone are told -/
theorem wR_modB {i j : Int} (hj : 0 < j) (p : ∀ r : Int, 0 ≤ r → r < j → P ρ (.int r)) : wR K F (rI (fun _ j => 0 < j) fun i j => .int (i % j)) (.int i) (.int j) ρ P := wR_I hj (p _ (Int.emod_nonneg _ (by omega)) (Int.emod_lt_of_pos _ hj))
theorem wS_set0 {O : Out} {i : Nat} (h : wE K F te ρ fun ρ1 x => ∃ (l : Kd) (ds : List D), ρ1[i]? = some (.ow l ds) ∧ 0 < ds.length ∧ O.nx (ρ1.set i (.ow l (ds.set 0 x)))) : wS K F (tAsg te (gSub (tVar i) (tC (.int 0)) rSetL)) ρ O :=
  wS_setIx (wE_mono h fun ρ1 x ⟨l, ds, h1, h3, h4⟩ => ⟨l, ds, h1, wE_int ⟨l, ds, 0, rfl, h1, h3, h4⟩⟩)
theorem wS_set1 {O : Out} {i : Nat} (h : wE K F te ρ fun ρ1 x => ∃ (l : Kd) (ds : List D), ρ1[i]? = some (.ow l ds) ∧ 1 < ds.length ∧ O.nx (ρ1.set i (.ow l (ds.set 1 x)))) : wS K F (tAsg te (gSub (tVar i) (tC (.int 1)) rSetL)) ρ O :=
  wS_setIx (wE_mono h fun ρ1 x ⟨l, ds, h1, h3, h4⟩ => ⟨l, ds, h1, wE_int ⟨l, ds, 1, rfl, h1, h3, h4⟩⟩)
theorem wS_set2 {O : Out} {i : Nat} (h : wE K F te ρ fun ρ1 x => ∃ (l : Kd) (ds : List D), ρ1[i]? = some (.ow l ds) ∧ 2 < ds.length ∧ O.nx (ρ1.set i (.ow l (ds.set 2 x)))) : wS K F (tAsg te (gSub (tVar i) (tC (.int 2)) rSetL)) ρ O :=
  wS_setIx (wE_mono h fun ρ1 x ⟨l, ds, h1, h3, h4⟩ => ⟨l, ds, h1, wE_int ⟨l, ds, 2, rfl, h1, h3, h4⟩⟩)
theorem wR_plusI {i j : Int} (p : P ρ (.int (i + j))) : wR K F rPlus (.int i) (.int j) ρ P := fun σ G H vx vy S rx ry Q q => .inl (wR_I0 (g := fun i j => i + j) p σ G H vx vy S rx ry Q q)
theorem wRO_plusL {xs ys : List D} {PO : Sls → List D → Prop} (hl : xs.length + ys.length ≤ 100000) (p : PO ρ (xs ++ ys)) : wRO K F rPlus (.lst xs) (.lst ys) ρ PO := fun σ G H vx vy S rx ry Q q => .inr (.inl (wRO_cat hl p σ G H vx vy S rx ry Q q))
theorem wR_plusS {a b : Str} (hl : a.length + b.length ≤ 100000) (p : P ρ (.str (a ++ b))) : wR K F rPlus (.str a) (.str b) ρ P := fun σ G H vx vy S rx ry Q q => by
  cases rx
  cases ry
  exact .inr (.inr ⟨a, b, rfl, rfl, Evl.sz_of hl, q _ _ ρ G H p S (.str _) (Ex.refl G)⟩)
theorem wR_xL {ds : List D} {i : Int} {d : D} (h : atI ds i = some d) (p : P ρ d) : wR K F (rIx K) (.lst ds) (.int i) ρ P := fun σ G H vx vy S rx ry Q q => .inl (wR_ixL h p σ G H vx vy S rx ry Q q)
theorem wR_xT {ds : List D} {i : Int} {d : D} (h : atI ds i = some d) (p : P ρ d) : wR K F (rIx K) (.tup ds) (.int i) ρ P := fun σ G H vx vy S rx ry Q q => .inr (.inl (wR_ixT h p σ G H vx vy S rx ry Q q))
theorem wR_xLAll {ds : List D} {i : Int} (h0 : 0 ≤ i) (h1 : i < (ds.length : Int)) (p : ∀ d, d ∈ ds → P ρ d) : wR K F (rIx K) (.lst ds) (.int i) ρ P := fun σ G H vx vy S rx ry Q q => .inl (wR_ixLAll h0 h1 p σ G H vx vy S rx ry Q q)
theorem wR_xScr {ns : List Int} {i : Int} {n : Int} (h : atI ns i = some n) (p : P ρ (.int n)) : wR K F (rIx K) (.scr ns) (.int i) ρ P := fun σ G H vx vy S rx ry Q q => .inl (wR_ixScr h p σ G H vx vy S rx ry Q q)
theorem wR_xS {z : Str} {i : Int} {c : Nat} (hl : z.length ≤ 100000) (h : atI z.cps.toList i = some c) (p : P ρ (.str ⟨#[c]⟩)) : wR K F (rIx K) (.str z) (.int i) ρ P := fun σ G H vx vy S rx ry Q q => by
  cases rx
  cases ry
  exact .inr (.inr ⟨z, i, c, rfl, rfl, Evl.sz_of hl, h, q _ _ ρ G H p S (.str _) (Ex.refl G)⟩)
theorem wE_xO {i : Nat} {l : Kd} {ds : List D} (h : ρ[i]? = some (.ow l ds)) (hb : wE K F tb ρ fun ρ2 y => ∃ (k : Int) (ds2 : List D) (d : D), y = .int k ∧ ρ2[i]? = some (.ow l ds2) ∧ atI ds2 k = some d ∧ P ρ2 d) : wE K F (tOp (rIx K) (tVar i) tb) ρ P := fun σ G H S Q q => by
  obtain ⟨p, vs, e, hg, hh, hr⟩ := S.ow h
  refine ⟨.ref p, e, hb σ G H S _ fun vy y ρ2 G2 H2 hp S2 r2 e2 => ?_⟩
  obtain ⟨k, ds2, d, rfl, hi2, ha, pp⟩ := hp
  obtain ⟨p2, vs2, e', hg2, hh2, hr2⟩ := S2.ow hi2
  rw [e] at e'
  cases e'
  cases r2
  obtain ⟨v, ev, rv⟩ := atI_rep hr2 ha
  exact .inl ⟨p, vs2, k, v, rfl, rfl, SqL.of hh2, ev, q _ _ ρ2 G2 H2 pp S2 rv e2⟩
/-- own[c], c a written place -/
theorem wE_xOc {i : Nat} {l : Kd} {ds : List D} {k : Int} {d : D} (h : ρ[i]? = some (.ow l ds)) (ha : atI ds k = some d) (p : P ρ d) : wE K F (tOp (rIx K) (tVar i) (tC (.int k))) ρ P := wE_xO h (wE_int ⟨k, ds, d, rfl, h, ha, p⟩)
theorem wS_setIxc {O : Out} {i : Nat} {l : Kd} {k : Int} {j : Nat} (h : wE K F te ρ fun ρ1 x => ∃ ds : List D, ρ1[i]? = some (.ow l ds) ∧ k = (j : Int) ∧ j < ds.length ∧ O.nx (ρ1.set i (.ow l (ds.set j x)))) : wS K F (tAsg te (gSub (tVar i) (tC (.int k)) rSetL)) ρ O :=
  wS_setIx (wE_mono h fun ρ1 x ⟨ds, h1, h2, h3, h4⟩ => ⟨l, ds, h1, wE_int ⟨l, ds, j, by rw [h2], h1, h3, h4⟩⟩)
theorem wE_countF {t : TE} (h : wE K F ta ρ fun ρ1 x => ∃ ds, x = .lst ds ∧ wE K F t ρ1 fun ρ2 y => flatD y = true ∧ ds.all flatD = true ∧ P ρ2 (.int (((ds.map valD).countP fun z => eqV z (valD y) : Nat) : Int))) : wE K F (tBM K "list" (rCntF K) ta (tCons t tNil)) ρ P := fun σ G H S Q q =>
  h σ G H S _ fun v x ρ1 G1 H1 h1 S1 r1 e1 => by
    obtain ⟨ds, rfl, h2⟩ := h1
    cases r1 with
    | lst ha hr =>
      refine ⟨.inl ⟨rfl, _, SqL.of (S1.ex _ _ ha)⟩, h2 σ G1 H1 S1 _ fun vy y ρ2 G2 H2 hp S2 r2 e2 => ?_⟩
      obtain ⟨fy, fd, p⟩ := hp
      obtain ⟨ev, fv⟩ := r2.flat fy
      obtain ⟨ew, fw⟩ := hr.flat fd
      subst ev ew
      exact ⟨_, _, _, rfl, rfl, SqL.of (S2.ex _ _ (e2 _ _ ha)), fv, fw, q _ _ ρ2 G2 H2 p S2 (.int _) (e1.trans e2)⟩
/-! isinstance, by the built-in class -/
theorem wC_isiG {c : String} {f : D → Bool} (h : ∀ (n : String) (y : D), tyD y = some n → kitB n c = some (f y)) (hx : (tyD x).isSome = true) (p : P ρ (.bl (f x))) : wC K F (rIsi K) [x, .ty c] ρ P := by
  cases e : tyD x with
  | none => rw [e] at hx; cases hx
  | some n => exact wC_isi e (h n x e) p
def intD : D → Bool
  | .int _ => true
  | .bl _ => true
  | _ => false
def boolD : D → Bool
  | .bl _ => true
  | _ => false
def strD : D → Bool
  | .str _ => true
  | _ => false
def lstD : D → Bool
  | .lst _ => true
  | _ => false
def tupD : D → Bool
  | .tup _ => true
  | _ => false
def dctD : D → Bool
  | .dct _ => true
  | .dkv _ => true
  | _ => false
theorem kit_int (n : String) (y : D) (e : tyD y = some n) : kitB n "int" = some (intD y) := by
  cases y <;> cases e <;> first | (show kitB _ _ = some true; decide +kernel) | (show kitB _ _ = some false; decide +kernel)
theorem kit_bool (n : String) (y : D) (e : tyD y = some n) : kitB n "bool" = some (boolD y) := by
  cases y <;> cases e <;> first | (show kitB _ _ = some true; decide +kernel) | (show kitB _ _ = some false; decide +kernel)
theorem kit_str (n : String) (y : D) (e : tyD y = some n) : kitB n "str" = some (strD y) := by
  cases y <;> cases e <;> first | (show kitB _ _ = some true; decide +kernel) | (show kitB _ _ = some false; decide +kernel)
theorem kit_list (n : String) (y : D) (e : tyD y = some n) : kitB n "list" = some (lstD y) := by
  cases y <;> cases e <;> first | (show kitB _ _ = some true; decide +kernel) | (show kitB _ _ = some false; decide +kernel)
theorem kit_tuple (n : String) (y : D) (e : tyD y = some n) : kitB n "tuple" = some (tupD y) := by
  cases y <;> cases e <;> first | (show kitB _ _ = some true; decide +kernel) | (show kitB _ _ = some false; decide +kernel)
theorem kit_dict (n : String) (y : D) (e : tyD y = some n) : kitB n "dict" = some (dctD y) := by
  cases y <;> cases e <;> first | (show kitB _ _ = some true; decide +kernel) | (show kitB _ _ = some false; decide +kernel)
theorem wC_isInt (hx : (tyD x).isSome = true) (p : P ρ (.bl (intD x))) : wC K F (rIsi K) [x, .ty "int"] ρ P := wC_isiG kit_int hx p
theorem wC_isBool (hx : (tyD x).isSome = true) (p : P ρ (.bl (boolD x))) : wC K F (rIsi K) [x, .ty "bool"] ρ P := wC_isiG kit_bool hx p
theorem wC_isStr (hx : (tyD x).isSome = true) (p : P ρ (.bl (strD x))) : wC K F (rIsi K) [x, .ty "str"] ρ P := wC_isiG kit_str hx p
theorem wC_isList (hx : (tyD x).isSome = true) (p : P ρ (.bl (lstD x))) : wC K F (rIsi K) [x, .ty "list"] ρ P := wC_isiG kit_list hx p
theorem wC_isTuple (hx : (tyD x).isSome = true) (p : P ρ (.bl (tupD x))) : wC K F (rIsi K) [x, .ty "tuple"] ρ P := wC_isiG kit_tuple hx p
theorem wC_isDict (hx : (tyD x).isSome = true) (p : P ρ (.bl (dctD x))) : wC K F (rIsi K) [x, .ty "dict"] ρ P := wC_isiG kit_dict hx p
/-- a constant of the module -/
theorem wC_all {bs : List Bool} (p : P ρ (.bl (bs.all id))) : wC K F (rAll K) [.lst (bs.map D.bl)] ρ P := fun σ G H vs S rs Q q => by
  cases rs with
  | cons r1 rr =>
    cases rr
    cases r1 with
    | lst h1 h2 =>
      have e := h2.bls
      subst e
      exact ⟨_, bs, rfl, SqL.of (S.ex _ _ h1), q _ _ ρ G H p S (.bl _) (Ex.refl G)⟩
theorem wC_any {bs : List Bool} (p : P ρ (.bl (bs.any id))) : wC K F (rAny K) [.lst (bs.map D.bl)] ρ P := fun σ G H vs S rs Q q => by
  cases rs with
  | cons r1 rr =>
    cases rr
    cases r1 with
    | lst h1 h2 =>
      have e := h2.bls
      subst e
      exact ⟨_, bs, rfl, SqL.of (S.ex _ _ h1), q _ _ ρ G H p S (.bl _) (Ex.refl G)⟩
end
end DL
namespace DL
open PySem L2
open Evl (Ex)
section
variable {K : PySem.W.Frag} {F : Fr} {ρ : Sls} {P : Sls → D → Prop} {te ta tb : TE} {r : R2} {x y : D}
theorem rsp_ow {P : D → Prop} {ds : List D} (h : P (.lst ds)) : RsP P (.ow ds) := h
/-! ### parts of a slice, parts of lists -/
def wP (K : PySem.W.Frag) (F : Fr) (t : TO) (ρ : Sls) (P : Sls → Option Int → Prop) : Prop := ∀ (σ : St) (G H : Hp), SRel K F G H σ ρ → ∀ Q : Option Int → Hp → Prop,
  (∀ (o : Option Int) (ρ' : Sls) (G' H' : Hp), P ρ' o → SRel K F G' H' σ ρ' → Ex G G' → Q o H') → t σ H Q
theorem wP_no {PP : Sls → Option Int → Prop} (p : PP ρ none) : wP K F tNoPart ρ PP := fun σ G H S Q q => q none ρ G H p S (Ex.refl G)
theorem wP_some {PP : Sls → Option Int → Prop} (h : wE K F te ρ fun ρ1 x => ∃ i, x = .int i ∧ PP ρ1 (some i)) : wP K F (tPart te) ρ PP := fun σ G H S Q q =>
  h σ G H S _ fun v x ρ1 G1 H1 h1 S1 r1 e1 => by
    obtain ⟨i, rfl, p⟩ := h1
    cases r1
    exact ⟨i, rfl, q _ ρ1 G1 H1 p S1 e1⟩
def cutD {α : Type} (xs : List α) (lo hi : Option Int) : List α := (xs.drop (HT.sIx xs.length 0 lo)).take (HT.sIx xs.length xs.length hi - HT.sIx xs.length 0 lo)
theorem cutD_mem {α : Type} {xs : List α} {lo hi : Option Int} {d : α} (h : d ∈ cutD xs lo hi) : d ∈ xs := List.mem_of_mem_drop (List.mem_of_mem_take h)
theorem RepL.cut {G : Hp} {vs : List V} {ds : List D} {lo hi : Option Int} (h : RepL K G vs ds) : RepL K G (cutV vs lo hi) (cutD ds lo hi) := by
  unfold cutV cutD
  rw [h.length]
  exact RepL.take _ (RepL.drop _ h)
theorem wO_slL {tl th : TO} {PO : Sls → List D → Prop} (h : wE K F te ρ fun ρ1 x => ∃ ds, x = .lst ds ∧ wP K F tl ρ1 fun ρ2 lo => wP K F th ρ2 fun ρ3 hi => PO ρ3 (cutD ds lo hi)) : wO K F (tSl (rSlL K) te tl th) ρ PO := fun σ G H S Q q =>
  h σ G H S _ fun v x ρ1 G1 H1 h1 S1 r1 e1 => by
    obtain ⟨ds, rfl, h1⟩ := h1
    cases r1 with
    | lst ha hr =>
      exact h1 σ G1 H1 S1 _ fun lo ρ2 G2 H2 h2 S2 e2 => h2 σ G2 H2 S2 _ fun hi ρ3 G3 H3 p S3 e3 =>
        ⟨_, _, rfl, SqL.of (S3.ex _ _ (e3 _ _ (e2 _ _ ha))), fun a hn => q _ _ _ ρ3 G3 _ p (S3.alloc hn) (.alloc S3 hn (RepL.cut (RepL.up (e2.trans e3) hr))) ((e1.trans e2).trans e3)⟩
/-! ### an own list compared -/
theorem Own.dp {G H : Hp} {σ : St} {i : Nat} {l : Kd} {ds : List D} {ps : List PyData} (S : SRel K F G H σ ρ) (h : ρ[i]? = some (.ow l ds)) (ht : toPyL ds = some ps) : ∃ p, σ[i]? = some (some (.ref p)) ∧ Dp K H (.ref p) (.list ps) := by
  obtain ⟨p, vs, e, hg, hh, hr⟩ := S.ow h
  exact ⟨p, e, .lst (SqL.of hh) (RepL.dp S.ex ds vs ps hr ht)⟩
theorem wE_neO {i : Nat} {l : Kd} {ds : List D} {ps : List PyData} (h : ρ[i]? = some (.ow l ds)) (ht : toPyL ds = some ps) (s1 : SeqAt.shaped (.list ps) = true)
    (hb : wE K F tb ρ fun ρ2 y => ∃ b, ρ2[i]? = some (.ow l ds) ∧ toPy y = some b ∧ SeqAt.shaped b = true ∧ P ρ2 (.bl (!PyData.eqv (.list ps) b))) : wE K F (tOp (rNeD K) (tVar i) tb) ρ P := fun σ G H S Q q => by
  obtain ⟨p, e, d1⟩ := Own.dp S h ht
  refine ⟨.ref p, e, hb σ G H S _ fun vy y ρ2 G2 H2 h2 S2 r2 e2 => ?_⟩
  obtain ⟨b, h2, hy, sb, pp⟩ := h2
  obtain ⟨p', e', d2⟩ := Own.dp S2 h2 ht
  rw [e] at e'
  cases e'
  exact ⟨_, b, d2, Rep.dp S2.ex y vy b r2 hy, s1, sb, q _ _ ρ2 G2 H2 pp S2 (.bl _) e2⟩
theorem wE_eqO {i : Nat} {l : Kd} {ds : List D} {ps : List PyData} (h : ρ[i]? = some (.ow l ds)) (ht : toPyL ds = some ps) (s1 : SeqAt.shaped (.list ps) = true)
    (hb : wE K F tb ρ fun ρ2 y => ∃ b, ρ2[i]? = some (.ow l ds) ∧ toPy y = some b ∧ SeqAt.shaped b = true ∧ P ρ2 (.bl (PyData.eqv (.list ps) b))) : wE K F (tOp (rEqD K) (tVar i) tb) ρ P := fun σ G H S Q q => by
  obtain ⟨p, e, d1⟩ := Own.dp S h ht
  refine ⟨.ref p, e, hb σ G H S _ fun vy y ρ2 G2 H2 h2 S2 r2 e2 => ?_⟩
  obtain ⟨b, h2, hy, sb, pp⟩ := h2
  obtain ⟨p', e', d2⟩ := Own.dp S2 h2 ht
  rw [e] at e'
  cases e'
  exact ⟨_, b, d2, Rep.dp S2.ex y vy b r2 hy, s1, sb, q _ _ ρ2 G2 H2 pp S2 (.bl _) e2⟩
/-! ### a truth less a truth -/
def rSubB : R2 := fun x y H Q => (rI0 fun i j => .int (i - j)) x y H Q ∨ ∃ p q, x = .bl p ∧ y = .bl q ∧ Q (.int (PyProof.Rows.b2i p - PyProof.Rows.b2i q)) H
theorem op_subbb {X : Cx} : OpR X (binaryOp .Sub) (fun x y H Q => ∃ p q, x = .bl p ∧ y = .bl q ∧ Q (.int (PyProof.Rows.b2i p - PyProof.Rows.b2i q)) H) := by
  intro pins s σ H x y v u Q I rx ry h
  obtain ⟨p, q, rfl, rfl, z⟩ := h
  cases rx
  cases ry
  exact PyProof.Rows.sub_bool ⟨.int _, H, I.tok _, ⟨_, rfl⟩, z⟩
theorem op_subB {X : Cx} : OpR X (binaryOp .Sub) rSubB := op_sub.or op_subbb
theorem wR_subI {i j : Int} (p : P ρ (.int (i - j))) : wR K F rSubB (.int i) (.int j) ρ P := fun σ G H vx vy S rx ry Q q => .inl (wR_I0 (g := fun i j => i - j) p σ G H vx vy S rx ry Q q)
theorem wR_subB {i j : Bool} (p : P ρ (.int (PyProof.Rows.b2i i - PyProof.Rows.b2i j))) : wR K F rSubB (.bl i) (.bl j) ρ P := fun σ G H vx vy S rx ry Q q => by
  cases rx
  cases ry
  exact .inr ⟨i, j, rfl, rfl, q _ _ ρ G H p S (.int _) (Ex.refl G)⟩
end
end DL
namespace DL
open PySem L2
open Evl (Ex)
/-! ### texts -/
/-- the signs of a text -/
def sgD (z : Str) : List D := z.cps.toList.map fun c => D.str ⟨#[c]⟩
theorem sgD_len (z : Str) : (sgD z).length = z.cps.size := by
  unfold sgD
  rw [List.length_map, Array.length_toList]
theorem sgD_get {z : Str} {i c : Nat} (h : z.cps[i]? = some c) : (sgD z)[i]? = some (.str ⟨#[c]⟩) := by
  unfold sgD
  rw [List.getElem?_map, Array.getElem?_toList, h]
  rfl
section
variable {K : PySem.W.Frag} {F : Fr} {ρ : Sls} {g : TG} {tb : TS} {O : Out} {tt : TT} {te tl : TE} {vs : List Nat} {PO : Sls → List D → Prop}
theorem wO_lcS (hT : Tgt g vs) (h : wE K F tl ρ fun ρ1 d => ∃ z, d = .str z ∧ z.cps.size ≤ 100000 ∧ compL K g tt te vs (sgD z) (wipeU ρ1 vs) [] fun ρ' acc => PO (restS vs 0 ρ1 ρ') acc) : wO K F (tLc (iStr tl) g tt te vs) ρ PO := fun σ G H S Q q =>
  h σ G H S _ fun v d ρ1 G1 H1 h1 S1 r1 e1 => by
    obtain ⟨z, rfl, hl, f⟩ := h1
    cases r1
    refine ⟨z, rfl, fun Dl hD => lc_it walk_str (fun i H' => CompEx K F g tt te vs σ G1 Dl (fun ρ' acc => PO (restS vs 0 ρ1 ρ') acc) i ((sgD z).drop i) H') (comp_start S1 f hD) (fun _ _ _ _ => trivial) (fun i x H' H'' hi c y => ?_) fun H' c => ?_⟩
    · obtain ⟨rfl, c', hc, rfl⟩ := y
      rw [drop_at (sgD_get hc)] at c
      exact comp_turn hT (by omega) c fun G' e' => .str _
    · rw [show (sgD z).drop z.cps.size = [] from List.drop_eq_nil_of_le (by rw [sgD_len]; exact Nat.le_refl _)] at c
      obtain ⟨G', ρ', acc, vacc, p, S', o, e'⟩ := comp_end (P := PO) S1 c hD
      exact q _ _ _ ρ' G' H' p S' o (e1.trans e')
theorem wS_forS (h : wE K F tl ρ fun ρ1 d => ∃ z, d = .str z ∧ forS K F g tb O (sgD z) ρ1) : wS K F (tFor (iStr tl) g tb) ρ O := fun σ G H S D1 k =>
  h σ G H S _ fun v d ρ1 G1 H1 h1 S1 r1 e1 => by
    obtain ⟨z, rfl, f⟩ := h1
    cases r1
    refine ⟨z, rfl, for_it walk_str (fun i σ' H' => ∃ G' ρ', SRel K F G' H' σ' ρ' ∧ Ex G1 G' ∧ forS K F g tb O ((sgD z).drop i) ρ') ⟨G1, ρ1, S1, Ex.refl G1, f⟩ (fun _ _ _ _ _ => trivial) ?_ ?_⟩
    · rintro i x σ' H' H'' hi ⟨G', ρ', S', e', f'⟩ ⟨rfl, c, hc, rfl⟩
      exact for_turn k e1 S' e' (sgD_get hc) (.str _) f'
    · rintro σ' H' ⟨G', ρ', S', e', f'⟩
      rw [show (sgD z).drop z.cps.size = [] from List.drop_eq_nil_of_le (by rw [sgD_len]; exact Nat.le_refl _)] at f'
      exact k.nx ρ' σ' G' H' f' S' (e1.trans e')
/-- a comprehension by its word -/
theorem compL_inv {acc0 : List D} {P : Sls → List D → Prop} (ds : List D) (Inv : Nat → Sls → List D → Prop) (h0 : Inv 0 ρ acc0)
    (hs : ∀ (i : Nat) (x : D) (ρ2 : Sls) (acc : List D) (F : Fr), ds[i]? = some x → Inv i ρ2 acc → wG K F g x ρ2 fun ρ3 => wT K F tt ρ3 fun ρ4 b => Ways b (wE K F te ρ4 fun ρ5 y => Inv (i + 1) (wipeU ρ5 vs) (acc ++ [y])) (Inv (i + 1) (wipeU ρ4 vs) acc))
    (hd : ∀ (ρ2 : Sls) (acc : List D), Inv ds.length ρ2 acc → P ρ2 acc) : compL K g tt te vs ds ρ acc0 P := by
  have key : ∀ (k : Nat) (es : List D), ds = ds.take k ++ es → k ≤ ds.length → ∀ ρ2 acc, Inv k ρ2 acc → compL K g tt te vs es ρ2 acc P := by
    intro k es
    induction es generalizing k with
    | nil =>
      intro e hk ρ2 acc hi
      have hl : ds.length = k := by
        have := congrArg List.length e
        rw [List.append_nil, List.length_take] at this
        omega
      exact hd ρ2 acc (hl ▸ hi)
    | cons x r ih =>
      intro e hk ρ2 acc hi
      have hlt : k < ds.length := by
        have := congrArg List.length e
        rw [List.length_append, List.length_take, List.length_cons] at this
        omega
      have hx : ds[k]? = some x := by
        rw [e, List.getElem?_append_right (by rw [List.length_take]; omega), List.length_take, Nat.min_eq_left hk, Nat.sub_self]
        rfl
      have e' : ds = ds.take (k + 1) ++ r := by
        rw [List.take_add_one, hx]
        simpa using e
      intro F'
      refine wG_mono (hs k x ρ2 acc F' hx hi) fun ρ3 h3 => wT_mono h3 fun ρ4 b h4 => ⟨fun hb => wE_mono (h4.1 hb) fun ρ5 y h5 => ih (k + 1) e' hlt _ _ h5, fun hb => ih (k + 1) e' hlt _ _ (h4.2 hb)⟩
  exact key 0 ds (by simp) (Nat.zero_le _) ρ acc0 h0
end
section
variable {K : PySem.W.Frag} {F : Fr} {ρ : Sls} {P : Sls → D → Prop} {PO : Sls → List D → Prop} {te to ta tb : TE} {r : R2} {x y : D}
abbrev rJoin (K : PySem.W.Frag) : V → List V → Hp → VK → Prop := fun x xs H Q => ∃ a p, ∃ ys : List Str, x = .str a ∧ xs = [.ref p] ∧ (SqL K H p (ys.map V.str) ∨ SqT K H p (ys.map V.str)) ∧
  (ys.map (·.length)).sum + ys.length * a.length ≤ 16777216 ∧ Q (.str (Txt.join a ys)) H
theorem wE_join (h : wE K F to ρ fun ρ1 x => ∃ a, x = .str a ∧ wE K F te ρ1 fun ρ2 y => ∃ ys : List Str, y = .lst (ys.map D.str) ∧ (ys.map (·.length)).sum + ys.length * a.length ≤ 16777216 ∧ P ρ2 (.str (Txt.join a ys))) : wE K F (tM1 (rJoin K) to te) ρ P := fun σ G H S Q q =>
  h σ G H S _ fun v x ρ1 G1 H1 h1 S1 r1 e1 => by
    obtain ⟨a, rfl, h2⟩ := h1
    cases r1
    refine ⟨⟨a, rfl⟩, h2 σ G1 H1 S1 _ fun w y ρ2 G2 H2 hp S2 r2 e2 => ?_⟩
    obtain ⟨ys, rfl, hl, p⟩ := hp
    cases r2 with
    | lst ha hr =>
      rw [RepL.strs hr] at ha
      exact ⟨a, _, ys, rfl, rfl, .inl (SqL.of (S2.ex _ _ ha)), hl, q _ _ ρ2 G2 H2 p S2 (.str _) (e1.trans e2)⟩
abbrev rSplit : V → List V → Hp → VK → Prop := fun x xs H Q => ∃ a b, x = .str a ∧ xs = [.str b] ∧ (b.length == 0) = false ∧ a.length + 2 ≤ sizeLine ∧ rNewStrs (Txt.split a b) H Q
theorem wO_split (h : wE K F to ρ fun ρ1 x => ∃ a, x = .str a ∧ wE K F te ρ1 fun ρ2 y => ∃ b : Str, y = .str b ∧ (b.length == 0) = false ∧ a.length + 2 ≤ 100000 ∧ PO ρ2 ((Txt.split a b).map D.str)) : wO K F (tM1 rSplit to te) ρ PO := fun σ G H S Q q =>
  h σ G H S _ fun v x ρ1 G1 H1 h1 S1 r1 e1 => by
    obtain ⟨a, rfl, h2⟩ := h1
    cases r1
    refine ⟨⟨a, rfl⟩, h2 σ G1 H1 S1 _ fun w y ρ2 G2 H2 hp S2 r2 e2 => ?_⟩
    obtain ⟨b, rfl, hb, hl, p⟩ := hp
    cases r2
    exact ⟨a, b, rfl, rfl, hb, Evl.sz_of hl, fun l hn => q _ _ _ ρ2 G2 _ p (S2.alloc hn) (.alloc S2 hn (RepL.ofStrs _)) (e1.trans e2)⟩
abbrev rUpper : V → List V → Hp → VK → Prop := fun x xs H Q => ∃ a, x = .str a ∧ xs = [] ∧ a.length ≤ 5592405 ∧ Q (.str (Txt.upper a)) H
theorem wE_upper (h : wE K F to ρ fun ρ1 x => ∃ a, x = .str a ∧ a.length ≤ 5592405 ∧ P ρ1 (.str (Txt.upper a))) : wE K F (tM0 rUpper to) ρ P := fun σ G H S Q q =>
  h σ G H S _ fun v x ρ1 G1 H1 h1 S1 r1 e1 => by
    obtain ⟨a, rfl, hl, p⟩ := h1
    cases r1
    exact ⟨⟨a, rfl⟩, a, rfl, rfl, hl, q _ _ ρ1 G1 H1 p S1 (.str _) e1⟩
theorem wE_slS {tl th : TO} (h : wE K F te ρ fun ρ1 x => ∃ z, x = .str z ∧ z.length ≤ 100000 ∧ wP K F tl ρ1 fun ρ2 lo => wP K F th ρ2 fun ρ3 hi => P ρ3 (.str (cutS z lo hi))) : wE K F (tSl rSlS te tl th) ρ P := fun σ G H S Q q =>
  h σ G H S _ fun v x ρ1 G1 H1 h1 S1 r1 e1 => by
    obtain ⟨z, rfl, hz, h1⟩ := h1
    cases r1
    exact h1 σ G1 H1 S1 _ fun lo ρ2 G2 H2 h2 S2 e2 => h2 σ G2 H2 S2 _ fun hi ρ3 G3 H3 p S3 e3 => ⟨z, rfl, Evl.sz_of hz, q _ _ ρ3 G3 H3 p S3 (.str _) ((e1.trans e2).trans e3)⟩
abbrev rLeS : R2 := fun x y H Q => ∃ i j, x = .str i ∧ y = .str j ∧ Q (.bl (!decide (j.cps.toList < i.cps.toList))) H
theorem wR_leS {a b : Str} (p : P ρ (.bl (!decide (b.cps.toList < a.cps.toList)))) : wR K F rLeS (.str a) (.str b) ρ P := fun σ G H vx vy S rx ry Q q => by
  cases rx
  cases ry
  exact ⟨a, b, rfl, rfl, q _ _ ρ G H p S (.bl _) (Ex.refl G)⟩
abbrev rInSg : R2 := fun x y H Q => ∃ (c : Nat) (z : Str), x = .str ⟨#[c]⟩ ∧ y = .str z ∧ Q (.bl (decide (c ∈ z.cps.toList))) H
theorem wR_inSg {c : Nat} {z : Str} (p : P ρ (.bl (decide (c ∈ z.cps.toList)))) : wR K F rInSg (.str ⟨#[c]⟩) (.str z) ρ P := fun σ G H vx vy S rx ry Q q => by
  cases rx
  cases ry
  exact ⟨c, z, rfl, rfl, q _ _ ρ G H p S (.bl _) (Ex.refl G)⟩
abbrev rNiSg : R2 := fun x y H Q => ∃ (c : Nat) (z : Str), x = .str ⟨#[c]⟩ ∧ y = .str z ∧ Q (.bl (!decide (c ∈ z.cps.toList))) H
theorem wR_niSg {c : Nat} {z : Str} (p : P ρ (.bl (!decide (c ∈ z.cps.toList)))) : wR K F rNiSg (.str ⟨#[c]⟩) (.str z) ρ P := fun σ G H vx vy S rx ry Q q => by
  cases rx
  cases ry
  exact ⟨c, z, rfl, rfl, q _ _ ρ G H p S (.bl _) (Ex.refl G)⟩
/-! is True, is False -/
theorem op_isTF {X : Cx} : OpR X (compareOp .Is) (rIsTF false) := by
  intro pins s σ H x y v u Q I rx ry h
  obtain ⟨b, rfl, h⟩ := h
  cases (show u = Value.bool b from ry)
  rcases h with ⟨a, rfl, q⟩ | ⟨h1, h2, q⟩
  · cases (show v = Value.bool a from rx)
    by_cases e : a = b
    · subst e
      exact wpAny_is_self rfl ⟨.bl true, H, I, rfl, by simpa using q⟩
    · exact wpAny_is_other rfl (fun z => e (Value.bool.inj z)) ⟨.bl false, H, I, rfl, by simpa [e] using q⟩
  · cases x with
    | bl a => exact absurd rfl (h1 a)
    | ty n => exact absurd rfl (h2 n)
    | non => cases (show v = Value.none from rx); exact wpAny_is_other rfl (fun z => nomatch z) ⟨.bl false, H, I, rfl, q⟩
    | int i => obtain ⟨t, rfl⟩ := rx; exact wpAny_is_other rfl (fun z => nomatch z) ⟨.bl false, H, I, rfl, q⟩
    | str i => obtain ⟨t, rfl⟩ := rx; exact wpAny_is_other rfl (fun z => nomatch z) ⟨.bl false, H, I, rfl, q⟩
    | byt i => obtain ⟨t, rfl⟩ := rx; exact wpAny_is_other rfl (fun z => nomatch z) ⟨.bl false, H, I, rfl, q⟩
    | flt i => obtain ⟨t, rfl⟩ := rx; exact wpAny_is_other rfl (fun z => nomatch z) ⟨.bl false, H, I, rfl, q⟩
    | ref a => cases (show v = Value.ref a from rx); exact wpAny_is_other rfl (fun z => nomatch z) ⟨.bl false, H, I, rfl, q⟩
theorem op_notTF {X : Cx} : OpR X (compareOp .IsNot) (rIsTF true) := by
  intro pins s σ H x y v u Q I rx ry h
  obtain ⟨b, rfl, h⟩ := h
  cases (show u = Value.bool b from ry)
  rcases h with ⟨a, rfl, q⟩ | ⟨h1, h2, q⟩
  · cases (show v = Value.bool a from rx)
    by_cases e : a = b
    · subst e
      exact wpAny_isNot_self rfl ⟨.bl false, H, I, rfl, by simpa using q⟩
    · exact wpAny_isNot_other rfl (fun z => e (Value.bool.inj z)) ⟨.bl true, H, I, rfl, by simpa [e] using q⟩
  · cases x with
    | bl a => exact absurd rfl (h1 a)
    | ty n => exact absurd rfl (h2 n)
    | non => cases (show v = Value.none from rx); exact wpAny_isNot_other rfl (fun z => nomatch z) ⟨.bl true, H, I, rfl, q⟩
    | int i => obtain ⟨t, rfl⟩ := rx; exact wpAny_isNot_other rfl (fun z => nomatch z) ⟨.bl true, H, I, rfl, q⟩
    | str i => obtain ⟨t, rfl⟩ := rx; exact wpAny_isNot_other rfl (fun z => nomatch z) ⟨.bl true, H, I, rfl, q⟩
    | byt i => obtain ⟨t, rfl⟩ := rx; exact wpAny_isNot_other rfl (fun z => nomatch z) ⟨.bl true, H, I, rfl, q⟩
    | flt i => obtain ⟨t, rfl⟩ := rx; exact wpAny_isNot_other rfl (fun z => nomatch z) ⟨.bl true, H, I, rfl, q⟩
    | ref a => cases (show v = Value.ref a from rx); exact wpAny_isNot_other rfl (fun z => nomatch z) ⟨.bl true, H, I, rfl, q⟩
def isTF (b : Bool) : D → Bool
  | .bl a => decide (a = b)
  | _ => false
def tyFree : D → Bool
  | .ty _ => false
  | _ => true
theorem Rep.notBl {G : Hp} {v : V} {d : D} (h : Rep K G v d) (f : tyFree d = true) : (∃ a, d = .bl a ∧ v = .bl a) ∨ ((∀ a, v ≠ .bl a) ∧ (∀ n, v ≠ .ty n) ∧ ∀ b, isTF b d = false) := by
  cases h <;> first | exact .inl ⟨_, rfl, rfl⟩ | (cases f; done) | exact .inr ⟨fun _ z => (nomatch z), fun _ z => (nomatch z), fun _ => rfl⟩
theorem wR_isTF {b : Bool} (f : tyFree x = true) (p : P ρ (.bl (isTF b x))) : wR K F (rIsTF false) x (.bl b) ρ P := fun σ G H vx vy S rx ry Q q => by
  cases ry
  rcases rx.notBl f with ⟨a, rfl, rfl⟩ | ⟨h1, h2, h3⟩
  · exact ⟨b, rfl, .inl ⟨a, rfl, by rw [Bool.false_xor]; exact q _ _ ρ G H p S (.bl _) (Ex.refl G)⟩⟩
  · refine ⟨b, rfl, .inr ⟨h1, h2, ?_⟩⟩
    rw [h3 b] at p
    exact q _ _ ρ G H p S (.bl _) (Ex.refl G)
theorem wR_notTF {b : Bool} (f : tyFree x = true) (p : P ρ (.bl (!isTF b x))) : wR K F (rIsTF true) x (.bl b) ρ P := fun σ G H vx vy S rx ry Q q => by
  cases ry
  rcases rx.notBl f with ⟨a, rfl, rfl⟩ | ⟨h1, h2, h3⟩
  · exact ⟨b, rfl, .inl ⟨a, rfl, by rw [Bool.true_xor]; exact q _ _ ρ G H p S (.bl _) (Ex.refl G)⟩⟩
  · refine ⟨b, rfl, .inr ⟨h1, h2, ?_⟩⟩
    rw [h3 b] at p
    exact q _ _ ρ G H p S (.bl _) (Ex.refl G)
/-! dicts written out -/
theorem wE_dnew (p : P ρ (.dct [])) : wE K F tDNewK ρ P := fun σ G H S Q q => fun a ha => q _ _ ρ (upd G a (.dK [])) _ p (S.new ha) (.dct upd_same .nil) (Ex.new (S.fr.freshG ha))
theorem wE_disp1 {k z : Str} (p : P ρ (.dct [(.inr k, .str z)])) : wE K F (tDisp [(tC (.str k), tC (.str z))]) ρ P := fun σ G H S Q q => fun a ha => by
  refine ⟨upd_same, [(.inr k, .str z)], rfl, by show 1 ≤ 15; decide, ?_⟩
  have e : upd (upd H a (.dK [])) a (.dK [((.inr k : Key), V.str z)]) = upd H a (.dK [((.inr k : Key), V.str z)]) := by
    funext b
    by_cases hb : b = a
    · subst hb; rw [upd_same, upd_same]
    · rw [upd_ne hb, upd_ne hb, upd_ne hb]
  have e2 : mergeK [] [((.inr k : Key), V.str z)] = [((.inr k : Key), V.str z)] := rfl
  rw [e2, e]
  exact q _ _ ρ (upd G a (.dK [((.inr k : Key), V.str z)])) _ p (S.new ha) (.dct upd_same (.cons (.str z) .nil)) (Ex.new (S.fr.freshG ha))
open PySem.Builtin.Str in
theorem split_bd (x y : Str) (hy : 0 < y.length) : (Txt.split x y).length ≤ x.length + 1 ∧ ∀ p ∈ Txt.split x y, p.length ≤ x.length := by
  unfold Txt.split
  split
  · exact ⟨by simp, fun p hp => by rw [List.mem_singleton] at hp; rw [hp]; exact Nat.le_refl _⟩
  · split
    · exact ⟨by simp, fun p hp => by rw [List.mem_singleton] at hp; rw [hp]; exact Nat.le_refl _⟩
    · generalize hq : partsBetween x (occurrences x y 0 x.length (x.length + 1)) y.length = ps
      have h1 : glued y ps = x := by rw [← hq]; exact PySem.StrLaws.glued_between_self x y _
      have h2 := PySem.size_glued y ps
      rw [h1] at h2
      refine ⟨?_, fun p hp => ?_⟩
      · have h3 : (ps.length - 1) * 1 ≤ (ps.length - 1) * y.length := Nat.mul_le_mul_left _ hy
        omega
      · have h3 : ∀ (l : List Str), p ∈ l → p.length ≤ (l.map (·.length)).sum := by
          intro l
          induction l with
          | nil => intro h; cases h
          | cons a r ih =>
            intro h
            rw [List.map_cons, List.sum_cons]
            rcases List.mem_cons.mp h with rfl | h
            · omega
            · have := ih h
              omega
        have := h3 ps hp
        omega
open PySem.Builtin.Str in
theorem join_len (a : Str) (ys : List Str) : (Txt.join a ys).length ≤ (ys.map (·.length)).sum + ys.length * a.length := by
  show (glued a ys).length ≤ _
  rw [PySem.size_glued a ys]
  have : (ys.length - 1) * a.length ≤ ys.length * a.length := Nat.mul_le_mul_right _ (by omega)
  omega
theorem compL_flt {g : TG} {tt : TT} {te : TE} {vs : List Nat} {ρ0 : Sls} {PC : Sls → List D → Prop} {p : D → Bool} {f : D → D} : ∀ (ds acc : List D),
    (∀ (F : Fr) (x : D), x ∈ ds → wG K F g x ρ0 fun ρ3 => wT K F tt ρ3 fun ρ4 b => b = p x ∧ (b = false → wipeU ρ4 vs = ρ0) ∧ (b = true → wE K F te ρ4 fun ρ5 y => wipeU ρ5 vs = ρ0 ∧ y = f x)) →
    PC ρ0 (acc ++ (ds.filter p).map f) → compL K g tt te vs ds ρ0 acc PC
  | [], acc, _, h => by
    rw [List.filter_nil, List.map_nil, List.append_nil] at h
    exact h
  | x :: r, acc, hs, h => fun F => by
    refine wG_mono (hs F x (List.mem_cons_self ..)) fun ρ3 h3 => wT_mono h3 fun ρ4 b h4 => ?_
    obtain ⟨hb, hf, ht⟩ := h4
    rw [List.filter_cons] at h
    cases b with
    | true =>
      rw [if_pos hb.symm] at h
      refine ways_t (wE_mono (ht rfl) fun ρ5 y h5 => ?_)
      obtain ⟨e1, e2⟩ := h5
      rw [e1, e2]
      refine compL_flt r _ (fun F x' hx' => hs F x' (List.mem_cons_of_mem _ hx')) ?_
      rw [List.append_assoc]
      exact h
    | false =>
      rw [if_neg (by rw [← hb]; exact Bool.false_ne_true)] at h
      refine ways_f ?_
      rw [hf rfl]
      exact compL_flt r _ (fun F x' hx' => hs F x' (List.mem_cons_of_mem _ hx')) h
theorem wC_all' {l : List D} {bs : List Bool} (e : l = bs.map D.bl) (p : P ρ (.bl (bs.all id))) : wC K F (rAll K) [.lst l] ρ P := by
  subst e
  exact wC_all p
/-! a text times a number -/
def repS (x : Str) (n : Nat) : Str := ⟨(List.replicate n x.cps).foldl (· ++ ·) #[]⟩
def rRepS : R2 := fun x y H Q => ∃ z k, x = .str z ∧ y = .int k ∧ 2 ≤ k ∧ k ≤ 10000 ∧ 0 < z.length ∧ z.length * k.toNat ≤ 100000 ∧ (repS z k.toNat).length ≤ 100000 ∧ Q (.str (repS z k.toNat)) H
theorem op_repS {X : Cx} : OpR X (binaryOp .Mult) rRepS := by
  intro pins s σ H x y v u Q I rx ry h
  obtain ⟨z, k, rfl, rfl, h1, h2, h3, h4, h5, q⟩ := h
  obtain ⟨t, rfl⟩ := rx
  obtain ⟨t', rfl⟩ := ry
  have hz : z.length ≤ 100000 := by
    have h6 : z.length * 1 ≤ z.length * k.toNat := Nat.mul_le_mul_left _ (by omega)
    omega
  have hc : (k == 1 || z.length == 0) = false := by
    rw [Bool.or_eq_false_iff]
    exact ⟨beq_eq_false_iff_ne.mpr (by omega), beq_eq_false_iff_ne.mpr (by omega)⟩
  refine PySem.P.mul_str ?_ (fun _ _ => ?_) (fun _ _ => ?_) ?_
  · rw [decide_eq_false (show ¬ k < -(2 ^ 63 : Int) by omega), decide_eq_false (show ¬ k ≥ 2 ^ 63 by omega)]
    rfl
  · have h6 : (100000 : Int) ≤ (2 ^ 63 - 1) / k := by
      rw [Int.le_ediv_iff_mul_le (by omega)]
      omega
    omega
  · exact decide_eq_false (Nat.not_lt.mpr (Nat.le_trans h4 (by decide)))
  · rw [if_neg (show ¬ k < 1 by omega), if_neg (by rw [hc]; exact Bool.false_ne_true)]
    exact ⟨Evl.sz_of h5, ⟨.str _, H, I.tok _, ⟨_, rfl⟩, q⟩⟩
theorem wR_repS {z : Str} {k : Int} (h1 : 2 ≤ k) (h2 : k ≤ 10000) (h3 : 0 < z.length) (h4 : z.length * k.toNat ≤ 100000) (h5 : (repS z k.toNat).length ≤ 100000) (p : P ρ (.str (repS z k.toNat))) : wR K F rRepS (.str z) (.int k) ρ P := fun σ G H vx vy S rx ry Q q => by
  cases rx
  cases ry
  exact ⟨z, k, rfl, rfl, h1, h2, h3, h4, h5, q _ _ ρ G H p S (.str _) (Ex.refl G)⟩
/-- a sign of a text at a drawn place -/
theorem wR_xSAll {z : Str} {i : Int} (hl : z.length ≤ 100000) (h0 : 0 ≤ i) (h1 : i < (z.cps.toList.length : Int)) (p : ∀ c, c ∈ z.cps.toList → P ρ (.str ⟨#[c]⟩)) : wR K F (rIx K) (.str z) (.int i) ρ P := by
  obtain ⟨c, hm, e⟩ := atI_of h0 h1
  exact wR_xS hl e (p c hm)
/-- str(number) -/
abbrev rStrI : List V → Hp → VK → Prop := fun xs H Q => ∃ i, xs = [.int i] ∧ i.natAbs.log2 < 1920 ∧ Q (.str (toString i)) H
theorem wC_strI {i : Int} (h : i.natAbs.log2 < 1920) (p : P ρ (.str (Str.ofString (toString i)))) : wC K F rStrI [.int i] ρ P := fun σ G H vs S rs Q q => by
  cases rs with
  | cons r1 rr =>
    cases rr; cases r1
    exact ⟨i, rfl, h, q _ _ ρ G H p S (.str _) (Ex.refl G)⟩
end
end DL
namespace DL
open PySem L2
open Evl (Ex)
/-! ### texts whose signs are signs -/
def okS (s : Str) : Prop := ∀ c ∈ s.cps.toList, c < 0x110000
theorem okS_strOk {s : Str} (h : okS s) : PyData.strOk s = true := by
  unfold PyData.strOk
  rw [Array.all_eq_true_iff_forall_mem]
  intro c hc
  exact decide_eq_true (h c (by simpa using hc))
theorem okS_of {s : Str} (h : (s.cps.toList.all fun c => decide (c < 0x110000)) = true) : okS s := fun c hc => of_decide_eq_true (List.all_eq_true.mp h c hc)
theorem cps_app (a b : Str) : (a ++ b).cps.toList = a.cps.toList ++ b.cps.toList := by
  show (a.cps ++ b.cps).toList = _
  rw [Array.toList_append]
theorem len_app (a b : Str) : (a ++ b).length = a.length + b.length := by
  show (a.cps ++ b.cps).size = _
  rw [Array.size_append]
  rfl
theorem okS_app {a b : Str} (h : okS a) (h' : okS b) : okS (a ++ b) := fun c hc => by
  rw [cps_app] at hc
  rcases List.mem_append.mp hc with q | q
  · exact h c q
  · exact h' c q
theorem okS_cut {z : Str} {lo hi : Option Int} (h : okS z) : okS (cutS z lo hi) := fun c hc => by
  have hc' : c ∈ ((z.cps.toList.drop (HT.sIx z.length 0 lo)).take (HT.sIx z.length z.length hi - HT.sIx z.length 0 lo)).toArray.toList := hc
  exact h c (List.mem_of_mem_drop (List.mem_of_mem_take (by simpa using hc')))
theorem okS_sg {z : Str} {c : Nat} (h : okS z) (hc : c ∈ z.cps.toList) : okS ⟨#[c]⟩ := fun d hd => by
  have : d = c := by simpa using hd
  rw [this]
  exact h c hc
theorem join_mem (y : Str) : ∀ (ps : List Str) (p : Str) (c : Nat), p ∈ ps → c ∈ p.cps.toList → c ∈ (Str.join y ps).cps.toList
  | [], _, _, h, _ => by cases h
  | [x], p, c, h, hc => by
    rw [List.mem_singleton] at h
    subst h
    exact hc
  | x :: z :: r, p, c, h, hc => by
    show c ∈ (x ++ y ++ Str.join y (z :: r)).cps.toList
    rw [cps_app, cps_app]
    rcases List.mem_cons.mp h with rfl | h
    · exact List.mem_append_left _ (List.mem_append_left _ hc)
    · exact List.mem_append_right _ (join_mem y (z :: r) p c h hc)
theorem okS_join {a : Str} (ha : okS a) : ∀ (ys : List Str), (∀ y ∈ ys, okS y) → okS (Str.join a ys)
  | [], _ => fun c hc => by
    have : c ∈ (#[] : Array Nat).toList := hc
    simp at this
  | [x], h => h x (List.mem_cons_self ..)
  | x :: z :: r, h => okS_app (a := x ++ a) (okS_app (h x (List.mem_cons_self ..)) ha) (okS_join ha (z :: r) fun y hy => h y (List.mem_cons_of_mem _ hy))
theorem okS_joinT {a : Str} {ys : List Str} (ha : okS a) (h : ∀ y ∈ ys, okS y) : okS (Txt.join a ys) := by
  show okS (PySem.Builtin.Str.glued a ys)
  rw [PySem.StrLaws.glued_eq_join]
  exact okS_join ha ys h
open PySem.Builtin.Str in
theorem split_ok {x y : Str} (h : okS x) : ∀ p ∈ Txt.split x y, okS p := by
  unfold Txt.split
  split
  · intro p hp; rw [List.mem_singleton] at hp; rw [hp]; exact h
  · split
    · intro p hp; rw [List.mem_singleton] at hp; rw [hp]; exact h
    · intro p hp c hc
      have h1 := PySem.StrLaws.glued_between_self x y (x.length + 1)
      rw [PySem.StrLaws.glued_eq_join] at h1
      refine h c ?_
      rw [← h1]
      exact join_mem y _ p c hp hc
theorem toPyL_strs : ∀ ss : List Str, toPyL (ss.map D.str) = some (ss.map PyData.str)
  | [] => rfl
  | s :: ss => by
    rw [List.map_cons, toPyL, toPyL_strs ss]
    rfl
theorem lay_strs : ∀ ss : List Str, (∀ s ∈ ss, okS s) → PyData.canLayAll0 (ss.map PyData.str) = true
  | [], _ => by simp [PyData.canLayAll0]
  | s :: ss, h => by
    simp only [List.map_cons, PyData.canLayAll0, PyData.canLay0, Bool.and_eq_true]
    exact ⟨okS_strOk (h s (List.mem_cons_self ..)), lay_strs ss fun t ht => h t (List.mem_cons_of_mem _ ht)⟩
theorem depth_strs : ∀ ss : List Str, PyData.depthAll (ss.map PyData.str) = 0
  | [] => by simp [PyData.depthAll]
  | s :: ss => by
    simp only [List.map_cons, PyData.depthAll, PyData.depth, depth_strs ss]
    rfl
theorem shaped_strs {ss : List Str} (h : ∀ s ∈ ss, okS s) : SeqAt.shaped (.list (ss.map PyData.str)) = true := by
  show (PyData.canLay0 (.list (ss.map PyData.str)) && decide (PyData.depth (.list (ss.map PyData.str)) ≤ 64)) = true
  rw [Bool.and_eq_true]
  refine ⟨by simp only [PyData.canLay0]; exact lay_strs ss h, decide_eq_true ?_⟩
  simp only [PyData.depth, depth_strs]
  decide
section
variable {K : PySem.W.Frag} {F : Fr} {ρ : Sls} {P : Sls → D → Prop}
theorem wR_eqNil {l : List D} {ss : List Str} (e : l = ss.map D.str) (h : ∀ s ∈ ss, okS s) (p : P ρ (.bl ss.isEmpty)) : wR K F (rEqD K) (.lst l) (.lst []) ρ P := by
  subst e
  refine wR_eqD (a := .list (ss.map PyData.str)) (b := .list []) (by rw [toPy, toPyL_strs]; rfl) rfl (shaped_strs h) (by kernel_rfl) ?_
  have e : PyData.eqv (.list (ss.map PyData.str)) (.list []) = ss.isEmpty := by
    cases ss with
    | nil => simp [PyData.eqv, PyData.eqvAll]
    | cons s ss => simp [PyData.eqv, PyData.eqvAll]
  rw [e]
  exact p
end
theorem le_a (c : Nat) : (!decide (([c] : List Nat) < (Str.ofString "a").cps.toList)) = decide (97 ≤ c) := by
  have e : (Str.ofString "a").cps.toList = [97] := by decide +kernel
  rw [e, ← decide_not]
  apply decide_eq_decide.mpr
  rw [List.cons_lt_cons_iff]
  simp
theorem le_z (c : Nat) : (!decide ((Str.ofString "z").cps.toList < ([c] : List Nat))) = decide (c ≤ 122) := by
  have e : (Str.ofString "z").cps.toList = [122] := by decide +kernel
  rw [e, ← decide_not]
  apply decide_eq_decide.mpr
  rw [List.cons_lt_cons_iff]
  simp
end DL
namespace DL
open PySem L2
open Evl (Ex)
theorem units65 {k : Nat} {A : Around} (r : Room k A) : A.units + 65 < cLine := by
  have := r.un
  omega
section
variable {K : PySem.W.Frag} {F : Fr} {ρ : Sls} {P : Sls → D → Prop} {x : D}
theorem wR_inD {ds : List D} {a : PyData} {es : List PyData} (h1 : toPy x = some a) (h2 : toPyL ds = some es) (s1 : SeqAt.shaped a = true) (s2 : SeqAt.shaped (.list es) = true) (p : P ρ (.bl (es.any fun z => PyData.eqv z a))) : wR K F (rInD K) x (.lst ds) ρ P := fun σ G H vx vy S rx ry Q q =>
  ⟨a, es, Rep.dp S.ex x vx a rx h1, Rep.dp S.ex (.lst ds) vy (.list es) ry (by rw [toPy, h2]; rfl), s1, s2, q _ _ ρ G H p S (.bl _) (Ex.refl G)⟩
theorem wE_isLO {i : Nat} {l : Kd} {ds : List D} (h : ρ[i]? = some (.ow l ds)) (p : P ρ (.bl true)) : wE K F (tCB (rIsi K) (tCons (tVar i) (tCons (tC (.ty "list")) tNil))) ρ P := fun σ G H S Q q => by
  obtain ⟨a, vs, e, hg, hh, hr⟩ := S.ow h
  exact ⟨.ref a, e, _, _, .type "list", .type "list", true, rfl, .ty "list", .base (.lst hh), kit_ty (kit_list "list" (.lst []) rfl), q _ _ ρ G H p S (.bl true) (Ex.refl G)⟩
end
theorem log2_small {n : Nat} (h : n ≤ 2 ^ 40) : n.log2 < 1920 := by
  by_cases h0 : n = 0
  · subst h0
    decide
  · rw [Nat.log2_lt h0]
    exact Nat.lt_of_le_of_lt h (Nat.pow_lt_pow_right (by decide) (by decide))
end DL
namespace DL
open PySem L2
open Evl (Ex)
section
variable {K : PySem.W.Frag} {F : Fr} {ρ : Sls} {P : Sls → D → Prop} {te to : TE} {tb : TS} {tc : TT} {O : Out}
/-- a while loop by its word and a number that gets less -/
theorem wS_while (Inv : Nat → Sls → Prop) (h0 : ∃ m, Inv m ρ) (hs : ∀ (m : Nat) (ρ2 : Sls), Inv m ρ2 → wT K F tc ρ2 fun ρ3 b => Ways b (wS K F tb ρ3 { nx := fun ρ' => ∃ m', m' < m ∧ Inv m' ρ', ct := fun ρ' => ∃ m', m' < m ∧ Inv m' ρ', bk := O.nx, rt := O.rt, ro := O.ro }) (O.nx ρ3)) : wS K F (tWhile tc tb) ρ O := fun σ G H S D1 k => by
  obtain ⟨m0, i0⟩ := h0
  refine ⟨fun m σ' H' => ∃ G' ρ', Inv m ρ' ∧ SRel K F G' H' σ' ρ' ∧ Ex G G', ⟨m0, G, ρ, i0, S, Ex.refl G⟩, ?_⟩
  rintro m σ1 H1 ⟨G1, ρ1, i1, S1, e1⟩
  refine hs m ρ1 i1 σ1 G1 H1 S1 _ fun b ρ2 G2 H2 h2 S2 e2 => ?_
  cases b with
  | false => exact k.nx ρ2 σ1 G2 H2 (h2.2 rfl) S2 (e1.trans e2)
  | true =>
    refine ⟨fun σ' H' => ∃ m', m' < m ∧ ∃ G' ρ', Inv m' ρ' ∧ SRel K F G' H' σ' ρ' ∧ Ex G G', fun σ' H' z => z, ?_⟩
    refine h2.1 rfl σ1 G2 H2 S2 _ ⟨?_, ?_, ?_, ?_, ?_⟩
    · rintro ρ' σ' G' H' ⟨m', hm, i'⟩ S' x
      exact ⟨m', hm, G', ρ', i', S', (e1.trans e2).trans x⟩
    · exact fun a b c d v w h S' x => k.rt a b c d v w h S' ((e1.trans e2).trans x)
    · exact fun a b c d p v w h S' x => k.ro a b c d p v w h S' ((e1.trans e2).trans x)
    · exact fun a b c d h S' x => k.nx a b c d h S' ((e1.trans e2).trans x)
    · rintro ρ' σ' G' H' ⟨m', hm, i'⟩ S' x
      exact ⟨m', hm, G', ρ', i', S', (e1.trans e2).trans x⟩
/-! a method of a text with a text -/
abbrev rM1 (g : Str → Str → V) : V → List V → Hp → VK → Prop := fun x xs H Q => ∃ a b, x = .str a ∧ xs = [.str b] ∧ Q (g a b) H
theorem wE_m1 {g : Str → Str → V} {f : Str → Str → D} (hg : ∀ a b G, Rep K G (g a b) (f a b)) (h : wE K F to ρ fun ρ1 x => ∃ a, x = .str a ∧ wE K F te ρ1 fun ρ2 y => ∃ b, y = .str b ∧ P ρ2 (f a b)) : wE K F (tM1 (rM1 g) to te) ρ P := fun σ G H S Q q =>
  h σ G H S _ fun v x ρ1 G1 H1 h1 S1 r1 e1 => by
    obtain ⟨a, rfl, h2⟩ := h1
    cases r1
    refine ⟨⟨a, rfl⟩, h2 σ G1 H1 S1 _ fun w y ρ2 G2 H2 hp S2 r2 e2 => ?_⟩
    obtain ⟨b, rfl, p⟩ := hp
    cases r2
    exact ⟨a, b, rfl, rfl, q _ _ ρ2 G2 H2 p S2 (hg a b G2) (e1.trans e2)⟩
abbrev rRmp : V → List V → Hp → VK → Prop := fun x xs H Q => ∃ a b, x = .str a ∧ xs = [.str b] ∧ a.length ≤ sizeLine ∧ Q (.str (Txt.removeprefix a b)) H
theorem wE_rmp (h : wE K F to ρ fun ρ1 x => ∃ a, x = .str a ∧ a.length ≤ 100000 ∧ wE K F te ρ1 fun ρ2 y => ∃ b, y = .str b ∧ P ρ2 (.str (Txt.removeprefix a b))) : wE K F (tM1 rRmp to te) ρ P := fun σ G H S Q q =>
  h σ G H S _ fun v x ρ1 G1 H1 h1 S1 r1 e1 => by
    obtain ⟨a, rfl, hl, h2⟩ := h1
    cases r1
    refine ⟨⟨a, rfl⟩, h2 σ G1 H1 S1 _ fun w y ρ2 G2 H2 hp S2 r2 e2 => ?_⟩
    obtain ⟨b, rfl, p⟩ := hp
    cases r2
    exact ⟨a, b, rfl, rfl, Evl.sz_of hl, q _ _ ρ2 G2 H2 p S2 (.str _) (e1.trans e2)⟩
/-- int of a text -/
abbrev rIntS : List V → Hp → VK → Prop := fun xs H Q => ∃ a n, xs = [.str a] ∧ PySem.intText? a = some n ∧ a.length ≤ 640 ∧ Q (.int n) H
theorem wC_intS {a : Str} {n : Int} (h : PySem.intText? a = some n) (hl : a.length ≤ 640) (p : P ρ (.int n)) : wC K F rIntS [.str a] ρ P := fun σ G H vs S rs Q q => by
  cases rs with
  | cons r1 rr =>
    cases rr; cases r1
    exact ⟨a, n, rfl, h, hl, q _ _ ρ G H p S (.int n) (Ex.refl G)⟩
theorem shaped_str {a : Str} (h : okS a) : SeqAt.shaped (.str a) = true := by
  show (PyData.canLay0 (.str a) && decide (PyData.depth (.str a) ≤ 64)) = true
  rw [Bool.and_eq_true]
  exact ⟨by simp only [PyData.canLay0]; exact okS_strOk h, decide_eq_true (by simp only [PyData.depth]; decide)⟩
theorem wR_eqS {a b : Str} (ha : okS a) (hb : okS b) (p : P ρ (.bl (a == b))) : wR K F (rEqD K) (.str a) (.str b) ρ P := by
  refine wR_eqD rfl rfl (shaped_str ha) (shaped_str hb) ?_
  have e : PyData.eqv (.str a) (.str b) = (a == b) := by simp only [PyData.eqv]
  rw [e]
  exact p
theorem wR_neS {a b : Str} (ha : okS a) (hb : okS b) (p : P ρ (.bl (!(a == b)))) : wR K F (rNeD K) (.str a) (.str b) ρ P := by
  refine wR_neD rfl rfl (shaped_str ha) (shaped_str hb) ?_
  have e : PyData.eqv (.str a) (.str b) = (a == b) := by simp only [PyData.eqv]
  rw [e]
  exact p
theorem wR_neNil {l : List D} {ss : List Str} (e : l = ss.map D.str) (h : ∀ s ∈ ss, okS s) (p : P ρ (.bl (!ss.isEmpty))) : wR K F (rNeD K) (.lst l) (.lst []) ρ P := by
  subst e
  refine wR_neD (a := .list (ss.map PyData.str)) (b := .list []) (by rw [toPy, toPyL_strs]; rfl) rfl (shaped_strs h) (by kernel_rfl) ?_
  have e : PyData.eqv (.list (ss.map PyData.str)) (.list []) = ss.isEmpty := by
    cases ss with
    | nil => simp [PyData.eqv, PyData.eqvAll]
    | cons s ss => simp [PyData.eqv, PyData.eqvAll]
  rw [e]
  exact p
abbrev rIdxS : V → List V → Hp → VK → Prop := fun x xs H Q => ∃ a b i rest, x = .str a ∧ xs = [.str b] ∧ Builtin.Str.occurrences a b 0 a.length 1 = i :: rest ∧ Q (.int (i : Nat)) H
theorem wE_idxS (h : wE K F to ρ fun ρ1 x => ∃ a, x = .str a ∧ wE K F te ρ1 fun ρ2 y => ∃ b i rest, y = .str b ∧ Builtin.Str.occurrences a b 0 a.length 1 = i :: rest ∧ P ρ2 (.int (i : Nat))) : wE K F (tM1 rIdxS to te) ρ P := fun σ G H S Q q =>
  h σ G H S _ fun v x ρ1 G1 H1 h1 S1 r1 e1 => by
    obtain ⟨a, rfl, h2⟩ := h1
    cases r1
    refine ⟨⟨a, rfl⟩, h2 σ G1 H1 S1 _ fun w y ρ2 G2 H2 hp S2 r2 e2 => ?_⟩
    obtain ⟨b, i, rest, rfl, ho, p⟩ := hp
    cases r2
    exact ⟨a, b, i, rest, rfl, rfl, ho, q _ _ ρ2 G2 H2 p S2 (.int _) (e1.trans e2)⟩
end
end DL
namespace DL
open PySem L2 PyProof.Rows
open Evl (Ex)

/-! ### promises that hold where no thing's text is being made -/
/-- a def's promise, asked only where the stack bears no guard -/
structure FnG (P : Program) (w : World) (K : PySem.W.Frag) (mg : Str → Option Value) (base : Heap) (k : Nat) (f : Addr) (fd : FuncData) (ps : List Str) (sp : Sp) : Prop where
  size : ∀ vs H Q E, sp vs H Q E → vs.length = ps.length
  go : ∀ (A : Around) (up : List Env) (s : Shared) (H : Hp) (gs : Args) (us : List Value) (vs : List V) (Q : VK) (E : XK), A.guards = some [] → Room k A →
    Env0 P w K mg base A up s H → BindsTo s fd gs (ps.zip us) → Vals vs us → sp vs H Q E → codeAny (model P w) A (.call (.ref f) gs) (CR L2.CX0 up P w H s Q E) s
theorem FnG.of {P : Program} {w : World} {K : PySem.W.Frag} {mg : Str → Option Value} {base : Heap} {x q : Str} {st : Stmt} {f : Addr} {fd : FuncData} {N ps : List Str} {k : Nat} {sp : Sp} (F : L2.Fun K x q st f fd) (S : FnScope N ps (defScope st))
    (hl : ∀ vs H Q E, sp vs H Q E → vs.length = ps.length)
    (hb : ∀ (cdv : Value) (A : Around) (up : List Env) (s : Shared) (H : Hp) (vs : List V) (Q : VK) (E : XK), A.guards = some [] → Room k (A.deeper (envOfC q (defScope st) s.heap.objs.size f cdv)) → sp vs H Q E →
      ∃ t, PSs (cxOf L2.CX0 P w K mg base N q (defScope st) f cdv A up s H E).nox (defBody st) t ∧ t { nx := fun _ H' => Q .non H', rt := Q } (start N vs) H) : FnG P w K mg base (k + 1) f fd ps sp := by
  obtain ⟨oc, od, kv, dc, pm, an, cdv, ct, sl, rfl, at_, cod⟩ := F.ex
  refine ⟨hl, fun A up s H gs us vs Q E quiet room e0 bind rel prom => ?_⟩
  have n := hl _ _ _ _ prom
  have in_s : K.In s.heap := e0.mod.kin.keeps fun b o z => (e0.bs b o z).1
  have lim : s.heap.NoLimit := e0.mod.nolimit.keeps fun b o z => (e0.bs b o z).1
  refine codeAny_call_function room.depth (in_s _ _ at_) rfl S.co S.gen rfl (PySem.W.codeRec_of in_s cod) (bind _ _ _ _ (wpAny_newFunctionEnv_cells S.kind (fun y hy => ?_) fun env he s1 inn => ?_))
  · exact (S.par y.1 (List.of_mem_zip (a := y.1) (b := y.2) hy).1).imp id fun z => ⟨z, PySem.W.cellsFrom_some _ _ _ (.inl z)⟩
  · subst he
    obtain ⟨t, ht, hq⟩ := hb cdv A up s H vs Q E quiet (room.deeper _) prom
    refine ⟨lim.keeps inn.toInCall.keep, codeAny_func (wpAny_mono (ht.nox.run [] s1 (start N vs) H _ (inv_start S room.hd e0 n rel inn) hq) (fun fl s2 z => ?_) fun _ _ z => z)⟩
    cases fl with
    | ret u =>
      obtain ⟨v, _, H2, J, rv, z⟩ := z
      exact ⟨v, H2, J.os, J.bare, J.base, J.hok, rv, z⟩
    | next =>
      obtain ⟨_, H2, J, z⟩ := z
      exact ⟨.non, H2, J.os, J.bare, J.base, J.hok, rfl, z⟩
    | brk => exact z.elim fun _ z => z.elim fun _ z => (show False from z.2).elim
    | cont => exact z.elim fun _ z => z.elim fun _ z => (show False from z.2).elim
/-- .. called by its name -/
structure CalleeG (P : Program) (w : World) (K : PySem.W.Frag) (mg : Str → Option Value) (base : Heap) (k : Nat) (x : Str) (sp : Sp) : Prop where
  ex : ∃ (f : Addr) (fd : FuncData) (ps : List Str), FnG P w K mg base k f fd ps sp ∧ mg x = some (.ref f) ∧ PySem.W.keepIn K (.ref f) = true ∧ Binds K fd ps []
section
variable {X : Cx} {k j : Nat} {x : Str} {sp : Sp} {p pos : Pos} {e : Expr} {es : List Expr} {t : TA}
theorem pe_clG (c : CalleeG X.prog X.w X.K X.mg X.base k x sp) (quiet : X.A.guards = some []) (hr : Room j X.A) (hk : k ≤ j) (hg : Gl X x) (ha : PA X (e :: es) t)
    (hd : (x == ("__debug__" : Str)) = false := by decide) (he : starEach (e :: es) X.env = (false, eval e X.env) :: starEach es X.env := by rfl) (hpl : (backTo pos (starEach es X.env)).any (·.1) = false := by rfl) : PE X (.Call (.Name x p) (e :: es) [] pos) (tCall sp [] L2.E0 t) := by
  obtain ⟨f, fd, ps, F, hm, kp, hb⟩ := c.ex
  refine ⟨fun pins s σ H Q I h => wpAny_Call_Name_kw (ld_glob I hg hm (PySem.W.callWith_K (h₀ := X.base) I.ok.mod.kin kp (thn (ha.run pos pins s σ H _ I h) fun us s1 ⟨vs, H1, I1, r, q⟩ => ⟨I1.kIn, ?_⟩) he hpl) hd)⟩
  have q' : sp vs H1 Q L2.E0 := by
    have z : sp (vs ++ []) H1 Q L2.E0 := q
    rwa [List.append_nil] at z
  have n : (us ++ []).length = ps.length := by rw [List.append_nil, ← r.length]; exact F.size _ _ _ _ q'
  refine wpAny_call (codeAny_mono (F.go X.A X.stack s1 H1 ⟨us, []⟩ us vs Q L2.E0 quiet (hr.mono hk) I1.env0 (by have z := hb s1 us I1.kIn n; rwa [List.append_nil] at z) r q') fun rs s2 z => ?_)
  cases rs with
  | error _ => exact z.elim
  | ok fl =>
    cases fl with
    | ret u => exact I1.after z
    | next => exact z.elim
    | brk => exact z.elim
    | cont => exact z.elim
end
/-- repr of data -/
def rReprD (K : PySem.W.Frag) : List V → Hp → VK → Prop := fun xs H Q => ∃ (a : Addr) (p : PyData), xs = [.ref a] ∧ Dp K H (.ref a) p ∧ p.showable = true ∧ p.hasDict = false ∧ p.depth ≤ 60 ∧ p.shown.length ≤ sizeLine ∧ Q (.str p.shown) H
theorem call_reprD {X : Cx} (quiet : X.A.guards = some []) (hu : X.A.units + 64 < cLine) : CallR X (.builtin "repr") (rReprD X.K) := by
  intro pins s σ H xs us Q I r h
  obtain ⟨a, p, rfl, hd, hs, hn, hz, hl, q⟩ := h
  obtain ⟨u, rfl, rx⟩ := vals1 r
  obtain rfl : u = Value.ref a := rx
  obtain ⟨as, rd⟩ := Dp.reads I p _ _ hd rfl
  exact repr_of_reads' rd hs (PyData.noDict_hsm hn) quiet (by omega) (fun _ _ z => z) (fun h' u tk kept => ⟨.str p.shown, H, I.kept (t' := tk) kept, ⟨_, rfl⟩, q⟩) hl

/-! ### the head: a law that asks for texts of things -/
theorem script_heap {P : Program} {w : World} {K : PySem.W.Frag} {h : Heap} {a : Addr} {vs : List Value} {ns : List Int} (ha : h.get? a = some { cls := .type "list", data := .seq vs.toArray }) (hi : IntsAre vs ns) (hl : ns.length ≤ sizeLine) (kin : K.In h) :
    ∃ H : Hp, Only H ∧ SqL K H a (ns.map V.int) ∧ HOk P w H h ∧ (∀ b, H b = none ∨ (b = a ∧ K.lookup a = none ∧ H b = some (.frz { cls := .type "list", data := .seq vs.toArray } (.lst (ns.map V.int))))) := by
  have rel := vals_ints hi
  have n : vs.length ≤ sizeLine := by rw [← rel.length, List.length_map]; exact hl
  cases e : K.lookup a with
  | some o =>
    have z := kin a o e
    rw [ha] at z
    cases z
    exact ⟨fun _ => none, fun _ => .inl rfl, .inr ⟨_, vs.toArray, _, e, rfl, rfl, rfl, by simpa using n, by simpa using rel⟩, fun _ _ z => (nomatch z), fun _ => .inl rfl⟩
  | none =>
    have one : ∀ b, (upd (fun _ => none) a (HO.frz { cls := .type "list", data := .seq vs.toArray } (.lst (ns.map V.int)))) b = none ∨ (b = a ∧ (none : Option Obj) = none ∧ (upd (fun _ => none) a (HO.frz { cls := .type "list", data := .seq vs.toArray } (.lst (ns.map V.int)))) b = some (.frz { cls := .type "list", data := .seq vs.toArray } (.lst (ns.map V.int)))) := fun b => by
      by_cases hb : b = a
      · exact .inr ⟨hb, rfl, by rw [hb, upd_same]⟩
      · exact .inl (upd_ne hb)
    refine ⟨upd (fun _ => none) a (.frz { cls := .type "list", data := .seq vs.toArray } (.lst (ns.map V.int))), fun b => (one b).imp id fun z => ⟨_, _, z.2.2⟩, .inl (.inr ⟨_, upd_same⟩), fun b u z => ?_, one⟩
    rcases one b with y | ⟨rfl, _, y⟩
    · rw [y] at z; cases z
    · rw [y] at z
      cases z
      exact ⟨ha, by rw [List.length_map]; exact hl, vs, _, rel, ha⟩
theorem law_go {P : Program} {w : World} {K : PySem.W.Frag} {mg mb : Str → Option Value} {k : Nat} {fa a : Addr} {fd : FuncData} {x : Str} {sp : Sp} {s : Shared} {vs : List Value} {ns : List Int} (kin : K.In s.heap) (hns : s.heap.Ns mainGlobals mg) (hb : s.heap.Ns builtinsNs mb)
    (hbb : ∀ x : Str, x ≠ "__name__" → mb x = bootBuiltins x) (lim : s.heap.NoLimit) (hg : s.gens = #[]) (ha : s.heap.get? a = some { cls := .type "list", data := .seq vs.toArray }) (hi : IntsAre vs ns) (hl : ns.length ≤ sizeLine) (hr : Room k callerA)
    (F : ∀ base : Heap, K.In base → base.Ns mainGlobals mg → FnG P w K mg base k fa fd [x] sp) (bind : ∀ (s : Shared) (u : Value), BindsTo s fd ⟨[u], []⟩ [(x, u)])
    (prom : ∀ H : Hp, Only H → SqL K H a (ns.map V.int) → sp [.ref a] H (fun v _ => v = .bl true) fun _ _ _ => False) :
    codeAny (model P w) callerA (.call (.ref fa) ⟨[.ref a], []⟩) (fun r s' => r = .ok (.ret (.bool true)) ∧ OldK s.heap s'.heap ∧ s'.os = s.os ∧ AllBare s'.gens) s := by
  obtain ⟨H, only, seq, hok, one⟩ := script_heap (P := P) (w := w) ha hi hl kin
  have plain : ∀ {b : Addr} {o : Obj}, s.heap.get? b = some o → b ≠ a ∨ K.lookup a ≠ none → (hidT s.heap H).get? b = some o := fun {b o} z ne => hidT_get z ((one b).elim id fun y => ne.elim (fun n => (n y.1).elim) fun n => (n y.2.1).elim)
  have dict : ∀ {b : Addr} {m : Str → Option Value}, s.heap.Ns b m → (hidT s.heap H).Ns b m := fun {b m} ⟨o, es, ep, z, d, r⟩ => ⟨o, es, ep, plain z (.inl fun y => by
    subst y
    rw [ha] at z
    cases z
    have d' : Data.seq vs.toArray _ = Data.dict es ep := d
    cases d'), d, r⟩
  have kinB : K.In (hidT s.heap H) := fun b o z => plain (kin b o z) (by
    by_cases y : b = a
    · exact .inr (by rw [← y, z]; exact fun q => nomatch q)
    · exact .inl y)
  have e0 : Env0 P w K mg (hidT s.heap H) callerA [] s H := ⟨rfl, ⟨kinB, dict hns, ⟨mb, dict hb, hbb⟩, lim.elim fun mc z => ⟨mc, dict z.1, z.2⟩⟩, fun b o z => of_hidT z, Nat.le_of_eq (hidT_size _ _), trivial, fun b z => (List.not_mem_nil z).elim, hok, .of_eq hg⟩
  refine codeAny_mono ((F _ kinB (dict hns)).go callerA [] s H ⟨[.ref a], []⟩ [.ref a] [.ref a] _ _ rfl hr e0 (bind s (.ref a)) (.cons rfl .nil) (prom H only seq)) fun r s2 z => ?_
  cases r with
  | error _ => exact z.elim
  | ok fl =>
    cases fl with
    | next => exact z.elim
    | brk => exact z.elim
    | cont => exact z.elim
    | ret u =>
      obtain ⟨v, H2, os, bare, un, hok2, rv, z⟩ := z
      obtain rfl : v = .bl true := z
      obtain rfl : u = Value.bool true := rv
      refine ⟨rfl, OldK.of_keep fun b o y => ?_, os, bare⟩
      rcases one b with q | ⟨_, _, q⟩
      · exact un.keep b o y q (fun m => List.not_mem_nil m) (fun m => List.not_mem_nil m)
      · have e1 := (hok b _ q).1
        have e2 := (hok2 b _ (un.frzs b _ _ q)).1
        rw [y] at e1
        rw [e2, e1]
theorem walk_go {l : PySem.W.OpenLaw} {n k : Nat} {q : Program} {loose : List Str} {XP : (Str → Option Value) → Heap → Prop} {YP : World → Heap → Prop} {d : DefRec} {K : Params → PySem.W.Frag} {W : W0} {x : Str} (hn : l.most = some n) (hn2 : n ≤ 63) (hdf : d.params.defaults = []) (hr : Room k callerA)
    (hY : ∀ (w : World) (h : Heap), YP w h → (K w.params).In h) (hW : W = WLaw)
    (F : ∀ (w : World) (mg : Str → Option Value) (fa : Addr) (h : Heap), (K w.params).In h → h.Ns mainGlobals mg → mg d.name = some (.ref fa) →
      ∃ fd : FuncData, (∀ (s : Shared) (u : Value), BindsTo s fd ⟨[u], []⟩ [(x, u)]) ∧ ∀ base : Heap, (K w.params).In base → base.Ns mainGlobals mg → FnG l.prog w (K w.params) mg base k fa fd [x] (sp0 (K w.params) W)) :
    PySem.W.WalkO q loose XP YP l.row.toRowW d [] (fun f vs => PySem.call f vs) := by
  subst hW
  refine Att.attach_call hn hdf fun w s0 s1 mg mb fa o pm cd doc a vs ns G Y ho hd hcd hmg hobj hints hlen hg => ?_
  obtain ⟨fd, hb, hF⟩ := F w mg fa _ (hY w _ Y) G.T.g hmg
  have small : ns.length ≤ sizeLine := Nat.le_trans (Nat.le_trans hlen hn2) (by decide)
  exact law_go (hY w _ Y) G.T.g G.T.b G.T.builtins G.T.nolimit hg hobj hints small hr hF hb fun H hO hS => law_sp _ H a ns (Nat.le_trans hlen hn2) hO hS
end DL
namespace DL
open PySem L2 PyProof.Rows
open Evl (Ex)

/-! ### things of own classes: fields -/
section
variable {K : PySem.W.Frag} {G : Hp}
theorem RepF.look {f : Str} : ∀ {vs : List (Str × V)} {ds : List (Str × D)} {d : D}, RepF K G vs ds → ds.lookup f = some d → ∃ v, vs.lookup f = some v ∧ Rep K G v d
  | _, _, _, .nil, e => by cases e
  | _, (k, x) :: ds, d, .cons (v := v) (vs := vs) r t, e => by
    rw [List.lookup] at e ⊢
    cases z : f == k with
    | true => rw [z] at e; cases e; exact ⟨v, rfl, r⟩
    | false => rw [z] at e; exact RepF.look t e
theorem RepF.no {f : Str} : ∀ {vs : List (Str × V)} {ds : List (Str × D)}, RepF K G vs ds → ds.lookup f = none → vs.lookup f = none
  | _, _, .nil, _ => rfl
  | _, (k, x) :: ds, .cons r t, e => by
    rw [List.lookup] at e ⊢
    cases z : f == k with
    | true => rw [z] at e; cases e
    | false => rw [z] at e; exact RepF.no t e
theorem RepF.up {G' : Hp} (e : Ex G G') {vs : List (Str × V)} {ds : List (Str × D)} (h : RepF K G vs ds) : RepF K G' vs ds := RepF.mono e ds vs h
theorem RepF.len : ∀ {vs : List (Str × V)} {ds : List (Str × D)}, RepF K G vs ds → vs.length = ds.length
  | _, _, .nil => rfl
  | _, _, .cons _ t => congrArg (· + 1) t.len
/-- a field is stored -/
def putD (f : Str) (d : D) : List (Str × D) → List (Str × D)
  | [] => [(f, d)]
  | (g, x) :: r => if g = f then (g, d) :: r else (g, x) :: putD f d r
theorem RepF.put {f : Str} {v : V} {d : D} (q : Rep K G v d) : ∀ {vs : List (Str × V)} {ds : List (Str × D)}, RepF K G vs ds → RepF K G (putF f v vs) (putD f d ds)
  | _, _, .nil => .cons q .nil
  | _, (k, x) :: ds, .cons (vs := vs) (v := u) r t => by
    unfold putF putD
    by_cases z : k = f
    · rw [if_pos z, if_pos z]; exact .cons q t
    · rw [if_neg z, if_neg z]; exact .cons r (RepF.put q t)
end

/-- what is asked of a class: its things have fields of these names, and of no others -/
structure OC (K : PySem.W.Frag) (C : Addr) (ns : List Str) : Prop where
  cl : Cls K C
  no : ∀ f ∈ ns, NoAttr K C f
  cc : PySem.W.findIn K (.ref C) "__class__" = some (some (.builtin "object.__class__"))
  cg : PySem.W.specialIn K (.builtin "object.__class__") "__get__" = some (some (.builtin "getset_descriptor.__get__"))
  ct : PySem.W.takesIn K (.builtin "object.__class__") = some true
  cm : PySem.W.mroIn K C (.type "object") = some true
theorem OC.ty {K : PySem.W.Frag} {C : Addr} {ns : List Str} (o : OC K C ns) {G H : Hp} (ex : Ex G H) {v : V} {fs : List (Str × D)} (h : Rep K G v (.obj C fs)) : TyX K H v (.ref C) := by
  cases h with
  | obj h1 _ => exact .base (.ins (ex _ _ h1) o.cl o.cc o.cg o.ct o.cm)

section
variable {K : PySem.W.Frag} {F : Fr} {ρ : Sls} {P : Sls → D → Prop} {te ta tb : TE} {x y : D}
theorem wE_fld {f : Str} (h : wE K F ta ρ fun ρ1 x => ∃ (C : Addr) (fs : List (Str × D)) (ns : List Str) (d : D), x = .obj C fs ∧ OC K C ns ∧ f ∈ ns ∧ fs.lookup f = some d ∧ P ρ1 d) : wE K F (tFld K ta f) ρ P := fun σ G H S Q q =>
  h σ G H S _ fun v x ρ1 G1 H1 h1 S1 r1 e1 => by
    obtain ⟨C, fs, ns, d, rfl, c, n, l, p⟩ := h1
    cases r1 with
    | obj ha hf =>
      obtain ⟨u, lu, ru⟩ := hf.look l
      exact ⟨_, C, _, _, u, rfl, S1.ex _ _ ha, c.cl, c.no f n, lu, q _ _ ρ1 G1 H1 p S1 ru e1⟩
/-- behind a call of a promise -/
theorem sp_E {W : W0} {E : XK} {XX : XD} {σ : St} {G H : Hp} {vs : List V} {ds : List D} {Q : VK} (S : SRel K F G H σ ρ) (r : RepL K G vs ds) (hW : W ds (RsP (P ρ)) XX) (hE : EOk K F E XX)
    (q : ∀ (v : V) (d : D) (G' H' : Hp), P ρ d → SRel K F G' H' σ ρ → Rep K G' v d → Ex G G' → Q v H') : sp0 K W vs H Q E := by
  refine ⟨G, ds, _, XX, S.ex, r, hW, fun r v G' H' hr T rr => ?_, EOk.after0 S hE⟩
  obtain ⟨S2, e2⟩ := S.after0 T
  cases r with
  | fz d => exact q v d G' H' hr S2 rr e2
  | ow ds' =>
    obtain ⟨p, vs', rfl, o⟩ := RsR.own (r := .ow ds') S T rr
    obtain ⟨G3, S3, e3, r3⟩ := o.freeze S2
    exact q _ _ G3 H' hr S3 r3 (e2.trans e3)
theorem sp_O {W : W0} {E : XK} {XX : XD} {PO : Sls → List D → Prop} {σ : St} {G H : Hp} {vs : List V} {ds : List D} {Q : VK} (S : SRel K F G H σ ρ) (r : RepL K G vs ds) (hW : W ds (RsO (PO ρ)) XX) (hE : EOk K F E XX)
    (q : ∀ (p : Addr) (us : List V) (es : List D) (G' H' : Hp), PO ρ es → SRel K F G' H' σ ρ → Own K F G' H' σ ρ p us es → Ex G G' → Q (.ref p) H') : sp0 K W vs H Q E := by
  refine ⟨G, ds, _, XX, S.ex, r, hW, fun r v G' H' hr T rr => ?_, EOk.after0 S hE⟩
  obtain ⟨S2, e2⟩ := S.after0 T
  cases r with
  | fz d => exact hr.elim
  | ow ds' =>
    obtain ⟨p, vs', rfl, o⟩ := RsR.own (r := .ow ds') S T rr
    exact q p vs' ds' G' H' hr S2 o e2

/-! ### methods, by the class of the thing -/
/-- o.m(), the thing being of one of these classes, each with its own promise -/
def tVia (Cs : List (Addr × Sp)) (m : Str) (E : XK) (ta : TE) : TE := fun σ H Q => ta σ H fun x H1 => ∃ (C : Addr) (sp : Sp) (a dx : Addr) (fs : List (Str × V)), (C, sp) ∈ Cs ∧ x = .ref a ∧ H1 a = some (.ins C dx fs) ∧ fs.lookup m = none ∧ sp [x] H1 Q E
theorem wE_via {Cs : List (Addr × Sp)} {m : Str} {E : XK} {XX : XD} (hE : EOk K F E XX) (h : wE K F ta ρ fun ρ1 x => ∃ (C : Addr) (fs : List (Str × D)) (W : W0), x = .obj C fs ∧ (C, sp0 K W) ∈ Cs ∧ fs.lookup m = none ∧ W [x] (RsP (P ρ1)) XX) : wE K F (tVia Cs m E ta) ρ P := fun σ G H S Q q =>
  h σ G H S _ fun v x ρ1 G1 H1 h1 S1 r1 e1 => by
    obtain ⟨C, fs, W, rfl, hC, n, hW⟩ := h1
    have r2 := r1
    cases r1 with
    | obj ha hf => exact ⟨C, _, _, _, _, hC, rfl, S1.ex _ _ ha, hf.no n, sp_E S1 (.cons r2 .nil) hW hE fun v d G' H' p S' r' e' => q v d ρ1 G' H' p S' r' (e1.trans e')⟩
theorem wO_via {Cs : List (Addr × Sp)} {m : Str} {E : XK} {XX : XD} {PO : Sls → List D → Prop} (hE : EOk K F E XX) (h : wE K F ta ρ fun ρ1 x => ∃ (C : Addr) (fs : List (Str × D)) (W : W0), x = .obj C fs ∧ (C, sp0 K W) ∈ Cs ∧ fs.lookup m = none ∧ W [x] (RsO (PO ρ1)) XX) : wO K F (tVia Cs m E ta) ρ PO := fun σ G H S Q q =>
  h σ G H S _ fun v x ρ1 G1 H1 h1 S1 r1 e1 => by
    obtain ⟨C, fs, W, rfl, hC, n, hW⟩ := h1
    have r2 := r1
    cases r1 with
    | obj ha hf => exact ⟨C, _, _, _, _, hC, rfl, S1.ex _ _ ha, hf.no n, sp_O S1 (.cons r2 .nil) hW hE fun p us es G' H' pp S' o e' => q p us es ρ1 G' H' pp S' o (e1.trans e')⟩

/-! ### isinstance of own classes -/
def kdD (K : PySem.W.Frag) (x : D) (t : Value) : Prop := (∃ (C : Addr) (fs : List (Str × D)) (ns : List Str), x = .obj C fs ∧ OC K C ns ∧ t = .ref C) ∨ (∃ n, tyD x = some n ∧ t = .type n)
theorem kdD.ty {G H : Hp} (ex : Ex G H) {v : V} {t : Value} (k : kdD K x t) (h : Rep K G v x) : TyX K H v t := by
  rcases k with ⟨C, fs, ns, rfl, o, rfl⟩ | ⟨n, e, rfl⟩
  · exact o.ty ex h
  · exact h.tyx ex e
theorem wC_isiO {C : Addr} {t : Value} {b : Bool} (k : kdD K x t) (hb : PySem.W.kitOne K t (.ref C) = some b) (p : P ρ (.bl b)) : wC K F (rIsi K) [x, .adr C] ρ P := fun σ G H vs S rs Q q => by
  cases rs with
  | cons r1 t1 =>
    cases t1 with
    | cons r2 t2 =>
      cases t2
      cases r2
      exact ⟨_, _, _, _, b, rfl, .own C, k.ty S.ex r1, hb, q _ _ ρ G H p S (.bl _) (Ex.refl G)⟩
theorem paired_own : ∀ Cs : List Addr, Paired ClsV (Cs.map V.ref) (Cs.map Value.ref)
  | [] => .nil
  | C :: Cs => .cons (.own C) (paired_own Cs)
theorem wE_isiT {Cs : List Addr} {tcs : TA} (hc : ∀ (σ : St) (H : Hp) (Q : List V → Hp → Prop), Q (Cs.map V.ref) H → tcs σ H Q) (hl : Cs.length ≤ 1000)
    (h : wE K F te ρ fun ρ1 x => ∃ (t : Value) (b : Bool), kdD K x t ∧ PySem.W.kitAny K t (Cs.map Value.ref) = some b ∧ P ρ1 (.bl b)) : wE K F (tCB (rIsiT K) (tCons te (tCons (tTup tcs) tNil))) ρ P := fun σ G H S Q q =>
  h σ G H S _ fun v x ρ1 G1 H1 h1 S1 r1 e1 => by
    obtain ⟨t, b, k, hb, p⟩ := h1
    refine hc σ H1 _ ⟨by rw [List.length_map]; exact Nat.le_trans hl (by decide), fun a ha => ?_⟩
    have S2 := S1.alloc (o := .tup (Cs.map V.ref)) ha
    exact ⟨v, a, _, t, _, b, rfl, upd_same, paired_own Cs, k.ty S2.ex r1, hb, q _ _ ρ1 G1 _ p S2 (.bl b) e1⟩
end

/-! ### rules at the level of the hand layer -/
structure MCallee (P : Program) (w : World) (K : PySem.W.Frag) (mg : Str → Option Value) (base : Heap) (k : Nat) (C : Addr) (m : Str) (sp : Sp) : Prop where
  ex : ∃ (f : Addr) (fd : FuncData) (ps : List Str), Cls K C ∧ Meth K C m f ∧ FnOk P w K mg base L2.CX0 k f fd ps sp ∧ Binds K fd ps []
structure KCallee (P : Program) (w : World) (K : PySem.W.Frag) (mg : Str → Option Value) (base : Heap) (k : Nat) (x : Str) (C : Addr) (sp : Sp) : Prop where
  ex : ∃ (f : Addr) (fd : FuncData) (ps : List Str), Mk K C f ∧ FnOk P w K mg base L2.CX0 k f fd ps sp ∧ mg x = some (.ref C) ∧ Binds K fd ps []
theorem MCallee.mono {P : Program} {w : World} {K : PySem.W.Frag} {mg : Str → Option Value} {base : Heap} {j k : Nat} {C : Addr} {m : Str} {sp : Sp} (c : MCallee P w K mg base j C m sp) (h : j ≤ k) : MCallee P w K mg base k C m sp := by
  obtain ⟨f, fd, ps, a, b, F, r⟩ := c.ex
  exact ⟨f, fd, ps, a, b, F.mono h, r⟩
theorem KCallee.mono {P : Program} {w : World} {K : PySem.W.Frag} {mg : Str → Option Value} {base : Heap} {j k : Nat} {C : Addr} {x : Str} {sp : Sp} (c : KCallee P w K mg base j x C sp) (h : j ≤ k) : KCallee P w K mg base k x C sp := by
  obtain ⟨f, fd, ps, a, F, r⟩ := c.ex
  exact ⟨f, fd, ps, a, F.mono h, r⟩
section
variable {X : Cx} {k j : Nat} {C : Addr} {x m : Str} {sp : Sp} {p pos apos : Pos} {e o : Expr} {es : List Expr} {ta : TE} {t : TA}
theorem pe_via {pl : Sem Bool} {Cs : List (Addr × Sp)} (c : ∀ z ∈ Cs, MCallee X.prog X.w X.K X.mg X.base k z.1 m z.2) (hr : Room j X.A) (hk : k ≤ j) (he : PE X o ta)
    (ht : eval (.Call (.Attribute o m apos) [] [] pos) X.env = (do
      let own ← eval o X.env
      standAt apos.atName
      let (f, one) ← holding [own] (getMethod own m pl)
      callWith pos f one (backTo pos (starEach [] X.env)) (backToKw pos (keywordEach [] X.env))) := by rfl) : PE X (.Call (.Attribute o m apos) [] [] pos) (tVia Cs m L2.E0 ta) := by
  refine ⟨fun pins s σ H Q I h => PySem.W.methodCall_KW (pl := pl) (thn (he.run pins s σ H _ I h) fun u s1 ⟨v, H1, I1, rv, C, sp, a, dx, fs, hC, ev, ea, l, q⟩ => ?_) ht⟩
  subst ev
  obtain rfl : u = Value.ref a := rv
  obtain ⟨f, fd, ps, cl, me, F, b⟩ := (c _ hC).ex
  exact getmeth_ok I1 ea cl me l (PySem.W.callWith_K0 (first := [.ref a]) I1.kIn me.kp (run_fn (us := [.ref a]) (vs := [.ref a]) F (hr.mono hk) b .nil pass0 I1 (.cons rfl .nil) q))
theorem pe_new1 (c : KCallee X.prog X.w X.K X.mg X.base k x C sp) (hr : Room j X.A) (hk : k + 1 ≤ j) (hg : Gl X x) (ha : PA X (e :: es) t)
    (hd : (x == ("__debug__" : Str)) = false := by decide) (he : starEach (e :: es) X.env = (false, eval e X.env) :: starEach es X.env := by rfl) (hpl : (backTo pos (starEach es X.env)).any (·.1) = false := by rfl) : PE X (.Call (.Name x p) (e :: es) [] pos) (tMake C sp [] L2.E0 t) := by
  obtain ⟨f, fd, ps, M, F, hm, b⟩ := c.ex
  exact pe_make M F (hr.mono hk) hg hm b .nil pass0 ha hd he hpl
/-- a statement that is never come to -/
def tBad : TS := fun _ _ _ => False
theorem ps_bad {st : Stmt} : PS X st tBad := ⟨fun _ _ _ _ _ _ h => h.elim⟩
end

/-! ### how a thing is made: its __init__ -/
abbrev WI := List D → (List (Str × D) → Prop) → Prop
def spI (K : PySem.W.Frag) (C : Addr) (W : WI) : Sp := fun vs H Q _ => ∃ (G : Hp) (x dx : Addr) (ws : List V) (ds : List D) (Φ : List (Str × D) → Prop), vs = .ref x :: ws ∧ Ex G H ∧ G x = none ∧ H x = some (.ins C dx []) ∧ RepL K G ws ds ∧ W ds Φ ∧
  ∀ (fs : List (Str × D)) (fvs : List (Str × V)) (G' H' : Hp), Φ fs → FrOk (fr1 G H x) G' H' → G' x = none → H' x = some (.ins C dx fvs) → RepF K G' fvs fs → Q .non H'
section
variable {K : PySem.W.Frag} {F : Fr} {ρ : Sls} {P : Sls → D → Prop} {te ta tb : TE} {x y : D}
theorem SRel.afterX {G H G' H' : Hp} {σ : St} {p : Addr} (S : SRel K F G H σ ρ) (hf : F.H0 p = none) (hn : ∀ (i : Nat) (l : Kd) (ds : List D), ρ[i]? = some (.ow l ds) → σ[i]? ≠ some (some (.ref p))) (hd : ND σ ρ p) (T : FrOk (fr1 G H p) G' H') : SRel K F G' H' σ ρ ∧ Ex G G' := by
  have e : Ex G G' := fun a o h => by
    rw [T.old a o (S.ex a o h)]
    exact h
  refine ⟨⟨⟨T.ex, fun a o h => ?_, fun a o h np => ?_, fun a o h => ?_⟩, S.len, fun i s o h1 h2 => ?_, S.dis, S.own, S.disD, S.ownD⟩, e⟩
  · obtain ⟨o', q⟩ := S.fr.th a o h
    exact (T.old a o' q).trans (S.fr.old a o h)
  · exact T.kp a o (S.fr.kp a o h np) fun z => by
      have z' : a = p := z
      rw [z', hf] at h
      cases h
  · obtain ⟨o', q⟩ := S.fr.th a o h
    exact T.th a o' q
  · have q := S.sl i s o h1 h2
    cases s with
    | un => cases o <;> trivial
    | fz d =>
      cases o with
      | none => exact q
      | some v => exact Rep.up e q
    | ow l ds =>
      cases o with
      | none => exact q
      | some v =>
        obtain ⟨a, vs, rfl, q1, q2, q3⟩ := q
        have ne : a ≠ p := fun z => hn i l ds h1 (by rw [h2, z])
        exact ⟨a, vs, rfl, (T.old a _ q2).trans q1, T.kp a _ q2 ne, RepL.up e q3⟩
    | od l ds =>
      cases o with
      | none => exact q
      | some v =>
        obtain ⟨a, vs, rfl, q1, q2, q3⟩ := q
        have ne : a ≠ p := fun z => hd i l ds h1 (by rw [h2, z])
        exact ⟨a, vs, rfl, (T.old a _ q2).trans q1, T.kp a _ q2 ne, RepK.up e q3⟩
theorem wE_make {C : Addr} {W : WI} {E : XK} {t : TA} (h : wA K F t ρ fun ρ1 ds => W ds fun fs => P ρ1 (.obj C fs)) : wE K F (tMake C (spI K C W) [] E t) ρ P := fun σ G H S Q q =>
  h σ G H S _ fun vs ds ρ1 G1 H1 h1 S1 r1 e1 x dx hx hdx hne => by
    rw [List.append_nil]
    have S2 := S1.alloc (o := .own x) hdx
    have hx2 : (upd H1 dx (.own x)) x = none := by rw [upd_ne hne.symm]; exact hx
    have S3 := S2.alloc (o := .ins C dx []) hx2
    have gx : G1 x = none := S1.fr.freshG hx
    have fx : F.H0 x = none := S1.fr.fresh hx
    have nx := S1.notOwn hx
    refine ⟨G1, x, dx, vs, ds, _, rfl, S3.ex, gx, upd_same, r1, h1, fun fs fvs G' H' p T g' h' rf => ⟨rfl, ?_⟩⟩
    have dx1 := S1.nd0 hx
    obtain ⟨S4, e4⟩ := S3.afterX fx nx dx1 T
    have S5 := S4.freeze g' h' fx nx dx1
    have e5 : Ex G' (upd G' x (.ins C dx fvs)) := Ex.new g'
    exact q _ _ ρ1 _ H' p S5 (.obj upd_same (rf.up e5)) ((e1.trans e4).trans e5)
def noOw : Sls → Bool
  | [] => true
  | .ow _ _ :: _ => false
  | .od _ _ :: _ => false
  | _ :: r => noOw r
theorem noOw_at : ∀ {ρ : Sls} {i : Nat} {l : Kd} {ds : List D}, noOw ρ = true → ρ[i]? ≠ some (.ow l ds)
  | [], _, _, _, _ => by simp
  | .ow _ _ :: _, _, _, _, h => by cases h
  | .od _ _ :: _, _, _, _, h => by cases h
  | .un :: r, 0, _, _, _ => by simp
  | .fz _ :: r, 0, _, _, _ => by simp
  | .un :: r, i + 1, l, ds, h => by
    rw [List.getElem?_cons_succ]
    exact noOw_at (ρ := r) h
  | .fz _ :: r, i + 1, l, ds, h => by
    rw [List.getElem?_cons_succ]
    exact noOw_at (ρ := r) h
theorem noOd_at : ∀ {ρ : Sls} {i : Nat} {l : Kd} {ds : List (Key × D)}, noOw ρ = true → ρ[i]? ≠ some (.od l ds)
  | [], _, _, _, _ => by simp
  | .ow _ _ :: _, _, _, _, h => by cases h
  | .od _ _ :: _, _, _, _, h => by cases h
  | .un :: r, 0, _, _, _ => by simp
  | .fz _ :: r, 0, _, _, _ => by simp
  | .un :: r, i + 1, l, ds, h => by
    rw [List.getElem?_cons_succ]
    exact noOd_at (ρ := r) h
  | .fz _ :: r, i + 1, l, ds, h => by
    rw [List.getElem?_cons_succ]
    exact noOd_at (ρ := r) h
/-- the same state, told anew, nothing being the def's own -/
theorem SRel.anew {G H G' H' : Hp} {σ : St} (S : SRel K F G H σ ρ) (hn : noOw ρ = true) (e : Ex G G') (e2 : Ex G' H') : SRel K (fr0 G' H') G' H' σ ρ :=
  ⟨⟨e2, fun _ _ _ => rfl, fun _ _ h _ => h, fun _ o h => ⟨o, h⟩⟩, S.len, fun i s o h1 h2 => by
    have q := S.sl i s o h1 h2
    cases s with
    | un => cases o <;> trivial
    | fz d =>
      cases o with
      | none => exact q
      | some v => exact Rep.up e q
    | ow l ds => exact (noOw_at hn h1).elim
    | od l ds => exact (noOd_at hn h1).elim, fun i j p l m di dj h => (noOw_at hn h).elim, fun i l ds p h => (noOw_at hn h).elim, fun i j p l m di dj h => (noOd_at hn h).elim, fun i l ds p h => (noOd_at hn h).elim⟩
theorem FrOk.next {G H G1 H1 G2 H2 : Hp} {p : Addr} (T : FrOk (fr1 G H p) G1 H1) (U : FrOk (fr0 G1 H1) G2 H2) : FrOk (fr1 G H p) G2 H2 :=
  ⟨U.ex, fun a o h => by
    obtain ⟨o', q⟩ := T.th a o h
    exact (U.old a o' q).trans (T.old a o h), fun a o h np => U.kp a o (T.kp a o h np) (fun z => z), fun a o h => by
    obtain ⟨o', q⟩ := T.th a o h
    exact U.th a o' q⟩
theorem FrOk.put {G H G1 H1 : Hp} {p : Addr} {o : HO} (T : FrOk (fr1 G H p) G1 H1) (hg : G1 p = none) (hh : ∃ u, H1 p = some u) : FrOk (fr1 G H p) G1 (upd H1 p o) :=
  ⟨fun a u h => by
    have ne : a ≠ p := fun z => by rw [z, hg] at h; cases h
    rw [upd_ne ne]
    exact T.ex a u h, T.old, fun a u h np => by
    rw [upd_ne np]
    exact T.kp a u h np, fun a u h => by
    by_cases z : a = p
    · exact ⟨o, by rw [z, upd_same]⟩
    · rw [upd_ne z]
      exact T.th a u h⟩
/-- a body that stores the fields of the thing in slot 0 -/
def wI (K : PySem.W.Frag) (C : Addr) (ts : TS) (ρ : Sls) (fs : List (Str × D)) (Φ : List (Str × D) → Prop) : Prop := ∀ (σ : St) (Ga Ha G H : Hp) (x dx : Addr) (fvs : List (Str × V)), SRel K (fr0 G H) G H σ ρ → noOw ρ = true → σ[0]? = some (some (.ref x)) →
  FrOk (fr1 Ga Ha x) G H → G x = none → H x = some (.ins C dx fvs) → RepF K G fvs fs → ∀ Q : VK,
  (∀ (fs' : List (Str × D)) (fvs' : List (Str × V)) (G' H' : Hp), Φ fs' → FrOk (fr1 Ga Ha x) G' H' → G' x = none → H' x = some (.ins C dx fvs') → RepF K G' fvs' fs' → Q .non H') → ts { nx := fun _ H' => Q .non H', rt := Q } σ H
theorem wI_fld {C : Addr} {f : Str} {rest : TS} {fs : List (Str × D)} {ns : List Str} {Φ : List (Str × D) → Prop} (oc : OC K C ns) (hf : f ∈ ns) (hl : fs.length < 1000) (h : ∀ F, wE K F te ρ fun ρ1 d => noOw ρ1 = true ∧ wI K C rest ρ1 (putD f d fs) Φ) : wI K C (tSeq (sFld K (tVar 0) te f) rest) ρ fs Φ :=
  fun σ Ga Ha G H x dx fvs S no h0 T gx hx rf Q q => h (fr0 G H) σ G H S _ fun v d ρ1 G1 H1 ⟨no1, h1⟩ S1 r1 e1 => by
    have gx1 : G1 x = none := (S1.fr.old x _ hx).trans gx
    have hx1 : H1 x = some (.ins C dx fvs) := S1.fr.kp x _ hx (fun z => z)
    have T1 := T.next S1.fr
    have T2 := T1.put (o := .ins C dx (putF f v fvs)) gx1 ⟨_, hx1⟩
    refine ⟨.ref x, h0, x, C, dx, fvs, rfl, hx1, oc.cl, oc.no f hf, by rw [rf.len]; exact hl, ?_⟩
    exact h1 σ Ga Ha G1 _ x dx _ (S1.anew no1 (Ex.refl G1) T2.ex) no1 h0 T2 gx1 upd_same ((rf.up e1).put r1) Q q
theorem wI_end {C : Addr} {fs : List (Str × D)} {Φ : List (Str × D) → Prop} (p : Φ fs) : wI K C tNext ρ fs Φ := fun σ Ga Ha G H x dx fvs S no h0 T gx hx rf Q q => q fs fvs G H p T gx hx rf
theorem wI_last {C : Addr} {ts : TS} {fs : List (Str × D)} {Φ : List (Str × D) → Prop} (h : wI K C (tSeq ts tNext) ρ fs Φ) : wI K C ts ρ fs Φ := fun σ Ga Ha G H x dx fvs S no h0 T gx hx rf Q q => h σ Ga Ha G H x dx fvs S no h0 T gx hx rf Q q
theorem wI_if {C : Addr} {t : TT} {ts tu rest : TS} {fs : List (Str × D)} {Φ : List (Str × D) → Prop} (h : ∀ F, wT K F t ρ fun ρ1 b => noOw ρ1 = true ∧ Ways b (wI K C (tSeq ts rest) ρ1 fs Φ) (wI K C (tSeq tu rest) ρ1 fs Φ)) : wI K C (tSeq (tIfS t ts tu) rest) ρ fs Φ :=
  fun σ Ga Ha G H x dx fvs S no h0 T gx hx rf Q q => h (fr0 G H) σ G H S _ fun b ρ1 G1 H1 ⟨no1, w⟩ S1 e1 => by
    have gx1 : G1 x = none := (S1.fr.old x _ hx).trans gx
    have hx1 : H1 x = some (.ins C dx fvs) := S1.fr.kp x _ hx (fun z => z)
    have T1 := T.next S1.fr
    have S2 := S1.anew no1 (Ex.refl G1) S1.ex
    cases b with
    | true => rw [if_pos rfl]; exact w.yes rfl σ Ga Ha G1 H1 x dx fvs S2 no1 h0 T1 gx1 hx1 (rf.up e1) Q q
    | false => rw [if_neg (fun z => nomatch z)]; exact w.no rfl σ Ga Ha G1 H1 x dx fvs S2 no1 h0 T1 gx1 hx1 (rf.up e1) Q q
theorem wI_skip {C : Addr} {rest : TS} {fs : List (Str × D)} {Φ : List (Str × D) → Prop} (h : wI K C rest ρ fs Φ) : wI K C (tSeq tNext rest) ρ fs Φ := fun σ Ga Ha G H x dx fvs S no h0 T gx hx rf Q q => h σ Ga Ha G H x dx fvs S no h0 T gx hx rf Q q
/-- an __init__'s body against its promise -/
def stI (N : List Str) (ds : List D) : Sls := .un :: (ds.map .fz ++ List.replicate (N.length - (ds.length + 1)) .un)
theorem noOw_app : ∀ (as bs : Sls), noOw as = true → noOw bs = true → noOw (as ++ bs) = true
  | [], _, _, h => h
  | .ow _ _ :: _, _, h, _ => by cases h
  | .un :: r, bs, h, g => noOw_app r bs h g
  | .fz _ :: r, bs, h, g => noOw_app r bs h g
theorem noOw_fz : ∀ ds : List D, noOw (ds.map Sl.fz) = true
  | [] => rfl
  | _ :: ds => noOw_fz ds
theorem noOw_un : ∀ n : Nat, noOw (List.replicate n Sl.un) = true
  | 0 => rfl
  | n + 1 => by rw [List.replicate_succ]; exact noOw_un n
theorem noOw_stI {N : List Str} {ds : List D} : noOw (stI N ds) = true := noOw_app _ _ (noOw_fz ds) (noOw_un _)
theorem srelI {N : List Str} {p : Addr} {vs : List V} {ds : List D} {G H : Hp} (e : Ex G H) (r : RepL K G vs ds) : SRel K (fr0 G H) G H (start N (.ref p :: vs)) (stI N ds) := by
  have hs : start N (.ref p :: vs) = some (.ref p) :: (vs.map some ++ List.replicate (N.length - (vs.length + 1)) none) := rfl
  refine ⟨⟨e, fun _ _ _ => rfl, fun a o h _ => h, fun a o h => ⟨o, h⟩⟩, ?_, fun i s o h1 h2 => ?_, fun i j q l m di dj h => (noOw_at noOw_stI h).elim, fun i l di q h => (noOw_at noOw_stI h).elim, fun i j q l m di dj h => (noOd_at noOw_stI h).elim, fun i l di q h => (noOd_at noOw_stI h).elim⟩
  · rw [hs]
    unfold stI
    rw [List.length_cons, List.length_cons, List.length_append, List.length_append, List.length_map, List.length_map, List.length_replicate, List.length_replicate, r.length]
  · rw [hs] at h2
    unfold stI at h1
    cases i with
    | zero =>
      simp only [List.getElem?_cons_zero, Option.some.injEq] at h1
      subst h1
      cases o <;> trivial
    | succ i =>
      rw [List.getElem?_cons_succ] at h1 h2
      by_cases hl : i < ds.length
      · rw [List.getElem?_append_left (by rw [List.length_map]; exact hl), List.getElem?_map, List.getElem?_eq_getElem hl] at h1
        cases h1
        obtain ⟨v, hv, rv⟩ := r.get (List.getElem?_eq_getElem hl)
        rw [List.getElem?_append_left (by rw [List.length_map, r.length]; exact hl), List.getElem?_map, hv] at h2
        cases h2
        exact rv
      · rw [List.getElem?_append_right (by rw [List.length_map]; omega)] at h1
        have z := (List.mem_replicate.mp (List.mem_of_getElem? h1)).2
        subst z
        cases o <;> trivial
theorem bodyI {C : Addr} {W : WI} {t : TS} {N : List Str} {vs : List V} {H : Hp} {Q : VK} {E : XK} (h : spI K C W vs H Q E) (hb : ∀ (ds : List D) (Φ : List (Str × D) → Prop), W ds Φ → wI K C t (stI N ds) [] Φ) : t { nx := fun _ H' => Q .non H', rt := Q } (start N vs) H := by
  obtain ⟨G, x, dx, ws, ds, Φ, rfl, e, gx, hx, r, hW, hQ⟩ := h
  exact hb ds Φ hW _ G H G H x dx [] (srelI e r) noOw_stI rfl ⟨e, fun _ _ _ => rfl, fun _ _ h _ => h, fun _ o h => ⟨o, h⟩⟩ gx hx .nil Q hQ
theorem spI_len {C : Addr} {W : WI} {vs : List V} {H : Hp} {Q : VK} {E : XK} {n : Nat} (hl : ∀ ds Φ, W ds Φ → ds.length + 1 = n) (h : spI K C W vs H Q E) : vs.length = n := by
  obtain ⟨G, x, dx, ws, ds, Φ, rfl, e, gx, hx, r, hW, hQ⟩ := h
  rw [List.length_cons, r.length]
  exact hl ds Φ hW
end
/-! ### promises that nobody can ask for -/
theorem FnOk.vac {P : Program} {w : World} {K : PySem.W.Frag} {mg : Str → Option Value} {base : Heap} {k : Nat} {f : Addr} {fd : FuncData} {ps : List Str} {sp : Sp} (h : ∀ vs H Q E, ¬ sp vs H Q E) : FnOk P w K mg base L2.CX0 k f fd ps sp :=
  ⟨fun vs H Q E q => (h vs H Q E q).elim, fun A up s H gs us vs Q E _ _ _ _ q => (h vs H Q E q).elim⟩
theorem sp0_no {K : PySem.W.Frag} {W : W0} {vs : List V} {H : Hp} {Q : VK} {E : XK} (h : ∀ ds Φ X, ¬ W ds Φ X) : ¬ sp0 K W vs H Q E := fun ⟨_, ds, Φ, X, _, _, hW, _⟩ => h ds Φ X hW
theorem sp1_no {K : PySem.W.Frag} {W : W1} {vs : List V} {H : Hp} {Q : VK} {E : XK} (h : ∀ ds es Φ X, ¬ W ds es Φ X) : ¬ sp1 K W vs H Q E := fun ⟨_, _, _, ds, _, es, Φ, X, _, _, _, _, _, _, hW, _⟩ => h ds es Φ X hW
/-! ### one class beside others -/
theorem ref_beq (C : Addr) : (Value.ref C == Value.ref C) = true := by simp
theorem cls_some {K : PySem.W.Frag} {C : Addr} (h : PySem.W.mroIn K C (.type "object") = some true) : (PySem.W.clsIn K C).isSome = true := by
  unfold PySem.W.mroIn at h
  cases e : PySem.W.clsIn K C with
  | none => rw [e] at h; cases h
  | some d => rfl
theorem kit_sub {K : PySem.W.Frag} {C C' : Addr} {b : Bool} (hm : PySem.W.mroIn K C' (.type "object") = some true) (ht : PySem.W.typeIn K (.ref C') = some (.type "type")) (hs : PySem.W.subIn K (.ref C) (.ref C') = some b) : PySem.W.kitCls K (.ref C) (.ref C') = some b := by
  show (if ((PySem.W.clsIn K C').isSome && PySem.W.typeIn K (.ref C') == some (.type "type")) = true then PySem.W.subIn K (.ref C) (.ref C') else none) = some b
  rw [cls_some hm, ht, if_pos (by simp), hs]
theorem one_own {K : PySem.W.Frag} {C C' : Addr} (hm : PySem.W.mroIn K C' (.type "object") = some true) (ht : PySem.W.typeIn K (.ref C') = some (.type "type")) (hs : PySem.W.subIn K (.ref C) (.ref C') = some true) : PySem.W.kitOne K (.ref C) (.ref C') = some true := by
  unfold PySem.W.kitOne
  split
  · rfl
  · exact kit_sub hm ht hs
theorem any_own {K : PySem.W.Frag} {C : Addr} : ∀ Cs : List Addr, C ∈ Cs → (∀ y ∈ Cs, y = C ∨ ∃ b, PySem.W.kitCls K (.ref C) (.ref y) = some b) → PySem.W.kitAny K (.ref C) (Cs.map Value.ref) = some true
  | [], h, _ => nomatch h
  | y :: r, h, k => by
    rw [List.map_cons]
    unfold PySem.W.kitAny PySem.W.kitOne
    by_cases e : (Value.ref C == Value.ref y) = true
    · rw [if_pos e]
    · rw [if_neg e]
      rcases k y (.head _) with z | ⟨b, z⟩
      · rw [z] at e
        exact absurd (ref_beq C) e
      · rw [z]
        cases b with
        | true => rfl
        | false =>
          refine any_own r ?_ fun x hx => k x (.tail _ hx)
          rcases List.mem_cons.mp h with q | q
          · rw [q] at e
            exact absurd (ref_beq y) e
          · exact q
end DL
namespace DL
open PySem L2 PyProof.Rows
open Evl (Ex)
/-- each text once, by first places -/
def once (ss : List Str) : List Str := ss.foldl (fun acc s => if s ∈ acc then acc else acc ++ [s]) []
def kvD (l : List Str) : List (Key × V) := l.map fun s => (.inr s, .bl true)
theorem kvD_put (l : List Str) (s : Str) : putK (kvD l) (.inr s) (.bl true) = kvD (if s ∈ l then l else l ++ [s]) := by
  unfold putK kvD
  have e : ((l.map fun s => ((.inr s : Key), V.bl true)).any fun kv => decide (kv.1 = .inr s)) = decide (s ∈ l) := by
    induction l with
    | nil => rfl
    | cons a l ih =>
      rw [List.map_cons, List.any_cons, ih]
      by_cases h : a = s
      · subst h
        simp
      · have h1 : ¬ ((.inr a : Key) = .inr s) := fun z => h (Sum.inr.inj z)
        have h2 : ¬ s = a := fun z => h z.symm
        simp [h1, h2, List.mem_cons]
  rw [e]
  by_cases h : s ∈ l
  · rw [if_pos (decide_eq_true h), if_pos h, List.map_map]
    refine List.map_congr_left fun a _ => ?_
    show (if (.inr a : Key) = .inr s then ((.inr a : Key), V.bl true) else ((.inr a : Key), V.bl true)) = _
    by_cases z : (.inr a : Key) = .inr s
    · rw [if_pos z]
    · rw [if_neg z]
  · rw [if_neg (by rw [decide_eq_false h]; exact fun z => nomatch z), if_neg h, List.map_append]
    rfl
theorem once_snoc (l : List Str) (s : Str) : once (l ++ [s]) = if s ∈ once l then once l else once l ++ [s] := by
  unfold once
  rw [List.foldl_append]
  rfl
theorem once_len (l : List Str) : (once l).length ≤ l.length := by
  suffices h : ∀ (l acc : List Str), (l.foldl (fun acc s => if s ∈ acc then acc else acc ++ [s]) acc).length ≤ acc.length + l.length by
    have := h l []
    simpa [once] using this
  intro l
  induction l with
  | nil => intro acc; exact Nat.le_refl _
  | cons a l ih =>
    intro acc
    rw [List.foldl_cons]
    refine Nat.le_trans (ih _) ?_
    split
    · rw [List.length_cons]; omega
    · rw [List.length_append, List.length_cons, List.length_cons]; simp; omega
section
variable {K : PySem.W.Frag} {F : Fr} {ρ : Sls} {P : Sls → D → Prop} {te ta tb : TE} {r : R2} {x y : D}
abbrev rLD : List V → Hp → VK → Prop := fun xs H Q => ∃ (a : Addr) (kvs : List (Key × V)), xs = [.ref a] ∧ Rd H a (.dK kvs) ∧ ∀ p, H p = none → Q (.ref p) (upd H p (.lst (kvs.map fun kv => kV kv.1)))
theorem wO_once {i j : Nat} {ss : List Str} {PO : Sls → List D → Prop} (h : ρ[i]? = some (.fz (.lst (ss.map D.str)))) (hj : j < ρ.length) (hij : i ≠ j) (hl : ss.length ≤ 100000) (p : PO ρ ((once ss).map D.str)) :
    wO K F (tCB rLD (tCons (tDc (iList K (tVar i)) (gName j) tYes (tVar j) (tC (.bl true)) [j]) tNil)) ρ PO := fun σ G H S Q q => by
  obtain ⟨v, e, rv⟩ := S.fz h
  cases rv with
  | lst ga ra =>
    rename_i a vs
    obtain rfl := ra.strs
    have ha := S.ex _ _ ga
    refine ⟨.ref a, e, a, rfl, ⟨_, SqL.of ha⟩, fun Dd hD => ?_⟩
    have ne : a ≠ Dd := fun z => by rw [z, hD] at ha; cases ha
    have seq : ∀ o, SqL K (upd H Dd o) a (ss.map V.str) := fun o => SqL.of (by rw [upd_ne ne]; exact ha)
    refine ⟨fun n m H' => m = ss.length - n ∧ n ≤ ss.length ∧ H' = upd H Dd (.dK (kvD (once (ss.take n)))), ⟨ss.length, by simp, Nat.zero_le _, rfl⟩, ?_⟩
    rintro n m H' ⟨rfl, hn, rfl⟩
    by_cases he : n = ss.length
    · left
      subst he
      refine ⟨⟨_, seq _, by rw [List.length_map]; exact Nat.le_refl _⟩, Dd, _, rfl, Rd.of upd_same, fun b hb => ?_⟩
      rw [List.take_length] at hb ⊢
      have S2 := S.alloc (o := .dK (kvD (once ss))) hD
      have ek : ((kvD (once ss)).map fun kv => kV kv.1) = (once ss).map V.str := by
        unfold kvD
        rw [List.map_map]
        rfl
      rw [ek]
      have rr : RepL K G ((once ss).map V.str) ((once ss).map D.str) := RepL.ofStrs _
      exact q b _ _ ρ G _ p (S2.alloc hb) (Own.alloc S2 hb rr) (Ex.refl G)
    · right
      have hlt : n < ss.length := by omega
      have hs : (ss.map V.str)[n]? = some (V.str ss[n]) := by rw [List.getElem?_map, List.getElem?_eq_getElem hlt]; rfl
      refine ⟨⟨_, _, seq _, hs⟩, fun H2 => H2 = upd H Dd (.dK (kvD (once (ss.take (n + 1))))), fun H2 hH => ⟨ss.length - (n + 1), by omega, rfl, hlt, hH⟩, ?_⟩
      rintro w H2 ⟨rfl, hw⟩
      have ew := hw _ (seq _)
      rw [hs] at ew
      cases ew
      have hlen : j < σ.length := by rw [S.len]; exact hj
      have hw1 : (wipe σ [j]).length = σ.length := by
        show (σ.set j none).length = _
        rw [List.length_set]
      refine ⟨?_, ?_⟩
      · show ((wipe σ [j]).set j _).set j none = _
        rw [List.set_set]
        show (σ.set j none).set j none = _
        rw [List.set_set]
        rfl
      · dsimp only [tYes]
        rw [if_pos rfl]
        refine ⟨V.str ss[n], ?_, _, .inr ss[n], rfl, upd_same, ?_, ?_⟩
        · rw [List.getElem?_set_self (by rw [hw1]; exact hlen)]
        · refine Nat.lt_of_le_of_lt (m := 100000) ?_ (by decide)
          unfold kvD
          rw [List.length_map]
          have := once_len (ss.take n)
          rw [List.length_take] at this
          omega
        · rw [kvD_put, ← once_snoc, upd_upd]
          congr 3
          rw [List.take_succ_eq_append_getElem hlt]
/-! ### some more readings -/
theorem wT_truT {P' : Sls → Bool → Prop} {b : Bool} (h : wE K F ta ρ fun ρ1 x => ∃ ds, x = .tup ds ∧ b = !ds.isEmpty ∧ P' ρ1 b) : wT K F (fun σ H Q => ta σ H fun x H' => ∃ k, TruV K x H' k ∧ Q k H') ρ P' := fun σ G H S Q q =>
  h σ G H S _ fun v x ρ1 G1 H1 h1 S1 r1 e1 => by
    obtain ⟨ds, rfl, rfl, p⟩ := h1
    cases r1 with
    | tup h1 h2 =>
      rename_i vs
      refine ⟨!ds.isEmpty, .inr (.inl ⟨_, Evl.ex_t S1.ex h1, ?_⟩), q _ ρ1 G1 H1 p S1 e1⟩
      cases h2 <;> rfl
theorem wE_slT {tl th : TO} (h : wE K F te ρ fun ρ1 x => ∃ ds, x = .tup ds ∧ wP K F tl ρ1 fun ρ2 lo => wP K F th ρ2 fun ρ3 hi => ¬ (HT.sIx ds.length 0 lo = 0 ∧ HT.sIx ds.length ds.length hi = ds.length) ∧ P ρ3 (.tup (cutD ds lo hi))) : wE K F (tSl (rSlT K) te tl th) ρ P := fun σ G H S Q q =>
  h σ G H S _ fun v x ρ1 G1 H1 h1 S1 r1 e1 => by
    obtain ⟨ds, rfl, hl⟩ := h1
    refine hl σ G1 H1 S1 _ fun lo ρ2 G2 H2 h2 S2 e2 => h2 σ G2 H2 S2 _ fun hi ρ3 G3 H3 h3 S3 e3 => ?_
    have r3 := (r1.up e2).up e3
    cases r3 with
    | tup t1 t2 =>
      rename_i av vs
      refine ⟨_, _, rfl, Evl.ex_t S3.ex t1, by rw [t2.length]; exact h3.1, fun b hb => ?_⟩
      have S4 := S3.new (o := .tup (cutV vs lo hi)) hb
      exact q _ _ ρ3 _ _ h3.2 S4 (.tup (.inl (.inl upd_same)) (t2.cut.up (Ex.new (S3.fr.freshG hb)))) (((e1.trans e2).trans e3).trans (Ex.new (S3.fr.freshG hb)))
theorem wC_reprD {ds : List D} {pd : PyData} (h : toPy (.tup ds) = some pd) (h1 : pd.showable = true) (h2 : pd.hasDict = false) (h3 : pd.depth ≤ 60) (h4 : pd.shown.length ≤ sizeLine) (p : P ρ (.str pd.shown)) : wC K F (rReprD K) [.tup ds] ρ P := fun σ G H vs S rs Q q => by
  cases rs with
  | cons r1 t1 =>
    cases t1
    have dp := Rep.dp S.ex _ _ _ r1 h
    cases r1 with
    | tup a b => exact ⟨_, pd, rfl, dp, h1, h2, h3, h4, q _ _ ρ G H p S (.str _) (Ex.refl G)⟩
def mx (i j : Int) : Int := if i < j then j else i
theorem wC_max3 {i j k : Int} (p : P ρ (.int (mx (mx i j) k))) : wC K F (rNuC3 nuMax3) [.int i, .int j, .int k] ρ P := fun σ G H vs S rs Q q => by
  cases rs with
  | cons r1 t1 =>
    cases t1 with
    | cons r2 t2 =>
      cases t2 with
      | cons r3 t3 =>
        cases t3
        cases r1
        cases r2
        cases r3
        refine ⟨_, _, _, .int (mx (mx i j) k), rfl, ?_, q _ _ ρ G H p S (.int _) (Ex.refl G)⟩
        show ((some (decide (i < j))).map fun c => if c = true then V.int j else V.int i).bind (fun m => nuMax2 m (.int k)) = _
        have e1 : (if decide (i < j) = true then V.int j else V.int i) = V.int (mx i j) := by
          unfold mx
          by_cases z : i < j
          · rw [if_pos (decide_eq_true z), if_pos z]
          · rw [if_neg (by rw [decide_eq_false z]; exact fun z => nomatch z), if_neg z]
        rw [Option.map_some, Option.bind_some, e1]
        show (some (decide (mx i j < k))).map (fun c => if c = true then V.int k else V.int (mx i j)) = _
        have e2 : (if decide (mx i j < k) = true then V.int k else V.int (mx i j)) = V.int (mx (mx i j) k) := by
          generalize mx i j = m
          unfold mx
          by_cases z : m < k
          · rw [if_pos (decide_eq_true z), if_pos z]
          · rw [if_neg (by rw [decide_eq_false z]; exact fun z => nomatch z), if_neg z]
        rw [Option.map_some, e2]
theorem wC_maxL {ns : List Int} {m : Int} (hm : m ∈ ns) (ha : ∀ y ∈ ns, y ≤ m) (p : P ρ (.int m)) : wC K F (rMax K) [.lst (ns.map D.int)] ρ P := fun σ G H vs S rs Q q => by
  cases rs with
  | cons r1 t1 =>
    cases t1
    cases r1 with
    | lst a b =>
      obtain rfl := b.ints
      refine ⟨_, ns, rfl, SqL.of (S.ex _ _ a), List.length_pos_of_mem hm, fun z hz hy => ?_⟩
      have e : z = m := Int.le_antisymm (ha z hz) (hy m hm)
      subst e
      exact q _ _ ρ G H p S (.int _) (Ex.refl G)
end
end DL
namespace DL
open PySem L2 PyProof.Rows
open Evl (Ex)

/-! ### a list or a tuple is gone through -/
def iSeq (K : PySem.W.Frag) (tl : TE) : TI := fun σ H R => iList K tl σ H R ∨ iTup K tl σ H R
theorem pi_seq {X : Cx} {tg l : Expr} {tl : TE} (hl : PE X l tl) : PI X tg l (iSeq X.K tl) := ⟨fun pins s σ H R I h => h.elim (fun z => (pi_list hl).run pins s σ H R I z) fun z => (pi_tup hl).run pins s σ H R I z⟩
section
variable {K : PySem.W.Frag} {F : Fr} {ρ : Sls} {P : Sls → D → Prop} {te ta tb : TE} {r : R2} {x y : D}
theorem wO_onceL {i j : Nat} {ss : List Str} {PO : Sls → List D → Prop} (h : ρ[i]? = some (.fz (.lst (ss.map D.str)))) (hj : j < ρ.length) (hij : i ≠ j) (hl : ss.length ≤ 100000) (p : PO ρ ((once ss).map D.str)) :
    wO K F (tCB rLD (tCons (tDc (iSeq K (tVar i)) (gName j) tYes (tVar j) (tC (.bl true)) [j]) tNil)) ρ PO := fun σ G H S Q q => .inl (wO_once h hj hij hl p σ G H S Q q)
theorem wO_onceT {i j : Nat} {ss : List Str} {PO : Sls → List D → Prop} (h : ρ[i]? = some (.fz (.tup (ss.map D.str)))) (hj : j < ρ.length) (hij : i ≠ j) (hl : ss.length ≤ 100000) (p : PO ρ ((once ss).map D.str)) :
    wO K F (tCB rLD (tCons (tDc (iSeq K (tVar i)) (gName j) tYes (tVar j) (tC (.bl true)) [j]) tNil)) ρ PO := fun σ G H S Q q => .inr (by
  obtain ⟨v, e, rv⟩ := S.fz h
  cases rv with
  | tup ga ra =>
    rename_i a vs
    obtain rfl := ra.strs
    have ha := Evl.ex_t S.ex ga
    refine ⟨.ref a, e, a, rfl, ⟨_, ha⟩, fun Dd hD => ?_⟩
    have seq : ∀ o, SqT K (upd H Dd o) a (ss.map V.str) := fun o => Evl.ex_t (Ex.new hD) ha
    refine ⟨fun n m H' => m = ss.length - n ∧ n ≤ ss.length ∧ H' = upd H Dd (.dK (kvD (once (ss.take n)))), ⟨ss.length, by simp, Nat.zero_le _, rfl⟩, ?_⟩
    rintro n m H' ⟨rfl, hn, rfl⟩
    by_cases he : n = ss.length
    · left
      subst he
      refine ⟨⟨_, seq _, by rw [List.length_map]; exact Nat.le_refl _⟩, Dd, _, rfl, Rd.of upd_same, fun b hb => ?_⟩
      rw [List.take_length] at hb ⊢
      have S2 := S.alloc (o := .dK (kvD (once ss))) hD
      have ek : ((kvD (once ss)).map fun kv => kV kv.1) = (once ss).map V.str := by
        unfold kvD
        rw [List.map_map]
        rfl
      rw [ek]
      have rr : RepL K G ((once ss).map V.str) ((once ss).map D.str) := RepL.ofStrs _
      exact q b _ _ ρ G _ p (S2.alloc hb) (Own.alloc S2 hb rr) (Ex.refl G)
    · right
      have hlt : n < ss.length := by omega
      have hs : (ss.map V.str)[n]? = some (V.str ss[n]) := by rw [List.getElem?_map, List.getElem?_eq_getElem hlt]; rfl
      refine ⟨⟨_, _, seq _, hs⟩, fun H2 => H2 = upd H Dd (.dK (kvD (once (ss.take (n + 1))))), fun H2 hH => ⟨ss.length - (n + 1), by omega, rfl, hlt, hH⟩, ?_⟩
      rintro w H2 ⟨rfl, hw⟩
      have ew := hw _ (seq _)
      rw [hs] at ew
      cases ew
      have hlen : j < σ.length := by rw [S.len]; exact hj
      have hw1 : (wipe σ [j]).length = σ.length := by
        show (σ.set j none).length = _
        rw [List.length_set]
      refine ⟨?_, ?_⟩
      · show ((wipe σ [j]).set j _).set j none = _
        rw [List.set_set]
        show (σ.set j none).set j none = _
        rw [List.set_set]
        rfl
      · dsimp only [tYes]
        rw [if_pos rfl]
        refine ⟨V.str ss[n], ?_, _, .inr ss[n], rfl, upd_same, ?_, ?_⟩
        · rw [List.getElem?_set_self (by rw [hw1]; exact hlen)]
        · refine Nat.lt_of_le_of_lt (m := 100000) ?_ (by decide)
          unfold kvD
          rw [List.length_map]
          have := once_len (ss.take n)
          rw [List.length_take] at this
          omega
        · rw [kvD_put, ← once_snoc, upd_upd]
          congr 3
          rw [List.take_succ_eq_append_getElem hlt])
/-- own.clear() -/
theorem wS_clear {i : Nat} {l : Kd} {ds : List D} {O : Out} (h : ρ[i]? = some (.ow l ds)) (p : O.nx (ρ.set i (.ow l []))) : wS K F (tDrop (tBM0 K "list" rClear (tVar i))) ρ O := fun σ G H S D1 k => by
  obtain ⟨a, vs, e, hg, hh, hr⟩ := S.ow h
  exact ⟨.ref a, e, .inl ⟨rfl, vs, SqL.of hh⟩, a, vs, rfl, rfl, hh, k.nx _ _ G _ p (S.mut h e .nil) (Ex.refl G)⟩
/-- a list so many times -/
theorem wRO_rep {ds : List D} {n : Int} {PO : Sls → List D → Prop} (h1 : -(2 ^ 63) ≤ n) (h2 : n < 2 ^ 63) (h3 : ds.length * n.toNat ≤ 100000) (p : PO ρ (List.replicate n.toNat ds).flatten) : wRO K F rRep (.lst ds) (.int n) ρ PO := fun σ G H vx vy S rx ry Q q => by
  cases ry
  cases rx with
  | lst a b =>
    rename_i l vs
    refine ⟨l, n, vs, rfl, rfl, S.ex _ _ a, h1, h2, Nat.le_trans (by rw [b.length]; exact h3) (by decide), fun t ht => ?_⟩
    have rr : ∀ m : Nat, RepL K G (List.replicate m vs).flatten (List.replicate m ds).flatten := fun m => by
      induction m with
      | zero => exact .nil
      | succ m ih =>
        rw [List.replicate_succ, List.replicate_succ, List.flatten_cons, List.flatten_cons]
        exact b.append ih
    exact q t _ _ ρ G _ p (S.alloc ht) (Own.alloc S ht (rr _)) (Ex.refl G)
end
/-! a text, once or not at all -/
def rRep1 : R2 := fun x y H Q => rRepS x y H Q ∨ ∃ z k, x = .str z ∧ y = .int k ∧ (k = 0 ∨ k = 1) ∧ Q (.str (if k = 1 then z else Str.empty)) H
theorem op_rep1 {X : Cx} : OpR X (binaryOp .Mult) rRep1 := by
  refine op_repS.or ?_
  intro pins s σ H x y v u Q I rx ry h
  obtain ⟨z, k, rfl, rfl, hk, q⟩ := h
  obtain ⟨t, rfl⟩ := rx
  obtain ⟨t', rfl⟩ := ry
  refine PySem.P.mul_str ?_ (fun h1 h2 => ?_) (fun h1 h2 => ?_) ?_
  · rcases hk with rfl | rfl <;> decide
  · rcases hk with rfl | rfl
    · omega
    · exact absurd h2 (by simp)
  · rcases hk with rfl | rfl
    · omega
    · exact absurd h2 (by simp)
  · rcases hk with rfl | rfl
    · rw [if_pos (by decide)]
      exact ⟨by decide, ⟨.str _, H, I.tok _, ⟨_, rfl⟩, q⟩⟩
    · rw [if_neg (by decide), if_pos (by simp)]
      exact ⟨.str z, H, I, ⟨_, rfl⟩, q⟩
section
variable {K : PySem.W.Frag} {F : Fr} {ρ : Sls} {P : Sls → D → Prop} {te ta tb : TE} {r : R2} {x y : D}
theorem wR_rep1 {z : Str} {k : Int} (h : k = 0 ∨ k = 1) (p : P ρ (.str (if k = 1 then z else Str.empty))) : wR K F rRep1 (.str z) (.int k) ρ P := fun σ G H vx vy S rx ry Q q => by
  cases rx
  cases ry
  exact .inr ⟨z, k, rfl, rfl, h, q _ _ ρ G H p S (.str _) (Ex.refl G)⟩
end

/-! ### own errors: made, raised -/
section
variable {X : Cx} {k j : Nat} {C f : Addr} {x m : Str} {sp : Sp} {p p1 p2 pos : Pos} {e : Expr} {es : List Expr} {t : TA} {fd : FuncData} {ps : List Str}
/-- what is wanted of a class of which a def is called by the class's name -/
structure CFn (K : PySem.W.Frag) (C : Addr) (m : Str) (f : Addr) : Prop where
  ga : PySem.W.specialIn K (.ref C) "__getattribute__" = some (some (.builtin "type.__getattribute__"))
  rd : PySem.W.readsIn K C (.type "type") = true
  at_ : PySem.W.findCls K (.ref C) (.type "type") m = some (.val (.ref f))
  kp : PySem.W.keepIn K (.ref f) = true
theorem pe_cfn {pl : Sem Bool} (c : CFn X.K C m f) (F : FnOk X.prog X.w X.K X.mg X.base L2.CX0 k f fd ps sp) (hr : Room j X.A) (hk : k ≤ j) (hg : Gl X x) (hm : X.mg x = some (.ref C)) (hb : Binds X.K fd ps []) (ha : PA X (e :: es) t)
    (hd : (x == ("__debug__" : Str)) = false := by decide)
    (hc : eval (.Call (.Attribute (.Name x p1) m p2) (e :: es) [] pos) X.env = (do
      let own ← eval (.Name x p1) X.env
      standAt p2.atName
      let (f, one) ← holding [own] (getMethod own m pl)
      callWith pos f one (backTo pos (starEach (e :: es) X.env)) (backToKw pos (keywordEach [] X.env))) := by rfl)
    (he : starEach (e :: es) X.env = (false, eval e X.env) :: starEach es X.env := by rfl) (hpl : (backTo pos (starEach es X.env)).any (·.1) = false := by rfl) :
    PE X (.Call (.Attribute (.Name x p1) m p2) (e :: es) [] pos) (tCall sp [] L2.E0 t) := by
  refine ⟨fun pins s σ H Q I h => PySem.W.methodCall_KW (ld_glob I hg hm ?_ hd) hc⟩
  refine PySem.W.method_cls I.kIn c.ga (PySem.W.cls_value I.kIn c.rd c.at_ rfl ?_)
  refine PySem.W.callWith_K (h₀ := X.base) I.ok.mod.kin c.kp (thn (ha.run pos pins _ σ H _ (I.tok _) h) fun us s1 ⟨vs, H1, I1, r, q⟩ => ⟨I1.kIn, ?_⟩) he hpl
  exact run_fn F (hr.mono hk) hb .nil pass0 I1 r q
end
/-- BeatError.__init__(self, text) -/
def spBE (K : PySem.W.Frag) : Sp := fun vs H Q _ => ∃ (a C : Addr) (z : V), vs = [.ref a, z] ∧ OexC K C ∧ H a = some (exo a C none) ∧ Q .non H
/-- X.__init__(self, thing): one field -/
def spNX (K : PySem.W.Frag) (C : Addr) (f : Str) : Sp := fun vs H Q _ => ∃ (a : Addr) (v : V), vs = [.ref a, v] ∧ H a = some (exo a C none) ∧ ∀ dx, H dx = none → dx ≠ a → Q .non (upd (upd H dx (exd dx [(f, v)])) a (exo a C (some dx)))
def tErr (K : PySem.W.Frag) (C : Addr) (f : Str) (te : TE) : St → Hp → XK → Prop := tMkO C (spNX K C f) [] (tCons te tNil)
/-- raise X(e), X's own way out being taken -/
def tRse (K : PySem.W.Frag) (C : Addr) (f : Str) (W : WX) (te : TE) : TS := fun _ σ H => tErr K C f te σ H fun cls d H' => W cls d σ H'
theorem upd_del {H : Hp} {a dx : Addr} {o1 o2 : HO} {u : HO} (ha : H a = none) (ne : dx ≠ a) : upd (del (upd (upd (upd H a o1) dx o2) a o1) a) dx u = upd H dx u := by
  funext b
  by_cases hb : b = dx
  · rw [hb, upd_same, upd_same]
  · rw [upd_ne hb, upd_ne hb]
    by_cases z : b = a
    · rw [z, del_same, ha]
    · rw [del_ne z, upd_ne z, upd_ne hb, upd_ne z]
theorem upd_del2 {H : Hp} {a dx : Addr} {o1 o2 o3 : HO} {u : HO} (ha : H a = none) (ne : dx ≠ a) : upd (del (upd (upd (upd H a o1) dx o2) a o3) a) dx u = upd H dx u := by
  funext b
  by_cases hb : b = dx
  · rw [hb, upd_same, upd_same]
  · rw [upd_ne hb, upd_ne hb]
    by_cases z : b = a
    · rw [z, del_same, ha]
    · rw [del_ne z, upd_ne z, upd_ne hb, upd_ne z]
section
variable {K : PySem.W.Frag} {F : Fr} {ρ : Sls} {P : Sls → D → Prop} {te ta tb : TE} {r : R2} {x y : D}
theorem wS_raise {C : Addr} {f : Str} {E : XK} {XX : XD} {O : Out} (hE : EOk K F E XX) (h : wE K F te ρ fun _ x => XX C [(f, x)]) : wS K F (tRse K C f (fun cls d _ H => E cls d H) te) ρ O := fun σ G H S D1 k =>
  h σ G H S _ fun v x ρ1 G1 H1 h1 S1 r1 e1 => by
    refine ⟨by show 1 ≤ 1000; decide, fun a ha => ⟨a, v, rfl, upd_same, fun dx hdx ne => ⟨rfl, dx, [(f, v)], upd_same, ?_, ?_, ?_⟩⟩⟩
    · rw [upd_ne ne, upd_same]
    · rw [upd_ne ne] at hdx; exact hdx
    · rw [upd_del2 ha ne]
      have hd1 : H1 dx = none := by rw [upd_ne ne] at hdx; exact hdx
      exact hE C [(f, x)] dx G1 _ [(f, v)] h1 (S1.alloc hd1).fr upd_same (.cons r1 .nil) (S1.fr.fresh hd1) (S1.fr.freshG hd1)
end
end DL
namespace DL
open PySem L2 PyProof.Rows
open Evl (Ex)

/-! ### defs that may raise -/
structure CalleeX (P : Program) (w : World) (K : PySem.W.Frag) (mg : Str → Option Value) (base : Heap) (k : Nat) (x : Str) (sp : Sp) : Prop where
  ex : ∃ (f : Addr) (fd : FuncData) (ps : List Str), FnOk P w K mg base (L2.CX P w) k f fd ps sp ∧ mg x = some (.ref f) ∧ PySem.W.keepIn K (.ref f) = true ∧ Binds K fd ps []
/-- an own error's class: its __init__ keeps one field -/
structure ECallee (P : Program) (w : World) (K : PySem.W.Frag) (mg : Str → Option Value) (base : Heap) (k : Nat) (x : Str) (C : Addr) (f : Str) : Prop where
  ex : ∃ (fI : Addr) (fd : FuncData) (ps : List Str), OexC K C ∧ PySem.W.findIn K (.ref C) "__init__" = some (some (.ref fI)) ∧ PySem.W.typeIn K (.ref fI) = some (.type "function") ∧
    FnOk P w K mg base L2.CX0 k fI fd ps (spNX K C f) ∧ mg x = some (.ref C) ∧ Binds K fd ps []
section
variable {X : Cx} {k j : Nat} {C : Addr} {x f : Str} {sp : Sp} {p pos pos2 : Pos} {e : Expr} {es : List Expr} {t : TA} {te : TE} {W : WX}
theorem passX0 {X : Cx} : Passes (L2.CX X.prog X.w) X E0 := fun _ _ _ _ _ _ _ ⟨_, _, _, _, _, _, _, _, _, _, _, _, h⟩ => h.elim
/-- called where it doesn't raise -/
theorem pe_clx0 (c : CalleeX X.prog X.w X.K X.mg X.base k x sp) (hr : Room j X.A) (hk : k ≤ j) (hg : Gl X x) (ha : PA X (e :: es) t)
    (hd : (x == ("__debug__" : Str)) = false := by decide) (he : starEach (e :: es) X.env = (false, eval e X.env) :: starEach es X.env := by rfl) (hpl : (backTo pos (starEach es X.env)).any (·.1) = false := by rfl) : PE X (.Call (.Name x p) (e :: es) [] pos) (tCall sp [] L2.E0 t) := by
  obtain ⟨f, fd, ps, F, hm, hkp, hb⟩ := c.ex
  exact pe_call F (hr.mono hk) hg hm hkp hb .nil passX0 ha hd he hpl
/-- called where what it raises is taken -/
theorem pe_clxS (c : CalleeX X.prog X.w X.K X.mg X.base k x sp) (hr : Room j X.A) (hk : k ≤ j) (hg : Gl X x) (tk : Takes X W) (ha : PA X (e :: es) t)
    (hd : (x == ("__debug__" : Str)) = false := by decide) (he : starEach (e :: es) X.env = (false, eval e X.env) :: starEach es X.env := by rfl) (hpl : (backTo pos (starEach es X.env)).any (·.1) = false := by rfl) : PE X (.Call (.Name x p) (e :: es) [] pos) (tCallS sp (WE W) t) := by
  obtain ⟨f, fd, ps, F, hm, hkp, hb⟩ := c.ex
  exact pe_callS F (hr.mono hk) hg hm hkp hb (passAt tk) ha hd he hpl
theorem ps_rse (c : ECallee X.prog X.w X.K X.mg X.base k x C f) (hr : Room j X.A) (hk : k + 1 ≤ j) (hc : X.calm = true) (tk : Takes X W) (hg : Gl X x) (he : PE X e te)
    (hd : (x == ("__debug__" : Str)) = false := by decide) (hst : starEach (e :: []) X.env = (false, eval e X.env) :: starEach [] X.env := by rfl) (hpl : (backTo pos (starEach [] X.env)).any (·.1) = false := by rfl) :
    PS X (.Raise (some (.Call (.Name x p) [e] [] pos)) none pos2) (tRse X.K C f W te) := by
  obtain ⟨fI, fd, ps, T, iC, tI, F, hm, hb⟩ := c.ex
  exact ps_raise hc tk (pmk_oex T iC tI F (hr.mono hk) hb .nil (fun _ _ _ _ _ _ _ h => h.elim) hg hm (pa_cons he pa_nil hst) hd hst hpl)
end

/-! ### try .. except X as e -/
/-- a body of which what it raises is taken by W -/
def wX (K : PySem.W.Frag) (F : Fr) (tb : WX → TS) (ρ : Sls) (O : Out) (XS : Sls → Addr → List (Str × D) → Prop) : Prop := ∀ (σ : St) (G H : Hp), SRel K F G H σ ρ → ∀ D1 : Ends, DOk K F G D1 O → ∀ W : WX,
  (∀ (ρ' : Sls) (C : Addr) (fs : List (Str × D)) (σ' : St) (G' H' : Hp) (d : Addr) (fvs : List (Str × V)), XS ρ' C fs → SRel K F G' H' σ' ρ' → Ex G G' → H' d = some (.xd fvs) → RepF K G' fvs fs → F.H0 d = none → G' d = none → W (.ref C) (some d) σ' H') → tb W D1 σ H
section
variable {K : PySem.W.Frag} {F : Fr} {ρ : Sls} {P : Sls → D → Prop} {te : TE} {ta : TA} {O : Out} {XS : Sls → Addr → List (Str × D) → Prop}
theorem wX_drop {W0 : W0} (h : wA K F ta ρ fun ρ1 ds => W0 ds (RsP fun _ => O.nx ρ1) fun C fs => XS ρ1 C fs) : wX K F (fun W => tDrop (tCallS (sp0 K W0) (WE W) ta)) ρ O XS := fun σ G H S D1 k W hW =>
  h σ G H S _ fun vs ds ρ1 G1 H1 h1 S1 r1 e1 => by
    refine ⟨G1, ds, _, _, S1.ex, r1, h1, fun r v G' H' hr T rr => ?_, fun C fs d G' H' fvs hX T hd rf n1 n2 => ?_⟩
    · obtain ⟨S2, e2⟩ := S1.after0 T
      have z : O.nx ρ1 := by cases r <;> exact hr
      exact k.nx ρ1 σ G' H' z S2 (e1.trans e2)
    · obtain ⟨S2, e2⟩ := S1.after0 T
      exact hW ρ1 C fs σ G' H' d fvs hX S2 (e1.trans e2) hd rf (S1.fr.fresh n1) n2
theorem wX_set {W0 : W0} {i : Nat} (h : wA K F ta ρ fun ρ1 ds => W0 ds (RsP fun x => O.nx (ρ1.set i (.fz x))) fun C fs => XS ρ1 C fs) : wX K F (fun W => tAsg (tCallS (sp0 K W0) (WE W) ta) (gName i)) ρ O XS := fun σ G H S D1 k W hW =>
  h σ G H S _ fun vs ds ρ1 G1 H1 h1 S1 r1 e1 => by
    refine ⟨G1, ds, _, _, S1.ex, r1, h1, fun r v G' H' hr T rr => ?_, fun C fs d G' H' fvs hX T hd rf n1 n2 => ?_⟩
    · obtain ⟨S2, e2⟩ := S1.after0 T
      cases r with
      | fz x => exact k.nx _ _ G' H' hr (S2.set rr) (e1.trans e2)
      | ow es =>
        obtain ⟨p, vs', rfl, o⟩ := RsR.own (r := .ow es) S1 T rr
        obtain ⟨G3, S3, e3, r3⟩ := o.freeze S2
        exact k.nx _ _ G3 H' hr (S3.set r3) ((e1.trans e2).trans e3)
    · obtain ⟨S2, e2⟩ := S1.after0 T
      exact hW ρ1 C fs σ G' H' d fvs hX S2 (e1.trans e2) hd rf (S1.fr.fresh n1) n2
/-- try: .. except C as e: name = e.f -/
def tTryAs (K : PySem.W.Frag) (C : Addr) (i : Nat) (f : Str) (j : Nat) (tb : WX → TS) : TS := fun D σ H => tb (wAs K (.ref C) i (fun a cls d => tAsg (tXf a cls d C f (tVar i)) (gName j)) (fun _ _ _ _ => False) D) D σ H
theorem wS_tryAs {C : Addr} {i j : Nat} {f : Str} {tb : WX → TS} (hm : PySem.W.exmOne K (.ref C) (.ref C) = some true)
    (h : wX K F tb ρ O fun ρ' C' fs => C' = C ∧ i < ρ'.length ∧ ∃ d, fs.lookup f = some d ∧ O.nx (((ρ'.set i .un).set j (.fz d)).set i .un)) : wS K F (tTryAs K C i f j tb) ρ O := fun σ G H S D1 k =>
  h σ G H S D1 k _ fun ρ' C' fs σ' G' H' d fvs ⟨eC, hi, d0, lk, nx⟩ S' ex hd rf n1 n2 => by
    subst eC
    refine ⟨true, hm, fun _ a ha => ?_, fun z => nomatch z⟩
    obtain ⟨v, lv, rv⟩ := rf.look lk
    have hlen : i < σ'.length := by rw [S'.len]; exact hi
    refine ⟨.ref a, ?_, rfl, rfl, d, fvs, v, rfl, hd, lv, ?_⟩
    · rw [List.getElem?_set_self hlen]
    · exact k.nx _ _ G' H' nx (((S'.wipe1 i (some (.ref a))).set rv).wipe1 i none) ex
end
theorem xe_no {X : Cx} {u : Value} {s : Shared} (h : XE X (fun _ _ _ _ => False) u s) : False := by
  obtain ⟨_, _, _, _, _, _, _, _, _, _, _, _, _, _, _, _, h⟩ := h
  exact h
/-! ### own lists asked; a list or tuple gone through; tuple(list) -/
section
variable {K : PySem.W.Frag} {F : Fr} {ρ : Sls} {P : Sls → D → Prop} {te tl : TE} {x : D} {O : Out} {g : TG} {tb : TS}
theorem wE_niO {i : Nat} (h : wE K F te ρ fun ρ1 x => ∃ (l : Kd) (ds : List D), ρ1[i]? = some (.ow l ds) ∧ flatD x = true ∧ ds.all flatD = true ∧ P ρ1 (.bl (!inD x ds))) : wE K F (tOp (rIn K true) te (tVar i)) ρ P := fun σ G H S Q q =>
  h σ G H S _ fun v x ρ1 G1 H1 h1 S1 r1 e1 => by
    obtain ⟨l, ds, hi, fx, fd, p⟩ := h1
    obtain ⟨a, vs, ea, hg, hh, hr⟩ := S1.ow hi
    obtain ⟨e2, f2⟩ := r1.flat fx
    obtain ⟨e3, f3⟩ := hr.flat fd
    refine ⟨.ref a, ea, a, vs, rfl, .inl (SqL.of hh), f2, f3, ?_⟩
    subst e2 e3
    exact q _ _ ρ1 G1 H1 p S1 (.bl _) e1
theorem wS_forSL (h : wE K F tl ρ fun ρ1 d => ∃ ds, d = .lst ds ∧ forS K F g tb O ds ρ1) : wS K F (tFor (iSeq K tl) g tb) ρ O := fun σ G H S D1 k => .inl (wS_forL h σ G H S D1 k)
theorem wS_forST (h : wE K F tl ρ fun ρ1 d => ∃ ds, d = .tup ds ∧ forS K F g tb O ds ρ1) : wS K F (tFor (iSeq K tl) g tb) ρ O := fun σ G H S D1 k => .inr (wS_forT h σ G H S D1 k)
abbrev rTup (K : PySem.W.Frag) : List V → Hp → VK → Prop := fun xs H Q => ∃ p ys, xs = [.ref p] ∧ ((SqL K H p ys ∧ ∀ l, H l = none → Q (.ref l) (upd H l (.tup ys))) ∨ (SqT K H p ys ∧ Q (.ref p) H))
theorem wC_tupL {ds : List D} (p : P ρ (.tup ds)) : wC K F (rTup K) [.lst ds] ρ P := fun σ G H vs S rs Q q => by
  cases rs with
  | cons r1 t1 =>
    cases t1
    cases r1 with
    | lst a b =>
      refine ⟨_, _, rfl, .inl ⟨SqL.of (S.ex _ _ a), fun l hl => ?_⟩⟩
      exact q _ _ ρ _ _ p (S.new hl) (.tup (.inl (.inl upd_same)) (b.up (Ex.new (S.fr.freshG hl)))) (Ex.new (S.fr.freshG hl))
end
end DL
namespace DL
open PySem PySem.Spec PyProof.Rows L2

section
variable {K : PySem.W.Frag} {h : Heap} {mg : Str → Option Value}
theorem konI_ok (X : K.In h) (G : h.Ns mainGlobals mg) {x : Str} {i : Int} (c : konI K x i = true) : Kon K mg x (.int i) := by
  obtain ⟨t, e⟩ := He.int_ok X G (x := x) (i := i) c
  exact ⟨_, .int i, e, ⟨_, rfl⟩, fun _ => .int _⟩
theorem konS_ok (X : K.In h) (G : h.Ns mainGlobals mg) {x z : Str} (c : konS K x z = true) : Kon K mg x (.str z) := by
  obtain ⟨t, e⟩ := He.str_ok X G (x := x) (z := z) c
  exact ⟨_, .str z, e, ⟨_, rfl⟩, fun _ => .str _⟩
theorem strsB_ok : ∀ {vs : List Value} {l : List Str}, strsB vs l = true → Vals (l.map V.str) vs
  | [], [], _ => .nil
  | [], _ :: _, h => by cases h
  | v :: _, [], h => by cases v <;> cases h
  | v :: r, x :: l, h => by
    cases v with
    | str y t =>
      obtain ⟨h1, h2⟩ := He.ba (show (decide (y = x) && strsB r l) = true from h)
      have e : y = x := of_decide_eq_true h1
      subst e
      exact .cons ⟨_, rfl⟩ (strsB_ok h2)
    | _ => cases h
theorem repL_strs (G : Hp) : ∀ l : List Str, RepL K G (l.map V.str) (l.map D.str)
  | [] => .nil
  | _ :: l => .cons (.str _) (repL_strs G l)
theorem konT_ok (X : K.In h) (G : h.Ns mainGlobals mg) {x : Str} {l : List Str} (hl : l.length ≤ 1000) (c : konT K x l = true) : Kon K mg x (.tup (l.map D.str)) := by
  obtain ⟨c1, c2⟩ := He.ba c
  have g := of_decide_eq_true c1
  cases e : K.lookup (He.ga K x) with
  | none => rw [e] at c2; cases c2
  | some o =>
    rw [e] at c2
    obtain ⟨cls, dd, data, sl⟩ := o
    cases cls with
    | type t =>
      cases data with
      | seq its n =>
        obtain ⟨h1, h2⟩ := He.ba (show (decide (t = "tuple") && strsB its.toList l) = true from c2)
        have et : t = "tuple" := of_decide_eq_true h1
        subst et
        have V1 := strsB_ok h2
        have hs : its.size ≤ sizeLine := by
          have z := Paired.length V1
          have z2 : its.toList.length = its.size := Array.length_toList
          rw [List.length_map] at z
          rw [sizeLine_eq]
          omega
        exact ⟨_, .ref (He.ga K x), PySem.W.mg_of X G g, rfl, fun G => .tup (xs := l.map V.str) (.inr ⟨_, _, _, e, rfl, rfl, hs, V1⟩) (repL_strs G l)⟩
      | _ => cases c2
    | _ => cases c2
end
/-- the end of a law over such a head -/
theorem walk_goE {l : PySem.W.OpenLaw} {n k : Nat} {q : Program} {loose : List Str} {XP : (Str → Option Value) → Heap → Prop} {YP : World → Heap → Prop} {d : DefRec} {x : Str} (hn : l.most = some n) (hn2 : n ≤ 63) (hdf : d.params.defaults = []) (hr : Room k callerA)
    (F : ∀ (w : World) (mg : Str → Option Value) (fa : Addr) (h : Heap), YP w h → h.Ns mainGlobals mg → mg d.name = some (.ref fa) →
      ∃ (K : PySem.W.Frag) (fd : FuncData), K.In h ∧ (∀ (s : Shared) (u : Value), BindsTo s fd ⟨[u], []⟩ [(x, u)]) ∧ ∀ base : Heap, K.In base → base.Ns mainGlobals mg → FnG l.prog w K mg base k fa fd [x] (sp0 K WLaw)) :
    PySem.W.WalkO q loose XP YP l.row.toRowW d [] (fun f vs => PySem.call f vs) := by
  refine Att.attach_call hn hdf fun w s0 s1 mg mb fa o pm cd doc a vs ns G Y ho hd hcd hmg hobj hints hlen hg => ?_
  obtain ⟨K, fd, KX, hb, hF⟩ := F w mg fa _ Y G.T.g hmg
  have small : ns.length ≤ sizeLine := Nat.le_trans (Nat.le_trans hlen hn2) (by decide)
  exact law_go KX G.T.g G.T.b G.T.builtins G.T.nolimit hg hobj hints small hr hF hb fun H hO hS => law_sp _ H a ns (Nat.le_trans hlen hn2) hO hS
end DL
namespace DL
open PySem L2
open Evl (Ex)

/-! ### dicts: keys, entries -/
def keyD : D → Option Key
  | .int i => some (.inl i)
  | .str x => some (.inr x)
  | _ => none
def kD : Key → D
  | .inl i => .int i
  | .inr x => .str x
theorem kD_key (k : Key) : keyD (kD k) = some k := by cases k <;> rfl
def atKD (kvs : List (Key × D)) (k : Key) : Option D := (kvs.find? fun kv => decide (kv.1 = k)).map (·.2)
def putKD (kvs : List (Key × D)) (k : Key) (v : D) : List (Key × D) :=
  if (kvs.any fun kv => decide (kv.1 = k)) = true then kvs.map (fun kv => if kv.1 = k then (kv.1, v) else kv) else kvs ++ [(k, v)]
def dropKD (kvs : List (Key × D)) (k : Key) : List (Key × D) := kvs.filter fun kv => decide (kv.1 ≠ k)
theorem atKD_pos {p : Key × D} {r : List (Key × D)} {k : Key} (e : p.1 = k) : atKD (p :: r) k = some p.2 := by simp [atKD, List.find?_cons, e]
theorem atKD_neg {p : Key × D} {r : List (Key × D)} {k : Key} (e : ¬ p.1 = k) : atKD (p :: r) k = atKD r k := by simp [atKD, List.find?_cons, e]
section
variable {K : PySem.W.Frag} {G : Hp}
theorem Rep.kD (k : Key) : Rep K G (kV k) (kD k) := by
  cases k with
  | inl i => exact .int i
  | inr x => exact .str x
theorem Rep.key {v : V} {d : D} {k : Key} (h : Rep K G v d) (e : keyD d = some k) : v = kV k := by
  cases h <;> cases e <;> rfl
theorem RepK.len : ∀ {vs : List (Key × V)} {ds : List (Key × D)}, RepK K G vs ds → vs.length = ds.length
  | _, _, .nil => rfl
  | _, _, .cons _ t => congrArg (· + 1) (RepK.len t)
theorem RepK.keys : ∀ {vs : List (Key × V)} {ds : List (Key × D)}, RepK K G vs ds → vs.map (·.1) = ds.map (·.1)
  | _, _, .nil => rfl
  | _, _, .cons (k := k) _ t => congrArg (k :: ·) (RepK.keys t)
theorem RepK.get {i : Nat} : ∀ {vs : List (Key × V)} {ds : List (Key × D)} {k : Key} {v : V}, RepK K G vs ds → vs[i]? = some (k, v) → ∃ d, ds[i]? = some (k, d) ∧ Rep K G v d := by
  induction i with
  | zero =>
    intro vs ds k v h e
    cases h with
    | nil => simp at e
    | cons r t => simp at e; obtain ⟨rfl, rfl⟩ := e; exact ⟨_, rfl, r⟩
  | succ i ih =>
    intro vs ds k v h e
    cases h with
    | nil => simp at e
    | cons r t =>
      obtain ⟨d, h1, h2⟩ := ih t (by simpa using e)
      exact ⟨d, by simpa using h1, h2⟩
theorem RepK.at {k : Key} : ∀ {vs : List (Key × V)} {ds : List (Key × D)}, RepK K G vs ds → (valV vs k = none ∧ atKD ds k = none) ∨ ∃ v d, valV vs k = some v ∧ atKD ds k = some d ∧ Rep K G v d
  | _, _, .nil => .inl ⟨rfl, rfl⟩
  | _, _, .cons (k := j) (v := v) (d := d) r t => by
    by_cases e : j = k
    · exact .inr ⟨v, d, valV_pos e, atKD_pos e, r⟩
    · rw [valV_neg (p := (j, v)) e, atKD_neg (p := (j, d)) e]
      exact RepK.at t
theorem RepK.atSome {k : Key} {vs : List (Key × V)} {ds : List (Key × D)} {d : D} (h : RepK K G vs ds) (e : atKD ds k = some d) : ∃ v, valV vs k = some v ∧ Rep K G v d := by
  rcases h.at (k := k) with ⟨_, z⟩ | ⟨v, d', h1, h2, h3⟩
  · rw [z] at e; cases e
  · rw [h2] at e; cases e; exact ⟨v, h1, h3⟩
theorem RepK.any {k : Key} : ∀ {vs : List (Key × V)} {ds : List (Key × D)}, RepK K G vs ds → (vs.any fun kv => decide (kv.1 = k)) = ds.any fun kv => decide (kv.1 = k)
  | _, _, .nil => rfl
  | _, _, .cons (k := j) _ t => by
    rw [List.any_cons, List.any_cons, RepK.any t]
theorem RepK.app : ∀ {vs us : List (Key × V)} {ds es : List (Key × D)}, RepK K G vs ds → RepK K G us es → RepK K G (vs ++ us) (ds ++ es)
  | _, _, _, _, .nil, s => s
  | _, _, _, _, .cons r t, s => .cons r (RepK.app t s)
theorem RepK.upd1 {k : Key} {v : V} {d : D} (r : Rep K G v d) : ∀ {vs : List (Key × V)} {ds : List (Key × D)}, RepK K G vs ds → RepK K G (vs.map fun kv => if kv.1 = k then (kv.1, v) else kv) (ds.map fun kv => if kv.1 = k then (kv.1, d) else kv)
  | _, _, .nil => .nil
  | _, _, .cons (k := j) (v := u) (d := e) q t => by
    rw [List.map_cons, List.map_cons]
    by_cases z : j = k
    · rw [if_pos z, if_pos z]
      exact .cons r (RepK.upd1 r t)
    · rw [if_neg z, if_neg z]
      exact .cons q (RepK.upd1 r t)
theorem RepK.put {k : Key} {v : V} {d : D} {vs : List (Key × V)} {ds : List (Key × D)} (h : RepK K G vs ds) (r : Rep K G v d) : RepK K G (putK vs k v) (putKD ds k d) := by
  unfold putK putKD
  rw [h.any]
  split
  · exact h.upd1 r
  · exact h.app (.cons r .nil)
theorem RepK.drop {k : Key} : ∀ {vs : List (Key × V)} {ds : List (Key × D)}, RepK K G vs ds → RepK K G (dropK vs k) (dropKD ds k)
  | _, _, .nil => .nil
  | _, _, .cons (k := j) (v := u) (d := e) q t => by
    unfold dropK dropKD
    by_cases z : j = k
    · rw [List.filter_cons_of_neg (by simp [z]), List.filter_cons_of_neg (by simp [z])]
      exact RepK.drop t
    · rw [List.filter_cons_of_pos (by simp [z]), List.filter_cons_of_pos (by simp [z])]
      exact .cons q (RepK.drop t)
end

/-! ### own dicts -/
section
variable {K : PySem.W.Frag} {F : Fr} {G H : Hp} {σ : St} {ρ : Sls}
theorem set_self {i : Nat} {v : Option V} (e : σ[i]? = some v) : σ.set i v = σ := by
  apply List.ext_getElem?
  intro j
  by_cases hj : j = i
  · subst hj
    rw [List.getElem?_set_self (List.getElem?_eq_some_iff.mp e).1, e]
  · rw [List.getElem?_set_ne (Ne.symm hj)]
theorem SRel.setD (S : SRel K F G H σ ρ) {i : Nat} {p : Addr} {vs : List (Key × V)} {ds : List (Key × D)} (hg : G p = none) (h : H p = some (.dK vs)) (hr : RepK K G vs ds) (hf : F.H0 p = none) (hn : ND σ ρ p) :
    SRel K F G H (σ.set i (some (.ref p))) (ρ.set i (.od .loc ds)) := by
  have W := S.wipe1 i (some (.ref p))
  have get : ∀ (j : Nat) (s : Sl), (ρ.set i (.od .loc ds))[j]? = some s → (j = i ∧ s = .od .loc ds) ∨ (j ≠ i ∧ ρ[j]? = some s ∧ (ρ.set i .un)[j]? = some s) := fun j s h => by
    by_cases hj : j = i
    · subst hj
      have hl : j < ρ.length := by
        have := (List.getElem?_eq_some_iff.mp h).1
        rwa [List.length_set] at this
      rw [List.getElem?_set_self hl] at h
      cases h
      exact .inl ⟨rfl, rfl⟩
    · rw [List.getElem?_set_ne (Ne.symm hj)] at h
      exact .inr ⟨hj, h, by rw [List.getElem?_set_ne (Ne.symm hj)]; exact h⟩
  have gets : ∀ (w : Option V), (σ.set i (some (V.ref p)))[i]? = some w → w = some (V.ref p) := fun w h2 => by
    have hl : i < σ.length := by
      have := (List.getElem?_eq_some_iff.mp h2).1
      rwa [List.length_set] at this
    rw [List.getElem?_set_self hl] at h2
    cases h2
    rfl
  have getv : ∀ (j : Nat) (w : Option V), j ≠ i → (σ.set i (some (V.ref p)))[j]? = some w → σ[j]? = some w := fun j w hj h => by
    rw [List.getElem?_set_ne (Ne.symm hj)] at h
    exact h
  refine ⟨S.fr, by rw [List.length_set, List.length_set]; exact S.len, fun j s w h1 h2 => ?_, fun a b q m n da db h1 h2 h3 h4 => ?_, fun j m da q h1 h2 => ?_, fun a b q m n da db h1 h2 h3 h4 => ?_, fun j m da q h1 h2 => ?_⟩
  · rcases get j s h1 with ⟨rfl, rfl⟩ | ⟨hj, _, h1⟩
    · rw [gets w h2]
      exact ⟨p, vs, rfl, hg, h, hr⟩
    · exact W.sl j s w h1 h2
  · rcases get a _ h1 with ⟨_, e⟩ | ⟨_, _, h1⟩
    · cases e
    · rcases get b _ h2 with ⟨_, e⟩ | ⟨_, _, h2⟩
      · cases e
      · exact W.dis a b q _ _ _ _ h1 h2 h3 h4
  · rcases get j _ h1 with ⟨_, e⟩ | ⟨_, _, h1⟩
    · cases e
    · exact W.own j m da q h1 h2
  · rcases get a _ h1 with ⟨rfl, e⟩ | ⟨ha, k1, h1⟩
    · rcases get b _ h2 with ⟨rfl, e⟩ | ⟨hb, k2, h2⟩
      · rfl
      · have e1 := gets _ h3
        cases e1
        exact absurd (getv b _ hb h4) (hn b n db k2)
    · rcases get b _ h2 with ⟨rfl, e⟩ | ⟨hb, k2, h2⟩
      · have e1 := gets _ h4
        cases e1
        exact absurd (getv a _ ha h3) (hn a m da k1)
      · exact W.disD a b q _ _ _ _ h1 h2 h3 h4
  · rcases get j _ h1 with ⟨rfl, e⟩ | ⟨_, _, h1⟩
    · have e1 := gets _ h2
      cases e1
      cases e
      exact hf
    · exact W.ownD j m da q h1 h2
/-- an own dict is changed -/
theorem SRel.mutD (S : SRel K F G H σ ρ) {i : Nat} {l : Kd} {ds es : List (Key × D)} {p : Addr} {ws : List (Key × V)} (hi : ρ[i]? = some (.od l ds)) (hp : σ[i]? = some (some (.ref p))) (hw : RepK K G ws es) :
    SRel K F G (upd H p (.dK ws)) σ (ρ.set i (.od l es)) := by
  obtain ⟨p', vs, e1, e2, e3, e4⟩ := S.od hi
  rw [hp] at e1
  cases e1
  have hl : i < ρ.length := (List.getElem?_eq_some_iff.mp hi).1
  have get : ∀ (j : Nat) (s : Sl), (ρ.set i (.od l es))[j]? = some s → (j = i ∧ s = .od l es) ∨ (j ≠ i ∧ ρ[j]? = some s) := fun j s h => by
    by_cases hj : j = i
    · subst hj
      rw [List.getElem?_set_self hl] at h
      cases h
      exact .inl ⟨rfl, rfl⟩
    · rw [List.getElem?_set_ne (Ne.symm hj)] at h
      exact .inr ⟨hj, h⟩
  refine ⟨⟨fun a u q => ?_, S.fr.old, fun a u q np => ?_, fun a u q => ?_⟩, by rw [List.length_set]; exact S.len, fun j s w h1 h2 => ?_, fun a b q m n da db h1 h2 h3 h4 => ?_, fun j m da q h1 h2 => ?_, fun a b q m n da db h1 h2 h3 h4 => ?_, fun j m da q h1 h2 => ?_⟩
  · have ha : a ≠ p := fun z => by rw [z, e2] at q; cases q
    rw [upd_ne ha]
    exact S.ex a u q
  · have ha : a ≠ p := fun z => by
      subst z
      rcases (S.ownD i l ds a hi hp).or with z | z
      · rw [z] at q; cases q
      · exact np z
    rw [upd_ne ha]
    exact S.fr.kp a u q np
  · by_cases ha : a = p
    · subst ha
      exact ⟨_, upd_same⟩
    · rw [upd_ne ha]
      exact S.fr.th a u q
  · rcases get j s h1 with ⟨rfl, rfl⟩ | ⟨hj, h1⟩
    · rw [hp] at h2
      cases h2
      exact ⟨p, ws, rfl, e2, upd_same, hw⟩
    · have q := S.sl j s w h1 h2
      cases s with
      | un => cases w <;> trivial
      | fz d => cases w <;> exact q
      | ow m dj =>
        cases w with
        | none => exact q
        | some v =>
          obtain ⟨a, us, rfl, q1, q2, q3⟩ := q
          have ha : a ≠ p := fun z => by
            subst z
            rw [e3] at q2
            cases q2
          exact ⟨a, us, rfl, q1, by rw [upd_ne ha]; exact q2, q3⟩
      | od m dj =>
        cases w with
        | none => exact q
        | some v =>
          obtain ⟨a, us, rfl, q1, q2, q3⟩ := q
          have ha : a ≠ p := fun z => by
            subst z
            exact hj (S.disD j i a m l dj ds h1 hi h2 hp)
          exact ⟨a, us, rfl, q1, by rw [upd_ne ha]; exact q2, q3⟩
  · rcases get a _ h1 with ⟨_, e⟩ | ⟨_, h1⟩
    · cases e
    · rcases get b _ h2 with ⟨_, e⟩ | ⟨_, h2⟩
      · cases e
      · exact S.dis a b q _ _ _ _ h1 h2 h3 h4
  · rcases get j _ h1 with ⟨_, e⟩ | ⟨_, h⟩
    · cases e
    · exact S.own j m da q h h2
  · have h1' : ∃ m' da', ρ[a]? = some (.od m' da') := by
      rcases get a _ h1 with ⟨rfl, _⟩ | ⟨_, h⟩
      · exact ⟨_, _, hi⟩
      · exact ⟨_, _, h⟩
    have h2' : ∃ m' da', ρ[b]? = some (.od m' da') := by
      rcases get b _ h2 with ⟨rfl, _⟩ | ⟨_, h⟩
      · exact ⟨_, _, hi⟩
      · exact ⟨_, _, h⟩
    obtain ⟨_, _, h1'⟩ := h1'
    obtain ⟨_, _, h2'⟩ := h2'
    exact S.disD a b q _ _ _ _ h1' h2' h3 h4
  · rcases get j _ h1 with ⟨rfl, e⟩ | ⟨_, h⟩
    · cases e
      exact S.ownD j l ds q hi h2
    · exact S.ownD j m da q h h2
/-- a new dict of its own -/
structure OwnD (K : PySem.W.Frag) (F : Fr) (G H : Hp) (σ : St) (ρ : Sls) (p : Addr) (vs : List (Key × V)) (ds : List (Key × D)) : Prop where
  g : G p = none
  h : H p = some (.dK vs)
  r : RepK K G vs ds
  f : F.H0 p = none
  n : ND σ ρ p
theorem OwnD.alloc (S : SRel K F G H σ ρ) {p : Addr} {vs : List (Key × V)} {ds : List (Key × D)} (hp : H p = none) (r : RepK K G vs ds) : OwnD K F G (upd H p (.dK vs)) σ ρ p vs ds :=
  ⟨S.fr.freshG hp, upd_same, r, S.fr.fresh hp, S.nd0 hp⟩
/-- it is locked for good, and known -/
theorem OwnD.lock {p : Addr} {vs : List (Key × V)} {ds : List (Key × D)} (S : SRel K F G H σ ρ) (o : OwnD K F G H σ ρ p vs ds) (ob : Obj) :
    SRel K F (upd G p (.frz ob (.dK vs))) (upd H p (.frz ob (.dK vs))) σ ρ ∧ Rep K (upd G p (.frz ob (.dK vs))) (.ref p) (.dkv ds) ∧ Ex G (upd G p (.frz ob (.dK vs))) := by
  have hn : ∀ (i : Nat) (l : Kd) (ds : List D), ρ[i]? = some (.ow l ds) → σ[i]? ≠ some (some (.ref p)) := fun i l ds hi hz => by
    obtain ⟨q, us, e1, _, e3, _⟩ := S.ow hi
    rw [hz] at e1
    cases e1
    rw [o.h] at e3
    cases e3
  have S2 := S.other (o := .frz ob (.dK vs)) o.g o.f hn o.n
  have ex : Ex G (upd G p (.frz ob (.dK vs))) := Ex.new o.g
  exact ⟨S2.freeze o.g upd_same o.f hn o.n, .dkv upd_same (RepK.up ex o.r), ex⟩
end
/-- an own dict comes out -/
def wD (K : PySem.W.Frag) (F : Fr) (te : TE) (ρ : Sls) (P : Sls → List (Key × D) → Prop) : Prop := ∀ (σ : St) (G H : Hp), SRel K F G H σ ρ → ∀ Q : VK,
  (∀ (p : Addr) (vs : List (Key × V)) (ds : List (Key × D)) (ρ' : Sls) (G' H' : Hp), P ρ' ds → SRel K F G' H' σ ρ' → OwnD K F G' H' σ ρ' p vs ds → Ex G G' → Q (.ref p) H') → te σ H Q
/-- .. and is locked -/
def tFz (te : TE) : TE := fun σ H Q => te σ H fun v H1 => ∃ (a : Addr) (kvs : List (Key × V)), v = .ref a ∧ H1 a = some (.dK kvs) ∧ ∀ o, Q v (upd H1 a (.frz o (.dK kvs)))
theorem pe_fz {X : Cx} {e : Expr} {t : TE} (h : PE X e t) : PE X e (tFz t) := by
  refine ⟨fun pins s σ H Q I hw => ?_⟩
  refine thn (h.run pins s σ H _ I hw) fun v s1 ⟨x, H1, I2, r, a, kvs, ex, ha, q⟩ => ?_
  obtain ⟨od, I3⟩ := I2.lock ha True.intro
  exact ⟨x, _, I3, r, q od⟩
abbrev rDictD : List V → Hp → VK → Prop := fun xs H Q => ∃ (a : Addr) (kvs : List (Key × V)), xs = [.ref a] ∧ Rd H a (.dK kvs) ∧ ∀ p, H p = none → Q (.ref p) (upd H p (.dK kvs))
section
variable {K : PySem.W.Frag} {F : Fr} {ρ : Sls} {P : Sls → D → Prop} {PD : Sls → List (Key × D) → Prop} {te td ty tx tv : TE} {O : Out}
theorem wD_new (p : PD ρ []) : wD K F tDNewK ρ PD := fun σ G H S Q q a ha => q a [] [] ρ G _ p (S.alloc ha) (OwnD.alloc S ha .nil) (Ex.refl G)
theorem wE_fzD (h : wD K F te ρ fun ρ' kvs => P ρ' (.dkv kvs)) : wE K F (tFz te) ρ P := fun σ G H S Q q =>
  h σ G H S _ fun p vs ds ρ' G' H' pp S' o e => ⟨p, vs, rfl, o.h, fun ob => by
    obtain ⟨S2, r2, e2⟩ := o.lock S' ob
    exact q _ _ ρ' _ _ pp S2 r2 (e.trans e2)⟩
/-- the own dict of a slot, locked from now on -/
theorem wE_fzV {i : Nat} {ds : List (Key × D)} (h : ρ[i]? = some (.od .loc ds)) (p : P (ρ.set i (.fz (.dkv ds))) (.dkv ds)) : wE K F (tFz (tVar i)) ρ P := fun σ G H S Q q => by
  obtain ⟨a, vs, e, hg, hh, hr⟩ := S.od h
  refine ⟨.ref a, e, a, vs, rfl, hh, fun ob => ?_⟩
  have hf : F.H0 a = none := S.ownD i .loc ds a h e
  have S1 : SRel K F G H σ (ρ.set i .un) := by
    have z := S.wipe1 i (some (.ref a))
    rw [set_self e] at z
    exact z
  have o : OwnD K F G H σ (ρ.set i .un) a vs ds := ⟨hg, hh, hr, hf, fun j l es h1 h2 => by
    by_cases hj : j = i
    · subst hj
      rw [List.getElem?_set_self (List.getElem?_eq_some_iff.mp h).1] at h1
      cases h1
    · rw [List.getElem?_set_ne (Ne.symm hj)] at h1
      exact hj (S.disD j i a l .loc es ds h1 h h2 e)⟩
  obtain ⟨S2, r2, e2⟩ := o.lock S1 ob
  have S3 := S2.set (i := i) r2
  rw [set_self e, List.set_set] at S3
  exact q _ _ _ _ _ p S3 r2 e2
theorem wS_setD {i : Nat} (h : wD K F te ρ fun ρ1 ds => O.nx (ρ1.set i (.od .loc ds))) : wS K F (tAsg te (gName i)) ρ O := fun σ G H S D1 k =>
  h σ G H S _ fun p vs ds ρ1 G1 H1 h1 S1 o e1 => k.nx _ _ G1 H1 h1 (S1.setD o.g o.h o.r o.f o.n) e1
/-- dict(d) -/
theorem wD_dict {t : TA} (h : wA K F t ρ fun ρ1 xs => ∃ ds, xs = [.dkv ds] ∧ PD ρ1 ds) : wD K F (tCB rDictD t) ρ PD := fun σ G H S Q q =>
  h σ G H S _ fun us xs ρ1 G1 H1 h1 S1 r1 e1 => by
    obtain ⟨ds, rfl, p⟩ := h1
    cases r1 with
    | cons r rr =>
      cases rr
      cases r with
      | dkv ha hr =>
        rename_i a o vs
        exact ⟨a, vs, rfl, .inr ⟨o, S1.ex _ _ ha⟩, fun b hb => q b vs ds ρ1 G1 _ p (S1.alloc hb) (OwnD.alloc S1 hb hr) e1⟩
theorem wD_dictO {i : Nat} {l : Kd} {ds : List (Key × D)} (h : ρ[i]? = some (.od l ds)) (p : PD ρ ds) : wD K F (tCB rDictD (tCons (tVar i) tNil)) ρ PD := fun σ G H S Q q => by
  obtain ⟨a, vs, e, hg, hh, hr⟩ := S.od h
  exact ⟨.ref a, e, a, vs, rfl, .inl hh, fun b hb => q b vs ds ρ G _ p (S.alloc hb) (OwnD.alloc S hb hr) (Ex.refl G)⟩
/-- own[k] = v -/
theorem wS_put {i : Nat} (h : wE K F tv ρ fun ρ1 x => (∃ (l : Kd) (ds : List (Key × D)), ρ1[i]? = some (.od l ds)) ∧ wE K F ty ρ1 fun ρ2 y => ∃ (l : Kd) (ds : List (Key × D)) (k : Key), ρ2[i]? = some (.od l ds) ∧ keyD y = some k ∧ ds.length < 100000 ∧ O.nx (ρ2.set i (.od l (putKD ds k x)))) :
    wS K F (sDPut (tVar i) ty tv) ρ O := fun σ G H S D1 k =>
  h σ G H S _ fun v x ρ1 G1 H1 h1 S1 r1 e1 => by
    obtain ⟨⟨l1, ds1, hi1⟩, h1⟩ := h1
    obtain ⟨p, vs1, hp, _⟩ := S1.od hi1
    refine ⟨.ref p, hp, h1 σ G1 H1 S1 _ fun vy y ρ2 G2 H2 h2 S2 r2 e2 => ?_⟩
    obtain ⟨l, ds, kk, hi, hk, hl, hn⟩ := h2
    obtain ⟨p', vs, e', hg, hh, hr⟩ := S2.od hi
    rw [hp] at e'
    cases e'
    have ey := r2.key hk
    subst ey
    exact ⟨p, _, rfl, DPut.k hh (Evl.sz_lt (by rw [hr.len]; exact hl)), k.nx _ _ G2 _ hn (S2.mutD hi hp (hr.put (r1.up e2))) (e1.trans e2)⟩
/-! reads -/
theorem Rep.dget {G H : Hp} {v : V} {ds : List (Key × D)} {k : Key} (ex : Ex G H) (h : Rep K G v (.dkv ds)) : ∃ a o vs, v = .ref a ∧ H a = some (.frz o (.dK vs)) ∧ RepK K G vs ds ∧ DGet H a (kV k) (valV vs k) := by
  cases h with
  | dkv ha hr =>
    rename_i a o vs
    exact ⟨a, o, vs, rfl, ex _ _ ha, hr, .inl ⟨vs, k, .inr ⟨o, ex _ _ ha⟩, rfl, rfl⟩⟩
theorem wE_dget (h : wE K F td ρ fun ρ1 x => wE K F ty ρ1 fun ρ2 y => ∃ ds k d, x = .dkv ds ∧ keyD y = some k ∧ atKD ds k = some d ∧ P ρ2 d) : wE K F (tDGet td ty) ρ P := fun σ G H S Q q =>
  h σ G H S _ fun vx x ρ1 G1 H1 h1 S1 r1 e1 => h1 σ G1 H1 S1 _ fun vy y ρ2 G2 H2 h2 S2 r2 e2 => by
    obtain ⟨ds, k, d, rfl, hk, hd, p⟩ := h2
    obtain rfl := r2.key hk
    obtain ⟨a, o, vs, rfl, hh, hr, dg⟩ := Rep.dget (k := k) S2.ex (r1.up e2)
    obtain ⟨v, hv, rv⟩ := hr.atSome hd
    exact ⟨a, v, rfl, by rw [← hv]; exact dg, q v d ρ2 G2 H2 p S2 rv (e1.trans e2)⟩
theorem wE_dgetO {i : Nat} (h0 : ∃ (l : Kd) (ds : List (Key × D)), ρ[i]? = some (.od l ds)) (h : wE K F ty ρ fun ρ2 y => ∃ (l : Kd) (ds : List (Key × D)) (k : Key) (d : D), ρ2[i]? = some (.od l ds) ∧ keyD y = some k ∧ atKD ds k = some d ∧ P ρ2 d) : wE K F (tDGet (tVar i) ty) ρ P := fun σ G H S Q q => by
  obtain ⟨l0, ds0, h0⟩ := h0
  obtain ⟨p, vs0, hp, _⟩ := S.od h0
  refine ⟨.ref p, hp, h σ G H S _ fun vy y ρ2 G2 H2 h2 S2 r2 e2 => ?_⟩
  obtain ⟨l, ds, k, d, hi, hk, hd, pp⟩ := h2
  obtain rfl := r2.key hk
  obtain ⟨p', vs, e', hg, hh, hr⟩ := S2.od hi
  rw [hp] at e'
  cases e'
  obtain ⟨v, hv, rv⟩ := hr.atSome hd
  exact ⟨p, v, rfl, by rw [← hv]; exact DGet.k hh, q v d ρ2 G2 H2 pp S2 rv e2⟩
theorem RepK.isSome {G : Hp} {vs : List (Key × V)} {ds : List (Key × D)} (h : RepK K G vs ds) (k : Key) : (valV vs k).isSome = (atKD ds k).isSome := by
  rcases h.at (k := k) with ⟨z1, z2⟩ | ⟨v, d, h1, h2, _⟩
  · rw [z1, z2] <;> rfl
  · rw [h1, h2] <;> rfl
theorem wE_din (h : wE K F ty ρ fun ρ1 y => wE K F td ρ1 fun ρ2 x => ∃ ds k, x = .dkv ds ∧ keyD y = some k ∧ P ρ2 (.bl (atKD ds k).isSome)) : wE K F (tDIn ty td) ρ P := fun σ G H S Q q =>
  h σ G H S _ fun vy y ρ1 G1 H1 h1 S1 r1 e1 => h1 σ G1 H1 S1 _ fun vx x ρ2 G2 H2 h2 S2 r2 e2 => by
    obtain ⟨ds, k, rfl, hk, p⟩ := h2
    obtain rfl := r1.key hk
    obtain ⟨a, o, vs, rfl, hh, hr, dg⟩ := Rep.dget (k := k) S2.ex r2
    refine ⟨a, _, rfl, dg, ?_⟩
    rw [hr.isSome]
    exact q _ _ ρ2 G2 H2 p S2 (.bl _) (e1.trans e2)
theorem wE_dni (h : wE K F ty ρ fun ρ1 y => wE K F td ρ1 fun ρ2 x => ∃ ds k, x = .dkv ds ∧ keyD y = some k ∧ P ρ2 (.bl (!(atKD ds k).isSome))) : wE K F (tDNotIn ty td) ρ P := fun σ G H S Q q =>
  h σ G H S _ fun vy y ρ1 G1 H1 h1 S1 r1 e1 => h1 σ G1 H1 S1 _ fun vx x ρ2 G2 H2 h2 S2 r2 e2 => by
    obtain ⟨ds, k, rfl, hk, p⟩ := h2
    obtain rfl := r1.key hk
    obtain ⟨a, o, vs, rfl, hh, hr, dg⟩ := Rep.dget (k := k) S2.ex r2
    refine ⟨a, _, rfl, dg, ?_⟩
    rw [hr.isSome]
    exact q _ _ ρ2 G2 H2 p S2 (.bl _) (e1.trans e2)
theorem wE_dinO {i : Nat} (h : wE K F ty ρ fun ρ1 y => ∃ (l : Kd) (ds : List (Key × D)) (k : Key), ρ1[i]? = some (.od l ds) ∧ keyD y = some k ∧ P ρ1 (.bl (atKD ds k).isSome)) : wE K F (tDIn ty (tVar i)) ρ P := fun σ G H S Q q =>
  h σ G H S _ fun vy y ρ1 G1 H1 h1 S1 r1 e1 => by
    obtain ⟨l, ds, k, hi, hk, p⟩ := h1
    obtain rfl := r1.key hk
    obtain ⟨a, vs, e, hg, hh, hr⟩ := S1.od hi
    refine ⟨.ref a, e, a, _, rfl, DGet.k hh, ?_⟩
    rw [hr.isSome]
    exact q _ _ ρ1 G1 H1 p S1 (.bl _) e1
theorem wE_dniO {i : Nat} (h : wE K F ty ρ fun ρ1 y => ∃ (l : Kd) (ds : List (Key × D)) (k : Key), ρ1[i]? = some (.od l ds) ∧ keyD y = some k ∧ P ρ1 (.bl (!(atKD ds k).isSome))) : wE K F (tDNotIn ty (tVar i)) ρ P := fun σ G H S Q q =>
  h σ G H S _ fun vy y ρ1 G1 H1 h1 S1 r1 e1 => by
    obtain ⟨l, ds, k, hi, hk, p⟩ := h1
    obtain rfl := r1.key hk
    obtain ⟨a, vs, e, hg, hh, hr⟩ := S1.od hi
    refine ⟨.ref a, e, a, _, rfl, DGet.k hh, ?_⟩
    rw [hr.isSome]
    exact q _ _ ρ1 G1 H1 p S1 (.bl _) e1
/-- d.get(k, x) -/
theorem wE_dget2 (h : wE K F td ρ fun ρ1 x => ∃ ds, x = .dkv ds ∧ wE K F ty ρ1 fun ρ2 y => wE K F tx ρ2 fun ρ3 z => ∃ k, keyD y = some k ∧ P ρ3 ((atKD ds k).getD z)) : wE K F (tDGet2 td ty tx) ρ P := fun σ G H S Q q =>
  h σ G H S _ fun vx x ρ1 G1 H1 h1 S1 r1 e1 => by
    obtain ⟨ds, rfl, h1⟩ := h1
    cases r1 with
    | dkv ha hr =>
      rename_i a o vs
      refine ⟨a, rfl, .inl ⟨vs, .inr ⟨o, S1.ex _ _ ha⟩⟩, h1 σ G1 H1 S1 _ fun vy y ρ2 G2 H2 h2 S2 r2 e2 => h2 σ G2 H2 S2 _ fun vz z ρ3 G3 H3 h3 S3 r3 e3 => ?_⟩
      obtain ⟨k, hk, p⟩ := h3
      obtain rfl := r2.key hk
      have ha3 : H3 a = some (.frz o (.dK vs)) := S3.ex _ _ ((e2.trans e3) _ _ ha)
      refine ⟨_, .inl ⟨vs, k, .inr ⟨o, ha3⟩, rfl, rfl⟩, ?_⟩
      rcases hr.at (k := k) with ⟨z1, z2⟩ | ⟨v, d, z1, z2, rv⟩
      · rw [z1]
        rw [z2] at p
        exact q _ _ ρ3 G3 H3 p S3 r3 ((e1.trans e2).trans e3)
      · rw [z1]
        rw [z2] at p
        exact q _ _ ρ3 G3 H3 p S3 (rv.up (e2.trans e3)) ((e1.trans e2).trans e3)
/-- len(d) -/
theorem wC_lenD {ds : List (Key × D)} (p : P ρ (.int (ds.length : Nat))) : wC K F (fun xs H Q => ∃ a kvs, xs = [V.ref a] ∧ Rd H a (.dK kvs) ∧ Q (.int (kvs.length : Nat)) H) [.dkv ds] ρ P := fun σ G H vs S rs Q q => by
  cases rs with
  | cons r rr =>
    cases rr
    cases r with
    | dkv ha hr =>
      rename_i a o us
      refine ⟨a, us, rfl, .inr ⟨o, S.ex _ _ ha⟩, ?_⟩
      rw [hr.len]
      exact q _ _ ρ G H p S (.int _) (Ex.refl G)
/-! ### a dict gone through -/
/-- what a walk hands out -/
structure Walks (K : PySem.W.Frag) (J : It) (Gk : Hp) (ds : List D) : Prop where
  stop : ∀ (G H : Hp), Ex Gk G → Ex G H → J.stop ds.length H
  go : ∀ (i : Nat) (G H : Hp), Ex Gk G → Ex G H → i < ds.length → J.go i H
  yld : ∀ (i : Nat) (d : D) (x : V) (F : Fr) (σ : St) (ρ : Sls) (G H H' : Hp), ds[i]? = some d → SRel K F G H σ ρ → Ex Gk G → J.yld i H x H' → ∃ G', SRel K F G' H' σ ρ ∧ Ex G G' ∧ Rep K G' x d
def itemsD (kvs : List (Key × D)) : List D := kvs.map fun kv => .tup [kD kv.1, kv.2]
def keysD (kvs : List (Key × D)) : List D := kvs.map fun kv => kD kv.1
theorem walks_items {G : Hp} {a : Addr} {o : Obj} {vs : List (Key × V)} {ds : List (Key × D)} (ha : G a = some (.frz o (.dK vs))) (hr : RepK K G vs ds) : Walks K (Iti a o vs) G (itemsD ds) := by
  have hl : (itemsD ds).length = vs.length := by unfold itemsD; rw [List.length_map, hr.len]
  refine ⟨fun G' H e e' => ⟨e' _ _ (e _ _ ha), by rw [hl]; exact Nat.le_refl _⟩, fun i G' H e e' h => ⟨e' _ _ (e _ _ ha), by rw [← hl]; exact h⟩, fun i d x F σ ρ G' H H' hd S e h => ?_⟩
  obtain ⟨T, k, v, hk, rfl, hT, rfl⟩ := h
  obtain ⟨d', hd', rd⟩ := hr.get hk
  have e2 : d = .tup [kD k, d'] := by
    unfold itemsD at hd
    rw [List.getElem?_map, hd'] at hd
    exact (Option.some.inj hd).symm
  subst e2
  have ex : Ex G' (upd G' T (.tup [kV k, v])) := Ex.new (S.fr.freshG hT)
  exact ⟨_, S.new hT, ex, .tup (SqT.of upd_same) (.cons (Rep.kD k) (.cons (rd.up (e.trans ex)) .nil))⟩
theorem walks_keys {G : Hp} {a : Addr} {o : Obj} {vs : List (Key × V)} {ds : List (Key × D)} (ha : G a = some (.frz o (.dK vs))) (hr : RepK K G vs ds) : Walks K (Itk a o vs) G (keysD ds) := by
  have hl : (keysD ds).length = vs.length := by unfold keysD; rw [List.length_map, hr.len]
  refine ⟨fun G' H e e' => ⟨e' _ _ (e _ _ ha), by rw [hl]; exact Nat.le_refl _⟩, fun i G' H e e' h => ⟨e' _ _ (e _ _ ha), by rw [← hl]; exact h⟩, fun i d x F σ ρ G' H H' hd S e h => ?_⟩
  obtain ⟨rfl, k, v, hk, rfl⟩ := h
  obtain ⟨d', hd', rd⟩ := hr.get hk
  have e2 : d = kD k := by
    unfold keysD at hd
    rw [List.getElem?_map, hd'] at hd
    exact (Option.some.inj hd).symm
  subst e2
  exact ⟨G', S, Ex.refl G', Rep.kD k⟩
section
variable {g : TG} {tb : TS}
theorem for_walk {σ : St} {G1 H1 : Hp} {D1 : Ends} {G0 : Hp} {J : It} {ds : List D} (k : DOk K F G0 D1 O) (e0 : Ex G0 G1) (wk : Walks K J G1 ds) {ρ1 : Sls} (S1 : SRel K F G1 H1 σ ρ1) (f : forS K F g tb O ds ρ1) :
    ∃ W : Nat → Nat → St → Hp → Prop, (∃ m, W 0 m σ H1) ∧ ∀ i m σ H, W i m σ H → (J.stop i H ∧ D1.nx σ H) ∨ (J.go i H ∧ ∃ N : St → Hp → Prop, (∀ σ' H', N σ' H' → ∃ m', m' < m ∧ W (i + 1) m' σ' H') ∧
      ∀ x H', J.yld i H x H' → g x σ H' fun σ2 H2 => tb { D1 with nx := N, ct := N, bk := D1.nx } σ2 H2) := by
  refine ⟨fun i m σ' H' => m = ds.length - i ∧ i ≤ ds.length ∧ ∃ G' ρ', SRel K F G' H' σ' ρ' ∧ Ex G1 G' ∧ forS K F g tb O (ds.drop i) ρ', ⟨_, rfl, Nat.zero_le _, G1, ρ1, S1, Ex.refl G1, f⟩, ?_⟩
  rintro i m σ' H' ⟨rfl, hi, G', ρ', S', e', f'⟩
  by_cases he : i = ds.length
  · left
    subst he
    rw [List.drop_length] at f'
    exact ⟨wk.stop G' H' e' S'.ex, k.nx ρ' σ' G' H' f' S' (e0.trans e')⟩
  · right
    have hlt : i < ds.length := by omega
    have hd : ds[i]? = some ds[i] := List.getElem?_eq_getElem hlt
    refine ⟨wk.go i G' H' e' S'.ex hlt, fun σ' H' => ∃ G' ρ', SRel K F G' H' σ' ρ' ∧ Ex G1 G' ∧ forS K F g tb O (ds.drop (i + 1)) ρ', fun σ2 H2 q => ⟨ds.length - (i + 1), by omega, rfl, hlt, q⟩, fun x H2 hy => ?_⟩
    obtain ⟨G2, S2, e2, r2⟩ := wk.yld i _ x F σ' ρ' G' H' H2 hd S' e' hy
    exact for_turn k e0 S2 (e'.trans e2) hd r2 f'
theorem wS_forItems (h : wE K F td ρ fun ρ1 d => ∃ ds, d = .dkv ds ∧ forS K F g tb O (itemsD ds) ρ1) : wS K F (tFor (iItems td) g tb) ρ O := fun σ G H S D1 k =>
  h σ G H S _ fun v d ρ1 G1 H1 h1 S1 r1 e1 => by
    obtain ⟨ds, rfl, f⟩ := h1
    cases r1 with
    | dkv ha hr =>
      rename_i a o vs
      exact ⟨a, o, vs, rfl, S1.ex _ _ ha, for_walk k e1 (walks_items ha hr) S1 f⟩
theorem wS_forKeys (h : wE K F td ρ fun ρ1 d => ∃ ds, d = .dkv ds ∧ forS K F g tb O (keysD ds) ρ1) : wS K F (tFor (iKeys td) g tb) ρ O := fun σ G H S D1 k =>
  h σ G H S _ fun v d ρ1 G1 H1 h1 S1 r1 e1 => by
    obtain ⟨ds, rfl, f⟩ := h1
    cases r1 with
    | dkv ha hr =>
      rename_i a o vs
      exact ⟨a, o, rfl, .inl ⟨vs, S1.ex _ _ ha, for_walk k e1 (walks_keys ha hr) S1 f⟩⟩
end
section
variable {g : TG} {tt : TT} {vs : List Nat} {PO : Sls → List D → Prop}
theorem wO_lcK (hT : Tgt g vs) (h : wE K F td ρ fun ρ1 d => ∃ ds, d = .dkv ds ∧ ds.length ≤ 100000 ∧ compL K g tt te vs (keysD ds) (wipeU ρ1 vs) [] fun ρ' acc => PO (restS vs 0 ρ1 ρ') acc) : wO K F (tLc (iKeys td) g tt te vs) ρ PO := fun σ G H S Q q =>
  h σ G H S _ fun v d ρ1 G1 H1 h1 S1 r1 e1 => by
    obtain ⟨ds, rfl, hn, f⟩ := h1
    cases r1 with
    | dkv ha hr =>
      rename_i a o us
      have wk := walks_keys (K := K) ha hr
      have hln : (keysD ds).length = ds.length := by unfold keysD; rw [List.length_map]
      refine ⟨a, o, rfl, .inl ⟨us, S1.ex _ _ ha, fun Dl hD => ?_⟩⟩
      refine ⟨fun i m H' => m = (keysD ds).length - i ∧ i ≤ (keysD ds).length ∧ CompEx K F g tt te vs σ G1 Dl (fun ρ' acc => PO (restS vs 0 ρ1 ρ') acc) i ((keysD ds).drop i) H', ⟨_, rfl, Nat.zero_le _, comp_start S1 f hD⟩, ?_⟩
      rintro i m H' ⟨rfl, hi, c⟩
      have c0 := c
      obtain ⟨G', ρ', acc, vacc, c1⟩ := c0
      by_cases he : i = (keysD ds).length
      · left
        subst he
        refine ⟨wk.stop G' H' c1.e c1.S.ex, ?_⟩
        rw [List.drop_length] at c
        obtain ⟨G2, ρ2, acc2, vacc2, p, S2, ow, e2⟩ := comp_end (P := PO) S1 c hD
        exact q _ _ _ ρ2 G2 H' p S2 ow (e1.trans e2)
      · right
        have hlt : i < (keysD ds).length := by omega
        have hd : (keysD ds)[i]? = some (keysD ds)[i] := List.getElem?_eq_getElem hlt
        rw [drop_at hd] at c
        refine ⟨wk.go i G' H' c1.e c1.S.ex hlt, fun H2 => CompEx K F g tt te vs σ G1 Dl (fun ρ' acc => PO (restS vs 0 ρ1 ρ') acc) (i + 1) ((keysD ds).drop (i + 1)) H2, fun H2 q2 => ⟨(keysD ds).length - (i + 1), by omega, rfl, hlt, q2⟩, fun x H2 hy => ?_⟩
        obtain ⟨rfl, k, v, hk, rfl⟩ := hy
        obtain ⟨d', hd', rd⟩ := hr.get hk
        have e2 : (keysD ds)[i] = kD k := by
          have z : (keysD ds)[i]? = some (kD k) := by
            unfold keysD
            rw [List.getElem?_map, hd']
            rfl
          rw [hd] at z
          exact Option.some.inj z
        exact comp_turn hT (by omega) c fun G'' _ => by rw [e2]; exact Rep.kD k
end
end
end DL
namespace DL
open PySem PySem.Spec PyProof.Rows L2

/-! ### try, with several clauses, each with or without a name, and an else -/
/-- one clause: its class, the slot of its name if it has one, its suite -/
abbrev Cl : Type := Value × Option Nat × (Addr → Value → Option Addr → TS)
/-- what follows a suite whose name is the slot i -/
def EndsU (E : Ends) (i : Nat) : Ends := { nx := fun τ M => E.nx (τ.set i none) M, rt := E.rt, bk := fun τ M => E.bk (τ.set i none) M, ct := fun τ M => E.ct (τ.set i none) M }
def wCls (K : PySem.W.Frag) (Wo : WX) (E : Ends) : List Cl → WX
  | [] => Wo
  | (c, oi, ts) :: r => fun k d τ M => ∃ b, PySem.W.exmOne K k c = some b ∧ (b = false → wCls K Wo E r k d τ M) ∧
      (b = true → ∀ a, M a = none → match oi with
        | none => ts a k d E τ M
        | some i => ts a k d (EndsU E i) (τ.set i (some (.ref a))) M)
inductive ClsOk (X : Cx) : List ExceptHandler → List Cl → Prop
  | nil : ClsOk X [] []
  | bare {x : Str} {c : Value} {ts : Addr → Value → Option Addr → TS} {b0 : Stmt} {bs : List Stmt} {p1 p2 : Pos} {hs : List ExceptHandler} {l : List Cl} (hc : Names X x c)
      (hsu : ∀ (a : Addr) (oe : Obj) (k : Value) (d : Option Addr) (pn : List (Addr × Obj)), Zc k d oe → (∃ vs, oe.data = .fields vs) → PSs (X.suite a ((a, oe) :: pn)) (b0 :: bs) (ts a k d)) (r : ClsOk X hs l) :
      ClsOk X (.ExceptHandler (some (.Name x p1)) none (b0 :: bs) p2 :: hs) ((c, none, ts) :: l)
  | as_ {x n : Str} {i : Nat} {c : Value} {ts : Addr → Value → Option Addr → TS} {b0 : Stmt} {bs : List Stmt} {p1 p2 : Pos} {hs : List ExceptHandler} {l : List Cl} (hc : Names X x c) (hi : X.N[i]? = some n) (hln : X.env.kindOf n = some .local)
      (hsu : ∀ (a : Addr) (oe : Obj) (k : Value) (d : Option Addr) (pn : List (Addr × Obj)), Zc k d oe → (∃ vs, oe.data = .fields vs) → PSs (X.suite a ((a, oe) :: pn)) (b0 :: bs) (ts a k d)) (r : ClsOk X hs l) :
      ClsOk X (.ExceptHandler (some (.Name x p1)) (some n) (b0 :: bs) p2 :: hs) ((c, some i, ts) :: l)
section
variable {X : Cx} {body els : List Stmt} {hd : ExceptHandler} {hds : List ExceptHandler} {l : List Cl} {pos : Pos} {tb : WX → TS} {te : TS} {Wo : WX}
theorem ps_tryC (e1 : X.stack = X.env :: X.outer) (e2 : X.env.frame = some X.env.locals) (hN : X.N.Nodup) (tk : Takes X Wo)
    (hb : ∀ (W : WX) (pn : List (Addr × Obj)) (xe : Value → Shared → Prop), Takes (X.tr pn xe) W → PassesOwn (model X.prog X.w) X.A X.env xe → PSs (X.tr pn xe) body (tb W))
    (hh : ClsOk X (hd :: hds) l) (ho : PSs X els te) : PS X (.Try body (hd :: hds) els [] pos) (fun E τ M => tb (wCls X.K Wo E l) { E with nx := te E } τ M) := by
  constructor
  intro pins s τ M E I0 hq
  have ok0 := I0.ok
  have efr : X.A.frames = some (X.env :: X.outer) := by rw [ok0.frames, e1]
  apply wpAny_Try_except
  have run1 := (hb (wCls X.K Wo E l) (X.pn ++ pins) (fun e t1 => wpAny (model X.prog X.w) X.A (noteFrame e X.env) (fun _ t2 => wpAny (model X.prog X.w) X.A (setFlight e none) (fun _ t3 =>
    wpAny (model X.prog X.w) X.A (handleBy e X.env (hd :: hds)) (SP X pins E) X.xe t3) X.xe t2) X.xe t1) (fun v t xx => ?caught) PassesOwn.looking).run [] s τ M { E with nx := te E } (I0.toTry _) hq
  case caught =>
    obtain ⟨a, B, t0, pins', τ1, M1, k, d, rfl, J', nb, up, sky, na, os, ag, w⟩ := xx
    have J0 : Inv X pins τ1 M1 t0 := J'.ofTry ok0
    rw [e1] at sky
    show wpAny (model X.prog X.w) X.A (noteFrame (.ref a) X.env) _ _ _
    apply Sky.land Zc.steady efr e2 sky
    intro g3 fl3 up3
    have J3 : Inv X pins τ1 M1 { t with heap := g3 } := J0.landed nb fl3.1 (up.trans up3) os ag
    obtain ⟨o3, v3, he3, hz3, hd3⟩ := fl3.there
    have nfr : a ∉ frs (X.env :: X.outer) := fun hm => by
      obtain ⟨_, o', z1, z2⟩ := fl3.2.2.1.mem hm
      rw [he3] at z1
      cases z1
      exact z2 _ hd3
    have nL : a ≠ X.env.locals := fun z => nfr (List.mem_filterMap.mpr ⟨X.env, .head _, by rw [e2, z]⟩)
    have nF : a ∉ X.fs := fun hm => by
      obtain ⟨y, hy, z⟩ := List.mem_filterMap.mp hm
      exact nfr (List.mem_filterMap.mpr ⟨y, .tail _ hy, z⟩)
    have S3 := J3.suite he3 hd3 na nL nF
    have lookT : PySem.W.Looks (model X.prog X.w) g3 (typeOf (.ref a)) k := fun A Q E s kk q => wpAny_typeOf_ref (kk _ _ he3) (by rw [hz3.1]; exact q)
    have asks : ∀ {x : Str} {p1 : Pos} {c : Value} {Q : Value → Shared → Prop} {E' : Value → Shared → Prop}, Names X x c → Q c { t with heap := g3 } → wpAny (model X.prog X.w) (X.A.mark (some (.ref a))) (eval (.Name x p1) X.env) Q E' { t with heap := g3 } := by
      intro x p1 c Q E' hc q
      obtain ⟨h1, h2, h3 | ⟨h3, h4, h5⟩⟩ := hc
      · exact ld_glob (X := X.suite a ((a, o3) :: (X.pn ++ pins))) S3 h1 h3 q h2
      · exact ld_blt (X := X.suite a ((a, o3) :: (X.pn ++ pins))) S3 h1 h3 h4 q h5 h2
    have go : ∀ {hs' : List ExceptHandler} {l' : List Cl}, ClsOk X hs' l' → wCls X.K Wo E l' k d τ1 M1 →
        wpAny (model X.prog X.w) X.A (handleBy (.ref a) X.env hs') (SP X pins E) X.xe { t with heap := g3 } := by
      intro hs' l' hk
      induction hk with
      | nil =>
        intro w
        apply wpAny_handleBy_nil
        have fl3' := fl3
        obtain ⟨_, _, _, oe, vs, T, oT, ts', q1, _, q3, q4, _⟩ := fl3'
        unfold PySem.passOn
        apply wpAny_bind
        refine wpAny_field q1 q3 q4 ?_
        rw [if_neg (show ¬ ((Value.ref T == Value.none) = true) from by simp)]
        have last : wpAny (model X.prog X.w) X.A (setFlight (.ref a) X.env.frame) (fun _ t4 => wpAny (model X.prog X.w) X.A (throw (.ref a) : Sem Flow) (SP X pins E) X.xe t4) X.xe { t with heap := g3 } := by
          rw [e2]
          refine HandSPX.setFlight_upZ fl3 fun g4 hh4 up4 => ?_
          refine wpAny_throw (tk _ _ ⟨a, B, t0, pins, τ1, M1, k, d, rfl, J0, nb, (up.trans up3).trans up4, .inr (.inr ?_), na, os, ag, w⟩)
          rw [e1]
          exact hh4
        first
          | exact wpAny_bind (wpAny_pure (wpAny_bind last))
          | exact wpAny_bind last
      | bare hc hsu r ih =>
        intro w
        obtain ⟨b, w1, w2, w3⟩ := w
        refine wpAny_handleBy_cons (codeAny_handlers_test ?_) fun q => nomatch q
        refine asks hc ((PySem.W.exm_one (M := model X.prog X.w) J3.kIn lookT w1).here ?_)
        cases b with
        | false => exact ih (w2 rfl)
        | true =>
          apply codeAny_handlers_suite
          refine HandSPX.lands_againZ fl3 fun g4 fl4 up4 => ?_
          obtain ⟨o4, v4, he4, hz4, hd4⟩ := fl4.there
          have S4 := (J0.landed nb fl4.1 ((up.trans up3).trans up4) os ag : Inv X pins τ1 M1 { t with heap := g4 }).suite he4 hd4 na nL nF
          refine wpAny_mono ((hsu a o4 k d (X.pn ++ pins) hz4 ⟨_, hd4⟩).run [] _ _ M1 _ S4 (w3 rfl a na)) (fun f t6 hf => ?_) (fun _ _ z => z.elim)
          cases f with
          | ret u =>
            obtain ⟨x1, x2, x3, S6, x4, x5⟩ := hf
            exact ⟨x1, x2, x3, S6.unsuite ok0, x4, x5⟩
          | next =>
            obtain ⟨x2, x3, S6, x5⟩ := hf
            exact ⟨x2, x3, S6.unsuite ok0, x5⟩
          | brk =>
            obtain ⟨x2, x3, S6, x5⟩ := hf
            exact ⟨x2, x3, S6.unsuite ok0, x5⟩
          | cont =>
            obtain ⟨x2, x3, S6, x5⟩ := hf
            exact ⟨x2, x3, S6.unsuite ok0, x5⟩
      | @as_ x n i c ts b0 bs p1 p2 hs2 l2 hc hi hln hsu r ih =>
        intro w
        obtain ⟨b, w1, w2, w3⟩ := w
        refine wpAny_handleBy_cons (codeAny_handlers_test ?_) fun q => nomatch q
        refine asks hc ((PySem.W.exm_one (M := model X.prog X.w) J3.kIn lookT w1).here ?_)
        cases b with
        | false => exact ih (w2 rfl)
        | true =>
          apply codeAny_handlers_suite_as
          refine HandSPX.lands_againZ fl3 fun g4 fl4 up4 => ?_
          obtain ⟨o4, v4, he4, hz4, hd4⟩ := fl4.there
          have S4 := (J0.landed nb fl4.1 ((up.trans up3).trans up4) os ag : Inv X pins τ1 M1 { t with heap := g4 }).suite he4 hd4 na nL nF
          refine store_ok (X := X.suite a ((a, o4) :: (X.pn ++ pins))) (v := .ref a) S4 hN hi (.inl hln) rfl (fun t5 S5 => ?_) (.inr hln)
          refine wpAny_mono ((hsu a o4 k d (X.pn ++ pins) hz4 ⟨_, hd4⟩).run [] t5 _ M1 _ S5 (w3 rfl a na)) (fun f t6 hf => ?_) (fun _ _ z => z.elim)
          have fin6 : ∀ {τ6 : L2.St} {M6 : Hp} {Q : Shared → Prop}, Inv (X.suite a ((a, o4) :: (X.pn ++ pins))) [] τ6 M6 t6 → (∀ t7, Inv X pins (τ6.set i none) M6 t7 → Q t7) →
              wpAny (model X.prog X.w) X.A (do bindName X.env n .none; unbindBehindTheSuite X.env n p2) (fun _ t7 => Q t7) X.xe t6 := fun S6 q => gone_ok (S6.unsuite ok0) hN hi hln q
          cases f with
          | ret u =>
            obtain ⟨x1, x2, x3, S6, x4, x5⟩ := hf
            exact fin6 S6 fun t7 J7 => ⟨x1, _, x3, J7, x4, x5⟩
          | next =>
            obtain ⟨x2, x3, S6, x5⟩ := hf
            exact fin6 S6 fun t7 J7 => ⟨_, x3, J7, x5⟩
          | brk =>
            obtain ⟨x2, x3, S6, x5⟩ := hf
            exact fin6 S6 fun t7 J7 => ⟨_, x3, J7, x5⟩
          | cont =>
            obtain ⟨x2, x3, S6, x5⟩ := hf
            exact fin6 S6 fun t7 J7 => ⟨_, x3, J7, x5⟩
    exact go hh w
  refine wpAny_mono run1 (fun f t1 hf => ?_) (fun e t1 he => he)
  cases f with
  | next =>
    obtain ⟨x2, x3, J6, x5⟩ := hf
    exact ho.run pins t1 x2 x3 E (J6.ofTry ok0) x5
  | ret u =>
    obtain ⟨x1, x2, x3, J6, x4, x5⟩ := hf
    exact ⟨x1, x2, x3, J6.ofTry ok0, x4, x5⟩
  | brk =>
    obtain ⟨x2, x3, J6, x5⟩ := hf
    exact ⟨x2, x3, J6.ofTry ok0, x5⟩
  | cont =>
    obtain ⟨x2, x3, J6, x5⟩ := hf
    exact ⟨x2, x3, J6.ofTry ok0, x5⟩
end

/-! ### isinstance of what was caught -/
/-- what an own exception's class must be for isinstance -/
structure XiC (K : PySem.W.Frag) (C : Addr) : Prop where
  xf : XfC K C
  cls : (PySem.W.clsIn K C).isSome = true
  ca : PySem.W.findIn K (.ref C) "__class__" = some (some (.builtin "object.__class__"))
  cg : PySem.W.specialIn K (.builtin "object.__class__") "__get__" = some (some (.builtin "getset_descriptor.__get__"))
  ct : PySem.W.takesIn K (.builtin "object.__class__") = some true
  mr : PySem.W.mroIn K C (.type "object") = some true
theorem XiC.kit {K : PySem.W.Frag} {C : Addr} (T : XiC K C) {a : Addr} {oe : Obj} {od : Option Obj} : PySem.W.KitX K (.ref a) (.ref C) fun h => PySem.W.InstAt h a oe C od :=
  PySem.W.kitx_exc T.cls T.xf.ga T.xf.gg T.xf.exC T.ca T.cg T.ct T.mr
/-- isinstance(e, X) -/
def rIsX (K : PySem.W.Frag) (a : Addr) (k : Value) (d : Option Addr) : List V → Hp → VK → Prop := fun xs M Q => ∃ (c : V) (u : Value) (C dd : Addr) (fs : List (Str × V)) (b : Bool), xs = [.ref a, c] ∧ ClsV c u ∧ k = .ref C ∧ d = some dd ∧ M dd = some (.xd fs) ∧ XiC K C ∧ PySem.W.kitOne K (.ref C) u = some b ∧ Q (.bl b) M
/-- isinstance(e, (X, Y, ..)) -/
def rIsXT (K : PySem.W.Frag) (a : Addr) (k : Value) (d : Option Addr) : List V → Hp → VK → Prop := fun xs M Q => ∃ (tp : Addr) (cs : List V) (us : List Value) (C dd : Addr) (fs : List (Str × V)) (b : Bool), xs = [.ref a, .ref tp] ∧ M tp = some (.tup cs) ∧ Paired ClsV cs us ∧ k = .ref C ∧ d = some dd ∧ M dd = some (.xd fs) ∧ XiC K C ∧ PySem.W.kitAny K (.ref C) us = some b ∧ Q (.bl b) M
section
variable {X : Cx} {a : Addr} {oe : Obj} {k : Value} {d : Option Addr} {pn : List (Addr × Obj)}
theorem inst_at {pins : List (Addr × Obj)} {τ : L2.St} {M : Hp} {s : Shared} {C dd : Addr} {fs : List (Str × V)} (hz : Zc k d oe) (hf : ∃ vs, oe.data = .fields vs) (I : Inv (X.suite a ((a, oe) :: pn)) pins τ M s) (ek : k = .ref C) (ed : d = some dd) (hd : M dd = some (.xd fs)) : ∃ od, PySem.W.InstAt s.heap a oe C (some od) := by
  subst ek ed
  obtain ⟨ha, _⟩ := I.pin (a, oe) (List.mem_append_left _ (.head _))
  obtain ⟨vs, hv⟩ := hf
  obtain ⟨mA, hns, _⟩ := (show ObjOk X.prog X.w M s.heap dd (.xd fs) from I.hok dd _ hd)
  obtain ⟨od, ho, _⟩ := lookIn_ns hns
  exact ⟨od, ha, hz.1, by unfold PySem.W.notCls; rw [hv] <;> rfl, by rw [hz.2]; exact ho⟩
theorem call_isX (hz : Zc k d oe) (hf : ∃ vs, oe.data = .fields vs) : CallR (X.suite a ((a, oe) :: pn)) (.builtin "isinstance") (rIsX X.K a k d) := by
  intro pins s τ M xs us Q I r h
  obtain ⟨c, u, C, dd, fs, b, rfl, kc, ek, ed, hd, T, e, q⟩ := h
  obtain ⟨u1, u2, rfl, r1, r2⟩ := vals2 r
  obtain ⟨od, J⟩ := inst_at hz hf I ek ed hd
  have z := kc.eq r2
  subst z
  obtain rfl : u1 = Value.ref a := r1
  exact PySem.W.kia_one T.kit I.kIn J e (fun z => nomatch z) fun tk => ⟨.bl b, M, I.tok tk, rfl, q⟩
theorem call_isXT (hz : Zc k d oe) (hf : ∃ vs, oe.data = .fields vs) : CallR (X.suite a ((a, oe) :: pn)) (.builtin "isinstance") (rIsXT X.K a k d) := by
  intro pins s τ M xs us Q I r h
  obtain ⟨tp, cs, ws, C, dd, fs, b, rfl, hT, kc, ek, ed, hd, T, e, q⟩ := h
  obtain ⟨u1, u2, rfl, r1, r2⟩ := vals2 r
  obtain ⟨od, J⟩ := inst_at hz hf I ek ed hd
  obtain rfl : u1 = Value.ref a := r1
  obtain rfl : u2 = Value.ref tp := r2
  obtain ⟨_, its, rv, o, h1, h2, n, h3⟩ := (show ObjOk X.prog X.w M s.heap tp (.tup cs) from I.hok tp _ hT)
  have z := ClsV.all kc rv
  subst z
  obtain ⟨oc, oo, dt, sl⟩ := o
  simp only at h2 h3
  subst h2 h3
  exact PySem.W.kia_tup T.kit I.kIn J h1 e (fun z => nomatch z) fun tk => ⟨.bl b, M, I.tok tk, rfl, q⟩
end
end DL
namespace DL
open PySem PySem.Spec PyProof.Rows L2
open PySem.SeqAt AutoSeq1 MeetsSeq MeetsSeq2 MeetsSeq3 SeqRoads2

/-! ### != of two lists whose items are equal one by one, whatever they are -/
section
variable {prog : Program} {w : World}
theorem neT_loop (l m : Addr) (xs ys : Array Value) (n1 n2 : Nat) (d1 d2 : Option Addr) (s1 s2 : Array (Option Value)) (hsz : xs.size = ys.size) (k : Nat) :
    ∀ i : Nat, xs.size - i = k → MeetsIn prog w (Builtin.«list.__eq__.loop» ⟨[.ref l, .ref m, rawInt i, rawInt 3], []⟩)
      (fun A R t => t.heap.get? l = some ⟨.type "list", d1, .seq xs n1, s1⟩ ∧ t.heap.get? m = some ⟨.type "list", d2, .seq ys n2, s2⟩ ∧
        (∀ j (h1 : j < xs.size) (h2 : j < ys.size), EqIn prog w A.in1 t xs[j] ys[j] true) ∧ R (.ok (.ret (.bool false))) t) := by
  induction k with
  | zero =>
    intro i hk A R t h
    obtain ⟨hp, g, d, tk, os⟩ := t
    obtain ⟨hl, hm, he, h⟩ := h
    wp_walk using wpAny_loadPart' hl, wpAny_loadPart' hm
    have z1 : xs[((i : Nat) : Int).toNat]? = none := by simp; omega
    have z2 : ys[((i : Nat) : Int).toNat]? = none := by simp; omega
    rw [z1, z2]
    wp_walk using wpAny_loadPart' hl, wpAny_loadPart' hm
    show R (.ok (.ret (.bool (xs.size != ys.size)))) _
    rw [hsz]
    simpa using h
  | succ k ih =>
    intro i hk A R t h
    obtain ⟨hp, g, d, tk, os⟩ := t
    obtain ⟨hl, hm, he, h⟩ := h
    wp_walk using wpAny_loadPart' hl, wpAny_loadPart' hm
    have b1 : i < xs.size := by omega
    have b2 : i < ys.size := by omega
    have z1 : xs[((i : Nat) : Int).toNat]? = some xs[i] := by simp [b1]
    have z2 : ys[((i : Nat) : Int).toNat]? = some ys[i] := by simp [b2]
    have hc : ((i : Int) + 1) = ((i + 1 : Nat) : Int) := by push_cast; rfl
    rw [z1, z2]
    refine wpAny_bind (he i b1 b2 _ _ ?_)
    wp_walk
    rw [hc]
    exact ⟨plainId_quiet plain_eq_loop _, codeAny_builtin entry_eq_loop (by
      rw [Around.under_plainId plain_eq_loop _]
      exact ih (i + 1) (by omega) A R _ ⟨hl, hm, he, h⟩)⟩
theorem neT_list (l m : Addr) (xs ys : Array Value) (n1 n2 : Nat) (d1 d2 : Option Addr) (s1 s2 : Array (Option Value)) (hsz : xs.size = ys.size) :
    MeetsIn prog w (Builtin.«list.__ne__» ⟨[.ref l, .ref m], []⟩)
      (fun A R t => t.heap.get? l = some ⟨.type "list", d1, .seq xs n1, s1⟩ ∧ t.heap.get? m = some ⟨.type "list", d2, .seq ys n2, s2⟩ ∧
        (∀ j (h1 : j < xs.size) (h2 : j < ys.size), EqIn prog w A.in1 t xs[j] ys[j] true) ∧ R (.ok (.ret (.bool false))) t) := by
  intro A R t h
  obtain ⟨hp, g, d, tk, os⟩ := t
  obtain ⟨hl, hm, he, h⟩ := h
  have f3 := AutoSeq1.sub_list_list
  have hne : ¬ (xs.size != ys.size) = true := by simp [hsz]
  wp_walk using wpAny_loadPart' hl, wpAny_loadPart' hm
  exact ⟨plainId_quiet plain_eq_loop _, codeAny_builtin entry_eq_loop (by
    rw [Around.under_plainId plain_eq_loop _]
    exact neT_loop l m xs ys n1 n2 d1 d2 s1 s2 hsz _ 0 rfl A R _ ⟨hl, hm, he, h⟩)⟩
theorem neT_rc {A : Around} {E : Value → Shared → Prop} {t : Shared} {l m : Addr} {xs ys : Array Value} {Q : Value → Shared → Prop} (hl : t.heap.IsList l xs) (hm : t.heap.IsList m ys) (hsz : xs.size = ys.size) (hu : A.units < cLine)
    (he : ∀ j (h1 : j < xs.size) (h2 : j < ys.size), EqIn prog w A.in1 t xs[j] ys[j] true) (h : Q (.bool false) t) : wpAny (model prog w) A (richCompare .NotEq (.ref l) (.ref m)) Q E t := by
  obtain ⟨⟨c1, d1, t1, s1⟩, o1, e1, n1, f1⟩ := hl
  obtain ⟨⟨c2, d2, t2, s2⟩, o2, e2, n2, f2⟩ := hm
  simp only at e1 f1 e2 f2
  subst e1 f1 e2 f2
  refine wpAny_richCompare_same_room (T := "list") (op := .NotEq) ⟨_, o1, rfl⟩ ⟨_, o2, rfl⟩ F.slot_list_ne ?_ hu
  refine call_meetsIn F.slot_list_ne ⟨_, o1, rfl⟩ F.entry_list_ne (F.args_list_ne_2 _ _) (neT_list l m xs ys n1 n2 d1 d2 s1 s2 hsz) ⟨o1, o2, he, ?_⟩
  exact ⟨(fun z => nomatch z), h⟩
end

/-! ### list(d.items()), dicts compared, also such as are locked -/
section
variable {X : Cx}
def rItL : V → Hp → VK → Prop := fun x M Q => ∃ (d : Addr) (kvs : List (Key × V)), x = .ref d ∧ Rd M d (.dK kvs) ∧
  ∀ (M' : Hp) (p : Addr) (ts : List Addr), (∀ b o, M b = some o → M' b = some o) → M p = none → (∀ t ∈ ts, M t = none) → p ∉ ts → M' p = some (.lst (ts.map V.ref)) → Paired (fun (t : Addr) (q : Key × V) => M' t = some (.tup [kV q.1, q.2])) ts kvs → Q (.ref p) M'
/-- dicts of the same flat entries -/
def SameD (ks ls : List (Key × V)) : Prop := ks.length = ls.length ∧ ∀ p ∈ ks, valV ls p.1 = some p.2 ∧ flatB p.2 = true
def rEqDD : R2 := fun x y M Q => ∃ a b ks ls, x = .ref a ∧ y = .ref b ∧ Rd M a (.dK ks) ∧ Rd M b (.dK ls) ∧ SameD ks ls ∧ Q (.bl true) M
def rNeDD : R2 := fun x y M Q => ∃ a b ks ls, x = .ref a ∧ y = .ref b ∧ Rd M a (.dK ks) ∧ Rd M b (.dK ls) ∧ SameD ks ls ∧ Q (.bl false) M
theorem op_eqDD (hu : X.A.units < cLine) : OpR X (compareOp .Eq) rEqDD := by
  intro pins s τ M x y v u Q I rx ry h
  obtain ⟨a, b, ks, ls, rfl, rfl, ea, eb, ⟨hl, hp⟩, q⟩ := h
  obtain rfl : v = Value.ref a := rx
  obtain rfl : u = Value.ref b := ry
  obtain ⟨_, ya, va, ra, da⟩ := dk_rd I.hok ea
  obtain ⟨_, yb, vb, rb, db⟩ := dk_rd I.hok eb
  have z1 := ra.length
  have z2 := rb.length
  exact PySem.W.keq_eq (r := true) ya yb da db hu (fun _ => hits_all rb ra hp) (fin_bl I q (by simp; omega))
theorem op_neDD (hu : X.A.units < cLine) : OpR X (compareOp .NotEq) rNeDD := by
  intro pins s τ M x y v u Q I rx ry h
  obtain ⟨a, b, ks, ls, rfl, rfl, ea, eb, ⟨hl, hp⟩, q⟩ := h
  obtain rfl : v = Value.ref a := rx
  obtain rfl : u = Value.ref b := ry
  obtain ⟨_, ya, va, ra, da⟩ := dk_rd I.hok ea
  obtain ⟨_, yb, vb, rb, db⟩ := dk_rd I.hok eb
  have z1 := ra.length
  have z2 := rb.length
  exact PySem.W.keq_ne (r := true) ya yb da db hu (fun _ => hits_all rb ra hp) (fin_bl I q (by simp; omega))
/-- lists of dicts, equal one by one -/
def rNeLD (K : PySem.W.Frag) : R2 := fun x y M Q => ∃ (l m : Addr) (as bs : List Addr), x = .ref l ∧ y = .ref m ∧ SqL K M l (as.map V.ref) ∧ SqL K M m (bs.map V.ref) ∧ as.length = bs.length ∧
  (∀ (j : Nat) (a b : Addr), as[j]? = some a → bs[j]? = some b → ∃ ks ls, Rd M a (.dK ks) ∧ Rd M b (.dK ls) ∧ SameD ks ls) ∧ Q (.bl false) M
theorem vals_refs_inv : ∀ {as : List Addr} {us : List Value}, Vals (as.map V.ref) us → us = as.map Value.ref
  | [], _, h => by cases h; rfl
  | a :: as, _, h => by
    cases h with
    | cons r t =>
      rw [vals_refs_inv t]
      obtain rfl : _ = Value.ref a := r
      rfl
theorem dict_eqIn {A : Around} {t : Shared} {M : Hp} {a b : Addr} {ks ls : List (Key × V)} (ok : HOk X.prog X.w M t.heap) (ea : Rd M a (.dK ks)) (eb : Rd M b (.dK ls)) (hs : SameD ks ls) (hu : A.units < cLine) : EqIn X.prog X.w A t (.ref a) (.ref b) true := by
  obtain ⟨hl, hp⟩ := hs
  by_cases hab : a = b
  · subst hab
    exact (PySem.SeqAt.EqAt.same _).inModel X.prog X.w
  · obtain ⟨_, ya, va, ra, da⟩ := dk_rd ok ea
    obtain ⟨_, yb, vb, rb, db⟩ := dk_rd ok eb
    have z1 := ra.length
    have z2 := rb.length
    have z3 : (va.length == vb.length && true) = true := by simp; omega
    exact EqIn.of_refs hab fun E Q hq => PySem.W.keq_eq (r := true) ya yb da db hu (fun _ => hits_all rb ra hp) (by rw [z3]; exact hq)
theorem op_neLD (hu : X.A.units + 65 < cLine) : OpR X (compareOp .NotEq) (rNeLD X.K) := by
  intro pins s τ M x y v u Q I rx ry h
  obtain ⟨l, m, as, bs, rfl, rfl, hl, hm, hlen, hall, q⟩ := h
  obtain rfl : v = Value.ref l := rx
  obtain rfl : u = Value.ref m := ry
  obtain ⟨is, rv, ⟨o1, n1, g1, c1, _, t1⟩, _⟩ := I.list hl
  obtain ⟨js, rw', ⟨o2, n2, g2, c2, _, t2⟩, _⟩ := I.list hm
  have e1 := vals_refs_inv rv
  have e2 := vals_refs_inv rw'
  subst e1 e2
  refine neT_rc (xs := (as.map Value.ref).toArray) (ys := (bs.map Value.ref).toArray) ⟨o1, g1, c1, n1, t1⟩ ⟨o2, g2, c2, n2, t2⟩ (by simp [hlen]) (by omega) (fun j h1 h2 => ?_) ⟨.bl false, M, I, rfl, q⟩
  have b1 : j < as.length := by simpa using h1
  have b2 : j < bs.length := by simpa using h2
  obtain ⟨ks, ls, k1, k2, k3⟩ := hall j as[j] bs[j] (List.getElem?_eq_getElem b1) (List.getElem?_eq_getElem b2)
  have r := dict_eqIn (A := X.A.in1) (t := s) I.hok k1 k2 k3 (by show X.A.units + 1 < cLine; omega)
  simpa using r
end
end DL
namespace DL
open PySem L2
open Evl (Ex)

theorem units1 {k : Nat} {A : Around} (r : Room k A) : A.units + 1 < cLine := by
  have := r.units
  omega
/-! ### list.pop(i) -/
section
variable {K : PySem.W.Frag} {F : Fr} {ρ : Sls} {P : Sls → D → Prop} {te td ta : TE} {O : Out}
theorem wE_popAt {i : Nat} (h0 : ∃ (l : Kd) (ds : List D), ρ[i]? = some (.ow l ds)) (h : wE K F te ρ fun ρ1 x => ∃ (l : Kd) (ds : List D) (j : Nat) (d : D), ρ1[i]? = some (.ow l ds) ∧ x = .int (j : Int) ∧ (j : Int) < 2 ^ 63 ∧ ds[j]? = some d ∧ P (ρ1.set i (.ow l (ds.eraseIdx j))) d) :
    wE K F (tBM K "list" rPopAt (tVar i) (tCons te tNil)) ρ P := fun σ G H S Q q => by
  obtain ⟨l0, ds0, h0⟩ := h0
  obtain ⟨p, vs0, hp, _, hh0, _⟩ := S.ow h0
  refine ⟨.ref p, hp, .inl ⟨rfl, vs0, SqL.of hh0⟩, h σ G H S _ fun v x ρ1 G1 H1 h1 S1 r1 e1 => ?_⟩
  obtain ⟨l, ds, j, d, hi, rfl, hj, hd, pp⟩ := h1
  cases r1
  obtain ⟨p', vs, e', hg, hh, hr⟩ := S1.ow hi
  rw [hp] at e'
  cases e'
  obtain ⟨y, hy, ry⟩ := hr.get hd
  have hlt := (List.getElem?_eq_some_iff.mp hy).1
  refine ⟨p, vs, _, j, y, rfl, rfl, hh, by omega, hj, ?_, hy, q y d _ G1 _ pp (S1.mut hi hp ?_) ry e1⟩
  · unfold seqIndex?
    have n0 : ¬ ((j : Int) < 0) := by omega
    simp only [n0, if_false]
    rw [if_pos (by simp; omega), Int.toNat_natCast]
  · have z : ∀ {us : List V} {es : List D} (n : Nat), RepL K G1 us es → RepL K G1 (us.eraseIdx n) (es.eraseIdx n) := by
      intro us es n r
      induction n generalizing us es with
      | zero =>
        cases r with
        | nil => exact .nil
        | cons _ t => exact t
      | succ n ih =>
        cases r with
        | nil => exact .nil
        | cons a t => exact .cons a (ih t)
    exact z j hr

/-! ### more heap, the same state -/
theorem SRel.more {G H H' : Hp} {σ : St} (S : SRel K F G H σ ρ) (e : Ex H H') : SRel K F G H' σ ρ :=
  ⟨⟨S.fr.ex.trans e, S.fr.old, fun a o h np => e a o (S.fr.kp a o h np), fun a o h => by
    obtain ⟨o', q⟩ := S.fr.th a o h
    exact ⟨o', e a o' q⟩⟩, S.len, fun i s o h1 h2 => (S.sl i s o h1 h2).up (Ex.refl G) (fun p h _ => h) (fun p o q _ => e p o q), S.dis, S.own, S.disD, S.ownD⟩
theorem SRel.freezes {G H H' : Hp} {σ : St} (S : SRel K F G H σ ρ) (e : Ex H H') {p : Addr} (hp : G p = none) : ∀ (ts : List Addr), (∀ t ∈ ts, H t = none ∧ t ≠ p ∧ ∃ o, H' t = some o) → ∃ G', SRel K F G' H' σ ρ ∧ Ex G G' ∧ (∀ t ∈ ts, G' t = H' t) ∧ G' p = none
  | [], _ => ⟨G, S.more e, Ex.refl G, fun _ h => (nomatch h), hp⟩
  | t :: ts, h => by
    obtain ⟨G1, S1, e1, h1, p1⟩ := SRel.freezes S e hp ts fun u hu => h u (.tail _ hu)
    obtain ⟨k1, k2, o, k3⟩ := h t (.head _)
    cases c : G1 t with
    | some u =>
      refine ⟨G1, S1, e1, fun v hv => ?_, p1⟩
      cases hv with
      | head => rw [c, S1.ex t u c]
      | tail _ hv => exact h1 v hv
    | none =>
      have S2 := S1.freeze (p := t) (o := o) c k3 (S.fr.fresh k1) (fun i l ds hi hz => by
        obtain ⟨q, vs, z1, _⟩ := S.ow hi
        obtain ⟨_, _, z3⟩ := S.ow hi
        obtain ⟨q', vs', y1, y2, y3, _⟩ := S.ow hi
        rw [hz] at y1
        cases y1
        rw [k1] at y3
        cases y3) (fun i l ds hi hz => by
        obtain ⟨q', vs', y1, y2, y3, _⟩ := S.od hi
        rw [hz] at y1
        cases y1
        rw [k1] at y3
        cases y3)
      refine ⟨upd G1 t o, S2, e1.trans (Ex.new c), fun v hv => ?_, by rw [upd_ne k2.symm]; exact p1⟩
      by_cases hvt : v = t
      · rw [hvt, upd_same, k3]
      · rw [upd_ne hvt]
        cases hv with
        | head => exact absurd rfl hvt
        | tail _ hv => exact h1 v hv
end
/-! ### list(d.items()) -/
def tLi (te : TE) : TE := fun σ H Q => te σ H fun x H1 => rItL x H1 Q
section
open PySem.Spec PyProof.Rows
variable {X : Cx} {e : Expr} {te : TE} {p apos cpos pos : Pos}
theorem pe_itemsL (hc : X.calm = true) (he : PE X e te) (hg : Gl X "list") (hm : X.mg "list" = none) (hv : bootBuiltins "list" = some (.type "list")) (hbase : attributeBase e "items" X.env (eval e X.env) = eval e X.env := by rfl) (hline : (apos.endLine == cpos.line) = true := by rfl)
    (hs : starEach [.Call (.Attribute e "items" apos) [] [] cpos] X.env = (false, eval (.Call (.Attribute e "items" apos) [] [] cpos) X.env) :: starEach [] X.env := by rfl) :
    PE X (.Call (.Name "list" p) [.Call (.Attribute e "items" apos) [] [] cpos] [] pos) (tLi te) := by
  constructor
  intro pins t τ M Q I0 hq
  apply wpAny_Call_Name_kw
  refine ld_blt I0 hg hm hv ?_
  refine PyProof.Rows.callWith_type1 ?_ hs rfl
  rw [hs]
  show wpAny _ _ (spliced ((false, eval (.Call (.Attribute e "items" apos) [] [] cpos) X.env) :: backTo pos (starEach [] X.env))) _ _ t
  apply Calls.spliced_cons
  refine wpAny_Call_method (T := "dict") (id := "dict.items") hbase rfl hline F.plainAttrs_dict F.slot_dict_items F.type_dict_items (thn (he.run pins t τ M _ I0 hq) fun u t1 hh => ?_)
  obtain ⟨x, M1, I1, rx, d, kvs, ex, hd, q⟩ := hh
  subst ex
  obtain rfl : u = Value.ref d := rx
  obtain ⟨hz, y0, vs, kv, dd⟩ := dk_rd I1.hok hd
  obtain ⟨ep, hat⟩ := dd.dictAt
  have lk : kvs.length = vs.length := Paired.length kv
  have I2 : Inv X pins τ M1 { t1 with heap := t1.heap.push ⟨.type "dict_items", none, .fields #[.ref d], #[]⟩ } := I1.kept (t' := t1.toks) fun b ob z => Heap.get?_push_of_some _ z
  refine ⟨dd.typeIs, dd.mapOf.noDict, ?_⟩
  show wpAny _ _ (callWith cpos (.builtin "dict.items") [.ref d] [] []) _ X.xe t1
  refine method_meetsIn F.slot_dict_items F.entry_dict_items rfl (PySem.evalArgs_none ⟨rfl, dd.typeIs, F.args_dict_items_1 _, _, meets_dict_items (mixKind X.prog X.w) d y0, ⟨vs, dd⟩, ?_⟩)
  apply Calls.spliced_nil
  refine PySem.W.kdx_call (knd := mixKind X.prog X.w) (kvs := vs) (ep := ep) (I1.ok.hd hc) ⟨_, Heap.get?_push_size _ rfl, rfl, rfl⟩ (hat.push _) (by omega) fun h' tk acc c as hk hS hl hG hacc => ?_
  obtain ⟨M', k1, k2, k3, k4, k5, k6, J⟩ := LiI.items_laid (tk := tk) I2 hz kv hk hS hl hG hacc
  exact ⟨.ref _, M', J, rfl, q M' _ as k1 k2 k3 k4 k5 k6⟩
end
section
variable {K : PySem.W.Frag} {F : Fr} {ρ : Sls} {P : Sls → D → Prop} {PO : Sls → List D → Prop} {te td ta : TE} {O : Out} {x y : D}
theorem repL_items {G : Hp} {vs : List (Key × V)} {ds : List (Key × D)} {ts : List Addr} (hr : RepK K G vs ds) (hp : Paired (fun (t : Addr) (q : Key × V) => G t = some (.tup [kV q.1, q.2])) ts vs) : RepL K G (ts.map V.ref) (itemsD ds) := by
  induction hp generalizing ds with
  | nil => cases hr; exact .nil
  | cons h t ih =>
    cases hr with
    | cons r rr => exact .cons (.tup (SqT.of h) (.cons (Rep.kD _) (.cons r .nil))) (ih rr)
theorem paired_mem {α β : Type} {R R' : α → β → Prop} {l : List α} {m : List β} (h : Paired R l m) : (∀ a ∈ l, ∀ b, R a b → R' a b) → Paired R' l m := by
  induction h with
  | nil => exact fun _ => .nil
  | cons h t ih => exact fun f => .cons (f _ List.mem_cons_self _ h) (ih fun a ha b => f a (List.mem_cons_of_mem _ ha) b)
theorem paired_left {α β : Type} {R : α → β → Prop} {l : List α} {m : List β} (h : Paired R l m) : ∀ a ∈ l, ∃ b, R a b := by
  induction h with
  | nil => exact fun a ha => (nomatch ha)
  | cons h t ih =>
    intro a ha
    rcases List.mem_cons.mp ha with z | z
    · exact ⟨_, z ▸ h⟩
    · exact ih a z
theorem wO_itemsL (h : wE K F te ρ fun ρ1 x => ∃ ds, x = .dkv ds ∧ PO ρ1 (itemsD ds)) : wO K F (tLi te) ρ PO := fun σ G H S Q q =>
  h σ G H S _ fun v x ρ1 G1 H1 h1 S1 r1 e1 => by
    obtain ⟨ds, rfl, p⟩ := h1
    cases r1 with
    | dkv ha hr =>
      rename_i a o vs
      refine ⟨a, vs, rfl, .inr ⟨o, S1.ex _ _ ha⟩, fun H' l ts k1 k2 k3 k4 k5 k6 => ?_⟩
      obtain ⟨G2, S2, e2, h2, p2⟩ := S1.freezes (H' := H') k1 (S1.fr.freshG k2) ts fun t ht => ⟨k3 t ht, fun z => k4 (z ▸ ht), by
        obtain ⟨b, hb⟩ := paired_left k6 t ht
        exact ⟨_, hb⟩⟩
      refine q l _ _ ρ1 G2 H' p S2 ⟨p2, k5, repL_items (hr.up e2) (paired_mem k6 fun t ht b hb => by rw [h2 t ht]; exact hb), S1.fr.fresh k2, fun i m es hi hz => ?_⟩ (e1.trans e2)
      obtain ⟨q', us, y1, y2, y3, _⟩ := S1.ow hi
      rw [hz] at y1
      cases y1
      rw [k2] at y3
      cases y3
/-! ### dicts compared -/
def SameKD (ds es : List (Key × D)) : Prop := ds.length = es.length ∧ ∀ p ∈ ds, atKD es p.1 = some p.2 ∧ flatD p.2 = true
theorem flatB_valD {d : D} (h : flatD d = true) : flatB (valD d) = true := by cases d <;> first | rfl | cases h
theorem SameKD.v {G G' : Hp} : ∀ {vs ws : List (Key × V)} {ds es : List (Key × D)}, RepK K G vs ds → RepK K G' ws es → SameKD ds es → SameD vs ws := fun {vs ws ds es} r r' ⟨hl, h⟩ => by
  refine ⟨by rw [r.len, r'.len]; exact hl, ?_⟩
  have key : ∀ {us : List (Key × V)} {fs : List (Key × D)}, RepK K G us fs → (∀ p ∈ fs, atKD es p.1 = some p.2 ∧ flatD p.2 = true) → ∀ p ∈ us, valV ws p.1 = some p.2 ∧ flatB p.2 = true := by
    intro us fs ru
    induction us generalizing fs with
    | nil => intro _ p hp; exact (nomatch hp)
    | cons u us ih =>
      intro hf p hp
      cases ru with
      | cons r0 t =>
        cases hp with
        | head =>
          obtain ⟨z1, z2⟩ := hf _ (.head _)
          obtain ⟨v, hv, rv⟩ := r'.atSome z1
          obtain ⟨y1, _⟩ := r0.flat z2
          obtain ⟨y2, _⟩ := rv.flat z2
          refine ⟨?_, ?_⟩
          · rw [hv, y1, y2]
          · rw [y1]
            exact flatB_valD z2
        | tail _ hp => exact ih t (fun q hq => hf q (.tail _ hq)) p hp
  exact key r h
theorem wR_eqDD {ds es : List (Key × D)} (h : SameKD ds es) (p : P ρ (.bl true)) : wR K F rEqDD (.dkv ds) (.dkv es) ρ P := fun σ G H vx vy S rx ry Q q => by
  cases rx with
  | dkv h1 h2 =>
    cases ry with
    | dkv h3 h4 => exact ⟨_, _, _, _, rfl, rfl, .inr ⟨_, S.ex _ _ h1⟩, .inr ⟨_, S.ex _ _ h3⟩, h.v h2 h4, q _ _ ρ G H p S (.bl _) (Ex.refl G)⟩
theorem wR_neDD {ds es : List (Key × D)} (h : SameKD ds es) (p : P ρ (.bl false)) : wR K F rNeDD (.dkv ds) (.dkv es) ρ P := fun σ G H vx vy S rx ry Q q => by
  cases rx with
  | dkv h1 h2 =>
    cases ry with
    | dkv h3 h4 => exact ⟨_, _, _, _, rfl, rfl, .inr ⟨_, S.ex _ _ h1⟩, .inr ⟨_, S.ex _ _ h3⟩, h.v h2 h4, q _ _ ρ G H p S (.bl _) (Ex.refl G)⟩
theorem RepL.dks {G : Hp} : ∀ {vs : List V} {dss : List (List (Key × D))}, RepL K G vs (dss.map D.dkv) → ∃ as : List Addr, vs = as.map V.ref ∧ as.length = dss.length ∧ ∀ (j : Nat) (a : Addr), as[j]? = some a → ∃ o ks ds, dss[j]? = some ds ∧ G a = some (.frz o (.dK ks)) ∧ RepK K G ks ds
  | _, [], h => by cases h; exact ⟨[], rfl, rfl, fun j a z => by simp at z⟩
  | _, ds :: dss, h => by
    cases h with
    | cons r t =>
      obtain ⟨as, e, hl, ha⟩ := RepL.dks t
      cases r with
      | dkv h1 h2 =>
        rename_i a o ks
        refine ⟨a :: as, by rw [e]; rfl, by rw [List.length_cons, List.length_cons, hl], fun j b hb => ?_⟩
        cases j with
        | zero => simp at hb; subst hb; exact ⟨o, ks, ds, rfl, h1, h2⟩
        | succ j => exact ha j b (by simpa using hb)
theorem wR_neLD {dss ess : List (List (Key × D))} (hl : dss.length = ess.length) (h : ∀ (j : Nat) (ds es : List (Key × D)), dss[j]? = some ds → ess[j]? = some es → SameKD ds es) (p : P ρ (.bl false)) : wR K F (rNeLD K) (.lst (dss.map D.dkv)) (.lst (ess.map D.dkv)) ρ P := fun σ G H vx vy S rx ry Q q => by
  cases rx with
  | lst h1 h2 =>
    cases ry with
    | lst h3 h4 =>
      obtain ⟨as, rfl, la, ha⟩ := h2.dks
      obtain ⟨bs, rfl, lb, hb⟩ := h4.dks
      refine ⟨_, _, as, bs, rfl, rfl, SqL.of (S.ex _ _ h1), SqL.of (S.ex _ _ h3), by omega, fun j a b ja jb => ?_, q _ _ ρ G H p S (.bl _) (Ex.refl G)⟩
      obtain ⟨o1, ks, ds, z1, z2, z3⟩ := ha j a ja
      obtain ⟨o2, ls, es, y1, y2, y3⟩ := hb j b jb
      exact ⟨ks, ls, .inr ⟨o1, S.ex _ _ z2⟩, .inr ⟨o2, S.ex _ _ y2⟩, (h j ds es z1 y1).v z3 y3⟩
/-! ### try -/
def tTryC (K : PySem.W.Frag) (l : List Cl) (tl : TS) (tb : WX → TS) : TS := fun E τ M => tb (wCls K (fun _ _ _ _ => False) E l) { E with nx := tl E } τ M
theorem ps_tryK {X : Cx} {body els : List Stmt} {hd : ExceptHandler} {hds : List ExceptHandler} {l : List Cl} {pos : Pos} {tb : WX → TS} {tl : TS} (e1 : X.stack = X.env :: X.outer) (e2 : X.env.frame = some X.env.locals) (hN : X.N.Nodup)
    (hb : ∀ (W : WX) (pn : List (Addr × Obj)) (xe : Value → Shared → Prop), Takes (X.tr pn xe) W → PassesOwn (model X.prog X.w) X.A X.env xe → PSs (X.tr pn xe) body (tb W))
    (hh : ClsOk X (hd :: hds) l) (ho : PSs X els tl) : PS X (.Try body (hd :: hds) els [] pos) (tTryC X.K l tl tb) :=
  ps_tryC e1 e2 hN (fun _ _ z => (xe_no z).elim) hb hh ho
def HandOk (K : PySem.W.Frag) (F : Fr) (O : Out) (C : Addr) (fs : List (Str × D)) (ρ : Sls) : List Cl → Prop
  | [] => False
  | (c, oi, ts) :: r => ∃ b, PySem.W.exmOne K (.ref C) c = some b ∧ (b = false → HandOk K F O C fs ρ r) ∧ (b = true → match oi with
      | none => ∀ a d, wS K F (ts a (.ref C) (some d)) ρ O
      | some i => i < ρ.length ∧ ∀ a d, wS K F (ts a (.ref C) (some d)) (ρ.set i (.fz (.exc a d C fs))) { nx := fun ρ2 => O.nx (ρ2.set i .un), rt := O.rt, ro := O.ro, bk := fun ρ2 => O.bk (ρ2.set i .un), ct := fun ρ2 => O.ct (ρ2.set i .un) })
theorem wS_try {l : List Cl} {tl : TS} {tb : WX → TS} (h : wX K F tb ρ { O with nx := fun ρ1 => wS K F tl ρ1 O } fun ρ' C fs => HandOk K F O C fs ρ' l) : wS K F (tTryC K l tl tb) ρ O := fun σ G H S D1 k =>
  h σ G H S { D1 with nx := tl D1 } ⟨fun ρ1 σ1 G1 H1 h1 S1 e1 => h1 σ1 G1 H1 S1 D1 (k.from e1), k.rt, k.ro, k.bk, k.ct⟩ _ fun ρ' C fs σ' G' H' d fvs hX S' ex hd rf n1 n2 => by
    have go : ∀ l' : List Cl, HandOk K F O C fs ρ' l' → wCls K (fun _ _ _ _ => False) D1 l' (.ref C) (some d) σ' H' := by
      intro l'
      induction l' with
      | nil => intro z; exact z.elim
      | cons x r ih =>
        obtain ⟨c, oi, ts⟩ := x
        intro z
        obtain ⟨b, z1, z2, z3⟩ := z
        refine ⟨b, z1, fun hb => ih (z2 hb), fun hb a ha => ?_⟩
        have z4 := z3 hb
        cases oi with
        | none => exact z4 a d σ' G' H' S' D1 (k.from ex)
        | some i =>
          obtain ⟨hi, z5⟩ := z4
          have hno : ∀ (i : Nat) (l : Kd) (ds : List D), ρ'[i]? = some (.ow l ds) → σ'[i]? ≠ some (some (.ref d)) := fun i l ds hi hz => by
            obtain ⟨q', us, y1, y2, y3, _⟩ := S'.ow hi
            rw [hz] at y1
            cases y1
            rw [hd] at y3
            cases y3
          have S2 := S'.freeze n2 hd n1 hno (S'.nd fun vs z => by rw [hd] at z; cases z)
          have e2 : Ex G' (upd G' d (.xd fvs)) := Ex.new n2
          have S3 := S2.set (i := i) (v := .ref a) (d := .exc a d C fs) (.exc upd_same (rf.up e2))
          have e3 := ex.trans e2
          refine z5 a d _ _ H' S3 (EndsU D1 i) ⟨fun ρ2 σ2 G3 H3 h3 S4 e4 => ?_, fun ρ2 σ2 G3 H3 v x h3 S4 e4 rr => k.rt ρ2 σ2 G3 H3 v x h3 S4 (e3.trans e4) rr, fun ρ2 σ2 G3 H3 p vs ds h3 S4 e4 => k.ro ρ2 σ2 G3 H3 p vs ds h3 S4 (e3.trans e4), fun ρ2 σ2 G3 H3 h3 S4 e4 => ?_, fun ρ2 σ2 G3 H3 h3 S4 e4 => ?_⟩
          · exact k.nx _ _ G3 H3 h3 (S4.wipe1 i none) (e3.trans e4)
          · exact k.bk _ _ G3 H3 h3 (S4.wipe1 i none) (e3.trans e4)
          · exact k.ct _ _ G3 H3 h3 (S4.wipe1 i none) (e3.trans e4)
    exact go l hX
/-- e.f of what was caught -/
theorem wE_xf {i : Nat} {a d C : Addr} {f : Str} {fs : List (Str × D)} (h : ρ[i]? = some (.fz (.exc a d C fs))) (hl : fs.lookup f = some x) (p : P ρ x) : wE K F (tXf a (.ref C) (some d) C f (tVar i)) ρ P := fun σ G H S Q q => by
  obtain ⟨v, e, r⟩ := S.fz h
  cases r with
  | exc h1 h2 =>
    obtain ⟨u, hu, ru⟩ := h2.look hl
    exact ⟨.ref a, e, rfl, rfl, d, _, u, rfl, S.ex _ _ h1, hu, q u x ρ G H p S ru (Ex.refl G)⟩
theorem wC_isX {a d C B : Addr} {fs : List (Str × D)} {b : Bool} (T : XiC K C) (hb : PySem.W.kitOne K (.ref C) (.ref B) = some b) (p : P ρ (.bl b)) : wC K F (rIsX K a (.ref C) (some d)) [.exc a d C fs, .adr B] ρ P := fun σ G H vs S rs Q q => by
  cases rs with
  | cons r1 rr =>
    cases rr with
    | cons r2 rr =>
      cases rr
      cases r2
      cases r1 with
      | exc h1 h2 => exact ⟨.ref B, .ref B, C, d, _, b, rfl, .own B, rfl, rfl, S.ex _ _ h1, T, hb, q _ _ ρ G H p S (.bl _) (Ex.refl G)⟩
end
end DL
namespace DL
open PySem L2
open Evl (Ex)
/-! ### enumerate -/
section
variable {K : PySem.W.Frag} {F : Fr} {ρ : Sls} {ta : TA} {O : Out} {g : TG} {tb : TS}
def enumD (ds : List D) : List D := ds.mapIdx fun i d => .tup [.int (i : Nat), d]
theorem walks_enum {G : Hp} {a : Addr} {vs : List V} {ds : List D} (ha : G a = some (.lst vs)) (hr : RepL K G vs ds) : Walks K (Ite K a) G (enumD ds) := by
  have hl : (enumD ds).length = vs.length := by unfold enumD; rw [List.length_mapIdx, hr.length]
  refine ⟨fun G' H e e' => ⟨vs, SqL.of (e' _ _ (e _ _ ha)), by rw [hl]; exact Nat.le_refl _⟩, fun i G' H e e' h => ?_, fun i d x F σ ρ G' H H' hd S e h => ?_⟩
  · have hlt : i < vs.length := by rw [← hl]; exact h
    exact ⟨vs, vs[i], SqL.of (e' _ _ (e _ _ ha)), List.getElem?_eq_getElem hlt⟩
  · obtain ⟨T, u, rfl, hT, rfl, hu⟩ := h
    have hx := hu vs (SqL.of (S.ex _ _ (e _ _ ha)))
    obtain ⟨d', hd', rd⟩ := hr.getV hx
    have e2 : d = .tup [.int (i : Nat), d'] := by
      unfold enumD at hd
      rw [List.getElem?_mapIdx, hd'] at hd
      exact (Option.some.inj hd).symm
    subst e2
    have ex : Ex G' (upd G' T (.tup [.int (i : Nat), u])) := Ex.new (S.fr.freshG hT)
    exact ⟨_, S.new hT, ex, .tup (SqT.of upd_same) (.cons (.int _) (.cons (rd.up (e.trans ex)) .nil))⟩
theorem wS_forEnum (h : wA K F ta ρ fun ρ1 xs => ∃ ds, xs = [.lst ds] ∧ forS K F g tb O (enumD ds) ρ1) : wS K F (tFor (iEnum K ta) g tb) ρ O := fun σ G H S D1 k =>
  h σ G H S _ fun us xs ρ1 G1 H1 h1 S1 r1 e1 => by
    obtain ⟨ds, rfl, f⟩ := h1
    cases r1 with
    | cons r rr =>
      cases rr
      cases r with
      | lst ha hr =>
        rename_i a vs
        exact ⟨a, vs, rfl, SqL.of (S1.ex _ _ ha), for_walk k e1 (walks_enum ha hr) S1 f⟩
end
end DL
namespace DL
open PySem L2
open Evl (Ex)
section
variable {K : PySem.W.Frag} {F : Fr} {ρ : Sls} {P : Sls → D → Prop}
theorem wE_lenO {i : Nat} {l : Kd} {ds : List D} (h : ρ[i]? = some (.ow l ds)) (p : P ρ (.int (ds.length : Nat))) : wE K F (tCB (fun xs H Q => ∃ x n, xs = [x] ∧ LenV K x H n ∧ Q (.int n) H) (tCons (tVar i) tNil)) ρ P := fun σ G H S Q q => by
  obtain ⟨a, vs, e, hg, hh, hr⟩ := S.ow h
  refine ⟨.ref a, e, .ref a, ds.length, rfl, .inl ⟨_, SqL.of hh, hr.length.symm⟩, q _ _ ρ G H p S (.int _) (Ex.refl G)⟩
/-- a short text some few times -/
theorem wR_repFew {z : Str} {k : Int} (h0 : 0 ≤ k) (h1 : k ≤ 3) (hz : z.length = 1) (p : ∀ u : Str, u.length ≤ 3 → ((∀ c ∈ u.cps.toList, c ∈ z.cps.toList)) → P ρ (.str u)) : wR K F rRep1 (.str z) (.int k) ρ P := by
  by_cases hk : k = 0 ∨ k = 1
  · refine wR_rep1 hk ?_
    rcases hk with rfl | rfl
    · exact p _ (by show (Str.empty).length ≤ 3; decide) fun c hc => by
        have e : (if (0 : Int) = 1 then z else Str.empty) = Str.empty := rfl
        rw [e] at hc
        exact absurd hc (by show ¬ c ∈ (Str.empty).cps.toList; simp [Str.empty])
    · exact p z (by omega) fun c hc => hc
  · intro σ G H vx vy S rx ry Q q
    have h2 : 2 ≤ k := by omega
    have hc : (repS z k.toNat).length ≤ 3 ∧ ∀ c ∈ (repS z k.toNat).cps.toList, c ∈ z.cps.toList := by
      have : k = 2 ∨ k = 3 := by omega
      have hzs : z.cps.size = 1 := hz
      rcases this with rfl | rfl
      · have e : (repS z (2 : Int).toNat).cps = (#[] ++ z.cps) ++ z.cps := rfl
        refine ⟨?_, fun c hc => ?_⟩
        · show (repS z (2 : Int).toNat).cps.size ≤ 3
          rw [e]; simp [hzs]
        · rw [e] at hc; simpa using hc
      · have e : (repS z (3 : Int).toNat).cps = ((#[] ++ z.cps) ++ z.cps) ++ z.cps := rfl
        refine ⟨?_, fun c hc => ?_⟩
        · show (repS z (3 : Int).toNat).cps.size ≤ 3
          rw [e]; simp [hzs]
        · rw [e] at hc; simpa using hc
    have := wR_repS (K := K) (F := F) (ρ := ρ) (P := P) (z := z) (k := k) h2 (by omega) (by omega) (by rw [hz]; omega) (by omega) (p _ hc.1 hc.2)
    exact .inl (this σ G H vx vy S rx ry Q q)
end
end DL
namespace K59
open PySem L2 DL
open Evl (Ex)
abbrev N_named_row : List Str := ["row", "names", "found", "name", "thing", "other"]
theorem sc_named_row : FnScope N_named_row ["row", "names"] (defScope s_named_row) := ⟨rfl, rfl, rfl, by decide +kernel, rfl, by decide +kernel, by decide +kernel⟩
abbrev N_named_clock : List Str := ["clock", "names", "name"]
theorem sc_named_clock : FnScope N_named_clock ["clock", "names"] (defScope s_named_clock) := ⟨rfl, rfl, rfl, by decide +kernel, rfl, by decide +kernel, by decide +kernel⟩
abbrev N__law_cell_at : List Str := ["script", "k"]
theorem sc__law_cell_at : FnScope N__law_cell_at ["script", "k"] (defScope s__law_cell_at) := ⟨rfl, rfl, rfl, by decide +kernel, rfl, by decide +kernel, by decide +kernel⟩
abbrev N__law_box : List Str := ["cell"]
theorem sc__law_box : FnScope N__law_box ["cell"] (defScope s__law_box) := ⟨rfl, rfl, rfl, by decide +kernel, rfl, by decide +kernel, by decide +kernel⟩
abbrev N__law_take : List Str := ["box", "many", "number"]
theorem sc__law_take : FnScope N__law_take ["box", "many"] (defScope s__law_take) := ⟨rfl, rfl, rfl, by decide +kernel, rfl, by decide +kernel, by decide +kernel⟩
abbrev N__law_mixed : List Str := ["box", "some", "left", "found"]
theorem sc__law_mixed : FnScope N__law_mixed ["box", "some"] (defScope s__law_mixed) := ⟨rfl, rfl, rfl, by decide +kernel, rfl, by decide +kernel, by decide +kernel⟩
abbrev N__law_names : List Str := ["box", "many", "letters", "tail", "k", "shift", "way", "words", "found", "at", "signs", "name"]
theorem sc__law_names : FnScope N__law_names ["box", "many"] (defScope s__law_names) := ⟨rfl, rfl, rfl, by decide +kernel, rfl, by decide +kernel, by decide +kernel⟩
abbrev N__law_pairs : List Str := ["box", "names", "way", "found", "mingled", "fresh", "k", "name"]
theorem sc__law_pairs : FnScope N__law_pairs ["box", "names"] (defScope s__law_pairs) := ⟨rfl, rfl, rfl, by decide +kernel, rfl, by decide +kernel, by decide +kernel⟩
abbrev N__law_answer : List Str := ["row", "names", "found", "e"]
theorem sc__law_answer : FnScope N__law_answer ["row", "names"] (defScope s__law_answer) := ⟨rfl, rfl, rfl, by decide +kernel, rfl, by decide +kernel, by decide +kernel⟩
abbrev N__law_due : List Str := ["row", "names", "fresh", "name", "k"]
theorem sc__law_due : FnScope N__law_due ["row", "names"] (defScope s__law_due) := ⟨rfl, rfl, rfl, by decide +kernel, rfl, by decide +kernel, by decide +kernel⟩
abbrev N_law : List Str := ["script", "k", "box", "names", "pairs", "row", "name", "handed", "clock", "found"]
theorem sc_law : FnScope N_law ["script"] (defScope s_law) := ⟨rfl, rfl, rfl, by decide +kernel, rfl, by decide +kernel, by decide +kernel⟩
/-- a field of the thing in a slot is read -/
theorem wE_fd {K : PySem.W.Frag} {F : Fr} {ρ : Sls} {P : Sls → D → Prop} {i : Nat} {f : Str} {C : Addr} {fs : List (Str × D)} {ns : List Str} {d : D} (o : OC K C ns) (h : ρ[i]? = some (.fz (.obj C fs))) (hf : f ∈ ns) (hl : fs.lookup f = some d) (p : P ρ d) : wE K F (tFld K (tVar i) f) ρ P :=
  wE_fld (wE_var h ⟨C, fs, ns, d, rfl, o, hf, hl, p⟩)
theorem wR_neStr {K : PySem.W.Frag} {F : Fr} {ρ : Sls} {P : Sls → D → Prop} {a b : Str} (p : P ρ (.bl (!decide (V.str a = V.str b)))) : wR K F rNe (.str a) (.str b) ρ P := fun σ G H vx vy S rx ry Q q => by
  cases rx
  cases ry
  exact ⟨rfl, q _ _ ρ G H p S (.bl _) (Ex.refl G)⟩
abbrev N_BeatError_init : List Str := ["self", "text"]
theorem sc_BeatError_init : FnScope N_BeatError_init ["self", "text"] (defScope s_BeatError_init) := ⟨rfl, rfl, rfl, by decide +kernel, rfl, by decide +kernel, by decide +kernel⟩
abbrev N_Twice_init : List Str := ["self", "name"]
theorem sc_Twice_init : FnScope N_Twice_init ["self", "name"] (defScope s_Twice_init) := ⟨rfl, rfl, rfl, by decide +kernel, rfl, by decide +kernel, by decide +kernel⟩
section
variable {P : Program} {w : World} {K : PySem.W.Frag} {mg : Str → Option Value} {base : Heap}
theorem ok_BeatError_init {f : Addr} {fd : FuncData} (F : L2.Fun K "__init__" "BeatError.__init__" s_BeatError_init f fd) (m_VE : mg "ValueError" = none) (vV : PySem.W.findCls K (.type "ValueError") (.type "type") "__init__" = some (.val (.builtin "ValueError.__init__"))) : FnOk P w K mg base L2.CX0 1 f fd ["self", "text"] (spBE K) := by
  refine F.ok sc_BeatError_init (fun vs H Q E h => by obtain ⟨a, C, z, rfl, _⟩ := h; rfl) (fun cdv A outer s H vs Q E hr h => ⟨_, pss_one (ps_expr (pe_veinit (by rfl) m_VE vV (pa_cons (pv 0) (pa_cons (pv 1) pa_nil)))), ?_⟩)
  try dsimp only [cxOf]
  obtain ⟨a, C, z, rfl, T, e, q⟩ := h
  exact ⟨_, rfl, _, rfl, a, C, [z], rfl, by show 1 ≤ 1000; decide, T, e, q⟩
theorem ok_Twice_init {C fB f : Addr} {fd fdB : FuncData} (F : L2.Fun K "__init__" "Twice.__init__" s_Twice_init f fd) {CB : Addr} (cB : CFn K CB "__init__" fB) (FB : FnOk P w K mg base L2.CX0 1 fB fdB ["self", "text"] (spBE K)) (g_BeatError : mg "BeatError" = some (.ref CB)) (bB : Binds K fdB ["self", "text"] [])
    (T : OexC K C) (hno : PySem.W.findIn K (.ref C) "name" = some none) : FnOk P w K mg base L2.CX0 2 f fd ["self", "name"] (spNX K C "name") := by
  refine F.ok sc_Twice_init (fun vs H Q E h => by obtain ⟨a, v, rfl, _⟩ := h; rfl) (fun cdv A outer s H vs Q E hr h => ⟨_, pss_cons (ps_expr (DL.pe_cfn cB FB hr (by omega) (by rfl) g_BeatError bB (pa_cons (pv 0) (pa_cons pe_str pa_nil)))) (pss_one (ps_ost (pv 0) (pv 1))), ?_⟩)
  try dsimp only [cxOf]
  obtain ⟨a, v, rfl, e, q⟩ := h
  refine ⟨_, rfl, a, C, _, rfl, T, e, ?_⟩
  refine ⟨_, rfl, _, rfl, a, C, rfl, T, hno, .inl ⟨e, fun dx h1 h2 => ?_⟩⟩
  exact q dx h1 h2
end
/-- a list of three numbers from which things are drawn -/
def Box (ds : List D) : Prop := ∃ a b c : Int, ds = [.int a, .int b, .int c] ∧ 0 ≤ a ∧ 0 ≤ b
abbrev W__law_take : W1 := fun ds es Φ _ => ∃ m : Int, es = [.int m] ∧ Box ds ∧ 0 < m ∧ m < 1073741824 ∧ ∀ (ds' : List D) (r : Int), Box ds' → 0 ≤ r → r < m → Φ ds' (.fz (.int r))
abbrev W__law_box : W0 := fun ds Φ _ => ∃ c : Int, ds = [.int c] ∧ ∀ ds', Box ds' → Φ (.ow ds')
abbrev W__law_cell_at : W0 := fun ds Φ _ => ∃ (ns : List Int) (k : Int), ds = [.scr ns, .int k] ∧ 0 ≤ k ∧ ∀ n : Int, Φ (.fz (.int n))
structure E59 where
  tw : Addr
  be : Addr
/-- a short text of signs -/
def Nm (s : Str) : Prop := s.length ≤ 40 ∧ okS s
def Nms (ss : List Str) : Prop := ∀ s ∈ ss, Nm s
/-- what stands in a row -/
def VOk (d : D) : Prop := d = .non ∨ (∃ b, d = .bl b) ∨ ∃ i : Int, d = .int i ∧ -1000000000 ≤ i ∧ i ≤ 1000000000
theorem VOk.flat {d : D} (h : VOk d) : flatD d = true := by
  rcases h with rfl | ⟨b, rfl⟩ | ⟨i, rfl, _⟩ <;> rfl
abbrev KV : Type := List (Str × D)
def kvs (l : KV) : List (Key × D) := l.map fun p => (.inr p.1, p.2)
structure RowOk (l : KV) : Prop where
  n : l.length ≤ 12
  nm : ∀ p ∈ l, Nm p.1 ∧ VOk p.2
  nd : (l.map (·.1)).Nodup
structure PairsOk (l : KV) : Prop where
  n : l.length ≤ 100
  nm : ∀ p ∈ l, Nm p.1 ∧ ∃ v, p.2 = .str v ∧ Nm v
  nd : (l.map (·.1)).Nodup
theorem at_kvs (l : KV) (s : Str) : atKD (kvs l) (.inr s) = (l.find? fun p => decide (p.1 = s)).map (·.2) := by
  unfold atKD kvs
  induction l with
  | nil => rfl
  | cons p r ih =>
    rw [List.map_cons, List.find?_cons, List.find?_cons]
    by_cases h : p.1 = s
    · have h1 : decide ((Sum.inr p.1 : Key) = .inr s) = true := by simp [h]
      have h2 : decide (p.1 = s) = true := by simp [h]
      rw [h1, h2] <;> rfl
    · have h1 : decide ((Sum.inr p.1 : Key) = .inr s) = false := by simp [h]
      have h2 : decide (p.1 = s) = false := by simp [h]
      rw [h1, h2]
      exact ih
def putL (l : KV) (s : Str) (d : D) : KV := if (l.any fun p => decide (p.1 = s)) = true then l.map (fun p => if p.1 = s then (p.1, d) else p) else l ++ [(s, d)]
theorem put_kvs (l : KV) (s : Str) (d : D) : putKD (kvs l) (.inr s) d = kvs (putL l s d) := by
  have ha : ((kvs l).any fun kv => decide (kv.1 = .inr s)) = l.any fun p => decide (p.1 = s) := by
    unfold kvs
    rw [List.any_map]
    congr 1
    funext p
    simp
  unfold putKD putL
  rw [ha]
  split
  · unfold kvs
    rw [List.map_map, List.map_map]
    apply List.map_congr_left
    intro p _
    by_cases h : p.1 = s <;> simp [h]
  · unfold kvs
    rw [List.map_append]
    rfl
theorem putL_len (l : KV) (s : Str) (d : D) : (putL l s d).length ≤ l.length + 1 := by
  unfold putL
  split
  · rw [List.length_map]; omega
  · rw [List.length_append, List.length_singleton]; omega
theorem putL_keys (l : KV) (s : Str) (d : D) : ((putL l s d).map (·.1)) = if (l.any fun p => decide (p.1 = s)) = true then l.map (·.1) else l.map (·.1) ++ [s] := by
  unfold putL
  split
  · rw [List.map_map]
    apply List.map_congr_left
    intro p _
    by_cases h : p.1 = s <;> simp [h]
  · rw [List.map_append]; rfl
theorem any_mem {l : KV} {s : Str} : (l.any fun p => decide (p.1 = s)) = true ↔ s ∈ l.map (·.1) := by
  rw [List.any_eq_true]
  simp only [decide_eq_true_eq, List.mem_map]
theorem putL_nd {l : KV} {s : Str} {d : D} (h : (l.map (·.1)).Nodup) : ((putL l s d).map (·.1)).Nodup := by
  rw [putL_keys]
  split
  · exact h
  · rename_i hn
    exact List.nodup_append.mpr ⟨h, by simp, fun a ha b hb => by
      rw [List.mem_singleton] at hb
      subst hb
      intro z
      subst z
      exact hn (any_mem.mpr ha)⟩
theorem putL_mem {l : KV} {s : Str} {d : D} {p : Str × D} (h : p ∈ putL l s d) : p ∈ l ∨ p = (s, d) := by
  unfold putL at h
  split at h
  · obtain ⟨q, hq, rfl⟩ := List.mem_map.mp h
    by_cases e : q.1 = s
    · rw [if_pos e, e]; exact .inr rfl
    · rw [if_neg e]; exact .inl hq
  · rcases List.mem_append.mp h with z | z
    · exact .inl z
    · exact .inr (List.mem_singleton.mp z)
theorem putL_new {l : KV} {s : Str} (d : D) (h : s ∉ l.map (·.1)) : putL l s d = l ++ [(s, d)] := by
  unfold putL
  rw [if_neg (fun z => h (any_mem.mp z))]
theorem find_nd : ∀ {l : KV}, (l.map (·.1)).Nodup → ∀ p ∈ l, (l.find? fun q => decide (q.1 = p.1)) = some p
  | [], _, p, hp => by cases hp
  | q :: r, h, p, hp => by
    rw [List.map_cons, List.nodup_cons] at h
    rw [List.find?_cons]
    rcases List.mem_cons.mp hp with rfl | hp
    · simp
    · have ne : ¬ q.1 = p.1 := fun z => h.1 (by rw [z]; exact List.mem_map.mpr ⟨p, hp, rfl⟩)
      rw [show decide (q.1 = p.1) = false from decide_eq_false ne]
      exact find_nd h.2 p hp
theorem same_kvs {l : KV} (h : (l.map (·.1)).Nodup) (hf : ∀ p ∈ l, flatD p.2 = true) : SameKD (kvs l) (kvs l) := by
  refine ⟨rfl, fun p hp => ?_⟩
  obtain ⟨q, hq, rfl⟩ := List.mem_map.mp hp
  refine ⟨?_, hf q hq⟩
  show atKD (kvs l) (.inr q.1) = some q.2
  rw [at_kvs, find_nd h q hq]
  rfl
/-- a name by the other names -/
def ren (ps : KV) (s : Str) : Str := match ((ps.find? fun p => decide (p.1 = s)).map (fun p : Str × D => p.2) : Option D) with
  | some (.str z) => z
  | _ => s
theorem ren_at {ps : KV} (h : PairsOk ps) (s : Str) : (atKD (kvs ps) (.inr s)).getD (.str s) = .str (ren ps s) := by
  rw [at_kvs]
  unfold ren
  cases e : ps.find? fun p => decide (p.1 = s) with
  | none => rfl
  | some p =>
    obtain ⟨_, v, hv, _⟩ := h.nm p (List.mem_of_find?_eq_some e)
    show p.2 = .str (match (some p.2 : Option D) with | some (.str z) => z | _ => s)
    rw [hv]
theorem ren_nm {ps : KV} (h : PairsOk ps) {s : Str} (hs : Nm s) : Nm (ren ps s) := by
  unfold ren
  cases e : ps.find? fun p => decide (p.1 = s) with
  | none => exact hs
  | some p =>
    obtain ⟨_, v, hv, hn⟩ := h.nm p (List.mem_of_find?_eq_some e)
    show Nm (match (some p.2 : Option D) with | some (.str z) => z | _ => s)
    rw [hv]
    exact hn
/-- the first of the texts that one ahead is, too -/
def dup : List Str → List Str → Option Str
  | _, [] => none
  | seen, x :: r => if x ∈ seen then some x else dup (seen ++ [x]) r
def fresh (row ps : KV) : List Str := row.map fun p => ren ps p.1
def renRow (row ps : KV) : KV := row.map fun p => (ren ps p.1, p.2)
def ans (row ps : KV) : D := match dup [] (fresh row ps) with
  | some s => .tup [.str "twice", .str s, .bl true]
  | none => .tup [.str "told", .lst ((renRow row ps).map fun p => .tup [.str p.1, p.2]), .bl true]
abbrev W_named_row (e : E59) : W0 := fun ds Φ X => ∃ row ps, ds = [.dkv (kvs row), .dkv (kvs ps)] ∧ RowOk row ∧ PairsOk ps ∧ (∀ s, dup [] (fresh row ps) = some s → X e.tw [("name", .str s)]) ∧ (dup [] (fresh row ps) = none → Φ (.fz (.dkv (kvs (renRow row ps)))))
abbrev W_named_clock : W0 := fun ds Φ _ => ∃ (ss : List Str) (ps : KV), ds = [.tup (ss.map D.str), .dkv (kvs ps)] ∧ ss.length ≤ 100 ∧ PairsOk ps ∧ Φ (.fz (.tup (ss.map fun s => D.str (ren ps s))))
abbrev W__law_mixed : W1 := fun ds es Φ _ => ∃ ss : List Str, es = [.lst (ss.map D.str)] ∧ Box ds ∧ ss.length ≤ 100 ∧ Nms ss ∧ ∀ (ds' : List D) (ss' : List Str), Box ds' → ss'.length = ss.length → (∀ s ∈ ss', s ∈ ss) → Φ ds' (.fz (.lst (ss'.map D.str)))
abbrev W__law_names : W1 := fun ds es Φ _ => ∃ m : Int, es = [.int m] ∧ Box ds ∧ 1 ≤ m ∧ m ≤ 52 ∧ ∀ (ds' : List D) (ss : List Str), Box ds' → (ss.length : Int) = m → Nms ss → Φ ds' (.fz (.lst (ss.map D.str)))
abbrev W__law_pairs : W1 := fun ds es Φ _ => ∃ ss : List Str, es = [.lst (ss.map D.str)] ∧ Box ds ∧ ss.length ≤ 12 ∧ Nms ss ∧ ∀ (ds' : List D) (ps : KV), Box ds' → PairsOk ps → Φ ds' (.fz (.dkv (kvs ps)))
abbrev W__law_answer : W0 := fun ds Φ _ => ∃ row ps, ds = [.dkv (kvs row), .dkv (kvs ps)] ∧ RowOk row ∧ PairsOk ps ∧ Φ (.fz (ans row ps))
abbrev W__law_due : W0 := fun ds Φ _ => ∃ row ps, ds = [.dkv (kvs row), .dkv (kvs ps)] ∧ RowOk row ∧ PairsOk ps ∧ Φ (.fz (ans row ps))
abbrev W_law : W0 := WLaw
theorem keysD_kvs (l : KV) : keysD (kvs l) = l.map fun p => D.str p.1 := by
  unfold keysD kvs
  rw [List.map_map]
  rfl
theorem itemsD_kvs (l : KV) : itemsD (kvs l) = l.map fun p => .tup [.str p.1, p.2] := by
  unfold itemsD kvs
  rw [List.map_map]
  rfl
theorem kvs_len (l : KV) : (kvs l).length = l.length := List.length_map ..
theorem dup_snoc (x : Str) : ∀ (l seen : List Str), dup seen (l ++ [x]) = match dup seen l with
    | some s => some s
    | none => if x ∈ seen ++ l then some x else none
  | [], seen => by
    simp only [List.nil_append, List.append_nil, dup]
  | y :: r, seen => by
    rw [List.cons_append]
    simp only [dup]
    by_cases h : y ∈ seen
    · rw [if_pos h, if_pos h]
    · rw [if_neg h, if_neg h, dup_snoc x r (seen ++ [y])]
      have e : seen ++ [y] ++ r = seen ++ y :: r := by simp
      rw [e]
theorem dup_app {s : Str} (m : List Str) : ∀ (l seen : List Str), dup seen l = some s → dup seen (l ++ m) = some s
  | [], seen, h => by simp [dup] at h
  | y :: r, seen, h => by
    rw [List.cons_append]
    simp only [dup] at h ⊢
    by_cases z : y ∈ seen
    · rw [if_pos z] at h ⊢; exact h
    · rw [if_neg z] at h ⊢; exact dup_app m r _ h
theorem dup_take {l : List Str} {i : Nat} {s : Str} (h : dup [] (l.take i) = some s) : dup [] l = some s := by
  have := dup_app (l.drop i) _ _ h
  rwa [List.take_append_drop] at this
theorem dup_step {l : List Str} {i : Nat} {x : Str} (hx : l[i]? = some x) (h : dup [] (l.take i) = none) : dup [] (l.take (i + 1)) = if x ∈ l.take i then some x else none := by
  rw [List.take_add_one, hx]
  show dup [] (l.take i ++ [x]) = _
  rw [dup_snoc, h, List.nil_append]
theorem at_isSome (l : KV) (s : Str) : (atKD (kvs l) (.inr s)).isSome = decide (s ∈ l.map (·.1)) := by
  rw [at_kvs, Option.isSome_map]
  by_cases h : s ∈ l.map (·.1)
  · rw [decide_eq_true h, List.find?_isSome]
    exact List.any_eq_true.mp (any_mem.mpr h)
  · rw [decide_eq_false h]
    cases e : l.find? fun p => decide (p.1 = s) with
    | none => rfl
    | some p =>
      have h1 : p.1 = s := of_decide_eq_true (List.find?_some (p := fun p : Str × D => decide (p.1 = s)) e)
      have h2 : p.1 ∈ l.map (·.1) := List.mem_map.mpr ⟨p, List.mem_of_find?_eq_some e, rfl⟩
      rw [h1] at h2
      exact absurd h2 h
theorem fresh_take (row ps : KV) (i : Nat) : fresh (row.take i) ps = (fresh row ps).take i := by
  unfold fresh
  rw [List.map_take]
theorem ren_keys (row ps : KV) : (renRow row ps).map (·.1) = fresh row ps := by
  unfold renRow fresh
  rw [List.map_map]
  rfl
theorem renRow_step {row ps : KV} {i : Nat} {p : Str × D} (h : row[i]? = some p) : renRow (row.take (i + 1)) ps = renRow (row.take i) ps ++ [(ren ps p.1, p.2)] := by
  unfold renRow
  rw [List.take_add_one, h, List.map_append]
  rfl
theorem fresh_at {row ps : KV} {i : Nat} {p : Str × D} (h : row[i]? = some p) : (fresh row ps)[i]? = some (ren ps p.1) := by
  unfold fresh
  rw [List.getElem?_map, h]
  rfl
theorem eqi' (a b : Int) : PyData.eqv (.int a) (.int b) = (a == b) := by simp [PyData.eqv]
theorem Nm.of {s : Str} (h : s.length ≤ 40) (h2 : okS s) : Nm s := ⟨h, h2⟩
theorem ok_of_mem {u z : Str} (hz : okS z) (h : ∀ c ∈ u.cps.toList, c ∈ z.cps.toList) : okS u := fun c hc => hz c (h c hc)
theorem ok_sg (c : Nat) {z : Str} (hz : okS z) (h : c ∈ z.cps.toList) : okS ⟨#[c]⟩ ∧ (⟨#[c]⟩ : Str).length = 1 := ⟨okS_sg hz h, rfl⟩
theorem okL : okS (Str.ofString "abcdefghijklmnopqrstuvwxyz") := okS_of (by decide +kernel)
theorem okQ : okS (Str.ofString "q") := okS_of (by decide +kernel)
theorem map_erase {α β : Type} (f : α → β) : ∀ (l : List α) (n : Nat), (l.map f).eraseIdx n = (l.eraseIdx n).map f
  | [], _ => rfl
  | _ :: _, 0 => rfl
  | a :: r, n + 1 => congrArg (f a :: ·) (map_erase f r n)
theorem sum_ones : ∀ ss : List Str, (∀ s ∈ ss, s.length = 1) → (ss.map (·.length)).sum = ss.length
  | [], _ => rfl
  | s :: r, h => by
    rw [List.map_cons, List.sum_cons, h s List.mem_cons_self, sum_ones r fun t ht => h t (List.mem_cons_of_mem _ ht), List.length_cons]
    omega
def wordsL : List Str := ["node", "in", "out", "before", "when", "hold", "like", "same", "call", "true", "mod", "beat", "desk"]
theorem words_ok : ∀ w ∈ wordsL, w.length ≤ 6 ∧ okS w := by
  intro w hw
  unfold wordsL at hw
  simp only [List.mem_cons, List.not_mem_nil, or_false] at hw
  rcases hw with rfl | rfl | rfl | rfl | rfl | rfl | rfl | rfl | rfl | rfl | rfl | rfl | rfl <;> exact ⟨by decide +kernel, okS_of (by decide +kernel)⟩
theorem lenL : (Str.ofString "abcdefghijklmnopqrstuvwxyz").cps.toList.length = 26 := by decide +kernel
theorem PairsOk.put {l : KV} {s v : Str} (h : PairsOk l) (hn : l.length < 100) (hs : Nm s) (hv : Nm v) : PairsOk (putL l s (.str v)) := by
  refine ⟨?_, fun p hp => ?_, putL_nd h.nd⟩
  · have := putL_len l s (.str v)
    omega
  · rcases putL_mem hp with z | rfl
    · exact h.nm p z
    · exact ⟨hs, v, rfl, hv⟩
theorem enum_at {ds : List D} {i : Nat} {x : D} (h : (enumD ds)[i]? = some x) : ∃ d, ds[i]? = some d ∧ x = .tup [.int (i : Int), d] := by
  unfold enumD at h
  rw [List.getElem?_mapIdx] at h
  obtain ⟨d, h1, h2⟩ := Option.map_eq_some_iff.mp h
  exact ⟨d, h1, h2.symm⟩
theorem PairsOk.nil : PairsOk [] := ⟨by decide, fun _ h => (nomatch h), List.nodup_nil⟩
theorem toPy_strs (ss : List Str) : toPy (.lst (ss.map D.str)) = some (.list (ss.map PyData.str)) := by
  show (toPyL (ss.map D.str)).map _ = _
  rw [toPyL_strs]
  rfl
theorem Nms.ok {ss : List Str} (h : Nms ss) : ∀ s ∈ ss, okS s := fun s hs => (h s hs).2
theorem cutD_take {α : Type} (xs : List α) (i : Nat) (h : i ≤ xs.length) : cutD xs none (some (i : Int)) = xs.take i := by
  unfold cutD
  have e0 : HT.sIx xs.length 0 none = 0 := rfl
  have e1 : HT.sIx xs.length xs.length (some (i : Int)) = i := by
    unfold HT.sIx
    simp
    rw [if_neg (by omega)]
    omega
  rw [e0, e1]
  rfl
theorem inD_str (s : Str) (fs : List Str) : inD (.str s) (fs.map .str) = decide (s ∈ fs) := by
  unfold inD inV
  induction fs with
  | nil => rfl
  | cons a r ih =>
    rw [List.map_cons, List.map_cons, List.any_cons, ih]
    show ((a == s) || decide (s ∈ r)) = _
    rw [Bool.eq_iff_iff]
    simp only [Bool.or_eq_true, beq_iff_eq, decide_eq_true_eq, List.mem_cons]
    exact ⟨fun q => q.imp Eq.symm id, fun q => q.imp Eq.symm id⟩
theorem flat_strs (l : List Str) : (l.map D.str).all flatD = true := by
  induction l with
  | nil => rfl
  | cons a r ih => rw [List.map_cons, List.all_cons, ih]; rfl
theorem ans_two {row ps : KV} {s : Str} (h : dup [] (fresh row ps) = some s) : ans row ps = .tup [.str "twice", .str s, .bl true] := by
  unfold ans
  rw [h]
theorem ans_told {row ps : KV} (h : dup [] (fresh row ps) = none) : ans row ps = .tup [.str "told", .lst ((renRow row ps).map fun p => .tup [.str p.1, p.2]), .bl true] := by
  unfold ans
  rw [h]
theorem row_at {row : KV} (h : RowOk row) {p : Str × D} (hp : p ∈ row) : atKD (kvs row) (.inr p.1) = some p.2 := by
  rw [at_kvs, find_nd h.nd p hp]
  rfl
/-! the texts of answers -/
def vpy : D → PyData
  | .bl b => .bool b
  | .int i => .int i
  | _ => .none
def itD (p : Str × D) : D := .tup [.str p.1, p.2]
def itPy (p : Str × D) : PyData := .tuple [.str p.1, vpy p.2]
def ItOk (p : Str × D) : Prop := Nm p.1 ∧ VOk p.2
theorem toPy_v {v : D} (h : VOk v) : DL.toPy v = some (vpy v) := by
  rcases h with rfl | ⟨b, rfl⟩ | ⟨i, rfl, _⟩ <;> simp [vpy, DL.toPy]
theorem it_toPy : ∀ l : KV, (∀ p ∈ l, ItOk p) → toPyL (l.map itD) = some (l.map itPy)
  | [], _ => rfl
  | p :: l, h => by
    have := it_toPy l fun q hq => h q (.tail _ hq)
    simp only [List.map_cons, DL.toPyL, this, itD, itPy, DL.toPy, toPy_v (h p (.head _)).2]
    rfl
theorem v_dict {v : D} (h : VOk v) : (vpy v).hasDict = false := by
  rcases h with rfl | ⟨b, rfl⟩ | ⟨i, rfl, _⟩ <;> rfl
theorem v_show {v : D} (h : VOk v) : (vpy v).showable = true := by
  rcases h with rfl | ⟨b, rfl⟩ | ⟨i, rfl, h1, h2⟩
  · rfl
  · rfl
  · have hi : i.natAbs.log2 < 1920 := log2_small (by omega)
    simp [vpy, PyData.showable, hi]
theorem v_depth (v : D) : (vpy v).depth ≤ 5 := by
  cases v <;> simp [vpy, PyData.depth]
theorem ok_short {s : Str} (h : okS s) : (s.cps.toList.all fun c => decide (c < 16 ^ 8)) = true :=
  List.all_eq_true.mpr fun c hc => decide_eq_true (Nat.lt_trans (h c hc) (by decide))
theorem int_text (i : Int) (h : -1000000000 ≤ i ∧ i ≤ 1000000000) : (PyData.shown (.int i)).length ≤ 13 := by
  have e : (PyData.shown (.int i)).length = (toString i).length := ofString_length _
  rw [e]
  have := int_text_length_le10 (a := i) (k := 10) (by decide) (by have := h.1; have := h.2; omega)
  omega
theorem v_short {v : D} (h : VOk v) : (vpy v).leavesShort 13 = true := by
  rcases h with rfl | ⟨b, rfl⟩ | ⟨i, rfl, h1, h2⟩
  · simp only [vpy, PyData.leavesShort]
  · simp only [vpy, PyData.leavesShort]
  · have h3 : decide ((PyData.shown (.int i)).length ≤ 13) = true := decide_eq_true (int_text i ⟨h1, h2⟩)
    simp only [vpy, PyData.leavesShort, h3]
theorem v_bulk (v : D) : (vpy v).bulk = 0 := by
  cases v <;> simp [vpy, PyData.bulk]
theorem it_dict : ∀ l : KV, (∀ p ∈ l, ItOk p) → PyData.hasDictAll (l.map itPy) = false
  | [], _ => rfl
  | p :: l, h => by
    have := it_dict l fun q hq => h q (.tail _ hq)
    simp [PyData.hasDictAll, this, itPy, PyData.hasDict, v_dict (h p (.head _)).2]
theorem it_show : ∀ l : KV, (∀ p ∈ l, ItOk p) → PyData.showableAll (l.map itPy) = true
  | [], _ => rfl
  | p :: l, h => by
    have := it_show l fun q hq => h q (.tail _ hq)
    simp [PyData.showableAll, this, itPy, PyData.showable, v_show (h p (.head _)).2]
theorem it_depth : ∀ l : KV, PyData.depthAll (l.map itPy) ≤ 10
  | [] => by decide
  | p :: l => by
    have := it_depth l
    have := v_depth p.2
    simp only [List.map_cons, PyData.depthAll, itPy, PyData.depth]
    omega
theorem it_short : ∀ l : KV, (∀ p ∈ l, ItOk p) → PyData.leavesShortAll 13 (l.map itPy) = true
  | [], _ => rfl
  | p :: l, h => by
    have h1 := it_short l fun q hq => h q (.tail _ hq)
    have h2 := ok_short (h p (.head _)).1.2
    simp only [List.map_cons, PyData.leavesShortAll, itPy, PyData.leavesShort, h1, h2, v_short (h p (.head _)).2]
    rfl
theorem it_bulk : ∀ l : KV, (∀ p ∈ l, ItOk p) → PyData.bulkAll (l.map itPy) ≤ 60 * l.length
  | [], _ => Nat.le_refl _
  | p :: l, h => by
    have h1 := it_bulk l fun q hq => h q (.tail _ hq)
    have h2 : p.1.cps.size ≤ 40 := (h p (.head _)).1.1
    simp only [List.map_cons, PyData.bulkAll, itPy, PyData.bulk, v_bulk, List.length_cons]
    omega
theorem renRow_ok {row ps : KV} (hr : RowOk row) (hp : PairsOk ps) : ∀ p ∈ renRow row ps, ItOk p := by
  intro p h
  obtain ⟨q, hq, rfl⟩ := List.mem_map.mp h
  exact ⟨ren_nm hp (hr.nm q hq).1, (hr.nm q hq).2⟩
theorem fresh_ok {row ps : KV} (hr : RowOk row) (hp : PairsOk ps) : ∀ s ∈ fresh row ps, Nm s := by
  intro s h
  obtain ⟨q, hq, rfl⟩ := List.mem_map.mp h
  exact ren_nm hp (hr.nm q hq).1
theorem dup_mem : ∀ {l seen : List Str} {s : Str}, dup seen l = some s → s ∈ l
  | [], _, _, h => by simp [dup] at h
  | x :: r, seen, s, h => by
    simp only [dup] at h
    split at h
    · cases h; exact .head _
    · exact .tail _ (dup_mem h)
def ansPy (row ps : KV) : PyData := match dup [] (fresh row ps) with
  | some s => .tuple [.str "twice", .str s, .bool true]
  | none => .tuple [.str "told", .list ((renRow row ps).map itPy), .bool true]
theorem wC_reprAns {K : PySem.W.Frag} {F : Fr} {ρ : Sls} {P : Sls → D → Prop} {row ps : KV} (hr : RowOk row) (hp : PairsOk ps) (p : P ρ (.str (ansPy row ps).shown)) : wC K F (rReprD K) [ans row ps] ρ P := by
  have hi := renRow_ok hr hp
  have hn : (renRow row ps).length ≤ 12 := by unfold renRow; rw [List.length_map]; exact hr.n
  cases e : dup [] (fresh row ps) with
  | some s =>
    rw [ans_two e]
    have ep : ansPy row ps = .tuple [.str "twice", .str s, .bool true] := by unfold ansPy; rw [e]
    rw [ep] at p
    have hs := fresh_ok hr hp s (dup_mem e)
    have h2 := ok_short hs.2
    have h1 := ok_short (s := "twice") (okS_of (by decide +kernel))
    have e1 : (Str.ofString "twice").cps.size = 5 := by decide +kernel
    have e2 : s.cps.size ≤ 40 := hs.1
    refine wC_reprD (pd := .tuple [.str "twice", .str s, .bool true]) (by simp [DL.toPy, DL.toPyL]) (by rfl) (by rfl) (by simp [PyData.depth, PyData.depthAll]) (PyData.shown_fits_bulk (B := 13) (by decide) (by decide) ?_ ?_) p
    · simp only [PyData.leavesShort, PyData.leavesShortAll, h1, h2]; rfl
    · simp only [PyData.bulk, PyData.bulkAll, e1]; omega
  | none =>
    rw [ans_told e]
    have ep : ansPy row ps = .tuple [.str "told", .list ((renRow row ps).map itPy), .bool true] := by unfold ansPy; rw [e]
    rw [ep] at p
    have h1 := ok_short (s := "told") (okS_of (by decide +kernel))
    have e1 : (Str.ofString "told").cps.size = 4 := by decide +kernel
    have b := it_bulk _ hi
    refine wC_reprD (pd := .tuple [.str "told", .list ((renRow row ps).map itPy), .bool true]) ?_ (by simp [PyData.showable, PyData.showableAll, it_show _ hi]) (by simp [PyData.hasDict, PyData.hasDictAll, it_dict _ hi]) ?_ (PyData.shown_fits_bulk (B := 13) (by decide) (by decide) ?_ ?_) p
    · have := it_toPy _ hi
      show DL.toPy (.tup [.str "told", .lst ((renRow row ps).map itD), .bl true]) = _
      simp only [DL.toPy, DL.toPyL, this]
      rfl
    · have := it_depth (renRow row ps)
      simp only [PyData.depth, PyData.depthAll]
      omega
    · simp only [PyData.leavesShort, PyData.leavesShortAll, h1, it_short _ hi]; rfl
    · simp only [PyData.bulk, PyData.bulkAll, e1]; omega
theorem RowOk.put {l : KV} {s : Str} {v : D} (h : RowOk l) (hn : l.length < 12) (hs : Nm s) (hv : VOk v) : RowOk (putL l s v) := by
  refine ⟨?_, fun p hp => ?_, putL_nd h.nd⟩
  · have := putL_len l s v
    omega
  · rcases putL_mem hp with z | rfl
    · exact h.nm p z
    · exact ⟨hs, hv⟩
theorem RowOk.nil : RowOk [] := ⟨by decide, fun _ h => (nomatch h), List.nodup_nil⟩
theorem RowOk.same {l : KV} (h : RowOk l) : SameKD (kvs l) (kvs l) := same_kvs h.nd fun p hp => (h.nm p hp).2.flat
theorem PairsOk.same {l : KV} (h : PairsOk l) : SameKD (kvs l) (kvs l) := same_kvs h.nd fun p hp => by
  obtain ⟨_, v, e, _⟩ := h.nm p hp
  rw [e]
  rfl
theorem cutD_map {α β : Type} (f : α → β) (l : List α) (lo hi : Option Int) : cutD (l.map f) lo hi = (cutD l lo hi).map f := by
  unfold cutD
  rw [List.length_map, ← List.map_drop, ← List.map_take]
theorem cutD_len {α : Type} (l : List α) (lo hi : Option Int) : (cutD l lo hi).length ≤ l.length := by
  unfold cutD
  rw [List.length_take, List.length_drop]
  omega
theorem toPy_tupS (l : List Str) : DL.toPy (.tup (l.map .str)) = some (.tuple (l.map .str)) := by
  rw [DL.toPy, toPyL_strs]
  rfl
theorem shaped_tupS {ss : List Str} (h : ∀ s ∈ ss, okS s) : SeqAt.shaped (.tuple (ss.map PyData.str)) = true := by
  show (PyData.canLay0 (.tuple (ss.map PyData.str)) && decide (PyData.depth (.tuple (ss.map PyData.str)) ≤ 64)) = true
  rw [Bool.and_eq_true]
  refine ⟨by simp only [PyData.canLay0]; exact lay_strs ss h, decide_eq_true ?_⟩
  simp only [PyData.depth, depth_strs]
  decide
theorem eqv_tupS {l : List Str} (h : ∀ s ∈ l, okS s) : PyData.eqv (.tuple (l.map .str)) (.tuple (l.map .str)) = true := SeqAt.eqv_refl _ (SeqAt.canLay_of_shaped (shaped_tupS h))
end K59
namespace K59
open PySem L2 DL
open Evl (Ex)
local macro_rules | `(tactic| walk_at "nm") => `(tactic| dsimp only [st0, st1, List.map, List.length_cons, List.length_nil, List.replicate, List.set_cons_zero, List.set_cons_succ, List.cons_append, List.nil_append, wipeU, wipeS, unloc, restS, rest1, List.contains, List.elem, Nat.reduceBEq, Nat.reduceAdd, Nat.reduceSub, Nat.zero_add, cond_true, cond_false])
local macro_rules | `(tactic| walk_at "sd") => `(tactic| first
  | (show (0 : Int) < _; omega)
  | (show _ ∨ _; first | (left; constructor <;> omega) | (right; constructor <;> omega))
  | (show _ ∧ _; constructor <;> omega)
  | (show _ ∧ _ ∧ _; exact ⟨by decide, by decide, by decide⟩))
local macro_rules | `(tactic| walk_at "w1") => `(tactic| first
  | with_reducible refine wE_int ?_
  | with_reducible refine wE_bl ?_
  | with_reducible refine wE_str ?_
  | with_reducible refine wE_non ?_
  | with_reducible refine wE_ty ?_
  | ((with_reducible refine wE_var (d := ?_) ?_ ?_); rotate_left; (· rfl))
  | ((with_reducible refine wE_xOc (l := ?_) (ds := ?_) (d := ?_) ?_ ?_ ?_); rotate_left 3; (· rfl); (· rfl))
  | ((with_reducible refine wE_isLO (l := ?_) (ds := ?_) ?_ ?_); rotate_left 2; (· rfl))
  | ((with_reducible refine wE_neO (l := ?_) (ds := ?_) (ps := ?_) ?_ ?_ ?_ ?_); rotate_left 3; (· rfl); (· rfl); (· kernel_rfl))
  | with_reducible refine wE_op ?_
  | with_reducible refine wE_tup (wA_cons ?_)
  | with_reducible refine wE_ofO (wO_lst ?_)
  | with_reducible refine wE_cb (wA_cons ?_)
  | with_reducible refine wE_andV ?_
  | with_reducible refine wE_orV ?_
  | with_reducible refine wE_notV ?_
  | with_reducible refine wE_chain ?_
  | with_reducible refine wE_if ?_
  | with_reducible refine wE_call eok0 (wA_cons ?_)
  | ((with_reducible refine wE_con (d := ?_) ?_ ?_); rotate_left; (· assumption))
  | with_reducible refine wE_un ?_
  | with_reducible refine rsp_fz ?_
  | with_reducible refine rsp_ow ?_
  | with_reducible refine wE_call eok0 (wA_nil ?_)
  | ((with_reducible refine wRO_E (wRO_plusL ?_ ?_)); (· exact Nat.le_of_ble_eq_true rfl))
  | with_reducible refine wA_cons ?_
  | with_reducible refine wA_nil ?_
  | with_reducible refine wT_test ?_
  | with_reducible refine wT_B ?_
  | with_reducible refine wT_not ?_
  | with_reducible refine wT_and ?_
  | with_reducible refine wT_or ?_
  | with_reducible refine onB_bl ?_
  | with_reducible refine wR_plusI ?_
  | with_reducible refine wR_subI ?_
  | with_reducible refine wR_subB ?_
  | with_reducible refine wR_I0 ?_
  | with_reducible refine wR_B0 ?_
  | ((with_reducible refine wR_xL (d := ?_) ?_ ?_); rotate_left; (· rfl))
  | ((with_reducible refine wR_xT (d := ?_) ?_ ?_); rotate_left; (· rfl))
  | ((with_reducible refine wR_inT ?_ ?_ ?_); (· rfl); (· rfl))
  | ((with_reducible refine wR_niT ?_ ?_ ?_); (· rfl); (· rfl))
  | ((with_reducible refine wR_inL ?_ ?_ ?_); (· rfl); (· rfl))
  | ((with_reducible refine wR_niL ?_ ?_ ?_); (· rfl); (· rfl))
  | with_reducible refine wR_inSg ?_
  | ((with_reducible refine wR_inD (a := ?_) (es := ?_) ?_ ?_ ?_ ?_ ?_); rotate_left 2; (· rfl); (· rfl); (· kernel_rfl); (· kernel_rfl))
  | with_reducible refine wE_dnew ?_
  | with_reducible refine wE_disp1 ?_
  | with_reducible refine wR_niSg ?_
  | with_reducible refine wR_leS ?_
  | ((with_reducible refine wR_isTF ?_ ?_); (· rfl))
  | ((with_reducible refine wR_notTF ?_ ?_); (· rfl))
  | with_reducible refine wR_isN ?_
  | with_reducible refine wR_notN ?_
  | ((with_reducible refine wR_eqS ?_ ?_ ?_); (· assumption); (· first | assumption | exact okS_of (by decide +kernel)))
  | ((with_reducible refine wR_neS ?_ ?_ ?_); (· assumption); (· first | assumption | exact okS_of (by decide +kernel)))
  | ((with_reducible refine wR_eqD (a := ?_) (b := ?_) ?_ ?_ ?_ ?_ ?_); rotate_left 2; (· rfl); (· rfl); (· kernel_rfl); (· kernel_rfl))
  | ((with_reducible refine wR_neD (a := ?_) (b := ?_) ?_ ?_ ?_ ?_ ?_); rotate_left 2; (· rfl); (· rfl); (· kernel_rfl); (· kernel_rfl))
  | ((with_reducible refine wR_I ?_ ?_); (· walk_at "sd"))
  | (refine And.intro (Nat.le_of_ble_eq_true rfl) ?_)
  | with_reducible refine wC_neg ?_
  | with_reducible refine wC_max2 ?_
  | with_reducible refine wC_min2 ?_
  | with_reducible refine wC_abs ?_
  | with_reducible refine wC_intB ?_
  | with_reducible refine wC_intI ?_
  | ((with_reducible refine wC_len (n := ?_) ?_ ?_); rotate_left; (· rfl))
  | ((with_reducible refine wC_isInt ?_ ?_); (· rfl))
  | ((with_reducible refine wC_isBool ?_ ?_); (· rfl))
  | ((with_reducible refine wC_isStr ?_ ?_); (· rfl))
  | ((with_reducible refine wC_isList ?_ ?_); (· rfl))
  | ((with_reducible refine wC_isTuple ?_ ?_); (· rfl))
  | ((with_reducible refine wC_isDict ?_ ?_); (· rfl))
  | ((with_reducible refine wS_seq ?_); (try walk_at "nm"))
  | with_reducible refine wS_set ?_
  | with_reducible refine wS_ret ?_
  | with_reducible refine wS_next ?_
  | with_reducible refine wS_if ?_
  | ((with_reducible refine wS_set0 ?_))
  | ((with_reducible refine wS_set1 ?_))
  | ((with_reducible refine wS_set2 ?_))
  | (refine ⟨_, _, rfl, Nat.lt_of_sub_eq_succ rfl, ?_⟩)
  | with_reducible refine wS_asg ?_
  | with_reducible refine ways_t ?_
  | with_reducible refine ways_f ?_
  | ((with_reducible refine ways_ev_t ?_ ?_); (· rfl))
  | ((with_reducible refine ways_ev_f ?_ ?_); (· rfl))
  | with_reducible refine wT_yes ?_
  | ((with_reducible refine compL_nil ?_); (try walk_at "nm"))
  | ((with_reducible refine compL_cons (fun _ => ?_)); (try walk_at "nm"))
  | ((with_reducible refine forS_nil ?_); (try walk_at "nm"))
  | ((with_reducible refine forS_cons ?_); (try walk_at "nm"))
  | ((with_reducible refine wE_ofO (wO_lcL (tgt_tup2 ?_ ?_) ?_)); (· decide); (· decide))
  | ((with_reducible refine wE_ofO (wO_lcL (tgt_name ?_) ?_)); (· decide))
  | with_reducible refine wE_countF ?_
  | with_reducible refine wE_join ?_
  | with_reducible refine wE_upper ?_
  | with_reducible refine wE_slS ?_
  | with_reducible refine wE_ofO (wO_split ?_)
  | with_reducible refine wS_forL ?_
  | with_reducible refine wS_forR1 ?_
  | with_reducible refine rso_ow ?_
  | (refine ⟨_, rfl, Nat.le_of_ble_eq_true rfl, ?_⟩)
  | (refine ⟨_, rfl, (show wE _ _ _ _ _ from ?_)⟩)
  | (refine ⟨_, rfl, (show forS _ _ _ _ _ _ _ from ?_)⟩)
  | (refine And.intro (show flatD _ = true from rfl) (And.intro (show List.all _ flatD = true from rfl) ?_))
  | with_reducible refine wG_name ?_
  | with_reducible refine wG_tup2 ?_)
local macro_rules | `(tactic| walk_at "w") => `(tactic| repeat walk_at "w1")
local macro_rules | `(tactic| walk_at "wm") => `(tactic| repeat first | ((with_reducible refine wR_modB ?_ ?_); (· omega); intro _ _ _) | walk_at "w1")
local macro_rules | `(tactic| walk_at "c1") => `(tactic| first
  | ((with_reducible refine wE_con (d := D.adr _) (fun _ => Rep.adr _) ?_))
  | ((with_reducible refine wE_fd (ns := _) (by assumption) rfl (by decide +kernel) rfl ?_))
  | with_reducible refine wE_make (wA_cons ?_)
  | with_reducible refine wR_neStr ?_
  | walk_at "w1")
local macro_rules | `(tactic| walk_at "c") => `(tactic| repeat walk_at "c1")

section
variable {P : Program} {w : World} {K : PySem.W.Frag} {mg : Str → Option Value} {base : Heap} {e : E59}
theorem ok_named_row {f : Addr} {fd : FuncData} (F : L2.Fun K "named_row" "named_row" s_named_row f fd) (U : True) (x_Twice : ECallee P w K mg base 2 "Twice" e.tw "name") : FnOk P w K mg base (L2.CX P w) 4 f fd ["row", "names"] (sp0 K (W_named_row e)) := by
  refine F.okX sc_named_row (fun vs H Q E h => sp0_len (by rintro _ _ _ ⟨_, _, rfl, _⟩; rfl) h) (fun cdv A outer s H vs Q E hr h => ⟨_, (pss_cons (ps_set (i := 2) sc_named_row.nd rfl (Or.inl rfl) pe_dnewK) (pss_cons (ps_for (passes_of rfl) rfl (pi_items (pv 0)) (show PG _ _ (gTup K 2 _) from pg_tup rfl (pgs_cons (pg_name (i := 3) sc_named_row.nd rfl (Or.inl rfl)) (pgs_cons (pg_name (i := 4) sc_named_row.nd rfl (Or.inl rfl)) pgs_nil))) (pss_cons (ps_set (i := 5) sc_named_row.nd rfl (Or.inl rfl) (pe_dget2 (DL.units1 hr) (pv 1) (pv 3) (pv 3) ⟨rfl, rfl, rfl, rfl⟩)) (pss_cons (ps_if (pt_cmp (pc_din (DL.units1 hr) (pv 5) (pv 2))) (pss_one (DL.ps_rse x_Twice hr (by omega) rfl (takes_of rfl rfl rfl rfl) (by rfl) (pv 5))) pss_nil) (pss_one (ps_dput (DL.units1 hr) (pv 2) (pv 5) (pv 4) rfl))))) (pss_one (ps_ret (DL.pe_fz (pv 2)))))), body0 h ?_⟩)
  try dsimp only [cxOf]
  intro ds Φ X F hW hE
  obtain ⟨row, ps, rfl, hr, hp, hX, hΦ⟩ := hW
  refine wS_seq (wS_setD (wD_new ?_))
  walk_at "nm"
  refine wS_seq (wS_forItems (wE_var rfl ⟨_, rfl, ?_⟩))
  refine forS_inv _ (fun i ρ => ∃ a b c, ρ = [.fz (.dkv (kvs row)), .fz (.dkv (kvs ps)), .od .loc (kvs (renRow (row.take i) ps)), a, b, c] ∧ dup [] (fresh (row.take i) ps) = none) ⟨_, _, _, rfl, rfl⟩ (fun i x ρ2 hx hI => ?_) (fun ρ2 hI => ?_)
  · obtain ⟨a, b, c, rfl, hd⟩ := hI
    rw [itemsD_kvs, List.getElem?_map] at hx
    obtain ⟨p, hp1, rfl⟩ := Option.map_eq_some_iff.mp hx
    refine wG_tup2 ?_
    walk_at "nm"
    refine wS_seq (wS_set (wE_dget2 (wE_var rfl ⟨_, rfl, wE_var rfl (wE_var rfl ⟨_, rfl, ?_⟩)⟩)))
    walk_at "nm"
    rw [ren_at hp]
    refine wS_seq (wS_if (wT_B (wE_dinO (wE_var rfl ⟨_, _, _, rfl, rfl, ?_⟩))))
    refine onB_bl ?_
    rw [at_isSome, ren_keys]
    have hlt := (List.getElem?_eq_some_iff.mp hp1).1
    rw [fresh_take] at hd
    have hst := dup_step (fresh_at (ps := ps) hp1) hd
    refine ways_dec (fun hm => ?_) (fun hm => ?_)
    · refine wS_raise hE (wE_var rfl (hX _ ?_))
      rw [fresh_take] at hm
      rw [if_pos hm] at hst
      exact dup_take hst
    · refine wS_next ?_
      refine wS_put (wE_var rfl ⟨⟨_, _, rfl⟩, wE_var rfl ⟨_, _, _, rfl, rfl, ?_, ?_⟩⟩)
      · rw [kvs_len]
        unfold renRow
        rw [List.length_map, List.length_take]
        have := hr.n
        omega
      · walk_at "nm"
        rw [put_kvs, putL_new _ (by rw [ren_keys]; exact hm), ← renRow_step hp1]
        rw [fresh_take] at hm
        rw [if_neg hm] at hst
        exact ⟨_, _, _, rfl, by rw [fresh_take]; exact hst⟩
  · obtain ⟨a, b, c, rfl, hd⟩ := hI
    have e : (itemsD (kvs row)).length = row.length := by rw [itemsD_kvs, List.length_map]
    rw [e, List.take_length] at hd ⊢
    exact wS_ret (wE_fzV rfl (hΦ hd))

theorem ok_named_clock {f : Addr} {fd : FuncData} (F : L2.Fun K "named_clock" "named_clock" s_named_clock f fd) (U : True) (m_tuple : mg "tuple" = none) : FnOk P w K mg base L2.CX0 1 f fd ["clock", "names"] (sp0 K W_named_clock) := by
  refine F.ok sc_named_clock (fun vs H Q E h => sp0_len (by rintro _ _ _ ⟨_, _, rfl, _⟩; rfl) h) (fun cdv A outer s H vs Q E hr h => ⟨_, (pss_one (ps_ret (pe_callTy call_tuple_of (by rfl) m_tuple PyProof.Rows.boot_tuple (pa_cons (pe_lc (own := [("name", 2)]) (g := (gName 2)) (tt := tYes) rfl sc_named_clock.nd (pi_tup (pv 0)) (blkOk_by (N := N_named_clock) (sc := defScope s_named_clock) (by decide +kernel)) (fun _ _ _ _ _ => (pg_name (i := 2) sc_named_clock.nd rfl (Or.inl rfl))) (fun _ _ _ _ _ => pts_nil) (fun _ _ _ _ _ => (pe_dget2 (DL.units1 hr) (pv 1) (pv 2) (pv 2) ⟨rfl, rfl, rfl, rfl⟩))) pa_nil)))), body0 h ?_⟩)
  try dsimp only [cxOf]
  intro ds Φ X F hW hE
  obtain ⟨ss, ps, rfl, hn, hp, hΦ⟩ := hW
  refine wS_ret (wE_cb (wA_cons (wE_ofO (wO_lcT (tgt_name (by decide)) (wE_var rfl ⟨_, rfl, by rw [List.length_map]; omega, ?_⟩)))))
  walk_at "nm"
  refine compL_flt (p := fun _ => true) (f := fun d => match d with | .str s => .str (ren ps s) | _ => .non) _ _ (fun F' x hx => ?_) ?_
  · obtain ⟨s, _, rfl⟩ := List.mem_map.mp hx
    refine wG_name (wT_yes ?_)
    walk_at "nm"
    refine ⟨rfl, fun h => (nomatch h), fun _ => ?_⟩
    refine wE_dget2 (wE_var rfl ⟨_, rfl, wE_var rfl (wE_var rfl ⟨_, rfl, ?_⟩)⟩)
    rw [ren_at hp]
    exact ⟨rfl, rfl⟩
  · walk_at "nm"
    refine wA_nil (wC_tupL ?_)
    rw [List.filter_eq_self.mpr (fun _ _ => rfl), List.map_map]
    exact hΦ

theorem ok__law_cell_at {f : Addr} {fd : FuncData} (F : L2.Fun K "_law_cell_at" "_law_cell_at" s__law_cell_at f fd) (U : True) (m_len : mg "len" = none) : FnOk P w K mg base L2.CX0 1 f fd ["script", "k"] (sp0 K W__law_cell_at) := by
  refine F.ok sc__law_cell_at (fun vs H Q E h => sp0_len (by rintro _ _ _ ⟨_, _, rfl, _⟩; rfl) h) (fun cdv A outer s H vs Q E hr h => ⟨_, (pss_cons (ps_if (pt_cmpR op_lt (pv 1) (pe_callB call_len (by rfl) m_len PySem.boot_len (pa_cons (pv 0) pa_nil)) (nomark _)) (pss_one (ps_ret (pe_ix ix_seq (pv 0) (pv 1) (fun _ _ => rfl)))) pss_nil) (pss_one (ps_ret (pe_op DL.op_plus (pe_op op_mul pe_int (pv 1)) pe_int)))), body0 h ?_⟩)
  try dsimp only [cxOf]
  intro ds Φ X F hW hE
  obtain ⟨ns, k, rfl, hk, hΦ⟩ := hW
  walk_at "w"
  refine ways_dec (fun hc => ?_) (fun hc => ?_)
  · walk_at "w"
    obtain ⟨d, _, e⟩ := atI_of hk hc
    exact wR_xScr e (hΦ d)
  · walk_at "w"
    exact hΦ _

theorem ok__law_box {f : Addr} {fd : FuncData} (F : L2.Fun K "_law_box" "_law_box" s__law_box f fd) (U : True)  : FnOk P w K mg base L2.CX0 1 f fd ["cell"] (sp0 K W__law_box) := by
  refine F.ok sc__law_box (fun vs H Q E h => sp0_len (by rintro _ _ _ ⟨_, rfl, _⟩; rfl) h) (fun cdv A outer s H vs Q E hr h => ⟨_, (pss_cons (ps_if (pt_cmpR op_ge (pv 0) (pe_op op_pow pe_int pe_int) (nomark _)) (pss_one (ps_ret (pe_lst (pa_cons (pv 0) (pa_cons (pe_op op_mod (pv 0) pe_int) (pa_cons pe_int pa_nil)))))) pss_nil) (pss_one (ps_ret (pe_lst (pa_cons pe_int (pa_cons (pe_op op_mod (pv 0) pe_int) (pa_cons pe_int pa_nil))))))), body0 h ?_⟩)
  try dsimp only [cxOf]
  intro ds Φ X F hW hE
  obtain ⟨c, rfl, hΦ⟩ := hW
  walk_at "w"
  refine ways_dec (fun h => ?_) (fun h => ?_)
  · refine wS_retO (wO_lst (wA_cons ?_))
    walk_at "wm"
    refine hΦ _ ⟨_, _, _, rfl, Int.le_trans (by decide +kernel) h, by assumption⟩
  · refine wS_next ?_
    refine wS_retO (wO_lst (wA_cons ?_))
    walk_at "wm"
    exact hΦ _ ⟨_, _, _, rfl, by decide, by assumption⟩

theorem ok__law_take {f : Addr} {fd : FuncData} (F : L2.Fun K "_law_take" "_law_take" s__law_take f fd) (U : True)  : FnOk P w K mg base L2.CX0 1 f fd ["box", "many"] (sp1 K W__law_take) := by
  refine F.ok sc__law_take (fun vs H Q E h => sp1_len (by rintro _ _ _ _ ⟨_, rfl, _⟩; rfl) h) (fun cdv A outer s H vs Q E hr h => ⟨_, (pss_cons (ps_if (pt_cmpR op_gt (pe_ix ix_seq (pv 0) pe_int (fun _ _ => rfl)) pe_int (nomark _)) (pss_cons (ps_set (i := 2) sc__law_take.nd rfl (Or.inl rfl) (pe_op op_mod (pe_ix ix_seq (pv 0) pe_int (fun _ _ => rfl)) (pv 1))) (pss_cons (ps_asg (pe_op op_fdiv (pe_ix ix_seq (pv 0) pe_int (fun _ _ => rfl)) (pv 1)) (pg_sub (pv 0) pe_int set_list)) (pss_one (ps_ret (pv 2))))) pss_nil) (pss_cons (ps_asg (pe_op DL.op_plus (pe_ix ix_seq (pv 0) pe_int (fun _ _ => rfl)) pe_int) (pg_sub (pv 0) pe_int set_list)) (pss_cons (ps_set (i := 2) sc__law_take.nd rfl (Or.inl rfl) (pe_op op_mod (pe_op DL.op_plus (pe_op DL.op_plus (pe_op op_mul (pe_ix ix_seq (pv 0) pe_int (fun _ _ => rfl)) pe_int) (pe_op op_mul pe_int (pe_ix ix_seq (pv 0) pe_int (fun _ _ => rfl)))) pe_int) pe_int)) (pss_cons (ps_set (i := 2) sc__law_take.nd rfl (Or.inl rfl) (pe_op op_mod (pe_op DL.op_plus (pe_op DL.op_plus (pe_op op_mul (pv 2) (pv 2)) (pe_op op_mul pe_int (pe_ix ix_seq (pv 0) pe_int (fun _ _ => rfl)))) pe_int) pe_int)) (pss_one (ps_ret (pe_op op_mod (pe_op op_mod (pe_op op_mul (pv 2) (pv 2)) pe_int) (pv 1)))))))), body1 h ?_⟩)
  try dsimp only [cxOf]
  intro ds es Φ X F hW hE
  obtain ⟨m, rfl, ⟨a, b, c, rfl, ha, hb⟩, hm, hm2, hΦ⟩ := hW
  walk_at "w"
  refine ways_dec (fun hc => ?_) (fun hc => ?_)
  · walk_at "wm"
    exact ⟨_, rfl, hΦ _ _ ⟨_, _, _, rfl, Int.ediv_nonneg ha (Int.le_of_lt hm), hb⟩ (by assumption) (by assumption)⟩
  · walk_at "wm"
    exact ⟨_, rfl, hΦ _ _ ⟨_, _, _, rfl, ha, hb⟩ (by assumption) (by assumption)⟩

theorem ok__law_mixed {f : Addr} {fd : FuncData} (F : L2.Fun K "_law_mixed" "_law_mixed" s__law_mixed f fd) (U : True) (c__law_take : Callee P w K mg base 1 "_law_take" (sp1 K W__law_take)) (m_list : mg "list" = none) (m_len : mg "len" = none) : FnOk P w K mg base L2.CX0 2 f fd ["box", "some"] (sp1 K W__law_mixed) := by
  refine F.ok sc__law_mixed (fun vs H Q E h => sp1_len (by rintro _ _ _ _ ⟨_, rfl, _⟩; rfl) h) (fun cdv A outer s H vs Q E hr h => ⟨_, (pss_cons (ps_set (i := 2) sc__law_mixed.nd rfl (Or.inl rfl) (pe_callTy call_list_of (by rfl) m_list PyProof.Rows.boot_list (pa_cons (pv 1) pa_nil))) (pss_cons (ps_set (i := 3) sc__law_mixed.nd rfl (Or.inl rfl) (pe_lst pa_nil)) (pss_cons (ps_while PassesOwn.never (pt_cmpR (op_neD hr.units) (pv 2) (pe_lst pa_nil) (nomark _)) (pss_one (ps_expr (pe_bm PySem.F.plainAttrs_list PySem.F.slot_list_append PySem.F.type_list_append mt_append (pv 3) (pa_cons (pe_bm PySem.F.plainAttrs_list PySem.F.slot_list_pop PySem.F.type_list_pop mt_popAt (pv 2) (pa_cons (DL.pe_cl c__law_take hr (by omega) (by rfl) (pa_cons (pv 0) (pa_cons (pe_callB call_len (by rfl) m_len PySem.boot_len (pa_cons (pv 2) pa_nil)) pa_nil))) pa_nil)) pa_nil))))) (pss_one (ps_ret (pv 3)))))), body1 h ?_⟩)
  try dsimp only [cxOf]
  intro ds es Φ X F hW hE
  obtain ⟨ss, rfl, hB, hn, hN, hΦ⟩ := hW
  refine wS_seq (wS_setO (wO_cb (wA_cons (wE_var rfl (wA_nil (wCO_list (.inl rfl) ?_))))))
  refine wS_seq (wS_setO (wO_lst (wA_nil ⟨Nat.le_of_ble_eq_true rfl, ?_⟩)))
  walk_at "nm"
  refine wS_seq (wS_while (fun m ρ => ∃ (ds' : List D) (left found : List Str), Box ds' ∧ ρ = [.ow .par ds', .fz (.lst (ss.map .str)), .ow .loc (left.map .str), .ow .loc (found.map .str)] ∧ m = left.length ∧ found.length + left.length = ss.length ∧ (∀ s ∈ left, s ∈ ss) ∧ (∀ s ∈ found, s ∈ ss)) ⟨_, _, ss, [], hB, rfl, rfl, by simp, fun s h => h, fun _ h => nomatch h⟩ (fun m ρ2 hI => ?_))
  obtain ⟨ds', left, found, hB', rfl, rfl, hl, h1, h2⟩ := hI
  refine wT_test (wE_neO rfl (toPyL_strs left) (shaped_strs fun s hs => (hN s (h1 s hs)).2) (wE_ofO (wO_lst (wA_nil ⟨Nat.le_of_ble_eq_true rfl, .list [], rfl, rfl, rfl, ?_⟩))))
  refine onB_bl ?_
  cases left with
  | nil =>
    refine ways_ev_f (by rfl) ?_
    refine wS_ret (wE_varF rfl ?_)
    exact ⟨_, rfl, hΦ _ found hB' (by simpa using hl) h2⟩
  | cons a r =>
    refine ways_ev_t (by rfl) ?_
    refine wS_append ⟨_, _, rfl⟩ (wE_popAt ⟨_, _, rfl⟩ (wE_call1 eok0 ⟨_, _, rfl⟩ (wA_cons (wE_lenO rfl (wA_nil ⟨_, _, rfl, _, rfl, hB', ?_, ?_, fun ds3 j hB3 hj0 hj1 => rsp_fz ?_⟩)))))
    · rw [List.length_map, List.length_cons]; omega
    · rw [List.length_map, List.length_cons]; rw [List.length_cons] at hl; omega
    · obtain ⟨n, rfl⟩ := Int.eq_ofNat_of_zero_le hj0
      rw [List.length_map] at hj1
      have hlt : n < (a :: r).length := by omega
      refine ⟨_, _, n, .str (a :: r)[n], rfl, rfl, by rw [List.length_cons] at hl hlt; omega, by rw [List.getElem?_map, List.getElem?_eq_getElem hlt]; rfl, ?_⟩
      refine ⟨_, _, rfl, by rw [List.length_map]; omega, ?_⟩
      refine ⟨_, ?_, _, (a :: r).eraseIdx n, found ++ [(a :: r)[n]], hB3, ?_, rfl, ?_, ?_, ?_⟩
      · rw [List.length_eraseIdx, if_pos hlt, List.length_cons]; omega
      · walk_at "nm"
        show [_, _, Sl.ow Kd.loc (((a :: r).map D.str).eraseIdx n), _] = _
        rw [map_erase, List.map_append]
        rfl
      · rw [List.length_eraseIdx, if_pos hlt, List.length_append, List.length_singleton]; omega
      · intro s hs
        exact h1 s (List.mem_of_mem_eraseIdx hs)
      · intro s hs
        rcases List.mem_append.mp hs with z | z
        · exact h2 s z
        · rw [List.mem_singleton] at z
          subst z
          exact h1 _ (List.getElem_mem hlt)

theorem ok__law_names {f : Addr} {fd : FuncData} (F : L2.Fun K "_law_names" "_law_names" s__law_names f fd) (U : True) (c__law_take : Callee P w K mg base 1 "_law_take" (sp1 K W__law_take)) (c__law_mixed : Callee P w K mg base 2 "_law_mixed" (sp1 K W__law_mixed)) (m_range : mg "range" = none) : FnOk P w K mg base L2.CX0 3 f fd ["box", "many"] (sp1 K W__law_names) := by
  refine F.ok sc__law_names (fun vs H Q E h => sp1_len (by rintro _ _ _ _ ⟨_, rfl, _⟩; rfl) h) (fun cdv A outer s H vs Q E hr h => ⟨_, (pss_cons (ps_set (i := 2) sc__law_names.nd rfl (Or.inr rfl) pe_str) (pss_cons (ps_set (i := 3) sc__law_names.nd rfl (Or.inr rfl) (pe_op DL.op_plus pe_str (pe_join pe_str (pe_lc (own := [("k", 4)]) (g := (gName 4)) (tt := tYes) rfl sc__law_names.nd (pi_range1 rfl m_range (pa_cons pe_int pa_nil)) (blkOk_by (N := N__law_names) (sc := defScope s__law_names) (by decide +kernel)) (fun _ _ _ _ _ => (pg_name (i := 4) sc__law_names.nd rfl (Or.inl rfl))) (fun _ _ _ _ _ => pts_nil) (fun _ _ _ _ _ => (pe_ix (show IxR _ (rIx K) from ix_seq) (pv 2) (DL.pe_cl c__law_take hr (by omega) (by rfl) (pa_cons (pv 0) (pa_cons pe_int pa_nil))) (fun _ _ => rfl))))))) (pss_cons (ps_set (i := 5) sc__law_names.nd rfl (Or.inr rfl) (DL.pe_cl c__law_take hr (by omega) (by rfl) (pa_cons (pv 0) (pa_cons pe_int pa_nil)))) (pss_cons (ps_set (i := 6) sc__law_names.nd rfl (Or.inl rfl) (DL.pe_cl c__law_take hr (by omega) (by rfl) (pa_cons (pv 0) (pa_cons pe_int pa_nil)))) (pss_cons (ps_if (PW.pt (pw_and (pt_cmpR (op_eqD hr.units) (pv 6) pe_int (nomark _)) (pw_and1 (pt_cmpR op_le (pv 1) pe_int (nomark _))))) (pss_cons (ps_set (i := 7) sc__law_names.nd rfl (Or.inr rfl) (pe_lst (pa_cons pe_str (pa_cons pe_str (pa_cons pe_str (pa_cons pe_str (pa_cons pe_str (pa_cons pe_str (pa_cons pe_str (pa_cons pe_str (pa_cons pe_str (pa_cons pe_str pa_nil)))))))))))) (pss_cons (ps_set (i := 7) sc__law_names.nd rfl (Or.inr rfl) (pe_op DL.op_plus (pv 7) (pe_lst (pa_cons pe_str (pa_cons pe_str (pa_cons pe_str pa_nil)))))) (pss_one (ps_set (i := 8) sc__law_names.nd rfl (Or.inr rfl) (pe_lc (own := [("k", 4)]) (g := (gName 4)) (tt := tYes) rfl sc__law_names.nd (pi_range1 rfl m_range (pa_cons (pv 1) pa_nil)) (blkOk_by (N := N__law_names) (sc := defScope s__law_names) (by decide +kernel)) (fun _ _ _ _ _ => (pg_name (i := 4) sc__law_names.nd rfl (Or.inl rfl))) (fun _ _ _ _ _ => pts_nil) (fun _ _ _ _ _ => (pe_op DL.op_plus (pe_ix (show IxR _ (rIx K) from ix_seq) (pv 7) (pe_op op_mod (pe_op DL.op_plus (pv 5) (pv 4)) pe_int) (fun _ _ => rfl)) (pe_op DL.op_rep1 pe_str (pe_op DL.op_plus pe_int (pe_op op_fdiv (pv 4) pe_int)))))))))) (pss_one (ps_if (PW.pt (pw_and (pt_cmpR (op_eqD hr.units) (pv 6) pe_int (nomark _)) (pw_and1 (pt_cmpR op_le (pv 1) pe_int (nomark _))))) (pss_cons (ps_set (i := 9) sc__law_names.nd rfl (Or.inr rfl) (DL.pe_cl c__law_take hr (by omega) (by rfl) (pa_cons (pv 0) (pa_cons pe_int pa_nil)))) (pss_cons (ps_set (i := 10) sc__law_names.nd rfl (Or.inr rfl) (pe_lc (own := [("k", 4)]) (g := (gName 4)) (tt := tYes) rfl sc__law_names.nd (pi_range1 rfl m_range (pa_cons (pv 1) pa_nil)) (blkOk_by (N := N__law_names) (sc := defScope s__law_names) (by decide +kernel)) (fun _ _ _ _ _ => (pg_name (i := 4) sc__law_names.nd rfl (Or.inl rfl))) (fun _ _ _ _ _ => pts_nil) (fun _ _ _ _ _ => (pe_ix (show IxR _ (rIx K) from ix_seq) (pv 2) (pe_op op_mod (pe_op DL.op_plus (pv 5) (pe_op op_mul pe_int (pv 4))) pe_int) (fun _ _ => rfl))))) (pss_one (ps_set (i := 8) sc__law_names.nd rfl (Or.inr rfl) (pe_lc (own := [("k", 4)]) (g := (gName 4)) (tt := tYes) rfl sc__law_names.nd (pi_range1 rfl m_range (pa_cons (pv 1) pa_nil)) (blkOk_by (N := N__law_names) (sc := defScope s__law_names) (by decide +kernel)) (fun _ _ _ _ _ => (pg_name (i := 4) sc__law_names.nd rfl (Or.inl rfl))) (fun _ _ _ _ _ => pts_nil) (fun _ _ _ _ _ => (pe_op DL.op_plus (pe_op DL.op_plus (pe_op DL.op_plus (pe_slice sl_str (pv 3) po_none (po_some (pv 9))) (pe_ix (show IxR _ (rIx K) from ix_seq) (pv 10) (pv 4) (fun _ _ => rfl))) (pe_slice sl_str (pv 3) (po_some (pv 9)) (po_some pe_int))) (pe_op DL.op_rep1 pe_str (pe_op op_fdiv (pv 4) pe_int))))))))) (pss_one (ps_set (i := 8) sc__law_names.nd rfl (Or.inr rfl) (pe_lc (own := [("k", 4)]) (g := (gName 4)) (tt := tYes) rfl sc__law_names.nd (pi_range1 rfl m_range (pa_cons (pv 1) pa_nil)) (blkOk_by (N := N__law_names) (sc := defScope s__law_names) (by decide +kernel)) (fun _ _ _ _ _ => (pg_name (i := 4) sc__law_names.nd rfl (Or.inl rfl))) (fun _ _ _ _ _ => pts_nil) (fun _ _ _ _ _ => (pe_op DL.op_plus (pe_ix (show IxR _ (rIx K) from ix_seq) (pv 2) (pe_op op_mod (pe_op DL.op_plus (pv 5) (pe_op op_fdiv (pv 4) pe_int)) pe_int) (fun _ _ => rfl)) (pe_slice sl_str (pv 3) po_none (po_some (pe_op op_mod (pv 4) pe_int))))))))))) (pss_cons (ps_if (pt_cmpR (op_eqD hr.units) (DL.pe_cl c__law_take hr (by omega) (by rfl) (pa_cons (pv 0) (pa_cons pe_int pa_nil))) pe_int (nomark _)) (pss_one (ps_set (i := 8) sc__law_names.nd rfl (Or.inr rfl) (pe_lc (own := [("name", 11)]) (g := (gName 11)) (tt := tYes) rfl sc__law_names.nd (pi_list (pv 8)) (blkOk_by (N := N__law_names) (sc := defScope s__law_names) (by decide +kernel)) (fun _ _ _ _ _ => (pg_name (i := 11) sc__law_names.nd rfl (Or.inl rfl))) (fun _ _ _ _ _ => pts_nil) (fun _ _ _ _ _ => (pe_op DL.op_plus (pe_op DL.op_plus (pv 11) pe_str) (pe_ix (show IxR _ (rIx K) from ix_seq) (pv 8) pe_int (fun _ _ => rfl))))))) pss_nil) (pss_one (ps_ret (DL.pe_cl c__law_mixed hr (by omega) (by rfl) (pa_cons (pv 0) (pa_cons (pv 8) pa_nil))))))))))), body1 h ?_⟩)
  try dsimp only [cxOf]
  intro ds es Φ X F hW hE
  obtain ⟨m, rfl, hB, hm1, hm2, hΦ⟩ := hW
  refine wS_seq (wS_set (wE_str ?_))
  walk_at "nm"
  refine wS_seq (wS_set (wE_op (wE_str (wE_join (wE_str ⟨_, rfl, wE_ofO (wO_lcR1 (tgt_name (by decide)) (wA_cons (wE_int (wA_nil ⟨6, rfl, by decide, by decide, ?_⟩))))⟩)))))
  walk_at "nm"
  refine compL_inv (rng 0 (6 : Int).toNat) (fun i ρ acc => ∃ ds' ss, Box ds' ∧ ρ = [.ow .any ds', .fz (.int m), .fz (.str "abcdefghijklmnopqrstuvwxyz"), .un, .un, .un, .un, .un, .un, .un, .un, .un] ∧ acc = ss.map D.str ∧ ss.length = i ∧ ∀ s ∈ ss, s.length = 1 ∧ okS s) ⟨_, [], hB, rfl, rfl, rfl, fun _ h => nomatch h⟩ (fun i x ρ2 acc F' hx hI => ?_) (fun ρ2 acc hI => ?_)
  · obtain ⟨ds', ss, hB', rfl, rfl, hl, hs⟩ := hI
    refine wG_name (wT_yes ?_)
    walk_at "nm"
    refine ways_t (wE_op (wE_var rfl (wE_call1 eok0 ⟨_, _, rfl⟩ (wA_cons (wE_int (wA_nil ⟨_, _, rfl, 26, rfl, hB', by decide, by decide, fun ds3 j hB3 hj0 hj1 => rsp_fz ?_⟩))))))
    refine wR_xSAll (by decide +kernel) hj0 (by have e : (Str.ofString "abcdefghijklmnopqrstuvwxyz").cps.toList.length = 26 := by decide +kernel
                                                rw [e]; exact hj1) fun c hc => ?_
    walk_at "nm"
    obtain ⟨o1, o2⟩ := ok_sg c okL hc
    refine ⟨ds3, ss ++ [⟨#[c]⟩], hB3, rfl, by rw [List.map_append]; rfl, by rw [List.length_append, hl]; rfl, fun s h => ?_⟩
    rcases List.mem_append.mp h with z | z
    · exact hs s z
    · rw [List.mem_singleton.mp z]; exact ⟨o2, o1⟩
  · obtain ⟨ds1, ss, hB1, rfl, rfl, hl, hs⟩ := hI
    rw [rng_len] at hl
    have hl6 : ss.length = 6 := hl
    walk_at "nm"
    have hj1 := join_len "" ss
    have e0 : (Str.ofString "").length = 0 := rfl
    have e1 := sum_ones ss fun s h => (hs s h).1
    have hjo : okS (Txt.join "" ss) := okS_joinT (okS_of (by decide +kernel)) fun s h => (hs s h).2
    refine ⟨ss, rfl, by rw [e0, e1]; omega, ?_⟩
    have eq1 : (Str.ofString "q").length = 1 := rfl
    rw [e0, e1, hl6] at hj1
    refine wR_plusS (by omega) ?_
    walk_at "nm"
    have tl : (Str.ofString "q" ++ Txt.join "" ss).length ≤ 7 := by rw [len_app, eq1]; omega
    have tok : okS (Str.ofString "q" ++ Txt.join "" ss) := okS_app okQ hjo
    generalize Str.ofString "q" ++ Txt.join "" ss = tail at tl tok
    refine wS_seq (wS_set (wE_call1 eok0 ⟨_, _, rfl⟩ (wA_cons (wE_int (wA_nil ⟨_, _, rfl, 26, rfl, hB1, by decide, by decide, fun ds2 sh hB2 hs0 hs1 => rsp_fz ?_⟩)))))
    walk_at "nm"
    refine wS_seq (wS_set (wE_call1 eok0 ⟨_, _, rfl⟩ (wA_cons (wE_int (wA_nil ⟨_, _, rfl, 3, rfl, hB2, by decide, by decide, fun ds3 way hB3 hw0 hw1 => rsp_fz ?_⟩)))))
    walk_at "nm"
    have hmt : ((m.toNat : Nat) : Int) = m := Int.toNat_of_nonneg (by omega)
    refine wS_seq (wS_mono (O := { nx := fun ρ => ∃ (ds4 : List D) (ss2 : List Str) (s7 s9 s10 : Sl), (s7 = .un ∧ s9 = .un ∧ s10 = .un ∨ (∃ d, s7 = .fz d) ∧ s9 = .un ∧ s10 = .un ∨ s7 = .un ∧ (∃ d, s9 = .fz d) ∧ ∃ d, s10 = .fz d) ∧ Box ds4 ∧ ρ = [Sl.ow Kd.par ds4, .fz (.int m), .fz (.str "abcdefghijklmnopqrstuvwxyz"), .fz (.str tail), .un, .fz (.int sh), .fz (.int way), s7, .fz (.lst (ss2.map D.str)), s9, s10, .un] ∧ (ss2.length : Int) = m ∧ ∀ s ∈ ss2, s.length ≤ 18 ∧ okS s, rt := fun _ _ => False }) ?_ (fun ρ hI => ?_) (fun _ _ h => h.elim) (fun _ _ h => h.elim) (fun _ h => h.elim) (fun _ h => h.elim))
    · walk_at "w"
      rw [eqi']
      by_cases w2 : way = 2
      · refine ways_ev_t (by rw [w2]; rfl) ?_
        walk_at "w"
        refine ways_dec (fun w3 => ?_) (fun w3 => ?_)
        · walk_at "w"
          refine wE_ofO (wO_lcR1 (tgt_name (by decide)) (wA_cons (wE_var rfl (wA_nil ⟨m, rfl, by omega, by omega, ?_⟩))))
          walk_at "nm"
          refine compL_inv (rng 0 m.toNat) (fun i ρ acc => ∃ ss, ρ = [.ow .any ds3, .fz (.int m), .fz (.str "abcdefghijklmnopqrstuvwxyz"), .fz (.str tail), .un, .fz (.int sh), .fz (.int way), .fz (.lst (wordsL.map D.str)), .un, .un, .un, .un] ∧ acc = ss.map D.str ∧ ss.length = i ∧ ∀ s ∈ ss, s.length ≤ 18 ∧ okS s) ⟨[], rfl, rfl, rfl, fun _ h => nomatch h⟩ (fun i x ρ2 acc F' hx hI => ?_) (fun ρ2 acc hI => ?_)
          · obtain ⟨ss3, rfl, rfl, hl3, hs3⟩ := hI
            obtain ⟨hi, rfl⟩ := rng_at hx
            refine wG_name (wT_yes ?_)
            walk_at "nm"
            refine ways_t ?_
            walk_at "wm"
            refine wR_xLAll (by assumption) (by show _ < ((wordsL.map D.str).length : Int); have e : (wordsL.map D.str).length = 13 := rfl; rw [e]; assumption) fun d hd => ?_
            obtain ⟨w, hw, rfl⟩ := List.mem_map.mp hd
            obtain ⟨wl, wok⟩ := words_ok w hw
            walk_at "w"
            refine wR_repFew (by omega) (by omega) rfl fun u hu hm => ?_
            have uok := ok_of_mem okQ hm
            refine wR_plusS (by omega) ?_
            walk_at "nm"
            refine ⟨ss3 ++ [w ++ u], rfl, by rw [List.map_append]; rfl, by rw [List.length_append, hl3]; rfl, fun s h => ?_⟩
            rcases List.mem_append.mp h with z | z
            · exact hs3 s z
            · rw [List.mem_singleton.mp z]
              exact ⟨by rw [len_app]; omega, okS_app wok uok⟩
          · obtain ⟨ss3, rfl, rfl, hl3, hs3⟩ := hI
            rw [rng_len] at hl3
            walk_at "nm"
            exact ⟨ds3, ss3, _, _, _, .inr (.inl ⟨⟨_, rfl⟩, rfl, rfl⟩), hB3, rfl, by rw [hl3]; exact hmt, hs3⟩
        · walk_at "w"
          rw [eqi']
          refine ways_ev_f (by rw [w2]; rfl) ?_
          walk_at "w"
          refine wE_ofO (wO_lcR1 (tgt_name (by decide)) (wA_cons (wE_var rfl (wA_nil ⟨m, rfl, by omega, by omega, ?_⟩))))
          walk_at "nm"
          refine compL_inv (rng 0 m.toNat) (fun i ρ acc => ∃ ss, ρ = [.ow .any ds3, .fz (.int m), .fz (.str "abcdefghijklmnopqrstuvwxyz"), .fz (.str tail), .un, .fz (.int sh), .fz (.int way), .un, .un, .un, .un, .un] ∧ acc = ss.map D.str ∧ ss.length = i ∧ ∀ s ∈ ss, s.length ≤ 18 ∧ okS s) ⟨[], rfl, rfl, rfl, fun _ h => nomatch h⟩ (fun i x ρ2 acc F' hx hI => ?_) (fun ρ2 acc hI => ?_)
          · obtain ⟨ss3, rfl, rfl, hl3, hs3⟩ := hI
            obtain ⟨hi, rfl⟩ := rng_at hx
            refine wG_name (wT_yes ?_)
            walk_at "nm"
            refine ways_t ?_
            walk_at "wm"
            refine wR_xSAll (by decide +kernel) (by assumption) (by rw [lenL]; assumption) fun c hc => ?_
            obtain ⟨o1, o2⟩ := ok_sg c okL hc
            refine wE_slS (wE_var rfl ⟨tail, rfl, by omega, wP_no (wP_some ?_)⟩)
            walk_at "wm"
            refine ⟨_, rfl, ?_⟩
            have cl := cutS_length tail none (some ‹Int›)
            have cok : okS (cutS tail none (some ‹Int›)) := okS_cut tok
            refine wR_plusS (by omega) ?_
            walk_at "nm"
            refine ⟨ss3 ++ [_], rfl, by rw [List.map_append]; rfl, by rw [List.length_append, hl3]; rfl, fun s h => ?_⟩
            rcases List.mem_append.mp h with z | z
            · exact hs3 s z
            · rw [List.mem_singleton.mp z]
              exact ⟨by rw [len_app]; omega, okS_app o1 cok⟩
          · obtain ⟨ss3, rfl, rfl, hl3, hs3⟩ := hI
            rw [rng_len] at hl3
            walk_at "nm"
            exact ⟨ds3, ss3, _, _, _, .inl ⟨rfl, rfl, rfl⟩, hB3, rfl, by rw [hl3]; exact hmt, hs3⟩
      · refine ways_ev_f (beq_eq_false_iff_ne.mpr w2) ?_
        walk_at "w"
        rw [eqi']
        by_cases w1 : way = 1
        · refine ways_ev_t (by rw [w1]; rfl) ?_
          walk_at "w"
          refine ways_dec (fun w3 => ?_) (fun w3 => absurd hm2 w3)
          walk_at "w"
          refine wE_call1 eok0 ⟨_, _, rfl⟩ (wA_cons (wE_int (wA_nil ⟨_, _, rfl, 6, rfl, hB3, by decide, by decide, fun ds4 at_ hB4 ha0 ha1 => rsp_fz ?_⟩)))
          walk_at "w"
          refine wE_ofO (wO_lcR1 (tgt_name (by decide)) (wA_cons (wE_var rfl (wA_nil ⟨m, rfl, by omega, by omega, ?_⟩))))
          walk_at "nm"
          refine compL_inv (rng 0 m.toNat) (fun i ρ acc => ∃ ss, ρ = [.ow .any ds4, .fz (.int m), .fz (.str "abcdefghijklmnopqrstuvwxyz"), .fz (.str tail), .un, .fz (.int sh), .fz (.int way), .un, .un, .fz (.int at_), .un, .un] ∧ acc = ss.map D.str ∧ ss.length = i ∧ ∀ s ∈ ss, s.length = 1 ∧ okS s) ⟨[], rfl, rfl, rfl, fun _ h => nomatch h⟩ (fun i x ρ2 acc F' hx hI => ?_) (fun ρ2 acc hI => ?_)
          · obtain ⟨ss3, rfl, rfl, hl3, hs3⟩ := hI
            obtain ⟨hi, rfl⟩ := rng_at hx
            refine wG_name (wT_yes ?_)
            walk_at "nm"
            refine ways_t ?_
            walk_at "wm"
            refine wR_xSAll (by decide +kernel) (by assumption) (by rw [lenL]; assumption) fun c hc => ?_
            obtain ⟨o1, o2⟩ := ok_sg c okL hc
            refine ⟨ss3 ++ [⟨#[c]⟩], rfl, by rw [List.map_append]; rfl, by rw [List.length_append, hl3]; rfl, fun s h => ?_⟩
            rcases List.mem_append.mp h with z | z
            · exact hs3 s z
            · rw [List.mem_singleton.mp z]; exact ⟨o2, o1⟩
          obtain ⟨sg, rfl, rfl, hl3, hs3⟩ := hI
          rw [rng_len] at hl3
          walk_at "w"
          refine wE_ofO (wO_lcR1 (tgt_name (by decide)) (wA_cons (wE_var rfl (wA_nil ⟨m, rfl, by omega, by omega, ?_⟩))))
          walk_at "nm"
          refine compL_inv (rng 0 m.toNat) (fun i ρ acc => ∃ ss, ρ = [.ow .any ds4, .fz (.int m), .fz (.str "abcdefghijklmnopqrstuvwxyz"), .fz (.str tail), .un, .fz (.int sh), .fz (.int way), .un, .un, .fz (.int at_), .fz (.lst (sg.map D.str)), .un] ∧ acc = ss.map D.str ∧ ss.length = i ∧ ∀ s ∈ ss, s.length ≤ 18 ∧ okS s) ⟨[], rfl, rfl, rfl, fun _ h => nomatch h⟩ (fun i x ρ2 acc F' hx hI => ?_) (fun ρ2 acc hI => ?_)
          · obtain ⟨ss3, rfl, rfl, hl4, hs4⟩ := hI
            obtain ⟨hi, rfl⟩ := rng_at hx
            refine wG_name (wT_yes ?_)
            walk_at "nm"
            refine ways_t ?_
            walk_at "wm"
            refine ⟨tail, rfl, by omega, wP_no (wP_some ?_)⟩
            walk_at "wm"
            have cl := cutS_length tail none (some at_)
            have cok : okS (cutS tail none (some at_)) := okS_cut tok
            refine wR_xLAll (by omega) (by rw [List.length_map]; omega) fun d hd => ?_
            obtain ⟨v, hv, rfl⟩ := List.mem_map.mp hd
            obtain ⟨vl, vok⟩ := hs3 v hv
            refine wR_plusS (by omega) ?_
            walk_at "wm"
            refine ⟨tail, rfl, by omega, wP_some ?_⟩
            walk_at "wm"
            refine ⟨_, rfl, ?_⟩
            refine wP_some (wE_int ⟨_, rfl, ?_⟩)
            have cl2 := cutS_length tail (some at_) (some 5)
            have cok2 : okS (cutS tail (some at_) (some 5)) := okS_cut tok
            refine wR_plusS (by rw [len_app]; omega) ?_
            walk_at "wm"
            refine wR_repFew (by omega) (by omega) rfl fun u hu hm => ?_
            have uok := ok_of_mem okQ hm
            refine wR_plusS (by rw [len_app, len_app]; omega) ?_
            refine ⟨ss3 ++ [cutS tail none (some at_) ++ v ++ cutS tail (some at_) (some 5) ++ u], rfl, by rw [List.map_append]; rfl, by rw [List.length_append, hl4]; rfl, fun s h => ?_⟩
            rcases List.mem_append.mp h with z | z
            · exact hs4 s z
            · rw [List.mem_singleton.mp z]
              exact ⟨by rw [len_app, len_app, len_app]; omega, okS_app (okS_app (okS_app cok vok) cok2) uok⟩
          · obtain ⟨ss3, rfl, rfl, hl4, hs4⟩ := hI
            rw [rng_len] at hl4
            walk_at "nm"
            exact ⟨ds4, ss3, _, _, _, .inr (.inr ⟨rfl, ⟨_, rfl⟩, ⟨_, rfl⟩⟩), hB4, rfl, by rw [hl4]; exact hmt, hs4⟩
        · refine ways_ev_f (beq_eq_false_iff_ne.mpr w1) ?_
          walk_at "w"
          refine wE_ofO (wO_lcR1 (tgt_name (by decide)) (wA_cons (wE_var rfl (wA_nil ⟨m, rfl, by omega, by omega, ?_⟩))))
          walk_at "nm"
          refine compL_inv (rng 0 m.toNat) (fun i ρ acc => ∃ ss, ρ = [.ow .any ds3, .fz (.int m), .fz (.str "abcdefghijklmnopqrstuvwxyz"), .fz (.str tail), .un, .fz (.int sh), .fz (.int way), .un, .un, .un, .un, .un] ∧ acc = ss.map D.str ∧ ss.length = i ∧ ∀ s ∈ ss, s.length ≤ 18 ∧ okS s) ⟨[], rfl, rfl, rfl, fun _ h => nomatch h⟩ (fun i x ρ2 acc F' hx hI => ?_) (fun ρ2 acc hI => ?_)
          · obtain ⟨ss3, rfl, rfl, hl3, hs3⟩ := hI
            obtain ⟨hi, rfl⟩ := rng_at hx
            refine wG_name (wT_yes ?_)
            walk_at "nm"
            refine ways_t ?_
            walk_at "wm"
            refine wR_xSAll (by decide +kernel) (by assumption) (by rw [lenL]; assumption) fun c hc => ?_
            obtain ⟨o1, o2⟩ := ok_sg c okL hc
            refine wE_slS (wE_var rfl ⟨tail, rfl, by omega, wP_no (wP_some ?_)⟩)
            walk_at "wm"
            refine ⟨_, rfl, ?_⟩
            have cl := cutS_length tail none (some ‹Int›)
            have cok : okS (cutS tail none (some ‹Int›)) := okS_cut tok
            refine wR_plusS (by omega) ?_
            walk_at "nm"
            refine ⟨ss3 ++ [_], rfl, by rw [List.map_append]; rfl, by rw [List.length_append, hl3]; rfl, fun s h => ?_⟩
            rcases List.mem_append.mp h with z | z
            · exact hs3 s z
            · rw [List.mem_singleton.mp z]
              exact ⟨by rw [len_app]; omega, okS_app o1 cok⟩
          · obtain ⟨ss3, rfl, rfl, hl3, hs3⟩ := hI
            rw [rng_len] at hl3
            walk_at "nm"
            exact ⟨ds3, ss3, _, _, _, .inl ⟨rfl, rfl, rfl⟩, hB3, rfl, by rw [hl3]; exact hmt, hs3⟩
    · obtain ⟨ds4, ss2, s7, s9, s10, hpl, hB4, rfl, hlm, hs2⟩ := hI
      walk_at "w"
      refine wE_call1 eok0 ⟨_, _, rfl⟩ (wA_cons (wE_int (wA_nil ⟨_, _, rfl, 4, rfl, hB4, by decide, by decide, fun ds5 t hB5 ht0 ht1 => rsp_fz ?_⟩)))
      walk_at "w"
      rw [eqi']
      have fin : ∀ (ss3 : List Str), (ss3.length : Int) = m → Nms ss3 → wS K F (tRet (tCall (sp1 K W__law_mixed) [] E0 (tCons (tVar 0) (tCons (tVar 8) tNil)))) [.ow .par ds5, .fz (.int m), .fz (.str "abcdefghijklmnopqrstuvwxyz"), .fz (.str tail), .un, .fz (.int sh), .fz (.int way), s7, .fz (.lst (ss3.map D.str)), s9, s10, .un] (out1 Φ) := by
        intro ss3 h1 h2
        refine wS_ret (wE_call1 eok0 ⟨_, _, rfl⟩ (wA_cons (wE_var rfl (wA_nil ⟨_, _, rfl, ss3, rfl, hB5, by omega, h2, fun ds6 ss6 hB6 hl6 hm6 => rsp_fz ?_⟩))))
        exact ⟨_, rfl, hΦ _ ss6 hB6 (by omega) fun s hs => h2 s (hm6 s hs)⟩
      by_cases t0 : t = 0
      · refine ways_ev_t (by rw [t0]; rfl) ?_
        walk_at "w"
        have hne : 0 < ss2.length := by omega
        have body : ∀ s7 s9 s10 : Sl, unloc s7 = s7 → unloc s9 = s9 → unloc s10 = s10 → ∀ P : Sls → List D → Prop, (∀ ss3 : List Str, ss3.length = ss2.length → (∀ s ∈ ss3, s.length ≤ 37 ∧ okS s) → P [.ow .any ds5, .fz (.int m), .fz (.str "abcdefghijklmnopqrstuvwxyz"), .fz (.str tail), .un, .fz (.int sh), .fz (.int way), s7, .fz (.lst (ss2.map D.str)), s9, s10, .un] (ss3.map D.str)) → compL K (gName 11) tYes (tOp rPlus (tOp rPlus (tVar 11) (tC (V.str (Str.ofString ".")))) (tOp (rIx K) (tVar 8) (tC (V.int 0)))) [11] (ss2.map D.str) [.ow .any ds5, .fz (.int m), .fz (.str "abcdefghijklmnopqrstuvwxyz"), .fz (.str tail), .un, .fz (.int sh), .fz (.int way), s7, .fz (.lst (ss2.map D.str)), s9, s10, .un] [] P := by
          intro s7 s9 s10 u7 u9 u10 P hP
          refine compL_inv (ss2.map D.str) (fun i ρ acc => ∃ ss, ρ = [.ow .any ds5, .fz (.int m), .fz (.str "abcdefghijklmnopqrstuvwxyz"), .fz (.str tail), .un, .fz (.int sh), .fz (.int way), s7, .fz (.lst (ss2.map D.str)), s9, s10, .un] ∧ acc = ss.map D.str ∧ ss.length = i ∧ ∀ s ∈ ss, s.length ≤ 37 ∧ okS s) ⟨[], rfl, rfl, rfl, fun _ h => nomatch h⟩ (fun i x ρ2 acc F' hx hI => ?_) (fun ρ2 acc hI => ?_)
          · obtain ⟨ss3, rfl, rfl, hl3, hs3⟩ := hI
            rw [List.getElem?_map] at hx
            obtain ⟨w, hw, rfl⟩ := Option.map_eq_some_iff.mp hx
            obtain ⟨wl, wok⟩ := hs2 w (List.mem_of_getElem? hw)
            refine wG_name (wT_yes ?_)
            walk_at "nm"
            refine ways_t ?_
            walk_at "w"
            refine wR_plusS (by have : (Str.ofString ".").length = 1 := rfl; omega) ?_
            walk_at "w"
            refine wR_xLAll (Int.le_refl 0) (by show (0 : Int) < ((ss2.map D.str).length : Int); rw [List.length_map]; omega) fun d hd => ?_
            obtain ⟨v, hv, rfl⟩ := List.mem_map.mp hd
            obtain ⟨vl, vok⟩ := hs2 v hv
            have d1 : (Str.ofString ".").length = 1 := rfl
            refine wR_plusS (by rw [len_app]; omega) ?_
            refine ⟨ss3 ++ [w ++ Str.ofString "." ++ v], ?_, by rw [List.map_append]; rfl, by rw [List.length_append, hl3]; rfl, fun s h => ?_⟩
            · show [_, _, _, _, _, _, _, unloc s7, _, unloc s9, unloc s10, _] = _
              rw [u7, u9, u10]
              rfl
            rcases List.mem_append.mp h with z | z
            · exact hs3 s z
            · rw [List.mem_singleton.mp z]
              exact ⟨by rw [len_app, len_app]; omega, okS_app (okS_app wok (okS_of (by decide +kernel))) vok⟩
          · obtain ⟨ss3, rfl, rfl, hl3, hs3⟩ := hI
            rw [List.length_map] at hl3
            exact hP ss3 hl3 hs3
        refine ⟨_, rfl, by rw [List.length_map]; omega, ?_⟩
        rcases hpl with ⟨rfl, rfl, rfl⟩ | ⟨⟨e1, rfl⟩, rfl, rfl⟩ | ⟨rfl, ⟨e1, rfl⟩, ⟨e2, rfl⟩⟩
        all_goals refine body _ _ _ rfl rfl rfl _ fun ss3 h1 h2 => ?_
        all_goals exact fin ss3 (by omega) fun s hs => ⟨by have := (h2 s hs).1; omega, (h2 s hs).2⟩
      · refine ways_ev_f (beq_eq_false_iff_ne.mpr t0) ?_
        refine wS_next (fin ss2 hlm fun s hs => ⟨by have := (hs2 s hs).1; omega, (hs2 s hs).2⟩)

theorem ok__law_pairs {f : Addr} {fd : FuncData} (F : L2.Fun K "_law_pairs" "_law_pairs" s__law_pairs f fd) (U : True) (c__law_take : Callee P w K mg base 1 "_law_take" (sp1 K W__law_take)) (c__law_mixed : Callee P w K mg base 2 "_law_mixed" (sp1 K W__law_mixed)) (c__law_names : Callee P w K mg base 3 "_law_names" (sp1 K W__law_names)) (m_enumerate : mg "enumerate" = none) (m_len : mg "len" = none) : FnOk P w K mg base L2.CX0 4 f fd ["box", "names"] (sp1 K W__law_pairs) := by
  refine F.ok sc__law_pairs (fun vs H Q E h => sp1_len (by rintro _ _ _ _ ⟨_, rfl, _⟩; rfl) h) (fun cdv A outer s H vs Q E hr h => ⟨_, (pss_cons (ps_set (i := 2) sc__law_pairs.nd rfl (Or.inl rfl) (DL.pe_cl c__law_take hr (by omega) (by rfl) (pa_cons (pv 0) (pa_cons pe_int pa_nil)))) (pss_cons (ps_set (i := 3) sc__law_pairs.nd rfl (Or.inl rfl) pe_dnewK) (pss_cons (ps_set (i := 4) sc__law_pairs.nd rfl (Or.inl rfl) (DL.pe_cl c__law_mixed hr (by omega) (by rfl) (pa_cons (pv 0) (pa_cons (pv 1) pa_nil)))) (pss_cons (ps_set (i := 5) sc__law_pairs.nd rfl (Or.inl rfl) (DL.pe_cl c__law_names hr (by omega) (by rfl) (pa_cons (pv 0) (pa_cons pe_int pa_nil)))) (pss_cons (ps_for PassesOwn.never rfl (pi_enum (by rfl) m_enumerate (pa_cons (pv 1) pa_nil)) (show PG _ _ (gTup K 2 _) from pg_tup rfl (pgs_cons (pg_name (i := 6) sc__law_pairs.nd rfl (Or.inl rfl)) (pgs_cons (pg_name (i := 7) sc__law_pairs.nd rfl (Or.inl rfl)) pgs_nil))) (pss_cons (ps_if (pt_cmpR (op_eqD hr.units) (pv 2) pe_int (nomark _)) (pss_one (ps_dput (DL.units1 hr) (pv 3) (pv 7) (pe_ix ix_seq (pv 4) (pv 6) (fun _ _ => rfl)) rfl)) pss_nil) (pss_one (ps_if (PW.pt (pw_and (pt_cmpR (op_eqD hr.units) (pv 2) pe_int (nomark _)) (pw_and1 (pt_cmpR (op_eqD hr.units) (DL.pe_cl c__law_take hr (by omega) (by rfl) (pa_cons (pv 0) (pa_cons pe_int pa_nil))) pe_int (nomark _))))) (pss_one (ps_dput (DL.units1 hr) (pv 3) (pv 7) (pe_ix ix_seq (pv 5) (pv 6) (fun _ _ => rfl)) rfl)) pss_nil)))) (pss_cons (ps_if (PW.pt (pw_and (pt_cmpR (op_neD hr.units) (pv 1) (pe_lst pa_nil) (nomark _)) (pw_and1 (pt_cmpR (op_eqD hr.units) (DL.pe_cl c__law_take hr (by omega) (by rfl) (pa_cons (pv 0) (pa_cons pe_int pa_nil))) pe_int (nomark _))))) (pss_one (ps_dput (DL.units1 hr) (pv 3) (pe_ix ix_seq (pv 1) (DL.pe_cl c__law_take hr (by omega) (by rfl) (pa_cons (pv 0) (pa_cons (pe_callB call_len (by rfl) m_len PySem.boot_len (pa_cons (pv 1) pa_nil)) pa_nil))) (fun _ _ => rfl)) (pe_ix ix_seq (pv 1) (DL.pe_cl c__law_take hr (by omega) (by rfl) (pa_cons (pv 0) (pa_cons (pe_callB call_len (by rfl) m_len PySem.boot_len (pa_cons (pv 1) pa_nil)) pa_nil))) (fun _ _ => rfl)) rfl)) pss_nil) (pss_cons (ps_dput (DL.units1 hr) (pv 3) pe_str pe_str rfl) (pss_one (ps_ret (DL.pe_fz (pv 3))))))))))), body1 h ?_⟩)
  try dsimp only [cxOf]
  intro ds es Φ X F hW hE
  obtain ⟨ss, rfl, hB, hn, hN, hΦ⟩ := hW
  refine wS_seq (wS_set (wE_call1 eok0 ⟨_, _, rfl⟩ (wA_cons (wE_int (wA_nil ⟨_, _, rfl, 3, rfl, hB, by decide, by decide, fun ds2 way hB2 hw0 hw1 => rsp_fz ?_⟩)))))
  walk_at "nm"
  refine wS_seq (wS_setD (wD_new ?_))
  walk_at "nm"
  refine wS_seq (wS_set (wE_call1 eok0 ⟨_, _, rfl⟩ (wA_cons (wE_var rfl (wA_nil ⟨_, _, rfl, ss, rfl, hB2, by omega, hN, fun ds3 mi hB3 hml hmm => rsp_fz ?_⟩)))))
  walk_at "nm"
  refine wS_seq (wS_set (wE_call1 eok0 ⟨_, _, rfl⟩ (wA_cons (wE_int (wA_nil ⟨_, _, rfl, 30, rfl, hB3, by decide, by decide, fun ds4 fr hB4 hfl hfn => rsp_fz ?_⟩)))))
  walk_at "nm"
  refine wS_seq (wS_forEnum (wA_cons (wE_var rfl (wA_nil ⟨_, rfl, ?_⟩))))
  refine forS_inv _ (fun i ρ => ∃ ds' ps a b, ρ = [.ow .par ds', .fz (.lst (ss.map .str)), .fz (.int way), .od .loc (kvs ps), .fz (.lst (mi.map .str)), .fz (.lst (fr.map .str)), a, b] ∧ Box ds' ∧ PairsOk ps ∧ ps.length ≤ 2 * i) ⟨ds4, [], _, _, rfl, hB4, PairsOk.nil, Nat.zero_le _⟩ (fun i x ρ2 hx hI => ?_) (fun ρ2 hI => ?_)
  · obtain ⟨ds', ps, a, b, rfl, hB', hP, hl⟩ := hI
    obtain ⟨d, hd, rfl⟩ := enum_at hx
    rw [List.getElem?_map] at hd
    obtain ⟨nm, hnm, rfl⟩ := Option.map_eq_some_iff.mp hd
    have hi : i < ss.length := (List.getElem?_eq_some_iff.mp hnm).1
    have hnN := hN nm (List.mem_of_getElem? hnm)
    refine wG_tup2 ?_
    walk_at "nm"
    refine wS_seq (wS_mono (O := { nx := fun ρ => ∃ ps', ρ = [.ow .par ds', .fz (.lst (ss.map .str)), .fz (.int way), .od .loc (kvs ps'), .fz (.lst (mi.map .str)), .fz (.lst (fr.map .str)), .fz (.int (i : Int)), .fz (.str nm)] ∧ PairsOk ps' ∧ ps'.length ≤ 2 * i + 1, rt := fun _ _ => False }) ?_ (fun ρ hI => ?_) (fun _ _ h => h.elim) (fun _ _ h => h.elim) (fun _ h => h.elim) (fun _ h => h.elim))
    · walk_at "w"
      rw [eqi']
      by_cases w1 : way = 1
      · refine ways_ev_t (by rw [w1]; rfl) ?_
        refine wS_put ?_
        walk_at "w"
        refine wR_xLAll (by omega) (by rw [List.length_map]; omega) fun d hd => ?_
        obtain ⟨v, hv, rfl⟩ := List.mem_map.mp hd
        refine ⟨⟨_, _, rfl⟩, wE_var rfl ⟨_, _, _, rfl, rfl, by rw [kvs_len]; have := hP.n; omega, ?_⟩⟩
        walk_at "nm"
        rw [put_kvs]
        exact ⟨_, rfl, hP.put (by omega) hnN (hN v (hmm v hv)), by have := putL_len ps nm (.str v); omega⟩
      · refine ways_ev_f (beq_eq_false_iff_ne.mpr w1) ?_
        exact wS_next ⟨_, rfl, hP, by omega⟩
    · obtain ⟨ps', rfl, hP', hl'⟩ := hI
      walk_at "w"
      rw [eqi']
      by_cases w2 : way = 2
      · refine ways_ev_t (by rw [w2]; rfl) ?_
        walk_at "w"
        refine wE_call1 eok0 ⟨_, _, rfl⟩ (wA_cons (wE_int (wA_nil ⟨_, _, rfl, 2, rfl, hB', by decide, by decide, fun ds5 t hB5 ht0 ht1 => rsp_fz ?_⟩)))
        walk_at "w"
        rw [eqi']
        by_cases t0 : t = 0
        · refine ways_ev_t (by rw [t0]; rfl) ?_
          refine wS_put ?_
          walk_at "w"
          refine wR_xLAll (by omega) (by rw [List.length_map]; omega) fun d hd => ?_
          obtain ⟨v, hv, rfl⟩ := List.mem_map.mp hd
          refine ⟨⟨_, _, rfl⟩, wE_var rfl ⟨_, _, _, rfl, rfl, by rw [kvs_len]; have := hP'.n; omega, ?_⟩⟩
          walk_at "nm"
          rw [put_kvs]
          exact ⟨_, _, _, _, rfl, hB5, hP'.put (by omega) hnN (hfn v hv), by have := putL_len ps' nm (.str v); omega⟩
        · refine ways_ev_f (beq_eq_false_iff_ne.mpr t0) ?_
          exact wS_next ⟨_, _, _, _, rfl, hB5, hP', by omega⟩
      · refine ways_ev_f (beq_eq_false_iff_ne.mpr w2) ?_
        refine ways_f ?_
        exact wS_next ⟨_, _, _, _, rfl, hB', hP', by omega⟩
  · obtain ⟨ds', ps, a, b, rfl, hB', hP, hl⟩ := hI
    have e : (enumD (ss.map D.str)).length = ss.length := by unfold enumD; rw [List.length_mapIdx, List.length_map]
    rw [e] at hl
    have fin : ∀ (ds6 : List D) (ps6 : KV) (a b : Sl), Box ds6 → PairsOk ps6 → ps6.length ≤ 25 → wS K F (tSeq (sDPut (tVar 3) (tC (V.str (Str.ofString "nobodyq"))) (tC (V.str (Str.ofString "q")))) (tRet (tFz (tVar 3)))) [.ow .par ds6, .fz (.lst (ss.map .str)), .fz (.int way), .od .loc (kvs ps6), .fz (.lst (mi.map .str)), .fz (.lst (fr.map .str)), a, b] (out1 Φ) := by
      intro ds6 ps6 a b hB6 hP6 hl6
      refine wS_seq (wS_put ?_)
      walk_at "w"
      refine ⟨⟨_, _, rfl⟩, wE_str ⟨_, _, _, rfl, rfl, by rw [kvs_len]; omega, ?_⟩⟩
      walk_at "nm"
      rw [put_kvs]
      exact wS_ret (wE_fzV rfl (⟨_, rfl, hΦ _ _ hB6 (hP6.put (by omega) ⟨by decide +kernel, okS_of (by decide +kernel)⟩ ⟨by decide +kernel, okS_of (by decide +kernel)⟩)⟩))
    walk_at "w"
    refine wR_neD (toPy_strs ss) rfl (shaped_strs hN.ok) (by kernel_rfl) ?_
    walk_at "w"
    cases ss with
    | nil =>
      refine ways_ev_f (by rfl) ?_
      refine ways_f ?_
      exact wS_next (fin _ _ _ _ hB' hP (by omega))
    | cons s0 sr =>
      refine ways_ev_t (by rfl) ?_
      walk_at "w"
      refine wE_call1 eok0 ⟨_, _, rfl⟩ (wA_cons (wE_int (wA_nil ⟨_, _, rfl, 2, rfl, hB', by decide, by decide, fun ds5 t hB5 ht0 ht1 => rsp_fz ?_⟩)))
      walk_at "w"
      rw [eqi']
      by_cases t0 : t = 0
      · refine ways_ev_t (by rw [t0]; rfl) ?_
        refine wS_put ?_
        walk_at "w"
        refine wE_call1 eok0 ⟨_, _, rfl⟩ (wA_cons (wE_cb (wA_cons (wE_var rfl (wA_nil (wC_len (n := (s0 :: sr).length) (by simp [DL.lenD]) (wA_nil ⟨_, _, rfl, _, rfl, hB5, by rw [List.length_cons]; omega, by omega, fun ds7 j1 hB7 hj0 hj1 => rsp_fz ?_⟩)))))))
        walk_at "w"
        refine wR_xLAll (by omega) (by rw [List.length_map]; omega) fun d hd => ?_
        obtain ⟨v, hv, rfl⟩ := List.mem_map.mp hd
        refine ⟨⟨_, _, rfl⟩, ?_⟩
        walk_at "w"
        refine wE_call1 eok0 ⟨_, _, rfl⟩ (wA_cons (wE_cb (wA_cons (wE_var rfl (wA_nil (wC_len (n := (s0 :: sr).length) (by simp [DL.lenD]) (wA_nil ⟨_, _, rfl, _, rfl, hB7, by rw [List.length_cons]; omega, by omega, fun ds8 j2 hB8 hk0 hk1 => rsp_fz ?_⟩)))))))
        walk_at "w"
        refine wR_xLAll (by omega) (by rw [List.length_map]; omega) fun d2 hd2 => ?_
        obtain ⟨u, hu, rfl⟩ := List.mem_map.mp hd2
        refine ⟨_, _, _, rfl, rfl, by rw [kvs_len]; have := hP.n; omega, ?_⟩
        walk_at "nm"
        rw [put_kvs]
        exact fin _ _ _ _ hB8 (hP.put (by omega) (hN u hu) (hN v hv)) (by have := putL_len ps u (.str v); omega)
      · refine ways_ev_f (beq_eq_false_iff_ne.mpr t0) ?_
        exact wS_next (fin _ _ _ _ hB5 hP (by omega))

theorem ok__law_answer {f : Addr} {fd : FuncData} (F : L2.Fun K "_law_answer" "_law_answer" s__law_answer f fd) (U : True) (c_named_row : CalleeX P w K mg base 4 "named_row" (sp0 K (W_named_row e))) (g_Twice : mg "Twice" = some (.ref e.tw)) (g_BeatError : mg "BeatError" = some (.ref e.be)) (xf_Twice : XfC K e.tw) (xn_Twice : PySem.W.findIn K (.ref e.tw) "name" = some none) (xm_Twice_Twice : PySem.W.exmOne K (.ref e.tw) (.ref e.tw) = some true) (xi_Twice : XiC K e.tw) (ix_Twice_BeatError : PySem.W.kitOne K (.ref e.tw) (.ref e.be) = some true) (m_isinstance : mg "isinstance" = none) (m_dict : mg "dict" = none) (m_list : mg "list" = none) : FnOk P w K mg base L2.CX0 5 f fd ["row", "names"] (sp0 K W__law_answer) := by
  refine F.ok sc__law_answer (fun vs H Q E h => sp0_len (by rintro _ _ _ ⟨_, _, rfl, _⟩; rfl) h) (fun cdv A outer s H vs Q E hr h => ⟨_, (pss_one (DL.ps_tryK rfl rfl sc__law_answer.nd (fun W pn xe tk po => (pss_one (ps_set (i := 2) sc__law_answer.nd rfl (Or.inl rfl) (DL.pe_clxS c_named_row hr (by omega) (by rfl) tk (pa_cons (pv 0) (pa_cons (pv 1) pa_nil)))))) (DL.ClsOk.as_ (c := .ref e.tw) (i := 3) ⟨by rfl, by decide, .inl g_Twice⟩ rfl rfl (fun a oe k d pn hz hf => (pss_one (ps_ret (pe_tup (pa_cons pe_str (pa_cons (pe_xf xf_Twice xn_Twice hz hf (pv 3)) (pa_cons (pe_callB (DL.call_isX hz hf) (by rfl) m_isinstance PyProof.Rows.boot_isinstance (pa_cons (pv 3) (pa_cons (pe_glob (v := .ref e.be) (by rfl) g_BeatError rfl) pa_nil))) pa_nil))))))) DL.ClsOk.nil) (pss_one (ps_ret (pe_tup (pa_cons pe_str (pa_cons (DL.pe_itemsL rfl (pv 2) (by rfl) m_list PyProof.Rows.boot_list) (pa_cons (pe_callB call_isi (by rfl) m_isinstance PyProof.Rows.boot_isinstance (pa_cons (pv 2) (pa_cons (pe_bltn (v := .ty "dict") (by rfl) m_dict PyProof.Rows.boot_dict rfl) pa_nil))) pa_nil)))))))), body0 h ?_⟩)
  try dsimp only [cxOf]
  intro ds Φ X F hW hE
  obtain ⟨row, ps, rfl, hr, hp, hΦ⟩ := hW
  refine wS_try (wX_set (wA_cons (wE_var rfl (wA_cons (wE_var rfl (wA_nil ⟨row, ps, rfl, hr, hp, fun s hs => ?_, fun hd => rsp_fz ?_⟩))))))
  · rw [ans_two hs] at hΦ
    refine ⟨true, xm_Twice_Twice, fun h => (nomatch h), fun _ => ⟨Nat.le_of_ble_eq_true rfl, fun a d => ?_⟩⟩
    walk_at "nm"
    refine wS_ret (wE_tup (wA_cons (wE_str (wA_cons (wE_xf rfl rfl (wA_cons (wE_cb (wA_cons (wE_var rfl (wA_cons (wE_con (d := .adr e.be) (fun _ => .adr _) (wA_nil (wC_isX xi_Twice ix_Twice_BeatError (wA_nil ?_))))))))))))))
    exact ⟨Nat.le_of_ble_eq_true rfl, hΦ⟩
  · rw [ans_told hd] at hΦ
    walk_at "nm"
    refine wS_ret (wE_tup (wA_cons (wE_str (wA_cons (wE_ofO (wO_itemsL (wE_var rfl ⟨_, rfl, ?_⟩)))))))
    walk_at "w"
    rw [itemsD_kvs]
    exact hΦ

theorem ok__law_due {f : Addr} {fd : FuncData} (F : L2.Fun K "_law_due" "_law_due" s__law_due f fd) (U : True) (m_range : mg "range" = none) (m_len : mg "len" = none) : FnOk P w K mg base L2.CX0 1 f fd ["row", "names"] (sp0 K W__law_due) := by
  refine F.ok sc__law_due (fun vs H Q E h => sp0_len (by rintro _ _ _ ⟨_, _, rfl, _⟩; rfl) h) (fun cdv A outer s H vs Q E hr h => ⟨_, (pss_cons (ps_setLc (i := 2) (own := [("name", 3)]) (g := (gName 3)) (tt := tYes) rfl sc__law_due.nd rfl rfl (sw_true rfl rfl rfl (by decide +kernel)) (pi_keys (pv 0)) (blkOk_by (N := N__law_due) (sc := defScope s__law_due) (by decide +kernel)) (fun _ _ _ _ _ => (pg_name (i := 3) sc__law_due.nd rfl (Or.inl rfl))) (fun _ _ _ _ _ => pts_nil) (fun _ _ _ _ _ => (pe_dget2 (DL.units1 hr) (pv 1) (pv 3) (pv 3) ⟨rfl, rfl, rfl, rfl⟩))) (pss_cons (ps_for PassesOwn.never rfl (pi_range1 rfl m_range (pa_cons (pe_callB call_len (by rfl) m_len PySem.boot_len (pa_cons (pv 2) pa_nil)) pa_nil)) (pg_name (i := 4) sc__law_due.nd rfl (Or.inl rfl)) (pss_one (ps_if (pt_cmpR op_in_seq (pe_ix ix_seq (pv 2) (pv 4) (fun _ _ => rfl)) (pe_slice sl_list (pv 2) po_none (po_some (pv 4))) (by rfl)) (pss_one (ps_ret (pe_tup (pa_cons pe_str (pa_cons (pe_ix ix_seq (pv 2) (pv 4) (fun _ _ => rfl)) (pa_cons pe_bl pa_nil)))))) pss_nil))) (pss_one (ps_ret (pe_tup (pa_cons pe_str (pa_cons (pe_lc (own := [("name", 3)]) (g := (gName 3)) (tt := tYes) rfl sc__law_due.nd (pi_keys (pv 0)) (blkOk_by (N := N__law_due) (sc := defScope s__law_due) (by decide +kernel)) (fun _ _ _ _ _ => (pg_name (i := 3) sc__law_due.nd rfl (Or.inl rfl))) (fun _ _ _ _ _ => pts_nil) (fun _ _ _ _ _ => (pe_tup (pa_cons (pe_dget2 (DL.units1 hr) (pv 1) (pv 3) (pv 3) ⟨rfl, rfl, rfl, rfl⟩) (pa_cons (pe_dget (DL.units1 hr) (pv 0) (pv 3) (fun _ _ => rfl)) pa_nil))))) (pa_cons pe_bl pa_nil)))))))), body0 h ?_⟩)
  try dsimp only [cxOf]
  intro ds Φ X F hW hE
  obtain ⟨row, ps, rfl, hr, hp, hΦ⟩ := hW
  walk_at "w"
  have hk : keysD (kvs row) = row.map fun p => D.str p.1 := keysD_kvs row
  refine wE_ofO (wO_lcK (tgt_name (by decide)) (wE_var rfl ⟨_, rfl, by rw [kvs_len]; have := hr.n; omega, ?_⟩))
  walk_at "nm"
  refine compL_flt (p := fun _ => true) (f := fun d => match d with | .str s => .str (ren ps s) | _ => .non) _ _ (fun F' x hx => ?_) ?_
  · rw [hk] at hx
    obtain ⟨p, _, rfl⟩ := List.mem_map.mp hx
    refine wG_name (wT_yes ?_)
    walk_at "nm"
    refine ⟨rfl, fun h => (nomatch h), fun _ => ?_⟩
    refine wE_dget2 (wE_var rfl ⟨_, rfl, wE_var rfl (wE_var rfl ⟨_, rfl, ?_⟩)⟩)
    rw [ren_at hp]
    exact ⟨rfl, rfl⟩
  walk_at "nm"
  rw [List.filter_eq_self.mpr (fun _ _ => rfl), hk, List.map_map]
  have ef : row.map ((fun d => match d with | D.str s => D.str (ren ps s) | _ => D.non) ∘ fun p => D.str p.1) = (fresh row ps).map D.str := by
    unfold fresh
    rw [List.map_map]
    rfl
  have hfl : (fresh row ps).length = row.length := by unfold fresh; rw [List.length_map]
  have hn := hr.n
  rw [ef]
  refine wS_seq (wS_forR1 (wA_cons (wE_cb (wA_cons (wE_var rfl (wA_nil (wC_len (n := (fresh row ps).length) (by simp [DL.lenD]) (wA_nil ⟨_, rfl, by omega, by omega, ?_⟩))))))))
  refine forS_inv _ (fun i ρ => ∃ a, ρ = [.fz (.dkv (kvs row)), .fz (.dkv (kvs ps)), .fz (.lst ((fresh row ps).map .str)), .un, a] ∧ dup [] ((fresh row ps).take i) = none ∧ (a = .un ∨ ∃ d, a = .fz d)) ⟨_, rfl, rfl, .inl rfl⟩ (fun i x ρ2 hx hI => ?_) (fun ρ2 hI => ?_)
  · obtain ⟨a, rfl, hd, ha⟩ := hI
    obtain ⟨hi, rfl⟩ := rng_at hx
    have hi2 : i < (fresh row ps).length := by omega
    have hg : (fresh row ps)[i]? = some (fresh row ps)[i] := List.getElem?_eq_getElem hi2
    generalize (fresh row ps)[i] = v at hg
    refine wG_name ?_
    walk_at "nm"
    have e0 : (0 : Int) + (i : Int) = (i : Int) := by omega
    rw [e0]
    have hat : atI ((fresh row ps).map D.str) (i : Int) = some (.str v) := atI_nat (by rw [List.getElem?_map, hg]; rfl)
    refine wS_if (wT_test (wE_op (wE_op (wE_var rfl (wE_var rfl (wR_xL hat (wE_ofO (wO_slL (wE_var rfl ⟨_, rfl, wP_no (wP_some (wE_var rfl ⟨_, rfl, ?_⟩))⟩)))))))))
    rw [cutD_take _ _ (by rw [List.length_map]; omega), ← List.map_take]
    refine wR_inL rfl (flat_strs _) (onB_bl ?_)
    rw [inD_str]
    have hst := dup_step hg hd
    refine ways_dec (fun hm => ?_) (fun hm => ?_)
    · rw [if_pos hm] at hst
      rw [ans_two (dup_take hst)] at hΦ
      exact wS_ret (wE_tup (wA_cons (wE_str (wA_cons (wE_op (wE_var rfl (wE_var rfl (wR_xL hat (wA_cons (wE_bl (wA_nil ⟨Nat.le_of_ble_eq_true rfl, hΦ⟩))))))))))) 
    · rw [if_neg hm] at hst
      exact wS_next ⟨_, rfl, hst, .inr ⟨_, rfl⟩⟩
  · obtain ⟨a, rfl, hd, ha⟩ := hI
    rw [rng_len, Int.toNat_natCast, List.take_length] at hd
    rw [ans_told hd] at hΦ
    rcases ha with rfl | ⟨d0, rfl⟩
    all_goals (
      refine wS_ret (wE_tup (wA_cons (wE_str (wA_cons (wE_ofO (wO_lcK (tgt_name (by decide)) (wE_var rfl ⟨_, rfl, by rw [kvs_len]; omega, ?_⟩)))))))
      walk_at "nm"
      refine compL_inv (keysD (kvs row)) (fun i ρ acc => ρ = [.fz (.dkv (kvs row)), .fz (.dkv (kvs ps)), .fz (.lst ((fresh row ps).map .str)), .un, _] ∧ acc = (renRow (row.take i) ps).map fun p => .tup [.str p.1, p.2]) ⟨rfl, rfl⟩ (fun i x ρ2 acc F' hx hI => ?_) (fun ρ2 acc hI => ?_)
      · obtain ⟨rfl, rfl⟩ := hI
        rw [hk, List.getElem?_map] at hx
        obtain ⟨p, hp1, rfl⟩ := Option.map_eq_some_iff.mp hx
        refine wG_name (wT_yes ?_)
        walk_at "nm"
        refine ways_t (wE_tup (wA_cons (wE_dget2 (wE_var rfl ⟨_, rfl, wE_var rfl (wE_var rfl ⟨_, rfl, ?_⟩)⟩))))
        rw [ren_at hp]
        refine wA_cons (wE_dget (wE_var rfl (wE_var rfl ⟨_, _, _, rfl, rfl, row_at hr (List.mem_of_getElem? hp1), ?_⟩)))
        refine wA_nil ⟨Nat.le_of_ble_eq_true rfl, rfl, ?_⟩
        rw [renRow_step hp1, List.map_append]
        rfl
      · obtain ⟨rfl, rfl⟩ := hI
        rw [hk, List.length_map, List.take_length]
        walk_at "w"
        exact hΦ
    )

theorem ok_law {f : Addr} {fd : FuncData} (F : L2.Fun K "law" "law" s_law f fd) (U : True) (c__law_box : Callee P w K mg base 1 "_law_box" (sp0 K W__law_box)) (c__law_cell_at : Callee P w K mg base 1 "_law_cell_at" (sp0 K W__law_cell_at)) (c__law_names : Callee P w K mg base 3 "_law_names" (sp1 K W__law_names)) (c__law_take : Callee P w K mg base 1 "_law_take" (sp1 K W__law_take)) (c__law_pairs : Callee P w K mg base 4 "_law_pairs" (sp1 K W__law_pairs)) (c__law_answer : Callee P w K mg base 5 "_law_answer" (sp0 K W__law_answer)) (c__law_due : Callee P w K mg base 1 "_law_due" (sp0 K W__law_due)) (c__law_mixed : Callee P w K mg base 2 "_law_mixed" (sp1 K W__law_mixed)) (c_named_clock : Callee P w K mg base 1 "named_clock" (sp0 K W_named_clock)) (m_range : mg "range" = none) (m_max : mg "max" = none) (m_min : mg "min" = none) (m_len : mg "len" = none) (m_dict : mg "dict" = none) (m_repr : mg "repr" = none) (m_tuple : mg "tuple" = none) (m_isinstance : mg "isinstance" = none) : FnG P w K mg base 6 f fd ["script"] (sp0 K W_law) := by
  refine FnG.of F sc_law (fun vs H Q E h => sp0_len (by rintro _ _ _ ⟨_, _, rfl, _⟩; rfl) h) (fun cdv A outer s H vs Q E hq hr h => ⟨_, (pss_cons (ps_for PassesOwn.never rfl (pi_range1 rfl m_range (pa_cons (pe_callB (call_max2 rfl) (by rfl) m_max (by decide +kernel) (pa_cons pe_int (pa_cons (pe_callB (call_min2 rfl) (by rfl) m_min (by decide +kernel) (pa_cons (pe_callB call_len (by rfl) m_len PySem.boot_len (pa_cons (pv 0) pa_nil)) (pa_cons pe_int pa_nil))) pa_nil))) pa_nil)) (pg_name (i := 1) sc_law.nd rfl (Or.inl rfl)) (pss_cons (ps_set (i := 2) sc_law.nd rfl (Or.inl rfl) (DL.pe_cl c__law_box hr (by omega) (by rfl) (pa_cons (DL.pe_cl c__law_cell_at hr (by omega) (by rfl) (pa_cons (pv 0) (pa_cons (pv 1) pa_nil))) pa_nil))) (pss_cons (ps_set (i := 3) sc_law.nd rfl (Or.inl rfl) (pe_slice sl_list (DL.pe_cl c__law_names hr (by omega) (by rfl) (pa_cons (pv 2) (pa_cons pe_int pa_nil))) po_none (po_some (DL.pe_cl c__law_take hr (by omega) (by rfl) (pa_cons (pv 2) (pa_cons pe_int pa_nil)))))) (pss_cons (ps_set (i := 4) sc_law.nd rfl (Or.inr rfl) (DL.pe_cl c__law_pairs hr (by omega) (by rfl) (pa_cons (pv 2) (pa_cons (pv 3) pa_nil)))) (pss_cons (ps_set (i := 5) sc_law.nd rfl (Or.inl rfl) pe_dnewK) (pss_cons (ps_for PassesOwn.never rfl (pi_list (pv 3)) (pg_name (i := 6) sc_law.nd rfl (Or.inl rfl)) (pss_one (ps_dput (DL.units1 hr) (pv 5) (pv 6) (pe_ix ix_seq (pe_lst (pa_cons (DL.pe_cl c__law_take hr (by omega) (by rfl) (pa_cons (pv 2) (pa_cons pe_int pa_nil))) (pa_cons pe_bl (pa_cons pe_bl (pa_cons (pe_op op_sub pe_int (DL.pe_cl c__law_take hr (by omega) (by rfl) (pa_cons (pv 2) (pa_cons (pe_op op_pow pe_int pe_int) pa_nil)))) (pa_cons pe_non pa_nil)))))) (DL.pe_cl c__law_take hr (by omega) (by rfl) (pa_cons (pv 2) (pa_cons pe_int pa_nil))) (fun _ _ => rfl)) rfl))) (pss_cons (ps_set (i := 7) sc_law.nd rfl (Or.inl rfl) (pe_lst (pa_cons (DL.pe_fz (pe_callTy call_dictD (by rfl) m_dict PyProof.Rows.boot_dict (pa_cons (pv 5) pa_nil))) (pa_cons (DL.pe_fz (pe_callTy call_dictD (by rfl) m_dict PyProof.Rows.boot_dict (pa_cons (pv 4) pa_nil))) pa_nil)))) (pss_cons (ps_if (PW.pt (pw_or (pt_cmpR op_ne (pe_callB (DL.call_reprD hq hr.units) (by rfl) m_repr PyProof.Rows.bootS_repr (pa_cons (DL.pe_cl c__law_answer hr (by omega) (by rfl) (pa_cons (pe_ix ix_seq (pv 7) pe_int (fun _ _ => rfl)) (pa_cons (pe_ix ix_seq (pv 7) pe_int (fun _ _ => rfl)) pa_nil))) pa_nil)) (pe_callB (DL.call_reprD hq hr.units) (by rfl) m_repr PyProof.Rows.bootS_repr (pa_cons (DL.pe_cl c__law_due hr (by omega) (by rfl) (pa_cons (DL.pe_fz (pv 5)) (pa_cons (pv 4) pa_nil))) pa_nil)) (nomark _)) (pw_or1 (pt_cmpR (DL.op_neLD (DL.units65 hr)) (pv 7) (pe_lst (pa_cons (pv 5) (pa_cons (pv 4) pa_nil))) (nomark _))))) (pss_one (ps_ret pe_bl)) pss_nil) (pss_cons (ps_set (i := 8) sc_law.nd rfl (Or.inl rfl) (pe_callTy call_tuple_of (by rfl) m_tuple PyProof.Rows.boot_tuple (pa_cons (pe_slice sl_list (DL.pe_cl c__law_mixed hr (by omega) (by rfl) (pa_cons (pv 2) (pa_cons (pv 3) pa_nil))) po_none (po_some (DL.pe_cl c__law_take hr (by omega) (by rfl) (pa_cons (pv 2) (pa_cons pe_int pa_nil))))) pa_nil))) (pss_cons (ps_set (i := 9) sc_law.nd rfl (Or.inl rfl) (DL.pe_cl c_named_clock hr (by omega) (by rfl) (pa_cons (pv 8) (pa_cons (pe_ix ix_seq (pv 7) pe_int (fun _ _ => rfl)) pa_nil)))) (pss_one (ps_if (PW.pt (pw_or (pt_not (pt_val (pe_callB call_isi (by rfl) m_isinstance PyProof.Rows.boot_isinstance (pa_cons (pv 9) (pa_cons (pe_bltn (v := .ty "tuple") (by rfl) m_tuple PyProof.Rows.boot_tuple rfl) pa_nil))))) (pw_or1 (pt_cmpR (op_neD hr.units) (pv 9) (pe_callTy call_tuple_of (by rfl) m_tuple PyProof.Rows.boot_tuple (pa_cons (pe_lc (own := [("name", 6)]) (g := (gName 6)) (tt := tYes) rfl sc_law.nd (pi_tup (pv 8)) (blkOk_by (N := N_law) (sc := defScope s_law) (by decide +kernel)) (fun _ _ _ _ _ => (pg_name (i := 6) sc_law.nd rfl (Or.inl rfl))) (fun _ _ _ _ _ => pts_nil) (fun _ _ _ _ _ => (pe_dget2 (DL.units1 hr) (pv 4) (pv 6) (pv 6) ⟨rfl, rfl, rfl, rfl⟩))) pa_nil)) (nomark _))))) (pss_one (ps_ret pe_bl)) pss_nil)))))))))))) (pss_one (ps_ret pe_bl))), body0 h ?_⟩)
  try dsimp only [cxOf]
  intro ds Φ X F hW hE
  obtain ⟨ns, hl, rfl, hΦ⟩ := hW
  walk_at "w"
  refine ⟨_, rfl, by split <;> split <;> omega, by split <;> split <;> omega, ?_⟩
  refine forS_inv _ (fun _ ρ => ∃ s1 s2 s3 s4 s5 s6 s7 s8 s9, ρ = [.fz (.scr ns), s1, s2, s3, s4, s5, s6, s7, s8, s9]) ⟨_, _, _, _, _, _, _, _, _, rfl⟩ (fun i x0 ρ2 hx0 hI => ?_) (fun ρ2 hI => ?_)
  · obtain ⟨s1, s2, s3, s4, s5, s6, s7, s8, s9, rfl⟩ := hI
    obtain ⟨_, rfl⟩ := rng_at hx0
    refine wG_name ?_
    refine wS_seq ?_
    walk_at "nm"
    refine wS_setO (wO_call eok0 (wA_cons ?_))
    walk_at "w"
    refine ⟨ns, _, rfl, by omega, fun c => rsp_fz ?_⟩
    walk_at "w"
    refine ⟨c, rfl, fun ds hB => rso_ow ?_⟩
    walk_at "w"
    refine wE_ofO (wO_slL (wE_call1 eok0 ⟨_, _, rfl⟩ (wA_cons (wE_int (wA_nil ⟨_, _, rfl, 12, rfl, hB, by decide, by decide, fun ds1 nl hB1 hnl hnN => rsp_fz ⟨_, rfl, wP_no (wP_some (wE_call1 eok0 ⟨_, _, rfl⟩ (wA_cons (wE_int (wA_nil ⟨_, _, rfl, 13, rfl, hB1, by decide, by decide, fun ds2 t hB2 ht0 ht1 => rsp_fz ⟨_, rfl, ?_⟩⟩)))))⟩⟩)))))
    obtain ⟨tn, rfl⟩ := Int.eq_ofNat_of_zero_le ht0
    rw [cutD_take _ _ (by rw [List.length_map]; omega), ← List.map_take]
    have hN : Nms (nl.take tn) := fun s hs => hnN s (List.mem_of_mem_take hs)
    have hn : (nl.take tn).length ≤ 12 := by rw [List.length_take]; omega
    generalize nl.take tn = names at hN hn
    walk_at "w"
    refine wE_call1 eok0 ⟨_, _, rfl⟩ (wA_cons (wE_var rfl (wA_nil ⟨_, _, rfl, names, rfl, hB2, hn, hN, fun ds3 ps hB3 hP => rsp_fz ?_⟩)))
    walk_at "nm"
    refine wS_seq (wS_setD (wD_new ?_))
    walk_at "nm"
    refine wS_seq (wS_forL (wE_var rfl ⟨_, rfl, ?_⟩))
    refine forS_inv _ (fun j ρ => ∃ ds' row a, ρ = [.fz (.scr ns), .fz (.int (0 + (i : Int))), .ow .loc ds', .fz (.lst (names.map .str)), .fz (.dkv (kvs ps)), .od .loc (kvs row), a, s7, s8, s9] ∧ Box ds' ∧ RowOk row ∧ row.length ≤ j) ⟨ds3, [], _, rfl, hB3, RowOk.nil, Nat.zero_le _⟩ (fun j x ρ2 hx hI => ?_) (fun ρ2 hI => ?_)
    · obtain ⟨ds', row, a, rfl, hB', hR, hrl⟩ := hI
      rw [List.getElem?_map] at hx
      obtain ⟨nm, hnm, rfl⟩ := Option.map_eq_some_iff.mp hx
      have hj : j < names.length := (List.getElem?_eq_some_iff.mp hnm).1
      have hnN := hN nm (List.mem_of_getElem? hnm)
      refine wG_name ?_
      walk_at "nm"
      refine wS_put ?_
      walk_at "w"
      refine wE_call1 eok0 ⟨_, _, rfl⟩ (wA_cons (wE_int (wA_nil ⟨_, _, rfl, 3, rfl, hB', by decide, by decide, fun ds4 a0 hB4 ha0 ha1 => rsp_fz ?_⟩)))
      walk_at "w"
      refine wE_call1 eok0 ⟨_, _, rfl⟩ (wA_cons ?_)
      walk_at "w"
      refine ⟨_, _, rfl, _, rfl, hB4, by decide +kernel, by decide +kernel, fun ds5 b0 hB5 hb0 hb1 => rsp_fz ?_⟩
      have hb2 : b0 < 1000000000 := hb1
      walk_at "w"
      refine wE_call1 eok0 ⟨_, _, rfl⟩ (wA_cons (wE_int (wA_nil ⟨_, _, rfl, 5, rfl, hB5, by decide, by decide, fun ds6 c0 hB6 hc0 hc1 => rsp_fz ?_⟩)))
      refine wR_xLAll (by omega) (by show _ < ((5 : Nat) : Int); omega) fun d hd => ?_
      have hv : VOk d := by
        simp only [List.mem_cons, List.not_mem_nil, or_false] at hd
        rcases hd with rfl | rfl | rfl | rfl | rfl
        · exact .inr (.inr ⟨_, rfl, by omega, by omega⟩)
        · exact .inr (.inl ⟨_, rfl⟩)
        · exact .inr (.inl ⟨_, rfl⟩)
        · exact .inr (.inr ⟨_, rfl, by omega, by omega⟩)
        · exact .inl rfl
      refine ⟨⟨_, _, rfl⟩, wE_var rfl ⟨_, _, _, rfl, rfl, by rw [kvs_len]; have := hR.n; omega, ?_⟩⟩
      walk_at "nm"
      rw [put_kvs]
      exact ⟨_, _, _, rfl, hB6, hR.put (by omega) hnN hv, by have := putL_len row nm d; omega⟩
    · obtain ⟨ds', row, a, rfl, hB', hR, hrl⟩ := hI
      refine wS_seq (wS_set (wE_ofO (wO_lst (wA_cons (wE_fzD (wD_dictO rfl ?_))))))
      refine wA_cons (wE_fzD (wD_dict (wA_cons (wE_var rfl (wA_nil ⟨_, rfl, ?_⟩)))))
      refine wA_nil ⟨Nat.le_of_ble_eq_true rfl, ?_⟩
      walk_at "w"
      refine ⟨row, ps, rfl, hR, hP, rsp_fz ?_⟩
      refine wA_nil (wC_reprAns hR hP ?_)
      refine wE_cb (wA_cons (wE_call eok0 (wA_cons (wE_fzV rfl (wA_cons (wE_var rfl (wA_nil ⟨row, ps, rfl, hR, hP, rsp_fz ?_⟩)))))))
      refine wA_nil (wC_reprAns hR hP (wR_neStr ?_))
      walk_at "nm"
      rw [decide_eq_true rfl]
      refine onB_bl (ways_ev_f (by rfl) ?_)
      refine wT_test (wE_op (wE_var rfl (wE_ofO (wO_lst (wA_cons (wE_var rfl (wA_cons (wE_var rfl (wA_nil ⟨Nat.le_of_ble_eq_true rfl, ?_⟩)))))))))
      refine wR_neLD (dss := [kvs row, kvs ps]) (ess := [kvs row, kvs ps]) rfl (fun j ds es h1 h2 => ?_) (onB_bl (ways_ev_f (by rfl) ?_))
      · rw [h1] at h2
        cases h2
        match j, h1 with
        | 0, h1 => cases h1; exact hR.same
        | 1, h1 => cases h1; exact hP.same
      refine wS_next ?_
      walk_at "w"
      refine wE_ofO (wO_slL (wE_call1 eok0 ⟨_, _, rfl⟩ (wA_cons (wE_var rfl (wA_nil ⟨_, _, rfl, names, rfl, hB', by omega, hN, fun ds4 ms hB4 hml hmm => rsp_fz ⟨_, rfl, wP_no (wP_some (wE_call1 eok0 ⟨_, _, rfl⟩ (wA_cons (wE_int (wA_nil ⟨_, _, rfl, 5, rfl, hB4, by decide, by decide, fun ds5 t2 hB5 hu0 hu1 => rsp_fz ⟨_, rfl, ?_⟩⟩)))))⟩⟩)))))
      rw [cutD_map]
      have hcl := cutD_len ms none (some t2)
      have hcN : Nms (cutD ms none (some t2)) := fun s hs => hN s (hmm s (cutD_mem hs))
      generalize cutD ms none (some t2) = cs at hcl hcN
      refine wA_nil (wC_tupL ?_)
      walk_at "w"
      refine ⟨cs, ps, rfl, by omega, hP, rsp_fz ?_⟩
      walk_at "w"
      refine wE_ofO (wO_lcT (tgt_name (by decide)) (wE_var rfl ⟨_, rfl, by rw [List.length_map]; omega, ?_⟩))
      walk_at "nm"
      refine compL_flt (p := fun _ => true) (f := fun d => match d with | .str s => .str (ren ps s) | _ => .non) _ _ (fun F' x hx => ?_) ?_
      · obtain ⟨s, _, rfl⟩ := List.mem_map.mp hx
        refine wG_name (wT_yes ?_)
        walk_at "nm"
        refine ⟨rfl, fun h => (nomatch h), fun _ => ?_⟩
        refine wE_dget2 (wE_var rfl ⟨_, rfl, wE_var rfl (wE_var rfl ⟨_, rfl, ?_⟩)⟩)
        rw [ren_at hP]
        exact ⟨rfl, rfl⟩
      walk_at "nm"
      refine wA_nil (wC_tupL ?_)
      rw [List.filter_eq_self.mpr (fun _ _ => rfl), List.map_map]
      have hok : ∀ s ∈ cs.map (ren ps), okS s := by
        intro s hs
        obtain ⟨q, hq, rfl⟩ := List.mem_map.mp hs
        exact (ren_nm hP (hcN q hq)).2
      have hpy := toPy_tupS (cs.map (ren ps))
      rw [List.map_map] at hpy
      refine wR_neD hpy hpy (shaped_tupS hok) (shaped_tupS hok) ?_
      rw [eqv_tupS hok]
      refine onB_bl (ways_ev_f (by rfl) ?_)
      exact wS_next ⟨_, _, _, _, _, _, _, _, _, rfl⟩
  · obtain ⟨s1, s2, s3, s4, s5, s6, s7, s8, s9, rfl⟩ := hI
    exact wS_ret (wE_bl hΦ)

end
end K59
namespace K59
open PySem L2 DL
open Evl (Ex)
theorem exm_ownG {K : PySem.W.Frag} {C B : Addr} (ex : PySem.W.subIn K (.ref B) (.type "BaseException") = some true) (cm : PySem.W.mroIn K B (.type "object") = some true) (ty : PySem.W.typeIn K (.ref B) = some (.type "type")) (su : PySem.W.subIn K (.ref C) (.ref B) = some true) : PySem.W.exmOne K (.ref C) (.ref B) = some true := by
  unfold PySem.W.exmOne
  rw [ex, if_pos (by decide)]
  exact kit_sub cm ty su
theorem all_mk {l : PySem.W.OpenLaw} {w : World} {K : PySem.W.Frag} {h : Heap} {mg : Str → Option Value} {fa : Addr} (X : K.In h) (G : h.Ns mainGlobals mg) (hfa : mg "law" = some (.ref fa))
    {C_Twice C_BeatError f0 f1 f2 f3 f4 f5 f6 f7 f8 f9 f10 fB fITwice : Addr} {fd0 fd1 fd2 fd3 fd4 fd5 fd6 fd7 fd8 fd9 fd10 fdB fdITwice : FuncData}
    (aC_Twice : PySem.W.nsIn K mainGlobals "Twice" = some (some (.ref C_Twice)))
    (aC_BeatError : PySem.W.nsIn K mainGlobals "BeatError" = some (some (.ref C_BeatError)))
    (a0 : PySem.W.nsIn K mainGlobals "named_row" = some (some (.ref f0)))
    (F0 : L2.Fun K "named_row" "named_row" s_named_row f0 fd0)
    (a1 : PySem.W.nsIn K mainGlobals "named_clock" = some (some (.ref f1)))
    (F1 : L2.Fun K "named_clock" "named_clock" s_named_clock f1 fd1)
    (a2 : PySem.W.nsIn K mainGlobals "_law_cell_at" = some (some (.ref f2)))
    (F2 : L2.Fun K "_law_cell_at" "_law_cell_at" s__law_cell_at f2 fd2)
    (a3 : PySem.W.nsIn K mainGlobals "_law_box" = some (some (.ref f3)))
    (F3 : L2.Fun K "_law_box" "_law_box" s__law_box f3 fd3)
    (a4 : PySem.W.nsIn K mainGlobals "_law_take" = some (some (.ref f4)))
    (F4 : L2.Fun K "_law_take" "_law_take" s__law_take f4 fd4)
    (a5 : PySem.W.nsIn K mainGlobals "_law_mixed" = some (some (.ref f5)))
    (F5 : L2.Fun K "_law_mixed" "_law_mixed" s__law_mixed f5 fd5)
    (a6 : PySem.W.nsIn K mainGlobals "_law_names" = some (some (.ref f6)))
    (F6 : L2.Fun K "_law_names" "_law_names" s__law_names f6 fd6)
    (a7 : PySem.W.nsIn K mainGlobals "_law_pairs" = some (some (.ref f7)))
    (F7 : L2.Fun K "_law_pairs" "_law_pairs" s__law_pairs f7 fd7)
    (a8 : PySem.W.nsIn K mainGlobals "_law_answer" = some (some (.ref f8)))
    (F8 : L2.Fun K "_law_answer" "_law_answer" s__law_answer f8 fd8)
    (a9 : PySem.W.nsIn K mainGlobals "_law_due" = some (some (.ref f9)))
    (F9 : L2.Fun K "_law_due" "_law_due" s__law_due f9 fd9)
    (a10 : PySem.W.nsIn K mainGlobals "law" = some (some (.ref f10)))
    (F10 : L2.Fun K "law" "law" s_law f10 fd10)
    (gaB : PySem.W.specialIn K (.ref C_BeatError) "__getattribute__" = some (some (.builtin "type.__getattribute__")))
    (rdB : PySem.W.readsIn K C_BeatError (.type "type") = true)
    (atB : clsAt K (.ref C_BeatError) (.type "type") "__init__" (.ref fB) = true)
    (FB : L2.Fun K "__init__" "BeatError.__init__" s_BeatError_init fB fdB)
    (vV : clsAt K (.type "ValueError") (.type "type") "__init__" (.builtin "ValueError.__init__") = true)
    (cg : PySem.W.specialIn K (.builtin "object.__class__") "__get__" = some (some (.builtin "getset_descriptor.__get__")))
    (ct : PySem.W.takesIn K (.builtin "object.__class__") = some true)
    (iITwice : PySem.W.findIn K (.ref C_Twice) "__init__" = some (some (.ref fITwice)))
    (FITwice : L2.Fun K "__init__" "Twice.__init__" s_Twice_init fITwice fdITwice)
    (tITwice : PySem.W.typeIn K (.ref fITwice) = some (.type "function"))
    (lXTwice : oexB K C_Twice = true)
    (saXTwice : PySem.W.findIn K (.ref C_Twice) "__setattr__" = some (some (.builtin "object.__setattr__")))
    (exXTwice : PySem.W.subIn K (.ref C_Twice) (.type "BaseException") = some true)
    (tyXTwice : PySem.W.typeIn K (.ref C_Twice) = some (.type "type"))
    (kXTwice : PySem.W.keepIn K (.ref C_Twice) = true)
    (noXTwice : PySem.W.findIn K (.ref C_Twice) "name" = some none)
    (cmXTwice : PySem.W.mroIn K C_Twice (.type "object") = some true)
    (xgaTwice : PySem.W.findIn K (.ref C_Twice) "__getattribute__" = some (some (.builtin "BaseException.__getattribute__")))
    (xggTwice : PySem.W.findIn K (.ref C_Twice) "__getattr__" = some none)
    (xhdTwice : PySem.W.hasDictIn K C_Twice = true)
    (xclTwice : (PySem.W.clsIn K C_Twice).isSome = true)
    (xcaTwice : PySem.W.findIn K (.ref C_Twice) "__class__" = some (some (.builtin "object.__class__")))
    (suXTwice_Twice : PySem.W.subIn K (.ref C_Twice) (.ref C_Twice) = some true)
    (cmXBeatError : PySem.W.mroIn K C_BeatError (.type "object") = some true)
    (tyXBeatError : PySem.W.typeIn K (.ref C_BeatError) = some (.type "type"))
    (suXTwice_BeatError : PySem.W.subIn K (.ref C_Twice) (.ref C_BeatError) = some true)
    (z_tuple : PySem.W.nsIn K mainGlobals "tuple" = some none)
    (z_len : PySem.W.nsIn K mainGlobals "len" = some none)
    (z_list : PySem.W.nsIn K mainGlobals "list" = some none)
    (z_range : PySem.W.nsIn K mainGlobals "range" = some none)
    (z_enumerate : PySem.W.nsIn K mainGlobals "enumerate" = some none)
    (z_isinstance : PySem.W.nsIn K mainGlobals "isinstance" = some none)
    (z_dict : PySem.W.nsIn K mainGlobals "dict" = some none)
    (z_max : PySem.W.nsIn K mainGlobals "max" = some none)
    (z_min : PySem.W.nsIn K mainGlobals "min" = some none)
    (z_repr : PySem.W.nsIn K mainGlobals "repr" = some none)
    (z_ValueError : PySem.W.nsIn K mainGlobals "ValueError" = some none)
    : ∃ fd : FuncData, (∀ (s : Shared) (v : Value), BindsTo s fd ⟨[v], []⟩ [("script", v)]) ∧ ∀ base : Heap, K.In base → base.Ns mainGlobals mg → FnG l.prog w K mg base 6 fa fd ["script"] (sp0 K W_law) := by
  have hh := hfa.symm.trans (PySem.W.mg_of X G a10)
  cases hh
  let e : E59 := ⟨C_Twice, C_BeatError⟩
  have b0 := F0.binds (ps := ["row", "names"]) fun _ _ _ _ _ _ us hl => match us, hl with | [_, _], _ => rfl
  have b1 := F1.binds (ps := ["clock", "names"]) fun _ _ _ _ _ _ us hl => match us, hl with | [_, _], _ => rfl
  have b2 := F2.binds (ps := ["script", "k"]) fun _ _ _ _ _ _ us hl => match us, hl with | [_, _], _ => rfl
  have b3 := F3.binds (ps := ["cell"]) fun _ _ _ _ _ _ us hl => match us, hl with | [_], _ => rfl
  have b4 := F4.binds (ps := ["box", "many"]) fun _ _ _ _ _ _ us hl => match us, hl with | [_, _], _ => rfl
  have b5 := F5.binds (ps := ["box", "some"]) fun _ _ _ _ _ _ us hl => match us, hl with | [_, _], _ => rfl
  have b6 := F6.binds (ps := ["box", "many"]) fun _ _ _ _ _ _ us hl => match us, hl with | [_, _], _ => rfl
  have b7 := F7.binds (ps := ["box", "names"]) fun _ _ _ _ _ _ us hl => match us, hl with | [_, _], _ => rfl
  have b8 := F8.binds (ps := ["row", "names"]) fun _ _ _ _ _ _ us hl => match us, hl with | [_, _], _ => rfl
  have b9 := F9.binds (ps := ["row", "names"]) fun _ _ _ _ _ _ us hl => match us, hl with | [_, _], _ => rfl
  have bB := FB.binds (ps := ["self", "text"]) fun _ _ _ _ _ _ us hl => match us, hl with | [_, _], _ => rfl
  have bITwice := FITwice.binds (ps := ["self", "name"]) fun _ _ _ _ _ _ us hl => match us, hl with | [_, _], _ => rfl
  have m_tuple := PySem.W.mg_none_of X G z_tuple
  have m_len := PySem.W.mg_none_of X G z_len
  have m_list := PySem.W.mg_none_of X G z_list
  have m_range := PySem.W.mg_none_of X G z_range
  have m_enumerate := PySem.W.mg_none_of X G z_enumerate
  have m_isinstance := PySem.W.mg_none_of X G z_isinstance
  have m_dict := PySem.W.mg_none_of X G z_dict
  have m_max := PySem.W.mg_none_of X G z_max
  have m_min := PySem.W.mg_none_of X G z_min
  have m_repr := PySem.W.mg_none_of X G z_repr
  have m_ValueError := PySem.W.mg_none_of X G z_ValueError
  have g_Twice : mg "Twice" = some (.ref e.tw) := PySem.W.mg_of X G aC_Twice
  have g_BeatError : mg "BeatError" = some (.ref e.be) := PySem.W.mg_of X G aC_BeatError
  have xf_Twice : XfC K e.tw := ⟨xgaTwice, xggTwice, exXTwice, xhdTwice⟩
  have xi_Twice : XiC K e.tw := ⟨xf_Twice, xclTwice, xcaTwice, cg, ct, cmXTwice⟩
  have xn_Twice : PySem.W.findIn K (.ref e.tw) "name" = some none := noXTwice
  have xm_Twice : PySem.W.exmOne K (.ref e.tw) (.ref e.tw) = some true := exm_ownG exXTwice cmXTwice tyXTwice suXTwice_Twice
  have xm_Twice_Twice : PySem.W.exmOne K (.ref e.tw) (.ref e.tw) = some true := xm_Twice
  have ix_Twice_BeatError : PySem.W.kitOne K (.ref e.tw) (.ref e.be) = some true := one_own cmXBeatError tyXBeatError suXTwice_BeatError
  obtain ⟨oc, od, kV, doc, pm, an, cdv, ct1, osl, rfl, lk, hcd⟩ := F10.ex
  refine ⟨PySem.W.fnOf "law" "law" (defArgs s_law) (defBody s_law) (defScope s_law) .none kV doc pm an cdv ct1, fun s v => .of_eq rfl, fun base _ _ => ?_⟩
  have okB : FnOk l.prog w K mg base L2.CX0 1 fB fdB ["self", "text"] (spBE K) := ok_BeatError_init FB m_ValueError (clsAt_ok vV)
  have oexTwice : OexC K e.tw := ⟨oexB_ok lXTwice, saXTwice, exXTwice, tyXTwice, kXTwice⟩
  have okITwice : FnOk l.prog w K mg base L2.CX0 2 fITwice fdITwice ["self", "name"] (spNX K e.tw "name") := ok_Twice_init FITwice ⟨gaB, rdB, clsAt_ok atB, FB.kp⟩ okB g_BeatError bB oexTwice noXTwice
  have x_Twice : ECallee l.prog w K mg base 2 "Twice" e.tw "name" := ⟨fITwice, _, _, oexTwice, iITwice, tITwice, okITwice, g_Twice, bITwice⟩
  have c_named_row : CalleeX l.prog w K mg base 4 "named_row" (sp0 K (W_named_row e)) := ⟨f0, _, _, ok_named_row F0 trivial x_Twice, PySem.W.mg_of X G a0, F0.kp, b0⟩
  have c_named_clock : Callee l.prog w K mg base 1 "named_clock" (sp0 K W_named_clock) := ⟨f1, _, _, ok_named_clock F1 trivial m_tuple, PySem.W.mg_of X G a1, F1.kp, b1⟩
  have c__law_cell_at : Callee l.prog w K mg base 1 "_law_cell_at" (sp0 K W__law_cell_at) := ⟨f2, _, _, ok__law_cell_at F2 trivial m_len, PySem.W.mg_of X G a2, F2.kp, b2⟩
  have c__law_box : Callee l.prog w K mg base 1 "_law_box" (sp0 K W__law_box) := ⟨f3, _, _, ok__law_box F3 trivial , PySem.W.mg_of X G a3, F3.kp, b3⟩
  have c__law_take : Callee l.prog w K mg base 1 "_law_take" (sp1 K W__law_take) := ⟨f4, _, _, ok__law_take F4 trivial , PySem.W.mg_of X G a4, F4.kp, b4⟩
  have c__law_mixed : Callee l.prog w K mg base 2 "_law_mixed" (sp1 K W__law_mixed) := ⟨f5, _, _, ok__law_mixed F5 trivial c__law_take m_list m_len, PySem.W.mg_of X G a5, F5.kp, b5⟩
  have c__law_names : Callee l.prog w K mg base 3 "_law_names" (sp1 K W__law_names) := ⟨f6, _, _, ok__law_names F6 trivial c__law_take c__law_mixed m_range, PySem.W.mg_of X G a6, F6.kp, b6⟩
  have c__law_pairs : Callee l.prog w K mg base 4 "_law_pairs" (sp1 K W__law_pairs) := ⟨f7, _, _, ok__law_pairs F7 trivial c__law_take c__law_mixed c__law_names m_enumerate m_len, PySem.W.mg_of X G a7, F7.kp, b7⟩
  have c__law_answer : Callee l.prog w K mg base 5 "_law_answer" (sp0 K W__law_answer) := ⟨f8, _, _, ok__law_answer F8 trivial c_named_row g_Twice g_BeatError xf_Twice xn_Twice xm_Twice_Twice xi_Twice ix_Twice_BeatError m_isinstance m_dict m_list, PySem.W.mg_of X G a8, F8.kp, b8⟩
  have c__law_due : Callee l.prog w K mg base 1 "_law_due" (sp0 K W__law_due) := ⟨f9, _, _, ok__law_due F9 trivial m_range m_len, PySem.W.mg_of X G a9, F9.kp, b9⟩
  exact ok_law F10 trivial c__law_box c__law_cell_at c__law_names c__law_take c__law_pairs c__law_answer c__law_due c__law_mixed c_named_clock m_range m_max m_min m_len m_dict m_repr m_tuple m_isinstance
end K59
namespace K59
open PySem L2 DL
open Evl (Ex)
theorem facts {l : PySem.W.OpenLaw} {w : World} {K : PySem.W.Frag} {h : Heap} {mg : Str → Option Value} {fa : Addr} (X : K.In h) (G : h.Ns mainGlobals mg) (hfa : mg "law" = some (.ref fa)) (c : (obA K, obB K) = (vA, vB)) : ∃ fd : FuncData, (∀ (s : Shared) (v : Value), BindsTo s fd ⟨[v], []⟩ [("script", v)]) ∧ ∀ base : Heap, K.In base → base.Ns mainGlobals mg → FnG l.prog w K mg base 6 fa fd ["script"] (sp0 K WLaw) := by
  have cA : obA K = vA := congrArg Prod.fst c
  have cB : obB K = vB := congrArg Prod.snd c
  have eo : oL K = oV := congrArg (fun z : AlA => z.1) cA
  have eb : bL K = bV := congrArg (fun z : AlA => z.2.1) cA
  have es : sL K = sV := congrArg (fun z : AlA => z.2.2.1) cA
  have et : tL K = tV := congrArg (fun z : AlA => z.2.2.2) cA
  have ef : fL K = fV := congrArg (fun z : AlB => z.1) cB
  have eg : gL K = gV := congrArg (fun z : AlB => z.2) cB
  have eo0 : ol0 K = ov0 := ob_get eo 0 rfl rfl
  have eo1 : ol1 K = ov1 := ob_get eo 1 rfl rfl
  have eb0 : bl0 K = bv0 := ob_get eb 0 rfl rfl
  have es0 : sl0 K = sv0 := ob_get es 0 rfl rfl
  have et0 : tl0 K = tv0 := ob_get et 0 rfl rfl
  have ef0 : fl0 K = fv0 := ob_get ef 0 rfl rfl
  have eg0 : gl0 K = gv0 := ob_get eg 0 rfl rfl
  obtain ⟨fd0, F0⟩ := fn_of (K := K) (f := 60) (x := "named_row") (q := "named_row") (st := s_named_row) (ob_get ef0 0 rfl rfl) (ob_get eg0 0 rfl rfl)
  obtain ⟨fd1, F1⟩ := fn_of (K := K) (f := 65) (x := "named_clock") (q := "named_clock") (st := s_named_clock) (ob_get ef0 1 rfl rfl) (ob_get eg0 1 rfl rfl)
  obtain ⟨fd2, F2⟩ := fn_of (K := K) (f := 72) (x := "_law_cell_at") (q := "_law_cell_at") (st := s__law_cell_at) (ob_get ef0 2 rfl rfl) (ob_get eg0 2 rfl rfl)
  obtain ⟨fd3, F3⟩ := fn_of (K := K) (f := 79) (x := "_law_box") (q := "_law_box") (st := s__law_box) (ob_get ef0 3 rfl rfl) (ob_get eg0 3 rfl rfl)
  obtain ⟨fd4, F4⟩ := fn_of (K := K) (f := 86) (x := "_law_take") (q := "_law_take") (st := s__law_take) (ob_get ef0 4 rfl rfl) (ob_get eg0 4 rfl rfl)
  obtain ⟨fd5, F5⟩ := fn_of (K := K) (f := 100) (x := "_law_mixed") (q := "_law_mixed") (st := s__law_mixed) (ob_get ef0 5 rfl rfl) (ob_get eg0 5 rfl rfl)
  obtain ⟨fd6, F6⟩ := fn_of (K := K) (f := 105) (x := "_law_names") (q := "_law_names") (st := s__law_names) (ob_get ef0 6 rfl rfl) (ob_get eg0 6 rfl rfl)
  obtain ⟨fd7, F7⟩ := fn_of (K := K) (f := 112) (x := "_law_pairs") (q := "_law_pairs") (st := s__law_pairs) (ob_get ef0 7 rfl rfl) (ob_get eg0 7 rfl rfl)
  obtain ⟨fd8, F8⟩ := fn_of (K := K) (f := 119) (x := "_law_answer") (q := "_law_answer") (st := s__law_answer) (ob_get ef0 8 rfl rfl) (ob_get eg0 8 rfl rfl)
  obtain ⟨fd9, F9⟩ := fn_of (K := K) (f := 124) (x := "_law_due") (q := "_law_due") (st := s__law_due) (ob_get ef0 9 rfl rfl) (ob_get eg0 9 rfl rfl)
  obtain ⟨fd10, F10⟩ := fn_of (K := K) (f := 129) (x := "law") (q := "law") (st := s_law) (ob_get ef0 10 rfl rfl) (ob_get eg0 10 rfl rfl)
  obtain ⟨fdB, FB⟩ := fn_of (K := K) (f := 28) (x := "__init__") (q := "BeatError.__init__") (st := s_BeatError_init) (ob_get ef0 11 rfl rfl) (ob_get eg0 11 rfl rfl)
  obtain ⟨fdITwice, FITwice⟩ := fn_of (K := K) (f := 48) (x := "__init__") (q := "Twice.__init__") (st := s_Twice_init) (ob_get ef0 12 rfl rfl) (ob_get eg0 12 rfl rfl)
  exact all_mk X G hfa (ob_get eo0 0 rfl rfl) (ob_get eo0 1 rfl rfl) (ob_get eo0 2 rfl rfl) F0 (ob_get eo0 3 rfl rfl) F1 (ob_get eo0 4 rfl rfl) F2 (ob_get eo0 5 rfl rfl) F3 (ob_get eo0 6 rfl rfl) F4 (ob_get eo0 7 rfl rfl) F5 (ob_get eo0 8 rfl rfl) F6 (ob_get eo0 9 rfl rfl) F7 (ob_get eo0 10 rfl rfl) F8 (ob_get eo0 11 rfl rfl) F9 (ob_get eo0 12 rfl rfl) F10 (ob_get eo0 13 rfl rfl) (ob_get eb0 0 rfl rfl) (ob_get eb0 1 rfl rfl) FB (ob_get eb0 2 rfl rfl) (ob_get eo0 14 rfl rfl) (ob_get es0 0 rfl rfl) (ob_get eo0 15 rfl rfl) FITwice (ob_get et0 0 rfl rfl) (ob_get eb0 3 rfl rfl) (ob_get eo0 16 rfl rfl) (ob_get es0 1 rfl rfl) (ob_get et0 1 rfl rfl) (ob_get eb0 4 rfl rfl) (ob_get eo0 17 rfl rfl) (ob_get es0 2 rfl rfl) (ob_get eo0 18 rfl rfl) (ob_get eo0 19 rfl rfl) (ob_get eb0 5 rfl rfl) (ob_get eb0 6 rfl rfl) (ob_get eo0 20 rfl rfl) (ob_get es0 3 rfl rfl) (ob_get es0 4 rfl rfl) (ob_get et0 2 rfl rfl) (ob_get es0 5 rfl rfl) (ob_get eo0 21 rfl rfl) (ob_get eo0 22 rfl rfl) (ob_get eo0 23 rfl rfl) (ob_get eo0 24 rfl rfl) (ob_get eo0 25 rfl rfl) (ob_get eo0 26 rfl rfl) (ob_get eo0 27 rfl rfl) (ob_get eo0 28 rfl rfl) (ob_get eo0 29 rfl rfl) (ob_get eo1 0 rfl rfl) (ob_get eo1 1 rfl rfl)
end K59
open PySem PySem.W PySem.Calls PyProof.Rows
set_option maxRecDepth 100000 in
set_option maxHeartbeats 0 in
theorem PySem.Challenge.cw_beatrows_k59_rows_with_other_names_holds : PySem.Challenge.rw_beatrows_k59_rows_with_other_names.Holds := by
  w_on; o_law
  refine HandSHeadRun.head_any (r := OpenLaw.row PySem.Challenge.rw_beatrows_k59_rows_with_other_names) (q := view (OpenLaw.row PySem.Challenge.rw_beatrows_k59_rows_with_other_names).prog [16]) (H := K59.hk) (ob := K59.ob) (M := 2500) (loose := K59.lns) (d := HandSHeadRun.topDef (OpenLaw.row PySem.Challenge.rw_beatrows_k59_rows_with_other_names).prog 16) (kwd := []) K59.ob_eq
    (by kernel_rfl) (fun s => by kernel_rfl) K59.run (by kernel_rfl) (by kernel_rfl) (by kernel_rfl) (by rfl) (by first | assumption | decide +kernel) (by decide +kernel) ⟨rfl, rfl, rfl, rfl, rfl, by decide +kernel⟩ ?hw ?hc
  case hw => w_witness2
  case hc =>
    refine DL.walk_goE (l := PySem.Challenge.rw_beatrows_k59_rows_with_other_names) (n := 63) (k := 6) (x := "script") rfl (by decide) (by kernel_rfl) ⟨rfl, by decide, by decide⟩ ?F
    intro w mg fa h Y G hmg0
    obtain ⟨K, KX, c⟩ := Y
    have hmg : mg ("law" : PySem.Str) = some (.ref fa) := by
      have e : (HandSHeadRun.topDef (OpenLaw.row PySem.Challenge.rw_beatrows_k59_rows_with_other_names).prog 16).name = ("law" : PySem.Str) := by kernel_rfl
      rw [← e]
      exact hmg0
    obtain ⟨fd, hb, hF⟩ := K59.facts (l := PySem.Challenge.rw_beatrows_k59_rows_with_other_names) (w := w) KX G hmg c
    exact ⟨K, fd, KX, hb, hF⟩
