import PyProof.Rows.All
import Wide.All
import OpenK.AllK
import Wide.FinOn
import HandS.Words
import KE.KStateDown
import KE.KNest
import KE.KNestM
import Lean
import HandS.Base
import HandS.Call
import HandS.Ends
import HandS.Exc
import HandS.Defaults
import HandS.Head0
import HandS.Head1
import HandS.Head2
import HandS.HeadEnd
import HandS.HeadHook1
import HandS.HeadHook2
import PyProof.EqAt
import PyProof.EqKinds
import PyProof.TupleCall
import KE.KFromBytes
import HandS.ForMost
import HandS.ExcInit
import HandS.ExcIs
import HandS.IsInst
import HandS.ExcOwn
import HandS.ExcValue
import HandS.Set
import HandS.Strs
import PyProof.Rows.SetFrom
import PyProof.StrWalks
import PyProof.Rows.SortStr
import PyProof.Rows.SortShellAny
import PyProof.SetRoads
import HandS.DictComp
import HandS.Walk
import HandS.NoneIn
import HandS.Flow
import HandS.FStr
import HandS.Star
import HandS.Property
import KE.KUnpackStar
import HandS.TupAny
import PyProof.StrBlock2
import HandS.HotCalls
import KE.KUnpack
import KE.KTryMore
import HandS.Lambda
import HandS.EndTab
import PyProof.StrLawsRepr
import HandS.SetBool
import HandS.RaiseMore
import KE.GoesEnum
import HandS.Iter
import PyProof.EnumMake
import PyProof.NeKinds
import HandS.Nested
import KE.SortKeyHeap
import KE.SortData
import HandS.SortKw
import HandS.Style
import HandS.Conv
import KE.KDictPairs
import KE.KDictItemsList
import HandS.ListItems
import HandS.DictTup
import PySem.Challenge.RW_shortlooks_k61_whole_mends_for_rows
set_option Elab.async false
set_option linter.all false
set_option maxRecDepth 100000
set_option maxHeartbeats 8000000
namespace My
open PySem PySem.Spec PyProof.Rows L2
def top (i : Nat) : Stmt := PySem.Challenge.pw_shortlooks_k61_whole_mends_for_rows.main.body.getD i (.Pass ⟨0, 0, 0, 0⟩)
abbrev cInvalidText : Stmt := top 3
abbrev cInvalidRow : Stmt := top 4
abbrev cInvalidKind : Stmt := top 5
abbrev cInvalidNumber : Stmt := top 6
abbrev cInvalidMood : Stmt := top 7
abbrev cInvalidSign : Stmt := top 8
abbrev cNotARule : Stmt := top 9
abbrev cTooMany : Stmt := top 13
abbrev sBounds : Stmt := top 22
abbrev sMade : Stmt := top 27
abbrev sRowOf : Stmt := top 28
abbrev sWord : Stmt := top 29
abbrev sSigns : Stmt := top 30
abbrev sMoods : Stmt := top 31
abbrev sGood : Stmt := top 32
abbrev sGoals : Stmt := top 33
abbrev sRead : Stmt := top 34
abbrev sWriteR : Stmt := top 35
abbrev sRule : Stmt := top 37
abbrev sCRule : Stmt := top 38
abbrev sExplored : Stmt := top 40
abbrev sFirstMo : Stmt := top 47
abbrev sPairStep : Stmt := top 48
abbrev sPairTest : Stmt := top 49
abbrev sIsKind : Stmt := top 56
abbrev sIsNum : Stmt := top 57
abbrev sCKind : Stmt := top 58
abbrev sCNum : Stmt := top 59
abbrev sIsWish : Stmt := top 85
abbrev sGoodRow : Stmt := top 87
abbrev sHoldsW : Stmt := top 88
abbrev sCkWish : Stmt := top 90
abbrev sIsChange : Stmt := top 91
abbrev sCkChg : Stmt := top 92
abbrev sAllLots : Stmt := top 93
abbrev sChanged : Stmt := top 94
abbrev sIsPart : Stmt := top 95
abbrev sMending : Stmt := top 96
abbrev sCell : Stmt := top 98
abbrev sPurse : Stmt := top 99
abbrev sPick : Stmt := top 100
abbrev sLetters : Stmt := top 101
abbrev sAim : Stmt := top 102
abbrev sBox : Stmt := top 103
abbrev sText : Stmt := top 104
abbrev sEnd : Stmt := top 105
abbrev sFine : Stmt := top 106
abbrev sLine : Stmt := top 107
abbrev sChangesL : Stmt := top 108
abbrev sWithL : Stmt := top 109
abbrev sLotsL : Stmt := top 110
abbrev sLeastL : Stmt := top 111
abbrev sHolds : Stmt := top 112
abbrev sWishL : Stmt := top 113
abbrev sRight : Stmt := top 114
abbrev sLaw : Stmt := top 115
end My
namespace Hq
open PySem PySem.Spec PyProof.Rows L2 He
/-! a hook of one's own: a part of the heap that is gathered from named globals, forced once, and looked at by Bools -/
abbrev G : Type := Addr → Option Obj
def mroR : Option Obj → List Addr
  | some ⟨_, _, .cls cd, _⟩ => cd.mro.flatMap refV
  | _ => []
def nxt : Option Obj → List Addr
  | some ⟨c, _, d, _⟩ => (match d with
    | .func fd => refV fd.code ++ (refV fd.defaults ++ refV fd.kwdefaults)
    | .cls cd => [cd.ns]
    | .dict es _ => es.toList.flatMap fun e => refV e.val
    | .seq its _ => its.toList.flatMap refV
    | .fields vs => (match c with
      | .type n => (match decide (n = "property") with
        | true => vs.toList.flatMap refV
        | false => [])
      | _ => [])
    | _ => [])
  | none => []
def gRef (g : G) (x : Str) : List Addr := match g mainGlobals with
  | some ⟨_, _, .dict es _, _⟩ => (match es.toList.find? (·.key.isStr x) with
    | some e => refV e.val
    | none => [])
  | _ => []
/-- a list of addresses, forced -/
def frL {α : Type} : List Addr → (List Addr → α) → α
  | [], k => k []
  | a :: r, k => HandSHeadRun.frNat a fun a => frL r fun r => k (a :: r)
theorem frL_eq {α : Type} : ∀ (l : List Addr) (k : List Addr → α), frL l k = k l
  | [], _ => rfl
  | a :: r, k => by
    show HandSHeadRun.frNat a (fun a => frL r fun r => k (a :: r)) = _
    rw [HandSHeadRun.frNat_eq, frL_eq r]
def step1 (g : G) (l : List Addr) : List Addr := l.flatMap fun a => nxt (g a)
def mros (g : G) (l : List Addr) : List Addr := l.flatMap fun a => mroR (g a)
/-- named globals, their classes' bases, and what these reach in four steps -/
def gather {α : Type} (g : G) (xs : List Str) (k : List Addr → α) : α :=
  frL (xs.flatMap (gRef g)) fun p0 => frL (mros g p0) fun p1 => frL (step1 g (p0 ++ p1)) fun p2 => frL (step1 g p2) fun p3 => frL (step1 g p3) fun p4 => frL (step1 g p4) fun p5 =>
    k (mainGlobals :: p0 ++ p1 ++ p2 ++ p3 ++ p4 ++ p5)
def sel (g : G) (xs : List Str) : List Addr := gather g xs id
theorem gather_eq {α : Type} (g : G) (xs : List Str) (k : List Addr → α) : gather g xs k = k (sel g xs) := by
  unfold sel gather
  simp only [frL_eq, id]
/-- the part, forced -/
def frK {α : Type} (g : G) : List Addr → (PySem.W.Frag → α) → α
  | [], k => k []
  | a :: r, k => match g a with
    | some o => frK g r fun K => k ((a, o) :: K)
    | none => frK g r k
theorem frK_eq {α : Type} (g : G) : ∀ (l : List Addr) (k : PySem.W.Frag → α), frK g l k = k (frG g l)
  | [], _ => rfl
  | a :: r, k => by
    show (match g a with
      | some o => frK g r fun K => k ((a, o) :: K)
      | none => frK g r k) = _
    unfold frG
    rw [List.filterMap_cons]
    cases g a with
    | none => exact frK_eq g r k
    | some o => exact frK_eq g r _
/-! ### functions at any address -/
def fnQ (K : PySem.W.Frag) (a : Addr) : FnV := match K.lookup a with
  | some ⟨_, _, .func fd, _⟩ => some (fd.name, fd.qualname, fd.params, fd.body, fd.scope, fd.globals, fd.closure, fd.defaults, fd.builtins)
  | _ => none
def codeQ (K : PySem.W.Frag) (a : Addr) (q : Str) : Bool := match K.lookup a with
  | some ⟨_, _, .func fd, _⟩ => PySem.W.codeIn K fd.code q
  | _ => false
/-- one def: where it stands, its name, qualified name, parameters, body, scope -/
structure FnA where
  at_ : PySem.W.Frag → Addr
  name : Str
  qual : Str
  params : Arguments
  body : List Stmt
  scope : Scope
def FnA.val (d : FnA) : FnV := some (d.name, d.qual, d.params, .stmts d.body, d.scope, mainGlobals, [], .none, builtinsNs)
theorem fnA_ok {K : PySem.W.Frag} {d : FnA} (e : fnQ K (d.at_ K) = d.val) (c : codeQ K (d.at_ K) d.qual = true) :
    ∃ oc od osl kV doc pm an cdv ct, K.lookup (d.at_ K) = some ⟨oc, od, .func (PySem.W.fnOf d.name d.qual d.params d.body d.scope .none kV doc pm an cdv ct), osl⟩ ∧ PySem.W.codeIn K cdv d.qual = true := by
  have c2 : (match K.lookup (d.at_ K) with
    | some ⟨_, _, .func fd, _⟩ => PySem.W.codeIn K fd.code d.qual
    | _ => false) = true := c
  unfold fnQ at e
  cases q : K.lookup (d.at_ K) with
  | none =>
    rw [q] at c2
    cases c2
  | some o =>
    obtain ⟨oc, od, dt, osl⟩ := o
    rw [q] at c2 e
    cases dt with
    | func fd =>
      obtain ⟨n1, n2, n3, n4, n5, n6, n7, n8, n9, n10, n11, n12, n13, n14, n15⟩ := fd
      have e2 : (some (n1, n2, n3, n4, n5, n6, n7, n8, n15) : FnV) = some (d.name, d.qual, d.params, .stmts d.body, d.scope, mainGlobals, [], .none, builtinsNs) := e
      simp only [Option.some.injEq, Prod.mk.injEq] at e2
      obtain ⟨h1, h2, h3, h4, h5, h6, h7, h8, h9⟩ := e2
      subst h1 h2 h3 h4 h5 h6 h7 h8 h9
      exact ⟨oc, od, osl, n9, n10, n11, n12, n13, n14, rfl, c2⟩
    | _ => cases c2
/-! ### the Hook -/
def valQ (fn : List FnA) : Al := (true, fn.map FnA.val)
def obsK (chk : List (PySem.W.Frag → Bool)) (fn : List FnA) (K : PySem.W.Frag) : Al := (chk.all (fun c => c K) && fn.all fun d => codeQ K (d.at_ K) d.qual, fn.map fun d => fnQ K (d.at_ K))
/-! tables of code objects: tf tells where the defs stand whose lambdas are made -/
def codeAt (K : PySem.W.Frag) (f : Addr) : Addr := match K.lookup f with
  | some ⟨_, _, .func fd, _⟩ => (match fd.code with
    | .ref c => c
    | _ => 0)
  | _ => 0
def tabAt (K : PySem.W.Frag) (c : Addr) : Addr := match K.lookup c with
  | some ⟨_, _, .fields vs, _⟩ => (match vs.getD 11 .none with
    | .ref P => P
    | _ => 0)
  | _ => 0
/-- a def's code object, its table -/
def cTab (K : PySem.W.Frag) (f : PySem.W.Frag → Addr) : Addr × Addr := (codeAt K (f K), tabAt K (codeAt K (f K)))
theorem codeAt_eq {K : PySem.W.Frag} {f c : Addr} {oc : Value} {od : Option Addr} {osl : Array (Option Value)} {fd : FuncData} (lk : K.lookup f = some ⟨oc, od, .func fd, osl⟩) (e : fd.code = .ref c) : codeAt K f = c := by
  unfold codeAt
  rw [lk]
  show (match fd.code with | .ref c => c | _ => 0) = c
  rw [e]
theorem codeAt_ref {K : PySem.W.Frag} {f : Addr} {oc : Value} {od : Option Addr} {osl : Array (Option Value)} {fd : FuncData} {q : Str} (lk : K.lookup f = some ⟨oc, od, .func fd, osl⟩) (h : PySem.W.codeIn K fd.code q = true) : fd.code = .ref (codeAt K f) := by
  cases e : fd.code with
  | ref c => rw [codeAt_eq lk e]
  | _ => rw [e] at h; cases h
def emptyT : Obj → Bool
  | ⟨.none, none, .fields vs, sl⟩ => vs.isEmpty && sl.isEmpty
  | _ => false
theorem emptyT_eq {o : Obj} (h : emptyT o = true) : o = { cls := .none, data := .fields #[] } := by
  obtain ⟨oc, od, dt, sl⟩ := o
  cases oc with
  | none =>
    cases od with
    | none =>
      cases dt with
      | fields vs =>
        obtain ⟨h1, h2⟩ := ba (show (vs.isEmpty && sl.isEmpty) = true from h)
        rw [Array.isEmpty_iff.mp h1, Array.isEmpty_iff.mp h2]
      | _ => cases h
    | some d => cases dt <;> cases h
  | _ => cases od <;> cases dt <;> cases h
def tabB1 (g : G) (K : PySem.W.Frag) (p : PySem.W.Frag → Addr) : Bool := PySem.W.codeHdIn K (cTab K p).1 (cTab K p).2 && ((K.lookup (cTab K p).2).isNone && (match g (cTab K p).2 with
  | some o => emptyT o
  | none => false))
def obsK2 (g : G) (chk : List (PySem.W.Frag → Bool)) (fn : List FnA) (tf : List (PySem.W.Frag → Addr)) (K : PySem.W.Frag) : Al × Bool := (obsK chk fn K, tf.all (tabB1 g K))
def obsQ (xs : List Str) (chk : List (PySem.W.Frag → Bool)) (fn : List FnA) (tf : List (PySem.W.Frag → Addr)) (g : G) : Al × Bool := gather g xs fun as => frK g as (obsK2 g chk fn tf)
theorem obsQ_eq' (xs : List Str) (chk : List (PySem.W.Frag → Bool)) (fn : List FnA) (tf : List (PySem.W.Frag → Addr)) (g : G) : obsQ xs chk fn tf g = obsK2 g chk fn tf (frG g (sel g xs)) := by
  unfold obsQ
  rw [gather_eq, frK_eq]
structure SaysQ (chk : List (PySem.W.Frag → Bool)) (fn : List FnA) (tf : List (PySem.W.Frag → Addr)) (h : Heap) (K : PySem.W.Frag) : Prop where
  f : obsK chk fn K = valQ fn
  hd : ∀ p ∈ tf, PySem.W.codeHdIn K (cTab K p).1 (cTab K p).2 = true
  out : ∀ p ∈ tf, K.lookup (cTab K p).2 = none
  empty : ∀ p ∈ tf, h.get? (cTab K p).2 = some { cls := .none, data := .fields #[] }
theorem saysQ_of {xs : List Str} {chk : List (PySem.W.Frag → Bool)} {fn : List FnA} {tf : List (PySem.W.Frag → Addr)} {h : Heap} (e : obsQ xs chk fn tf h.get? = (valQ fn, true)) : SaysQ chk fn tf h (frG h.get? (sel h.get? xs)) := by
  rw [obsQ_eq'] at e
  generalize frG h.get? (sel h.get? xs) = K at e ⊢
  have e1 : obsK chk fn K = valQ fn := congrArg (fun z : Al × Bool => z.1) e
  have e2 : tf.all (tabB1 h.get? K) = true := congrArg (fun z : Al × Bool => z.2) e
  have key : ∀ p ∈ tf, PySem.W.codeHdIn K (cTab K p).1 (cTab K p).2 = true ∧ K.lookup (cTab K p).2 = none ∧ h.get? (cTab K p).2 = some { cls := .none, data := .fields #[] } := fun p hp => by
    obtain ⟨h1, h2⟩ := ba (List.all_eq_true.mp e2 p hp)
    obtain ⟨h3, h4⟩ := ba h2
    refine ⟨h1, Option.isNone_iff_eq_none.mp h3, ?_⟩
    cases q : h.get? (cTab K p).2 with
    | none =>
      rw [q] at h4
      cases h4
    | some o =>
      rw [q] at h4
      rw [emptyT_eq h4]
  exact ⟨e1, fun p hp => (key p hp).1, fun p hp => (key p hp).2.1, fun p hp => (key p hp).2.2⟩
def hookQ (xs : List Str) (chk : List (PySem.W.Frag → Bool)) (fn : List FnA) (tf : List (PySem.W.Frag → Addr)) : PySem.W.Hook where
  α := Al × Bool
  obs := fun s => obsQ xs chk fn tf s.heap.get?
  val := fun _ => (valQ fn, true)
  says := fun _ h => ∃ K : PySem.W.Frag, K.In h ∧ SaysQ chk fn tf h K
  of := fun w s e => ⟨_, frG_in, saysQ_of e⟩
  keeps := fun _ _ _ ⟨K, hK, c⟩ k => ⟨K, PySem.W.Frag.In.keeps hK k, ⟨c.f, c.hd, c.out, fun p hp => k _ _ (c.empty p hp)⟩⟩
theorem obsQ_eq {xs : List Str} {chk : List (PySem.W.Frag → Bool)} {fn : List FnA} {tf : List (PySem.W.Frag → Addr)} {g : G} {s : Shared} (h : ∀ a, g a = s.heap.get? a) : obsQ xs chk fn tf g = (hookQ xs chk fn tf).obs s := by
  have e : g = s.heap.get? := funext h
  rw [e] <;> rfl
section
variable {chk : List (PySem.W.Frag → Bool)} {fn : List FnA} {tf : List (PySem.W.Frag → Addr)} {K : PySem.W.Frag} {h₀ : Heap}
theorem SaysQ.fact (c : SaysQ chk fn tf h₀ K) (i : Nat) {f : PySem.W.Frag → Bool} (h : chk[i]? = some f := by rfl) : f K = true := by
  have c1 := (ba (show (chk.all (fun c => c K) && fn.all fun d => codeQ K (d.at_ K) d.qual) = true from congrArg (fun z : Al => z.1) c.f)).1
  exact List.all_eq_true.mp c1 f (List.mem_of_getElem? h)
theorem SaysQ.def_ (c : SaysQ chk fn tf h₀ K) (i : Nat) {d : FnA} (h : fn[i]? = some d := by rfl) :
    ∃ oc od osl kV doc pm an cdv ct, K.lookup (d.at_ K) = some ⟨oc, od, .func (PySem.W.fnOf d.name d.qual d.params d.body d.scope .none kV doc pm an cdv ct), osl⟩ ∧ PySem.W.codeIn K cdv d.qual = true := by
  have c2 := (ba (show (chk.all (fun c => c K) && fn.all fun d => codeQ K (d.at_ K) d.qual) = true from congrArg (fun z : Al => z.1) c.f)).2
  have e : fn.map (fun d => fnQ K (d.at_ K)) = fn.map FnA.val := congrArg (fun z : Al => z.2) c.f
  have e2 : (fn.map fun d => fnQ K (d.at_ K))[i]? = (fn.map FnA.val)[i]? := by rw [e]
  rw [List.getElem?_map, List.getElem?_map, h] at e2
  exact fnA_ok (Option.some.inj e2) (List.all_eq_true.mp c2 d (List.mem_of_getElem? h))
/-- all the tables, as walk_GTE asks them -/
theorem SaysQ.tabs (c : SaysQ chk fn tf h₀ K) (X : K.In h₀) : ∀ q ∈ tf.map (cTab K), h₀.get? q.2 = some (PySem.W.tabObj #[]) ∧ K.lookup q.2 = none ∧ PySem.W.CodeHd h₀ q.1 q.2 := fun q hq => by
  obtain ⟨p, hp, rfl⟩ := List.mem_map.mp hq
  exact ⟨c.empty p hp, c.out p hp, PySem.W.codeHd_of_K X (c.hd p hp)⟩
end
/-- a property's function -/
def pf (K : PySem.W.Frag) (p : Addr) : Addr := match PySem.W.recIn K p "property" with
  | some (.ref f :: _) => f
  | _ => 0
def pr (K : PySem.W.Frag) (p : Addr) : List Value := match PySem.W.recIn K p "property" with
  | some (_ :: r) => r
  | _ => []
/-- the sign behind a written constant -/
def tk (K : PySem.W.Frag) (x : Str) : Tok := match PySem.W.nsIn K mainGlobals x with
  | some (some (.int _ t)) => t
  | some (some (.str _ t)) => t
  | _ => 0
end Hq
namespace Hq
open PySem PySem.Spec PyProof.Rows L2 He
/-! the run's equation from several runs of the kernel, each of which looks at a part -/
theorem obs_app {E : Option PySem.W.SharedT} {xs : List Str} {c1 c2 : List (PySem.W.Frag → Bool)} {f1 f2 : List FnA} {t1 t2 : List (PySem.W.Frag → Addr)}
    (h1 : E.map (fun s => obsQ xs c1 f1 t1 (HandSHeadRun.getT s)) = some (valQ f1, true)) (h2 : E.map (fun s => obsQ xs c2 f2 t2 (HandSHeadRun.getT s)) = some (valQ f2, true)) :
    E.map (fun s => obsQ xs (c1 ++ c2) (f1 ++ f2) (t1 ++ t2) (HandSHeadRun.getT s)) = some (valQ (f1 ++ f2), true) := by
  cases E with
  | none => cases h1
  | some s =>
    have a := Option.some.inj h1
    have b := Option.some.inj h2
    show some (obsQ xs (c1 ++ c2) (f1 ++ f2) (t1 ++ t2) (HandSHeadRun.getT s)) = _
    have a : obsQ xs c1 f1 t1 (HandSHeadRun.getT s) = (valQ f1, true) := a
    have b : obsQ xs c2 f2 t2 (HandSHeadRun.getT s) = (valQ f2, true) := b
    rw [obsQ_eq'] at a b ⊢
    generalize frG (HandSHeadRun.getT s) (sel (HandSHeadRun.getT s) xs) = K at a b ⊢
    have a1 : (c1.all (fun c => c K) && f1.all fun d => codeQ K (d.at_ K) d.qual) = true := congrArg (fun z : Al × Bool => z.1.1) a
    have a2 : (f1.map fun d => fnQ K (d.at_ K)) = f1.map FnA.val := congrArg (fun z : Al × Bool => z.1.2) a
    have a3 : t1.all (tabB1 (HandSHeadRun.getT s) K) = true := congrArg (fun z : Al × Bool => z.2) a
    have b1 : (c2.all (fun c => c K) && f2.all fun d => codeQ K (d.at_ K) d.qual) = true := congrArg (fun z : Al × Bool => z.1.1) b
    have b2 : (f2.map fun d => fnQ K (d.at_ K)) = f2.map FnA.val := congrArg (fun z : Al × Bool => z.1.2) b
    have b3 : t2.all (tabB1 (HandSHeadRun.getT s) K) = true := congrArg (fun z : Al × Bool => z.2) b
    rw [Bool.and_eq_true] at a1 b1
    refine congrArg some ?_
    have e1 : ((c1 ++ c2).all (fun c => c K) && (f1 ++ f2).all fun d => codeQ K (d.at_ K) d.qual) = true := by
      rw [List.all_append, List.all_append, a1.1, a1.2, b1.1, b1.2]
      rfl
    have e2 : ((f1 ++ f2).map fun d => fnQ K (d.at_ K)) = (f1 ++ f2).map FnA.val := by
      rw [List.map_append, List.map_append, a2, b2]
    have e3 : (t1 ++ t2).all (tabB1 (HandSHeadRun.getT s) K) = true := by
      rw [List.all_append, a3, b3]
      rfl
    show ((((c1 ++ c2).all (fun c => c K) && (f1 ++ f2).all fun d => codeQ K (d.at_ K) d.qual), (f1 ++ f2).map fun d => fnQ K (d.at_ K)), (t1 ++ t2).all (tabB1 (HandSHeadRun.getT s) K)) = ((true, (f1 ++ f2).map FnA.val), true)
    rw [e1, e2, e3]
theorem three {α β γ δ : Type} {E : Option α} {f : α → β} {g : α → γ} {k : α → δ} {b : β} {c : γ} {d : δ} (h1 : E.map f = some b) (h2 : E.map g = some c) (h3 : E.map k = some d) : E.map (fun s => (f s, g s, k s)) = some (b, c, d) := by
  cases E with
  | none => cases h1
  | some s =>
    have a : f s = b := Option.some.inj h1
    have b' : g s = c := Option.some.inj h2
    have c' : k s = d := Option.some.inj h3
    show some (f s, g s, k s) = _
    rw [a, b', c']
end Hq
namespace My
open PySem PySem.Spec PyProof.Rows L2
/-! the head: what is looked at -/
def frees : List Str := ["int", "len", "abs", "divmod", "isinstance", "repr", "all", "any", "range", "max", "min", "str", "set", "sorted", "list", "tuple", "enumerate", "ValueError", "LookupError", "ArithmeticError", "bool", "dict", "zip", "reversed"]
def chkF (K : PySem.W.Frag) : Bool := frees.all fun x => PySem.W.nsIn K mainGlobals x == some none
theorem free_of {K : PySem.W.Frag} {h : Heap} {mg : Str → Option Value} (X : K.In h) (G : h.Ns mainGlobals mg) (q : chkF K = true) {x : Str} (hx : x ∈ frees) : mg x = none := by
  unfold chkF at q
  exact PySem.W.mg_none_of X G (beq_iff_eq.mp (List.all_eq_true.mp q x hx))
def q0 (K : PySem.W.Frag) : Bool := decide (PySem.W.nsIn K mainGlobals "Rule" = some (some (.ref (He.ga K "Rule"))))
def q1 (K : PySem.W.Frag) : Bool := decide (PySem.W.nsIn K mainGlobals "made_of" = some (some (.ref (He.ga K "made_of"))))
def q2 (K : PySem.W.Frag) : Bool := decide (PySem.W.keepIn K (.ref (He.ga K "made_of")) = true)
def q3 (K : PySem.W.Frag) : Bool := decide (PySem.W.nsIn K mainGlobals "is_row_of" = some (some (.ref (He.ga K "is_row_of"))))
def q4 (K : PySem.W.Frag) : Bool := decide (PySem.W.keepIn K (.ref (He.ga K "is_row_of")) = true)
def q5 (K : PySem.W.Frag) : Bool := decide (PySem.W.nsIn K mainGlobals "is_word" = some (some (.ref (He.ga K "is_word"))))
def q6 (K : PySem.W.Frag) : Bool := decide (PySem.W.keepIn K (.ref (He.ga K "is_word")) = true)
def q7 (K : PySem.W.Frag) : Bool := decide (PySem.W.nsIn K mainGlobals "are_signs" = some (some (.ref (He.ga K "are_signs"))))
def q8 (K : PySem.W.Frag) : Bool := decide (PySem.W.keepIn K (.ref (He.ga K "are_signs")) = true)
def q9 (K : PySem.W.Frag) : Bool := decide (PySem.W.nsIn K mainGlobals "are_moods" = some (some (.ref (He.ga K "are_moods"))))
def q10 (K : PySem.W.Frag) : Bool := decide (PySem.W.keepIn K (.ref (He.ga K "are_moods")) = true)
def q11 (K : PySem.W.Frag) : Bool := decide (PySem.W.nsIn K mainGlobals "are_good" = some (some (.ref (He.ga K "are_good"))))
def q12 (K : PySem.W.Frag) : Bool := decide (PySem.W.keepIn K (.ref (He.ga K "are_good")) = true)
def q13 (K : PySem.W.Frag) : Bool := decide (PySem.W.nsIn K mainGlobals "read_goals" = some (some (.ref (He.ga K "read_goals"))))
def q14 (K : PySem.W.Frag) : Bool := decide (PySem.W.keepIn K (.ref (He.ga K "read_goals")) = true)
def q15 (K : PySem.W.Frag) : Bool := decide (PySem.W.nsIn K mainGlobals "read_rule" = some (some (.ref (He.ga K "read_rule"))))
def q16 (K : PySem.W.Frag) : Bool := decide (PySem.W.keepIn K (.ref (He.ga K "read_rule")) = true)
def q17 (K : PySem.W.Frag) : Bool := decide (PySem.W.nsIn K mainGlobals "write_rule" = some (some (.ref (He.ga K "write_rule"))))
def q18 (K : PySem.W.Frag) : Bool := decide (PySem.W.keepIn K (.ref (He.ga K "write_rule")) = true)
def q19 (K : PySem.W.Frag) : Bool := decide (PySem.W.nsIn K mainGlobals "check_rule" = some (some (.ref (He.ga K "check_rule"))))
def q20 (K : PySem.W.Frag) : Bool := decide (PySem.W.keepIn K (.ref (He.ga K "check_rule")) = true)
def q21 (K : PySem.W.Frag) : Bool := decide (PySem.W.nsIn K mainGlobals "is_wish" = some (some (.ref (He.ga K "is_wish"))))
def q22 (K : PySem.W.Frag) : Bool := decide (PySem.W.keepIn K (.ref (He.ga K "is_wish")) = true)
def q23 (K : PySem.W.Frag) : Bool := decide (PySem.W.nsIn K mainGlobals "is_good_row" = some (some (.ref (He.ga K "is_good_row"))))
def q24 (K : PySem.W.Frag) : Bool := decide (PySem.W.keepIn K (.ref (He.ga K "is_good_row")) = true)
def q25 (K : PySem.W.Frag) : Bool := decide (PySem.W.nsIn K mainGlobals "holds" = some (some (.ref (He.ga K "holds"))))
def q26 (K : PySem.W.Frag) : Bool := decide (PySem.W.keepIn K (.ref (He.ga K "holds")) = true)
def q27 (K : PySem.W.Frag) : Bool := decide (PySem.W.nsIn K mainGlobals "check_wishes" = some (some (.ref (He.ga K "check_wishes"))))
def q28 (K : PySem.W.Frag) : Bool := decide (PySem.W.keepIn K (.ref (He.ga K "check_wishes")) = true)
def q29 (K : PySem.W.Frag) : Bool := decide (PySem.W.nsIn K mainGlobals "is_change" = some (some (.ref (He.ga K "is_change"))))
def q30 (K : PySem.W.Frag) : Bool := decide (PySem.W.keepIn K (.ref (He.ga K "is_change")) = true)
def q31 (K : PySem.W.Frag) : Bool := decide (PySem.W.nsIn K mainGlobals "check_changes" = some (some (.ref (He.ga K "check_changes"))))
def q32 (K : PySem.W.Frag) : Bool := decide (PySem.W.keepIn K (.ref (He.ga K "check_changes")) = true)
def q33 (K : PySem.W.Frag) : Bool := decide (PySem.W.nsIn K mainGlobals "all_lots" = some (some (.ref (He.ga K "all_lots"))))
def q34 (K : PySem.W.Frag) : Bool := decide (PySem.W.keepIn K (.ref (He.ga K "all_lots")) = true)
def q35 (K : PySem.W.Frag) : Bool := decide (PySem.W.nsIn K mainGlobals "is_part" = some (some (.ref (He.ga K "is_part"))))
def q36 (K : PySem.W.Frag) : Bool := decide (PySem.W.keepIn K (.ref (He.ga K "is_part")) = true)
def q37 (K : PySem.W.Frag) : Bool := decide (PySem.W.nsIn K mainGlobals "changed_rule" = some (some (.ref (He.ga K "changed_rule"))))
def q38 (K : PySem.W.Frag) : Bool := decide (PySem.W.keepIn K (.ref (He.ga K "changed_rule")) = true)
def q39 (K : PySem.W.Frag) : Bool := decide (PySem.W.nsIn K mainGlobals "mending" = some (some (.ref (He.ga K "mending"))))
def q40 (K : PySem.W.Frag) : Bool := decide (PySem.W.keepIn K (.ref (He.ga K "mending")) = true)
def q41 (K : PySem.W.Frag) : Bool := decide (PySem.W.nsIn K mainGlobals "_law_cell" = some (some (.ref (He.ga K "_law_cell"))))
def q42 (K : PySem.W.Frag) : Bool := decide (PySem.W.keepIn K (.ref (He.ga K "_law_cell")) = true)
def q43 (K : PySem.W.Frag) : Bool := decide (PySem.W.nsIn K mainGlobals "_law_purse" = some (some (.ref (He.ga K "_law_purse"))))
def q44 (K : PySem.W.Frag) : Bool := decide (PySem.W.keepIn K (.ref (He.ga K "_law_purse")) = true)
def q45 (K : PySem.W.Frag) : Bool := decide (PySem.W.nsIn K mainGlobals "_law_pick" = some (some (.ref (He.ga K "_law_pick"))))
def q46 (K : PySem.W.Frag) : Bool := decide (PySem.W.keepIn K (.ref (He.ga K "_law_pick")) = true)
def q47 (K : PySem.W.Frag) : Bool := decide (PySem.W.nsIn K mainGlobals "_law_letters" = some (some (.ref (He.ga K "_law_letters"))))
def q48 (K : PySem.W.Frag) : Bool := decide (PySem.W.keepIn K (.ref (He.ga K "_law_letters")) = true)
def q49 (K : PySem.W.Frag) : Bool := decide (PySem.W.nsIn K mainGlobals "_law_aim" = some (some (.ref (He.ga K "_law_aim"))))
def q50 (K : PySem.W.Frag) : Bool := decide (PySem.W.keepIn K (.ref (He.ga K "_law_aim")) = true)
def q51 (K : PySem.W.Frag) : Bool := decide (PySem.W.nsIn K mainGlobals "_law_box" = some (some (.ref (He.ga K "_law_box"))))
def q52 (K : PySem.W.Frag) : Bool := decide (PySem.W.keepIn K (.ref (He.ga K "_law_box")) = true)
def q53 (K : PySem.W.Frag) : Bool := decide (PySem.W.nsIn K mainGlobals "_law_text" = some (some (.ref (He.ga K "_law_text"))))
def q54 (K : PySem.W.Frag) : Bool := decide (PySem.W.keepIn K (.ref (He.ga K "_law_text")) = true)
def q55 (K : PySem.W.Frag) : Bool := decide (PySem.W.nsIn K mainGlobals "_law_end" = some (some (.ref (He.ga K "_law_end"))))
def q56 (K : PySem.W.Frag) : Bool := decide (PySem.W.keepIn K (.ref (He.ga K "_law_end")) = true)
def q57 (K : PySem.W.Frag) : Bool := decide (PySem.W.nsIn K mainGlobals "_law_is_fine" = some (some (.ref (He.ga K "_law_is_fine"))))
def q58 (K : PySem.W.Frag) : Bool := decide (PySem.W.keepIn K (.ref (He.ga K "_law_is_fine")) = true)
def q59 (K : PySem.W.Frag) : Bool := decide (PySem.W.nsIn K mainGlobals "_law_line" = some (some (.ref (He.ga K "_law_line"))))
def q60 (K : PySem.W.Frag) : Bool := decide (PySem.W.keepIn K (.ref (He.ga K "_law_line")) = true)
def q61 (K : PySem.W.Frag) : Bool := decide (PySem.W.nsIn K mainGlobals "_law_changes" = some (some (.ref (He.ga K "_law_changes"))))
def q62 (K : PySem.W.Frag) : Bool := decide (PySem.W.keepIn K (.ref (He.ga K "_law_changes")) = true)
def q63 (K : PySem.W.Frag) : Bool := decide (PySem.W.nsIn K mainGlobals "_law_with" = some (some (.ref (He.ga K "_law_with"))))
def q64 (K : PySem.W.Frag) : Bool := decide (PySem.W.keepIn K (.ref (He.ga K "_law_with")) = true)
def q65 (K : PySem.W.Frag) : Bool := decide (PySem.W.nsIn K mainGlobals "_law_lots" = some (some (.ref (He.ga K "_law_lots"))))
def q66 (K : PySem.W.Frag) : Bool := decide (PySem.W.keepIn K (.ref (He.ga K "_law_lots")) = true)
def q67 (K : PySem.W.Frag) : Bool := decide (PySem.W.nsIn K mainGlobals "_law_least_lots" = some (some (.ref (He.ga K "_law_least_lots"))))
def q68 (K : PySem.W.Frag) : Bool := decide (PySem.W.keepIn K (.ref (He.ga K "_law_least_lots")) = true)
def q69 (K : PySem.W.Frag) : Bool := decide (PySem.W.nsIn K mainGlobals "_law_holds" = some (some (.ref (He.ga K "_law_holds"))))
def q70 (K : PySem.W.Frag) : Bool := decide (PySem.W.keepIn K (.ref (He.ga K "_law_holds")) = true)
def q71 (K : PySem.W.Frag) : Bool := decide (PySem.W.nsIn K mainGlobals "_law_wish" = some (some (.ref (He.ga K "_law_wish"))))
def q72 (K : PySem.W.Frag) : Bool := decide (PySem.W.keepIn K (.ref (He.ga K "_law_wish")) = true)
def q73 (K : PySem.W.Frag) : Bool := decide (PySem.W.nsIn K mainGlobals "_law_right" = some (some (.ref (He.ga K "_law_right"))))
def q74 (K : PySem.W.Frag) : Bool := decide (PySem.W.keepIn K (.ref (He.ga K "_law_right")) = true)
def q75 (K : PySem.W.Frag) : Bool := decide (PySem.W.nsIn K mainGlobals "law" = some (some (.ref (He.ga K "law"))))
def q76 (K : PySem.W.Frag) : Bool := decide (PySem.W.keepIn K (.ref (He.ga K "law")) = true)
def q77 (K : PySem.W.Frag) : Bool := decide (PySem.W.findIn K (.ref (He.ga K "Rule")) "__init__" = some (some (.ref (He.ma K (He.ga K "Rule") "__init__"))))
def q78 (K : PySem.W.Frag) : Bool := decide (PySem.W.isFn K (.ref (He.ma K (He.ga K "Rule") "__init__")) = true)
def q79 (K : PySem.W.Frag) : Bool := decide (PySem.W.keepIn K (.ref (He.ma K (He.ga K "Rule") "__init__")) = true)
def q80 (K : PySem.W.Frag) : Bool := decide (PySem.W.findIn K (.ref (He.ga K "Rule")) "mood" = some (some (.ref (He.ma K (He.ga K "Rule") "mood"))))
def q81 (K : PySem.W.Frag) : Bool := decide (PySem.W.isFn K (.ref (He.ma K (He.ga K "Rule") "mood")) = true)
def q82 (K : PySem.W.Frag) : Bool := decide (PySem.W.keepIn K (.ref (He.ma K (He.ga K "Rule") "mood")) = true)
def q83 (K : PySem.W.Frag) : Bool := decide (PySem.W.findIn K (.ref (He.ga K "Rule")) "has" = some (some (.ref (He.ma K (He.ga K "Rule") "has"))))
def q84 (K : PySem.W.Frag) : Bool := decide (PySem.W.isFn K (.ref (He.ma K (He.ga K "Rule") "has")) = true)
def q85 (K : PySem.W.Frag) : Bool := decide (PySem.W.keepIn K (.ref (He.ma K (He.ga K "Rule") "has")) = true)
def q86 (K : PySem.W.Frag) : Bool := decide (PySem.W.findIn K (.ref (He.ga K "Rule")) "turn" = some (some (.ref (He.ma K (He.ga K "Rule") "turn"))))
def q87 (K : PySem.W.Frag) : Bool := decide (PySem.W.isFn K (.ref (He.ma K (He.ga K "Rule") "turn")) = true)
def q88 (K : PySem.W.Frag) : Bool := decide (PySem.W.keepIn K (.ref (He.ma K (He.ga K "Rule") "turn")) = true)
def q89 (K : PySem.W.Frag) : Bool := decide (PySem.W.findIn K (.ref (He.ga K "Rule")) "lead" = some (some (.ref (He.ma K (He.ga K "Rule") "lead"))))
def q90 (K : PySem.W.Frag) : Bool := decide (PySem.W.isFn K (.ref (He.ma K (He.ga K "Rule") "lead")) = true)
def q91 (K : PySem.W.Frag) : Bool := decide (PySem.W.keepIn K (.ref (He.ma K (He.ga K "Rule") "lead")) = true)
def q92 (K : PySem.W.Frag) : Bool := decide (PySem.W.findIn K (.ref (He.ga K "Rule")) "is_mood" = some (some (.ref (He.ma K (He.ga K "Rule") "is_mood"))))
def q93 (K : PySem.W.Frag) : Bool := decide (PySem.W.isFn K (.ref (He.ma K (He.ga K "Rule") "is_mood")) = true)
def q94 (K : PySem.W.Frag) : Bool := decide (PySem.W.keepIn K (.ref (He.ma K (He.ga K "Rule") "is_mood")) = true)
def q95 (K : PySem.W.Frag) : Bool := decide (PySem.W.findIn K (.ref (He.ga K "Rule")) "is_sign" = some (some (.ref (He.ma K (He.ga K "Rule") "is_sign"))))
def q96 (K : PySem.W.Frag) : Bool := decide (PySem.W.isFn K (.ref (He.ma K (He.ga K "Rule") "is_sign")) = true)
def q97 (K : PySem.W.Frag) : Bool := decide (PySem.W.keepIn K (.ref (He.ma K (He.ga K "Rule") "is_sign")) = true)
def q98 (K : PySem.W.Frag) : Bool := decide (PySem.W.findIn K (.ref (He.ga K "Rule")) "signs" = some (some (.ref (He.ma K (He.ga K "Rule") "signs"))))
def q99 (K : PySem.W.Frag) : Bool := decide (PySem.W.specialIn K (.ref (He.ma K (He.ga K "Rule") "signs")) "__get__" = some (some (.builtin "property.__get__")))
def q100 (K : PySem.W.Frag) : Bool := decide (PySem.W.takesIn K (.ref (He.ma K (He.ga K "Rule") "signs")) = some true)
def q101 (K : PySem.W.Frag) : Bool := decide (PySem.W.recIn K (He.ma K (He.ga K "Rule") "signs") "property" = some (.ref (Hq.pf K (He.ma K (He.ga K "Rule") "signs")) :: (Hq.pr K (He.ma K (He.ga K "Rule") "signs"))))
def q102 (K : PySem.W.Frag) : Bool := decide (PySem.W.keepIn K (.ref (Hq.pf K (He.ma K (He.ga K "Rule") "signs"))) = true)
def q103 (K : PySem.W.Frag) : Bool := decide (PySem.W.findIn K (.ref (He.ga K "Rule")) "text" = some (some (.ref (He.ma K (He.ga K "Rule") "text"))))
def q104 (K : PySem.W.Frag) : Bool := decide (PySem.W.specialIn K (.ref (He.ma K (He.ga K "Rule") "text")) "__get__" = some (some (.builtin "property.__get__")))
def q105 (K : PySem.W.Frag) : Bool := decide (PySem.W.takesIn K (.ref (He.ma K (He.ga K "Rule") "text")) = some true)
def q106 (K : PySem.W.Frag) : Bool := decide (PySem.W.recIn K (He.ma K (He.ga K "Rule") "text") "property" = some (.ref (Hq.pf K (He.ma K (He.ga K "Rule") "text")) :: (Hq.pr K (He.ma K (He.ga K "Rule") "text"))))
def q107 (K : PySem.W.Frag) : Bool := decide (PySem.W.keepIn K (.ref (Hq.pf K (He.ma K (He.ga K "Rule") "text"))) = true)
def q108 (K : PySem.W.Frag) : Bool := decide (PySem.W.nsIn K mainGlobals "MOST_SIGNS" = some (some (.int 3 (Hq.tk K "MOST_SIGNS"))))
def q109 (K : PySem.W.Frag) : Bool := decide (PySem.W.nsIn K mainGlobals "MOST_MOODS" = some (some (.int 300 (Hq.tk K "MOST_MOODS"))))
def q110 (K : PySem.W.Frag) : Bool := decide (PySem.W.nsIn K mainGlobals "MOST_ROW" = some (some (.int 1000 (Hq.tk K "MOST_ROW"))))
def q111 (K : PySem.W.Frag) : Bool := decide (PySem.W.nsIn K mainGlobals "LONGEST_WORD" = some (some (.int 8 (Hq.tk K "LONGEST_WORD"))))
def q112 (K : PySem.W.Frag) : Bool := decide (PySem.W.nsIn K mainGlobals "LETTERS" = some (some (.str "abcdefghijklmnopqrstuvwxyz" (Hq.tk K "LETTERS"))))
def q113 (K : PySem.W.Frag) : Bool := decide (PySem.W.nsIn K mainGlobals "MOST_CHANGES" = some (some (.int 6 (Hq.tk K "MOST_CHANGES"))))
def q114 (K : PySem.W.Frag) : Bool := decide (PySem.W.nsIn K mainGlobals "TITLES" = some (some (.ref (He.ga K "TITLES"))))
def q115 (K : PySem.W.Frag) : Bool := He.tupB K "TITLES" [.str "signs", .str "moods", .str "good"]
def q116 (K : PySem.W.Frag) : Bool := decide (PySem.W.nsIn K mainGlobals "KINDS_WITHOUT_SETS" = some (some (.ref (He.ga K "KINDS_WITHOUT_SETS"))))
def q117 (K : PySem.W.Frag) : Bool := He.tupB K "KINDS_WITHOUT_SETS" [.str "last", .str "ends", .str "windows"]
def q118 (K : PySem.W.Frag) : Bool := decide (PySem.W.plainGet K (He.ga K "Rule") Str.empty = true)
def q119 (K : PySem.W.Frag) : Bool := decide (PySem.W.hasDictIn K (He.ga K "Rule") = true)
def q120 (K : PySem.W.Frag) : Bool := decide (PySem.W.plainOver K (He.ga K "Rule") = true)
def q121 (K : PySem.W.Frag) : Bool := decide (PySem.W.findIn K (.ref (He.ga K "Rule")) "__setattr__" = some (some (.builtin "object.__setattr__")))
def q122 (K : PySem.W.Frag) : Bool := decide (PySem.W.makesIn K (He.ga K "Rule") = true)
def q123 (K : PySem.W.Frag) : Bool := decide (PySem.W.keepIn K (.ref (He.ga K "Rule")) = true)
def q124 (K : PySem.W.Frag) : Bool := decide (PySem.W.findIn K (.ref (He.ga K "Rule")) "written" = some none)
def q125 (K : PySem.W.Frag) : Bool := decide (PySem.W.findIn K (.ref (He.ga K "Rule")) "letters" = some none)
def q126 (K : PySem.W.Frag) : Bool := decide (PySem.W.findIn K (.ref (He.ga K "Rule")) "words" = some none)
def q127 (K : PySem.W.Frag) : Bool := decide (PySem.W.findIn K (.ref (He.ga K "Rule")) "chosen" = some none)
def q128 (K : PySem.W.Frag) : Bool := decide (PySem.W.findIn K (.ref (He.ga K "Rule")) "goals" = some none)
def q129 (K : PySem.W.Frag) : Bool := decide (PySem.W.findIn K (.ref (He.ga K "Rule")) "__class__" = some (some (.builtin "object.__class__")))
def q130 (K : PySem.W.Frag) : Bool := decide (PySem.W.specialIn K (.builtin "object.__class__") "__get__" = some (some (.builtin "getset_descriptor.__get__")))
def q131 (K : PySem.W.Frag) : Bool := decide (PySem.W.takesIn K (.builtin "object.__class__") = some true)
def q132 (K : PySem.W.Frag) : Bool := decide (PySem.W.mroIn K (He.ga K "Rule") (.type "object") = some true)
def q133 (K : PySem.W.Frag) : Bool := decide (PySem.W.kitOne K (.ref (He.ga K "Rule")) (.ref (He.ga K "Rule")) = some true)
def q134 (K : PySem.W.Frag) : Bool := chkF K
abbrev fn0 : Hq.FnA := ⟨fun K => (He.ga K "made_of"), "made_of", "made_of", defArgs sMade, defBody sMade, defScope sMade⟩
abbrev fn1 : Hq.FnA := ⟨fun K => (He.ga K "is_row_of"), "is_row_of", "is_row_of", defArgs sRowOf, defBody sRowOf, defScope sRowOf⟩
abbrev fn2 : Hq.FnA := ⟨fun K => (He.ga K "is_word"), "is_word", "is_word", defArgs sWord, defBody sWord, defScope sWord⟩
abbrev fn3 : Hq.FnA := ⟨fun K => (He.ga K "are_signs"), "are_signs", "are_signs", defArgs sSigns, defBody sSigns, defScope sSigns⟩
abbrev fn4 : Hq.FnA := ⟨fun K => (He.ga K "are_moods"), "are_moods", "are_moods", defArgs sMoods, defBody sMoods, defScope sMoods⟩
abbrev fn5 : Hq.FnA := ⟨fun K => (He.ga K "are_good"), "are_good", "are_good", defArgs sGood, defBody sGood, defScope sGood⟩
abbrev fn6 : Hq.FnA := ⟨fun K => (He.ga K "read_goals"), "read_goals", "read_goals", defArgs sGoals, defBody sGoals, defScope sGoals⟩
abbrev fn7 : Hq.FnA := ⟨fun K => (He.ga K "read_rule"), "read_rule", "read_rule", defArgs sRead, defBody sRead, defScope sRead⟩
abbrev fn8 : Hq.FnA := ⟨fun K => (He.ga K "write_rule"), "write_rule", "write_rule", defArgs sWriteR, defBody sWriteR, defScope sWriteR⟩
abbrev fn9 : Hq.FnA := ⟨fun K => (He.ga K "check_rule"), "check_rule", "check_rule", defArgs sCRule, defBody sCRule, defScope sCRule⟩
abbrev fn10 : Hq.FnA := ⟨fun K => (He.ga K "is_wish"), "is_wish", "is_wish", defArgs sIsWish, defBody sIsWish, defScope sIsWish⟩
abbrev fn11 : Hq.FnA := ⟨fun K => (He.ga K "is_good_row"), "is_good_row", "is_good_row", defArgs sGoodRow, defBody sGoodRow, defScope sGoodRow⟩
abbrev fn12 : Hq.FnA := ⟨fun K => (He.ga K "holds"), "holds", "holds", defArgs sHoldsW, defBody sHoldsW, defScope sHoldsW⟩
abbrev fn13 : Hq.FnA := ⟨fun K => (He.ga K "check_wishes"), "check_wishes", "check_wishes", defArgs sCkWish, defBody sCkWish, defScope sCkWish⟩
abbrev fn14 : Hq.FnA := ⟨fun K => (He.ga K "is_change"), "is_change", "is_change", defArgs sIsChange, defBody sIsChange, defScope sIsChange⟩
abbrev fn15 : Hq.FnA := ⟨fun K => (He.ga K "check_changes"), "check_changes", "check_changes", defArgs sCkChg, defBody sCkChg, defScope sCkChg⟩
abbrev fn16 : Hq.FnA := ⟨fun K => (He.ga K "all_lots"), "all_lots", "all_lots", defArgs sAllLots, defBody sAllLots, defScope sAllLots⟩
abbrev fn17 : Hq.FnA := ⟨fun K => (He.ga K "is_part"), "is_part", "is_part", defArgs sIsPart, defBody sIsPart, defScope sIsPart⟩
abbrev fn18 : Hq.FnA := ⟨fun K => (He.ga K "changed_rule"), "changed_rule", "changed_rule", defArgs sChanged, defBody sChanged, defScope sChanged⟩
abbrev fn19 : Hq.FnA := ⟨fun K => (He.ga K "mending"), "mending", "mending", defArgs sMending, defBody sMending, defScope sMending⟩
abbrev fn20 : Hq.FnA := ⟨fun K => (He.ga K "_law_cell"), "_law_cell", "_law_cell", defArgs sCell, defBody sCell, defScope sCell⟩
abbrev fn21 : Hq.FnA := ⟨fun K => (He.ga K "_law_purse"), "_law_purse", "_law_purse", defArgs sPurse, defBody sPurse, defScope sPurse⟩
abbrev fn22 : Hq.FnA := ⟨fun K => (He.ga K "_law_pick"), "_law_pick", "_law_pick", defArgs sPick, defBody sPick, defScope sPick⟩
abbrev fn23 : Hq.FnA := ⟨fun K => (He.ga K "_law_letters"), "_law_letters", "_law_letters", defArgs sLetters, defBody sLetters, defScope sLetters⟩
abbrev fn24 : Hq.FnA := ⟨fun K => (He.ga K "_law_aim"), "_law_aim", "_law_aim", defArgs sAim, defBody sAim, defScope sAim⟩
abbrev fn25 : Hq.FnA := ⟨fun K => (He.ga K "_law_box"), "_law_box", "_law_box", defArgs sBox, defBody sBox, defScope sBox⟩
abbrev fn26 : Hq.FnA := ⟨fun K => (He.ga K "_law_text"), "_law_text", "_law_text", defArgs sText, defBody sText, defScope sText⟩
abbrev fn27 : Hq.FnA := ⟨fun K => (He.ga K "_law_end"), "_law_end", "_law_end", defArgs sEnd, defBody sEnd, defScope sEnd⟩
abbrev fn28 : Hq.FnA := ⟨fun K => (He.ga K "_law_is_fine"), "_law_is_fine", "_law_is_fine", defArgs sFine, defBody sFine, defScope sFine⟩
abbrev fn29 : Hq.FnA := ⟨fun K => (He.ga K "_law_line"), "_law_line", "_law_line", defArgs sLine, defBody sLine, defScope sLine⟩
abbrev fn30 : Hq.FnA := ⟨fun K => (He.ga K "_law_changes"), "_law_changes", "_law_changes", defArgs sChangesL, defBody sChangesL, defScope sChangesL⟩
abbrev fn31 : Hq.FnA := ⟨fun K => (He.ga K "_law_with"), "_law_with", "_law_with", defArgs sWithL, defBody sWithL, defScope sWithL⟩
abbrev fn32 : Hq.FnA := ⟨fun K => (He.ga K "_law_lots"), "_law_lots", "_law_lots", defArgs sLotsL, defBody sLotsL, defScope sLotsL⟩
abbrev fn33 : Hq.FnA := ⟨fun K => (He.ga K "_law_least_lots"), "_law_least_lots", "_law_least_lots", defArgs sLeastL, defBody sLeastL, defScope sLeastL⟩
abbrev fn34 : Hq.FnA := ⟨fun K => (He.ga K "_law_holds"), "_law_holds", "_law_holds", defArgs sHolds, defBody sHolds, defScope sHolds⟩
abbrev fn35 : Hq.FnA := ⟨fun K => (He.ga K "_law_wish"), "_law_wish", "_law_wish", defArgs sWishL, defBody sWishL, defScope sWishL⟩
abbrev fn36 : Hq.FnA := ⟨fun K => (He.ga K "_law_right"), "_law_right", "_law_right", defArgs sRight, defBody sRight, defScope sRight⟩
abbrev fn37 : Hq.FnA := ⟨fun K => (He.ga K "law"), "law", "law", defArgs sLaw, defBody sLaw, defScope sLaw⟩
abbrev fn38 : Hq.FnA := ⟨fun K => (He.ma K (He.ga K "Rule") "__init__"), "__init__", "Rule.__init__", defArgs (inClass sRule 0), defBody (inClass sRule 0), defScope (inClass sRule 0)⟩
abbrev fn39 : Hq.FnA := ⟨fun K => (He.ma K (He.ga K "Rule") "mood"), "mood", "Rule.mood", defArgs (inClass sRule 8), defBody (inClass sRule 8), defScope (inClass sRule 8)⟩
abbrev fn40 : Hq.FnA := ⟨fun K => (He.ma K (He.ga K "Rule") "has"), "has", "Rule.has", defArgs (inClass sRule 9), defBody (inClass sRule 9), defScope (inClass sRule 9)⟩
abbrev fn41 : Hq.FnA := ⟨fun K => (He.ma K (He.ga K "Rule") "turn"), "turn", "Rule.turn", defArgs (inClass sRule 11), defBody (inClass sRule 11), defScope (inClass sRule 11)⟩
abbrev fn42 : Hq.FnA := ⟨fun K => (He.ma K (He.ga K "Rule") "lead"), "lead", "Rule.lead", defArgs (inClass sRule 10), defBody (inClass sRule 10), defScope (inClass sRule 10)⟩
abbrev fn43 : Hq.FnA := ⟨fun K => (He.ma K (He.ga K "Rule") "is_mood"), "is_mood", "Rule.is_mood", defArgs (inClass sRule 12), defBody (inClass sRule 12), defScope (inClass sRule 12)⟩
abbrev fn44 : Hq.FnA := ⟨fun K => (He.ma K (He.ga K "Rule") "is_sign"), "is_sign", "Rule.is_sign", defArgs (inClass sRule 13), defBody (inClass sRule 13), defScope (inClass sRule 13)⟩
abbrev fn45 : Hq.FnA := ⟨fun K => (Hq.pf K (He.ma K (He.ga K "Rule") "signs")), "signs", "Rule.signs", defArgs (inClass sRule 2), defBody (inClass sRule 2), defScope (inClass sRule 2)⟩
abbrev fn46 : Hq.FnA := ⟨fun K => (Hq.pf K (He.ma K (He.ga K "Rule") "text")), "text", "Rule.text", defArgs (inClass sRule 1), defBody (inClass sRule 1), defScope (inClass sRule 1)⟩
def ask0 : List Str := ["Rule", "made_of", "is_row_of", "is_word", "are_signs", "are_moods", "are_good", "read_goals", "read_rule", "write_rule", "check_rule", "is_wish", "is_good_row", "holds", "check_wishes", "is_change", "check_changes", "all_lots", "is_part", "changed_rule", "mending", "_law_cell", "_law_purse", "_law_pick", "_law_letters", "_law_aim", "_law_box", "_law_text", "_law_end", "_law_is_fine"]
def ask1 : List Str := ["_law_line", "_law_changes", "_law_with", "_law_lots", "_law_least_lots", "_law_holds", "_law_wish", "_law_right", "law", "MOST_SIGNS", "MOST_MOODS", "MOST_ROW", "LONGEST_WORD", "LETTERS", "MOST_CHANGES", "TITLES", "KINDS_WITHOUT_SETS"]
def asked : List Str := ask0 ++ ask1
def nm0 : List Str := ["_wall", "NotRight", "InvalidText", "InvalidRow", "InvalidKind", "InvalidNumber", "InvalidMood", "InvalidSign", "NotARule", "InvalidWishes", "InvalidChanges", "NotPossible", "TooMany", "MOST_SIGNS", "MOST_MOODS", "MOST_ROW", "MOST_LOOK", "MOST_MOVINGS", "MOST_TRIPLES", "MOST_CHANGES", "in_bounds", "LETTERS", "LONGEST_WORD", "TITLES", "made_of", "is_row_of", "is_word", "are_signs", "are_moods", "are_good"]
def nm1 : List Str := ["read_goals", "read_rule", "write_rule", "Rule", "check_rule", "explored", "Lots", "sources_by_sign", "alike_lots", "mood_name", "least_rule", "formed", "first_moods", "pair_step", "pair_test", "joined", "least_form", "Form", "KINDS", "is_kind", "is_number", "check_kind", "check_number", "first_rows", "explored_ways", "Movings", "ENDLESS", "in_order", "heights_of", "Pairs"]
def nm2 : List Str := ["pairs_for_last", "pairs_for_windows", "Forks", "shortest_rows", "triples_and_rows", "sets_clash", "tallest", "least_for_ends", "least_for_sets", "kept", "least_look", "MOST_ASKED", "KINDS_WITHOUT_SETS", "is_wish", "is_kept", "is_good_row", "holds", "check_wishes", "is_change", "check_changes", "all_lots", "changed_rule", "is_part", "mending", "_law_cell", "_law_purse", "_law_pick", "_law_letters", "_law_aim", "_law_box"]
def nm3 : List Str := ["_law_text", "_law_end", "_law_is_fine", "_law_line", "_law_changes", "_law_with", "_law_lots", "_law_least_lots", "_law_holds", "_law_wish", "_law_right"]
def others : List Str := nm0 ++ nm1 ++ nm2 ++ nm3
abbrev R : PySem.W.OpenRow := PySem.W.OpenLaw.row PySem.Challenge.rw_shortlooks_k61_whole_mends_for_rows
def qs_0 : List (PySem.W.Frag → Bool) := [q0, q1, q2, q3, q4, q5, q6, q7, q8, q9, q10, q11, q12, q13, q14, q15, q16, q17, q18, q19, q20, q21, q22, q23, q24, q25, q26, q27, q28, q29, q30, q31, q32]
def fns_0 : List Hq.FnA := [fn0, fn1, fn2, fn3, fn4, fn5, fn6, fn7, fn8, fn9, fn10]
def tfs_0 : List (PySem.W.Frag → Addr) := [(fun K => (He.ga K "_law_lots"))]
def qs_1 : List (PySem.W.Frag → Bool) := [q33, q34, q35, q36, q37, q38, q39, q40, q41, q42, q43, q44, q45, q46, q47, q48, q49, q50, q51, q52, q53, q54, q55, q56, q57, q58, q59, q60, q61, q62, q63, q64, q65, q66]
def fns_1 : List Hq.FnA := [fn11, fn12, fn13, fn14, fn15, fn16, fn17, fn18, fn19, fn20, fn21, fn22]
def tfs_1 : List (PySem.W.Frag → Addr) := []
def qs_2 : List (PySem.W.Frag → Bool) := [q67, q68, q69, q70, q71, q72, q73, q74, q75, q76, q77, q78, q79, q80, q81, q82, q83, q84, q85, q86, q87, q88, q89, q90, q91, q92, q93, q94, q95, q96, q97, q98, q99, q100]
def fns_2 : List Hq.FnA := [fn23, fn24, fn25, fn26, fn27, fn28, fn29, fn30, fn31, fn32, fn33, fn34]
def tfs_2 : List (PySem.W.Frag → Addr) := []
def qs_3 : List (PySem.W.Frag → Bool) := [q101, q102, q103, q104, q105, q106, q107, q108, q109, q110, q111, q112, q113, q114, q115, q116, q117, q118, q119, q120, q121, q122, q123, q124, q125, q126, q127, q128, q129, q130, q131, q132, q133, q134]
def fns_3 : List Hq.FnA := [fn35, fn36, fn37, fn38, fn39, fn40, fn41, fn42, fn43, fn44, fn45, fn46]
def tfs_3 : List (PySem.W.Frag → Addr) := []
def qs : List (PySem.W.Frag → Bool) := (((qs_0 ++ qs_1) ++ qs_2) ++ qs_3)
def fns : List Hq.FnA := (((fns_0 ++ fns_1) ++ fns_2) ++ fns_3)
def tfs : List (PySem.W.Frag → Addr) := (((tfs_0 ++ tfs_1) ++ tfs_2) ++ tfs_3)
abbrev hk : PySem.W.Hook := Hq.hookQ asked qs fns tfs
def ob (s : PySem.W.SharedT) : He.Al × Bool := Hq.obsQ asked qs fns tfs (HandSHeadRun.getT s)
theorem ob_eq (s : PySem.W.SharedT) : ob s = hk.obs s.abs := Hq.obsQ_eq (HandSHeadRun.getT_eq s)
open PySem.W PySem.Calls HandSHeadRun in
theorem run_looks (w : World) (os : OsState) : (HandSHeadRun.endF (HandSHeadRun.stepQ (HandSHeadRun.denQ HandSHeadRun.tabQ) R.prog w) 30000 R.prog w os).map (fun s => HandSHeadRun.looksF R.prog (PySem.W.boot_heap w.params) s.abs) = some true := by kernel_rfl
open PySem.W PySem.Calls HandSHeadRun in
theorem run_seen (w : World) (os : OsState) : (HandSHeadRun.endF (HandSHeadRun.stepQ (HandSHeadRun.denQ HandSHeadRun.tabQ) R.prog w) 30000 R.prog w os).map (fun s => HandSHeadRun.seenQ (PySem.W.view R.prog [115]) others (importedModules R.prog.main.body) (fun s => PySem.W.xlAt (PySem.W.view R.prog [115]) [] s && recOk R.toRowW.records s) s.abs) = some (openGood (PySem.W.view R.prog [115]) others) := by kernel_rfl
open PySem.W PySem.Calls HandSHeadRun in
theorem run_obs0 (w : World) (os : OsState) : (HandSHeadRun.endF (HandSHeadRun.stepQ (HandSHeadRun.denQ HandSHeadRun.tabQ) R.prog w) 30000 R.prog w os).map (fun s => Hq.obsQ asked qs_0 fns_0 tfs_0 (HandSHeadRun.getT s)) = some (Hq.valQ fns_0, true) := by kernel_rfl
open PySem.W PySem.Calls HandSHeadRun in
theorem run_obs1 (w : World) (os : OsState) : (HandSHeadRun.endF (HandSHeadRun.stepQ (HandSHeadRun.denQ HandSHeadRun.tabQ) R.prog w) 30000 R.prog w os).map (fun s => Hq.obsQ asked qs_1 fns_1 tfs_1 (HandSHeadRun.getT s)) = some (Hq.valQ fns_1, true) := by kernel_rfl
open PySem.W PySem.Calls HandSHeadRun in
theorem run_obs2 (w : World) (os : OsState) : (HandSHeadRun.endF (HandSHeadRun.stepQ (HandSHeadRun.denQ HandSHeadRun.tabQ) R.prog w) 30000 R.prog w os).map (fun s => Hq.obsQ asked qs_2 fns_2 tfs_2 (HandSHeadRun.getT s)) = some (Hq.valQ fns_2, true) := by kernel_rfl
open PySem.W PySem.Calls HandSHeadRun in
theorem run_obs3 (w : World) (os : OsState) : (HandSHeadRun.endF (HandSHeadRun.stepQ (HandSHeadRun.denQ HandSHeadRun.tabQ) R.prog w) 30000 R.prog w os).map (fun s => Hq.obsQ asked qs_3 fns_3 tfs_3 (HandSHeadRun.getT s)) = some (Hq.valQ fns_3, true) := by kernel_rfl
theorem run (w : World) : HandSHeadRun.RunEq R (PySem.W.view R.prog [115]) hk ob 30000 others w := by
  intro os
  exact Hq.three (run_looks w os) (run_seen w os) (Hq.obs_app (Hq.obs_app (Hq.obs_app (run_obs0 w os) (run_obs1 w os)) (run_obs2 w os)) (run_obs3 w os))
end My
namespace PySem
namespace GX
open PySem.W PySem.Calls PyProof.Rows PySem.HandSPX
open Builtin Builtin.ObjectAttr

section
variable {M : Model} {Ar : Around} {Er : Value → Shared → Prop} {hh : Heap} {gg : Array GenState} {dd : Drawn} {tt : Nat} {oo : OsState}
variable {n1 n2 : Str} {C N : Addr} {b1 b2 b3 : List Value} {hx : Bool} {l1 : List Str} {l2 : List Value} {ab : Bool} {cl : Option Bool} {da : Option Addr} {m0 m1 m2 m3 m5 : Option Value} {B nid iid : String}

theorem chkNew (F : ExcBaseFacts B nid iid b3) (hT : ∀ Y : String, b2.contains (.type Y) = b3.contains (.type Y)) {rs : List Value} {kw : List (Str × Value)} {Q : Unit → Shared → Prop}
    (hC : hh.get? C = some (excClassObj n1 n2 C N b1 b2 hx l1 l2 ab cl da m0 m1 m2 m3 m5 nid))
    (hq : Q () ⟨hh, gg, dd, tt, oo⟩) :
    wpAny M Ar (checkBuiltinCall nid ⟨.ref C :: rs, kw⟩) Q Er ⟨hh, gg, dd, tt, oo⟩ := by
  have c1 : (Value.ref C :: b2).contains (.type B) = true := by
    rw [List.contains_cons, hT, F.hasB, Bool.or_true]
  have c2 := F.noStar
  simp only [checkBuiltinCall, F.newKind, F.newSplit, F.newRow]
  repeat (first
    | refine wpAny_loadPart_at hC ?_
    | (refine wpAny_isSubtype_exc hC ?_; rw [c1])
    | refine wpAny_staticBase_exc hC ?_
    | refine wpAny_madeBy_exc hC ?_
    | simp only [bne_self_eq_false, Bool.false_eq_true, if_false]
    | wp_step)
  exact hq
end
section
variable {pr : Program} {wd : World} {Ar : Around} {Er : Value → Shared → Prop} {Rr : Result → Shared → Prop} {hh : Heap} {gg : Array GenState} {dd : Drawn} {tt : Nat} {oo : OsState}
variable {n1 n2 : Str} {C N : Addr} {b1 b2 b3 : List Value} {hx : Bool} {l1 : List Str} {l2 : List Value} {ab : Bool} {cl : Option Bool} {da : Option Addr} {m0 m1 m2 m3 m5 : Option Value} {B nid iid : String}

theorem newK (F : ExcBaseFacts B nid iid b3) (hT : ∀ Y : String, b2.contains (.type Y) = b3.contains (.type Y)) {rs : List Value} {kw : List (Str × Value)}
    (hC : hh.get? C = some (excClassObj n1 n2 C N b1 b2 hx l1 l2 ab cl da m0 m1 m2 m3 m5 nid))
    (hq : Rr (.ok (.ret (.ref (hh.objs.size + 1)))) ⟨(hh.push (W.kdv_tup rs)).push (excO C hh.objs.size), gg, dd, tt, oo⟩)
    (hrs : rs.length ≤ sizeLine) :
    codeAny (model pr wd) Ar (.builtin nid ⟨.ref C :: rs, kw⟩) Rr ⟨hh, gg, dd, tt, oo⟩ := by
  have c0 := F.ends
  have cB : (Value.ref C :: b2).contains (.type B) = true := by
    rw [List.contains_cons, hT, F.hasB, Bool.or_true]
  have cA : (Value.ref C :: b2).contains (.type "AttributeError") = false := by
    rw [List.contains_cons, hT, F.noAttr]; rfl
  have cN : (Value.ref C :: b2).contains (.type "NameError") = false := by
    rw [List.contains_cons, hT, F.noName]; rfl
  refine codeAny_builtinAt F.entry ?_
  unfold Builtin.«BaseException.__new__»
  refine wpAt_bind ?_
  show wpAt _ _ _ (stack >>= _) _ _ _
  refine wpAt_bind (wpAt_stack fun p below => wpAt_of_wpAny ?_)
  wp_walk
  refine wpAt_of_wpAny ?_
  rw [F.owner]
  repeat (first
    | with_reducible refine wpAny_madeHere_exc F.canon hC ?_
    | with_reducible refine wpAny_loadPart_at hC ?_
    | (with_reducible refine wpAny_isSubtype_exc hC ?_; first | rw [cB] | rw [cA] | rw [cN])
    | wp_step)
  show Rr _ _
  rw [Heap.size_push]
  exact hq
end
end GX
end PySem
namespace PySem
namespace GX
open PySem.W PySem.Calls PyProof.Rows PySem.HandSPX
open Builtin Builtin.ObjectAttr
section
variable {M : Model} {Ar : Around} {Er : Value → Shared → Prop} {hh : Heap} {gg : Array GenState} {dd : Drawn} {tt : Nat} {oo : OsState}
variable {n1 n2 : Str} {C N : Addr} {b1 b2 b3 : List Value} {hx : Bool} {l1 : List Str} {l2 : List Value} {ab : Bool} {cl : Option Bool} {da : Option Addr} {m0 m1 m2 m3 m5 : Option Value} {B nid iid : String}
theorem chkCall {rs : List Value} {kw : List (Str × Value)} {Q : Unit → Shared → Prop}
    (hC : hh.get? C = some (excClassObj n1 n2 C N b1 b2 hx l1 l2 ab cl da m0 m1 m2 m3 m5 nid))
    (hq : Q () ⟨hh, gg, dd, tt, oo⟩) :
    wpAny M Ar (checkBuiltinCall "type.__call__" ⟨.ref C :: rs, kw⟩) Q Er ⟨hh, gg, dd, tt, oo⟩ := by
  have z3 := tc_sub
  have zT : (⟨hh, gg, dd, tt, oo⟩ : Shared).TypeIs (.ref C) "type" := ⟨_, hC, rfl⟩
  simp only [checkBuiltinCall, tc_kind, tc_split]
  repeat (any_goals (first
    | assumption
    | with_reducible refine wpAny_loadPart_at hC ?_
    | with_reducible refine wpAny_onRaise ?_
    | with_reducible refine wpAny_map ?_
    | wp_step))
end
section
variable {pr : Program} {wd : World} {Ar : Around} {Er : Value → Shared → Prop} {Rr : Result → Shared → Prop} {hh : Heap} {gg : Array GenState} {dd : Drawn} {tt : Nat} {oo : OsState}
variable {n1 n2 : Str} {C N : Addr} {b1 b2 b3 : List Value} {hx : Bool} {l1 : List Str} {l2 : List Value} {ab : Bool} {cl : Option Bool} {da : Option Addr} {m0 m1 m2 m3 m5 : Option Value} {B nid iid : String}

theorem typeK (F : ExcBaseFacts B nid iid b3) (hT : ∀ Y : String, b2.contains (.type Y) = b3.contains (.type Y)) {rs : List Value} {kw : List (Str × Value)} {fI : Addr} {Q : Fin → Shared → Prop}
    (hC : hh.get? C = some (excClassObj n1 n2 C N b1 b2 hx l1 l2 ab cl da m0 m1 m2 m3 m5 nid))
    (hi : W.Looks (model pr wd) hh (typeLookup (.ref C) "__init__") (some (.ref fI)))
    (hb : ∀ self, W.Looks (model pr wd) hh (bindSpecial (.ref fI) self) (.ref fI, [self]))
    (hrs : rs.length ≤ sizeLine)
    (hq : codeAny (model pr wd) Ar (.call (.ref fI) ⟨.ref (hh.objs.size + 1) :: rs, kw⟩)
      (fun r s' => match r with
        | .ok (.ret v) => v = .none ∧ Q (.done (.ret (.ref (hh.objs.size + 1)))) s'
        | .ok _ => False
        | .error e => Er e s')
      ⟨(hh.push (W.kdv_tup rs)).push (excO C hh.objs.size), gg, dd, tt, oo⟩) :
    wpAny (model pr wd) Ar (Builtin.«type.__call__» ⟨.ref C :: rs, kw⟩) Q Er ⟨hh, gg, dd, tt, oo⟩ := by
  repeat (first
    | with_reducible refine wpAny_loadPart_at hC ?_
    | with_reducible refine wpAny_madeBy_exc hC ?_
    | wp_step)
  refine codeAny_call_builtin_code (Code.quiet_builtin _ F.quiet) (chkNew F hT hC ?_)
  refine newK F hT hC ?_ hrs
  show wpAny _ _ _ _ _ _
  have kk : ∀ b o, hh.get? b = some o → ((hh.push (W.kdv_tup rs)).push (excO C hh.objs.size)).get? b = some o :=
    fun b o e => Heap.get?_push_of_some _ (Heap.get?_push_of_some _ e)
  have hC1 := kk _ _ hC
  have hgt : ((hh.push (W.kdv_tup rs)).push (excO C hh.objs.size)).get? (hh.objs.size + 1) = some (excO C hh.objs.size) := by
    heap_get
  have cC : (Value.ref C :: b2).contains (.ref C) = true := by simp
  have j1 := hi.keeps kk
  have j2 := (hb (.ref (hh.objs.size + 1))).keeps kk
  unfold isInstance
  repeat (first
    | with_reducible refine wpAny_loadPart_at hgt ?_
    | (with_reducible refine wpAny_isSubtype_exc hC1 ?_; rw [cC])
    | wp_step)
  show wpAny _ _ (typeLookup (.ref C) _) _ _ _
  refine j1.at ?_
  refine wpAny_holding (wpAny_bind (j2.at ?_))
  refine wpAny_bind (wpAny_call (codeAny_mono hq fun r s' z => ?_))
  rcases r with e | (v | _ | _ | _) <;> first | exact z | exact z.elim | skip
  obtain ⟨rfl, z⟩ := z
  first
    | exact wpAny_pure (wpAny_pure z)
    | (wp_walk; exact z)

theorem callK (F : ExcBaseFacts B nid iid b3) (hT : ∀ Y : String, b2.contains (.type Y) = b3.contains (.type Y)) {rs : List Value} {kw : List (Str × Value)} {fI : Addr}
    (hC : hh.get? C = some (excClassObj n1 n2 C N b1 b2 hx l1 l2 ab cl da m0 m1 m2 m3 m5 nid))
    (hi : W.Looks (model pr wd) hh (typeLookup (.ref C) "__init__") (some (.ref fI)))
    (hb : ∀ self, W.Looks (model pr wd) hh (bindSpecial (.ref fI) self) (.ref fI, [self]))
    (hrs : rs.length ≤ sizeLine)
    (hq : codeAny (model pr wd) (Ar.under (.builtin "type.__call__" ⟨.ref C :: rs, kw⟩)) (.call (.ref fI) ⟨.ref (hh.objs.size + 1) :: rs, kw⟩) (W.InitBack (hh.objs.size + 1) Rr)
      ⟨(hh.push (W.kdv_tup rs)).push (excO C hh.objs.size), gg, dd, tt, oo⟩) :
    codeAny (model pr wd) Ar (.call (.ref C) ⟨rs, kw⟩) Rr ⟨hh, gg, dd, tt, oo⟩ := by
  have z1 := tc_lookup
  have z2 := tc_bind (.ref C)
  have zT : (⟨hh, gg, dd, tt, oo⟩ : Shared).TypeIs (.ref C) "type" := ⟨_, hC, rfl⟩
  refine codeAny_of_tree ?_
  show wpAny _ _ (callAny (.ref C) _) _ _ _
  repeat (any_goals (first
    | assumption
    | with_reducible refine wpAny_loadPart_at hC ?_
    | wp_step))
  refine ⟨rfl, ?_⟩
  refine codeAny_call_builtin_at (Code.quiet_builtin _ (by decide +kernel)) entry_typeCall (chkCall hC (typeK F hT hC hi hb hrs ?_))
  refine codeAny_mono hq fun r s' z => ?_
  rcases r with e | (v | _ | _ | _) <;> exact z
end
end GX
end PySem
namespace PySem
namespace GX
open PySem.W PySem.Calls PyProof.Rows PySem.HandSPX
open Builtin Builtin.ObjectAttr
/-- what an own class's mro must say for a store to an instance -/
structure MroOk (l : List Value) : Prop where
  pass : ∀ self, refuseLoop self "__setattr__" l = pure ()
  ob : l.contains (.type "object") = true
  ne : l.isEmpty = false
section
variable {pr : Program} {wd : World} {Ar : Around} {Er : Value → Shared → Prop} {Rr : Result → Shared → Prop} {hh : Heap} {gg : Array GenState} {dd : Drawn} {tt : Nat} {oo : OsState}
theorem osaN {K : W.Frag} {nm : Str} {tk : Tok} {v : Value} {x C : Addr} {fv : Array Value} {cd : ClassData}
    (X : K.In hh) (hx : hh.get? x = some { cls := .ref C, data := .fields fv }) (hcd : W.clsIn K C = some cd) (hm : MroOk cd.mro) (hd : cd.hasDict = true)
    (ha : W.findIn K (.ref C) nm = some none)
    (hq : ∀ h' tk' dx, (∀ b o, b ≠ x → hh.get? b = some o → h'.get? b = some o) → hh.objs.size ≤ dx → dx ≠ x →
      h'.get? x = some { cls := .ref C, dict := some dx, data := .fields fv } →
      h'.Ns1 dx (fun y => if y = nm then some v else none) → Rr (.ok (.ret .none)) ⟨h', gg, dd, tk', oo⟩) :
    codeAny (model pr wd) Ar (.call (.builtin "object.__setattr__") ⟨[.ref x, .str nm tk, v], []⟩) Rr ⟨hh, gg, dd, tt, oo⟩ := by
  have I : W.InstAt hh x { cls := .ref C, data := .fields fv } C none := ⟨hx, rfl, rfl, trivial⟩
  have SF := F.store_object
  have hne := hm.ne
  have hxs : x ≠ hh.objs.size := Nat.ne_of_lt (Heap.lt_size hx)
  have sub : W.Looks (model pr wd) hh (isInstance (.ref x) (.type "object")) true :=
    I.type.andThen (W.looks_mroIn X (by unfold W.mroIn; rw [hcd, Option.bind_some, if_neg (by rw [hne]; decide), hm.ob]))
  refine codeAny_call_builtin SF.slot.plain SF.entry (@W.check_slot (model pr wd) _ _ ⟨hh, gg, dd, tt, oo⟩ "object.__setattr__" "object" "__setattr__" (.ref x)
    [.str nm tk, v] [] _ SF.kind SF.split sub (SF.args (.ref x) (.str nm tk) v) ?_)
  have lm : W.Looks (model pr wd) hh (mroOf (.ref C)) cd.mro := (W.looks_clsIn X hcd).andThen .now
  have lt : W.Looks (model pr wd) hh (storeTaker? none) none := .now
  have lc : W.Looks (model pr wd) hh (classData C) cd := W.looks_clsIn X hcd
  rw [W.osa_eq, refuse_eq]
  refine wpAny_bind (wpAny_bind (I.type.at (wpAny_bind (lm.at ?_))))
  rw [hm.pass]
  refine wpAny_pure (wpAny_bind (I.type.at (wpAny_bind ((W.looks_findIn X ha).at (wpAny_bind (lt.at ?_))))))
  show wpAny _ _ (storeInOwnDict (.ref x) (.ref C) (.str nm tk) nm v false) _ _ _
  obtain ⟨c1, c2, c3, c4, c5, c6, c7, c8, c9, c10, c11⟩ := cd
  dsimp only at hd
  subst hd
  unfold storeInOwnDict ownDictForStores
  repeat (first
    | with_reducible refine store_in_new ?_ ?_
    | with_reducible refine wpAny_loadPart_at hx ?_
    | with_reducible refine lc.at ?_
    | wp_step)
  · exact ⟨_, #[], _, (Heap.get?_update_ne _ _ _ _ hxs.symm).trans (Heap.get?_push_at rfl rfl), rfl, fun e he => absurd he (by simp), fun _ => rfl⟩
  · intro h' tk' hn' hs
    have hx1 : (hh.push { cls := .type "dict", data := .dict #[] }).get? x = some { cls := .ref C, data := .fields fv } :=
      Heap.get?_push_of_some _ hx
    refine hq h' tk' hh.objs.size (fun b o hb ho => ?_) (Nat.le_refl _) hxs.symm ?_ hn'
    · exact (hs.2 b (Nat.ne_of_lt (Heap.lt_size ho))).trans ((Heap.get?_update_ne _ _ _ _ hb).trans (Heap.get?_push_of_some _ ho))
    · exact (hs.2 x hxs).trans (Heap.get?_update_self _ hx1 rfl)
theorem osaO {K : W.Frag} {nm : Str} {tk : Tok} {v : Value} {x C dx : Addr} {fv : Array Value} {cd : ClassData} {m0 : Str → Option Value} {nl : List Str}
    (X : K.In hh) (hx : hh.get? x = some { cls := .ref C, dict := some dx, data := .fields fv }) (hns : hh.Ns1 dx m0) (hw : Within m0 nl) (hz : nl.length ≤ 1000)
    (hcd : W.clsIn K C = some cd) (hm : MroOk cd.mro) (hd : cd.hasDict = true) (ha : W.findIn K (.ref C) nm = some none)
    (hq : ∀ h' tk', (∀ b o, b ≠ dx → hh.get? b = some o → h'.get? b = some o) →
      h'.Ns1 dx (fun y => if y = nm then some v else m0 y) → Rr (.ok (.ret .none)) ⟨h', gg, dd, tk', oo⟩) :
    codeAny (model pr wd) Ar (.call (.builtin "object.__setattr__") ⟨[.ref x, .str nm tk, v], []⟩) Rr ⟨hh, gg, dd, tt, oo⟩ := by
  obtain ⟨oD, esD, epD, hoD, hdD, _⟩ := hns.count hw
  have I : W.InstAt hh x { cls := .ref C, dict := some dx, data := .fields fv } C (some oD) := ⟨hx, rfl, rfl, hoD⟩
  have SF := F.store_object
  have hne := hm.ne
  have sub : W.Looks (model pr wd) hh (isInstance (.ref x) (.type "object")) true :=
    I.type.andThen (W.looks_mroIn X (by unfold W.mroIn; rw [hcd, Option.bind_some, if_neg (by rw [hne]; decide), hm.ob]))
  refine codeAny_call_builtin SF.slot.plain SF.entry (@W.check_slot (model pr wd) _ _ ⟨hh, gg, dd, tt, oo⟩ "object.__setattr__" "object" "__setattr__" (.ref x)
    [.str nm tk, v] [] _ SF.kind SF.split sub (SF.args (.ref x) (.str nm tk) v) ?_)
  have lm : W.Looks (model pr wd) hh (mroOf (.ref C)) cd.mro := (W.looks_clsIn X hcd).andThen .now
  have lt : W.Looks (model pr wd) hh (storeTaker? none) none := .now
  have lc : W.Looks (model pr wd) hh (classData C) cd := W.looks_clsIn X hcd
  rw [W.osa_eq, refuse_eq]
  refine wpAny_bind (wpAny_bind (I.type.at (wpAny_bind (lm.at ?_))))
  rw [hm.pass]
  refine wpAny_pure (wpAny_bind (I.type.at (wpAny_bind ((W.looks_findIn X ha).at (wpAny_bind (lt.at ?_))))))
  show wpAny _ _ (storeInOwnDict (.ref x) (.ref C) (.str nm tk) nm v false) _ _ _
  obtain ⟨c1, c2, c3, c4, c5, c6, c7, c8, c9, c10, c11⟩ := cd
  dsimp only at hd
  subst hd
  unfold storeInOwnDict ownDictForStores
  repeat (first
    | with_reducible refine PySem.OEX.store_in_old hns hw hz ?_
    | with_reducible refine wpAny_loadPart_at hx ?_
    | with_reducible refine lc.at ?_
    | wp_step)
  intro h' tk' hn' hs
  exact hq h' tk' (fun b o hb ho => (hs.2 b hb).trans ho) hn'
end
/-! the three built-in bases -/
abbrev tailOf (B : String) : List Value := [.type B, .type "Exception", .type "BaseException", .type "object"]
theorem pass_VE : ∀ self, refuseLoop self "__setattr__" (tailOf "ValueError") = pure () := fun self => by kernel_rfl
theorem pass_LE : ∀ self, refuseLoop self "__setattr__" (tailOf "LookupError") = pure () := fun self => by kernel_rfl
theorem pass_AE : ∀ self, refuseLoop self "__setattr__" (tailOf "ArithmeticError") = pure () := fun self => by kernel_rfl
theorem mroOk2 {B : String} {a b : Addr} (hp : ∀ self, refuseLoop self "__setattr__" (tailOf B) = pure ()) : MroOk (.ref a :: .ref b :: tailOf B) :=
  ⟨fun self => by rw [refuseLoop_ref, refuseLoop_ref]; exact hp self, by simp [List.contains_cons], rfl⟩
end GX
end PySem
namespace PySem
namespace GX
open PySem.W PySem.Calls PyProof.Rows PySem.HandSPX
section
variable {pr : Program} {wd : World} {Ar : Around} {Er : Value → Shared → Prop} {s : Shared} {K : Frag} {x D : Addr} {ox : Obj} {od : Option Obj}
theorem classG {Q : Option Value → Shared → Prop} (T : L2.ExcC K D) (X : K.In s.heap) (I : InstAt s.heap x ox D od) (h : Q (some (.ref D)) { s with toks := s.toks + 1 }) :
    wpAny (model pr wd) Ar (getAttr? (.ref x) "__class__") Q Er s := by
  have cs : (clsIn K D).isSome = true := by
    obtain ⟨cd, hc, _⟩ := any_some T.hd
    rw [hc]; rfl
  have hf : findObj K D od "__class__" = some (.bind (.builtin "getset_descriptor.__get__") (.builtin "object.__class__")) := by
    cases od with
    | none => exact findObj_dataN cs T.ha T.hn T.ht
    | some o => exact findObj_data cs T.ha T.hn T.ht
  obtain ⟨hp, g, d, t, os⟩ := s
  have y0 := I.type (M := model pr wd)
  have y1 := looks_findIn (M := model pr wd) X T.hg
  have y2 := looks_findIn (M := model pr wd) X T.hk
  have y3 := looks_find (M := model pr wd) X I hf
  have sub : Looks (model pr wd) hp (isInstance (.ref x) (.type "BaseException")) true := y0.andThen (looks_subIn X T.hs)
  have e0 : (false && onTheHeap (Value.builtin "BaseException.__getattribute__")) = false := rfl
  have e2 : (Value.builtin "BaseException.__getattribute__" == Value.builtin "object.__getattribute__") = false := by
    decide +kernel
  have e1 : (onTheHeap (Value.ref D) && Value.builtin "BaseException.__getattribute__" == Value.builtin "object.__getattribute__") = false := by
    rw [e2]; rfl
  unfold getAttr? getAttrBy? getAttrBy
  refine wpAny_bind (wpAny_mkText (wpAny_bind (wpAny_attempt (wpAny_holding (wpAny_bind (y0.at (wpAny_bind (y1.at ?_))))))))
  show wpAny _ _ (if (onTheHeap (Value.ref D) && Value.builtin "BaseException.__getattribute__" == Value.builtin "object.__getattribute__") = true then _ else _) _ _ _
  rw [e1, if_neg Bool.false_ne_true]
  unfold getAttrByItsOwn hookBefore
  refine wpAny_bind ?_
  rw [if_pos (show onTheHeap (Value.ref D) = true from rfl)]
  refine y2.at ?_
  refine wpAny_bind (wpAny_attempt (wpAny_holding ?_))
  unfold callGetattribute
  rw [e0, if_neg Bool.false_ne_true]
  unfold boundAndCalled
  rw [PySem.F.excAttr_ValueError.ga.bind (.ref x)]
  refine wpAny_bind (wpAny_pure ?_)
  show wpAny _ _ (call (.builtin "BaseException.__getattribute__") [.ref x, .str "__class__" t]) _ _ _
  refine wpAny_call (codeAny_call_builtin PySem.F.excAttr_ValueError.ga.plain PySem.F.entry_bexc_ga ?_)
  refine @check_slot (model pr wd) _ _ ⟨hp, g, d, t + 1, os⟩ "BaseException.__getattribute__" "BaseException" "__getattribute__" (.ref x)
    [.str "__class__" t] [] _ (by decide +kernel) (by decide +kernel) sub (PySem.F.args_bexc_ga (.ref x) (.str "__class__" t)) ?_
  unfold Builtin.«object.__getattribute__»
  refine wpAny_bind (wpAny_of_eq (a := ((Value.ref x : Value), [Value.str "__class__" t])) (by first | rfl | (simp only [slotArgs]; rfl)) ?_)
  refine wpAny_bind (wpAny_pure (wpAny_bind (y0.at (wpAny_bind (y3.at ?_)))))
  show wpAny _ _ (holding [Value.builtin "object.__class__"] (call (.builtin "getset_descriptor.__get__") [.builtin "object.__class__", .ref x, .ref D]) >>= ret) _ _ _
  refine wpAny_bind (wpAny_holding (wpAny_call (class_get (s := ⟨hp, g, d, t + 1, os⟩) (ox := ox) (od := od) X I T.hm ?_)))
  refine wpAny_pure ?_
  show wpAny _ _ (handedOut (.ref D)) _ _ _
  rw [handedOut_of (v := .ref D) rfl]
  first
    | exact wpAny_pure (wpAny_pure h)
    | exact wpAny_pure h
    | exact wpAny_pure (wpAny_bind (wpAny_pure (wpAny_pure h)))
theorem kitG (T : L2.ExcC K D) : KitX K (.ref x) (.ref D) (fun h => InstAt h x ox D od) where
  ty := fun _ _ _ I => I.type
  it := fun _ _ X _ => by
    obtain ⟨cdD, hcD, _⟩ := any_some T.hd
    unfold clsIn at hcD
    split at hcD
    · rename_i c' d' cd' sl' ho
      intro A' Q' E' s' k q
      unfold isType loadHead
      exact wpAny_bind (wpAny_loadPart (k _ _ (X _ _ ho)) (wpAny_pure q))
    · cases hcD
  ne := fun h tp dd its n sl X htp => by
    obtain ⟨cdD, hcD, _⟩ := any_some T.hd
    refine Bool.eq_false_iff.mpr fun q => ?_
    have e : D = tp := Value.ref.inj (beq_iff_eq.mp q)
    subst e
    unfold clsIn at hcD
    split at hcD
    · rename_i c' d' cd' sl' ho
      have z := (X _ _ ho).symm.trans htp
      cases z
    · cases hcD
  ca := fun X I k => classG T X I k
end
end GX
end PySem
namespace L2
open PySem PySem.Spec PyProof.Rows PySem.GX
/-- what the written part says of an own exception class at C over a built-in base -/
structure ExG (K : PySem.W.Frag) (C : Addr) : Prop extends ExcC K C where
  cls : ∃ (B nid iid : String) (b3 : List Value) (nm q : Str) (N : Addr) (bs bm : List Value) (sn : List Str) (sub : List Value) (ab : Bool) (col : Option Bool) (dd : Option Addr) (k0 k1 k2 k3 k5 : Option Value),
    ExcBaseFacts B nid iid b3 ∧ (∀ Y : String, bm.contains (.type Y) = b3.contains (.type Y)) ∧ MroOk (.ref C :: bm) ∧
    K.lookup C = some (excClassObj nm q C N bs bm true sn sub ab col dd k0 k1 k2 k3 k5 nid)
  sa : PySem.W.findIn K (.ref C) "__setattr__" = some (some (.builtin "object.__setattr__"))
  kC : PySem.W.keepIn K (.ref C) = true
/-- an exception at a of the class at C with the fields fs (its dict at d) -/
structure ExAt (H : Hp) (a C d : Addr) (fs : List (Str × V)) : Prop where
  ob : H a = some (exo a C (some d))
  di : H d = some (exd d fs)
section
variable {X : Cx} {pins : List (Addr × Obj)} {σ : St} {H : Hp} {s : Shared} {a C d : Addr} {fs : List (Str × V)}
/-- as the library's looks at an instance want it -/
theorem inst_ex {od : Option Addr} (I : Inv X pins σ H s) (e : H a = some (exo a C od)) (hd : ∀ dx, od = some dx → ∃ fs, H dx = some (exd dx fs)) :
    ∃ (ox : Obj) (o : Option Obj), PySem.W.InstAt s.heap a ox C o := by
  obtain ⟨t1, ho⟩ := exo_at I.hok e
  cases od with
  | none => exact ⟨_, none, ⟨ho, rfl, rfl, trivial⟩⟩
  | some dx =>
    obtain ⟨fs, ed⟩ := hd dx rfl
    obtain ⟨mA, ⟨o, es, ep, h1, h2⟩, _⟩ := exd_at I.hok ed
    exact ⟨_, some o, ⟨ho, rfl, rfl, h1⟩⟩
end
/-- isinstance(e, c), e an exception that is a value -/
def rIsX (K : PySem.W.Frag) : List V → Hp → VK → Prop := fun xs H Q => ∃ (a D : Addr) (od : Option Addr) (c : V) (u : Value) (b : Bool), xs = [.ref a, c] ∧ ExcC K D ∧ H a = some (exo a D od) ∧
  (∀ dx, od = some dx → ∃ fs, H dx = some (exd dx fs)) ∧ ClsV c u ∧ PySem.W.kitOne K (.ref D) u = some b ∧ Q (.bl b) H
theorem call_isX {X : Cx} : CallR X (.builtin "isinstance") (rIsX X.K) := by
  intro pins s σ H xs us Q I r h
  obtain ⟨a, D, od, c, u, b, rfl, T, e, hd, k, ek, q⟩ := h
  obtain ⟨u1, u2, rfl, r1, r2⟩ := vals2 r
  have e2 := k.eq r2
  subst e2
  obtain rfl : u1 = Value.ref a := r1
  obtain ⟨ox, o, J⟩ := inst_ex I e hd
  exact PySem.W.kia_one (kitG T) I.kIn J ek (fun z => nomatch z) fun tk => ⟨.bl b, H, I.tok tk, rfl, q⟩
section
variable {X : Cx} {pins : List (Addr × Obj)} {σ : St} {H : Hp} {s : Shared} {a C dx : Addr} {f : Str} {y : V} {u : Value} {fs : List (Str × V)}
/-- e.f -/
def tXf (K : PySem.W.Frag) (f : Str) (te : TE) : TE := fun σ H Q => te σ H fun x H1 => ∃ (a C d : Addr) (fs : List (Str × V)) (v : V), x = .ref a ∧ ExcC K C ∧ ExAt H1 a C d fs ∧
  PySem.W.findIn K (.ref C) f = some none ∧ fs.lookup f = some v ∧ Q v H1
theorem pe_xf {e : Expr} {te : TE} {pos : Pos} (he : PE X e te) (hb : attributeBase e f X.env (eval e X.env) = eval e X.env := by rfl) : PE X (.Attribute e f pos) (tXf X.K f te) := by
  refine ⟨fun pins s σ H Q I h => ?_⟩
  refine attr_of hb (thn (he.run pins s σ H _ I h) fun u s1 hh => ?_)
  obtain ⟨x, H1, I1, rx, a, C, d, fs, v, ex, T, ea, no, l, q⟩ := hh
  subst ex
  obtain rfl : u = Value.ref a := rx
  obtain ⟨t1, ho⟩ := exo_at I1.hok ea.ob
  obtain ⟨mA, hns, rel⟩ := exd_at I1.hok ea.di
  obtain ⟨od, hod, hl⟩ := lookIn_ns hns
  obtain ⟨u, hu, ru⟩ := RelO.some_of (v := v) (o := mA f) (by rw [← l]; exact rel f)
  have J : PySem.W.InstAt s1.heap a _ C (some od) := ⟨ho, rfl, rfl, hod⟩
  exact HandSPX.exc_get I1.kIn J T.hg T.hk T.hs (PySem.W.findObj_own T.hd no rfl (by rw [hl, hu])) (handed_of ru) ⟨v, H1, I1.tok _, ru, q⟩
end
end L2
namespace L2
open PySem PySem.Spec PyProof.Rows PySem.GX
section
variable {X : Cx} {pins : List (Addr × Obj)} {σ : St} {H : Hp} {s : Shared} {a C dx : Addr} {f : Str} {y : V} {u : Value} {fs : List (Str × V)} {Q : Unit → Shared → Prop} {Er : Value → Shared → Prop} {Ar : Around}
/-- the first store gives the exception its dict -/
theorem ostN (T : ExG X.K C) (I : Inv X pins σ H s) (e : H a = some (exo a C none)) (hno : PySem.W.findIn X.K (.ref C) f = some none) (ry : RelV y u)
    (h : ∀ dx s', H dx = none → dx ≠ a → Inv X pins σ (upd (upd H dx (exd dx [(f, y)])) a (exo a C (some dx))) s' → Q () s') :
    wpAny (model X.prog X.w) Ar (setAttr (.ref a) f u) Q Er s := by
  obtain ⟨B, nid, iid, b3, nm, q, N, bs, bm, sn, sub, ab, col, dd, k0, k1, k2, k3, k5, FB, hT, hM, hC⟩ := T.cls
  have hcl : PySem.W.clsIn X.K C = some { name := nm, bases := bs, mro := .ref C :: bm, ns := N, qualname := q, hasDict := true, slotNames := sn, subclasses := sub, abstract := ab, collection := col, hasDel := false } := by
    unfold PySem.W.clsIn; rw [hC] <;> rfl
  obtain ⟨t1, ho⟩ := exo_at I.hok e
  obtain ⟨hp, g, d, t, os⟩ := s
  refine PySem.W.set_plain I.kIn (ox := { cls := .ref C, dict := none, data := .fields #[.ref t1, .none, .none, .none, .bool false, .none] })
    (od := none) ⟨ho, rfl, rfl, trivial⟩ T.sa ?_
  refine osaN I.kIn ho hcl hM rfl hno (fun h' tk' dx k dn dne hx hn => ?_)
  have free1 : H dx = none := I.hok.fresh dn
  have ndx : ∀ {b : Addr} {o : Obj}, hp.get? b = some o → b ≠ dx :=
    fun {b o} q => Nat.ne_of_lt (Nat.lt_of_lt_of_le (Heap.lt_size q) dn)
  have nea : ∀ {b : Addr}, H b = none → b ≠ a := fun {b} n z => by
    rw [z, e] at n; cases n
  have U1 : Un X.fs [] H (upd (upd H dx (exd dx [(f, y)])) a (exo a C (some dx))) hp h' := by
    refine ⟨fun b o q n _ _ => k b o (nea n) q, fun b o q n _ _ => ⟨o.slots, k b o (nea n) q⟩, fun b o q n _ => ?_, fun b o q _ => ?_, fun b xs q => ?_, fun b o v q => ?_, fun b ps q => ⟨#[], ?_⟩⟩
    · rw [upd_ne (nea n), upd_ne (ndx q)]; exact n
    · by_cases hb : b = a
      · exact ⟨_, by rw [hb]; exact hx⟩
      · exact ⟨o, k b o hb q⟩
    · rw [upd_ne (at_ne e q exo_tup), upd_ne (ne_of_none q free1)]; exact q
    · rw [upd_ne (at_ne e q exo_frz), upd_ne (ne_of_none q free1)]; exact q
    · rw [upd_ne (at_ne e q exo_tbl), upd_ne (ne_of_none q free1), q]; simp
  refine h dx _ free1 dne (I.un (t' := tk') U1 fun b o q => ?_)
  by_cases hb : b = a
  · subst hb
    rw [upd_same] at q; cases q
    exact exo_ok hx
  · rw [upd_ne hb] at q
    by_cases hd : b = dx
    · subst hd
      rw [upd_same] at q; cases q
      exact exd_ok hn (relO_put (fs := []) ry fun g => True.intro)
    · rw [upd_ne hd] at q
      refine (I.hok b o q).stay (fun c v hc z => k c v ?_ z) (fun c hc => ?_) (fun c xs hc => ?_)
      · rcases hc with hc | hc
        · rw [hc]; exact hb
        · exact at_ne e hc exo_own
      · rw [upd_ne (at_ne e hc exo_own), upd_ne (ne_of_none hc free1)]; exact hc
      · rw [upd_ne (at_ne e hc exo_tup), upd_ne (ne_of_none hc free1)]; exact hc
theorem ostO (T : ExG X.K C) (I : Inv X pins σ H s) (e : H a = some (exo a C (some dx))) (ed : H dx = some (exd dx fs)) (hl : fs.length ≤ 900) (hno : PySem.W.findIn X.K (.ref C) f = some none) (ry : RelV y u)
    (h : ∀ s', Inv X pins σ (upd H dx (exd dx ((f, y) :: fs))) s' → Q () s') : wpAny (model X.prog X.w) Ar (setAttr (.ref a) f u) Q Er s := by
  obtain ⟨B, nid, iid, b3, nm, q, N, bs, bm, sn, sub, ab, col, dd, k0, k1, k2, k3, k5, FB, hT, hM, hC⟩ := T.cls
  have hcl : PySem.W.clsIn X.K C = some { name := nm, bases := bs, mro := .ref C :: bm, ns := N, qualname := q, hasDict := true, slotNames := sn, subclasses := sub, abstract := ab, collection := col, hasDel := false } := by
    unfold PySem.W.clsIn; rw [hC] <;> rfl
  obtain ⟨t1, ho⟩ := exo_at I.hok e
  obtain ⟨mA, hns, rel⟩ := exd_at I.hok ed
  have hw := within_of rel
  obtain ⟨hp, g, d, t, os⟩ := s
  obtain ⟨oD, _, _, hoD, _, _⟩ := hns.count hw
  refine PySem.W.set_plain I.kIn (ox := { cls := .ref C, dict := some dx, data := .fields #[.ref t1, .none, .none, .none, .bool false, .none] })
    (od := some oD) ⟨ho, rfl, rfl, hoD⟩ T.sa ?_
  refine osaO I.kIn ho hns hw (by rw [List.length_map]; omega) hcl hM rfl hno (fun h' tk' k hn => ?_)
  have hd : ∃ o, h'.get? dx = some o := by
    obtain ⟨o, _, _, e', _⟩ := hn
    exact ⟨o, e'⟩
  exact h _ (I.write (t' := tk') (x := dx) (e := dx) (o := exd dx ((f, y) :: fs)) (by rw [ed]; exact True.intro) (.inl rfl) k hd (exd_ok hn (relO_put ry rel)))
end
/-- self.f = e in an own exception's __init__ -/
def tOsG (K : PySem.W.Frag) (f : Str) (to te : TE) : TS := fun D σ H => te σ H fun y H1 => to σ H1 fun x H2 => ∃ a C : Addr, x = .ref a ∧ ExG K C ∧ PySem.W.findIn K (.ref C) f = some none ∧
  ((H2 a = some (exo a C none) ∧ ∀ dx, H2 dx = none → dx ≠ a → D.nx σ (upd (upd H2 dx (exd dx [(f, y)])) a (exo a C (some dx)))) ∨
    ∃ (dx : Addr) (fs : List (Str × V)), H2 a = some (exo a C (some dx)) ∧ H2 dx = some (exd dx fs) ∧ fs.length ≤ 900 ∧ D.nx σ (upd H2 dx (exd dx ((f, y) :: fs))))
/-- C(e, .., k = v, ..), C's own __init__ keeping sp: the exception stays a tracked value -/
def tMkG (C : Addr) (n m : Nat) (sp : Sp) (gV : List V → List V → List V) (t tk : TA) : TE := fun σ H Q => t σ H fun vs H1 => tk σ H1 fun zs H2 => vs.length = n ∧ zs.length = m ∧ vs.length ≤ 1000 ∧
  ∀ a, H2 a = none → sp (gV (.ref a :: vs) zs) (upd H2 a (exo a C none)) (fun v H3 => v = .non ∧ Q (.ref a) H3) (fun _ _ _ => False)
section
variable {X : Cx} {o e : Expr} {es : List Expr} {to te : TE} {ta tk : TA} {f : Str} {p p' p1 p2 pos : Pos} {kws : List Keyword} {ks : List Str} {n : Nat}
theorem ps_osG (ho : PE X o to) (he : PE X e te) (hs : swapsWith e (some (.Attribute o f p')) pos.line X.env = pure false := by rfl) : PS X (.Assign [.Attribute o f p'] e pos) (tOsG X.K f to te) := by
  refine ⟨fun pins s σ H D I h => ?_⟩
  refine plainObj_wpAny_Assign_Attribute (thn (he.run pins s σ H _ I h) fun v s1 ⟨y, H1, I1, r1, q1⟩ => thn (ho.run pins s1 σ H1 _ I1 q1) fun u s2 ⟨x, H2, I2, r2, a, C, ex, T, hno, q⟩ => ?_) hs
  subst ex
  obtain rfl : u = Value.ref a := r2
  rcases q with ⟨ea, q⟩ | ⟨dx, fs, ea, ed, hl, q⟩
  · exact ostN T I2 ea hno r1 fun dx s' n ne J => ⟨σ, _, J, q dx n ne⟩
  · exact ostO T I2 ea ed hl hno r1 fun s' J => ⟨σ, _, J, q⟩
variable {CX : CXT} {x : Str} {C fI : Addr} {k : Nat} {fd : FuncData} {ps : List Str} {sp : Sp} {g : List Value → List Value → List Value} {gV : List V → List V → List V}
theorem run_mkG {pins : List (Addr × Obj)} {σ : St} {H : Hp} {s : Shared} {Q : VK} {us ws : List Value} {vs zs : List V} (T : ExG X.K C) (iC : PySem.W.findIn X.K (.ref C) "__init__" = some (some (.ref fI)))
    (tI : PySem.W.typeIn X.K (.ref fI) = some (.type "function")) (F1 : FnOk X.prog X.w X.K X.mg X.base CX k fI fd ps sp) (hr : Room (k + 1) X.A) (hb : KBn X.K fd ps (n + 1) ks g gV) (hx : Passes CX X (fun _ _ _ => False))
    (I : Inv X pins σ H s) (r : Vals vs us) (rz : Vals zs ws) (l1 : vs.length = n) (l2 : zs.length = ks.length) (l3 : vs.length ≤ 1000)
    (h : ∀ a, H a = none → sp (gV (.ref a :: vs) zs) (upd H a (exo a C none)) (fun v H3 => v = .non ∧ Q (.ref a) H3) (fun _ _ _ => False)) :
    wpAny (model X.prog X.w) X.A (call (.ref C) us (ks.zip ws)) (EP X pins σ Q) X.xe s := by
  obtain ⟨B, nid, iid, b3, nm, q, N, bs, bm, sn, sub, ab, col, dd, k0, k1, k2, k3, k5, FB, hT, hM, hC⟩ := T.cls
  obtain ⟨hp, gn, dr, tkk, os⟩ := s
  have hsz : hp.objs.size ≤ hp.objs.size + 1 := Nat.le_succ _
  have hn : H (hp.objs.size + 1) = none := I.hok.fresh hsz
  have hq := h (hp.objs.size + 1) hn
  have kk : ∀ b o, hp.get? b = some o → ((hp.push (PySem.W.kdv_tup us)).push (PySem.HandSPX.excO C hp.objs.size)).get? b = some o :=
    fun b o e => Heap.get?_push_of_some _ (Heap.get?_push_of_some _ e)
  have hgt : ((hp.push (PySem.W.kdv_tup us)).push (PySem.HandSPX.excO C hp.objs.size)).get? (hp.objs.size + 1) = some (PySem.HandSPX.excO C hp.objs.size) := by
    heap_get
  have I2 : Inv X pins σ (upd H (hp.objs.size + 1) (exo (hp.objs.size + 1) C none)) ⟨(hp.push (PySem.W.kdv_tup us)).push (PySem.HandSPX.excO C hp.objs.size), gn, dr, tkk, os⟩ :=
    I.laid (t' := tkk) (a := hp.objs.size + 1) (o := exo (hp.objs.size + 1) C none)
      (h' := (hp.push (PySem.W.kdv_tup us)).push (PySem.HandSPX.excO C hp.objs.size)) kk hsz (exo_ok hgt)
  have r1 : Vals (V.ref (hp.objs.size + 1) :: vs) (Value.ref (hp.objs.size + 1) :: us) := .cons rfl r
  have r2 := hb.rel r1 rz
  have n1 : (Value.ref (hp.objs.size + 1) :: us).length = n + 1 := by
    rw [List.length_cons, ← r.length, l1]
  have hus : us.length ≤ sizeLine := by
    rw [← Paired.length r, sizeLine_eq]; omega
  refine wpAny_call (callK FB hT (I.kIn _ _ hC) (PySem.W.looks_findIn I.kIn iC) (fun self => PySem.W.bind_fn I.kIn self tI) hus
    (codeAny_mono (F1.run _ X.stack _ _ ⟨Value.ref (hp.objs.size + 1) :: us, ks.zip ws⟩ (g (Value.ref (hp.objs.size + 1) :: us) ws) _ _ (fun _ _ _ => False)
      (hr.make C us (ks.zip ws)) (I2.env0.make C us (ks.zip ws)) (hb.to _ (Value.ref (hp.objs.size + 1) :: us) ws I2.kIn n1 (rz.length.symm.trans l2)) r2 hq) fun r s' hq' => ?_))
  cases r with
  | error er => exact hx pins σ _ _ er s' I2 hq'
  | ok fl =>
    cases fl with
    | ret u =>
      obtain ⟨v, H', I3, rv, ev, q3⟩ := I2.after hq'
      subst ev
      exact ⟨rv, ⟨V.ref (hp.objs.size + 1), H', I3, rfl, q3⟩⟩
    | next => exact False.elim hq'
    | brk => exact False.elim hq'
    | cont => exact False.elim hq'
theorem pe_mkG (T : ExG X.K C) (iC : PySem.W.findIn X.K (.ref C) "__init__" = some (some (.ref fI))) (tI : PySem.W.typeIn X.K (.ref fI) = some (.type "function"))
    (F1 : FnOk X.prog X.w X.K X.mg X.base CX k fI fd ps sp) (hr : Room (k + 1) X.A) (hg : Gl X x) (hm : X.mg x = some (.ref C)) (hb : KBn X.K fd ps (n + 1) [] g gV) (hx : Passes CX X (fun _ _ _ => False)) (ha : PA X (e :: es) ta)
    (hdb : (x == ("__debug__" : Str)) = false := by decide) (he : starEach (e :: es) X.env = (false, eval e X.env) :: starEach es X.env := by rfl) (hpl : (backTo pos (starEach es X.env)).any (·.1) = false := by rfl) :
    PE X (.Call (.Name x p) (e :: es) [] pos) (tMkG C n 0 sp gV ta tNil) := by
  refine ⟨fun pins s σ H Q I h => ?_⟩
  refine wpAny_Call_Name_kw (ld_glob I hg hm ?_ hdb)
  refine PySem.W.callWith_K (h₀ := X.base) I.ok.mod.kin T.kC (thn (ha.run pos pins s σ H _ I h) fun us s1 ⟨vs, H1, I1, r, l1, l2, l3, q⟩ => ⟨I1.kIn, ?_⟩) he hpl
  exact run_mkG (ws := []) (zs := []) T iC tI F1 hr hb hx I1 r .nil l1 l2 l3 q
theorem pe_mkGK (T : ExG X.K C) (iC : PySem.W.findIn X.K (.ref C) "__init__" = some (some (.ref fI))) (tI : PySem.W.typeIn X.K (.ref fI) = some (.type "function"))
    (F1 : FnOk X.prog X.w X.K X.mg X.base CX k fI fd ps sp) (hr : Room (k + 1) X.A) (hg : Gl X x) (hm : X.mg x = some (.ref C)) (hb : KBn X.K fd ps 1 ks g gV) (hx : Passes CX X (fun _ _ _ => False)) (hkw : PK X kws tk)
    (hall : (backToKw pos (keywordEach kws X.env)).all (·.1.isSome) = true := by rfl) (hks : (backToKw pos (keywordEach kws X.env)).filterMap (·.1) = ks := by rfl) (hdb : (x == ("__debug__" : Str)) = false := by decide)
    (hpl : ((backTo pos (starEach [] X.env)).any (·.1) || (backToKw pos (keywordEach kws X.env)).any (·.1.isNone)) = false := by rfl) :
    PE X (.Call (.Name x p) [] kws pos) (tMkG C 0 ks.length sp gV tNil tk) := by
  refine ⟨fun pins s σ H Q I h => ?_⟩
  refine wpAny_Call_Name_kw (ld_glob I hg hm ?_ hdb)
  refine PySem.W.callWith_KW0 (h₀ := X.base) I.ok.mod.kin T.kC hall ?_ hpl
  refine thn (hkw.run pos pins s σ H _ I h) fun ws s2 ⟨zs, H2, I2, rz, l1, l2, l3, q2⟩ => ⟨I2.kIn, ?_⟩
  rw [hks]
  exact run_mkG (us := []) (vs := []) T iC tI F1 hr hb hx I2 .nil rz rfl l2 (Nat.zero_le _) q2
end
end L2
namespace L2
open PySem PySem.Spec PyProof.Rows PySem.GX
/-- flat things -/
inductive Fl : V → PyData → Prop
  | non : Fl .non .none
  | bl (b : Bool) : Fl (.bl b) (.bool b)
  | int (i : Int) : Fl (.int i) (.int i)
  | str (x : Str) : Fl (.str x) (.str x)
mutual
/-- the data that a value is, dicts of flat things among them -/
inductive Sh (K : PySem.W.Frag) (H : Hp) : V → PyData → Prop
  | fl {v : V} {d : PyData} : Fl v d → Sh K H v d
  | lst {a : Addr} {xs : List V} {ds : List PyData} : SqL K H a xs → ShAll K H xs ds → Sh K H (.ref a) (.list ds)
  | tup {a : Addr} {xs : List V} {ds : List PyData} : SqT K H a xs → ShAll K H xs ds → Sh K H (.ref a) (.tuple ds)
  | dic {a : Addr} {kvs : List (Key × V)} {kds : List (PyData × PyData)} : H a = some (.dK kvs) → Paired Fl (kvs.map fun p => kV p.1) (kds.map (·.1)) → Paired Fl (kvs.map (·.2)) (kds.map (·.2)) →
      Sh K H (.ref a) (.dict kds)
inductive ShAll (K : PySem.W.Frag) (H : Hp) : List V → List PyData → Prop
  | nil : ShAll K H [] []
  | cons {v : V} {vs : List V} {d : PyData} {ds : List PyData} : Sh K H v d → ShAll K H vs ds → ShAll K H (v :: vs) (d :: ds)
end
section
variable {pr : Program} {wd : World} {h0 : Heap}
theorem Fl.reads {v : V} {d : PyData} {u : Value} (f : Fl v d) (r : RelV v u) : Reads h0 u d [] := by
  cases f with
  | non => cases r; exact .none
  | bl b => cases r; exact .bool b
  | int i => obtain ⟨t, rfl⟩ := r; exact .int i t
  | str x => obtain ⟨t, rfl⟩ := r; exact .str x t
theorem Fl.repr {v : V} {d : PyData} {u : Value} (f : Fl v d) (r : RelV v u) (hs : d.showable = true) (hz : d.shown.length ≤ sizeLine) (n : Nat) (bs : List Addr) : ReprK pr wd bs h0 n u d.shown := by
  cases f with
  | non => cases r; simp only [PyData.shown]; exact .of_is ReprIs.none _ _ _
  | bl b => cases r; simp only [PyData.shown]; exact .of_is (ReprIs.bool b) _ _ _
  | int i => obtain ⟨t, rfl⟩ := r; simp only [PyData.shown]; exact .of_is (ReprIs.int t (by simpa [PyData.showable] using hs)) _ _ _
  | str x => obtain ⟨t, rfl⟩ := r; simp only [PyData.shown]; exact .of_is (ReprIs.str x t (by simpa only [PyData.shown] using hz)) _ _ _
theorem flAll_reads : ∀ {vs : List V} {ds : List PyData} {us : List Value}, Paired Fl vs ds → Vals vs us → ReadsAll h0 us ds []
  | _, _, _, .nil, .nil => .nil
  | _, _, _, .cons f t, .cons r q => ReadsAll.cons (as := []) (bs := []) (f.reads r) (flAll_reads t q)
theorem flAll_repr (n : Nat) (bs : List Addr) : ∀ {vs : List V} {ds : List PyData} {us : List Value}, Paired Fl vs ds → Vals vs us → PyData.showableAll ds = true → (∀ t ∈ PyData.shownAll ds, t.length ≤ sizeLine) → ReprAllK pr wd bs h0 n us (PyData.shownAll ds)
  | _, _, _, .nil, .nil, _, _ => by simp only [PyData.shownAll]; exact .nil
  | _, d :: ds, _, .cons f t, .cons r q, hs, hz => by
    have hs' : d.showable = true ∧ PyData.showableAll ds = true := by simpa [PyData.showableAll] using hs
    simp only [PyData.shownAll] at hz ⊢
    exact .cons (f.repr r hs'.1 (hz _ (List.mem_cons_self ..)) n bs) (flAll_repr n bs t q hs'.2 fun t ht => hz t (List.mem_cons_of_mem _ ht))
end
theorem pairs_split {P : Program} {w : World} : ∀ {es : List DictEntry} {kvs : List (Key × V)} {vs : List (Key × Value)}, Pairs (mixKind P w) es vs → KV kvs vs → Vals (kvs.map fun p => kV p.1) (es.map (·.key)) ∧ Vals (kvs.map (·.2)) (es.map (·.val))
  | _, _, _, .nil, .nil => ⟨.nil, .nil⟩
  | e :: es, (k, v) :: kvs, (k', u) :: vs, .cons h1 h2 t, .cons r q => by
    obtain ⟨a, b⟩ := pairs_split t q
    obtain ⟨r1, r2⟩ := r
    have r1' : k = k' := r1
    subst r1'
    have hk : keyIs k e.key = true := h1
    have h2' : e.val = u := h2
    have rk : RelV (kV k) e.key := by
      rcases keyIs_shape hk with ⟨i, t, rfl, q⟩ | ⟨x, t, rfl, q⟩
      · exact ⟨t, q⟩
      · exact ⟨t, q⟩
    exact ⟨.cons rk a, .cons (show RelV v e.val by rw [h2']; exact r2) b⟩
section
variable {X : Cx} {pins : List (Addr × Obj)} {σ : St} {H : Hp} {s : Shared}
mutual
theorem Sh.both (I : Inv X pins σ H s) : ∀ (d : PyData) (v : V) (u : Value), Sh X.K H v d → RelV v u → d.showable = true → d.shown.length ≤ sizeLine →
    (∃ as, Reads s.heap u d as) ∧ ∃ bs, ReadAtMost s.heap d.depth bs ∧ ReprK X.prog X.w bs s.heap d.depth u d.shown
  | .none, _, _, h, r, hs, hz => by
    cases h with
    | fl f => exact ⟨⟨_, f.reads r⟩, [], (fun _ z => nomatch z), f.repr r hs hz _ _⟩
  | .bool b, _, _, h, r, hs, hz => by
    cases h with
    | fl f => exact ⟨⟨_, f.reads r⟩, [], (fun _ z => nomatch z), f.repr r hs hz _ _⟩
  | .int i, _, _, h, r, hs, hz => by
    cases h with
    | fl f => exact ⟨⟨_, f.reads r⟩, [], (fun _ z => nomatch z), f.repr r hs hz _ _⟩
  | .str x, _, _, h, r, hs, hz => by
    cases h with
    | fl f => exact ⟨⟨_, f.reads r⟩, [], (fun _ z => nomatch z), f.repr r hs hz _ _⟩
  | .list ds, _, _, h, r, hs, hz => by
    cases h with
    | fl f => cases f
    | @lst a xs _ hq ha =>
      cases r
      obtain ⟨its, rv, ⟨o, n, ho, hc, _, hd⟩, _⟩ := I.list hq
      have hz' : (listText (PyData.shownAll ds)).length ≤ sizeLine := by simpa only [PyData.shown] using hz
      obtain ⟨⟨as, hr⟩, bs, hb, hk⟩ := Sh.bothAll I ds xs its ha rv (by simpa [PyData.showable] using hs) (fun t ht => Nat.le_trans (listText_mem_le ht) hz')
      have rr : Reads s.heap (.ref a) (.list ds) _ := Reads.list ho hc hd hr
      have hna : a ∉ bs := not_mem_of_deeper rr (by simp only [PyData.depth]; omega) hb
      refine ⟨⟨_, rr⟩, a :: bs, ReadAtMost.cons rr (by simp only [PyData.depth]; omega) hb, ?_⟩
      simp only [PyData.depth, PyData.shown]
      cases its with
      | nil =>
        cases hr
        simp only [PyData.shownAll, listText_nil]
        exact ReprK.listEmpty ho hc hd
      | cons x l => exact ReprK.list ho hc hd hna (by simpa using hk.length_eq) (fun i y e => hk.item i y (by simpa using e))
  | .tuple ds, _, _, h, r, hs, hz => by
    cases h with
    | fl f => cases f
    | @tup a xs _ hq ha =>
      cases r
      obtain ⟨its, rv, ⟨o, ho, hc, n, hd⟩, _⟩ := I.tuple hq
      have hz' : (tupleText (PyData.shownAll ds)).length ≤ sizeLine := by simpa only [PyData.shown] using hz
      obtain ⟨⟨as, hr⟩, bs, hb, hk⟩ := Sh.bothAll I ds xs its ha rv (by simpa [PyData.showable] using hs) (fun t ht => Nat.le_trans (tupleText_mem_le ht) hz')
      have rr : Reads s.heap (.ref a) (.tuple ds) _ := Reads.tuple ho hc hd hr
      have hna : a ∉ bs := not_mem_of_deeper rr (by simp only [PyData.depth]; omega) hb
      refine ⟨⟨_, rr⟩, a :: bs, ReadAtMost.cons rr (by simp only [PyData.depth]; omega) hb, ?_⟩
      simp only [PyData.depth, PyData.shown]
      exact ReprK.tuple ho hc hd hna hk
  | .dict kds, _, _, h, r, hs, hz => by
    cases h with
    | fl f => cases f
    | @dic a kvs _ hq fk fv =>
      cases r
      obtain ⟨_, hsys, vs, rkv, o, es, ep, ho, ⟨hc, _⟩, hd, _, hp, _⟩ := I.hok a _ hq
      obtain ⟨vk, vv⟩ := pairs_split hp rkv
      obtain ⟨hs1, hs2⟩ := PyData.showableKv_split kds (by simpa [PyData.showable] using hs)
      have hz' : (dictText (PyData.shownKv kds)).length ≤ sizeLine := by simpa only [PyData.shown] using hz
      have k1 : ReprAllK X.prog X.w [] s.heap (PyData.depthKv kds) _ _ := flAll_repr (PyData.depthKv kds) [] fk vk hs1 (fun t ht => by
        obtain ⟨p, hp, hl⟩ := PyData.shownKv_key_le kds t ht
        exact Nat.le_trans hl (Nat.le_trans (dictText_mem_le hp) hz'))
      have k2 : ReprAllK X.prog X.w [] s.heap (PyData.depthKv kds) _ _ := flAll_repr (PyData.depthKv kds) [] fv vv hs2 (fun t ht => by
        obtain ⟨p, hp, hl⟩ := PyData.shownKv_val_le kds t ht
        exact Nat.le_trans hl (Nat.le_trans (dictText_mem_le hp) hz'))
      have rr : Reads s.heap (.ref a) (.dict kds) _ := Reads.dict ho hc hd (flAll_reads fk vk) (flAll_reads fv vv)
      refine ⟨⟨_, rr⟩, [a], ReadAtMost.cons rr (n := 0) (Nat.zero_le _) (fun _ z => nomatch z), ?_⟩
      simp only [PyData.depth, PyData.shown, PyData.shownKv_eq]
      exact ReprK.dict ho hc hd hsys (fun z => nomatch z) (ReprEntriesK.of_two es.toList _ _ k1 k2)
theorem Sh.bothAll (I : Inv X pins σ H s) : ∀ (ds : List PyData) (vs : List V) (us : List Value), ShAll X.K H vs ds → Vals vs us → PyData.showableAll ds = true → (∀ t ∈ PyData.shownAll ds, t.length ≤ sizeLine) →
    (∃ as, ReadsAll s.heap us ds as) ∧ ∃ bs, ReadAtMost s.heap (PyData.depthAll ds) bs ∧ ReprAllK X.prog X.w bs s.heap (PyData.depthAll ds) us (PyData.shownAll ds)
  | [], _, _, h, r, _, _ => by
    cases h
    cases r
    refine ⟨⟨_, ReadsAll.nil⟩, [], (fun _ z => nomatch z), ?_⟩
    simp only [PyData.shownAll]
    exact .nil
  | d :: ds, _, _, h, r, hs, hz => by
    cases h with
    | cons h1 h2 =>
      cases r with
      | cons r1 r2 =>
        have hs' : d.showable = true ∧ PyData.showableAll ds = true := by simpa [PyData.showableAll] using hs
        simp only [PyData.shownAll] at hz
        obtain ⟨⟨as, q1⟩, b1, hb1, k1⟩ := Sh.both I d _ _ h1 r1 hs'.1 (hz _ (List.mem_cons_self ..))
        obtain ⟨⟨bs, q2⟩, b2, hb2, k2⟩ := Sh.bothAll I ds _ _ h2 r2 hs'.2 (fun t ht => hz t (List.mem_cons_of_mem _ ht))
        refine ⟨⟨_, ReadsAll.cons q1 q2⟩, b1 ++ b2, ?_, ?_⟩
        · simp only [PyData.depthAll]
          exact (hb1.mono (Nat.le_max_left _ _)).append (hb2.mono (Nat.le_max_right _ _))
        · simp only [PyData.depthAll, PyData.shownAll]
          exact .cons ((k1.more fun b hb => List.mem_append_left _ hb).level_le (Nat.le_max_left _ _)) (k2.more_le (fun b hb => List.mem_append_right _ hb) (Nat.le_max_right _ _))
end
end
/-- repr(x), x a list -/
def rRepr (K : PySem.W.Frag) : List V → Hp → VK → Prop := fun xs H Q => ∃ (a : Addr) (ds : List PyData), xs = [.ref a] ∧ Sh K H (.ref a) (.list ds) ∧ PyData.showableAll ds = true ∧ (PyData.list ds).shown.length ≤ sizeLine ∧ (PyData.list ds).depth ≤ 60 ∧
  Q (.str (PyData.list ds).shown) H
theorem call_reprL {X : Cx} (hg : X.A.guards = some []) (hu : X.A.units + 64 < cLine) : CallR X (.builtin "repr") (rRepr X.K) := by
  intro pins s σ H xs us Q I r h
  obtain ⟨a, ds, rfl, hsh, hs, hz, hdp, q⟩ := h
  cases r with
  | cons r1 r2 =>
    cases r2
    cases r1
    cases hsh with
    | fl f => cases f
    | @lst _ xs _ hq ha =>
      obtain ⟨its, rv, ⟨o, n, ho, hc, _, hd⟩, _⟩ := I.list hq
      have hz' : (listText (PyData.shownAll ds)).length ≤ sizeLine := by simpa only [PyData.shown] using hz
      obtain ⟨⟨as, hr⟩, bs, hb, hk⟩ := Sh.bothAll I ds xs its ha rv hs (fun t ht => Nat.le_trans (listText_mem_le ht) hz')
      have rr : Reads s.heap (.ref a) (.list ds) _ := Reads.list ho hc hd hr
      have hna : a ∉ bs := not_mem_of_deeper rr (by simp only [PyData.depth]; omega) hb
      simp only [PyData.depth] at hdp
      simp only [PyData.shown] at q
      refine call_repr_slot (by omega) ⟨o, ho, hc⟩ F.slot_list_repr.toG ?_
      have fin : ∀ (h' : Heap) (u : Tok) (tk : Nat), (∀ b o, s.heap.get? b = some o → h'.get? b = some o) → EP X pins σ Q (.str (listText (PyData.shownAll ds)) u) { s with heap := h', toks := tk } :=
        fun h' u tk k => ⟨.str (listText (PyData.shownAll ds)), H, I.kept k, ⟨u, rfl⟩, q⟩
      cases its with
      | nil =>
        cases hr
        simp only [PyData.shownAll, listText_nil] at fin
        exact call_list_repr_empty ⟨o, ho, hc⟩ ho hd ⟨_, _, rfl, fin s.heap _ _ fun _ _ e => e⟩
      | cons x l =>
        exact call_list_reprK ho hc hd hna (by simpa using hk.length_eq) (fun i y e => hk.item i y (by simpa using e)) hg (fun b _ => Clear.nil b)
          (by show X.A.units + 1 + _ < cLine; omega) (fun _ _ e => e) (fun h' u tk k => ⟨_, _, rfl, fin h' u tk k⟩) hz'
end L2
namespace L2
open PySem PySem.Spec PyProof.Rows PySem.GX
/-- a def's promise where no repr is under way -/
structure FnG (P : Program) (w : World) (K : PySem.W.Frag) (mg : Str → Option Value) (base : Heap) (CX : CXT) (k : Nat) (f : Addr) (fd : FuncData) (ps : List Str) (sp : Sp) : Prop where
  len : ∀ vs H Q E, sp vs H Q E → vs.length = ps.length
  run : ∀ (A : Around) (outer : List Env) (s : Shared) (H : Hp) (args : Args) (us : List Value) (vs : List V) (Q : VK) (E : XK), A.guards = some [] → Room k A → Env0 P w K mg base A outer s H →
    BindsTo s fd args (ps.zip us) → Vals vs us → sp vs H Q E → codeAny (model P w) A (.call (.ref f) args) (CR CX outer P w H s Q E) s
section
variable {P : Program} {w : World} {K : PySem.W.Frag} {mg : Str → Option Value} {base : Heap} {CX : CXT}
theorem fnG_of {k : Nat} {f : Addr} {name qual : Str} {params : Arguments} {body : List Stmt} {scope : Scope} {dV kV doc pm cdv ct oc : Value} {an od : Option Addr}
    {osl : Array (Option Value)} {N ps : List Str} {sp : Sp} (lk : K.lookup f = some ⟨oc, od, .func (PySem.W.fnOf name qual params body scope dV kV doc pm an cdv ct), osl⟩)
    (hcd : PySem.W.codeIn K cdv qual = true) (S : FnScope N ps scope) (len : ∀ vs H Q E, sp vs H Q E → vs.length = ps.length)
    (hbody : ∀ (A : Around) (outer : List Env) (s : Shared) (H : Hp) (vs : List V) (Q : VK) (E : XK), A.guards = some [] → Room k (A.deeper (envOfC qual scope s.heap.objs.size f cdv)) → sp vs H Q E →
      ∃ t, PSs (cxOf CX P w K mg base N qual scope f cdv A outer s H E) body t ∧ t { nx := fun _ H' => Q .non H', rt := Q } (start N vs) H) :
    FnG P w K mg base CX (k + 1) f (PySem.W.fnOf name qual params body scope dV kV doc pm an cdv ct) ps sp := by
  refine ⟨len, fun A outer s H args us vs Q E hgd hr e0 hb r hsp => ?_⟩
  have hl := len _ _ _ _ hsp
  have KX : K.In s.heap := e0.mod.kin.keeps fun b o e => (e0.bs b o e).1
  have lim : s.heap.NoLimit := e0.mod.nolimit.keeps fun b o e => (e0.bs b o e).1
  have hkind : ∀ y ∈ ps.zip us, scope.names.lookup y.1 = some .local ∨
      (scope.names.lookup y.1 = some .cell ∧ ((cellsFrom (s.heap.objs.size + 1) scope.names []).lookup y.1).isSome = true) := fun ⟨n, v⟩ hy => by
    rcases S.par n (List.of_mem_zip hy).1 with q | q
    · exact .inl q
    · exact .inr ⟨q, PySem.W.cellsFrom_some _ _ _ (.inl q)⟩
  refine codeAny_call_function hr.depth (KX _ _ lk) rfl S.co S.gen rfl (PySem.W.codeRec_of KX hcd) (hb _ _ _ _ ?_)
  refine wpAny_newFunctionEnv_cells S.kind hkind fun env he s1 x => ?_
  subst he
  refine ⟨lim.keeps x.toInCall.keep, codeAny_func ?_⟩
  obtain ⟨t, ht, hq⟩ := hbody A outer s H vs Q E hgd (hr.deeper _) hsp
  have I : Inv (cxOf CX P w K mg base N qual scope f cdv A outer s H E) [] (start N vs) H s1 := inv_start S hr.hd e0 hl r x
  refine wpAny_mono (ht.run [] s1 (start N vs) H _ I hq) (fun fl s' hs => ?_) fun e s' hs => hs
  cases fl with
  | ret u =>
    obtain ⟨v, σ', H', J, rv, q⟩ := hs
    exact ⟨v, H', J.os, J.bare, J.base, J.hok, rv, q⟩
  | next =>
    obtain ⟨σ', H', J, q⟩ := hs
    exact ⟨V.non, H', J.os, J.bare, J.base, J.hok, rfl, q⟩
  | brk =>
    obtain ⟨_, _, _, q⟩ := hs
    exact False.elim q
  | cont =>
    obtain ⟨_, _, _, q⟩ := hs
    exact False.elim q
theorem Fun.okG {x qual : Str} {st : Stmt} {f : Addr} {fd : FuncData} {N ps : List Str} {k : Nat} {sp : Sp} (F : Fun K x qual st f fd) (S : FnScope N ps (defScope st)) (len : ∀ vs H Q E, sp vs H Q E → vs.length = ps.length)
    (hbody : ∀ (cdv : Value) (A : Around) (outer : List Env) (s : Shared) (H : Hp) (vs : List V) (Q : VK) (E : XK), A.guards = some [] → Room k (A.deeper (envOfC qual (defScope st) s.heap.objs.size f cdv)) → sp vs H Q E →
      ∃ t, PSs (cxOf CX0 P w K mg base N qual (defScope st) f cdv A outer s H E).nox (defBody st) t ∧ t { nx := fun _ H' => Q .non H', rt := Q } (start N vs) H) : FnG P w K mg base CX0 (k + 1) f fd ps sp := by
  obtain ⟨oc, od, kV, doc, pm, an, cdv, ct, osl, rfl, lk, hcd⟩ := F.ex
  refine fnG_of lk hcd S len fun A outer s H vs Q E hgd hr hsp => ?_
  obtain ⟨t, h, q⟩ := hbody cdv A outer s H vs Q E hgd hr hsp
  exact ⟨t, h.nox, q⟩
end
section
variable {X : Cx} {CX : CXT} {k : Nat} {f C : Addr} {fd : FuncData} {ps : List Str} {sp : Sp} {E : XK} {x : Str} {p pos : Pos} {e : Expr} {es : List Expr} {t : TA}
theorem pe_callG (F : FnG X.prog X.w X.K X.mg X.base CX k f fd ps sp) (hgd : X.A.guards = some []) (hr : Room k X.A) (hg : Gl X x) (hm : X.mg x = some (.ref f)) (hk : PySem.W.keepIn X.K (.ref f) = true) (hb : Binds X.K fd ps []) (hx : Passes CX X E)
    (ha : PA X (e :: es) t) (hdb : (x == ("__debug__" : Str)) = false := by decide) (he : starEach (e :: es) X.env = (false, eval e X.env) :: starEach es X.env := by rfl) (hpl : (backTo pos (starEach es X.env)).any (·.1) = false := by rfl) :
    PE X (.Call (.Name x p) (e :: es) [] pos) (tCall sp [] E t) := by
  refine ⟨fun pins s σ H Q I h => ?_⟩
  refine wpAny_Call_Name_kw (ld_glob I hg hm ?_ hdb)
  refine PySem.W.callWith_K (h₀ := X.base) I.ok.mod.kin hk (thn (ha.run pos pins s σ H _ I h) fun us s1 ⟨vs, H1, I1, r, q⟩ => ⟨I1.kIn, ?_⟩) he hpl
  have r2 : Vals (vs ++ []) (us ++ []) := r.append .nil
  have hl : (us ++ []).length = ps.length := by rw [← r2.length]; exact F.len _ _ _ _ q
  refine wpAny_call (codeAny_mono (F.run X.A X.stack s1 H1 ⟨us, []⟩ (us ++ []) (vs ++ []) Q E hgd hr I1.env0 (hb s1 us I1.kIn hl) r2 q) fun r s' hq => ?_)
  cases r with
  | error e => exact hx pins σ H1 s1 e s' I1 hq
  | ok fl =>
    cases fl with
    | ret u => exact I1.after hq
    | next => exact False.elim hq
    | brk => exact False.elim hq
    | cont => exact False.elim hq
/-- X(), an own exception class without own __init__ -/
theorem pe_exc0G {bmB : List Value} {B nid iid : String} (F : ExcBaseFacts B nid iid bmB) (q : PySem.W.excIn X.K C bmB nid = true) (gC : X.mg x = some (.ref C)) (kC : PySem.W.keepIn X.K (.ref C) = true) (hg : Gl X x)
    (hdb : (x == ("__debug__" : Str)) = false := by decide) :
    PE X (.Call (.Name x p) [] [] pos) (fun σ H Q => ∀ a, H a = none → Q (.ref a) (upd H a (exo a C none))) := by
  refine ⟨fun pins s σ H Q I h => ?_⟩
  refine wpAny_Call_Name_kw (ld_glob I hg gC ?_ hdb)
  refine PySem.W.callWith_K0 I.kIn kC ?_
  obtain ⟨bm, N, nm, qn, bs, hdct, sn, sub, ab, col, dd, k0, k1, k2, k3, k5, mN, hC, hN, hni, T⟩ := exc_obj I.kIn q
  refine wpAny_call_exc_subT F T hC hN hni (fun h' a hm => ?_) (by show 0 ≤ sizeLine; exact Nat.zero_le _)
  have hn : H a = none := I.hok.gone hm.new
  obtain ⟨t, ht, _, _⟩ := hm.there
  exact ⟨.ref a, upd H a (exo a C none), I.laidN hm.keeps hm.new hn (exo_ok ht), rfl, h a hn⟩
end
/-- the law's call, its promise where no repr is under way -/
theorem law_callG {P : Program} {w : World} {K : PySem.W.Frag} {mg mb : Str → Option Value} {CX : CXT} {k : Nat} {fa a : Addr} {fd : FuncData} {x : Str} {sp : Sp} {s1 : Shared} {vs : List Value} {ns : List Int}
    (KX : K.In s1.heap) (hns : s1.heap.Ns mainGlobals mg) (hb : s1.heap.Ns builtinsNs mb) (hbb : ∀ x : Str, x ≠ "__name__" → mb x = bootBuiltins x) (hlim : s1.heap.NoLimit) (hg : s1.gens = #[])
    (ha : s1.heap.get? a = some { cls := .type "list", data := .seq vs.toArray }) (hi : IntsAre vs ns) (hl : ns.length ≤ sizeLine) (hr : Room k callerA)
    (F : ∀ base : Heap, K.In base → base.Ns mainGlobals mg → FnG P w K mg base CX k fa fd [x] sp) (hbind : ∀ (s : Shared) (u : Value), BindsTo s fd ⟨[u], []⟩ [(x, u)])
    (hsp : ∀ H : Hp, Only H → SqL K H a (ns.map V.int) → sp [.ref a] H (fun v _ => v = .bl true) fun _ _ _ => False)
    (hCX : ∀ H e s', CX [] H s1 (fun _ _ _ => False) e s' → False) :
    codeAny (model P w) callerA (.call (.ref fa) ⟨[.ref a], []⟩) (fun r s' => r = .ok (.ret (.bool true)) ∧ OldK s1.heap s'.heap ∧ s'.os = s1.os ∧ AllBare s'.gens) s1 := by
  have rv := vals_ints hi
  have lenV := hi.length
  have core : ∀ H : Hp, Only H → SqL K H a (ns.map V.int) → HOk P w H s1.heap → (∀ b, H b ≠ none → b = a) → (H a ≠ none → K.lookup a = none) →
      codeAny (model P w) callerA (.call (.ref fa) ⟨[.ref a], []⟩) (fun r s' => r = .ok (.ret (.bool true)) ∧ OldK s1.heap s'.heap ∧ s'.os = s1.os ∧ AllBare s'.gens) s1 := by
    intro H hO hS hok hA hK
    have isA : ∀ {b : Addr} {u : HO}, H b = some u → b = a := fun {b u} q => hA b (by rw [q]; simp)
    have nod : ∀ {b : Addr} {o : Obj} {es : Array DictEntry} {ep : Nat}, s1.heap.get? b = some o → o.data = .dict es ep → H b = none := fun {b o es ep} e d => by
      cases q : H b with
      | none => rfl
      | some u =>
        have e1 := isA q
        subst e1
        rw [ha] at e
        cases e
        cases (show Data.seq vs.toArray _ = Data.dict es ep from d)
    have nsK : ∀ {b : Addr} {m : Str → Option Value}, s1.heap.Ns b m → (hidT s1.heap H).Ns b m :=
      fun {b m} ⟨o, es, ep, e, d, r⟩ => ⟨o, es, ep, hidT_get e (nod e d), d, r⟩
    have hKb : K.In (hidT s1.heap H) := fun b o e => hidT_get (KX b o e) (by
      cases q : H b with
      | none => rfl
      | some u =>
        have e1 := isA q
        subst e1
        rw [hK (by rw [q]; simp)] at e
        cases e)
    have hM : Mod K mg (hidT s1.heap H) :=
      ⟨hKb, nsK hns, ⟨mb, nsK hb, hbb⟩, let ⟨mc, h1, h2⟩ := hlim; ⟨mc, nsK h1, h2⟩⟩
    have e0 : Env0 P w K mg (hidT s1.heap H) callerA [] s1 H :=
      ⟨rfl, hM, fun b o e => of_hidT e, Nat.le_of_eq (hidT_size _ _), trivial, fun b hb => absurd (show b ∈ ([] : List Addr) from hb) (by simp), hok, .of_eq hg⟩
    refine codeAny_mono ((F _ hKb (nsK hns)).run callerA [] s1 H ⟨[.ref a], []⟩ [.ref a] [.ref a] _ _ rfl hr e0 (hbind s1 (.ref a)) (.cons rfl .nil) (hsp H hO hS)) fun r s' h => ?_
    cases r with
    | error e => exact (hCX H e s' h).elim
    | ok fl =>
      cases fl with
      | next => exact False.elim h
      | brk => exact False.elim h
      | cont => exact False.elim h
      | ret u =>
        obtain ⟨v, H', os, bare, un, hok', r', q⟩ := h
        have qv : v = .bl true := q
        subst qv
        obtain rfl : u = Value.bool true := r'
        refine ⟨rfl, OldK.of_keep fun b o e => ?_, os, bare⟩
        cases q : H b with
        | none => exact un.keep b o e q (by intro z; exact absurd (show b ∈ ([] : List Addr) from z) (by simp)) (by simp)
        | some u =>
          rcases hO b with z | ⟨ob, xs, z⟩
          · rw [q] at z; cases z
          · have z2 := un.frzs b ob _ z
            obtain ⟨e1, _⟩ := hok b _ z
            obtain ⟨e2, _⟩ := hok' b _ z2
            rw [e] at e1
            cases e1
            exact e2
  cases hk : K.lookup a with
  | some o =>
    have e := KX a o hk
    rw [ha] at e
    cases e
    refine core (fun _ => none) (fun _ => .inl rfl) (.inr ⟨_, vs.toArray, _, hk, rfl, rfl, rfl, by rw [List.size_toArray, lenV]; exact hl, by simpa using rv⟩)
      (fun b u z => by cases (show (none : Option HO) = some u from z)) (fun b z => absurd rfl z) fun z => absurd rfl z
  | none =>
    refine core (fun b => if b = a then some (.frz { cls := .type "list", data := .seq vs.toArray } (.lst (ns.map V.int))) else none)
      (fun b => ?_) (.inl (.inr ⟨{ cls := .type "list", data := .seq vs.toArray }, if_pos rfl⟩)) (fun b u z => ?_) (fun b z => ?_) fun _ => hk
    · by_cases hb : b = a
      · exact .inr ⟨_, _, if_pos hb⟩
      · exact .inl (if_neg hb)
    · by_cases hb : b = a
      · have z1 := (if_pos hb).symm.trans z
        cases z1
        subst hb
        exact ⟨ha, by rw [List.length_map]; exact hl, vs, _, rv, ha⟩
      · have z1 := (if_neg hb).symm.trans z
        cases z1
    · by_cases hb : b = a
      · exact hb
      · exact absurd (if_neg hb) z
theorem walk_G {l : PySem.W.OpenLaw} {n k : Nat} {q : Program} {loose : List Str} {XP : (Str → Option Value) → Heap → Prop} {YP : World → Heap → Prop} {d : DefRec} {K : Params → PySem.W.Frag} {sp : PySem.W.Frag → Sp} {x : Str}
    (hn : l.most = some n) (hn2 : n ≤ sizeLine) (hdf : d.params.defaults = []) (hr : Room k callerA)
    (hY : ∀ (w : World) (h : Heap), YP w h → (K w.params).In h)
    (F : ∀ (w : World) (mg : Str → Option Value) (fa : Addr) (h : Heap), (K w.params).In h → h.Ns mainGlobals mg → mg d.name = some (.ref fa) →
      ∃ fd : FuncData, (∀ (s : Shared) (u : Value), BindsTo s fd ⟨[u], []⟩ [(x, u)]) ∧
        ∀ base : Heap, (K w.params).In base → base.Ns mainGlobals mg → FnG l.prog w (K w.params) mg base CX0 k fa fd [x] (sp (K w.params)))
    (hsp : ∀ (K : PySem.W.Frag) (H : Hp) (a : Addr) (ns : List Int), ns.length ≤ n → Only H → SqL K H a (ns.map V.int) → sp K [.ref a] H (fun v _ => v = .bl true) fun _ _ _ => False) :
    PySem.W.WalkO q loose XP YP l.row.toRowW d [] (fun f vs => PySem.call f vs) := by
  refine Att.attach_call hn hdf fun w s₀ s1 mg mb fa o pm cd doc a vs ns G Y ho hd hcd hmg hobj hints hlen hg => ?_
  have KX := hY w _ Y
  obtain ⟨fd, hb, hF⟩ := F w mg fa _ KX G.T.g hmg
  exact law_callG KX G.T.g G.T.b G.T.builtins G.T.nolimit hg hobj hints (Nat.le_trans hlen hn2) hr hF hb (fun H hO hS => hsp (K w.params) H a ns hlen hO hS) fun _ _ _ z => z
end L2
namespace L2
open PySem PySem.Spec PyProof.Rows PySem.GX
/-! sets of texts that can be walked: ys are the members, none twice -/
def keyS (e : Int × Value) : Str := match e.2 with | .str k _ => k | _ => Str.empty
def GoodS (w : World) (e : Int × Value) : Prop := ∃ k tk, e.2 = Value.str k tk ∧ e.1 = hashStr w k
def SetT (w : World) (h : Heap) (a : Addr) (ys : List Str) : Prop :=
  ∃ o es ep t, h.get? a = some o ∧ o.ExactSet ∧ o.data = .set es ep t ∧ (∀ e ∈ es.toList, GoodS w e) ∧ (es.toList.map keyS).Perm ys ∧ ys.Nodup ∧
    es.size < scanBound ∧ t.fits es.size = true ∧ Ris t.place.toList ∧ (w.params.followText "set-order" = true ∨ t.led = true)
/-- one more member -/
def ins (ys : List Str) (k : Str) : List Str := if k ∈ ys then ys else k :: ys
theorem ins_nodup {ys : List Str} {k : Str} (h : ys.Nodup) : (ins ys k).Nodup := by
  unfold ins
  split
  · exact h
  · exact List.nodup_cons.mpr ⟨‹_›, h⟩
theorem ins_len (ys : List Str) (k : Str) : (ins ys k).length ≤ ys.length + 1 := by
  unfold ins
  split
  · omega
  · rw [List.length_cons]; omega
section
variable {P : Program} {w : World} {h h' : Heap} {a : Addr} {ys : List Str}
theorem SetT.at (R : SetT w h a ys) (k : ∀ o, h.get? a = some o → h'.get? a = some o) : SetT w h' a ys := by
  obtain ⟨o, es, ep, t, ho, r⟩ := R
  exact ⟨o, es, ep, t, k o ho, r⟩
theorem goodS_elems {l : List (Int × Value)} (g : ∀ e ∈ l, GoodS w e) : ElemsOf (strKind P w) l := fun e he => by
  obtain ⟨k, tk, h1, h2⟩ := g e he
  exact ⟨⟨k, by rw [h1]; exact strKind_is P w k tk, h2⟩, by rw [h1] <;> rfl⟩
theorem goodS_is {e : Int × Value} (g : GoodS w e) (k : Str) : (strKind P w).is k e.2 = true ↔ keyS e = k := by
  obtain ⟨k0, tk, h1, _⟩ := g
  unfold keyS
  rw [h1]
  constructor
  · intro z
    obtain ⟨t, e2⟩ := Value.isStrOf_shape (x := k) (v := .str k0 tk) z
    cases e2
    rfl
  · intro z
    have z' : k0 = k := z
    rw [z']
    exact strKind_is P w k tk
theorem goodS_mem {l : List (Int × Value)} (g : ∀ e ∈ l, GoodS w e) (k : Str) : k ∈ l.map keyS ↔ ∃ e ∈ l, (strKind P w).is k e.2 = true := by
  rw [List.mem_map]
  constructor
  · rintro ⟨e, he, q⟩
    exact ⟨e, he, (goodS_is (g e he) k).2 q⟩
  · rintro ⟨e, he, q⟩
    exact ⟨e, he, (goodS_is (g e he) k).1 q⟩
end
section
variable {P : Program} {w : World} {A : Around} {E : Value → Shared → Prop} {s : Shared} {a : Addr} {ys : List Str}
theorem setT_tail {g : Bool → Sem Unit} (hg : ∀ (b : Bool) (s₁ : Shared) (Q' : Unit → Shared → Prop), Q' () s₁ → wpAny (model P w) A (g b) Q' E s₁)
    {o : Obj} {es : Array (Int × Value)} {ep : Nat} {t : SetTable} (ho : s.heap.get? a = some o) (hex : o.ExactSet) (hd : o.data = .set es ep t)
    {es1 : Array (Int × Value)} {t2 : SetTable} {zs : List Str} (g1 : ∀ e ∈ es1.toList, GoodS w e) (p1 : (es1.toList.map keyS).Perm zs) (nd1 : zs.Nodup)
    (hb1 : es1.size < scanBound) (hf2 : t2.fits es1.size = true) (hr : Ris t2.place.toList) (hl : w.params.followText "set-order" = true ∨ t2.led = true) {wd : Bool} {R : Option Bool → Shared → Prop}
    (hR : ∀ h', Heap.SameBut a s.heap h' → SetT w h' a zs → R (some true) { s with heap := h' }) :
    wpAny (model P w) A (do
        storeSet a es1 t2
        if (!wd && t2.tooFull) = true then do
            g (relayAll t2 es1 (SetTable.grown es1.size)).2.2
            storeSet a (relayAll t2 es1 (SetTable.grown es1.size)).1 (relayAll t2 es1 (SetTable.grown es1.size)).2.1
            pure (some true)
          else pure (some true)) R E s := by
  refine wpAny_bind (wpAny_storeSet_of ho hd ?_ (fits_of_scanBound hb1))
  have ho1 := store_at (es' := es1) (t' := t2) ho hd
  have sb1 := Heap.SameBut.update s.heap a (Obj.putSet es1 t2)
  split
  · have c1 := relayAll_perm t2 es1 (SetTable.grown es1.size)
    have c2 := relayAll_fits t2 es1 (SetTable.grown es1.size)
    have c3 := relayAll_ris t2 es1 (SetTable.grown es1.size)
    have c4 := relayAll_led t2 es1 (SetTable.grown es1.size)
    generalize relayAll t2 es1 (SetTable.grown es1.size) = Z at c1 c2 c3 c4 ⊢
    obtain ⟨es2, t3, gv⟩ := Z
    dsimp only at c1 c2 c3 c4 ⊢
    have hsz : es2.size = es1.size := by
      rw [← Array.length_toList, c1.length_eq, Array.length_toList]
    have hb2 : es2.size < scanBound := by rw [hsz]; exact hb1
    refine wpAny_bind (hg _ _ _ ?_)
    refine wpAny_bind (wpAny_storeSet_of ho1 rfl ?_ (fits_of_scanBound hb2))
    have ho2 := store_at (es' := es2) (t' := t3) ho1 rfl
    refine wpAny_pure (hR _ (sb1.trans (Heap.SameBut.update _ a _)) ?_)
    exact ⟨_, es2, _, t3, ho2, hex, rfl, fun e he => g1 e (c1.mem_iff.mp he), (c1.map keyS).trans p1, nd1, hb2, c2, c3, hl.imp id fun z => by rw [c4]; exact z⟩
  · exact wpAny_pure (hR _ sb1 ⟨_, es1, _, t2, ho1, hex, rfl, g1, p1, nd1, hb1, hf2, hr, hl⟩)
theorem setT_add {k : Str} {tk : Tok} {Q : Bool → Shared → Prop} (R : SetT w s.heap a ys) (room : ys.length + 1 < scanBound)
    (hQ : ∀ (b : Bool) h', Heap.SameBut a s.heap h' → SetT w h' a (ins ys k) → Q b { s with heap := h' }) :
    wpAny (model P w) A (setAddHashed a (.str k tk) ((strKind P w).hash k)) Q E s := by
  obtain ⟨o, es, ep, t, ho, hex, hd, g, pm0, nd, hb, hf, hr, hl⟩ := R
  have hkey : (strKind P w).is k (.str k tk) = true := strKind_is P w k tk
  have hsc : (Value.str k tk).scannable = true := rfl
  have hel : ElemsOf (strKind P w) es.toList := goodS_elems g
  unfold setAddHashed setAddHashedIn
  refine wpAny_holding (wpAny_bind (wpAny_setState_of ho hd hf ?_))
  dsimp only
  rw [byScan_of hsc hb hel]
  simp only [↓reduceIte]
  unfold setAddByScan
  refine wpAny_bind ?_
  refine wpAny_bind (wpAny_rule ?_)
  refine wpAny_bind (wpAny_setScan_of hkey ho hd hf hel ?_)
  cases hfi : List.findIdx? (fun e => (strKind P w).is k e.2) es.toList with
  | some j =>
    dsimp only
    obtain ⟨hj, pj, _⟩ := List.findIdx?_eq_some_iff_getElem.mp hfi
    have hk : k ∈ ys := pm0.mem_iff.mp ((goodS_mem (P := P) (w := w) g k).2 ⟨es.toList[j], List.getElem_mem hj, pj⟩)
    refine wpAny_pure (wpAny_pure ?_)
    exact hQ _ s.heap (Heap.SameBut.refl a s.heap) ⟨o, es, ep, t, ho, hex, hd, g, by unfold ins; rw [if_pos hk]; exact pm0, ins_nodup nd, hb, hf, hr, hl⟩
  | none =>
    dsimp only
    have hnk : k ∉ ys := fun z => by
      obtain ⟨e, he, q⟩ := (goodS_mem (P := P) (w := w) g k).1 (pm0.mem_iff.mpr z)
      have c := List.findIdx?_eq_none_iff.mp hfi e he
      rw [q] at c
      cases c
    have hgw : ∀ (b : Bool) {s₁ : Shared} {Q' : Unit → Shared → Prop}, Q' () s₁ → wpAny (model P w) A (match b with | true => rule "set.scan.the-table-gave-way" | false => pure ()) Q' E s₁ :=
      fun b s₁ Q' q => by cases b <;> first | exact wpAny_pure q | exact wpAny_rule q
    have c1 := layNew_perm t es ((strKind P w).hash k) (.str k tk)
    have c2 := layNew_fits t es ((strKind P w).hash k) (.str k tk)
    have c3 := layNew_ris t es ((strKind P w).hash k) (.str k tk) hr
    have c4 := layNew_led t es ((strKind P w).hash k) (.str k tk)
    generalize layNew t es ((strKind P w).hash k) (.str k tk) = Z at c1 c2 c3 c4 ⊢
    obtain ⟨es1, t1, wasDummy, gave⟩ := Z
    dsimp only at c1 c2 c3 c4 ⊢
    rw [Array.toList_push] at c1
    have pc : es1.toList.Perm (((strKind P w).hash k, Value.str k tk) :: es.toList) := c1.trans (List.perm_append_singleton _ _)
    have pk : (es1.toList.map keyS).Perm (ins ys k) := by
      unfold ins
      rw [if_neg hnk]
      exact (pc.map keyS).trans (List.Perm.cons k pm0)
    have g1 : ∀ e ∈ es1.toList, GoodS w e := fun e he => by
      rcases List.mem_cons.mp (pc.mem_iff.mp he) with z | z
      · rw [z]; exact ⟨k, tk, rfl, rfl⟩
      · exact g e z
    have hsz : es1.size = ys.length + 1 := by
      rw [← Array.length_toList, pc.length_eq, List.length_cons, ← pm0.length_eq, List.length_map]
    have hb1 : es1.size < scanBound := by rw [hsz]; exact room
    have hled : w.params.followText "set-order" = true ∨ t1.led = true := hl.imp id fun z => by rw [c4]; exact z
    refine wpAny_bind (hgw _ ?_)
    split
    · refine wpAny_bind ?_
      rw [hashByValue_scannable 8 hsc]
      refine wpAny_pure ?_
      refine setT_tail ?_ ho hex hd g1 pk (ins_nodup nd) hb1 ?_ ?_ ?_ ?_
      · intro b s₁ Q' q; cases b <;> first | exact wpAny_pure q | exact wpAny_rule q
      · first | (split <;> first | exact c2 | exact SetTable.fits_plain_off c2) | exact c2
      · first | (split <;> exact c3) | exact c3
      · first | (split <;> exact hled) | exact hled
      · intro h' sb r; dsimp only; exact wpAny_pure (hQ _ h' sb r)
    · refine wpAny_bind (wpAny_pure ?_)
      simp only [↓reduceIte]
      refine setT_tail ?_ ho hex hd g1 pk (ins_nodup nd) hb1 c2 c3 hled ?_
      · intro b s₁ Q' q; cases b <;> first | exact wpAny_pure q | exact wpAny_rule q
      · intro h' sb r; dsimp only; exact wpAny_pure (hQ _ h' sb r)
end
end L2
namespace L2
open PySem PySem.Spec PyProof.Rows PySem.GX
def setFold (xs : List Str) : List Str := xs.foldl ins []
theorem setFold_snoc (xs : List Str) (x : Str) : setFold (xs ++ [x]) = ins (setFold xs) x := by
  unfold setFold
  rw [List.foldl_append]
  rfl
theorem setFold_len : ∀ (n : Nat) (xs : List Str), xs.length = n → (setFold xs).length ≤ n
  | 0, xs, h => by
    have := List.length_eq_zero_iff.mp h
    subst this
    exact Nat.le_refl 0
  | n + 1, xs, h => by
    obtain ⟨ys, y, rfl⟩ : ∃ ys y, xs = ys ++ [y] := ⟨xs.dropLast, xs.getLast (by intro z; rw [z] at h; cases h), (List.dropLast_concat_getLast _).symm⟩
    rw [List.length_append, List.length_singleton] at h
    have h1 := setFold_len n ys (by omega)
    have h2 := ins_len (setFold ys) y
    rw [setFold_snoc]
    omega
section
variable {prog : Program} {w : World} {A : Around} {R : Result → Shared → Prop} {I : Addr} {fp wr : List Addr} {G : Array GenState → Array GenState → Prop} {n : Nat} {Pv : Nat → Value → Prop} {St : Nat → Shared → Prop}
theorem loopT (W : WalksS prog w A.in1 I fp wr G n Pv St) (S : Addr) (hSf : S ∉ fp) (xs : List Str) (hsz : xs.length = n) (hn : n + 1 < scanBound)
    (hval : ∀ i v, Pv i v → ∃ x t, xs[i]? = some x ∧ v = .str x t) :
    ∀ (k i : Nat) (s : Shared), n - i = k → i ≤ n → St i s → SetT w s.heap S (setFold (xs.take i)) →
      (∀ s', Moved (S :: wr) G s s' → SetT w s'.heap S (setFold xs) → R (.ok (.ret .none)) s') →
      codeAny (model prog w) A (.builtin "set.update.loop" ⟨[.ref S, .ref I], []⟩) R s := by
  have hSw : S ∉ wr := fun h => hSf (W.sub _ h)
  have up : ∀ b ∈ wr, b ∈ S :: wr := fun b hb => List.mem_cons_of_mem _ hb
  intro k
  induction k with
  | zero =>
    intro i s hk hi hst hS hR
    have hin : i = n := by omega
    subst hin
    refine codeAny_builtin PyProof.Rows.F.entry_set_update_loop ?_
    rw [Around.under_plainId PyProof.Rows.F.plain_set_update_loop _]
    show wpAny _ A.in1 (pyNext (.ref I) >>= _) _ _ s
    refine wpAny_bind (W.done s _ _ hst fun s' hm => ?_)
    show wpAny _ A.in1 (ret Value.none) _ _ s'
    rw [List.take_of_length_le (by omega)] at hS
    exact wpAny_pure (hR s' (hm.mono up) (hS.at fun o e => hm.heap S _ hSw e))
  | succ k ih =>
    intro i s hk hi hst hS hR
    have hlt : i < n := by omega
    refine codeAny_builtin PyProof.Rows.F.entry_set_update_loop ?_
    rw [Around.under_plainId PyProof.Rows.F.plain_set_update_loop _]
    show wpAny _ A.in1 (pyNext (.ref I) >>= _) _ _ s
    refine wpAny_bind (W.item i s _ _ hlt hst fun v s' hP hst' hm => ?_)
    obtain ⟨x, t, hx, rfl⟩ := hval i v hP
    have hS1 : SetT w s'.heap S (setFold (xs.take i)) := hS.at fun o e => hm.heap S _ hSw e
    show wpAny _ A.in1 (holding [Value.str x t] (setAdd S (.str x t)) >>= _) _ _ s'
    refine wpAny_bind (wpAny_holding ?_)
    unfold setAdd
    refine wpAny_holding ?_
    refine wpAny_bind ((PySem.strKind prog w).pyHash (k := x) (strKind_is _ _ _ _) ?_)
    have lf := setFold_len i (xs.take i) (by rw [List.length_take]; omega)
    refine setT_add (s := { s' with toks := s'.toks + 1 }) hS1 (by omega) fun b h' hsb hS2 => ?_
    have e1 : xs.take (i + 1) = xs.take i ++ [x] := by
      rw [List.take_succ, hx]
      rfl
    have hS3 : SetT w h' S (setFold (xs.take (i + 1))) := by
      rw [e1, setFold_snoc]
      exact hS2
    refine wpAny_pure ⟨plainId_quiet PyProof.Rows.F.plain_set_update_loop _, ih (i + 1) _ (by omega) hlt (W.frame _ s' _ _ hst' (Nat.le_succ _) fun b hb o e => ?_) hS3 fun s'' hm'' hS'' => ?_⟩
    · rw [hsb.2 b (fun h : b = S => hSf (by rw [← h]; exact hb))]
      exact e
    · refine hR s'' (Moved.trans W.gtrans ((hm.mono up).then_heap (Nat.le_succ _) fun b o hb e => ?_) hm'') hS''
      rw [hsb.2 b (fun h : b = S => hb (by rw [h]; exact List.mem_cons_self))]
      exact e
end
section
variable {prog : Program} {w : World} {A : Around} {E : Value → Shared → Prop} {s : Shared}
abbrev newSet (w : World) : Obj := { cls := .type "set", dict := none, data := .set #[] 0 (.fresh 0 0 (!w.params.followText "set-order")) }
theorem setT_fresh {h : Heap} (w : World) : SetT w (h.push (newSet w)) h.objs.size [] :=
  ⟨_, #[], 0, _, Heap.get?_push_size _ rfl, ⟨rfl, rfl, rfl⟩, rfl, (fun e he => by simp at he), List.Perm.refl _, List.nodup_nil, (by decide), (by rfl), List.Pairwise.nil, by
    show _ ∨ (!w.params.followText "set-order") = true
    cases w.params.followText "set-order"
    · exact .inr rfl
    · exact .inl rfl⟩
theorem code_setNew (a : Value) {Q1 : Value → Shared → Prop} (h : Q1 (.ref s.heap.objs.size) { s with heap := s.heap.push (newSet w) }) :
    codeAny (model prog w) A (.call (.builtin "set.__new__") ⟨[.type "set", a], []⟩) (wants Q1 E) s := by
  refine codeAny_of_tree ?_
  show wpAny _ A.in1 (do checkBuiltinCall "set.__new__" ⟨[.type "set", a], []⟩; again (.builtin "set.__new__" ⟨[.type "set", a], []⟩)) _ _ s
  refine wpAny_bind (wpAny_of_eq (F.newCall_set_1 a) (wpAny_pure ⟨plainId_quiet F.plain_set_new _, codeAny_builtin F.entry_set_new ?_⟩))
  rw [Around.under_plainId F.plain_set_new _]
  unfold Builtin.«set.__new__» Builtin.Frozenset.newClass
  have hsub := sub_set_self
  obtain ⟨hp, g, d, tk, os⟩ := s
  dsimp only
  wp_walk
  refine wpAny_askSetting (wpAny_pure ?_)
  dsimp only
  simp only [newObj]
  refine wpAny_bind (wpAny_alloc (wpAny_pure ?_))
  exact wpAny_pure h
theorem sub_str_set : isSubtype (.type "str") (.type "set") = pure false := by
  rw [isSubtype_type]; kernel_rfl
theorem sub_str_frozenset : isSubtype (.type "str") (.type "frozenset") = pure false := by
  rw [isSubtype_type]; kernel_rfl
/-- set(x): the new set, then the iterable's items (hinit: what set.__init__ does) -/
theorem call_set1 {v : Value} {ys : List Str} {Q : Value → Shared → Prop}
    (hinit : ∀ (R : Result → Shared → Prop), (∀ h' tk, SetT w h' s.heap.objs.size ys → (∀ b o, b < s.heap.objs.size → s.heap.get? b = some o → h'.get? b = some o) → R (.ok (.ret .none)) { s with heap := h', toks := tk }) →
      wpAny (model prog w) A.in1.in1 (Builtin.«set.__init__» ⟨[.ref s.heap.objs.size, v], []⟩) (fun fin s' => match fin with | .done f => R (.ok f) s' | .again c => c.quiet = true ∧ codeAny (model prog w) A.in1 c R s')
        (fun e s' => R (.error e) s') { s with heap := s.heap.push (newSet w) })
    (h : ∀ (h' : Heap) (tk : Nat), SetT w h' s.heap.objs.size ys → (∀ b o, b < s.heap.objs.size → s.heap.get? b = some o → h'.get? b = some o) → Q (.ref s.heap.objs.size) { s with heap := h', toks := tk }) :
    wpAny (model prog w) A (call (.type "set") [v]) Q E s := by
  obtain ⟨c, tl, hmro⟩ := PySem.F.called_set.mro
  have z1 := PySem.F.called_set.made
  have z2 := PySem.F.called_set.sub
  refine wpAny_call (codeAny_of_tree ?_)
  show wpAny _ _ (callAny (.type "set") _) _ _ _
  refine wpAny_pure ⟨Code.quiet_builtin _ (by decide +kernel), codeAny_builtin PySem.F.entry_type_call ?_⟩
  rw [Around.under_plain (weight_type_call_type "set" [v] []) rfl]
  have z3 := PySem.F.called_set.notType
  have z4 := PySem.F.called_set.canCreate
  have z5 := F.typeCall_set_1 v
  repeat (any_goals (first | assumption | wp_step))
  refine codeAny_mono (code_setNew v (E := E) (Q1 := fun obj s₁ => obj = .ref s.heap.objs.size ∧ s₁ = { s with heap := s.heap.push (newSet w) }) ⟨rfl, rfl⟩) fun r s₁ hr => ?_
  cases r with
  | error e => exact hr
  | ok fl =>
    cases fl with
    | ret obj =>
      obtain ⟨rfl, rfl⟩ := hr
      have hS : (s.heap.push (newSet w)).get? s.heap.objs.size = some (newSet w) := Heap.get?_push_size _ rfl
      have hT : Shared.TypeIs { s with heap := s.heap.push (newSet w) } (.ref s.heap.objs.size) "set" := ⟨_, hS, rfl⟩
      have z6 := PySem.F.called_set.init.lookup
      have z7 := PySem.F.called_set.init.bind (.ref s.heap.objs.size)
      repeat (any_goals (first | assumption | wp_step))
      refine codeAny_mono (codeAny_call_builtin (R := wants (fun r s₂ => r = .none ∧ ∃ h' tk, s₂ = { s with heap := h', toks := tk } ∧ SetT w h' s.heap.objs.size ys ∧ (∀ b o, b < s.heap.objs.size → s.heap.get? b = some o → h'.get? b = some o)) E)
        PySem.F.called_set.init.plain PySem.F.entry_set_init (check_set_init_1 hT ?_)) fun r₂ s₂ hr₂ => ?_
      · refine hinit (wants (fun r s₂ => r = .none ∧ ∃ h' tk, s₂ = { s with heap := h', toks := tk } ∧ SetT w h' s.heap.objs.size ys ∧ (∀ b o, b < s.heap.objs.size → s.heap.get? b = some o → h'.get? b = some o)) E) ?_
        exact fun h' tk a1 a2 => ⟨rfl, h', tk, rfl, a1, a2⟩
      · cases r₂ with
        | error e => exact hr₂
        | ok fl₂ =>
          cases fl₂ with
          | ret r =>
            obtain ⟨rfl, h', tk, rfl, b1, b2⟩ := hr₂
            repeat (any_goals (first | assumption | wp_step))
            exact h _ _ b1 b2
          | _ => exact hr₂.elim
    | _ => exact hr.elim
end
end L2
namespace L2
open PySem PySem.Spec PyProof.Rows PySem.GX
section
variable {prog : Program} {w : World} {A : Around} {E : Value → Shared → Prop} {s : Shared}
theorem init_str {x : Str} {t : Tok} (hh : A.handled = none) (hz : x.length + 1 < scanBound) (R : Result → Shared → Prop)
    (hR : ∀ h' tk, SetT w h' s.heap.objs.size (setFold (x.cps.toList.map fun c => ⟨#[c]⟩)) → (∀ b o, b < s.heap.objs.size → s.heap.get? b = some o → h'.get? b = some o) → R (.ok (.ret .none)) { s with heap := h', toks := tk }) :
    wpAny (model prog w) A.in1.in1 (Builtin.«set.__init__» ⟨[.ref s.heap.objs.size, .str x t], []⟩) (fun fin s' => match fin with | .done f => R (.ok f) s' | .again c => c.quiet = true ∧ codeAny (model prog w) A.in1 c R s')
      (fun e s' => R (.error e) s') { s with heap := s.heap.push (newSet w) } := by
  have hS : (s.heap.push (newSet w)).get? s.heap.objs.size = some (newSet w) := Heap.get?_push_size _ rfl
  have y1 := sub_str_set
  have y2 := sub_str_frozenset
  have y3 : (Value.type "str" == Value.type "dict") = false := by decide
  have hT0 : Shared.TypeIs { s with heap := s.heap.push (newSet w) } (.str x t) "str" := typeIs_str _ _ _
  unfold Builtin.«set.__init__» noKeywords Builtin.Frozenset.updateFrom
  generalize hPI : pyIter = PI
  wp_walk
  subst hPI
  refine wpAny_pyIter_str (s := { s with heap := s.heap.push (newSet w) }) (fun o St W hst => ?_)
  refine wpAny_bind (wpAny_runValue ?_)
  have z1 : (s.heap.push (newSet w)).objs.size = s.heap.objs.size + 1 := Heap.size_push _ _
  have hSf : s.heap.objs.size ∉ [(s.heap.push (newSet w)).objs.size] := by
    rw [z1]
    simp only [List.mem_singleton]
    omega
  have hsz : (x.cps.toList.map fun c => (⟨#[c]⟩ : Str)).length = x.cps.size := by
    rw [List.length_map, Array.length_toList]
  refine loopT ((W A.in1.in1.in1 (by simp [hh])).toS) s.heap.objs.size hSf (x.cps.toList.map fun c => ⟨#[c]⟩) hsz hz (fun i v hv => ?_) (x.cps.size - 0) 0 _ (by omega) (Nat.zero_le _) hst ?_ ?_
  · obtain ⟨c, u, hc, rfl⟩ := hv
    exact ⟨_, u, by rw [List.getElem?_map, Array.getElem?_toList, hc]; rfl, rfl⟩
  · exact (setT_fresh w).at fun u e => Heap.get?_push_of_some _ e
  · intro s' hm hS'
    obtain ⟨h', g', d', tk', os'⟩ := s'
    have eg : g' = s.gens := hm.gens
    have ed : d' = s.drawn := hm.drawn
    have eo : os' = s.os := hm.os
    subst eg; subst ed; subst eo
    show wpAny _ _ _ _ _ _
    refine wpAny_pure ?_
    show wpAny _ _ (ret Value.none) _ _ _
    refine wpAny_pure (hR h' tk' hS' fun b u hb e => ?_)
    refine hm.heap b u (fun hmem => ?_) (Heap.get?_push_of_some _ (Heap.get?_push_of_some _ e))
    rcases List.mem_cons.mp hmem with q | q
    · exact absurd (q ▸ hb) (Nat.lt_irrefl _)
    · have q2 := List.mem_singleton.mp q
      rw [z1] at q2
      exact absurd (Nat.lt_succ_of_lt (q2 ▸ hb)) (Nat.lt_irrefl _)
theorem init_list {l : Addr} {items : Array Value} {xs : List Str} (hh : A.handled = none) (hl : s.heap.IsList l items) (hi : PyProof.Rows.StrsAre items.toList xs) (hz : xs.length + 1 < scanBound) (R : Result → Shared → Prop)
    (hR : ∀ h' tk, SetT w h' s.heap.objs.size (setFold xs) → (∀ b o, b < s.heap.objs.size → s.heap.get? b = some o → h'.get? b = some o) → R (.ok (.ret .none)) { s with heap := h', toks := tk }) :
    wpAny (model prog w) A.in1.in1 (Builtin.«set.__init__» ⟨[.ref s.heap.objs.size, .ref l], []⟩) (fun fin s' => match fin with | .done f => R (.ok f) s' | .again c => c.quiet = true ∧ codeAny (model prog w) A.in1 c R s')
      (fun e s' => R (.error e) s') { s with heap := s.heap.push (newSet w) } := by
  have hS : (s.heap.push (newSet w)).get? s.heap.objs.size = some (newSet w) := Heap.get?_push_size _ rfl
  obtain ⟨ol, hol, hcl, nl, hdl⟩ := hl
  obtain ⟨ocls, odict, odata, oslots⟩ := ol
  simp only at hcl hdl
  subst hcl; subst hdl
  have hol1 : (s.heap.push (newSet w)).get? l = some { cls := .type "list", dict := odict, data := .seq items nl, slots := oslots } := Heap.get?_push_of_some _ hol
  have y1 := F.sub_list_set
  have y2 := F.sub_list_frozenset
  have y3 : (Value.type "list" == Value.type "dict") = false := by decide
  have hl1 : (s.heap.push (newSet w)).IsList l items := ⟨_, hol1, rfl, nl, rfl⟩
  unfold Builtin.«set.__init__» noKeywords Builtin.Frozenset.updateFrom
  generalize hPI : pyIter = PI
  wp_walk
  subst hPI
  refine wpAny_pyIter_list hl1 ?_
  refine wpAny_bind (wpAny_runValue ?_)
  have z1 : (s.heap.push (newSet w)).objs.size = s.heap.objs.size + 1 := Heap.size_push _ _
  have hlS : l < s.heap.objs.size := Heap.lt_size hol
  have hneI : l ≠ (s.heap.push (newSet w)).objs.size := by
    rw [z1]; exact Nat.ne_of_lt (Nat.lt_succ_of_lt hlS)
  have hSf : s.heap.objs.size ∉ [(s.heap.push (newSet w)).objs.size, l] := by
    rw [z1]
    simp only [List.mem_cons, List.mem_singleton, List.not_mem_nil, or_false, not_or]
    exact ⟨Nat.ne_of_lt (Nat.lt_succ_self _), Nat.ne_of_gt hlS⟩
  have hsz : xs.length = items.size := by
    rw [← StrsAre.len_eq hi, Array.length_toList]
  have hval : ∀ (i : Nat) (v : Value), items[i]? = some v → ∃ x t, xs[i]? = some x ∧ v = .str x t := fun i v hv => by
    have hlt : i < items.size := (Array.getElem?_eq_some_iff.mp hv).1
    obtain ⟨t, e⟩ := SS.strs_at hi i v (by rw [Array.getElem?_toList]; exact hv)
    have hx : xs[i]? = some (xs.getD i Str.empty) := by
      rw [List.getD_eq_getElem?_getD, List.getElem?_eq_getElem (by omega)]
      rfl
    exact ⟨_, t, hx, e⟩
  refine loopT ((Walks.list (A := A.in1.in1.in1) (by simp [hh]) _ l hneI items).toS) s.heap.objs.size hSf xs hsz (by omega) hval (items.size - 0) 0 _ (by omega) (Nat.zero_le _) ⟨⟨_, Heap.get?_push_size _ rfl, rfl, rfl⟩, (hl1.push _)⟩ ?_ ?_
  · exact (setT_fresh w).at fun u e => Heap.get?_push_of_some _ e
  · intro s' hm hS'
    obtain ⟨h', g', d', tk', os'⟩ := s'
    have eg : g' = s.gens := hm.gens
    have ed : d' = s.drawn := hm.drawn
    have eo : os' = s.os := hm.os
    subst eg; subst ed; subst eo
    show wpAny _ _ _ _ _ _
    refine wpAny_pure ?_
    show wpAny _ _ (ret Value.none) _ _ _
    refine wpAny_pure (hR h' tk' hS' fun b u hb e => ?_)
    refine hm.heap b u (fun hmem => ?_) (Heap.get?_push_of_some _ (Heap.get?_push_of_some _ e))
    rcases List.mem_cons.mp hmem with q | q
    · exact absurd (q ▸ hb) (Nat.lt_irrefl _)
    · have q2 := List.mem_singleton.mp q
      rw [z1] at q2
      exact absurd (Nat.lt_succ_of_lt (q2 ▸ hb)) (Nat.lt_irrefl _)
end
end L2
namespace L2
open PySem PySem.Spec PyProof.Rows PySem.GX
/-- the signs of a text, each as a text -/
def signsOf (x : Str) : List Str := x.cps.toList.map fun c => ⟨#[c]⟩
/-- the set of texts at a, its members ys -/
def SetTx (w : World) (a : Addr) (ys : List Str) : HO := .ext fun h => SetT w h a ys
theorem setTx_new {w : World} {P : Program} {H : Hp} {h : Heap} {a : Addr} {ys : List Str} (R : SetT w h a ys) : ObjOk P w H h a (SetTx w a ys) := by
  have ⟨o, _, _, _, ho, _⟩ := R
  exact ⟨R, ⟨o, ho⟩, fun h1 h2 p k => p.at k⟩
theorem strs_list : ∀ {l : List Value}, (∀ v ∈ l, ∃ k tk, v = Value.str k tk) → ∃ ss, StrsAre l ss ∧ ss = l.map (fun v => keyS (0, v))
  | [], _ => ⟨[], .nil, rfl⟩
  | v :: l, h => by
    obtain ⟨k, tk, rfl⟩ := h v List.mem_cons_self
    obtain ⟨ss, a, b⟩ := strs_list (l := l) fun u hu => h u (List.mem_cons_of_mem _ hu)
    exact ⟨k :: ss, .cons k tk a, by rw [b]; rfl⟩
section
variable {P : Program} {w : World} {A : Around} {E : Value → Shared → Prop} {s : Shared} {a : Addr} {ys : List Str}
theorem sorted_setT {Q : Value → Shared → Prop} (R : SetT w s.heap a ys) (hh : A.handled = none)
    (hQ : ∀ s' p (out : Array Value) (c : Nat) (zs : List Str), (∀ b o, s.heap.get? b = some o → s'.heap.get? b = some o) → s'.gens = s.gens → s'.os = s.os → s.heap.objs.size ≤ p →
      s'.heap.get? p = some (seqObj "list" out c) → StrsAre out.toList zs → zs.Perm ys → sortedS zs = true → Q (.ref p) s') :
    wpAny (model P w) A (call (.builtin "sorted") [.ref a]) Q E s := by
  obtain ⟨o, es, ep, t, ho, hex, hd, g, pm0, nd, hb, hf, hr, hl⟩ := R
  refine Calls.call_function_entry kind_sorted plain_sorted entry_sorted (args_sorted1 _) ?_
  unfold Builtin.«sorted»
  refine wpAny_bind (m := checkCount "sorted" 1 1 _) (wpAny_pure ?_)
  refine wpAny_bind (collect_set (A := A.in1) hh ⟨o, ho, hex.1, hd⟩ hf hb hr hl fun s1 vs k1 hz g1 o1 pm => ?_)
  have hvl : vs.length = es.size := by
    rw [pm.length_eq, List.length_map, Array.length_toList]
  obtain ⟨ss, hS, hss⟩ := strs_list (l := vs) fun v hv => by
    obtain ⟨e, he, q⟩ := List.mem_map.mp (pm.mem_iff.mp hv)
    obtain ⟨k, tk, h1, _⟩ := g e he
    exact ⟨k, tk, by rw [← q]; exact h1⟩
  have ps : ss.Perm ys := by
    have q := pm.map (fun v => keyS (0, v))
    rw [List.map_map, ← hss] at q
    exact q.trans pm0
  have small : vs.length ≤ sizeLine := by
    rw [hvl]
    exact fits_of_scanBound hb
  refine wpAny_bind (wpAny_newList ?_ small)
  have hoL : (s1.heap.push (seqObj "list" vs.toArray 0)).get? s1.heap.objs.size = some (seqObj "list" vs.toArray 0) := Heap.get?_push_size _ rfl
  refine wpAny_bind (wpAny_holding (wpAny_call_entry slot_list_sort ⟨_, hoL, rfl⟩ entry_list_sort
    (list_sort_treeKAny PyProof.Rows.strKind_oneLt hoL hS.keysOf (fun v₁ v₂ rest e => keyKind_strs (by rw [← e]; exact hS)) small fun st' a1 a2 => ⟨_, rfl, ?_⟩) (args_list_sort _)))
  obtain ⟨zs, h1, h2, h3⟩ := sorted_out_str hS a1 a2
  obtain ⟨c, hc⟩ := sortedHeap_at (vs := vs) (out := (arrOf st').map (·.2)) hoL
  refine wpAny_pure ⟨_, rfl, hQ _ s1.heap.objs.size _ c zs (fun b u e => ?_) g1 o1 hz hc h1 (h2.trans ps) h3⟩
  have q := k1 b u e
  have hlt := Heap.lt_size q
  show (sortedHeap (s1.heap.push (seqObj "list" vs.toArray 0)) s1.heap.objs.size vs _).get? b = some u
  rw [sortedHeap_old (Nat.ne_of_lt hlt) (by rw [size_push']; exact Nat.lt_succ_of_lt hlt)]
  exact Heap.get?_push_of_some _ q
end
section
variable {X : Cx}
/-- set(text) -/
def rSetS (w : World) : List V → Hp → VK → Prop := fun xs H Q => ∃ x : Str, xs = [.str x] ∧ x.length < 4000 ∧ ∀ p, H p = none → Q (.ref p) (upd H p (SetTx w p (setFold (signsOf x))))
theorem cr_setS (hc : X.calm = true) : CallR X (.type "set") (rSetS X.w) := by
  intro pins s σ H xs us Q I r h
  obtain ⟨x, rfl, hz, q⟩ := h
  obtain ⟨u, rfl, t, rfl⟩ := vals1 r
  refine call_set1 (ys := setFold (signsOf x)) (fun R hR => init_str (I.ok.hd hc) (by unfold scanBound; omega) R hR) fun h' tk hS k => ?_
  exact ⟨.ref _, upd H s.heap.objs.size (SetTx X.w s.heap.objs.size (setFold (signsOf x))), I.laid (t' := tk) (fun b u e => k b u (Heap.lt_size e) e) (Nat.le_refl _) (setTx_new hS), rfl, q _ (I.hok.fresh (Nat.le_refl _))⟩
/-- set(list of texts) -/
def rSetTxL (K : PySem.W.Frag) (w : World) : List V → Hp → VK → Prop := fun vs H Q => ∃ (l : Addr) (xs : List Str), vs = [.ref l] ∧ SqL K H l (xs.map V.str) ∧ xs.length < 4000 ∧ ∀ p, H p = none → Q (.ref p) (upd H p (SetTx w p (setFold xs)))
theorem cr_setL (hc : X.calm = true) : CallR X (.type "set") (rSetTxL X.K X.w) := by
  intro pins s σ H vs us Q I r h
  obtain ⟨l, xs, rfl, hq, hz, q⟩ := h
  obtain ⟨its, rv, pl, _⟩ := I.list hq
  rw [Vals.ref1 r]
  refine call_set1 (ys := setFold xs) (fun R hR => init_list (I.ok.hd hc) pl.isList (by simpa using strsAre_of rv) (by unfold scanBound; omega) R hR) fun h' tk hS k => ?_
  exact ⟨.ref _, upd H s.heap.objs.size (SetTx X.w s.heap.objs.size (setFold xs)), I.laid (t' := tk) (fun b u e => k b u (Heap.lt_size e) e) (Nat.le_refl _) (setTx_new hS), rfl, q _ (I.hok.fresh (Nat.le_refl _))⟩
/-- len(set of texts) -/
def rLenSet (w : World) : List V → Hp → VK → Prop := fun vs H Q => ∃ (a : Addr) (ys : List Str), vs = [.ref a] ∧ H a = some (SetTx w a ys) ∧ Q (.int ys.length) H
theorem cr_lenSet : CallR X (.builtin "len") (rLenSet X.w) := by
  intro pins s σ H vs us Q I r h
  obtain ⟨a, ys, rfl, ha, q⟩ := h
  rw [Vals.ref1 r]
  obtain ⟨o, es, ep, t, ho, hex, hd, g, pm0, nd, hb, hf, hr, hl⟩ := (I.hok a _ ha).1
  have hn : es.size = ys.length := by
    rw [← pm0.length_eq, List.length_map, Array.length_toList]
  refine call_len_set ho hex hd hf (by unfold scanBound at hb; omega) ⟨.int ys.length, H, I.tok _, ⟨_, by rw [hn]⟩, q⟩
/-- sorted(set of texts) -/
def rSortedTx (w : World) : List V → Hp → VK → Prop := fun vs H Q => ∃ (a : Addr) (ys : List Str), vs = [.ref a] ∧ H a = some (SetTx w a ys) ∧
  ∀ (zs : List Str) (p : Addr), zs.Perm ys → sortedS zs = true → H p = none → Q (.ref p) (upd H p (.lst (zs.map V.str)))
theorem cr_sortedTx (hc : X.calm = true) : CallR X (.builtin "sorted") (rSortedTx X.w) := by
  intro pins s σ H vs us Q I r h
  obtain ⟨a, ys, rfl, ha, q⟩ := h
  rw [Vals.ref1 r]
  have R : SetT X.w s.heap a ys := (I.hok a _ ha).1
  have small : ys.length ≤ sizeLine := by
    obtain ⟨o, es, ep, t, ho, hex, hd, g, pm0, nd, hb, _⟩ := R
    rw [← pm0.length_eq, List.length_map, Array.length_toList]
    exact fits_of_scanBound hb
  refine sorted_setT R (I.ok.hd hc) fun s' p out c zs k g1 o1 hp he hS pm so => ?_
  obtain ⟨h', g', d', tk', os'⟩ := s'
  have hlen : (zs.map V.str).length ≤ sizeLine := by
    rw [List.length_map, pm.length_eq]; exact small
  have J : Inv X pins σ (upd H p (.lst (zs.map V.str))) ⟨h', g', d', tk', os'⟩ := by
    have hn := I.hok.fresh hp
    have u : Un (frs X.stack) [] H (upd H p (.lst (zs.map V.str))) s.heap h' := Un.laid k hp hn
    refine I.call' (ch := []) o1 u ?_ ?_ (fun b z => absurd z (by simp))
    · exact I.hok.laid k hp ⟨hlen, out.toList, c, vals_of_strs hS, he⟩
    · have e : g' = s.gens := g1
      rw [e]; exact I.bare
  exact ⟨.ref p, _, J, rfl, q zs p pm so (I.hok.fresh hp)⟩
end
end L2
namespace L2
open PySem PySem.Spec PyProof.Rows PySem.GX
/-! a dict comprehension whose keys are tuples of ints and texts -/
section
variable {X : Cx} {pl : List (Addr × Obj)} {σ : St} {H : Hp} {s : Shared} {D t : Addr} {kvs : List (List Key × V)} {k : List Key} {v : V}
/-- the store of one turn -/
theorem dictSet_tup {Er : Value → Shared → Prop} {kv vv : Value} {Q : Unit → Shared → Prop} (room : X.A.units < cLine) (I : Inv X pl σ H s) (eD : H D = some (.dT kvs)) (et : H t = some (.tup (k.map kV))) (few : kvs.length < sizeLine)
    (rk : RelV (.ref t) kv) (rv : RelV v vv) (go : ∀ s', Inv X pl σ (upd H D (.dT (putK kvs k v))) s' → Q () s') : wpAny (model X.prog X.w) X.A (dictSet D kv vv) Q Er s := by
  have ekv : kv = Value.ref t := rk
  subst ekv
  obtain ⟨len0, nosys, xs, rel, dict⟩ := dt_of I.hok eD
  have len1 : xs.length ≤ sizeLine := by
    rw [← Paired.length rel]
    exact len0
  have len2 : (putK kvs k v).length ≤ sizeLine := by
    have grows := length_putK kvs k v
    omega
  have hroom : (tupleKind (mixKind X.prog X.w)).room X.A := room
  refine wpAny_dictSet_heap (hsz := len1) hroom (key_of I.hok et) dict fun h' dict' same => go _ ?_
  obtain ⟨o, es, ep, ho, c1, c2, c3, _, c4⟩ := dict'
  refine d_write I (by rw [eD]; trivial) same ⟨o, ho⟩ ⟨len2, nosys, _, (rel.put k et rv).keeps fun c ys ec => ?_, o, es, ep, ho, c1, c2, c3, c4⟩
  rw [upd_ne (ne_of ec eD (fun z => nomatch z))]
  exact ec
end
/-- {(..): v for target in iter if ..}: D is the new dict -/
def tDcT (wi : TI) (g : TG) (tt : TT) (tk tv : TE) (vs : List Nat) : TE := fun σ H Q => wi σ H fun J H1 => ∀ D, H1 D = none → ∃ W : Nat → Nat → Hp → Prop, (∃ m, W 0 m (upd H1 D (.dT []))) ∧ ∀ i m H, W i m H →
  (J.stop i H ∧ Q (.ref D) H) ∨ (J.go i H ∧ ∃ On : Hp → Prop, (∀ H', On H' → ∃ m', m' < m ∧ W (i + 1) m' H') ∧ ∀ x H', J.yld i H x H' → g x (wipe σ vs) H' fun σ2 H2 => wipe σ2 vs = wipe σ vs ∧ tt σ2 H2 fun b H3 =>
    if b = true then tk σ2 H3 fun y H4 => tv σ2 H4 fun z H5 => ∃ kvs k t, y = .ref t ∧ H5 t = some (.tup (k.map kV)) ∧ H5 D = some (.dT kvs) ∧ kvs.length < sizeLine ∧ On (upd H5 D (.dT (putK kvs k z))) else On H3)
section
variable {X : Cx} {kx vx tg iter : Expr} {ifs : List Expr} {scope : Scope} {own : List (Str × Nat)} {pos : Pos} {wi : TI} {g : TG} {tt : TT} {tk tv : TE}
theorem pe_dcT (hr : X.A.units + 64 < cLine) (calm : X.calm = true) (hN : X.N.Nodup) (hi : PI X tg iter wi) (ok : BlkOk X.N X.env.scope scope own)
    (hg : ∀ (s : Shared) (H : Hp) (C : Addr) (cl : List (Str × Addr)) (fp : List Addr), PG (X.blk s H scope (compEnvC scope cl C X.env) fp) tg g)
    (ht : ∀ (s : Shared) (H : Hp) (C : Addr) (cl : List (Str × Addr)) (fp : List Addr), PTs (X.blk s H scope (compEnvC scope cl C X.env) fp) ifs tt)
    (hk : ∀ (s : Shared) (H : Hp) (C : Addr) (cl : List (Str × Addr)) (fp : List Addr), PE (X.blk s H scope (compEnvC scope cl C X.env) fp) kx tk)
    (hv : ∀ (s : Shared) (H : Hp) (C : Addr) (cl : List (Str × Addr)) (fp : List Addr), PE (X.blk s H scope (compEnvC scope cl C X.env) fp) vx tv)
    (hs : ∀ x, foldedSetIterable iter X.env x = pure x := by intro _; rfl) :
    PE X (.DictComp kx vx [⟨tg, iter, ifs, 0⟩] scope pos) (tDcT wi g tt tk tv (own.map (·.2))) := by
  refine ⟨fun pl s σ H Q I h => ?_⟩
  rw [arm_eval_DictComp]
  have frees : ∀ y ∈ scope.names, y.2 = .free → ∃ c, X.env.cells.lookup y.1 = some c := fun y hy e => by
    rcases ok.free y hy e with k | k
    · exact I.ok.has _ (.inl k)
    · exact I.ok.has _ (.inr k)
  refine wpAny_comprehension_free rfl hs (closure_ok frees) ok.kind (fun y hy e => by rw [ok.uniq y hy, e]) (thn (hi.run pl s σ H _ I h) fun _ sa ha => thn ha fun _ sb hb => ?_)
  obtain ⟨it, fp, tn, J, Hb, rfl, Ib, T, tb, okb, want⟩ := hb
  refine wpAny_newObj_type (newEnv_comp ?_)
  -- the new dict
  generalize eD : sb.heap.objs.size = D
  have freeD : Hb D = none := Ib.hok.fresh (Nat.le_of_eq eD)
  obtain ⟨W, ⟨m0, begins⟩, turn⟩ := want D freeD
  generalize esc : ({ sb with heap := sb.heap.push { cls := .type "dict", data := .dict #[] } } : Shared) = sc
  have hsc : sc.heap = sb.heap.push { cls := .type "dict", data := .dict #[] } := by rw [← esc]
  have Ic : Inv X pl σ (upd Hb D (.dT [])) sc := by
    rw [← esc]
    refine Ib.laid (t' := sb.toks) (fun b o e => Heap.get?_push_of_some _ e) (Nat.le_of_eq eD) ?_
    rw [← eD]
    exact dt_empty sb.heap Ib.big
  have old : ∀ b ∈ fp, b < sb.heap.objs.size := fun b hb => by
    obtain ⟨o, e, _⟩ := T.obj _ _ tb b hb
    exact Heap.lt_size e
  have okc : ∀ b ∈ fp, FpOk X pl (upd Hb D (.dT [])) b ∧ b < sc.heap.objs.size := fun b hb => by
    have lt := old b hb
    refine ⟨⟨?_, (okb b hb).2⟩, ?_⟩
    · rw [upd_ne (by rw [← eD]; exact Nat.ne_of_lt lt)]
      exact (okb b hb).1
    · rw [hsc, Heap.size_push]
      exact Nat.lt_succ_of_lt lt
  have tc : tn 0 sc.heap := T.keep _ _ _ tb fun b _ o e => by
    rw [hsc]
    exact Heap.get?_push_of_some _ e
  -- the block
  have Id := block_start Ic ok hN okc
  have g1 := hg sc (upd Hb D (.dT [])) sc.heap.objs.size (cellsFrom (sc.heap.objs.size + 1) scope.names (cloFrom X.env.cells scope.names [])) fp
  have g2 := ht sc (upd Hb D (.dT [])) sc.heap.objs.size (cellsFrom (sc.heap.objs.size + 1) scope.names (cloFrom X.env.cells scope.names [])) fp
  have g3 := hk sc (upd Hb D (.dT [])) sc.heap.objs.size (cellsFrom (sc.heap.objs.size + 1) scope.names (cloFrom X.env.cells scope.names [])) fp
  have g4 := hv sc (upd Hb D (.dT [])) sc.heap.objs.size (cellsFrom (sc.heap.objs.size + 1) scope.names (cloFrom X.env.cells scope.names [])) fp
  show codeAny _ _ (.compStart (.DictComp kx vx [⟨tg, iter, ifs, 0⟩] scope pos) 0 (.ref it) (.ref D) (compEnvC scope (cellsFrom (sc.heap.objs.size + 1) scope.names (cloFrom X.env.cells scope.names [])) sc.heap.objs.size X.env)) _
    { sc with heap := pushCells (sc.heap.push { cls := .type "dict", data := .dict #[] }) scope.names }
  have hid : ∀ b ∈ fp, (upd Hb D (.dT [])) b = none := fun b hb => (okc b hb).1.1
  generalize eenv : compEnvC scope (cellsFrom (sc.heap.objs.size + 1) scope.names (cloFrom X.env.cells scope.names [])) sc.heap.objs.size X.env = env at Id g1 g2 g3 g4 ⊢
  have eloc : env.locals = sc.heap.objs.size := by subst eenv; rfl
  generalize eHc : upd Hb D (.dT []) = Hc at Ic Id g1 g2 g3 g4 begins hid okc
  generalize esd : ({ sc with heap := pushCells (sc.heap.push { cls := .type "dict", data := .dict #[] }) scope.names } : Shared) = sd at Id ⊢
  have td : tn 0 sd.heap := T.keep _ _ _ tc fun b _ o e => by
    rw [← esd]
    exact pushCells_keeps _ _ _ _ (Heap.get?_push_of_some _ e)
  have fpOk : ∀ {σ' : St} {H' : Hp} {s' : Shared}, Inv (X.blk sc Hc scope env fp) [] σ' H' s' → (∀ b ∈ fp, H' b = none) → ∀ b ∈ fp, FpOk (X.blk sc Hc scope env fp) [] H' b := fun {σ' H' s'} I' free b hb => by
    refine ⟨free b hb, (I'.ok.exf b hb).1, I'.ok.exfs b hb, .inl hb, fun x c e => (I'.ok.exf b hb).2 x c e, fun p hp => ?_⟩
    exact absurd (show p ∈ ([] : List (Addr × Obj)) ++ [] from hp) (by simp)
  refine codeAny_compStart_dict ?lp (T.self X.A 0 _ _ _ td ?lp)
  refine compLoop_anyD (fun n s' => ∃ i H', Inv (X.blk sc Hc scope env fp) [] (wipe σ (own.map (·.2))) H' s' ∧ tn i s'.heap ∧ (∀ b ∈ fp, H' b = none) ∧ W i n H') ?_ m0 ⟨0, Hc, Id, td, hid, begins⟩
  rintro n se ⟨i, He, Ie, te, free, at_⟩
  rcases turn i n He at_ with ⟨stop, wish⟩ | ⟨goes, On, next, step⟩
  · refine thnF (T.done (X.blk sc Hc scope env fp) rfl rfl rfl calm i [] se _ He (fun _ _ => False) Ie (fpOk Ie free) te stop) fun r sf ⟨hr, If⟩ => ?_
    subst hr
    have back : Inv X pl σ He sf := Ic.call' (ch := fp) If.os If.base If.hok If.bare fun b hb => ⟨(okc b hb).1.2.2.2.1, (okc b hb).1.2.1, (okc b hb).1.2.2.2.2.1, (okc b hb).1.2.2.2.2.2⟩
    have noC : He sc.heap.objs.size = none := by
      have z : He env.locals = none := If.free
      rw [eloc] at z
      exact z
    obtain ⟨m, hn, _⟩ := If.loc
    have hn' : sf.heap.Ns env.locals m := hn
    rw [eloc] at hn'
    obtain ⟨f0, f1, f2, f3, f4, f5⟩ := Ic.fpOk (Nat.le_refl _) noC
    exact ⟨m, hn', fun h'' sb' => ⟨.ref D, He, back.turned (t' := sf.toks) (fun b o hb e => (sb'.2 b hb).trans e) f0 f1 f3 f4 f5, rfl, wish⟩⟩
  · refine thnF (T.item (X.blk sc Hc scope env fp) rfl rfl rfl calm i [] se _ He (fun _ _ => False) Ie (fpOk Ie free) te goes) fun r sf ⟨u, hr, hf⟩ => ?_
    subst hr
    refine thnF hf fun _ sg ⟨x, Hg, Ig, rg, yg, tg', freeg⟩ => ?_
    have pinned := Ig.pinned (fpOk Ig freeg) (T.obj _ _ tg')
    refine thnF (g1.run _ sg _ Hg x u _ pinned rg (step x Hg yg)) fun _ sh ⟨σh, Hh, Ih, wh, qh⟩ => ?_
    refine thnF (g2.run _ sh σh Hh _ Ih qh) fun b si ⟨Hi, Ii, qi⟩ => ?_
    have ends : ∀ {s' : Shared} {H' : Hp}, Inv (X.blk sc Hc scope env fp) ([] ++ pinsAt fp sg.heap) σh H' s' → On H' →
        ∃ m, m < n ∧ ∃ i H', Inv (X.blk sc Hc scope env fp) [] (wipe σ (own.map (·.2))) H' s' ∧ tn i s'.heap ∧ (∀ b ∈ fp, H' b = none) ∧ W i m H' := fun {s' H'} I' on => by
      obtain ⟨m', lt, at'⟩ := next H' on
      have kept : ∀ b ∈ fp, ∀ o, sg.heap.get? b = some o → s'.heap.get? b = some o ∧ H' b = none := fun b hb o e => by
        have z := I'.pin (b, o) (List.mem_append_right _ (List.mem_append_right _ (mem_pinsAt hb e)))
        exact ⟨z.1, z.2.1⟩
      have len : (wipe σ (own.map (·.2))).length = σh.length := by
        rw [← wh, wipe_length]
      refine ⟨m', lt, i + 1, H', (I'.unpinned (pins := [])).weak len (fun j y e => ?_), T.keep _ _ _ tg' fun b hb o e => (kept b hb o e).1, fun b hb => ?_, at'⟩
      · rw [← wh] at e
        exact (wipe_some e).1
      · obtain ⟨o, e, _⟩ := T.obj _ _ tg' b hb
        exact (kept b hb o e).2
    cases b with
    | false =>
      simp only [Bool.false_eq_true, if_false] at qi ⊢
      exact ends Ii qi
    | true =>
      simp only [if_true] at qi ⊢
      refine thnF (g3.run _ si σh Hi _ Ii qi) fun _ sj ⟨yk, Hj, Ij, rj, qj⟩ => ?_
      refine thnF (g4.run _ sj σh Hj _ Ij qj) fun _ sk ⟨yv, Hk, Ik, rk, kvs, k, t, ek, et, eDk, few, on⟩ => ?_
      subst ek
      exact dictSet_tup (X := X.blk sc Hc scope env fp) (by show X.A.units < cLine; omega) Ik eDk et few rj rk fun _ Il => ends Il on
end
end L2
namespace L2
open PySem PySem.Spec PyProof.Rows PySem.GX
theorem same_new {H : Hp} {p : Addr} {o : HO} (h : H p = none) : Same H (upd H p o) := fun b u e => by
  rw [upd_ne (ne_of_none e h)]
  exact e
theorem keep1 {H : Hp} {q t : Addr} {o u : HO} (e : H t = some u) (h : H q = none) : upd H q o t = some u := by
  rw [upd_ne (ne_of_none e h)]
  exact e
section
variable {J : It} {n : Nat} {G : Hp → Prop} {Y : Nat → Hp → V → Hp → Prop} {g : TG} {tt : TT} {te : TE} {vs : List Nat} {σ : St} {H1 : Hp} {D : Addr} {Qd : Hp → Prop}
theorem same_del {H H' : Hp} {p : Addr} (s : Same H H') : Same (del H p) (del H' p) := fun b o e => by
  by_cases hb : b = p
  · rw [hb, del_same] at e; cases e
  · rw [del_ne hb] at e ⊢
    exact s b o e
theorem del_upd (H : Hp) (p : Addr) (o : HO) : del (upd H p o) p = del H p := by
  funext b
  by_cases hb : b = p
  · rw [hb, del_same, del_same]
  · rw [del_ne hb, del_ne hb, upd_ne hb]
theorem del_none {H : Hp} {p : Addr} (h : H p = none) : del H p = H := by
  funext b
  by_cases hb : b = p
  · rw [hb, del_same, h]
  · rw [del_ne hb]
/-- what the turn asks of the new list -/
def lcK (I : List V → Hp → Prop) (H1 : Hp) (D : Addr) (Nx : Hp → Prop) (ys : List V) : Option V → Hp → Prop
  | some y, H4 => ∃ acc, H4 D = some (.lst acc) ∧ acc.length < sizeLine ∧ Nx (upd H4 D (.lst (acc ++ [y])))
  | none, H4 => Nx H4
/-- [e for x in .. if t]: I says of the items so far and of the other objects what stays true -/
theorem lcR (w : Walk J n G Y) (I : Nat → List V → Hp → Prop) (st : ∀ i ys H H', Same H H' → I i ys H → I i ys H') (i0 : I 0 [] H1) (hz : n ≤ 16000000) (hD : H1 D = none) (hY : ∀ i H x H', Y i H x H' → Same H H') (hG : ∀ H', Same H1 H' → G H')
    (turn : ∀ (i : Nat) (x : V) (ys : List V) (H' H'' : Hp) (k : Option V → Hp → Prop), i < n → Same H1 H' → H' D = some (.lst ys) → I i ys (del H' D) → Y i H' x H'' → (∀ y H4, Same H'' H4 → I (i + 1) (ys ++ [y]) (del H4 D) → k (some y) H4) →
      (∀ H4, Same H'' H4 → I (i + 1) ys (del H4 D) → k none H4) → g x (wipe σ vs) H'' fun σ2 H2 => wipe σ2 vs = wipe σ vs ∧ tt σ2 H2 fun b H3 => if b = true then te σ2 H3 fun y H4 => k (some y) H4 else k none H3)
    (hd : ∀ ys H', ys.length ≤ n → Same H1 H' → H' D = some (.lst ys) → I n ys (del H' D) → Qd H') :
    ∃ W : Nat → Nat → Hp → Prop, (∃ m, W 0 m (upd H1 D (.lst []))) ∧ ∀ i m H, W i m H →
      (J.stop i H ∧ Qd H) ∨ (J.go i H ∧ ∃ Nx : Hp → Prop, (∀ H', Nx H' → ∃ m', m' < m ∧ W (i + 1) m' H') ∧ ∀ x H', J.yld i H x H' → g x (wipe σ vs) H' fun σ2 H2 => wipe σ2 vs = wipe σ vs ∧ tt σ2 H2 fun b H3 =>
        if b = true then te σ2 H3 fun y H4 => ∃ acc, H4 D = some (.lst acc) ∧ acc.length < sizeLine ∧ Nx (upd H4 D (.lst (acc ++ [y]))) else Nx H3) := by
  refine lc_it w (fun i H' => ∃ ys : List V, ys.length ≤ i ∧ Same H1 H' ∧ H' D = some (.lst ys) ∧ I i ys (del H' D)) ⟨[], Nat.le_refl _, same_new hD, upd_same, by rw [del_upd, del_none hD]; exact i0⟩ (fun i H' _ ⟨_, _, s, _⟩ => hG H' s) (fun i x H' H'' hi h hy => ?_) (fun H' ⟨ys, l, s, e, h⟩ => hd ys H' l s e h)
  obtain ⟨ys, l, s, e, h⟩ := h
  have sy := hY _ _ _ _ hy
  refine turn i x ys H' H'' (lcK (I i) H1 D _ ys) hi s e h hy (fun y H4 s4 h4 => ?_) (fun H4 s4 h4 => ?_)
  · have e4 := s4 _ _ (sy _ _ e)
    refine ⟨_, e4, by rw [sizeLine_eq]; omega, _, ?_, fun b o z => ?_, upd_same, by rw [del_upd]; exact h4⟩
    · rw [List.length_append]; simp; omega
    · rw [upd_ne (ne_of_none z hD)]
      exact s4 _ _ (sy _ _ (s b o z))
  · exact ⟨ys, by omega, (s.trans sy).trans s4, s4 _ _ (sy _ _ e), h4⟩
/-- [e for x in .. if t]: the i-th item is taken (as f i says) or not; what was tracked stays -/
theorem lcS (w : Walk J n G Y) (f : Nat → Option V) (hz : n ≤ 16000000) (hD : H1 D = none) (hY : ∀ i H x H', Y i H x H' → Same H H') (hG : ∀ H', Same H1 H' → G H')
    (turn : ∀ (i : Nat) (x : V) (H' H'' : Hp) (k : Option V → Hp → Prop), i < n → Same H1 H' → Y i H' x H'' → (∀ H4, Same H'' H4 → k (f i) H4) →
      g x (wipe σ vs) H'' fun σ2 H2 => wipe σ2 vs = wipe σ vs ∧ tt σ2 H2 fun b H3 => if b = true then te σ2 H3 fun y H4 => k (some y) H4 else k none H3)
    (hd : ∀ H', Same H1 H' → H' D = some (.lst ((List.range n).filterMap f)) → Qd H') :
    ∃ W : Nat → Nat → Hp → Prop, (∃ m, W 0 m (upd H1 D (.lst []))) ∧ ∀ i m H, W i m H →
      (J.stop i H ∧ Qd H) ∨ (J.go i H ∧ ∃ Nx : Hp → Prop, (∀ H', Nx H' → ∃ m', m' < m ∧ W (i + 1) m' H') ∧ ∀ x H', J.yld i H x H' → g x (wipe σ vs) H' fun σ2 H2 => wipe σ2 vs = wipe σ vs ∧ tt σ2 H2 fun b H3 =>
        if b = true then te σ2 H3 fun y H4 => ∃ acc, H4 D = some (.lst acc) ∧ acc.length < sizeLine ∧ Nx (upd H4 D (.lst (acc ++ [y]))) else Nx H3) := by
  refine lcR w (fun i ys _ => ys = (List.range i).filterMap f) (fun _ _ _ _ _ h => h) rfl hz hD hY hG (fun i x ys H' H'' k hi s e h hy k1 k2 => ?_) (fun ys H' _ s e h => hd H' s (by rw [e, h]))
  refine turn i x H' H'' k hi s hy fun H4 s4 => ?_
  cases ef : f i with
  | some y =>
    refine k1 y H4 s4 ?_
    rw [h, List.range_succ, List.filterMap_append]
    simp [ef]
  | none =>
    refine k2 H4 s4 ?_
    rw [h, List.range_succ, List.filterMap_append]
    simp [ef]
end
section
variable {X : Cx} {o : Expr} {to : TE} {f : Str} {pos : Pos}
/-- the target o.f of an own instance -/
def gFld (K : PySem.W.Frag) (to : TE) (f : Str) : TG := fun v σ H Q => to σ H fun x H1 => ∃ (p C dx : Addr) (fs : List (Str × V)), x = .ref p ∧ H1 p = some (.ins C dx fs) ∧ Cls K C ∧ NoAttr K C f ∧ fs.length < 1000 ∧ Q σ (upd H1 p (.ins C dx (putF f v fs)))
theorem pg_fld (ho : PE X o to) : PG X (.Attribute o f pos) (gFld X.K to f) := by
  refine ⟨fun pl s σ H v u Q I r h => ?_⟩
  rw [arm_assign_Attribute]
  refine wpAny_bind (wpAny_holding (thn (ho.run pl s σ H _ I h) fun ov s1 ⟨x, H1, I1, r1, p, C, dx, fs, ex, ep, c, n, l, q⟩ => ?_))
  subst ex
  obtain rfl : ov = Value.ref p := r1
  refine wpAny_bind (wpAny_standAt (wpAny_bind (wpAny_holding (setattr_ok I1 ep c n l r fun s3 I3 => ?_))))
  exact wpAny_release ⟨σ, _, I3, q⟩
end
end L2
namespace L2
open PySem PySem.Spec PyProof.Rows PySem.GX
theorem range_fm {α β : Type} (g : α → Option β) : ∀ xs : List α, (List.range xs.length).filterMap (fun i => xs[i]?.bind g) = xs.filterMap g := by
  intro xs
  have e : (List.range xs.length).filterMap (fun i => xs[i]?) = xs := by
    induction xs with
    | nil => rfl
    | cons a t ih =>
      rw [List.length_cons, List.range_succ_eq_map, List.filterMap_cons, List.filterMap_map]
      simp only [List.getElem?_cons_zero]
      congr 1
  conv => rhs; rw [← e, List.filterMap_filterMap]
section
variable {α : Type} {J : It} {G : Hp → Prop} {Y : Nat → Hp → V → Hp → Prop} {g : TG} {tt : TT} {te tk tv : TE} {vs : List Nat} {σ : St} {H1 : Hp} {D : Addr} {Qd : Hp → Prop}
/-- [e for x in .. if t] over things that stand for the items of xs -/
theorem lcG (xs : List α) (f : α → Option V) (w : Walk J xs.length G Y) (hz : xs.length ≤ 16000000) (hD : H1 D = none) (hY : ∀ i H x H', Y i H x H' → Same H H') (hG : ∀ H', Same H1 H' → G H')
    (turn : ∀ (i : Nat) (a : α) (x : V) (H' H'' : Hp) (k : Option V → Hp → Prop), xs[i]? = some a → Same H1 H' → Y i H' x H'' → (∀ H4, Same H'' H4 → k (f a) H4) →
      g x (wipe σ vs) H'' fun σ2 H2 => wipe σ2 vs = wipe σ vs ∧ tt σ2 H2 fun b H3 => if b = true then te σ2 H3 fun y H4 => k (some y) H4 else k none H3)
    (hd : ∀ H', Same H1 H' → H' D = some (.lst (xs.filterMap f)) → Qd H') :
    ∃ W : Nat → Nat → Hp → Prop, (∃ m, W 0 m (upd H1 D (.lst []))) ∧ ∀ i m H, W i m H →
      (J.stop i H ∧ Qd H) ∨ (J.go i H ∧ ∃ Nx : Hp → Prop, (∀ H', Nx H' → ∃ m', m' < m ∧ W (i + 1) m' H') ∧ ∀ x H', J.yld i H x H' → g x (wipe σ vs) H' fun σ2 H2 => wipe σ2 vs = wipe σ vs ∧ tt σ2 H2 fun b H3 =>
        if b = true then te σ2 H3 fun y H4 => ∃ acc, H4 D = some (.lst acc) ∧ acc.length < sizeLine ∧ Nx (upd H4 D (.lst (acc ++ [y]))) else Nx H3) := by
  refine lcS w (fun i => xs[i]?.bind f) hz hD hY hG (fun i x H' H'' k hi s hy k1 => ?_) (fun H' s e => hd H' s (by rw [e, range_fm]))
  have ei : xs[i]? = some xs[i] := List.getElem?_eq_getElem hi
  refine turn i xs[i] x H' H'' k ei s hy fun H4 s4 => ?_
  have := k1 H4 s4
  rw [ei] at this
  exact this
/-- the generic walk of a dict comprehension, of either sort -/
theorem dc_it {n : Nat} (w : Walk J n G Y) {nx : Nat → Hp → Prop} {body : Nat → V → Hp → (Hp → Prop) → Prop} (h0 : nx 0 H1) (hG : ∀ i H, i ≤ n → nx i H → G H)
    (hs : ∀ i x H H', i < n → nx i H → Y i H x H' → body i x H' (nx (i + 1))) (hd : ∀ H, nx n H → Qd H) :
    ∃ W : Nat → Nat → Hp → Prop, (∃ m, W 0 m H1) ∧ ∀ i m H, W i m H →
      (J.stop i H ∧ Qd H) ∨ (J.go i H ∧ ∃ Nx : Hp → Prop, (∀ H', Nx H' → ∃ m', m' < m ∧ W (i + 1) m' H') ∧ ∀ x H', J.yld i H x H' → body i x H' Nx) := by
  refine ⟨fun i m H => m = n - i ∧ i ≤ n ∧ nx i H, ⟨n, by simp, Nat.zero_le _, h0⟩, ?_⟩
  rintro i m H ⟨rfl, hi, p⟩
  have q := hG i H hi p
  by_cases hlt : i < n
  · exact .inr ⟨w.goes i H hlt q, nx (i + 1), fun H' p' => ⟨n - (i + 1), by omega, rfl, hlt, p'⟩, fun x H' y => hs i x H H' hlt p (w.yields i H x H' hlt q y)⟩
  · have e : i = n := by omega
    subst e
    exact .inl ⟨w.stops H q, hd H p⟩
end
section
variable {α κ : Type} [DecidableEq κ]
/-- the entries of {key a: val a for a in xs} -/
def dOf (key : α → κ) (val : α → V) (xs : List α) : List (κ × V) := xs.foldl (fun kvs a => putK kvs (key a) (val a)) []
theorem dOf_snoc (key : α → κ) (val : α → V) (xs : List α) (a : α) : dOf key val (xs ++ [a]) = putK (dOf key val xs) (key a) (val a) := by
  unfold dOf
  rw [List.foldl_append]
  rfl
theorem dOf_take {key : α → κ} {val : α → V} {xs : List α} {i : Nat} {a : α} (h : xs[i]? = some a) : dOf key val (xs.take (i + 1)) = putK (dOf key val (xs.take i)) (key a) (val a) := by
  rw [List.take_add_one, h]
  exact dOf_snoc _ _ _ _
theorem dOf_len (key : α → κ) (val : α → V) (xs : List α) : (dOf key val xs).length ≤ xs.length := by
  suffices h : ∀ (ys : List α) (kvs : List (κ × V)), (ys.foldl (fun kvs a => putK kvs (key a) (val a)) kvs).length ≤ kvs.length + ys.length by
    have := h xs []
    simpa [dOf] using this
  intro ys
  induction ys with
  | nil => intro kvs; simp
  | cons a t ih =>
    intro kvs
    have h1 := ih (putK kvs (key a) (val a))
    have h2 := length_putK kvs (key a) (val a)
    rw [List.foldl_cons, List.length_cons]
    omega
theorem dOf_val (key : α → κ) (val : α → V) : ∀ (xs : List α) (k : κ), (valV (dOf key val xs) k).isSome = decide (k ∈ xs.map key) := by
  suffices h : ∀ (n : Nat) (xs : List α) (k : κ), xs.length = n → (valV (dOf key val xs) k).isSome = decide (k ∈ xs.map key) from fun xs k => h _ xs k rfl
  intro n
  induction n with
  | zero =>
    intro xs k h
    have : xs = [] := List.eq_nil_of_length_eq_zero h
    subst this
    rfl
  | succ n ih =>
    intro xs k h
    have hne : xs ≠ [] := by intro z; subst z; cases h
    obtain ⟨ys, a, rfl⟩ : ∃ ys a, xs = ys ++ [a] := ⟨xs.dropLast, xs.getLast hne, (List.dropLast_concat_getLast hne).symm⟩
    have hl : ys.length = n := by rw [List.length_append] at h; simpa using h
    rw [dOf_snoc, valV_put]
    by_cases e : k = key a
    · rw [if_pos e, e]; simp
    · rw [if_neg e, ih ys k hl, List.map_append]
      simp [e]
/-- keys that differ: the entries stand as they come -/
theorem dOf_nodup (key : α → κ) (val : α → V) : ∀ (xs : List α), (xs.map key).Nodup → dOf key val xs = xs.map fun a => (key a, val a) := by
  suffices h : ∀ (n : Nat) (xs : List α), xs.length = n → (xs.map key).Nodup → dOf key val xs = xs.map fun a => (key a, val a) from fun xs => h _ xs rfl
  intro n
  induction n with
  | zero =>
    intro xs h _
    have : xs = [] := List.eq_nil_of_length_eq_zero h
    subst this
    rfl
  | succ n ih =>
    intro xs h nd
    have hne : xs ≠ [] := by intro z; subst z; cases h
    obtain ⟨ys, a, rfl⟩ : ∃ ys a, xs = ys ++ [a] := ⟨xs.dropLast, xs.getLast hne, (List.dropLast_concat_getLast hne).symm⟩
    have hl : ys.length = n := by rw [List.length_append] at h; simpa using h
    rw [List.map_append, List.nodup_append] at nd
    have hn : valV (dOf key val ys) (key a) = none := by
      have := dOf_val key val ys (key a)
      rw [decide_eq_false (fun z => nd.2.2 _ z (key a) (by simp) rfl)] at this
      exact Option.isNone_iff_eq_none.mp (by simpa using this)
    rw [dOf_snoc, putK_new _ hn, ih ys hl nd.1, List.map_append]
    rfl
end
section
variable {α : Type} {J : It} {G : Hp → Prop} {Y : Nat → Hp → V → Hp → Prop} {g : TG} {tt : TT} {tk tv : TE} {vs : List Nat} {σ : St} {H1 : Hp} {D : Addr} {Qd : Hp → Prop}
/-- {k: v for x in ..}, keys ints or texts -/
theorem dcG (xs : List α) (key : α → Key) (val : α → V) (w : Walk J xs.length G Y) (hz : xs.length ≤ 16000000) (hD : H1 D = none) (hY : ∀ i H x H', Y i H x H' → Same H H') (hG : ∀ H', Same H1 H' → G H')
    (turn : ∀ (i : Nat) (a : α) (x : V) (H' H'' : Hp) (k : V → V → Hp → Prop) (k0 : Hp → Prop), xs[i]? = some a → Same H1 H' → Y i H' x H'' → (∀ H4, Same H'' H4 → k (kV (key a)) (val a) H4) →
      g x (wipe σ vs) H'' fun σ2 H2 => wipe σ2 vs = wipe σ vs ∧ tt σ2 H2 fun b H3 => if b = true then tk σ2 H3 fun y H4 => tv σ2 H4 fun z H5 => k y z H5 else k0 H3)
    (hd : ∀ H', Same H1 H' → H' D = some (.dK (dOf key val xs)) → Qd H') :
    ∃ W : Nat → Nat → Hp → Prop, (∃ m, W 0 m (upd H1 D (.dK []))) ∧ ∀ i m H, W i m H →
      (J.stop i H ∧ Qd H) ∨ (J.go i H ∧ ∃ Nx : Hp → Prop, (∀ H', Nx H' → ∃ m', m' < m ∧ W (i + 1) m' H') ∧ ∀ x H', J.yld i H x H' → g x (wipe σ vs) H' fun σ2 H2 => wipe σ2 vs = wipe σ vs ∧ tt σ2 H2 fun b H3 =>
        if b = true then tk σ2 H3 fun y H4 => tv σ2 H4 fun z H5 => ∃ kvs k, y = kV k ∧ H5 D = some (.dK kvs) ∧ kvs.length < sizeLine ∧ Nx (upd H5 D (.dK (putK kvs k z))) else Nx H3) := by
  refine dc_it w (nx := fun i H' => Same H1 H' ∧ H' D = some (.dK (dOf key val (xs.take i)))) (body := fun i x H' Nx => g x (wipe σ vs) H' fun σ2 H2 => wipe σ2 vs = wipe σ vs ∧ tt σ2 H2 fun b H3 =>
        if b = true then tk σ2 H3 fun y H4 => tv σ2 H4 fun z H5 => ∃ kvs k, y = kV k ∧ H5 D = some (.dK kvs) ∧ kvs.length < sizeLine ∧ Nx (upd H5 D (.dK (putK kvs k z))) else Nx H3)
    ⟨same_new hD, upd_same⟩ (fun i H _ h => hG H h.1) (fun i x H H' hi h hy => ?_) (fun H h => hd H h.1 (by rw [h.2, List.take_length]))
  have ei : xs[i]? = some xs[i] := List.getElem?_eq_getElem hi
  have sy := hY _ _ _ _ hy
  refine turn i xs[i] x H H' (fun y z H5 => ∃ kvs k, y = kV k ∧ H5 D = some (.dK kvs) ∧ kvs.length < sizeLine ∧ _) _ ei h.1 hy fun H4 s4 => ⟨_, _, rfl, s4 _ _ (sy _ _ h.2), ?_, fun b o z => ?_, ?_⟩
  · have := dOf_len key val (xs.take i)
    rw [List.length_take] at this
    rw [sizeLine_eq]
    omega
  · rw [upd_ne (ne_of_none z hD)]
    exact s4 _ _ (sy _ _ (h.1 b o z))
  · rw [upd_same, dOf_take ei]
/-- {(..): v for x in ..}, keys tuples -/
theorem dcGT (xs : List α) (key : α → List Key) (val : α → V) (w : Walk J xs.length G Y) (hz : xs.length ≤ 16000000) (hD : H1 D = none) (hY : ∀ i H x H', Y i H x H' → Same H H') (hG : ∀ H', Same H1 H' → G H')
    (turn : ∀ (i : Nat) (a : α) (x : V) (H' H'' : Hp) (k : V → V → Hp → Prop) (k0 : Hp → Prop), xs[i]? = some a → Same H1 H' → Y i H' x H'' → (∀ t H4, Same H'' H4 → H4 t = some (.tup ((key a).map kV)) → k (.ref t) (val a) H4) →
      g x (wipe σ vs) H'' fun σ2 H2 => wipe σ2 vs = wipe σ vs ∧ tt σ2 H2 fun b H3 => if b = true then tk σ2 H3 fun y H4 => tv σ2 H4 fun z H5 => k y z H5 else k0 H3)
    (hd : ∀ H', Same H1 H' → H' D = some (.dT (dOf key val xs)) → Qd H') :
    ∃ W : Nat → Nat → Hp → Prop, (∃ m, W 0 m (upd H1 D (.dT []))) ∧ ∀ i m H, W i m H →
      (J.stop i H ∧ Qd H) ∨ (J.go i H ∧ ∃ Nx : Hp → Prop, (∀ H', Nx H' → ∃ m', m' < m ∧ W (i + 1) m' H') ∧ ∀ x H', J.yld i H x H' → g x (wipe σ vs) H' fun σ2 H2 => wipe σ2 vs = wipe σ vs ∧ tt σ2 H2 fun b H3 =>
        if b = true then tk σ2 H3 fun y H4 => tv σ2 H4 fun z H5 => ∃ kvs k t, y = .ref t ∧ H5 t = some (.tup (k.map kV)) ∧ H5 D = some (.dT kvs) ∧ kvs.length < sizeLine ∧ Nx (upd H5 D (.dT (putK kvs k z))) else Nx H3) := by
  refine dc_it w (nx := fun i H' => Same H1 H' ∧ H' D = some (.dT (dOf key val (xs.take i)))) (body := fun i x H' Nx => g x (wipe σ vs) H' fun σ2 H2 => wipe σ2 vs = wipe σ vs ∧ tt σ2 H2 fun b H3 =>
        if b = true then tk σ2 H3 fun y H4 => tv σ2 H4 fun z H5 => ∃ kvs k t, y = .ref t ∧ H5 t = some (.tup (k.map kV)) ∧ H5 D = some (.dT kvs) ∧ kvs.length < sizeLine ∧ Nx (upd H5 D (.dT (putK kvs k z))) else Nx H3)
    ⟨same_new hD, upd_same⟩ (fun i H _ h => hG H h.1) (fun i x H H' hi h hy => ?_) (fun H h => hd H h.1 (by rw [h.2, List.take_length]))
  have ei : xs[i]? = some xs[i] := List.getElem?_eq_getElem hi
  have sy := hY _ _ _ _ hy
  refine turn i xs[i] x H H' (fun y z H5 => ∃ (kvs : List (List Key × V)) (k : List Key) (t : Addr), y = .ref t ∧ H5 t = some (.tup (k.map kV)) ∧ H5 D = some (.dT kvs) ∧ kvs.length < sizeLine ∧ _) _ ei h.1 hy fun t H4 s4 et => ⟨_, _, t, rfl, et, s4 _ _ (sy _ _ h.2), ?_, fun b o z => ?_, ?_⟩
  · have := dOf_len key val (xs.take i)
    rw [List.length_take] at this
    rw [sizeLine_eq]
    omega
  · rw [upd_ne (ne_of_none z hD)]
    exact s4 _ _ (sy _ _ (h.1 b o z))
  · rw [upd_same, dOf_take ei]
end
/-! lists of texts, lists of lists of texts, as data -/
abbrev dTx (ws : List Str) : PyData := .list (ws.map .str)
abbrev dTab (rs : List (List Str)) : PyData := .list (rs.map dTx)
theorem eqv_strs : ∀ a b : List Str, PyData.eqvAll (a.map .str) (b.map .str) = decide (a = b)
  | [], [] => rfl
  | [], _ :: _ => rfl
  | _ :: _, [] => rfl
  | x :: xs, y :: ys => by
    show (PyData.eqv (.str x) (.str y) && PyData.eqvAll (xs.map .str) (ys.map .str)) = _
    rw [eqv_strs xs ys]
    show ((x == y) && _) = _
    by_cases h : x = y
    · subst h; simp
    · simp [h]
theorem eqv_dTx (a b : List Str) : PyData.eqv (dTx a) (dTx b) = decide (a = b) := eqv_strs a b
theorem eqv_tabs : ∀ a b : List (List Str), PyData.eqvAll (a.map dTx) (b.map dTx) = decide (a = b)
  | [], [] => rfl
  | [], _ :: _ => rfl
  | _ :: _, [] => rfl
  | x :: xs, y :: ys => by
    show (PyData.eqv (dTx x) (dTx y) && PyData.eqvAll (xs.map dTx) (ys.map dTx)) = _
    rw [eqv_tabs xs ys, eqv_dTx]
    by_cases h : x = y
    · subst h; simp
    · simp [h]
theorem eqv_dTab (a b : List (List Str)) : PyData.eqv (dTab a) (dTab b) = decide (a = b) := eqv_tabs a b
theorem lay_strs : ∀ {a : List Str}, (∀ x ∈ a, PyData.strOk x = true) → PyData.canLayAll0 (a.map .str) = true ∧ PyData.depthAll (a.map .str) = 0
  | [], _ => ⟨rfl, rfl⟩
  | x :: xs, h => by
    have ih := lay_strs (a := xs) fun y hy => h y (List.mem_cons_of_mem _ hy)
    refine ⟨?_, ?_⟩
    · show (PyData.strOk x && PyData.canLayAll0 (xs.map .str)) = true
      rw [h x (List.mem_cons_self ..), ih.1]
      rfl
    · show max 0 (PyData.depthAll (xs.map .str)) = 0
      rw [ih.2]
      rfl
theorem shaped_dTx {a : List Str} (h : ∀ x ∈ a, PyData.strOk x = true) : SeqAt.shaped (dTx a) = true := by
  have l := lay_strs h
  have d1 : (dTx a).canLay0 = true := l.1
  have d2 : (dTx a).depth = 1 := by
    show PyData.depthAll _ + 1 = 1
    rw [l.2]
  unfold SeqAt.shaped
  rw [d1, d2]
  rfl
theorem lay_tabs : ∀ {a : List (List Str)}, (∀ r ∈ a, ∀ x ∈ r, PyData.strOk x = true) → PyData.canLayAll0 (a.map dTx) = true ∧ PyData.depthAll (a.map dTx) ≤ 1
  | [], _ => ⟨rfl, Nat.zero_le _⟩
  | r :: rs, h => by
    have ih := lay_tabs (a := rs) fun y hy => h y (List.mem_cons_of_mem _ hy)
    have l := lay_strs (h r (List.mem_cons_self ..))
    refine ⟨?_, ?_⟩
    · show (PyData.canLayAll0 (r.map .str) && PyData.canLayAll0 (rs.map dTx)) = true
      rw [l.1, ih.1]
      rfl
    · show max (PyData.depthAll (r.map .str) + 1) (PyData.depthAll (rs.map dTx)) ≤ 1
      rw [l.2]
      have := ih.2
      omega
theorem shaped_dTab {a : List (List Str)} (h : ∀ r ∈ a, ∀ x ∈ r, PyData.strOk x = true) : SeqAt.shaped (dTab a) = true := by
  have l := lay_tabs h
  have d1 : (dTab a).canLay0 = true := l.1
  have d2 : (dTab a).depth ≤ 2 := by
    show PyData.depthAll _ + 1 ≤ 2
    have := l.2
    omega
  unfold SeqAt.shaped
  rw [d1]
  simp
  omega
theorem dpStrs {K : PySem.W.Frag} {H : Hp} : ∀ ws : List Str, DpAll K H (ws.map V.str) (ws.map PyData.str)
  | [] => .nil
  | x :: xs => .cons (.str x) (dpStrs xs)
theorem dp_dTx {K : PySem.W.Frag} {H : Hp} {p : Addr} {ws : List Str} (h : H p = some (.lst (ws.map V.str))) : Dp K H (.ref p) (dTx ws) := .lst (SqL.of h) (dpStrs ws)
/-- the lists at as hold the rows -/
inductive Rw (H : Hp) : List Addr → List (List Str) → Prop
  | nil : Rw H [] []
  | cons {a : Addr} {r : List Str} {as : List Addr} {rs : List (List Str)} : H a = some (.lst (r.map V.str)) → Rw H as rs → Rw H (a :: as) (r :: rs)
theorem Rw.same {H H' : Hp} (s : Same H H') : ∀ {as : List Addr} {rs : List (List Str)}, Rw H as rs → Rw H' as rs
  | _, _, .nil => .nil
  | _, _, .cons e t => .cons (s _ _ e) (Rw.same s t)
theorem Rw.len {H : Hp} : ∀ {as : List Addr} {rs : List (List Str)}, Rw H as rs → as.length = rs.length
  | _, _, .nil => rfl
  | _, _, .cons _ t => by simp [Rw.len t]
theorem Rw.snoc {H : Hp} {a : Addr} {r : List Str} (e : H a = some (.lst (r.map V.str))) : ∀ {as : List Addr} {rs : List (List Str)}, Rw H as rs → Rw H (as ++ [a]) (rs ++ [r])
  | _, _, .nil => .cons e .nil
  | _, _, .cons e1 t => .cons e1 (Rw.snoc e t)
theorem Rw.get {H : Hp} : ∀ {as : List Addr} {rs : List (List Str)} {i : Nat} {a : Addr} {r : List Str}, Rw H as rs → as[i]? = some a → rs[i]? = some r → H a = some (.lst (r.map V.str))
  | _, _, _, _, _, .nil, e, _ => by simp at e
  | _, _, 0, _, _, .cons e _, e1, e2 => by simp at e1 e2; subst e1; subst e2; exact e
  | _, _, i + 1, a, r, .cons _ t, e1, e2 => Rw.get (i := i) t (by simpa using e1) (by simpa using e2)
theorem Rw.drop {H : Hp} : ∀ {as : List Addr} {rs : List (List Str)} (n : Nat), Rw H as rs → Rw H (as.drop n) (rs.drop n)
  | _, _, 0, t => t
  | _, _, _ + 1, .nil => .nil
  | _, _, n + 1, .cons _ t => Rw.drop n t
theorem Rw.take {H : Hp} : ∀ {as : List Addr} {rs : List (List Str)} (n : Nat), Rw H as rs → Rw H (as.take n) (rs.take n)
  | _, _, 0, _ => .nil
  | _, _, _ + 1, .nil => .nil
  | _, _, n + 1, .cons e t => .cons e (Rw.take n t)
theorem dpTabs {K : PySem.W.Frag} {H : Hp} : ∀ {as : List Addr} {rs : List (List Str)}, Rw H as rs → DpAll K H (as.map V.ref) (rs.map dTx)
  | _, _, .nil => .nil
  | _, _, .cons e t => .cons (dp_dTx e) (dpTabs t)
theorem dp_dTab {K : PySem.W.Frag} {H : Hp} {p : Addr} {as : List Addr} {rs : List (List Str)} (h : H p = some (.lst (as.map V.ref))) (t : Rw H as rs) : Dp K H (.ref p) (dTab rs) := .lst (SqL.of h) (dpTabs t)
end L2

namespace My
open PySem PySem.Spec PyProof.Rows L2
/-- the def x is there, and keeps the promise -/
structure Hv (P : Program) (w : World) (K : PySem.W.Frag) (mg : Str → Option Value) (base : Heap) (k : Nat) (x : Str) (ps : List Str) (sp : Sp) : Prop where
  ex : ∃ (f : Addr) (fd : FuncData), FnOk P w K mg base CX0 k f fd ps sp ∧ Binds K fd ps [] ∧ mg x = some (.ref f) ∧ PySem.W.keepIn K (.ref f) = true
theorem pe_cl {X : Cx} {k : Nat} {x : Str} {ps : List Str} {sp : Sp} {p pos : Pos} {e : Expr} {es : List Expr} {t : TA} {E : XK} (h : Hv X.prog X.w X.K X.mg X.base k x ps sp) (hr : Room k X.A) (hg : Gl X x) (hx : Passes CX0 X E) (ha : PA X (e :: es) t)
    (hdb : (x == ("__debug__" : Str)) = false := by decide) (he : starEach (e :: es) X.env = (false, eval e X.env) :: starEach es X.env := by rfl) (hpl : (backTo pos (starEach es X.env)).any (·.1) = false := by rfl) :
    PE X (.Call (.Name x p) (e :: es) [] pos) (tCall sp [] E t) := by
  obtain ⟨f, fd, F, b, g, kp⟩ := h.ex
  exact pe_call F hr hg g kp b .nil hx ha hdb he hpl
abbrev abc : Str := "abcdefghijklmnopqrstuvwxyz"
def madeL (x y : Str) : Bool := (x.cps.toList.map fun c => decide (c ∈ y.cps.toList)).all id
def spMade : Sp := fun vs H Q _ => ∃ x y : Str, vs = [.str x, .str y] ∧ x.length ≤ 16000000 ∧ ∀ H', Same H H' → Q (.bl (madeL x y)) H'
section
variable {P : Program} {w : World} {K : PySem.W.Frag} {mg : Str → Option Value} {base : Heap}
theorem scMade : FnScope ["text", "letters", "letter"] ["text", "letters"] (defScope sMade) := ⟨rfl, rfl, rfl, by decide +kernel, rfl, by decide +kernel, by decide +kernel⟩
theorem ok_made {f : Addr} {fd : FuncData} (F : Fun K "made_of" "made_of" sMade f fd) (hA : mg "all" = none) : FnOk P w K mg base CX0 1 f fd ["text", "letters"] spMade := by
  refine F.ok scMade (fun vs H Q E h => ?_) (fun cdv A outer s H vs Q E hr h => ?_)
  · obtain ⟨x, y, rfl, _⟩ := h
    rfl
  · obtain ⟨x, y, rfl, hx, k⟩ := h
    refine ⟨_, pss_one (ps_ret (pe_callB (cr_all rfl) (by rfl) hA (by decide +kernel) (pa_cons (pe_lc (own := [("letter", 2)]) (g := gName 2) (tt := tYes) rfl scMade.nd (pi_str (pv 0))
      (blkOk_by (N := ["text", "letters", "letter"]) (sc := defScope sMade) (by decide +kernel)) (fun _ _ _ _ _ => pg_name (i := 2) scMade.nd rfl (Or.inl rfl)) (fun _ _ _ _ _ => pts_nil) (fun _ _ _ _ _ => pe_cmpR op_in_sign (pv 2) (pv 1) (by rfl))) pa_nil))), ?_⟩
    refine ⟨_, rfl, x, rfl, fun D hD => ?_⟩
    refine lcG (x.cps.toList) (fun c => some (.bl (decide (c ∈ y.cps.toList)))) (by rw [Array.length_toList]; exact walk_str) (by rw [Array.length_toList]; exact hx) hD (fun i H x H' h => by rw [h.1]; exact Same.refl _) (fun _ _ => trivial) (fun i c z H' H'' k1 hc _ hy k2 => ?_) (fun H' s' e => ?_)
    · obtain ⟨rfl, c', hc', rfl⟩ := hy
      rw [← Array.getElem?_toList, hc] at hc'
      cases hc'
      exact ⟨rfl, _, rfl, _, rfl, c, _, rfl, rfl, k2 _ (Same.refl _)⟩
    · refine ⟨D, x.cps.toList.map fun c => decide (c ∈ y.cps.toList), rfl, SqL.of ?_, k _ s'⟩
      rw [e, List.filterMap_eq_map', List.map_map]
      rfl
end
end My
namespace My
open PySem PySem.Spec PyProof.Rows L2
/-! what the program says of texts, as plain functions -/
def isWordL (x : Str) : Bool := decide (1 ≤ x.length) && decide (x.length ≤ 8) && madeL x abc
def spWord : Sp := fun vs H Q _ => ∃ x : Str, vs = [.str x] ∧ x.length ≤ 16000000 ∧ ∀ H', Same H H' → Q (.bl (isWordL x)) H'
section
variable {P : Program} {w : World} {K : PySem.W.Frag} {mg : Str → Option Value} {base : Heap}
theorem scWord : FnScope ["text"] ["text"] (defScope sWord) := ⟨rfl, rfl, rfl, by decide +kernel, rfl, by decide +kernel, by decide +kernel⟩
theorem ok_word {f : Addr} {fd : FuncData} {tA tB : Tok} (F : Fun K "is_word" "is_word" sWord f fd) (hO : Hv P w K mg base 1 "made_of" ["text", "letters"] spMade) (hL : mg "len" = none) (gL : mg "LONGEST_WORD" = some (.int 8 tA)) (gA : mg "LETTERS" = some (.str abc tB)) : FnOk P w K mg base CX0 2 f fd ["text"] spWord := by
  refine F.ok scWord (fun vs H Q E h => ?_) (fun cdv A outer s H vs Q E hr h => ?_)
  · obtain ⟨x, rfl, _⟩ := h
    rfl
  · obtain ⟨x, rfl, hx, k⟩ := h
    refine ⟨_, pss_one (ps_ret (pe_and (pe_chain op_le op_le pe_int (pe_callB call_len_str (by rfl) hL PySem.boot_len (pa_cons (pv 0) pa_nil)) (pe_glob (v := .int 8) rfl gL ⟨_, rfl⟩)) (pe_one (pe_cl hO hr rfl pass0 (pa_cons (pv 0) (pa_cons (pe_glob (v := .str abc) rfl gA ⟨_, rfl⟩) pa_nil)))))), ?_⟩
    refine ⟨_, rfl, x, rfl, (by rw [sizeLine_eq]; omega), _, _, rfl, rfl, _, rfl, ?_⟩
    refine ite2 (fun c1 => ?_) (fun c1 => ?_)
    · refine ⟨_, _, rfl, rfl, _, rfl, ite2 (fun c2 => ⟨_, rfl, x, abc, rfl, hx, fun H' s => ?_⟩) (fun c2 => ?_)⟩
      · have e : isWordL x = madeL x abc := by
          have h1 := of_decide_eq_true c1
          have h2 := of_decide_eq_true c2
          unfold isWordL
          rw [decide_eq_true (by omega), decide_eq_true (by omega)]
          simp
        rw [← e]
        exact k _ s
      · have e : isWordL x = false := by
          have h2 := of_decide_eq_false (Bool.eq_false_iff.mpr c2)
          unfold isWordL
          rw [decide_eq_false (by omega : ¬ x.length ≤ 8)]
          simp
        rw [e] at k
        exact k _ (Same.refl _)
    · have e : isWordL x = false := by
        have h2 := of_decide_eq_false (Bool.eq_false_iff.mpr c1)
        unfold isWordL
        rw [decide_eq_false (by omega : ¬ 1 ≤ x.length)]
        simp
      rw [e] at k
      exact ⟨_, rfl, iteF (k _ (Same.refl _))⟩
end
end My
namespace My
open PySem PySem.Spec PyProof.Rows L2 PySem.GX
theorem mem_ins {ys : List Str} {k z : Str} : z ∈ ins ys k ↔ z = k ∨ z ∈ ys := by
  unfold ins
  by_cases h : k ∈ ys
  · rw [if_pos h]
    constructor
    · intro m; exact .inr m
    · rintro (rfl | m)
      · exact h
      · exact m
  · rw [if_neg h, List.mem_cons]
theorem setFold_all : ∀ (n : Nat) (xs : List Str), xs.length = n → (setFold xs).Nodup ∧ (∀ z, z ∈ setFold xs ↔ z ∈ xs) ∧ (xs.Nodup → (setFold xs).Perm xs) ∧ (¬ xs.Nodup → (setFold xs).length < xs.length) := by
  intro n
  induction n with
  | zero =>
    intro xs h
    have : xs = [] := List.eq_nil_of_length_eq_zero h
    subst this
    exact ⟨List.nodup_nil, fun _ => Iff.rfl, fun _ => List.Perm.refl _, fun h => absurd List.nodup_nil h⟩
  | succ n ih =>
    intro xs h
    have hne : xs ≠ [] := by intro z; subst z; cases h
    obtain ⟨ys, a, rfl⟩ : ∃ ys a, xs = ys ++ [a] := ⟨xs.dropLast, xs.getLast hne, (List.dropLast_concat_getLast hne).symm⟩
    have hl : ys.length = n := by rw [List.length_append] at h; simpa using h
    obtain ⟨i1, i2, i3, i4⟩ := ih ys hl
    have len := setFold_len n ys hl
    rw [setFold_snoc]
    refine ⟨ins_nodup i1, fun z => ?_, fun nd => ?_, fun nd => ?_⟩
    · rw [mem_ins, i2, List.mem_append]
      simp
      constructor
      · rintro (h | h) <;> simp [h]
      · rintro (h | h) <;> simp [h]
    · rw [List.nodup_append] at nd
      have ha : a ∉ setFold ys := fun z => nd.2.2 a ((i2 a).mp z) a (by simp) rfl
      unfold ins
      rw [if_neg ha]
      exact ((i3 nd.1).cons a).trans (List.perm_append_singleton a ys).symm
    · unfold ins
      by_cases ha : a ∈ setFold ys
      · rw [if_pos ha, List.length_append]
        simp; omega
      · rw [if_neg ha, List.length_append]
        have : ¬ ys.Nodup := fun z => nd (by
          rw [List.nodup_append]
          refine ⟨z, by simp, fun b hb c hc e => ?_⟩
          simp at hc
          subst hc; subst e
          exact ha ((i2 b).mpr hb))
        have := i4 this
        simp; omega
theorem setFold_eqlen (xs : List Str) : decide ((setFold xs).length = xs.length) = decide xs.Nodup := by
  obtain ⟨_, _, i3, i4⟩ := setFold_all _ xs rfl
  by_cases h : xs.Nodup
  · rw [decide_eq_true h, decide_eq_true (i3 h).length_eq]
  · rw [decide_eq_false h, decide_eq_false (Nat.ne_of_lt (i4 h))]
/-- the sign c as a text -/
abbrev sg (c : Nat) : Str := ⟨#[c]⟩
theorem sg_inj {a b : Nat} (h : sg a = sg b) : a = b := by
  have := congrArg (fun s : Str => s.cps.toList) h
  simpa using this
theorem str_ext {x y : Str} (h : x.cps.toList = y.cps.toList) : x = y := by
  cases x; cases y
  simp at h
  rw [h]
theorem asc_eq : ∀ {a b : List Nat}, a.Pairwise (· < ·) → b.Pairwise (· < ·) → (∀ z, z ∈ a ↔ z ∈ b) → a = b
  | [], [], _, _, _ => rfl
  | [], y :: _, _, _, h => by have := (h y).mpr (by simp); simp at this
  | x :: _, [], _, _, h => by have := (h x).mp (by simp); simp at this
  | x :: xs, y :: ys, h1, h2, h => by
    rw [List.pairwise_cons] at h1 h2
    have e : x = y := by
      have m1 := (h x).mp (by simp)
      have m2 := (h y).mpr (by simp)
      simp at m1 m2
      rcases m1 with m1 | m1
      · exact m1
      · rcases m2 with m2 | m2
        · exact m2.symm
        · have a1 := h1.1 _ m2
          have a2 := h2.1 _ m1
          omega
    subst e
    congr 1
    refine asc_eq h1.2 h2.2 fun z => ?_
    constructor
    · intro m
      have := (h z).mp (by simp [m])
      simp at this
      rcases this with rfl | t
      · exact absurd (h1.1 _ m) (Nat.lt_irrefl _)
      · exact t
    · intro m
      have := (h z).mpr (by simp [m])
      simp at this
      rcases this with rfl | t
      · exact absurd (h2.1 _ m) (Nat.lt_irrefl _)
      · exact t
theorem rising_asc : ∀ (cs : List Nat) (p : Nat), risingS (sg p) (cs.map sg) = true → (p :: cs).Nodup → (p :: cs).Pairwise (· < ·)
  | [], p, _, _ => by simp
  | c :: cs, p, h, nd => by
    unfold risingS at h
    rw [List.map_cons] at h
    simp only [Bool.and_eq_true] at h
    have nd' := (List.nodup_cons.mp nd)
    have ih := rising_asc cs c h.2 nd'.2
    have h1 : ¬ c < p := by
      have := h.1
      simp [ltCps] at this
      omega
    have h2 : p ≠ c := fun z => nd'.1 (by simp [z])
    rw [List.pairwise_cons] at ih ⊢
    refine ⟨fun z hz => ?_, List.pairwise_cons.mpr ih⟩
    simp at hz
    rcases hz with rfl | hz
    · omega
    · have := ih.1 z hz
      omega
theorem join_signs : ∀ cs : List Nat, (Str.join Str.empty (cs.map sg)).cps.toList = cs
  | [] => rfl
  | [c] => rfl
  | c :: d :: cs => by
    have ih := join_signs (d :: cs)
    show ((sg c ++ Str.empty ++ Str.join Str.empty ((d :: cs).map sg)).cps).toList = _
    show (((#[c] ++ #[]) ++ (Str.join Str.empty ((d :: cs).map sg)).cps)).toList = _
    rw [Array.toList_append, ih]
    rfl
/-- the text is its own signs in their order, each once -/
theorem asc_join {x : Str} {zs : List Str} (hp : zs.Perm (setFold (signsOf x))) (hs : sortedS zs = true) : decide (V.str x = V.str (Txt.join Str.empty zs)) = decide (x.cps.toList.Pairwise (· < ·)) := by
  obtain ⟨i1, i2, i3, i4⟩ := setFold_all _ (signsOf x) rfl
  have nd : zs.Nodup := hp.nodup_iff.mpr i1
  have hm : ∀ z, z ∈ zs ↔ z ∈ signsOf x := fun z => (hp.mem_iff).trans (i2 z)
  obtain ⟨cs, rfl⟩ : ∃ cs : List Nat, zs = cs.map sg := by
    have all : ∀ z ∈ zs, ∃ c, z = sg c := fun z hz => by
      have := (hm z).mp hz
      unfold signsOf at this
      obtain ⟨c, _, rfl⟩ := List.mem_map.mp this
      exact ⟨c, rfl⟩
    clear hp hs nd hm i1 i2 i3 i4
    induction zs with
    | nil => exact ⟨[], rfl⟩
    | cons z t ih =>
      obtain ⟨c, rfl⟩ := all z (by simp)
      obtain ⟨cs, e⟩ := ih fun y hy => all y (by simp [hy])
      exact ⟨c :: cs, by rw [e]; rfl⟩
  have ndc : cs.Nodup := by
    unfold List.Nodup at nd
    rw [List.pairwise_map] at nd
    exact nd.imp fun h z => h (congrArg sg z)
  have asc : cs.Pairwise (· < ·) := by
    cases cs with
    | nil => simp
    | cons c t => exact rising_asc t c hs ndc
  have mem : ∀ c, c ∈ cs ↔ c ∈ x.cps.toList := fun c => by
    have := hm (sg c)
    unfold signsOf at this
    constructor
    · intro h
      obtain ⟨d, hd, e⟩ := List.mem_map.mp (this.mp (List.mem_map.mpr ⟨c, h, rfl⟩))
      rw [← sg_inj e]; exact hd
    · intro h
      obtain ⟨d, hd, e⟩ := List.mem_map.mp (this.mpr (List.mem_map.mpr ⟨c, h, rfl⟩))
      rw [← sg_inj e]; exact hd
  have ej : (Txt.join Str.empty (cs.map sg)).cps.toList = cs := by rw [TL.join_eq, join_signs]
  by_cases h : x.cps.toList.Pairwise (· < ·)
  · rw [decide_eq_true h, decide_eq_true]
    congr 1
    exact str_ext (by rw [ej]; exact asc_eq h asc fun z => (mem z).symm)
  · rw [decide_eq_false h, decide_eq_false]
    intro e
    have e' : x = _ := V.str.inj e
    apply h
    rw [e', ej]
    exact asc
end My
namespace My
open PySem PySem.Spec PyProof.Rows L2 PySem.GX
def areSignsL : List Str → Bool
  | [x] => decide (1 ≤ x.length) && decide (x.length ≤ 3) && madeL x abc && decide (x.cps.toList.Pairwise (· < ·))
  | _ => false
def areMoodsL (ws : List Str) : Bool := decide (1 ≤ ws.length) && decide (ws.length ≤ 300) && ws.all isWordL && decide ws.Nodup
def areGoodL (ws ms : List Str) : Bool := decide (ws = ms.filter fun m => decide (m ∈ ws))
end My
namespace My
open PySem PySem.Spec PyProof.Rows L2 PySem.GX
theorem areS1 (x : Str) : areSignsL [x] = (decide (1 ≤ x.length) && decide (x.length ≤ 3) && madeL x abc && decide (x.cps.toList.Pairwise (· < ·))) := rfl
def spSigns (K : PySem.W.Frag) : Sp := fun vs H Q _ => ∃ (l : Addr) (ws : List Str), vs = [.ref l] ∧ H l = some (.lst (ws.map V.str)) ∧ (∀ x ∈ ws, x.length ≤ 16000000) ∧ ∀ H', Same H H' → Q (.bl (areSignsL ws)) H'
def spMoods (K : PySem.W.Frag) : Sp := fun vs H Q _ => ∃ (l : Addr) (ws : List Str), vs = [.ref l] ∧ H l = some (.lst (ws.map V.str)) ∧ (∀ x ∈ ws, x.length ≤ 16000000) ∧ ∀ H', Same H H' → Q (.bl (areMoodsL ws)) H'
section
variable {P : Program} {w : World} {K : PySem.W.Frag} {mg : Str → Option Value} {base : Heap}
theorem scSigns : FnScope ["words"] ["words"] (defScope sSigns) := ⟨rfl, rfl, rfl, by decide +kernel, rfl, by decide +kernel, by decide +kernel⟩
theorem ok_signs {f : Addr} {fd : FuncData} {tA tB : Tok} (F : Fun K "are_signs" "are_signs" sSigns f fd) (hO : Hv P w K mg base 1 "made_of" ["text", "letters"] spMade) (gA : mg "LETTERS" = some (.str abc tB)) (hL : mg "len" = none) (hS : mg "set" = none) (hT : mg "sorted" = none) (gM : mg "MOST_SIGNS" = some (.int 3 tA)) :
    FnOk P w K mg base CX0 2 f fd ["words"] (spSigns K) := by
  refine F.ok scSigns (fun vs H Q E h => ?_) (fun cdv A outer s H vs Q E hr h => ?_)
  · obtain ⟨l, ws, rfl, _⟩ := h
    rfl
  · obtain ⟨l, ws, rfl, hl, hx, k⟩ := h
    refine ⟨_, pss_cons (ps_if (PW.pt (pw_or (pt_cmpR op_ne (pe_callB call_len_seq (by rfl) hL PySem.boot_len (pa_cons (pv 0) pa_nil)) pe_int (nomark _))
        (pw_or1 (pt_not (pt_chain op_le op_le pe_int (pe_callB call_len_str (by rfl) hL PySem.boot_len (pa_cons (pe_ix ix_list (pv 0) pe_int (fun _ _ => rfl)) pa_nil)) (pe_glob (v := .int 3) rfl gM ⟨_, rfl⟩))))))
        (pss_one (ps_ret pe_bl)) pss_nil)
      (pss_one (ps_ret (pe_and (pe_cl hO hr rfl pass0 (pa_cons (pe_ix ix_list (pv 0) pe_int (fun _ _ => rfl)) (pa_cons (pe_glob (v := .str abc) rfl gA ⟨_, rfl⟩) pa_nil)))
        (pe_one (pe_cmpR op_eq (pe_ix ix_list (pv 0) pe_int (fun _ _ => rfl)) (pe_join pe_str (pe_callB (cr_sortedTx rfl) (by rfl) hT (by decide +kernel) (pa_cons (pe_callTy (cr_setS rfl) (by rfl) hS (by decide +kernel) (pa_cons (pe_ix ix_list (pv 0) pe_int (fun _ _ => rfl)) pa_nil)) pa_nil))) (nomark _)))))), ?_⟩
    refine ⟨_, rfl, l, _, rfl, .inl (SqL.of hl), rfl, _, rfl, ?_⟩
    rw [List.length_map]
    match ws, hl, hx, k with
    | [], hl, hx, k => exact iteT (iteT (k _ (Same.refl _)))
    | _ :: _ :: _, hl, hx, k =>
      refine ite2 (fun c => iteT (k _ (Same.refl _))) (fun c => ?_)
      exfalso
      apply c
      simp
      omega
    | [x], hl, hx, k =>
      refine iteF ?_
      have hz := hx x (by simp)
      refine ⟨_, rfl, l, _, _, _, rfl, rfl, SqL.of hl, atI_nat (j := 0) rfl, x, rfl, (by rw [sizeLine_eq]; omega), _, _, rfl, rfl, _, rfl, ?_⟩
      refine ite2 (fun c1 => ?_) (fun c1 => ?_)
      · refine ⟨_, _, rfl, rfl, _, rfl, ?_⟩
        have h1 := of_decide_eq_true c1
        refine ite2 (fun c2 => ?_) (fun c2 => ?_)
        · have e : areSignsL [x] = false := by
            have h2 : (3 : Int) < (x.length : Int) := by simpa using c2
            rw [areS1]
            rw [decide_eq_false (by omega : ¬ x.length ≤ 3)]
            simp
          rw [e] at k
          exact k _ (Same.refl _)
        · have h2 : (x.length : Int) ≤ 3 := by simpa using c2
          have e : areSignsL [x] = (madeL x abc && decide (x.cps.toList.Pairwise (· < ·))) := by
            rw [areS1, decide_eq_true (show 1 ≤ x.length by omega), decide_eq_true (show x.length ≤ 3 by omega)]
            simp
          rw [e] at k
          refine ⟨_, rfl, l, _, _, _, rfl, rfl, SqL.of hl, atI_nat (j := 0) rfl, x, abc, rfl, hz, fun H1 s1 => ⟨_, rfl, ite2 (fun c3 => ?_) (fun c3 => ?_)⟩⟩
          · have hl1 := s1 _ _ hl
            refine ⟨_, rfl, l, _, _, _, rfl, rfl, SqL.of hl1, atI_nat (j := 0) rfl, ⟨_, rfl⟩, _, rfl, l, _, _, _, rfl, rfl, SqL.of hl1, atI_nat (j := 0) rfl, x, rfl, (by omega), fun p hp => ⟨p, _, rfl, upd_same, fun zs q pz sz hq => ?_⟩⟩
            have hlen : zs.length ≤ 3 := by
              rw [pz.length_eq]
              have := setFold_len _ (signsOf x) rfl
              have e2 : (signsOf x).length = x.length := by unfold signsOf; rw [List.length_map, Array.length_toList]; rfl
              omega
            have hone : ∀ z ∈ zs, z.length = 1 := fun z hz => by
              have := (setFold_all _ (signsOf x) rfl).2.1 z |>.mp (pz.mem_iff.mp hz)
              unfold signsOf at this
              obtain ⟨c, _, rfl⟩ := List.mem_map.mp this
              rfl
            refine ⟨_, q, zs, rfl, rfl, .inl (SqL.of upd_same), ?_, rfl, ?_⟩
            · have : (zs.map (·.length)).sum = zs.length := by
                clear pz sz hq hlen
                induction zs with
                | nil => rfl
                | cons z t ih => 
                  rw [List.map_cons, List.sum_cons, ih (fun y hy => hone y (by simp [hy])), hone z (by simp), List.length_cons]
                  omega
              rw [this]
              have e0 : (Str.ofString "").length = 0 := rfl
              rw [e0]
              omega
            · have := asc_join pz sz
              rw [c3, Bool.true_and] at k
              rw [← this] at k
              exact k _ ((s1.trans (same_new hp)).trans (same_new hq))
          · rw [Bool.eq_false_iff.mpr c3] at k
            exact k _ s1
      · refine ⟨_, rfl, iteT ?_⟩
        have e : areSignsL [x] = false := by
          have h2 := of_decide_eq_false (Bool.eq_false_iff.mpr c1)
          rw [areS1]
          rw [decide_eq_false (by omega : ¬ 1 ≤ x.length)]
          simp
        rw [e] at k
        exact k _ (Same.refl _)
end
end My
namespace My
open PySem PySem.Spec PyProof.Rows L2
theorem len_app (a b : Str) : (a ++ b).length = a.length + b.length := Str.length_append a b
theorem cps_app (a b : Str) : (a ++ b).cps.toList = a.cps.toList ++ b.cps.toList := by
  show (a.cps ++ b.cps).toList = _
  exact Array.toList_append
theorem ok_low {y : Str} (h : ∀ c ∈ y.cps.toList, c < 256) : PyData.strOk y = true := by
  unfold PyData.strOk
  rw [Array.all_eq_true_iff_forall_mem]
  intro c hc
  have := h c (by simpa using hc)
  simp
  omega
theorem yat_same (xs : List V) : ∀ i H x H', YAt xs i H x H' → Same H H' := fun i H x H' h => by rw [h.1]; exact Same.refl _
theorem map_get {α : Type} {xs : List α} {f : α → V} {i : Nat} {a : α} {x : V} (ha : xs[i]? = some a) (h : (xs.map f)[i]? = some x) : x = f a := by
  rw [List.getElem?_map, ha] at h
  exact (Option.some.inj h).symm
theorem walk_listL {K : PySem.W.Frag} {a : Addr} {α : Type} (xs : List α) (f : α → V) : Walk (Itl K a) xs.length (fun H => SqL K H a (xs.map f)) (YAt (xs.map f)) := by
  have := walk_list (K := K) (a := a) (xs := xs.map f)
  rw [List.length_map] at this
  exact this
theorem in_strs (x : Str) : ∀ ys : List Str, inV (.str x) (ys.map V.str) = decide (x ∈ ys)
  | [] => rfl
  | y :: t => by
    have ih := in_strs x t
    unfold inV at ih ⊢
    rw [List.map_cons, List.any_cons, ih]
    have e : eqV (.str y) (.str x) = decide (y = x) := by
      show (y == x) = _
      by_cases h : y = x
      · subst h; simp
      · simp [h]
    rw [e]
    by_cases h : y = x
    · subst h; simp
    · simp [h, Ne.symm h]
theorem flat_strs (ys : List Str) : (ys.map V.str).all flatV = true := by
  rw [List.all_map]
  exact List.all_eq_true.mpr fun _ _ => rfl
end My
namespace My
open PySem PySem.Spec PyProof.Rows L2 PySem.GX
section
variable {P : Program} {w : World} {K : PySem.W.Frag} {mg : Str → Option Value} {base : Heap}
theorem scMoods : FnScope ["words", "word"] ["words"] (defScope sMoods) := ⟨rfl, rfl, rfl, by decide +kernel, rfl, by decide +kernel, by decide +kernel⟩
theorem ok_moods {f : Addr} {fd : FuncData} {tA : Tok} (F : Fun K "are_moods" "are_moods" sMoods f fd) (hW : Hv P w K mg base 2 "is_word" ["text"] spWord) (hL : mg "len" = none) (hS : mg "set" = none) (hA : mg "all" = none) (gM : mg "MOST_MOODS" = some (.int 300 tA)) :
    FnOk P w K mg base CX0 3 f fd ["words"] (spMoods K) := by
  refine F.ok scMoods (fun vs H Q E h => ?_) (fun cdv A outer s H vs Q E hr h => ?_)
  · obtain ⟨l, ws, rfl, _⟩ := h
    rfl
  · obtain ⟨l, ws, rfl, hl, hx, k⟩ := h
    refine ⟨_, pss_cons (ps_if (pt_not (pt_chain op_le op_le pe_int (pe_callB call_len_seq (by rfl) hL PySem.boot_len (pa_cons (pv 0) pa_nil)) (pe_glob (v := .int 300) rfl gM ⟨_, rfl⟩)))
        (pss_one (ps_ret pe_bl)) pss_nil)
      (pss_one (ps_ret (pe_and (pe_callB (cr_all rfl) (by rfl) hA (by decide +kernel) (pa_cons (pe_lc (own := [("word", 1)]) (g := gName 1) (tt := tYes) rfl scMoods.nd (pi_list (pv 0))
          (blkOk_by (N := ["words", "word"]) (sc := defScope sMoods) (by decide +kernel)) (fun _ _ _ _ _ => pg_name (i := 1) scMoods.nd rfl (Or.inl rfl)) (fun _ _ _ _ _ => pts_nil) (fun _ _ _ _ _ => pe_cl hW hr rfl pass0 (pa_cons (pv 1) pa_nil))) pa_nil))
        (pe_one (pe_cmpR op_eq (pe_callB cr_lenSet (by rfl) hL PySem.boot_len (pa_cons (pe_callTy (cr_setL rfl) (by rfl) hS (by decide +kernel) (pa_cons (pv 0) pa_nil)) pa_nil)) (pe_callB call_len_seq (by rfl) hL PySem.boot_len (pa_cons (pv 0) pa_nil)) (nomark _)))))), ?_⟩
    refine ⟨_, rfl, l, _, rfl, .inl (SqL.of hl), _, _, rfl, rfl, _, rfl, ?_⟩
    rw [List.length_map]
    refine ite2 (fun c1 => ?_) (fun c1 => ?_)
    · refine ⟨_, _, rfl, rfl, _, rfl, ?_⟩
      have h1 := of_decide_eq_true c1
      refine ite2 (fun c2 => ?_) (fun c2 => ?_)
      · have e : areMoodsL ws = false := by
          have h2 : (300 : Int) < (ws.length : Int) := by simpa using c2
          unfold areMoodsL
          rw [decide_eq_false (by omega : ¬ ws.length ≤ 300)]
          simp
        rw [e] at k
        exact k _ (Same.refl _)
      · have h2 : (ws.length : Int) ≤ 300 := by simpa using c2
        have e : areMoodsL ws = (ws.all isWordL && decide ws.Nodup) := by
          unfold areMoodsL
          rw [decide_eq_true (show 1 ≤ ws.length by omega), decide_eq_true (show ws.length ≤ 300 by omega)]
          simp
        rw [e] at k
        refine ⟨_, rfl, l, rfl, ⟨_, SqL.of hl⟩, fun D hD => ?_⟩
        refine lcG ws (fun x => some (.bl (isWordL x))) (by have := walk_list (K := K) (a := l) (xs := ws.map V.str); rw [List.length_map] at this; exact this) (by omega) hD (yat_same _) (fun H' s => SqL.of (s _ _ hl)) (fun i x y H' H'' k1 hx' s1 hy k2 => ?_) (fun H1 s1 e1 => ?_)
        · obtain ⟨rfl, hy⟩ := hy
          obtain rfl := map_get hx' hy
          refine ⟨rfl, _, rfl, x, rfl, hx x (List.mem_of_getElem? hx'), fun H4 s4 => k2 _ s4⟩
        · refine ⟨D, ws.map isWordL, rfl, SqL.of ?_, _, rfl, ?_⟩
          · rw [e1, List.filterMap_eq_map', List.map_map]
            rfl
          · have ea : (ws.map isWordL).all id = ws.all isWordL := by rw [List.all_map]; rfl
            rw [ea]
            refine ite2 (fun c3 => ?_) (fun c3 => ?_)
            · have hl1 := s1 _ _ hl
              refine ⟨_, rfl, l, ws, rfl, SqL.of hl1, (by omega), fun p hp => ⟨p, _, rfl, upd_same, _, rfl, l, _, rfl, .inl (SqL.of (keep1 hl1 hp)), rfl, ?_⟩⟩
              rw [c3, Bool.true_and, ← setFold_eqlen] at k
              rw [List.length_map]
              have ed : decide (V.int ((setFold ws).length : Nat) = V.int (ws.length : Nat)) = decide ((setFold ws).length = ws.length) := by
                rw [dec_int]
                by_cases hc : (setFold ws).length = ws.length
                · rw [hc]; simp
                · rw [decide_eq_false hc]
                  simp
                  omega
              rw [ed]
              exact k _ (s1.trans (same_new hp))
            · rw [Bool.eq_false_iff.mpr c3] at k
              exact k _ s1
    · have e : areMoodsL ws = false := by
        have h2 := of_decide_eq_false (Bool.eq_false_iff.mpr c1)
        unfold areMoodsL
        rw [decide_eq_false (by omega : ¬ 1 ≤ ws.length)]
        simp
      rw [e] at k
      exact ⟨_, rfl, iteT (k _ (Same.refl _))⟩
end
end My
namespace My
open PySem PySem.Spec PyProof.Rows L2 PySem.GX
def spGood (K : PySem.W.Frag) : Sp := fun vs H Q _ => ∃ (l m : Addr) (ws ms : List Str), vs = [.ref l, .ref m] ∧ H l = some (.lst (ws.map V.str)) ∧ H m = some (.lst (ms.map V.str)) ∧ ws.length ≤ 16000000 ∧ ms.length ≤ 16000000 ∧
  (∀ x ∈ ws, PyData.strOk x = true) ∧ (∀ x ∈ ms, PyData.strOk x = true) ∧ ∀ H', Same H H' → Q (.bl (areGoodL ws ms)) H'
/-- the dict {x: True for x in ws} -/
abbrev dTrue (ws : List Str) : List (Key × V) := dOf (fun x => (Sum.inr x : Key)) (fun _ => V.bl true) ws
theorem dTrue_val (ws : List Str) (m : Str) : (valV (dTrue ws) (Sum.inr m)).isSome = decide (m ∈ ws) := by
  rw [dOf_val]
  congr 1
  simp
theorem fm_filter (p : Str → Bool) : ∀ ms : List Str, (ms.filterMap fun m => if p m = true then some (V.str m) else none) = (ms.filter p).map V.str
  | [] => rfl
  | m :: t => by
    rw [List.filterMap_cons, List.filter_cons]
    cases h : p m with
    | true => simp [fm_filter p t]
    | false => simp [fm_filter p t]
section
variable {P : Program} {w : World} {K : PySem.W.Frag} {mg : Str → Option Value} {base : Heap}
theorem scGood : FnScope ["words", "moods", "chosen", "word", "mood"] ["words", "moods"] (defScope sGood) := ⟨rfl, rfl, rfl, by decide +kernel, rfl, by decide +kernel, by decide +kernel⟩
theorem ok_good {f : Addr} {fd : FuncData} (F : Fun K "are_good" "are_good" sGood f fd) : FnOk P w K mg base CX0 1 f fd ["words", "moods"] (spGood K) := by
  refine F.ok scGood (fun vs H Q E h => ?_) (fun cdv A outer s H vs Q E hr h => ?_)
  · obtain ⟨l, m, ws, ms, rfl, _⟩ := h
    rfl
  · obtain ⟨l, m, ws, ms, rfl, hl, hm, z1, z2, o1, o2, k⟩ := h
    refine ⟨_, pss_cons (ps_set (i := 2) scGood.nd rfl (Or.inr rfl) (pe_dc (own := [("word", 3)]) (g := gName 3) (tt := tYes) rfl scGood.nd (pi_list (pv 0))
          (blkOk_by (N := ["words", "moods", "chosen", "word", "mood"]) (sc := defScope sGood) (by decide +kernel)) (fun _ _ _ _ _ => pg_name (i := 3) scGood.nd rfl (Or.inl rfl)) (fun _ _ _ _ _ => pts_nil) (fun _ _ _ _ _ => pv 3) (fun _ _ _ _ _ => pe_bl)))
      (pss_one (ps_ret (pe_cmpR (op_eqD hr.units) (pv 0) (pe_lc (own := [("mood", 4)]) (g := gName 4) rfl scGood.nd (pi_list (pv 1))
          (blkOk_by (N := ["words", "moods", "chosen", "word", "mood"]) (sc := defScope sGood) (by decide +kernel)) (fun _ _ _ _ _ => pg_name (i := 4) scGood.nd rfl (Or.inl rfl)) (fun _ _ _ _ _ => pts_one (pt_cmp (pc_din (hu_of hr) (pv 4) (pv 2)))) (fun _ _ _ _ _ => pv 4)) (nomark _)))), ?_⟩
    refine ⟨_, rfl, l, rfl, ⟨_, SqL.of hl⟩, fun D hD => ?_⟩
    refine dcG ws (fun x => (Sum.inr x : Key)) (fun _ => V.bl true) (by have := walk_list (K := K) (a := l) (xs := ws.map V.str); rw [List.length_map] at this; exact this) z1 hD (yat_same _) (fun H' s => SqL.of (s _ _ hl)) (fun i x y H' H'' k1 k0 hx s1 hy k2 => ?_) (fun H1 s1 e1 => ?_)
    · obtain ⟨rfl, hy⟩ := hy
      obtain rfl := map_get hx hy
      exact ⟨rfl, _, rfl, k2 _ (Same.refl _)⟩
    · have hl1 := s1 _ _ hl
      have hm1 := s1 _ _ hm
      refine ⟨_, rfl, _, rfl, m, rfl, ⟨_, SqL.of hm1⟩, fun E' hE => ?_⟩
      refine lcG ms (fun x => if decide (x ∈ ws) = true then some (V.str x) else none) (by have := walk_list (K := K) (a := m) (xs := ms.map V.str); rw [List.length_map] at this; exact this) z2 hE (yat_same _) (fun H' s => SqL.of (s _ _ hm1)) (fun i x y H' H'' k1 hx s2 hy k2 => ?_) (fun H2 s2 e2 => ?_)
      · obtain ⟨rfl, hy⟩ := hy
        obtain rfl := map_get hx hy
        have kk := k2 _ (Same.refl _)
        refine ⟨rfl, _, rfl, _, rfl, D, _, rfl, DGet.k (k := Sum.inr x) (s2 _ _ e1), _, rfl, ?_⟩
        rw [dTrue_val]
        refine ite2 (fun c => ?_) (fun c => ?_)
        · rw [if_pos c] at kk
          exact ⟨_, rfl, kk⟩
        · rw [if_neg c] at kk
          exact kk
      · rw [fm_filter] at e2
        refine ⟨dTx ws, dTx (ms.filter fun x => decide (x ∈ ws)), dp_dTx (s2 _ _ hl1), dp_dTx e2, shaped_dTx o1, shaped_dTx fun x hx => o2 x ((List.mem_filter.mp hx).1), ?_⟩
        rw [eqv_dTx]
        exact k _ (s1.trans s2)
end
end My
namespace L2
open PySem PySem.Spec PyProof.Rows PySem.GX
theorem del_same_of (H : Hp) (p : Addr) : Same (del H p) H := fun b o e => by
  by_cases hb : b = p
  · rw [hb, del_same] at e; cases e
  · rw [del_ne hb] at e
    exact e
/-- the new list D holds new lists with these rows; all that was in H1 stands -/
structure Pr (H1 : Hp) (D : Addr) (H' : Hp) (rs : List (List Str)) : Prop where
  ex : ∃ as : List Addr, Same H1 H' ∧ H' D = some (.lst (as.map V.ref)) ∧ Rw (del H' D) as rs
section
variable {H1 H' H'' : Hp} {D p : Addr} {rs : List (List Str)} {r : List Str}
theorem Pr.zero (hD : H1 D = none) : Pr H1 D (upd H1 D (.lst [])) [] := ⟨[], same_new hD, upd_same, .nil⟩
theorem Pr.keeps (h : Pr H1 D H' rs) : Same H1 H' := let ⟨_, s, _, _⟩ := h.ex; s
theorem Pr.same (h : Pr H1 D H' rs) (s : Same H' H'') : Pr H1 D H'' rs := by
  obtain ⟨as, s1, e, t⟩ := h.ex
  exact ⟨as, s1.trans s, s _ _ e, t.same (same_del s)⟩
theorem Pr.push (h : Pr H1 D H' rs) (hD : H1 D = none) (hp : H' p = none) (hl : rs.length < 16000000) :
    ∃ acc, (upd H' p (.lst (r.map V.str))) D = some (.lst acc) ∧ acc.length < sizeLine ∧ Pr H1 D (upd (upd H' p (.lst (r.map V.str))) D (.lst (acc ++ [.ref p]))) (rs ++ [r]) := by
  obtain ⟨as, s1, e, t⟩ := h.ex
  have ne : D ≠ p := ne_of_none e hp
  refine ⟨as.map V.ref, by rw [upd_ne ne]; exact e, ?_, ⟨as ++ [p], fun b o z => ?_, ?_, ?_⟩⟩
  · rw [List.length_map, t.len, sizeLine_eq]
    omega
  · rw [upd_ne (ne_of_none z hD), upd_ne (ne_of_none (s1 _ _ z) hp)]
    exact s1 _ _ z
  · rw [upd_same, List.map_append]
    rfl
  · rw [del_upd]
    refine Rw.snoc ?_ (t.same (same_del (same_new hp)))
    rw [del_ne ne.symm, upd_same]
theorem Pr.rw_ (h : Pr H1 D H' rs) : ∃ as : List Addr, Same H1 H' ∧ H' D = some (.lst (as.map V.ref)) ∧ Rw H' as rs := by
  obtain ⟨as, s1, e, t⟩ := h.ex
  exact ⟨as, s1, e, t.same (del_same_of _ _)⟩
end
theorem cut_to (ws : List Str) (n : Nat) (hn : n < 2 ^ 62) : cutV (ws.map V.str) none (some (n : Int)) = (ws.take n).map V.str := by
  unfold cutV
  have e0 : HT.sIx (ws.map V.str).length 0 none = 0 := rfl
  have e1 : HT.sIx (ws.map V.str).length (ws.map V.str).length (some (n : Int)) = min n (ws.map V.str).length := by
    unfold HT.sIx
    simp
    omega
  rw [e0, e1, List.drop_zero, Nat.sub_zero, List.map_take]
  apply List.ext_getElem?
  intro i
  simp only [List.getElem?_take]
  by_cases h : i < n
  · by_cases h2 : i < (ws.map V.str).length
    · rw [if_pos h, if_pos (by omega)]
    · rw [if_pos h, if_neg (by omega), List.getElem?_eq_none (by omega)]
  · rw [if_neg h, if_neg (by omega)]
theorem cut_fromV (xs : List V) (n : Nat) (hn : n < 2 ^ 62) : cutV xs (some (n : Int)) none = xs.drop n := by
  unfold cutV
  have e1 : HT.sIx xs.length xs.length none = xs.length := rfl
  have e0 : HT.sIx xs.length 0 (some (n : Int)) = min n xs.length := by
    unfold HT.sIx
    simp
    omega
  rw [e0, e1]
  apply List.ext_getElem?
  intro i
  simp only [List.getElem?_take, List.getElem?_drop]
  by_cases h : i < xs.length - min n xs.length
  · rw [if_pos h]
    congr 1
    omega
  · rw [if_neg h, List.getElem?_eq_none (by omega)]
theorem cut_toV (xs : List V) (n : Nat) (hn : n < 2 ^ 62) : cutV xs none (some (n : Int)) = xs.take n := by
  unfold cutV
  have e0 : HT.sIx xs.length 0 none = 0 := rfl
  have e1 : HT.sIx xs.length xs.length (some (n : Int)) = min n xs.length := by
    unfold HT.sIx
    simp
    omega
  rw [e0, e1, List.drop_zero, Nat.sub_zero]
  apply List.ext_getElem?
  intro i
  simp only [List.getElem?_take]
  by_cases h : i < n
  · by_cases h2 : i < xs.length
    · rw [if_pos h, if_pos (by omega)]
    · rw [if_pos h, if_neg (by omega), List.getElem?_eq_none (by omega)]
  · rw [if_neg h, if_neg (by omega)]
end L2
namespace My
open PySem PySem.Spec PyProof.Rows L2 PySem.GX
/-- the beginnings of the rows of goals, in their order -/
def pairsL (x : Str) (ms : List Str) : List (List Str) := ms.flatMap fun m => x.cps.toList.map fun c => [m, sg c]
def rowOkL (ms : List Str) (r : List Str) : Bool := decide (r.length = 3) && decide (r.getD 2 Str.empty ∈ ms)
def goalsOkL (x : Str) (ms : List Str) (rs : List (List Str)) : Bool := decide (rs.map (List.take 2) = pairsL x ms) && rs.all (rowOkL ms)
/-- the dict that the rows write -/
def goalsD (rs : List (List Str)) : List (List Key × V) := dOf (fun r => [Sum.inr (r.getD 0 Str.empty), Sum.inr (r.getD 1 Str.empty)]) (fun r => V.str (r.getD 2 Str.empty)) rs
def spGoals : Sp := fun vs H Q _ => ∃ (x : Str) (m l : Addr) (ms : List Str) (as : List Addr) (rs : List (List Str)), vs = [.str x, .ref m, .ref l] ∧ H m = some (.lst (ms.map V.str)) ∧ H l = some (.lst (as.map V.ref)) ∧ Rw H as rs ∧
  x.length ≤ 3 ∧ ms.length ≤ 300 ∧ rs.length ≤ 16000000 ∧ PyData.strOk x = true ∧ (∀ y ∈ ms, PyData.strOk y = true) ∧ (∀ r ∈ rs, ∀ y ∈ r, PyData.strOk y = true) ∧
  (goalsOkL x ms rs = false → ∀ H', Same H H' → Q .non H') ∧ (goalsOkL x ms rs = true → ∀ D H', H D = none → Same H H' → H' D = some (.dT (goalsD rs)) → Q (.ref D) H')
theorem pairs_take {x : Str} {ms : List Str} {i : Nat} {m : Str} (h : ms[i]? = some m) : pairsL x (ms.take (i + 1)) = pairsL x (ms.take i) ++ x.cps.toList.map fun c => [m, sg c] := by
  unfold pairsL
  rw [List.take_add_one, h, List.flatMap_append]
  simp
theorem pairs_len (x : Str) (ms : List Str) : (pairsL x ms).length = ms.length * x.length := by
  unfold pairsL
  induction ms with
  | nil => simp
  | cons m t ih =>
    rw [List.flatMap_cons, List.length_append, ih, List.length_map, Array.length_toList, List.length_cons, Nat.succ_mul]
    show x.length + _ = _
    omega
theorem pairs_ok {x : Str} {ms : List Str} (hx : PyData.strOk x = true) (hm : ∀ y ∈ ms, PyData.strOk y = true) : ∀ r ∈ pairsL x ms, ∀ y ∈ r, PyData.strOk y = true := by
  intro r hr y hy
  unfold pairsL at hr
  obtain ⟨m, h1, h2⟩ := List.mem_flatMap.mp hr
  obtain ⟨c, h3, rfl⟩ := List.mem_map.mp h2
  simp at hy
  rcases hy with rfl | rfl
  · exact hm _ h1
  · unfold PyData.strOk at hx ⊢
    rw [Array.all_eq_true_iff_forall_mem] at hx
    have := hx c (by simpa using h3)
    simpa using this
def rLenK (K : PySem.W.Frag) : List V → Hp → VK → Prop := fun xs H Q => ∃ p ys, xs = [.ref p] ∧ (SqL K H p ys ∨ SqT K H p ys) ∧ Q (.int ys.length) H
section
variable {P : Program} {w : World} {K : PySem.W.Frag} {mg : Str → Option Value} {base : Heap}
abbrev nGoals : List Str := ["signs", "moods", "rows", "known", "mood", "row", "sign", "goal"]
theorem scGoals : FnScope nGoals ["signs", "moods", "rows"] (defScope sGoals) := ⟨rfl, rfl, rfl, by decide +kernel, rfl, by decide +kernel, by decide +kernel⟩
theorem ok_goals {f : Addr} {fd : FuncData} (F : Fun K "read_goals" "read_goals" sGoals f fd) (hL : mg "len" = none) (hA : mg "all" = none) : FnOk P w K mg base CX0 1 f fd ["signs", "moods", "rows"] spGoals := by
  refine F.ok scGoals (fun vs H Q E h => ?_) (fun cdv A outer s H vs Q E hr h => ?_)
  · obtain ⟨x, m, l, ms, as, rs, rfl, _⟩ := h
    rfl
  · obtain ⟨x, m, l, ms, as, rs, rfl, hm, hl, hR, z1, z2, z3, o1, o2, o3, kN, kY⟩ := h
    refine ⟨_, pss_cons (ps_set (i := 3) scGoals.nd rfl (Or.inr rfl) (pe_dc (own := [("mood", 4)]) (g := gName 4) (tt := tYes) rfl scGoals.nd (pi_list (pv 1))
          (blkOk_by (N := nGoals) (sc := defScope sGoals) (by decide +kernel)) (fun _ _ _ _ _ => pg_name (i := 4) scGoals.nd rfl (Or.inl rfl)) (fun _ _ _ _ _ => pts_nil) (fun _ _ _ _ _ => pv 4) (fun _ _ _ _ _ => pe_bl)))
      (pss_cons (ps_if (pt_cmpR (op_neD hr.units) (pe_lc (own := [("row", 5)]) (g := gName 5) (tt := tYes) rfl scGoals.nd (pi_list (pv 2))
            (blkOk_by (N := nGoals) (sc := defScope sGoals) (by decide +kernel)) (fun _ _ _ _ _ => pg_name (i := 5) scGoals.nd rfl (Or.inl rfl)) (fun _ _ _ _ _ => pts_nil) (te := tSl (rSlL K) (tVar 5) tNoPart (tPart (tC (.int 2)))) (fun _ _ _ _ _ => pe_slice sl_list (pv 5) po_none (po_some pe_int)))
          (pe_lc2 (own := [("mood", 4), ("sign", 6)]) (vs1 := [6]) (g := gName 4) (tt := tYes) (g1 := gName 6) (tt1 := tYes) rfl scGoals.nd (pi_list (pv 1)) (blkOk_by (N := nGoals) (sc := defScope sGoals) (by decide +kernel)) (by decide)
            (fun _ _ _ _ _ => pg_name (i := 4) scGoals.nd rfl (Or.inl rfl)) (fun _ _ _ _ _ => pts_nil) (fun _ _ _ _ _ => pi_str (pv 0)) (fun _ _ _ _ _ => pg_name (i := 6) scGoals.nd rfl (Or.inl rfl)) (fun _ _ _ _ _ => pts_nil) (fun _ _ _ _ _ => pe_lst (pa_cons (pv 4) (pa_cons (pv 6) pa_nil)))) (nomark _))
        (pss_one (ps_ret pe_non)) pss_nil)
      (pss_cons (ps_if (pt_not (pt_val (pe_callB (cr_all rfl) (by rfl) hA (by decide +kernel) (pa_cons (pe_lc (own := [("row", 5)]) (g := gName 5) (tt := tYes) rfl scGoals.nd (pi_list (pv 2))
            (blkOk_by (N := nGoals) (sc := defScope sGoals) (by decide +kernel)) (fun _ _ _ _ _ => pg_name (i := 5) scGoals.nd rfl (Or.inl rfl)) (fun _ _ _ _ _ => pts_nil)
            (te := tAndV (tOp rEq (tCB (rLenK K) (tCons (tVar 5) tNil)) (tC (.int 3))) (tDIn (tOp (rIxL K) (tVar 5) (tC (.int 2))) (tVar 3))) (fun _ _ _ _ _ => pe_and (pe_cmpR op_eq (pe_callB call_len_seq (by rfl) hL PySem.boot_len (pa_cons (pv 5) pa_nil)) pe_int (nomark _)) (pe_one (pe_cmp (pc_din (hu_of hr) (pe_ix ix_list (pv 5) pe_int (fun _ _ => rfl)) (pv 3)) rfl)))) pa_nil))))
        (pss_one (ps_ret pe_non)) pss_nil)
      (pss_one (ps_ret (pe_dcT (own := [("mood", 4), ("sign", 6), ("goal", 7)]) (g := gUnl K 3 (gCons (gName 4) (gCons (gName 6) (gCons (gName 7) gNil)))) (tt := tYes) hr.units rfl scGoals.nd (pi_list (pv 2)) (blkOk_by (N := nGoals) (sc := defScope sGoals) (by decide +kernel))
            (fun _ _ _ _ _ => pg_unl (n := 3) rfl (pgs_cons (pg_name (i := 4) scGoals.nd rfl (Or.inl rfl)) (pgs_cons (pg_name (i := 6) scGoals.nd rfl (Or.inl rfl)) (pgs_cons (pg_name (i := 7) scGoals.nd rfl (Or.inl rfl)) pgs_nil))))
            (fun _ _ _ _ _ => pts_nil) (fun _ _ _ _ _ => pe_tup (pa_cons (pv 4) (pa_cons (pv 6) pa_nil))) (fun _ _ _ _ _ => pv 7)))))), ?_⟩
    refine ⟨_, rfl, m, rfl, ⟨_, SqL.of hm⟩, fun D0 hD0 => ?_⟩
    refine dcG ms (fun x => (Sum.inr x : Key)) (fun _ => V.bl true) (walk_listL ms V.str) (by omega) hD0 (yat_same _) (fun H' s => SqL.of (s _ _ hm)) (fun i x y H' H'' k1 k0 hx s1 hy k2 => ?_) (fun H1 s1 e1 => ?_)
    · obtain ⟨rfl, hy⟩ := hy
      obtain rfl := map_get hx hy
      exact ⟨rfl, _, rfl, k2 _ (Same.refl _)⟩
    have hl1 := s1 _ _ hl
    have hR1 := hR.same s1
    -- the beginnings of the rows
    refine ⟨_, rfl, l, rfl, ⟨_, SqL.of hl1⟩, fun D1 hD1 => ?_⟩
    refine lc_it (walk_listL as V.ref) (fun i H' => Pr H1 D1 H' ((rs.map (List.take 2)).take i)) (Pr.zero hD1) (fun i H' _ h => SqL.of (h.keeps _ _ hl1)) (fun i y H' H'' hi h hy => ?_) (fun H2 h2 => ?_)
    · obtain ⟨rfl, hy⟩ := hy
      have ha : as[i]? = some as[i] := List.getElem?_eq_getElem hi
      obtain rfl := map_get ha hy
      have hi' : i < rs.length := by rw [← hR.len]; exact hi
      have hr' : rs[i]? = some rs[i] := List.getElem?_eq_getElem hi'
      have et : (rs.map (List.take 2)).take (i + 1) = (rs.map (List.take 2)).take i ++ [rs[i].take 2] := by
        rw [List.take_add_one, List.getElem?_map, hr']
        rfl
      refine ⟨rfl, _, rfl, 2, rfl, as[i], _, rfl, SqL.of (h.keeps _ _ (hR1.get ha hr')), fun p hp => ?_⟩
      rw [et, show (2 : Int) = ((2 : Nat) : Int) from rfl, cut_to _ 2 (by decide)]
      exact h.push hD1 hp (by rw [List.length_take, List.length_map]; omega)
    have s2 := h2.keeps
    have hm2 := s2 _ _ (s1 _ _ hm)
    -- what they must be
    refine ⟨_, rfl, m, rfl, ⟨_, SqL.of hm2⟩, fun D2 hD2 => ?_⟩
    refine dc_it (walk_listL ms V.str) (nx := fun i H' => Pr H2 D2 H' (pairsL x (ms.take i))) (Pr.zero hD2) (fun i H' _ h => SqL.of (h.keeps _ _ hm2)) (fun i y H' H'' hi h hy => ?_) (fun H3 h3 => ?_)
    · obtain ⟨rfl, hy⟩ := hy
      have ha : ms[i]? = some ms[i] := List.getElem?_eq_getElem hi
      obtain rfl := map_get ha hy
      refine ⟨rfl, _, rfl, x, rfl, ?_⟩
      refine dc_it walk_str (nx := fun j H' => Pr H2 D2 H' (pairsL x (ms.take i) ++ (x.cps.toList.take j).map fun c => [ms[i], sg c])) (by rw [List.take_zero, List.map_nil, List.append_nil]; exact h) (fun _ _ _ _ => trivial) (fun j y H4 H5 hj h4 hy => ?_) (fun H4 h4 => ?_)
      · obtain ⟨rfl, c, hc, rfl⟩ := hy
        have et : (x.cps.toList.take (j + 1)).map (fun c => [ms[i], sg c]) = (x.cps.toList.take j).map (fun c => [ms[i], sg c]) ++ [[ms[i], sg c]] := by
          rw [List.take_add_one, Array.getElem?_toList, hc, List.map_append]
          rfl
        refine ⟨rfl, _, rfl, _, rfl, (by show 2 ≤ sizeLine; decide), fun p hp => ?_⟩
        rw [et, ← List.append_assoc]
        refine h4.push (r := [ms[i], sg c]) hD2 hp ?_
        have a1 : (pairsL x (ms.take i)).length ≤ 900 := by
          rw [pairs_len, List.length_take]
          exact Nat.le_trans (Nat.mul_le_mul (by omega : min i ms.length ≤ 300) z1) (by decide)
        have a2 : ((x.cps.toList.take j).map fun c => [ms[i], sg c]).length ≤ j := by
          rw [List.length_map, List.length_take]
          omega
        have z5 : x.cps.size ≤ 3 := z1
        rw [List.length_append]
        omega
      · show Pr H2 D2 H4 _
        rw [pairs_take ha]
        have : x.cps.toList.take x.cps.size = x.cps.toList := by rw [← Array.length_toList, List.take_length]
        rw [this] at h4
        exact h4
    rw [List.take_length] at h3
    have h2' := h2
    rw [hR.len, ← List.length_map (f := List.take 2), List.take_length] at h2'
    obtain ⟨bs, sb, eb, rb⟩ := (h2'.same h3.keeps).rw_
    obtain ⟨cs, sc, ec, rc⟩ := h3.rw_
    have s3 := (s1.trans s2).trans h3.keeps
    refine ⟨dTab (rs.map (List.take 2)), dTab (pairsL x ms), dp_dTab eb rb, dp_dTab ec rc, shaped_dTab (fun r hr y hy => ?_), shaped_dTab (pairs_ok o1 o2), _, rfl, ?_⟩
    · obtain ⟨r', h1, rfl⟩ := List.mem_map.mp hr
      exact o3 r' h1 y (List.mem_of_mem_take hy)
    rw [eqv_dTab]
    refine ite2 (fun c => ?_) (fun c => ?_)
    · refine kN ?_ _ s3
      unfold goalsOkL
      have : decide (rs.map (List.take 2) = pairsL x ms) = false := by simpa using c
      rw [this]
      rfl
    have ep : rs.map (List.take 2) = pairsL x ms := by simpa using c
    have hl3 := s3 _ _ hl
    have hR3 := hR.same s3
    have e3 := h3.keeps _ _ (s2 _ _ e1)
    refine ⟨_, rfl, l, rfl, ⟨_, SqL.of hl3⟩, fun D3 hD3 => ?_⟩
    refine lcG (as.zip rs) (fun ar => some (.bl (rowOkL ms ar.2))) (by rw [List.length_zip, ← hR.len, Nat.min_self]; exact walk_listL as V.ref) (by rw [List.length_zip]; omega) hD3 (yat_same _) (fun H' s => SqL.of (s _ _ hl3)) (fun i ar y H' H'' k1 hz sz hy k2 => ?_) (fun H4 s4 e4 => ?_)
    · obtain ⟨rfl, hy⟩ := hy
      rw [List.getElem?_zip_eq_some] at hz
      obtain rfl := map_get hz.1 hy
      have hrow := sz _ _ (hR3.get hz.1 hz.2)
      have kk := k2 _ (Same.refl _)
      refine ⟨rfl, _, rfl, ar.1, _, rfl, .inl (SqL.of hrow), rfl, _, rfl, ?_⟩
      rw [List.length_map, dec_int]
      have ed : ((ar.2.length : Int) == 3) = decide (ar.2.length = 3) := by
        by_cases hc : ar.2.length = 3
        · rw [hc]; rfl
        · rw [decide_eq_false hc]
          simp
          omega
      rw [ed]
      unfold rowOkL at kk
      refine ite2 (fun c3 => ?_) (fun c3 => ?_)
      · have h3' := of_decide_eq_true c3
        have hg : ar.2[2]? = some (ar.2.getD 2 Str.empty) := by
          rw [List.getD_eq_getElem?_getD, List.getElem?_eq_getElem (by omega)]
          rfl
        refine ⟨_, rfl, ar.1, _, _, V.str (ar.2.getD 2 Str.empty), rfl, rfl, SqL.of hrow, atI_nat (j := 2) (by rw [List.getElem?_map, hg]; rfl), _, rfl, D0, _, rfl, DGet.k (k := Sum.inr (ar.2.getD 2 Str.empty)) (sz _ _ e3), ?_⟩
        rw [dTrue_val]
        rw [c3, Bool.true_and] at kk
        exact kk
      · rw [Bool.eq_false_iff.mpr c3, Bool.false_and] at kk
        exact kk
    have ez : (as.zip rs).filterMap (fun ar => some (V.bl (rowOkL ms ar.2))) = (rs.map (rowOkL ms)).map V.bl := by
      rw [List.filterMap_eq_map', List.map_map]
      have : (as.zip rs).map Prod.snd = rs := List.map_snd_zip (by rw [hR.len]; exact Nat.le_refl _)
      conv => rhs; rw [← this, List.map_map]
      rfl
    rw [ez] at e4
    refine ⟨D3, _, rfl, SqL.of e4, _, rfl, ?_⟩
    have ea : (rs.map (rowOkL ms)).all id = rs.all (rowOkL ms) := by rw [List.all_map]; rfl
    rw [ea]
    have eg : goalsOkL x ms rs = rs.all (rowOkL ms) := by
      unfold goalsOkL
      rw [decide_eq_true ep, Bool.true_and]
    refine ite2 (fun c4 => ?_) (fun c4 => ?_)
    · refine kN ?_ _ (s3.trans s4)
      rw [eg]
      simpa using c4
    have c5 : rs.all (rowOkL ms) = true := by simpa using c4
    have hl4 := s4 _ _ hl3
    have hR4 := hR3.same s4
    refine ⟨_, rfl, l, rfl, ⟨_, SqL.of hl4⟩, fun D4 hD4 => ?_⟩
    refine dcGT (as.zip rs) (fun ar => [Sum.inr (ar.2.getD 0 Str.empty), Sum.inr (ar.2.getD 1 Str.empty)]) (fun ar => V.str (ar.2.getD 2 Str.empty)) (by rw [List.length_zip, ← hR.len, Nat.min_self]; exact walk_listL as V.ref) (by rw [List.length_zip]; omega) hD4 (yat_same _) (fun H' s => SqL.of (s _ _ hl4)) (fun i ar y H' H'' k1 k0 hz sz hy k2 => ?_) (fun H5 s5 e5 => ?_)
    · obtain ⟨rfl, hy⟩ := hy
      rw [List.getElem?_zip_eq_some] at hz
      obtain rfl := map_get hz.1 hy
      have hrow := sz _ _ (hR4.get hz.1 hz.2)
      have ok := List.all_eq_true.mp c5 ar.2 (List.mem_of_getElem? hz.2)
      unfold rowOkL at ok
      have h3' : ar.2.length = 3 := by simpa using (Bool.and_eq_true_iff.mp ok).1
      obtain ⟨u, v, z, huv⟩ : ∃ u v z, ar.2 = [u, v, z] := by
        match ar.2, h3' with
        | [u, v, z], _ => exact ⟨u, v, z, rfl⟩
      rw [huv] at hrow k2
      refine ⟨ar.1, _, rfl, SqL.of hrow, rfl, _, _, rfl, _, _, rfl, _, _, rfl, rfl, rfl, _, rfl, _, rfl, (by show 2 ≤ sizeLine; decide), fun t ht => ⟨_, rfl, k2 t _ (same_new ht) upd_same⟩⟩
    · refine kY (by rw [eg]; exact c5) D4 H5 ((s3.trans s4).free hD4) ((s3.trans s4).trans s5) ?_
      rw [e5]
      congr 2
      unfold goalsD dOf
      have : (as.zip rs).map Prod.snd = rs := List.map_snd_zip (by rw [hR.len]; exact Nat.le_refl _)
      conv => rhs; rw [← this, List.foldl_map]
end
end My
namespace My
open PySem PySem.Spec PyProof.Rows L2 PySem.GX
theorem join_mem (y : Str) : ∀ (parts : List Str) (p : Str), p ∈ parts → ∀ c ∈ p.cps.toList, c ∈ (Str.join y parts).cps.toList
  | [], _, h, _, _ => by simp at h
  | [x], p, h, c, hc => by
    simp at h; subst h
    exact hc
  | x :: z :: r, p, h, c, hc => by
    show c ∈ (x ++ y ++ Str.join y (z :: r)).cps.toList
    rw [cps_app, cps_app]
    simp only [List.mem_append]
    rcases List.mem_cons.mp h with rfl | h
    · exact .inl (.inl hc)
    · exact .inr (join_mem y (z :: r) p h c hc)
theorem ok_of_mem {x p : Str} (h : ∀ c ∈ p.cps.toList, c ∈ x.cps.toList) (ho : PyData.strOk x = true) : PyData.strOk p = true := by
  unfold PyData.strOk at ho ⊢
  rw [Array.all_eq_true_iff_forall_mem] at ho ⊢
  intro c hc
  exact ho c (by simpa using h c (by simpa using hc))
theorem split_ok {x y p : Str} (h : p ∈ Txt.split x y) (ho : PyData.strOk x = true) : PyData.strOk p = true := by
  refine ok_of_mem (fun c hc => ?_) ho
  have := join_mem y _ p h c hc
  rw [StrLaws.join_split] at this
  exact this
theorem mem_le_sum : ∀ {l : List Nat} {a : Nat}, a ∈ l → a ≤ l.sum
  | b :: t, a, h => by
    rw [List.sum_cons]
    rcases List.mem_cons.mp h with rfl | h
    · omega
    · have := mem_le_sum h
      omega
theorem split_small {x p : Str} {c : Nat} (h : p ∈ Txt.split x (sg c)) : p.length ≤ x.length := by
  have := split_weight x (sg c) (Nat.le_refl 1)
  have h1 := mem_le_sum (List.mem_map.mpr ⟨p, h, rfl⟩ : p.length ∈ (Txt.split x (sg c)).map (·.length))
  have h2 : 0 < (Txt.split x (sg c)).length := List.length_pos_of_mem h
  omega
theorem split_few (x : Str) (c : Nat) : (Txt.split x (sg c)).length ≤ x.length + 1 := by
  have := split_weight x (sg c) (Nat.le_refl 1)
  omega
theorem split_ne (x : Str) (c : Nat) : Txt.split x (sg c) ≠ [] := fun e => by
  have := split_len x c
  rw [e] at this
  simp at this
  have h : ∀ l : List Nat, 0 ≤ cnt c l := by
    intro l
    induction l with
    | nil => exact Int.le_refl 0
    | cons n t ih =>
      rw [cnt_cons]
      split <;> omega
  have := h x.cps.toList
  omega
end My
namespace My
open PySem PySem.Spec PyProof.Rows L2 PySem.GX
abbrev nl : Str := sg 10
abbrev sp : Str := sg 32
def rowsL (t : Str) : List (List Str) := (Txt.split t nl).map fun y => Txt.split y sp
abbrev titles : List Str := ["signs", "moods", "good"]
structure Parts where
  sg : Str
  ms : List Str
  gs : List Str
  rs : List (List Str)
/-- what a text writes, from its rows of words -/
def partsL : List (List Str) → Option Parts
  | (t0 :: s0) :: (t1 :: m0) :: (t2 :: g0) :: rs =>
    if [t0, t1, t2] = titles ∧ areSignsL s0 = true ∧ areMoodsL m0 = true ∧ areGoodL g0 m0 = true ∧ goalsOkL (s0.getD 0 Str.empty) m0 rs = true then some ⟨s0.getD 0 Str.empty, m0, g0, rs⟩ else none
  | _ => none
def parseL (t : Str) : Option Parts := partsL (rowsL t)
/-- the parts stand as the tuple T -/
def PartsAt (H : Hp) (T : Addr) (p : Parts) : Prop := ∃ M G D, H T = some (.tup [.str p.sg, .ref M, .ref G, .ref D]) ∧ H M = some (.tup (p.ms.map V.str)) ∧ H G = some (.tup (p.gs.map V.str)) ∧ H D = some (.dT (goalsD p.rs))
def spRead : Sp := fun vs H Q _ => ∃ t : Str, vs = [.str t] ∧ t.length ≤ 1000000 ∧ PyData.strOk t = true ∧ (parseL t = none → ∀ H', Same H H' → Q .non H') ∧ ∀ p, parseL t = some p → ∀ T H', Same H H' → PartsAt H' T p → Q (.ref T) H'
theorem rows_ne {t : Str} : ∀ r ∈ rowsL t, r ≠ [] := fun r hr => by
  obtain ⟨y, _, rfl⟩ := List.mem_map.mp hr
  exact split_ne y 32
theorem rows_ok {t : Str} (ht : PyData.strOk t = true) : ∀ r ∈ rowsL t, ∀ y ∈ r, PyData.strOk y = true := fun r hr y hy => by
  obtain ⟨z, hz, rfl⟩ := List.mem_map.mp hr
  exact split_ok hy (split_ok hz ht)
theorem rows_small {t : Str} : ∀ r ∈ rowsL t, r.length ≤ t.length + 1 ∧ ∀ y ∈ r, y.length ≤ t.length := fun r hr => by
  obtain ⟨z, hz, rfl⟩ := List.mem_map.mp hr
  have h1 := split_small hz
  have h2 : (Txt.split z sp).length ≤ z.length + 1 := split_few z 32
  exact ⟨by omega, fun y hy => Nat.le_trans (split_small hy) h1⟩
theorem rows_few (t : Str) : (rowsL t).length ≤ t.length + 1 := by
  unfold rowsL
  rw [List.length_map]
  exact split_few t 10
theorem heads_is {rs : List (List Str)} (hne : ∀ r ∈ rs, r ≠ []) (h : (rs.take 3).map (fun r => r.headD Str.empty) = titles) : ∃ s0 m0 g0 rest, rs = (("signs" : Str) :: s0) :: (("moods" : Str) :: m0) :: (("good" : Str) :: g0) :: rest := by
  match rs, hne, h with
  | [], _, h => cases h
  | [_], _, h => simp at h
  | [_, _], _, h => simp at h
  | a :: b :: c :: rest, hne, h =>
    have na := hne a (by simp)
    have nb := hne b (by simp)
    have nc := hne c (by simp)
    obtain ⟨x, xs, rfl⟩ := List.exists_cons_of_ne_nil na
    obtain ⟨y, ys, rfl⟩ := List.exists_cons_of_ne_nil nb
    obtain ⟨z, zs, rfl⟩ := List.exists_cons_of_ne_nil nc
    have h' : [x, y, z] = titles := h
    injection h' with e1 h'
    injection h' with e2 h'
    injection h' with e3 h'
    subst e1 e2 e3
    exact ⟨xs, ys, zs, rest, rfl⟩
theorem parts_none {rs : List (List Str)} (h : ¬ (rs.take 3).map (fun r => r.headD Str.empty) = titles) : partsL rs = none := by
  unfold partsL
  split
  · rename_i t0 s0 t1 m0 t2 g0 rs'
    rw [if_neg]
    intro z
    exact h z.1
  · rfl
theorem parts_is (s0 m0 g0 : List Str) (rest : List (List Str)) : partsL ((("signs" : Str) :: s0) :: (("moods" : Str) :: m0) :: (("good" : Str) :: g0) :: rest) =
    if areSignsL s0 = true ∧ areMoodsL m0 = true ∧ areGoodL g0 m0 = true ∧ goalsOkL (s0.getD 0 Str.empty) m0 rest = true then some ⟨s0.getD 0 Str.empty, m0, g0, rest⟩ else none := by
  unfold partsL
  simp only [true_and]
theorem signs_one {s0 : List Str} (h : areSignsL s0 = true) : ∃ x, s0 = [x] ∧ x.length ≤ 3 := by
  match s0, h with
  | [x], h =>
    rw [areS1] at h
    simp only [Bool.and_eq_true] at h
    exact ⟨x, rfl, of_decide_eq_true h.1.1.2⟩
theorem moods_few {m0 : List Str} (h : areMoodsL m0 = true) : m0.length ≤ 300 := by
  unfold areMoodsL at h
  simp only [Bool.and_eq_true] at h
  exact of_decide_eq_true h.1.1.2
section
variable {P : Program} {w : World} {K : PySem.W.Frag} {mg : Str → Option Value} {base : Heap}
abbrev nRead : List Str := ["text", "rows", "signs", "moods", "good", "goals", "line", "row"]
theorem scRead : FnScope nRead ["text"] (defScope sRead) := ⟨rfl, rfl, rfl, by decide +kernel, rfl, by decide +kernel, by decide +kernel⟩
theorem ok_read {f tT : Addr} {fd : FuncData} (F : Fun K "read_rule" "read_rule" sRead f fd) (h1 : Hv P w K mg base 2 "are_signs" ["words"] (spSigns K)) (h2 : Hv P w K mg base 3 "are_moods" ["words"] (spMoods K)) (h3 : Hv P w K mg base 1 "are_good" ["words", "moods"] (spGood K))
    (h4 : Hv P w K mg base 1 "read_goals" ["signs", "moods", "rows"] spGoals) (gT : mg "TITLES" = some (.ref tT)) (kT : ∀ H, SqT K H tT (titles.map V.str)) (hLi : mg "list" = none) (hTu : mg "tuple" = none) : FnOk P w K mg base CX0 4 f fd ["text"] spRead := by
  refine F.ok scRead (fun vs H Q E h => ?_) (fun cdv A outer s H vs Q E hr h => ?_)
  · obtain ⟨t, rfl, _⟩ := h
    rfl
  · obtain ⟨t, rfl, zt, ot, kN, kY⟩ := h
    refine ⟨_, pss_cons (ps_setLc (i := 1) (own := [("line", 6)]) (g := gName 6) (tt := tYes) rfl scRead.nd rfl rfl (sw_true rfl rfl rfl (by decide +kernel)) (pi_list (pe_split (pv 0) pe_str))
          (blkOk_by (N := nRead) (sc := defScope sRead) (by decide +kernel)) (fun _ _ _ _ _ => pg_name (i := 6) scRead.nd rfl (Or.inl rfl)) (fun _ _ _ _ _ => pts_nil) (fun _ _ _ _ _ => pe_split (pv 6) pe_str))
      (pss_cons (ps_if (pt_cmpR (op_neD hr.units) (pe_lc (own := [("row", 7)]) (g := gName 7) (tt := tYes) rfl scRead.nd (pi_list (pe_slice sl_list (pv 1) po_none (po_some pe_int)))
            (blkOk_by (N := nRead) (sc := defScope sRead) (by decide +kernel)) (fun _ _ _ _ _ => pg_name (i := 7) scRead.nd rfl (Or.inl rfl)) (fun _ _ _ _ _ => pts_nil) (te := tOp (rIxL K) (tVar 7) (tC (.int 0))) (fun _ _ _ _ _ => pe_ix ix_list (pv 7) pe_int (fun _ _ => rfl)))
          (pe_callTy call_list_of (by rfl) hLi (by decide +kernel) (pa_cons (pe_glob (v := .ref tT) rfl gT rfl) pa_nil)) (nomark _))
        (pss_one (ps_ret pe_non)) pss_nil)
      (pss_cons (ps_asg (pe_lc (own := [("row", 7)]) (g := gName 7) (tt := tYes) rfl scRead.nd (pi_list (pe_slice sl_list (pv 1) po_none (po_some pe_int)))
            (blkOk_by (N := nRead) (sc := defScope sRead) (by decide +kernel)) (fun _ _ _ _ _ => pg_name (i := 7) scRead.nd rfl (Or.inl rfl)) (fun _ _ _ _ _ => pts_nil) (te := tSl (rSlL K) (tVar 7) (tPart (tC (.int 1))) tNoPart) (fun _ _ _ _ _ => pe_slice sl_list (pv 7) (po_some pe_int) po_none))
          (pg_unl (n := 3) rfl (pgs_cons (pg_name (i := 2) scRead.nd rfl (Or.inl rfl)) (pgs_cons (pg_name (i := 3) scRead.nd rfl (Or.inl rfl)) (pgs_cons (pg_name (i := 4) scRead.nd rfl (Or.inl rfl)) pgs_nil)))))
      (pss_cons (ps_if (pt_not (PW.pt (pw_and (pt_val (pe_cl h1 (hr.mono (by decide)) rfl pass0 (pa_cons (pv 2) pa_nil))) (pw_and (pt_val (pe_cl h2 hr rfl pass0 (pa_cons (pv 3) pa_nil))) (pw_and1 (pt_val (pe_cl h3 (hr.mono (by decide)) rfl pass0 (pa_cons (pv 4) (pa_cons (pv 3) pa_nil)))))))))
        (pss_one (ps_ret pe_non)) pss_nil)
      (pss_cons (ps_set (i := 5) scRead.nd rfl (Or.inl rfl) (pe_cl h4 (hr.mono (by decide)) rfl pass0 (pa_cons (pe_ix ix_list (pv 2) pe_int (fun _ _ => rfl)) (pa_cons (pv 3) (pa_cons (pe_slice sl_list (pv 1) (po_some pe_int) po_none) pa_nil)))))
      (pss_cons (ps_if (pt_cmpR op_isN (pv 5) pe_non (nomark _)) (pss_one (ps_ret pe_non)) pss_nil)
      (pss_one (ps_ret (pe_tup (pa_cons (pe_ix ix_list (pv 2) pe_int (fun _ _ => rfl)) (pa_cons (pe_callTy call_tuple_of (by rfl) hTu (by decide +kernel) (pa_cons (pv 3) pa_nil)) (pa_cons (pe_callTy call_tuple_of (by rfl) hTu (by decide +kernel) (pa_cons (pv 4) pa_nil)) (pa_cons (pv 5) pa_nil)))))))))))), ?_⟩
    have enl : (Str.ofString "\n") = nl := by decide +kernel
    have esp : (Str.ofString " ") = sp := by decide +kernel
    have z0 : t.length + 2 ≤ sizeLine := by rw [sizeLine_eq]; omega
    refine ⟨_, rfl, ⟨_, rfl⟩, t, _, rfl, rfl, rfl, z0, fun p0 hp0 => ⟨p0, rfl, ⟨_, SqL.of upd_same⟩, fun D0 hD0 => ?_⟩⟩
    rw [enl] at hD0 ⊢
    have hl0 : upd H p0 (.lst ((Txt.split t nl).map V.str)) p0 = some (.lst ((Txt.split t nl).map V.str)) := upd_same
    generalize eH0 : upd H p0 (.lst ((Txt.split t nl).map V.str)) = H0 at hD0 hl0 ⊢
    have s0 : Same H H0 := by rw [← eH0]; exact same_new hp0
    refine lc_it (walk_listL (Txt.split t nl) V.str) (fun i H' => Pr H0 D0 H' ((rowsL t).take i)) (Pr.zero hD0) (fun i H' _ h => SqL.of (h.keeps _ _ hl0)) (fun i y H' H'' hi h hy => ?_) (fun H1 g1 => ?_)
    · obtain ⟨rfl, hy⟩ := hy
      have ha : (Txt.split t nl)[i]? = some (Txt.split t nl)[i] := List.getElem?_eq_getElem hi
      obtain rfl := map_get ha hy
      have et : (rowsL t).take (i + 1) = (rowsL t).take i ++ [Txt.split (Txt.split t nl)[i] sp] := by
        unfold rowsL
        rw [List.take_add_one, List.getElem?_map, ha]
        rfl
      have zl := split_small (List.getElem_mem hi)
      refine ⟨rfl, _, rfl, ⟨_, rfl⟩, _, _, rfl, rfl, rfl, (by rw [sizeLine_eq]; omega), fun p hp => ?_⟩
      rw [et, esp]
      refine h.push hD0 hp ?_
      have := rows_few t
      rw [List.length_take]
      omega
    have g1' : Pr H0 D0 H1 (rowsL t) := by
      have : (rowsL t).take (Txt.split t nl).length = rowsL t := by
        have e : (Txt.split t nl).length = (rowsL t).length := by unfold rowsL; rw [List.length_map]
        rw [e, List.take_length]
      rw [this] at g1
      exact g1
    obtain ⟨as, s1', eD0, rw0⟩ := g1'.rw_
    have s1 := s0.trans s1'
    have nes := rows_ne (t := t)
    have oks := rows_ok (t := t) ot
    have sms := rows_small (t := t)
    have few := rows_few t
    generalize eR : rowsL t = rs at rw0 nes oks sms few
    have ep : parseL t = partsL rs := by rw [← eR]; rfl
    rw [ep] at kN kY
    clear g1 g1' ep eR
    have len := rw0.len
    -- the titles
    have ecut : cutV (as.map V.ref) none (some 3) = (as.take 3).map V.ref := by
      rw [show (3 : Int) = ((3 : Nat) : Int) from rfl, cut_toV _ 3 (by decide), List.map_take]
    refine ⟨_, rfl, 3, rfl, D0, _, rfl, SqL.of eD0, fun p3 hp3 => ⟨p3, rfl, ⟨_, SqL.of upd_same⟩, fun D1 hD1 => ?_⟩⟩
    rw [ecut] at hD1 ⊢
    have hl3 : upd H1 p3 (.lst ((as.take 3).map V.ref)) p3 = some (.lst ((as.take 3).map V.ref)) := upd_same
    generalize eH2 : upd H1 p3 (.lst ((as.take 3).map V.ref)) = H2 at hD1 hl3 ⊢
    have s2' : Same H1 H2 := by rw [← eH2]; exact same_new hp3
    have rw3 := (rw0.take 3).same s2'
    refine lcG ((as.take 3).zip (rs.take 3)) (fun ar => some (.str (ar.2.headD Str.empty))) (by rw [List.length_zip, ← rw3.len, Nat.min_self]; exact walk_listL (as.take 3) V.ref) (by rw [List.length_zip, List.length_take]; omega) hD1 (yat_same _) (fun H' s => SqL.of (s _ _ hl3)) (fun i ar y H' H'' k1 hz sz hy k2 => ?_) (fun H3 s3 e3 => ?_)
    · obtain ⟨rfl, hy⟩ := hy
      rw [List.getElem?_zip_eq_some] at hz
      obtain rfl := map_get hz.1 hy
      have hrow := sz _ _ (rw3.get hz.1 hz.2)
      have nr := nes ar.2 (List.mem_of_mem_take (List.mem_of_getElem? hz.2))
      obtain ⟨u, us, e⟩ := List.exists_cons_of_ne_nil nr
      rw [e] at hrow k2
      exact ⟨rfl, _, rfl, ar.1, _, _, _, rfl, rfl, SqL.of hrow, atI_nat (j := 0) rfl, k2 _ (Same.refl _)⟩
    have ez : ((as.take 3).zip (rs.take 3)).filterMap (fun ar => some (V.str (ar.2.headD Str.empty))) = ((rs.take 3).map (fun r => r.headD Str.empty)).map V.str := by
      rw [List.filterMap_eq_map', List.map_map]
      have : ((as.take 3).zip (rs.take 3)).map Prod.snd = rs.take 3 := List.map_snd_zip (by rw [rw3.len]; exact Nat.le_refl _)
      conv => rhs; rw [← this, List.map_map]
      rfl
    rw [ez] at e3
    refine ⟨tT, _, rfl, .inr (kT _), fun l4 hl4 => ?_⟩
    have s4 := ((s1.trans s2').trans s3).trans (same_new (o := .lst (titles.map V.str)) hl4)
    refine ⟨dTx _, dTx titles, dp_dTx (keep1 e3 hl4), dp_dTx upd_same, shaped_dTx (fun x hx => ?_), (by decide +kernel), _, rfl, ?_⟩
    · obtain ⟨r, h1, rfl⟩ := List.mem_map.mp hx
      have h2 := List.mem_of_mem_take h1
      obtain ⟨u, us, rfl⟩ := List.exists_cons_of_ne_nil (nes r h2)
      exact oks _ h2 u (by simp)
    rw [eqv_dTx]
    refine ite2 (fun c => kN (parts_none (by simpa using c)) _ s4) (fun c => ?_)
    obtain ⟨s0', m0, g0, rest, rfl⟩ := heads_is nes (by simpa using c)
    rw [parts_is] at kN kY
    generalize eH4 : upd H3 l4 (.lst (titles.map V.str)) = H4 at s4 ⊢
    have s14 : Same H1 H4 := by
      rw [← eH4]
      exact (s2'.trans s3).trans (same_new hl4)
    have eD4 := s14 _ _ eD0
    have rw4 := rw0.same s14
    clear e3 rw3 ez hl3 eH2 hD1 hp3 hl4 eH4 s3 s2' c
    -- the three lists
    refine ⟨_, rfl, 3, rfl, D0, _, rfl, SqL.of eD4, fun p5 hp5 => ⟨p5, rfl, ⟨_, SqL.of upd_same⟩, fun D2 hD2 => ?_⟩⟩
    rw [ecut] at hD2 ⊢
    have hl5 : upd H4 p5 (.lst ((as.take 3).map V.ref)) p5 = some (.lst ((as.take 3).map V.ref)) := upd_same
    generalize eH5 : upd H4 p5 (.lst ((as.take 3).map V.ref)) = H5 at hD2 hl5 ⊢
    have s5' : Same H4 H5 := by rw [← eH5]; exact same_new hp5
    have rw5 := (rw4.take 3).same s5'
    refine lc_it (walk_listL (as.take 3) V.ref) (fun i H' => Pr H5 D2 H' ([s0', m0, g0].take i)) (Pr.zero hD2) (fun i H' _ h => SqL.of (h.keeps _ _ hl5)) (fun i y H' H'' hi h hy => ?_) (fun H6 g6 => ?_)
    · obtain ⟨rfl, hy⟩ := hy
      have ha : (as.take 3)[i]? = some (as.take 3)[i] := List.getElem?_eq_getElem hi
      obtain rfl := map_get ha hy
      have hi3 : i < 3 := by rw [List.length_take] at hi; omega
      have row : ∃ u us, [(("signs" : Str) :: s0'), (("moods" : Str) :: m0), (("good" : Str) :: g0)][i]? = some (u :: us) ∧ [s0', m0, g0][i]? = some us := by
        match i, hi3 with
        | 0, _ => exact ⟨_, _, rfl, rfl⟩
        | 1, _ => exact ⟨_, _, rfl, rfl⟩
        | 2, _ => exact ⟨_, _, rfl, rfl⟩
      obtain ⟨u, us, hu, hus⟩ := row
      refine ⟨rfl, _, rfl, 1, rfl, (as.take 3)[i], _, rfl, SqL.of (h.keeps _ _ (rw5.get ha hu)), fun p hp => ?_⟩
      rw [show (1 : Int) = ((1 : Nat) : Int) from rfl, cut_fromV _ 1 (by decide)]
      have et : [s0', m0, g0].take (i + 1) = [s0', m0, g0].take i ++ [us] := by
        rw [List.take_add_one, hus]
        rfl
      rw [et]
      exact h.push (r := us) hD2 hp (by rw [List.length_take]; simp; omega)
    have g6' : Pr H5 D2 H6 [s0', m0, g0] := by
      have : [s0', m0, g0].take (as.take 3).length = [s0', m0, g0] := by
        rw [List.length_take, len]
        simp
      rw [this] at g6
      exact g6
    obtain ⟨bs, s6', eD6, rw6⟩ := g6'.rw_
    have s6 := (s4.trans s5').trans s6'
    have s16 := (s14.trans s5').trans s6'
    have eR6 := s16 _ _ eD0
    have rr6 := rw0.same s16
    clear g6 g6' rw5 hl5 eH5 hD2 s6' s5' rw4 eD4 hp5
    cases rw6 with
    | cons e1 t1 =>
    cases t1 with
    | cons e2 t2 =>
    cases t2 with
    | cons e3 t3 =>
    cases t3
    rename_i a1 a2 a3
    refine ⟨D2, _, rfl, SqL.of eD6, rfl, _, _, rfl, _, _, rfl, _, _, rfl, rfl, ?_⟩
    have m1 := sms (("signs" : Str) :: s0') (by simp)
    have m2 := sms (("moods" : Str) :: m0) (by simp)
    have m3 := sms (("good" : Str) :: g0) (by simp)
    have o1 := oks (("signs" : Str) :: s0') (by simp)
    have o2 := oks (("moods" : Str) :: m0) (by simp)
    have o3 := oks (("good" : Str) :: g0) (by simp)
    simp only [List.length_cons] at m1 m2 m3
    refine ⟨_, rfl, a1, s0', rfl, e1, fun x hx => Nat.le_trans (m1.2 x (by simp [hx])) (by omega), fun H7 s7 => ⟨_, rfl, ite2 (fun c1 => ?_) (fun c1 => ?_)⟩⟩
    rotate_left
    · exact kN (by rw [if_neg (fun z => c1 z.1)]) _ (s6.trans s7)
    refine ⟨_, rfl, a2, m0, rfl, s7 _ _ e2, fun x hx => Nat.le_trans (m2.2 x (by simp [hx])) (by omega), fun H8 s8 => ⟨_, rfl, ite2 (fun c2 => ?_) (fun c2 => ?_)⟩⟩
    rotate_left
    · exact kN (by rw [if_neg (fun z => c2 z.2.1)]) _ ((s6.trans s7).trans s8)
    have s68 := s7.trans s8
    refine ⟨_, rfl, _, rfl, a3, a2, g0, m0, rfl, s68 _ _ e3, s68 _ _ e2, (by omega), (by omega), fun x hx => o3 x (by simp [hx]), fun x hx => o2 x (by simp [hx]), fun H9 s9 => ⟨_, rfl, ite2 (fun c3 => ?_) (fun c3 => ?_)⟩⟩
    · refine kN ?_ _ ((s6.trans s68).trans s9)
      rw [if_neg]
      intro z
      rw [z.2.2.1] at c3
      cases c3
    have c3' : areGoodL g0 m0 = true := by simpa using c3
    have s69 := s68.trans s9
    obtain ⟨x, rfl, zx⟩ := signs_one c1
    have zm := moods_few c2
    have rest9 := (rr6.same s69).drop 3
    refine ⟨_, rfl, a1, _, _, _, rfl, rfl, SqL.of (s69 _ _ e1), atI_nat (j := 0) rfl, _, rfl, _, rfl, 3, rfl, D0, _, rfl, SqL.of (s69 _ _ eR6), fun p7 hp7 => ?_⟩
    rw [show (3 : Int) = ((3 : Nat) : Int) from rfl, cut_fromV _ 3 (by decide), ← List.map_drop]
    have s10 := s69.trans (same_new (o := .lst ((as.drop 3).map V.ref)) hp7)
    refine ⟨x, a2, p7, m0, as.drop 3, rest, rfl, s10 _ _ e2, upd_same, rest9.same (same_new hp7), zx, zm, ?_, o1 x (by simp), fun y hy => o2 y (by simp [hy]), fun r hr y hy => oks r (by simp [hr]) y hy, fun c4 H10 s11 => ?_, fun c4 D H10 hD s11 eD => ?_⟩
    · simp only [List.length_cons] at few
      omega
    · refine ⟨_, rfl, rfl, _, rfl, iteT (kN ?_ _ ((s6.trans s10).trans s11))⟩
      rw [if_neg]
      intro z
      have := z.2.2.2
      simp only [List.getD_cons_zero] at this
      rw [c4] at this
      cases this
    · refine ⟨_, rfl, rfl, _, rfl, iteF ?_⟩
      have q1 := (s10.trans s11) _ _ e1
      have q2 := (s10.trans s11) _ _ e2
      have q3 := (s10.trans s11) _ _ e3
      refine ⟨_, rfl, a1, _, _, _, rfl, rfl, SqL.of q1, atI_nat (j := 0) rfl, _, rfl, a2, _, rfl, .inl ⟨SqL.of q2, fun M hM => ?_⟩⟩
      refine ⟨_, rfl, a3, _, rfl, .inl ⟨SqL.of (keep1 q3 hM), fun G hG => ?_⟩⟩
      refine ⟨_, rfl, (by show 4 ≤ sizeLine; decide), fun T hT => ?_⟩
      refine kY _ (by rw [if_pos ⟨c1, c2, c3', c4⟩]) T _ (((((s6.trans s10).trans s11).trans (same_new hM)).trans (same_new hG)).trans (same_new hT)) ⟨M, G, D, upd_same, keep1 (keep1 upd_same hG) hT, keep1 upd_same hT, keep1 (keep1 (keep1 eD hM) hG) hT⟩
end
end My
namespace My
open PySem PySem.Spec PyProof.Rows L2
abbrev kT (t : Str) (c : Nat) : List Key := [Sum.inr t, Sum.inr (sg c)]
def gf (kvs : List (List Key × V)) (t : Str) (c : Nat) : Str := match valV kvs (kT t c) with
  | some (.str y) => y
  | _ => Str.empty
theorem gf_is {kvs : List (List Key × V)} {t : Str} {c : Nat} {y : Str} (h : valV kvs (kT t c) = some (.str y)) : gf kvs t c = y := by
  unfold gf
  rw [h]
end My
namespace My
open PySem PySem.Spec PyProof.Rows L2
/-- the fields of a rule -/
abbrev rFs (t : Str) (p : Parts) (M G D : Addr) : List (Str × V) := [("written", .str t), ("letters", .str p.sg), ("words", .ref M), ("chosen", .ref G), ("goals", .ref D)]
/-- a rule stands at a -/
def RuleAt (H : Hp) (C a : Addr) (t : Str) (p : Parts) : Prop := ∃ dx M G D, H a = some (.ins C dx (rFs t p M G D)) ∧ H M = some (.tup (p.ms.map V.str)) ∧ H G = some (.tup (p.gs.map V.str)) ∧ H D = some (.dT (goalsD p.rs))
theorem RuleAt.same {H H' : Hp} {C a : Addr} {t : Str} {p : Parts} (h : RuleAt H C a t p) (s : Same H H') : RuleAt H' C a t p := by
  obtain ⟨dx, M, G, D, e1, e2, e3, e4⟩ := h
  exact ⟨dx, M, G, D, s _ _ e1, s _ _ e2, s _ _ e3, s _ _ e4⟩
def spInit (C : Addr) : Sp := fun vs H Q _ => ∃ (a dx : Addr) (t : Str) (p : Parts), vs = [.ref a, .str t] ∧ H a = some (.ins C dx []) ∧ t.length ≤ 1000000 ∧ PyData.strOk t = true ∧ parseL t = some p ∧
  ∀ H', (∀ b o, b ≠ a → H b = some o → H' b = some o) → RuleAt H' C a t p → Q .non H'
/-- what is fixed of the class -/
structure RuC (K : PySem.W.Frag) (C : Addr) : Prop where
  cl : Cls K C
  f1 : NoAttr K C "written"
  f2 : NoAttr K C "letters"
  f3 : NoAttr K C "words"
  f4 : NoAttr K C "chosen"
  f5 : NoAttr K C "goals"
section
variable {P : Program} {w : World} {K : PySem.W.Frag} {mg : Str → Option Value} {base : Heap}
abbrev sInit : Stmt := inClass sRule 0
abbrev nInit : List Str := ["self", "text", "parts"]
theorem scInit : FnScope nInit ["self", "text"] (defScope sInit) := ⟨rfl, rfl, rfl, by decide +kernel, rfl, by decide +kernel, by decide +kernel⟩
theorem ok_init {f C : Addr} {fd : FuncData} (F : Fun K "__init__" "Rule.__init__" sInit f fd) (T : RuC K C) (hR : Hv P w K mg base 4 "read_rule" ["text"] spRead) (hIs : mg "isinstance" = none) (hSt : mg "str" = none) : FnOk P w K mg base CX0 5 f fd ["self", "text"] (spInit C) := by
  refine F.ok scInit (fun vs H Q E h => ?_) (fun cdv A outer s H vs Q E hr h => ?_)
  · obtain ⟨a, dx, t, p, rfl, _⟩ := h
    rfl
  · obtain ⟨a, dx, t, p, rfl, ha, zt, ot, pt, k⟩ := h
    refine ⟨_, pss_cons (ps_set (i := 2) scInit.nd rfl (Or.inl rfl) (pe_ifExp (pt_val (pe_callB call_isi (by rfl) hIs (by decide +kernel) (pa_cons (pv 1) (pa_cons (pe_bltn (v := .ty "str") (by rfl) hSt (by decide +kernel) rfl) pa_nil)))) (pe_cl hR hr rfl pass0 (pa_cons (pv 1) pa_nil)) pe_non))
      (pss_cons (ps_if (pt_cmpR op_isN (pv 2) pe_non (nomark _)) (pss_one ps_never) pss_nil)
      (pss_cons (ps_fld (pv 0) (pv 1) rfl)
      (pss_one (ps_asg (pv 2) (pg_tup (by rfl) (pgs_cons (pg_fld (pv 0)) (pgs_cons (pg_fld (pv 0)) (pgs_cons (pg_fld (pv 0)) (pgs_cons (pg_fld (pv 0)) pgs_nil))))))))), ?_⟩
    refine ⟨_, rfl, .str t, .ty "str", _, .type "str", true, rfl, .ty _, .base (.str t), kit_ty (by decide +kernel), _, rfl, iteT ?_⟩
    refine ⟨_, rfl, t, rfl, zt, ot, (fun z => by rw [pt] at z; cases z), fun p' hp' T' H1 s1 hT => ?_⟩
    rw [pt] at hp'
    cases hp'
    obtain ⟨M, G, D, e1, e2, e3, e4⟩ := hT
    have ea := s1 _ _ ha
    refine ⟨_, rfl, rfl, _, rfl, iteF ?_⟩
    refine ⟨_, rfl, _, rfl, a, C, dx, _, rfl, ea, T.cl, T.f1, by decide, ?_⟩
    have ne : ∀ {b : Addr} {xs : List V}, H1 b = some (.tup xs) → b ≠ a := fun e => ne_of e ea (by intro z; cases z)
    have nD : D ≠ a := ne_of e4 ea (by intro z; cases z)
    refine ⟨_, rfl, T', _, rfl, SqT.of (by rw [upd_ne (ne e1)]; exact e1), rfl, _, _, rfl, _, rfl, a, C, dx, _, rfl, upd_same, T.cl, T.f2, (by show 1 < 1000; decide), ?_⟩
    rw [upd_upd]
    refine ⟨_, _, rfl, _, rfl, a, C, dx, _, rfl, upd_same, T.cl, T.f3, (by show 2 < 1000; decide), ?_⟩
    rw [upd_upd]
    refine ⟨_, _, rfl, _, rfl, a, C, dx, _, rfl, upd_same, T.cl, T.f4, (by show 3 < 1000; decide), ?_⟩
    rw [upd_upd]
    refine ⟨_, _, rfl, _, rfl, a, C, dx, _, rfl, upd_same, T.cl, T.f5, (by show 4 < 1000; decide), ?_⟩
    rw [upd_upd]
    refine ⟨rfl, k _ (fun b o n e => by rw [upd_ne n]; exact s1 _ _ e) ⟨dx, M, G, D, upd_same, ?_, ?_, ?_⟩⟩
    · rw [upd_ne (ne e2)]; exact e2
    · rw [upd_ne (ne e3)]; exact e3
    · rw [upd_ne nD]; exact e4
end
end My
namespace My
open PySem PySem.Spec PyProof.Rows L2 PySem.GX
def isRowL (x r : Str) : Bool := decide (r.length ≤ 1000) && r.cps.toList.all fun c => decide (c ∈ x.cps.toList)
/-- v is no row of the signs x -/
def NoRow (K : PySem.W.Frag) (H : Hp) (x : Str) (v : V) : Prop := (∃ r, v = .str r ∧ r.length ≤ 16000000 ∧ isRowL x r = false) ∨ ∃ ty, TyX K H v ty ∧ PySem.W.kitOne K ty (.type "str") = some false
end My
namespace My
open PySem PySem.Spec PyProof.Rows L2 PySem.GX
def spRow : Sp := fun vs H Q _ => ∃ (r x : Str), vs = [.str r, .str x] ∧ r.length ≤ 16000000 ∧ ∀ H', Same H H' → Q (.bl (isRowL x r)) H'
def spRowX (K : PySem.W.Frag) : Sp := fun vs H Q _ => ∃ (v : V) (x : Str), vs = [v, .str x] ∧ NoRow K H x v ∧ ∀ H', Same H H' → Q (.bl false) H'
section
variable {P : Program} {w : World} {K : PySem.W.Frag} {mg : Str → Option Value} {base : Heap}
theorem pe_neverE {X : Cx} {e : Expr} : PE X e (fun _ _ _ => False) := ⟨fun _ _ _ _ _ _ h => h.elim⟩
theorem FnOk.or_ {CX : CXT} {k : Nat} {f : Addr} {fd : FuncData} {ps : List Str} {s1 s2 : Sp} (a : FnOk P w K mg base CX k f fd ps s1) (b : FnOk P w K mg base CX k f fd ps s2) : FnOk P w K mg base CX k f fd ps (fun vs H Q E => s1 vs H Q E ∨ s2 vs H Q E) :=
  ⟨fun vs H Q E h => h.elim (a.len vs H Q E) (b.len vs H Q E), fun A outer s H args us vs Q E hr e0 hb r h => h.elim (a.run A outer s H args us vs Q E hr e0 hb r) (b.run A outer s H args us vs Q E hr e0 hb r)⟩
theorem FnOk.imp_ {CX : CXT} {k : Nat} {f : Addr} {fd : FuncData} {ps : List Str} {s1 s2 : Sp} (a : FnOk P w K mg base CX k f fd ps s1) (m : ∀ vs H Q E, s2 vs H Q E → s1 vs H Q E) : FnOk P w K mg base CX k f fd ps s2 :=
  ⟨fun vs H Q E h => a.len vs H Q E (m _ _ _ _ h), fun A outer s H args us vs Q E hr e0 hb r h => a.run A outer s H args us vs Q E hr e0 hb r (m _ _ _ _ h)⟩
theorem scRow : FnScope ["value", "letters"] ["value", "letters"] (defScope sRowOf) := ⟨rfl, rfl, rfl, by decide +kernel, rfl, by decide +kernel, by decide +kernel⟩
theorem made_all (x r : Str) : madeL r x = r.cps.toList.all fun c => decide (c ∈ x.cps.toList) := by
  unfold madeL
  rw [List.all_map]
  rfl
theorem ok_row {f : Addr} {fd : FuncData} {tA : Tok} (F : Fun K "is_row_of" "is_row_of" sRowOf f fd) (hO : Hv P w K mg base 1 "made_of" ["text", "letters"] spMade) (hIs : mg "isinstance" = none) (hSt : mg "str" = none) (hL : mg "len" = none) (gM : mg "MOST_ROW" = some (.int 1000 tA)) : FnOk P w K mg base CX0 2 f fd ["value", "letters"] spRow := by
  refine F.ok scRow (fun vs H Q E h => ?_) (fun cdv A outer s H vs Q E hr h => ?_)
  · obtain ⟨r, x, rfl, _⟩ := h
    rfl
  · obtain ⟨r, x, rfl, zr, k⟩ := h
    refine ⟨_, pss_one (ps_ret (pe_and (pe_callB call_isi (by rfl) hIs (by decide +kernel) (pa_cons (pv 0) (pa_cons (pe_bltn (v := .ty "str") (by rfl) hSt (by decide +kernel) rfl) pa_nil)))
        (pe_and (pe_cmpR op_le (pe_callB call_len_str (by rfl) hL PySem.boot_len (pa_cons (pv 0) pa_nil)) (pe_glob (v := .int 1000) rfl gM ⟨_, rfl⟩) (nomark _)) (pe_one (pe_cl hO hr rfl pass0 (pa_cons (pv 0) (pa_cons (pv 1) pa_nil))))))), ?_⟩
    refine ⟨_, rfl, .str r, .ty "str", _, .type "str", true, rfl, .ty _, .base (.str r), kit_ty (by decide +kernel), _, rfl, iteT ?_⟩
    refine ⟨_, rfl, r, rfl, (by rw [sizeLine_eq]; omega), _, _, rfl, rfl, _, rfl, ite2 (fun c => ?_) (fun c => ?_)⟩
    · have h1 : (r.length : Int) ≤ 1000 := of_decide_eq_true c
      refine ⟨_, rfl, _, rfl, r, x, rfl, zr, fun H' s' => ?_⟩
      have e : madeL r x = isRowL x r := by
        unfold isRowL
        rw [decide_eq_true (by omega : r.length ≤ 1000), Bool.true_and, made_all]
      rw [e]
      exact k _ s'
    · have h1 : ¬ (r.length : Int) ≤ 1000 := by simpa using c
      have e : isRowL x r = false := by
        unfold isRowL
        rw [decide_eq_false (by omega : ¬ r.length ≤ 1000)]
        rfl
      rw [e] at k
      exact k _ (Same.refl _)
def spRowT (K : PySem.W.Frag) : Sp := fun vs H Q _ => ∃ (v : V) (x : Str) (ty : Value), vs = [v, .str x] ∧ TyX K H v ty ∧ PySem.W.kitOne K ty (.type "str") = some false ∧ Q (.bl false) H
theorem ok_rowT {f : Addr} {fd : FuncData} (F : Fun K "is_row_of" "is_row_of" sRowOf f fd) (hIs : mg "isinstance" = none) (hSt : mg "str" = none) : FnOk P w K mg base CX0 2 f fd ["value", "letters"] (spRowT K) := by
  refine F.ok scRow (fun vs H Q E h => ?_) (fun cdv A outer s H vs Q E hr h => ?_)
  · obtain ⟨v, x, ty, rfl, _⟩ := h
    rfl
  · obtain ⟨v, x, ty, rfl, hty, hk, k⟩ := h
    refine ⟨_, pss_one (ps_ret (pe_and (pe_callB call_isi (by rfl) hIs (by decide +kernel) (pa_cons (pv 0) (pa_cons (pe_bltn (v := .ty "str") (by rfl) hSt (by decide +kernel) rfl) pa_nil))) pe_neverE)), ?_⟩
    exact ⟨_, rfl, v, .ty "str", ty, .type "str", false, rfl, .ty _, hty, hk, _, rfl, iteF k⟩
theorem ok_rowX {f : Addr} {fd : FuncData} {tA : Tok} (F : Fun K "is_row_of" "is_row_of" sRowOf f fd) (hO : Hv P w K mg base 1 "made_of" ["text", "letters"] spMade) (hIs : mg "isinstance" = none) (hSt : mg "str" = none) (hL : mg "len" = none) (gM : mg "MOST_ROW" = some (.int 1000 tA)) : FnOk P w K mg base CX0 2 f fd ["value", "letters"] (spRowX K) := by
  refine FnOk.imp_ (FnOk.or_ (ok_row F hO hIs hSt hL gM) (ok_rowT F hIs hSt)) fun vs H Q E ⟨v, x, e, nr, k⟩ => ?_
  rcases nr with ⟨r, rfl, zr, ir⟩ | ⟨ty, hty, hk⟩
  · exact .inl ⟨r, x, e, zr, by rw [ir]; exact k⟩
  · exact .inr ⟨v, x, ty, e, hty, hk, k _ (Same.refl _)⟩
end
end My
namespace My
open PySem PySem.Spec PyProof.Rows L2
abbrev sMood : Stmt := inClass sRule 8
abbrev sHas : Stmt := inClass sRule 9
/-- the method x of C is there, and keeps the promise -/
structure HvM (P : Program) (w : World) (K : PySem.W.Frag) (mg : Str → Option Value) (base : Heap) (k : Nat) (C : Addr) (x : Str) (ps : List Str) (sp : Sp) : Prop where
  ex : ∃ (f : Addr) (fd : FuncData), FnOk P w K mg base CX0 k f fd ps sp ∧ Binds K fd ps [] ∧ Meth K C x f
theorem pe_mt {X : Cx} {k : Nat} {C : Addr} {x : Str} {ps : List Str} {sp : Sp} {apos pos : Pos} {o e : Expr} {es : List Expr} {ta : TE} {t : TA} {E : XK} {pl : Sem Bool} (h : HvM X.prog X.w X.K X.mg X.base k C x ps sp) (ho : PE X o ta) (c : Cls X.K C) (hr : Room k X.A) (hx : Passes CX0 X E) (ha : PA X (e :: es) t)
    (hst : starEach (e :: es) X.env = (false, eval e X.env) :: starEach es X.env := by rfl) (hpl : (backTo pos (starEach es X.env)).any (·.1) = false := by rfl)
    (ht : eval (.Call (.Attribute o x apos) (e :: es) [] pos) X.env = (do
      let ov ← eval o X.env
      standAt apos.atName
      let (f, first) ← holding [ov] (getMethod ov x pl)
      callWith pos f first (backTo pos (starEach (e :: es) X.env)) (backToKw pos (keywordEach [] X.env))) := by rfl) :
    PE X (.Call (.Attribute o x apos) (e :: es) [] pos) (tMeth C x sp [] E ta t) := by
  obtain ⟨f, fd, F, b, m⟩ := h.ex
  exact pe_meth ho c m F hr b .nil hx ha hst hpl ht
theorem pe_fldK {X : Cx} {K : PySem.W.Frag} {e : Expr} {f : Str} {ta : TE} {pos : Pos} (h : X.K = K) (he : PE X e ta) (hb : attributeBase e f X.env (eval e X.env) = eval e X.env) : PE X (.Attribute e f pos) (tFld K ta f) := by subst h; exact pe_fld he hb
/-- what a text that is one writes -/
structure PartsOk (p : Parts) : Prop where
  sgs : areSignsL [p.sg] = true
  mds : areMoodsL p.ms = true
  gds : areGoodL p.gs p.ms = true
  gls : goalsOkL p.sg p.ms p.rs = true
theorem parts_ok {t : Str} {p : Parts} (h : parseL t = some p) : PartsOk p := by
  unfold parseL partsL at h
  split at h
  · rename_i t0 s0 t1 m0 t2 g0 rs heq
    split at h
    · rename_i hc
      cases h
      obtain ⟨x, e, _⟩ := signs_one hc.2.1
      subst e
      exact ⟨hc.2.1, hc.2.2.1, hc.2.2.2.1, hc.2.2.2.2⟩
    · cases h
  · cases h
theorem dOf_some {α κ : Type} [DecidableEq κ] {key : α → κ} {val : α → V} {k : κ} : ∀ (xs : List α), (∃ a ∈ xs, key a = k) → ∃ a ∈ xs, key a = k ∧ valV (dOf key val xs) k = some (val a) := by
  suffices h : ∀ (n : Nat) (xs : List α), xs.length = n → (∃ a ∈ xs, key a = k) → ∃ a ∈ xs, key a = k ∧ valV (dOf key val xs) k = some (val a) from fun xs => h _ xs rfl
  intro n
  induction n with
  | zero =>
    intro xs h ⟨a, ha, _⟩
    have : xs = [] := List.eq_nil_of_length_eq_zero h
    subst this
    cases ha
  | succ n ih =>
    intro xs h h2
    have hne : xs ≠ [] := by intro z; subst z; cases h
    obtain ⟨ys, a, rfl⟩ : ∃ ys a, xs = ys ++ [a] := ⟨xs.dropLast, xs.getLast hne, (List.dropLast_concat_getLast hne).symm⟩
    have hl : ys.length = n := by rw [List.length_append] at h; simpa using h
    rw [dOf_snoc, valV_put]
    by_cases e : k = key a
    · exact ⟨a, by simp, e.symm, by rw [if_pos e]⟩
    · rw [if_neg e]
      obtain ⟨b, hb, eb⟩ := h2
      rcases List.mem_append.mp hb with m | m
      · obtain ⟨d, hd, ed, hv⟩ := ih ys hl ⟨b, m, eb⟩
        exact ⟨d, by simp [hd], ed, hv⟩
      · have : b = a := by simpa using m
        exact absurd (this ▸ eb.symm) e
/-- where the sign c leads from the mood t -/
def ledL (p : Parts) (t : Str) (c : Nat) : Str := gf (goalsD p.rs) t c
theorem PartsOk.goal {p : Parts} (h : PartsOk p) {t : Str} (ht : t ∈ p.ms) {c : Nat} (hc : c ∈ p.sg.cps.toList) : ledL p t c ∈ p.ms ∧ valV (goalsD p.rs) (kT t c) = some (.str (ledL p t c)) := by
  have hg := h.gls
  unfold goalsOkL at hg
  rw [Bool.and_eq_true_iff] at hg
  have ep : p.rs.map (List.take 2) = pairsL p.sg p.ms := of_decide_eq_true hg.1
  have hm : [t, sg c] ∈ p.rs.map (List.take 2) := by
    rw [ep]
    unfold pairsL
    exact List.mem_flatMap.mpr ⟨t, ht, List.mem_map.mpr ⟨c, hc, rfl⟩⟩
  obtain ⟨r, hr, er⟩ := List.mem_map.mp hm
  have key : ∀ q : List Str, q.take 2 = [t, sg c] → [(Sum.inr (q.getD 0 Str.empty) : Key), Sum.inr (q.getD 1 Str.empty)] = kT t c := fun q hq => by
    match q, hq with
    | [], hq => cases hq
    | [_], hq => simp at hq
    | a :: b :: _, hq =>
      have : [a, b] = [t, sg c] := hq
      injection this with e1 this
      injection this with e2 _
      subst e1 e2
      rfl
  obtain ⟨q, hq, eq, hv⟩ := dOf_some (key := fun r : List Str => [(Sum.inr (r.getD 0 Str.empty) : Key), Sum.inr (r.getD 1 Str.empty)]) (val := fun r => V.str (r.getD 2 Str.empty)) (k := kT t c) p.rs ⟨r, hr, key r er⟩
  have ok := List.all_eq_true.mp hg.2 q hq
  unfold rowOkL at ok
  rw [Bool.and_eq_true_iff] at ok
  have e : ledL p t c = q.getD 2 Str.empty := gf_is hv
  rw [e]
  exact ⟨of_decide_eq_true ok.2, hv⟩
/-- a row leads from t -/
def walkL (p : Parts) (t : Str) (cs : List Nat) : Str := cs.foldl (ledL p) t
def firstL (p : Parts) : Str := p.ms.headD Str.empty
def moodL (p : Parts) (r : Str) : Str := walkL p (firstL p) r.cps.toList
theorem walk_mem {p : Parts} (h : PartsOk p) : ∀ (cs : List Nat) (t : Str), t ∈ p.ms → (∀ c ∈ cs, c ∈ p.sg.cps.toList) → walkL p t cs ∈ p.ms
  | [], _, ht, _ => ht
  | c :: cs, t, ht, hc => walk_mem h cs _ (h.goal ht (hc c (by simp))).1 fun d hd => hc d (by simp [hd])
theorem PartsOk.first {p : Parts} (h : PartsOk p) : ∃ ms, p.ms = firstL p :: ms := by
  have := h.mds
  unfold areMoodsL at this
  simp only [Bool.and_eq_true] at this
  have l1 : 1 ≤ p.ms.length := of_decide_eq_true this.1.1.1
  unfold firstL
  match hm : p.ms, l1 with
  | a :: t, _ => exact ⟨t, rfl⟩
def spMood (C : Addr) : Sp := fun vs H Q _ => ∃ (a : Addr) (r t : Str) (p : Parts), vs = [.ref a, .str r] ∧ RuleAt H C a t p ∧ PartsOk p ∧ isRowL p.sg r = true ∧ ∀ H', Same H H' → Q (.str (moodL p r)) H'
def spHas (C : Addr) : Sp := fun vs H Q _ => ∃ (a : Addr) (r t : Str) (p : Parts), vs = [.ref a, .str r] ∧ RuleAt H C a t p ∧ PartsOk p ∧ isRowL p.sg r = true ∧ ∀ H', Same H H' → Q (.bl (decide (moodL p r ∈ p.gs))) H'
section
variable {P : Program} {w : World} {K : PySem.W.Frag} {mg : Str → Option Value} {base : Heap}
theorem scMood : FnScope ["self", "row", "reached", "sign"] ["self", "row"] (defScope sMood) := ⟨rfl, rfl, rfl, by decide +kernel, rfl, by decide +kernel, by decide +kernel⟩
theorem ok_mood {f C : Addr} {fd : FuncData} (F : Fun K "mood" "Rule.mood" sMood f fd) (T : RuC K C) (hR : Hv P w K mg base 2 "is_row_of" ["value", "letters"] spRow) : FnOk P w K mg base CX0 3 f fd ["self", "row"] (spMood C) := by
  refine F.ok scMood (fun vs H Q E h => ?_) (fun cdv A outer s H vs Q E hr h => ?_)
  · obtain ⟨a, r, t, p, rfl, _⟩ := h
    rfl
  · obtain ⟨a, r, t, p, rfl, hA, ok, ir, k⟩ := h
    refine ⟨_, pss_cons (ps_if (pt_not (pt_val (pe_cl hR hr rfl pass0 (pa_cons (pv 1) (pa_cons (pe_fld (pv 0) rfl) pa_nil))))) (pss_one ps_never) pss_nil)
      (pss_cons (ps_set (i := 2) scMood.nd rfl (Or.inl rfl) (pe_ix ix_tup (pe_fld (pv 0) rfl) pe_int (fun _ _ => rfl)))
      (pss_cons (ps_for PassesOwn.never rfl (pi_str (pv 1)) (pg_name (i := 3) scMood.nd rfl (Or.inl rfl)) (pss_one (ps_set (i := 2) scMood.nd rfl (Or.inl rfl) (pe_dget (hu_of hr) (pe_fld (pv 0) rfl) (pe_tup (pa_cons (pv 2) (pa_cons (pv 3) pa_nil))) (fun _ _ => rfl)))))
      (pss_one (ps_ret (pv 2))))), ?_⟩
    obtain ⟨dx, M, G, D, e1, e2, e3, e4⟩ := id hA
    have hl : r.length ≤ 1000 := by
      unfold isRowL at ir
      exact of_decide_eq_true (Bool.and_eq_true_iff.mp ir).1
    have hin : ∀ c ∈ r.cps.toList, c ∈ p.sg.cps.toList := fun c hc => by
      unfold isRowL at ir
      exact of_decide_eq_true (List.all_eq_true.mp (Bool.and_eq_true_iff.mp ir).2 c hc)
    refine ⟨_, rfl, _, rfl, a, C, dx, _, .str p.sg, rfl, e1, T.cl, T.f2, rfl, r, p.sg, rfl, by omega, fun H1 s1 => ⟨_, rfl, ?_⟩⟩
    rw [ir]
    refine iteF ?_
    obtain ⟨ms, em⟩ := ok.first
    have ef : (p.ms.map V.str)[0]? = some (.str (firstL p)) := by rw [em]; rfl
    refine ⟨_, rfl, a, C, dx, _, .ref M, rfl, s1 _ _ e1, T.cl, T.f3, rfl, M, _, _, _, rfl, rfl, SqT.of (s1 _ _ e2), atI_nat (j := 0) ef, ?_⟩
    refine ⟨_, rfl, r, rfl, ?_⟩
    refine for_it walk_str (fun i σ H' => ∃ v3, σ = [some (.ref a), some (.str r), some (.str (walkL p (firstL p) (r.cps.toList.take i))), v3] ∧ Same H1 H') ⟨none, rfl, Same.refl _⟩ (fun _ _ _ _ _ => trivial) (fun i y σ H2 H3 hi h hy => ?_) (fun σ H2 h => ?_)
    · obtain ⟨rfl, c, hc, rfl⟩ := hy
      obtain ⟨v3, rfl, s2⟩ := h
      have hc' : r.cps.toList[i]? = some c := by rw [Array.getElem?_toList]; exact hc
      have hm := walk_mem ok (r.cps.toList.take i) (firstL p) (by rw [em]; simp) fun d hd => hin d (List.mem_of_mem_take hd)
      have hg := ok.goal hm (hin c (List.mem_of_getElem? hc'))
      have s3 := s1.trans s2
      refine ⟨_, rfl, a, C, dx, _, .ref D, rfl, s3 _ _ e1, T.cl, T.f5, rfl, _, rfl, _, rfl, (by show 2 ≤ sizeLine; decide), fun t' ht => ⟨D, .str (ledL p (walkL p (firstL p) (r.cps.toList.take i)) c), rfl, ?_, ?_⟩⟩
      · have := DGet.t (k := kT (walkL p (firstL p) (r.cps.toList.take i)) c) (keep1 (s3 _ _ e4) ht) (upd_same (o := .tup ((kT (walkL p (firstL p) (r.cps.toList.take i)) c).map kV)))
        rw [hg.2] at this
        exact this
      · refine ⟨some (.str (sg c)), ?_, s2.trans (same_new ht)⟩
        rw [List.take_add_one, hc']
        show _ = [_, _, some (V.str (walkL p (firstL p) (r.cps.toList.take i ++ [c]))), _]
        unfold walkL
        rw [List.foldl_append]
        rfl
    · obtain ⟨v3, rfl, s2⟩ := h
      refine ⟨_, rfl, ?_⟩
      have : r.cps.toList.take r.cps.size = r.cps.toList := by rw [← Array.length_toList, List.take_length]
      rw [this]
      exact k _ (s1.trans s2)
theorem scHas : FnScope ["self", "row"] ["self", "row"] (defScope sHas) := ⟨rfl, rfl, rfl, by decide +kernel, rfl, by decide +kernel, by decide +kernel⟩
theorem ok_has {f C : Addr} {fd : FuncData} (F : Fun K "has" "Rule.has" sHas f fd) (T : RuC K C) (hM : HvM P w K mg base 3 C "mood" ["self", "row"] (spMood C)) : FnOk P w K mg base CX0 4 f fd ["self", "row"] (spHas C) := by
  refine F.ok scHas (fun vs H Q E h => ?_) (fun cdv A outer s H vs Q E hr h => ?_)
  · obtain ⟨a, r, t, p, rfl, _⟩ := h
    rfl
  · obtain ⟨a, r, t, p, rfl, hA, ok, ir, k⟩ := h
    refine ⟨_, pss_one (ps_ret (pe_cmpR op_in_seq (pe_mt hM (pv 0) T.cl hr pass0 (pa_cons (pv 1) pa_nil)) (pe_fld (pv 0) rfl) (by rfl))), ?_⟩
    obtain ⟨dx, M, G, D, e1, e2, e3, e4⟩ := id hA
    refine ⟨_, rfl, a, dx, _, rfl, e1, rfl, _, rfl, a, r, t, p, rfl, hA, ok, ir, fun H1 s1 => ?_⟩
    refine ⟨_, rfl, a, C, dx, _, .ref G, rfl, s1 _ _ e1, T.cl, T.f4, rfl, G, _, rfl, .inr (SqT.of (s1 _ _ e3)), rfl, flat_strs _, ?_⟩
    show Q (.bl (inV (.str (moodL p r)) (p.gs.map V.str))) H1
    rw [in_strs]
    exact k _ s1
end
end My
namespace My
open PySem PySem.Spec PyProof.Rows L2
/-- a well stands at p -/
def Wl (H : Hp) (p : Addr) : Prop := ∃ w0 w1 w2 : Int, 0 ≤ w0 ∧ 0 ≤ w1 ∧ H p = some (.lst [.int w0, .int w1, .int w2])
theorem cut_ints (ns : List Int) (lo hi : Option Int) : ∃ ms : List Int, cutV (ns.map V.int) lo hi = ms.map V.int := by
  unfold cutV
  rw [← List.map_drop, ← List.map_take]
  exact ⟨_, rfl⟩
theorem map_int_get {ns : List Int} {i : Nat} {y : V} (h : (ns.map V.int)[i]? = some y) : ∃ z, ns[i]? = some z ∧ y = V.int z := by
  rw [List.getElem?_map] at h
  cases e : ns[i]? with
  | none => rw [e] at h; cases h
  | some z => rw [e] at h; exact ⟨z, rfl, (Option.some.inj h).symm⟩
/-- all but the well stays -/
def Sb (p : Addr) (H H' : Hp) : Prop := ∀ b o, b ≠ p → H b = some o → H' b = some o
theorem Sb.refl (p : Addr) (H : Hp) : Sb p H H := fun _ _ _ h => h
theorem Sb.trans {p : Addr} {H H1 H2 : Hp} (a : Sb p H H1) (b : Sb p H1 H2) : Sb p H H2 := fun c o n h => b c o n (a c o n h)
theorem Sb.of {p : Addr} {H H' : Hp} (s : Same H H') : Sb p H H' := fun b o _ h => s b o h
theorem Sb.upd_ {p : Addr} {H : Hp} {o : HO} : Sb p H (upd H p o) := fun b u n h => by rw [upd_ne n]; exact h
theorem Sb.free {p : Addr} {H H' : Hp} (s : Sb p H H') {q : Addr} (n : q ≠ p) (h : H' q = none) : H q = none := by
  cases e : H q with
  | none => rfl
  | some o => rw [s q o n e] at h; cases h
theorem Wl.same {H H' : Hp} {p : Addr} (w : Wl H p) (s : Same H H') : Wl H' p := by
  obtain ⟨w0, w1, w2, a0, a1, e⟩ := w
  exact ⟨w0, w1, w2, a0, a1, s _ _ e⟩
theorem Wl.new {H : Hp} {p q : Addr} (w : Wl H p) (h : H q = none) : q ≠ p := by
  obtain ⟨w0, w1, w2, a0, a1, e⟩ := w
  exact (ne_of_none e h).symm
theorem Wl.ne {H : Hp} {p q : Addr} {o : HO} (w : Wl H p) (h : H q = some o) (n : ∀ a b c : Int, o ≠ .lst [.int a, .int b, .int c]) : q ≠ p := by
  obtain ⟨w0, w1, w2, a0, a1, e⟩ := w
  exact ne_of h e (n _ _ _)
theorem Wl.neS {H : Hp} {p q : Addr} {ws : List Str} (w : Wl H p) (h : H q = some (.lst (ws.map V.str))) : q ≠ p := w.ne h fun a b c z => by
  cases ws with
  | nil => cases z
  | cons x t => cases z
theorem Wl.upd_ {H : Hp} {p q : Addr} {o : HO} (w : Wl H p) (n : q ≠ p) : Wl (upd H q o) p := by
  obtain ⟨w0, w1, w2, a0, a1, e⟩ := w
  exact ⟨w0, w1, w2, a0, a1, by rw [upd_ne n.symm]; exact e⟩
/-- rules whose readings speak of a K that is the context's -/
theorem ix_listK {X : Cx} {K : PySem.W.Frag} (h : X.K = K) : IxR X (rIxL K) := by subst h; exact ix_list
theorem sl_listK {X : Cx} {K : PySem.W.Frag} (h : X.K = K) : SlR X (rSlL K) := by subst h; exact sl_list
end My
namespace My
open PySem PySem.Spec PyProof.Rows L2
abbrev menuX : List (List Str) := [["a", "b", "z"], ["ab", "by", "az"], ["abc", "bxz", "cde"]]
/-- the goals of these pairs are told, and are words of ws -/
def Cv (kvs : List (List Key × V)) (ws : List Str) (done : List (Str × Nat)) : Prop := kvs.length ≤ done.length ∧ ∀ d ∈ done, ∃ y ∈ ws, valV kvs (kT d.1 d.2) = some (.str y)
theorem Cv.put {kvs : List (List Key × V)} {ws : List Str} {done : List (Str × Nat)} (h : Cv kvs ws done) {t y : Str} {c : Nat} (hy : y ∈ ws) : Cv (putK kvs (kT t c) (.str y)) ws (done ++ [(t, c)]) := by
  refine ⟨?_, fun d hd => ?_⟩
  · have := length_putK kvs (kT t c) (V.str y)
    have := h.1
    rw [List.length_append]
    simp
    omega
  · rw [valV_put]
    by_cases e : kT d.1 d.2 = kT t c
    · rw [if_pos e]
      exact ⟨y, hy, rfl⟩
    · rw [if_neg e]
      rcases List.mem_append.mp hd with m | m
      · exact h.2 d m
      · simp at m
        subst m
        exact absurd rfl e
def doneL (ws : List Str) (x : Str) : List (Str × Nat) := ws.flatMap fun t => x.cps.toList.map fun c => (t, c)
theorem done_take {x : Str} {ws : List Str} {i : Nat} {m : Str} (h : ws[i]? = some m) : doneL (ws.take (i + 1)) x = doneL (ws.take i) x ++ x.cps.toList.map fun c => (m, c) := by
  unfold doneL
  rw [List.take_add_one, h, List.flatMap_append]
  simp
theorem done_len (ws : List Str) (x : Str) : (doneL ws x).length = ws.length * x.length := by
  unfold doneL
  induction ws with
  | nil => simp
  | cons m t ih =>
    rw [List.flatMap_cons, List.length_append, ih, List.length_map, Array.length_toList, List.length_cons, Nat.succ_mul]
    show x.length + _ = _
    omega
def SkAt (H : Hp) (q : Addr) (x : Str) (ws fs : List Str) (kvs : List (List Key × V)) : Prop := ∃ lw lf g, H q = some (.lst [.str x, .ref lw, .ref lf, .ref g]) ∧ H lw = some (.lst (ws.map V.str)) ∧ H lf = some (.lst (fs.map V.str)) ∧ H g = some (.dT kvs)
end My
namespace My
open PySem PySem.Spec PyProof.Rows L2
/-- the goal that the dict tells -/
def lineL (kvs : List (List Key × V)) (t : Str) (c : Nat) : Str := t ++ sp ++ sg c ++ sp ++ gf kvs t c
def headL (x : Str) (ws fs : List Str) : List Str := [("signs " : Str) ++ x, Txt.join sp (("moods" : Str) :: ws), Txt.join sp (("good" : Str) :: fs)]
def bodyL (x : Str) (ws : List Str) (kvs : List (List Key × V)) : List Str := ws.flatMap fun t => x.cps.toList.map fun c => lineL kvs t c
def linesL (x : Str) (ws fs : List Str) (kvs : List (List Key × V)) : List Str := headL x ws fs ++ bodyL x ws kvs
def textL (x : Str) (ws fs : List Str) (kvs : List (List Key × V)) : Str := Txt.join nl (linesL x ws fs kvs)
/-- all words are short -/
structure Short (x : Str) (ws fs : List Str) (kvs : List (List Key × V)) : Prop where
  hx : x.length ≤ 3
  nw : ws.length ≤ 20
  nf : fs.length ≤ 20
  lw : ∀ y ∈ ws, y.length ≤ 8
  lf : ∀ y ∈ fs, y.length ≤ 8
  gl : ∀ t ∈ ws, ∀ c ∈ x.cps.toList, ∃ y : Str, y.length ≤ 8 ∧ valV kvs (kT t c) = some (.str y)
def spText : Sp := fun vs H Q _ => ∃ (q : Addr) (x : Str) (ws fs : List Str) (kvs : List (List Key × V)), vs = [.ref q] ∧ SkAt H q x ws fs kvs ∧ Short x ws fs kvs ∧ ∀ H', Same H H' → Q (.str (textL x ws fs kvs)) H'
theorem sum_le {M : Nat} : ∀ {l : List Str}, (∀ y ∈ l, y.length ≤ M) → (l.map (·.length)).sum ≤ l.length * M
  | [], _ => Nat.zero_le _
  | y :: t, h => by
    have h1 := h y (by simp)
    have h2 := sum_le (l := t) fun z hz => h z (by simp [hz])
    rw [List.map_cons, List.sum_cons, List.length_cons, Nat.succ_mul]
    omega
theorem body_take {x : Str} {ws : List Str} {kvs : List (List Key × V)} {i : Nat} {m : Str} (h : ws[i]? = some m) : bodyL x (ws.take (i + 1)) kvs = bodyL x (ws.take i) kvs ++ x.cps.toList.map fun c => lineL kvs m c := by
  unfold bodyL
  rw [List.take_add_one, h, List.flatMap_append]
  simp
theorem body_len (x : Str) (ws : List Str) (kvs : List (List Key × V)) : (bodyL x ws kvs).length = ws.length * x.length := by
  unfold bodyL
  induction ws with
  | nil => simp
  | cons m t ih =>
    rw [List.flatMap_cons, List.length_append, ih, List.length_map, Array.length_toList, List.length_cons, Nat.succ_mul]
    show x.length + _ = _
    omega
theorem join_len (ps : List Str) : (Txt.join sp ps).length ≤ (ps.map (·.length)).sum + ps.length := by
  rw [TL.join_eq]
  cases ps with
  | nil => exact Nat.zero_le _
  | cons a l =>
    rw [len_join_cons, List.length_cons]
    have : (sp : Str).length = 1 := rfl
    rw [this]
    omega
theorem lines_short {x : Str} {ws fs : List Str} {kvs : List (List Key × V)} (h : Short x ws fs kvs) : (linesL x ws fs kvs).length ≤ 63 ∧ ∀ y ∈ linesL x ws fs kvs, y.length ≤ 200 := by
  have z := h.hx
  have z1 := h.nw
  have z2 := h.nf
  refine ⟨?_, fun y hy => ?_⟩
  · unfold linesL
    rw [List.length_append, body_len]
    have : ws.length * x.length ≤ 20 * 3 := Nat.mul_le_mul z1 z
    show 3 + _ ≤ 63
    omega
  · unfold linesL at hy
    rcases List.mem_append.mp hy with m | m
    · unfold headL at m
      simp only [List.mem_cons, List.not_mem_nil, or_false] at m
      rcases m with rfl | rfl | rfl
      · rw [len_app]
        have : ("signs " : Str).length = 6 := by decide +kernel
        omega
      · have a := join_len (("moods" : Str) :: ws)
        have b := sum_le h.lw
        have c : ("moods" : Str).length = 5 := by decide +kernel
        rw [List.map_cons, List.sum_cons, List.length_cons, c] at a
        omega
      · have a := join_len (("good" : Str) :: fs)
        have b := sum_le h.lf
        have c : ("good" : Str).length = 4 := by decide +kernel
        rw [List.map_cons, List.sum_cons, List.length_cons, c] at a
        omega
    · unfold bodyL at m
      obtain ⟨t, ht, m⟩ := List.mem_flatMap.mp m
      obtain ⟨c, hc, rfl⟩ := List.mem_map.mp m
      obtain ⟨g, lg, eg⟩ := h.gl t ht c hc
      unfold lineL
      rw [gf_is eg, len_app, len_app, len_app, len_app]
      have := h.lw t ht
      have e1 : (sp : Str).length = 1 := rfl
      have e2 : (sg c).length = 1 := rfl
      omega
end My
namespace My
open PySem PySem.Spec PyProof.Rows L2
/-- letters alone -/
def Ltr (y : Str) : Prop := ∀ c ∈ y.cps.toList, 97 ≤ c
theorem ltr_only {y : Str} (h : madeL y abc = true) : Ltr y := fun c hc => by
  unfold madeL at h
  rw [List.all_map, List.all_eq_true] at h
  have := h c hc
  have m : c ∈ abc.cps.toList := by simpa using this
  have all : ∀ d ∈ abc.cps.toList, 97 ≤ d := by decide +kernel
  exact all c m
theorem ltr_word {y : Str} (h : isWordL y = true) : Ltr y := ltr_only (Bool.and_eq_true_iff.mp h).2
theorem ltr_signs {x : Str} (h : areSignsL [x] = true) : Ltr x := by
  rw [areS1] at h
  simp only [Bool.and_eq_true] at h
  exact ltr_only h.1.2
theorem ltr_sg {x : Str} (h : Ltr x) {c : Nat} (hc : c ∈ x.cps.toList) : Ltr (sg c) := fun d hd => by
  have : d = c := by simpa using hd
  rw [this]
  exact h c hc
theorem join_from (y : Str) : ∀ (ps : List Str) (c : Nat), c ∈ (Str.join y ps).cps.toList → c ∈ y.cps.toList ∨ ∃ p ∈ ps, c ∈ p.cps.toList
  | [], _, h => by cases h
  | [x], _, h => .inr ⟨x, by simp, h⟩
  | x :: z :: r, c, h => by
    have h' : c ∈ (x ++ y ++ Str.join y (z :: r)).cps.toList := h
    rw [cps_app, cps_app] at h'
    simp only [List.mem_append] at h'
    rcases h' with (h' | h') | h'
    · exact .inr ⟨x, by simp, h'⟩
    · exact .inl h'
    · rcases join_from y (z :: r) c h' with h' | ⟨p, hp, h'⟩
      · exact .inl h'
      · exact .inr ⟨p, by simp [hp], h'⟩
/-- a line of words, split -/
theorem split_line {ps : List Str} (hne : ps ≠ []) (h : ∀ p ∈ ps, Ltr p) : Txt.split (Txt.join sp ps) sp = ps := by
  refine TL.split_join (s := 32) (S := []) rfl (by decide +kernel) hne fun p hp => ?_
  intro m
  have := h p hp 32 m
  omega
theorem line_no {ps : List Str} (h : ∀ p ∈ ps, Ltr p) : (10 : Nat) ∉ (Txt.join sp ps).cps.toList := fun m => by
  rw [TL.join_eq] at m
  rcases join_from sp ps 10 m with m | ⟨p, hp, m⟩
  · simp at m
  · have := h p hp 10 m
    omega
theorem join2 (a b : Str) : Txt.join sp [a, b] = a ++ sp ++ b := by rw [TL.join_eq]; rfl
theorem str_app_assoc (a b c : Str) : a ++ b ++ c = a ++ (b ++ c) := str_ext (by rw [cps_app, cps_app, cps_app, cps_app, List.append_assoc])
theorem join3 (a b c : Str) : Txt.join sp [a, b, c] = a ++ sp ++ b ++ sp ++ c := by
  rw [TL.join_eq]
  show a ++ sp ++ (b ++ sp ++ c) = _
  rw [str_app_assoc b sp c, str_app_assoc (a ++ sp ++ b) sp c, str_app_assoc (a ++ sp) b (sp ++ c)]
/-- the rows of goals of a drawn rule -/
def rsL (x : Str) (ws : List Str) (kvs : List (List Key × V)) : List (List Str) := ws.flatMap fun t => x.cps.toList.map fun c => [t, sg c, gf kvs t c]
structure Fine (x : Str) (ws fs : List Str) (kvs : List (List Key × V)) : Prop where
  sgs : areSignsL [x] = true
  mds : areMoodsL ws = true
  sub : fs.Sublist ws
  gl : ∀ t ∈ ws, ∀ c ∈ x.cps.toList, ∃ y ∈ ws, valV kvs (kT t c) = some (.str y)
theorem moods_word {ws : List Str} (h : areMoodsL ws = true) : ∀ y ∈ ws, isWordL y = true := by
  unfold areMoodsL at h
  simp only [Bool.and_eq_true] at h
  exact List.all_eq_true.mp h.1.2
theorem moods_nd {ws : List Str} (h : areMoodsL ws = true) : ws.Nodup := by
  unfold areMoodsL at h
  simp only [Bool.and_eq_true] at h
  exact of_decide_eq_true h.2
theorem sub_filter : ∀ {ws fs : List Str}, ws.Nodup → fs.Sublist ws → ws.filter (fun m => decide (m ∈ fs)) = fs
  | [], fs, _, h => by
    have := List.sublist_nil.mp h
    subst this
    rfl
  | y :: t, fs, nd, h => by
    have nd' := List.nodup_cons.mp nd
    cases h with
    | cons _ h =>
      have hy : y ∉ fs := fun m => nd'.1 (h.subset m)
      rw [List.filter_cons, if_neg (by simpa using hy)]
      exact sub_filter nd'.2 h
    | cons_cons _ h =>
      rename_i gs
      rw [List.filter_cons, if_pos (by simp)]
      congr 1
      have e : t.filter (fun m => decide (m ∈ y :: gs)) = t.filter (fun m => decide (m ∈ gs)) := by
        apply List.filter_congr
        intro z hz
        have : z ≠ y := fun e => nd'.1 (e ▸ hz)
        simp [this]
      rw [e]
      exact sub_filter nd'.2 h
theorem fine_rows {x : Str} {ws fs : List Str} {kvs : List (List Key × V)} (h : Fine x ws fs kvs) : rowsL (textL x ws fs kvs) = [(("signs" : Str)), x] :: (("moods" : Str) :: ws) :: (("good" : Str) :: fs) :: rsL x ws kvs := by
  have lx := ltr_signs h.sgs
  have lw : ∀ y ∈ ws, Ltr y := fun y hy => ltr_word (moods_word h.mds y hy)
  have lf : ∀ y ∈ fs, Ltr y := fun y hy => lw y (h.sub.subset hy)
  have lg : ∀ t ∈ ws, ∀ c ∈ x.cps.toList, Ltr (gf kvs t c) := fun t ht c hc => by
    obtain ⟨y, hy, e⟩ := h.gl t ht c hc
    rw [gf_is e]
    exact lw y hy
  have l1 : Ltr ("signs" : Str) := ltr_only (by decide +kernel)
  have l2 : Ltr ("moods" : Str) := ltr_only (by decide +kernel)
  have l3 : Ltr ("good" : Str) := ltr_only (by decide +kernel)
  let pss : List (List Str) := [("signs" : Str), x] :: (("moods" : Str) :: ws) :: (("good" : Str) :: fs) :: rsL x ws kvs
  have e : linesL x ws fs kvs = pss.map (Txt.join sp) := by
    show headL x ws fs ++ bodyL x ws kvs = Txt.join sp [("signs" : Str), x] :: Txt.join sp (("moods" : Str) :: ws) :: Txt.join sp (("good" : Str) :: fs) :: (rsL x ws kvs).map (Txt.join sp)
    have e1 : Txt.join sp [("signs" : Str), x] = ("signs " : Str) ++ x := by
      rw [join2]
      rfl
    have e2 : (rsL x ws kvs).map (Txt.join sp) = bodyL x ws kvs := by
      unfold rsL bodyL
      rw [List.map_flatMap]
      congr 1
      funext t
      rw [List.map_map]
      exact List.map_congr_left fun c _ => join3 t (sg c) (gf kvs t c)
    rw [e1, e2]
    rfl
  have all : ∀ ps ∈ pss, ps ≠ [] ∧ ∀ p ∈ ps, Ltr p := by
    intro ps hps
    have hps' : ps = [("signs" : Str), x] ∨ ps = ("moods" : Str) :: ws ∨ ps = ("good" : Str) :: fs ∨ ps ∈ rsL x ws kvs := by simpa [pss] using hps
    rcases hps' with rfl | rfl | rfl | hm
    · exact ⟨by simp, fun p hp => by
        rcases List.mem_cons.mp hp with rfl | hp
        · exact l1
        · have : p = x := by simpa using hp
          rw [this]; exact lx⟩
    · exact ⟨by simp, fun p hp => by
        rcases List.mem_cons.mp hp with rfl | hp
        · exact l2
        · exact lw p hp⟩
    · exact ⟨by simp, fun p hp => by
        rcases List.mem_cons.mp hp with rfl | hp
        · exact l3
        · exact lf p hp⟩
    · unfold rsL at hm
      obtain ⟨t, ht, hm⟩ := List.mem_flatMap.mp hm
      obtain ⟨c, hc, rfl⟩ := List.mem_map.mp hm
      refine ⟨by simp, fun p hp => ?_⟩
      have : p = t ∨ p = sg c ∨ p = gf kvs t c := by simpa using hp
      rcases this with rfl | rfl | rfl
      · exact lw _ ht
      · exact ltr_sg lx hc
      · exact lg t ht c hc
  unfold rowsL textL
  rw [TL.split_join (s := 10) (S := []) rfl (by decide +kernel) (by rw [e]; simp [pss]) (fun p hp m => by
    rw [e] at hp
    obtain ⟨ps, hps, rfl⟩ := List.mem_map.mp hp
    exact line_no (all ps hps).2 m), e, List.map_map]
  have : pss.map ((fun y => Txt.split y sp) ∘ Txt.join sp) = pss.map id := by
    apply List.map_congr_left
    intro ps hps
    exact split_line (all ps hps).1 (all ps hps).2
  rw [this, List.map_id]
theorem fine_goals {x : Str} {ws fs : List Str} {kvs : List (List Key × V)} (h : Fine x ws fs kvs) : goalsOkL x ws (rsL x ws kvs) = true := by
  unfold goalsOkL
  rw [Bool.and_eq_true_iff]
  refine ⟨decide_eq_true ?_, List.all_eq_true.mpr fun r hr => ?_⟩
  · unfold rsL pairsL
    rw [List.map_flatMap]
    congr 1
    funext t
    rw [List.map_map]
    rfl
  · unfold rsL at hr
    obtain ⟨t, ht, hr⟩ := List.mem_flatMap.mp hr
    obtain ⟨c, hc, rfl⟩ := List.mem_map.mp hr
    obtain ⟨y, hy, e⟩ := h.gl t ht c hc
    unfold rowOkL
    rw [Bool.and_eq_true_iff]
    refine ⟨rfl, decide_eq_true ?_⟩
    show gf kvs t c ∈ ws
    rw [gf_is e]
    exact hy
/-- the text of a drawn rule is read as what it was drawn -/
theorem fine_parse {x : Str} {ws fs : List Str} {kvs : List (List Key × V)} (h : Fine x ws fs kvs) : parseL (textL x ws fs kvs) = some ⟨x, ws, fs, rsL x ws kvs⟩ := by
  unfold parseL
  rw [fine_rows h, parts_is, if_pos]
  · rfl
  · refine ⟨h.sgs, h.mds, ?_, fine_goals h⟩
    unfold areGoodL
    exact decide_eq_true (sub_filter (moods_nd h.mds) h.sub).symm
theorem dOf_const {α κ : Type} [DecidableEq κ] {key : α → κ} {val : α → V} {k : κ} {v : V} : ∀ (xs : List α), (∀ a ∈ xs, key a = k → val a = v) → (∃ a ∈ xs, key a = k) → valV (dOf key val xs) k = some v := by
  suffices h : ∀ (n : Nat) (xs : List α), xs.length = n → (∀ a ∈ xs, key a = k → val a = v) → (∃ a ∈ xs, key a = k) → valV (dOf key val xs) k = some v from fun xs => h _ xs rfl
  intro n
  induction n with
  | zero =>
    intro xs h _ ⟨a, ha, _⟩
    have : xs = [] := List.eq_nil_of_length_eq_zero h
    subst this
    cases ha
  | succ n ih =>
    intro xs h h1 h2
    have hne : xs ≠ [] := by intro z; subst z; cases h
    obtain ⟨ys, a, rfl⟩ : ∃ ys a, xs = ys ++ [a] := ⟨xs.dropLast, xs.getLast hne, (List.dropLast_concat_getLast hne).symm⟩
    have hl : ys.length = n := by rw [List.length_append] at h; simpa using h
    rw [dOf_snoc, valV_put]
    by_cases e : k = key a
    · rw [if_pos e, h1 a (by simp) e.symm]
    · rw [if_neg e]
      refine ih ys hl (fun b hb => h1 b (by simp [hb])) ?_
      obtain ⟨b, hb, eb⟩ := h2
      rcases List.mem_append.mp hb with m | m
      · exact ⟨b, m, eb⟩
      · have : b = a := by simpa using m
        exact absurd (this ▸ eb.symm) e
/-- the goals that are read are those that were drawn -/
theorem fine_val {x : Str} {ws fs : List Str} {kvs : List (List Key × V)} (h : Fine x ws fs kvs) {t : Str} (ht : t ∈ ws) {c : Nat} (hc : c ∈ x.cps.toList) : valV (goalsD (rsL x ws kvs)) (kT t c) = some (.str (gf kvs t c)) := by
  unfold goalsD
  refine dOf_const _ (fun r hr e => ?_) ⟨[t, sg c, gf kvs t c], ?_, rfl⟩
  · unfold rsL at hr
    obtain ⟨t', ht', hr⟩ := List.mem_flatMap.mp hr
    obtain ⟨c', hc', rfl⟩ := List.mem_map.mp hr
    have e' : [(Sum.inr t' : Key), Sum.inr (sg c')] = [Sum.inr t, Sum.inr (sg c)] := e
    injection e' with e1 e2
    injection e2 with e2 _
    have e1' : t' = t := Sum.inr.inj e1
    have e2' : c' = c := sg_inj (Sum.inr.inj e2)
    subst e1' e2'
    rfl
  · unfold rsL
    exact List.mem_flatMap.mpr ⟨t, ht, List.mem_map.mpr ⟨c, hc, rfl⟩⟩
/-- a sketch is fine -/
theorem Fine.short {x : Str} {ws fs : List Str} {kvs : List (List Key × V)} (h : Fine x ws fs kvs) (hn : ws.length ≤ 20) : Short x ws fs kvs := by
  have w8 : ∀ y ∈ ws, y.length ≤ 8 := fun y hy => by
    have := moods_word h.mds y hy
    unfold isWordL at this
    simp only [Bool.and_eq_true] at this
    exact of_decide_eq_true this.1.2
  refine ⟨?_, hn, Nat.le_trans h.sub.length_le hn, w8, fun y hy => w8 y (h.sub.subset hy), fun t ht c hc => ?_⟩
  · have := h.sgs
    rw [areS1] at this
    simp only [Bool.and_eq_true] at this
    exact of_decide_eq_true this.1.1.2
  · obtain ⟨y, hy, e⟩ := h.gl t ht c hc
    exact ⟨y, w8 y hy, e⟩
theorem text_small {x : Str} {ws fs : List Str} {kvs : List (List Key × V)} (h : Short x ws fs kvs) : (textL x ws fs kvs).length ≤ 1000000 := by
  unfold textL
  rw [TL.join_eq]
  have hs := lines_short h
  have b := sum_le hs.2
  have e : (linesL x ws fs kvs).length * 200 ≤ 63 * 200 := Nat.mul_le_mul_right _ hs.1
  cases hl : linesL x ws fs kvs with
  | nil => exact Nat.zero_le _
  | cons a l =>
    rw [hl] at b e hs
    rw [len_join_cons]
    have : (nl : Str).length = 1 := rfl
    rw [this]
    have := hs.1
    rw [List.length_cons] at this
    omega
theorem low_only {y : Str} (h : madeL y abc = true) : ∀ c ∈ y.cps.toList, c < 256 := fun c hc => by
  unfold madeL at h
  rw [List.all_map, List.all_eq_true] at h
  have := h c hc
  have m : c ∈ abc.cps.toList := by simpa using this
  have all : ∀ d ∈ abc.cps.toList, d < 256 := by decide +kernel
  exact all c m
theorem text_low {x : Str} {ws fs : List Str} {kvs : List (List Key × V)} (h : Fine x ws fs kvs) : ∀ c ∈ (textL x ws fs kvs).cps.toList, c < 256 := by
  have wl : ∀ y ∈ ws, ∀ c ∈ y.cps.toList, c < 256 := fun y hy => low_only (Bool.and_eq_true_iff.mp (moods_word h.mds y hy)).2
  have xl : ∀ c ∈ x.cps.toList, c < 256 := by
    have := h.sgs
    rw [areS1] at this
    simp only [Bool.and_eq_true] at this
    exact low_only this.1.2
  intro c hc
  unfold textL at hc
  rw [TL.join_eq] at hc
  rcases join_from nl _ c hc with m | ⟨p, hp, m⟩
  · have : c = 10 := by simpa using m
    omega
  · unfold linesL at hp
    rcases List.mem_append.mp hp with hp | hp
    · unfold headL at hp
      simp only [List.mem_cons, List.not_mem_nil, or_false] at hp
      rcases hp with rfl | rfl | rfl
      · rw [cps_app, List.mem_append] at m
        rcases m with m | m
        · have : ∀ d ∈ ("signs " : Str).cps.toList, d < 256 := by decide +kernel
          exact this c m
        · exact xl c m
      · rw [TL.join_eq] at m
        rcases join_from sp _ c m with m | ⟨p, hp, m⟩
        · have : c = 32 := by simpa using m
          omega
        · rcases List.mem_cons.mp hp with rfl | hp
          · have : ∀ d ∈ ("moods" : Str).cps.toList, d < 256 := by decide +kernel
            exact this c m
          · exact wl p hp c m
      · rw [TL.join_eq] at m
        rcases join_from sp _ c m with m | ⟨p, hp, m⟩
        · have : c = 32 := by simpa using m
          omega
        · rcases List.mem_cons.mp hp with rfl | hp
          · have : ∀ d ∈ ("good" : Str).cps.toList, d < 256 := by decide +kernel
            exact this c m
          · exact wl p (h.sub.subset hp) c m
    · unfold bodyL at hp
      obtain ⟨t, ht, hp⟩ := List.mem_flatMap.mp hp
      obtain ⟨d, hd, rfl⟩ := List.mem_map.mp hp
      obtain ⟨y, hy, e⟩ := h.gl t ht d hd
      unfold lineL at m
      rw [gf_is e, cps_app, cps_app, cps_app, cps_app] at m
      simp only [List.mem_append] at m
      rcases m with (((m | m) | m) | m) | m
      · exact wl t ht c m
      · have : c = 32 := by simpa using m
        omega
      · have : c = d := by simpa using m
        rw [this]; exact xl d hd
      · have : c = 32 := by simpa using m
        omega
      · exact wl y hy c m
theorem text_ok {x : Str} {ws fs : List Str} {kvs : List (List Key × V)} (h : Fine x ws fs kvs) : PyData.strOk (textL x ws fs kvs) = true := ok_low (text_low h)
end My
namespace L2
open PySem PySem.Spec PyProof.Rows PySem.GX PySem.W
/-- a, b, *c, d = a tuple -/
def gStar (K : PySem.W.Frag) (n i : Nat) (t : TGs) : TG := fun v σ H Q => ∃ a xs, v = .ref a ∧ SqT K H a xs ∧ i < n ∧ n ≤ xs.length + 1 ∧ xs.length ≤ 16384 ∧
  ∀ D, H D = none → t (xs.take i ++ [.ref D] ++ (xs.drop i).drop (xs.length + 1 - n)) σ (upd H D (.lst ((xs.drop i).take (xs.length + 1 - n)))) Q
theorem vals_take {vs : List V} {us : List Value} (r : Vals vs us) : ∀ n, Vals (vs.take n) (us.take n) := by
  induction r with
  | nil => intro n; cases n <;> exact .nil
  | cons a t ih =>
    intro n
    cases n with
    | zero => exact .nil
    | succ n => exact .cons a (ih n)
theorem vals_drop {vs : List V} {us : List Value} (r : Vals vs us) : ∀ n, Vals (vs.drop n) (us.drop n) := by
  induction r with
  | nil => intro n; cases n <;> exact .nil
  | cons a t ih =>
    intro n
    cases n with
    | zero => exact .cons a t
    | succ n => exact ih n
theorem pg_star {X : Cx} {es : List Expr} {k : Nat} {t : TGs} {n i : Nat} {pos : Pos} (hc : X.calm = true) (h : PGs X es t)
    (hn : (assignEach es X.env).length = n := by rfl) (hst : (assignEach es X.env).findIdx? (·.1) = some i := by rfl) : PG X (.Tuple es k pos) (gStar X.K n i t) := by
  refine ⟨fun pins s σ H v u Q I r hw => ?_⟩
  obtain ⟨a, xs, e1, hq, hi, hle, hz, hw⟩ := hw
  subst e1
  cases r
  obtain ⟨its, rv, hl, _⟩ := I.tuple hq
  have hh := I.ok.hd hc
  have hs : xs.length = its.length := rv.length
  generalize hit : its.toArray = items at hl
  have hsz : items.size = its.length := by rw [← hit]; simp
  have htl : items.toList = its := by rw [← hit]
  rw [assign_Tuple]
  refine wpAny_bind (wpAny_standAt ?_)
  unfold unpack
  rw [hn, hst]
  refine wpAny_bind (wpAny_holding ?_)
  have hlt : a ≠ s.heap.objs.size := by obtain ⟨o, ho, _⟩ := hl; exact Nat.ne_of_lt (Heap.lt_size ho)
  unfold unpackItems
  refine wpAny_bind ?_
  unfold notIterableAtAll
  refine wpAny_bind (wpAny_specialOf hl.typeIs slot_tuple_iter.lookup ?_)
  refine wpAny_pure ?_
  simp only [Bool.false_eq_true, if_false]
  refine wpAny_bind (wpAny_holding (iter_tuple hl ?_))
  refine wpAny_bind (wpAny_holding (draw_tuple hlt i 0 _ _ ⟨_, Heap.get?_push_size _ rfl, rfl, rfl⟩ (hl.push _) (by omega) fun h₁ hit₁ hs₁ => ?_))
  have hl₁ : IsTup h₁ a items := (hl.push _).extBut hs₁.extBut hlt
  rw [Nat.zero_add] at hit₁
  have hit₁' := hit₁
  obtain ⟨oi, hoi, _⟩ := hit₁'
  have hl₁' := hl₁
  obtain ⟨ol, hol, _⟩ := hl₁'
  rw [List.drop_zero]
  have hfl : (items.toList.take i).length = i := by rw [List.length_take, Array.length_toList]; omega
  rw [if_neg (show ¬ ((items.toList.take i).length < i) by rw [hfl]; omega)]
  refine wpAny_bind (wpAny_holding (kun_collect (s := { s with heap := h₁ }) (T := "tuple_iterator") (.inr (.inr (.inr rfl))) (Walks.tuple (A := X.A.in1) hh s.heap.objs.size a hlt items) (fun j u st => st.1.typeIs) (k := i) (by omega) ⟨hit₁, hl₁⟩ (Heap.lt_size hoi) (Heap.lt_size hol) (fun h₂ tk hk => ?_) (by rw [sizeLine_eq]; omega)))
  have hrl : (items.toList.drop i).length = items.size - i := by rw [List.length_drop, Array.length_toList]
  have hmid : (items.toList.drop i).length - (n - 1 - i) = items.size + 1 - n := by rw [hrl]; omega
  show wpAny _ _ (if (items.toList.drop i).length < n - 1 - i then _ else _) _ _ _
  rw [if_neg (by rw [hrl]; omega)]
  show wpAny _ _ (newList ((items.toList.drop i).take ((items.toList.drop i).length - (n - 1 - i))) >>= fun d => pure (items.toList.take i ++ [d] ++ (items.toList.drop i).drop ((items.toList.drop i).length - (n - 1 - i)))) _ _ _
  rw [hmid, htl, hsz, ← hs]
  have he : ∀ b o, s.heap.get? b = some o → h₂.get? b = some o := fun b o e => by
    have hb : b ≠ s.heap.objs.size := Nat.ne_of_lt (Heap.lt_size e)
    exact hk b o hb (hs₁.extBut b o hb (Heap.get?_push_of_some _ e))
  have I1 : Inv X pins σ H { s with heap := h₂, toks := tk } := I.kept (t' := tk) he
  have hf : H h₂.objs.size = none := I1.hok.fresh (Nat.le_refl _)
  have hlen : ((its.drop i).take (xs.length + 1 - n)).length ≤ sizeLine := by rw [List.length_take, List.length_drop, sizeLine_eq]; omega
  refine wpAny_bind (wpAny_newObj_type (wpAny_pure ?_) ?_)
  · have I2 := I1.laid (a := h₂.objs.size) (o := .lst ((xs.drop i).take (xs.length + 1 - n))) (t' := tk) (h' := h₂.push { cls := .type "list", data := .seq ((its.drop i).take (xs.length + 1 - n)).toArray 0 }) (fun b u e => Heap.get?_push_of_some _ e) (Nat.le_refl _) ⟨by rw [List.length_take, List.length_drop, sizeLine_eq]; omega, _, 0, vals_take (vals_drop rv i) _, Heap.get?_push_size _ rfl⟩
    exact h.run pins _ σ _ _ _ Q I2 (((vals_take rv i).append (.cons (show RelV (.ref h₂.objs.size) (Value.ref h₂.objs.size) from rfl) .nil)).append (vals_drop (vals_drop rv i) _)) (hw _ hf)
  · size_fits
theorem pgs_star {X : Cx} {e : Expr} {p : Pos} {es : List Expr} {t : TG} {u : TGs} (h1 : PG X e t) (h2 : PGs X es u)
    (hs : (assignEach (.Starred e p :: es) X.env).map (·.2) = assign e X.env :: (assignEach es X.env).map (·.2) := by rfl) : PGs X (.Starred e p :: es) (gCons t u) := by
  refine ⟨fun pins s σ H vs us Q I r h => ?_⟩
  obtain ⟨v, vr, e1, h⟩ := h
  subst e1
  cases r with
  | cons r rr =>
    rw [hs]
    refine assignInOrder_cons (thn (h1.run pins s σ H _ _ _ I r h) fun _ s1 ⟨σ1, H1, I1, q1⟩ => ?_)
    exact h2.run pins s1 σ1 H1 _ _ Q I1 rr q1
/-- text * a number -/
theorem mul_len {x : Str} {n : Nat} : (Txt.mul x (n : Int)).length = x.length * n := by
  unfold Txt.mul
  by_cases h1 : (n : Int) < 1
  · have : n = 0 := by omega
    subst this
    rw [if_pos h1]
    rfl
  · rw [if_neg h1]
    by_cases h2 : ((n : Int) == 1 || x.length == 0) = true
    · rw [if_pos h2]
      rcases Bool.or_eq_true_iff.mp h2 with e | e
      · have : n = 1 := by have := beq_iff_eq.mp e; omega
        subst this
        rw [Nat.mul_one]
      · have : x.length = 0 := by simpa using e
        rw [this, Nat.zero_mul]
    · rw [if_neg h2]
      have go : ∀ (m : Nat) (acc : Array Nat), ((List.replicate m x.cps).foldl (· ++ ·) acc).size = acc.size + x.length * m := by
        intro m
        induction m with
        | zero => intro acc; simp
        | succ m ih =>
          intro acc
          rw [List.replicate_succ, List.foldl_cons, ih, Array.size_append, Nat.mul_succ]
          show acc.size + x.length + _ = _
          omega
      show ((List.replicate (n : Int).toNat x.cps).foldl (· ++ ·) #[]).size = _
      rw [go]
      simp
def rMulX : V → V → Hp → VK → Prop := fun x y H Q => ∃ (z : Str) (n : Nat), x = .str z ∧ y = .int (n : Int) ∧ n ≤ 1000 ∧ z.length ≤ 10000 ∧ ∀ r : Str, r = Txt.mul z (n : Int) → r.length = z.length * n → Q (.str r) H
theorem op_mulX {X : Cx} : OpR X (binaryOp .Mult) rMulX := by
  intro pins s σ H x y v u Q I rx ry ⟨z, n, ex, ey, hn, hz, q⟩
  subst ex ey
  obtain ⟨t, rfl⟩ := rx
  obtain ⟨t', rfl⟩ := ry
  have hm : z.length * n ≤ 10000 * 1000 := Nat.mul_le_mul hz hn
  refine SB.mul ⟨?_, fun h _ => ?_, fun _ _ => ?_⟩ fun t' k => ⟨.str (Txt.mul z (n : Int)), H, I.tok _, ⟨t', rfl⟩, q _ rfl mul_len⟩
  · rw [decide_eq_false (by omega), decide_eq_false (by omega)]
    rfl
  · have h1 : 1 ≤ (n : Int) := by omega
    have e : (1000000 : Int) ≤ (2 ^ 63 - 1) / (n : Int) := by
      apply Int.le_ediv_of_mul_le (by omega)
      have : (n : Int) ≤ 1000 := by omega
      omega
    omega
  · show decide (_ > sizeLine) = false
    rw [sizeLine_eq]
    apply decide_eq_false
    show ¬ z.length * (n : Int).toNat > 16777216
    rw [Int.toNat_natCast]
    omega
end L2
namespace My
open PySem PySem.Spec PyProof.Rows L2
theorem ShAll.get {K : PySem.W.Frag} {H : Hp} : ∀ {xs : List V} {ds : List PyData} {i : Nat} {v : V}, ShAll K H xs ds → xs[i]? = some v → ∃ d, d ∈ ds ∧ Sh K H v d
  | _, _, _, _, .nil, e => by simp at e
  | _, _, 0, _, .cons r _, e => by simp at e; subst e; exact ⟨_, List.mem_cons_self .., r⟩
  | _, _, i + 1, v, .cons _ t, e => by
    obtain ⟨d, h1, h2⟩ := ShAll.get (i := i) (v := v) t (by simpa using e)
    exact ⟨d, List.mem_cons_of_mem _ h1, h2⟩
theorem delk {H : Hp} {p t : Addr} {o u : HO} (e : H t = some u) (h : t ≠ p) : del (upd H p o) p t = some u := by
  rw [del_ne h, upd_ne h]
  exact e
theorem same_del_upd {H : Hp} {p : Addr} {o : HO} : Same (del H p) (del (upd H p o) p) := fun b u e => by
  by_cases hb : b = p
  · rw [hb, del_same] at e; cases e
  · rw [del_ne hb] at e ⊢
    rw [upd_ne hb]; exact e
end My
namespace L2
open PySem PySem.Spec PyProof.Rows PySem.GX HotX
/-! lists walked and unpacked while an exception is handled -/
section
variable {prog : Program} {w : World} {A : Around} {Er : Value → Shared → Prop} {s : Shared}
theorem hot_ne {x it l : Addr} {i : Nat} {h : Heap} (hot : HotAt A x h) (hit : h.IsListIter it l i) : x ≠ it := fun z => by
  obtain ⟨_, o, vs, e, d, c⟩ := hot
  obtain ⟨o', e', _, d'⟩ := hit
  rw [z, e'] at e
  cases e
  rw [d'] at d
  cases d
  simp at c
theorem next_end_hot {it l x : Addr} {i : Nat} {items : Array Value} {Q : Option Value → Shared → Prop} (hot : HotAt A x s.heap) (hit : s.heap.IsListIter it l i) (hl : s.heap.IsList l items) (none_ : items[i]? = none)
    (k : ∀ h', Heap.ExtBut it s.heap h' → Q none { s with heap := h' }) : wpAny (model prog w) A (pyNext (.ref it)) Q Er s := by
  have ne := hot_ne hot hit
  obtain ⟨oi, ei, ci, di⟩ := id hit
  obtain ⟨ol, el, _, nl, dl⟩ := hl
  obtain ⟨hh, o1, vs1, h1, d1, c1⟩ := hot
  unfold pyNext
  refine wpAny_bind (wpAny_attempt (wpAny_callSpecial?_slot (name := Str.ofString "__next__") hit.typeIs slot_listiter_next (wpAny_call_entry slot_listiter_next hit.typeIs entry_listiter_next ?_ (args_listiter_next _))))
  show wpAny _ _ (field (.ref it) 0 >>= _) _ _ s
  refine wpAny_bind (wpAny_field ei di (x := .ref l) rfl ?_)
  show wpAny _ _ (if (Value.ref l == Value.none) = true then _ else _) _ _ s
  rw [if_neg (show ¬ ((Value.ref l == Value.none) = true) from Bool.false_ne_true)]
  show wpAny _ _ (field (.ref it) 1 >>= _) _ _ s
  refine wpAny_bind (wpAny_field ei di (x := .int i 0) rfl ?_)
  show wpAny _ _ (seqItems? (.ref l) >>= _) _ _ s
  refine wpAny_bind (wpAny_seqItems el dl ?_)
  simp only [Int.toNat_natCast, none_]
  refine wpAny_bind (wpAny_rule (wpAny_bind (wpAny_setField ei di (by simp) ?_)))
  show wpAny _ _ (newExc (.type "StopIteration") [] >>= _) _ _ _
  refine wpAny_bind ?_
  simp only [newExc, newTuple]
  refine wpAny_bind (wpAny_newObj_type ?_ (by size_fits))
  refine wpAny_bind (m := firstArgMember _ _) (wpAny_of_eq (a := Value.none) (by first | rfl | (simp only [firstArgMember]; rfl)) ?_)
  refine wpAny_newObj_type ?_ (by size_fits)
  have g1 := Heap.get?_push_of_some { cls := .type "tuple", data := .seq ([] : List Value).toArray } ((Heap.get?_update_other s.heap (Obj.mapFields (·.setIfInBounds 0 Value.none)) ne.symm).trans h1)
  refine raiseNew_hot ⟨hh, o1, vs1, Heap.get?_push_of_some _ g1, d1, c1⟩ (Nat.ne_of_lt (Heap.lt_size g1)) (Heap.get?_push_size _ rfl) rfl (by first | (simp; done) | (simp; omega) | (simp only [Array.size_append]; simp; omega)) ?_
  refine wpAny_bind (wpAny_isInstance (T := "StopIteration") (b := true) ⟨_, Heap.get?_update_self _ (Heap.get?_push_size _ rfl) rfl, rfl⟩ isSubtype_stop ?_)
  refine wpAny_pure (k _ fun b o nb e => ?_)
  have g2 := Heap.get?_push_of_some { cls := .type "tuple", data := .seq ([] : List Value).toArray } ((Heap.get?_update_other s.heap (Obj.mapFields (·.setIfInBounds 0 Value.none)) nb.symm).trans e)
  rw [Heap.get?_update_other _ _ (Nat.ne_of_gt (Heap.lt_size g2))]
  exact Heap.get?_push_of_some _ g2
end
end L2
namespace L2
open PySem PySem.Spec PyProof.Rows PySem.GX HotX
/-- the context X handles the exception p, which stands as it is -/
structure Hb (X : Cx) (p : Addr × Obj) : Prop where
  hh : X.A.handled = some (.ref p.1)
  ctx : ∃ vs : Array Value, p.2.data = .fields vs ∧ vs[2]? = some .none
  at_ : ∀ (pins : List (Addr × Obj)) (σ : St) (H : Hp) (s : Shared), Inv X pins σ H s → s.heap.get? p.1 = some p.2 ∧ H p.1 = none
section
variable {X : Cx} {p : Addr × Obj}
theorem Hb.hot (h : Hb X p) {pins : List (Addr × Obj)} {σ : St} {H : Hp} {s : Shared} (I : Inv X pins σ H s) : HotAt X.A p.1 s.heap := by
  obtain ⟨vs, d, c⟩ := h.ctx
  exact ⟨h.hh, p.2, vs, (h.at_ _ _ _ _ I).1, d, c⟩
theorem Hb.of_pn (h1 : X.A.handled = some (.ref p.1)) (h2 : ∃ vs : Array Value, p.2.data = .fields vs ∧ vs[2]? = some .none) (hp : p ∈ X.pn) : Hb X p :=
  ⟨h1, h2, fun pins σ H s I => let z := I.pin p (List.mem_append_left _ hp); ⟨z.1, z.2.1⟩⟩
end
section
variable {prog : Program} {w : World} {A : Around} {Er : Value → Shared → Prop} {s : Shared}
theorem items_hot {x l : Addr} {items : Array Value} {Q : List Value → Shared → Prop} (hot : HotAt A x s.heap) (hl : s.heap.IsList l items) (k : ∀ h', Heap.ExtBut s.heap.objs.size s.heap h' → Q items.toList { s with heap := h' }) :
    wpAny (model prog w) A (unpackItems (.ref l) items.size none) Q Er s := by
  have nl : l ≠ s.heap.objs.size := by
    obtain ⟨o, e, _⟩ := hl
    exact Nat.ne_of_lt (Heap.lt_size e)
  obtain ⟨hh, o1, vs1, h1, d1, c1⟩ := hot
  unfold unpackItems
  refine wpAny_bind ?_
  unfold notIterableAtAll
  refine wpAny_bind (wpAny_specialOf hl.typeIs slot_list_iter.lookup (wpAny_pure ?_))
  simp only [Bool.false_eq_true, if_false]
  refine wpAny_bind (wpAny_holding (wpAny_pyIter_list hl (wpAny_bind (wpAny_holding (PySem.W.kun_draw nl items.size 0 _ _ ⟨_, Heap.get?_push_size _ rfl, rfl, rfl⟩ (hl.push _) (by omega) fun ha ita sa => ?_)))))
  rw [show List.take items.size (List.drop 0 items.toList) = items.toList by rw [List.drop_zero]; exact List.take_of_length_le (by simp), if_neg (by simp)]
  have hot2 : HotAt A x ha := ⟨hh, o1, vs1, sa.extBut x _ (Nat.ne_of_lt (Heap.lt_size h1)) (Heap.get?_push_of_some _ h1), d1, c1⟩
  refine wpAny_bind (wpAny_holding (next_end_hot (s := { s with heap := ha }) hot2 ita ((hl.push _).extBut sa.extBut nl) (by simp) fun hb eb => ?_))
  simp only [Option.isSome_none, Bool.false_eq_true, if_false]
  exact wpAny_pure (k hb fun b o nb e => eb b o nb (sa.extBut b o nb (Heap.get?_push_of_some _ e)))
end
section
variable {X : Cx} {p : Addr × Obj} {pos : Pos}
/-- (a, b, ..) = a list, while p is handled -/
theorem pg_unlE {K : PySem.W.Frag} (eK : X.K = K) {es : List Expr} {k : Nat} {t : TGs} {n : Nat} (hb : Hb X p) (h : PGs X es t) (hn : (assignEach es X.env).length = n := by rfl) (hst : (assignEach es X.env).findIdx? (·.1) = none := by rfl) : PG X (.Tuple es k pos) (gUnl K n t) := by
  subst eK
  refine ⟨fun pl s σ H v u Q I r ⟨a, xs, ev, hq, hl, hw⟩ => ?_⟩
  subst ev
  cases r
  obtain ⟨its, rv, ls, hz⟩ := I.list hq
  obtain ⟨o, m, e, c, d, q⟩ := ls
  have isL : s.heap.IsList a its.toArray := ⟨o, e, c, m, q⟩
  have en : (assignEach es X.env).length = its.toArray.size := hn.trans (hl.symm.trans (rv.length.trans (by simp)))
  rw [PyProof.Rows.assign_Tuple]
  refine wpAny_bind (wpAny_standAt ?_)
  unfold unpack
  rw [en, hst]
  refine wpAny_bind (wpAny_holding (items_hot (hb.hot I) isL fun h' hx => ?_))
  exact h.run pl _ σ H xs _ Q (I.kept (t' := s.toks) fun b o e => hx b o (Nat.ne_of_lt (Heap.lt_size e)) e) (by simpa using rv) hw
end
section
variable {X : Cx} {p : Addr × Obj} {pl : List (Addr × Obj)} {s : Shared} {σ : St} {H : Hp} {Q : VK} {elt tg iter : Expr} {ifs : List Expr} {scope : Scope} {own : List (Str × Nat)} {pos pos' : Pos} {ti : TE} {g : TG} {tt : TT} {te : TE} {use : Option (Value → Sem Unit)} {Qf : Value → Shared → Prop}
/-- [e for target in a list if ..], while p is handled -/
theorem lcE (hp : p ∈ X.pn) (hb : Hb X p) (hN : X.N.Nodup) (I : Inv X pl σ H s) (hi : PE X iter ti) (ok : BlkOk X.N X.env.scope scope own)
    (hg : ∀ (s : Shared) (H : Hp) (C : Addr) (cl : List (Str × Addr)) (fp : List Addr), Hb (X.blk s H scope (compEnvC scope cl C X.env) fp) p → PG (X.blk s H scope (compEnvC scope cl C X.env) fp) tg g)
    (ht : ∀ (s : Shared) (H : Hp) (C : Addr) (cl : List (Str × Addr)) (fp : List Addr), PTs (X.blk s H scope (compEnvC scope cl C X.env) fp) ifs tt)
    (he : ∀ (s : Shared) (H : Hp) (C : Addr) (cl : List (Str × Addr)) (fp : List Addr), PE (X.blk s H scope (compEnvC scope cl C X.env) fp) elt te) (hs : ∀ x, foldedSetIterable iter X.env x = pure x)
    (want : tLc (iList X.K ti) g tt te (own.map (·.2)) σ H Q)
    (fin : ∀ D C s' m H', Inv X pl σ H' s' → Q (.ref D) H' → s'.heap.Ns C m → FpOk X pl H' C → compPost (model X.prog X.w) X.A X.xe use Qf (.ref D) C (.ok .next) s') :
    wpAny (model X.prog X.w) X.A (comprehension (.ListComp elt [⟨tg, iter, ifs, 0⟩] scope pos) scope X.env pos' (newList []) false (eval iter X.env) use) Qf X.xe s := by
  have frees : ∀ y ∈ scope.names, y.2 = .free → ∃ c, X.env.cells.lookup y.1 = some c := fun y hy e => by
    rcases ok.free y hy e with k | k
    · exact I.ok.has _ (.inl k)
    · exact I.ok.has _ (.inr k)
  refine wpAny_comprehension_free (use := use) rfl hs (closure_ok frees) ok.kind (fun y hy e => by rw [ok.uniq y hy, e]) (thn (hi.run pl s σ H _ I want) fun _ sa ⟨va, Ha, Ia, ra, a, ea, ⟨xs, hq⟩, wishes⟩ => ?_)
  subst ea
  cases ra
  obtain ⟨its, rv, ls, hz⟩ := Ia.list hq
  refine wpAny_pyIter_list ls.isList (wpAny_newObj_type (newEnv_comp ?_) (by show 0 ≤ sizeLine; decide))
  generalize eit : sa.heap.objs.size = it
  generalize esb : ({ sa with heap := sa.heap.push { cls := .type "list_iterator", data := .fields #[.ref a, .int 0 0] } } : Shared) = sb
  have hsb : sb.heap = sa.heap.push { cls := .type "list_iterator", data := .fields #[.ref a, .int 0 0] } := by rw [← esb]
  have Ib : Inv X pl σ Ha sb := by
    rw [← esb]
    exact Ia.kept (t' := sa.toks) fun b o e => Heap.get?_push_of_some _ e
  have itb : sb.heap.IsListIter it a 0 := by
    rw [hsb, ← eit]
    exact ⟨_, Heap.get?_push_size _ rfl, rfl, rfl⟩
  have okit : FpOk X pl Ha it := Ia.fpOk (Nat.le_of_eq eit) (Ia.hok.fresh (Nat.le_of_eq eit))
  generalize eD : sb.heap.objs.size = D
  have freeD : Ha D = none := Ib.hok.fresh (Nat.le_of_eq eD)
  obtain ⟨W, ⟨m0, begins⟩, turn⟩ := wishes D freeD
  generalize esc : ({ sb with heap := sb.heap.push { cls := .type "list", data := .seq ([] : List Value).toArray } } : Shared) = sc
  have hsc : sc.heap = sb.heap.push { cls := .type "list", data := .seq ([] : List Value).toArray } := by rw [← esc]
  have Ic : Inv X pl σ (upd Ha D (.lst [])) sc := by
    rw [← esc]
    refine Ib.laid (t' := sb.toks) (fun b o e => Heap.get?_push_of_some _ e) (Nat.le_of_eq eD) ⟨Nat.zero_le _, [], 0, .nil, ?_⟩
    rw [← eD]
    exact Heap.get?_push_size _ rfl
  have itlt : it < sb.heap.objs.size := by
    obtain ⟨o, e, _⟩ := itb
    exact Heap.lt_size e
  have okc : ∀ b ∈ [it], FpOk X pl (upd Ha D (.lst [])) b ∧ b < sc.heap.objs.size := fun b hb => by
    obtain rfl : b = it := by simpa using hb
    refine ⟨⟨?_, okit.2⟩, ?_⟩
    · rw [upd_ne (by rw [← eD]; exact Nat.ne_of_lt itlt)]
      exact okit.1
    · rw [hsc, Heap.size_push]
      exact Nat.lt_succ_of_lt itlt
  have itc : sc.heap.IsListIter it a 0 := itb.at fun o e => by
    rw [hsc]
    exact Heap.get?_push_of_some _ e
  have Id := block_start Ic ok hN okc
  have pc := hb.at_ _ _ _ _ Ic
  have pz := Ic.pin p (List.mem_append_left _ hp)
  have nit : p.1 ≠ it := okit.2.2.2.2.2 p (List.mem_append_left _ hp)
  -- the block bears the handled exception
  have hbb : Hb (X.blk sc (upd Ha D (.lst [])) scope (compEnvC scope (cellsFrom (sc.heap.objs.size + 1) scope.names (cloFrom X.env.cells scope.names [])) sc.heap.objs.size X.env) [it]) p := by
    refine ⟨hb.hh, hb.ctx, fun pins' σ' H' s' I' => ?_⟩
    have nfs : p.1 ∉ frs X.stack := fun m => by
      rcases Ic.ok.stk with z | ⟨z, zf⟩
      · rw [z] at m
        exact pz.2.2.2.1 m
      · rw [z] at m
        unfold frs at m
        rw [List.filterMap_cons, zf] at m
        rcases List.mem_cons.mp m with m | m
        · exact pz.2.2.1 m
        · exact pz.2.2.2.1 m
    have nex : p.1 ∉ [it] := fun z => nit (by simpa using z)
    exact ⟨I'.base.keep p.1 p.2 pc.1 pc.2 nfs nex, I'.base.free p.1 p.2 pc.1 pc.2 nex⟩
  have g1 := hg sc (upd Ha D (.lst [])) sc.heap.objs.size (cellsFrom (sc.heap.objs.size + 1) scope.names (cloFrom X.env.cells scope.names [])) [it] hbb
  have g2 := ht sc (upd Ha D (.lst [])) sc.heap.objs.size (cellsFrom (sc.heap.objs.size + 1) scope.names (cloFrom X.env.cells scope.names [])) [it]
  have g3 := he sc (upd Ha D (.lst [])) sc.heap.objs.size (cellsFrom (sc.heap.objs.size + 1) scope.names (cloFrom X.env.cells scope.names [])) [it]
  show codeAny _ _ (.compStart (.ListComp elt [⟨tg, iter, ifs, 0⟩] scope pos) 0 (.ref it) (.ref D) (compEnvC scope (cellsFrom (sc.heap.objs.size + 1) scope.names (cloFrom X.env.cells scope.names [])) sc.heap.objs.size X.env)) _
    { sc with heap := pushCells (sc.heap.push { cls := .type "dict", data := .dict #[] }) scope.names }
  have hid : (upd Ha D (.lst [])) it = none := (okc it (by simp)).1.1
  generalize eenv : compEnvC scope (cellsFrom (sc.heap.objs.size + 1) scope.names (cloFrom X.env.cells scope.names [])) sc.heap.objs.size X.env = env at Id g1 g2 g3 hbb ⊢
  have eloc : env.locals = sc.heap.objs.size := by subst eenv; rfl
  generalize eHc : upd Ha D (.lst []) = Hc at Ic Id g1 g2 g3 begins hid okc hbb
  generalize esd : ({ sc with heap := pushCells (sc.heap.push { cls := .type "dict", data := .dict #[] }) scope.names } : Shared) = sd at Id ⊢
  have itd : sd.heap.IsListIter it a 0 := itc.at fun o e => by
    rw [← esd]
    exact pushCells_keeps _ _ _ _ (Heap.get?_push_of_some _ e)
  have fpOk : ∀ {σ' : St} {H' : Hp} {s' : Shared}, Inv (X.blk sc Hc scope env [it]) [] σ' H' s' → H' it = none → FpOk (X.blk sc Hc scope env [it]) [] H' it := fun {σ' H' s'} I' free => by
    refine ⟨free, (I'.ok.exf it (by simp)).1, I'.ok.exfs it (by simp), .inl (by simp), fun x c e => (I'.ok.exf it (by simp)).2 x c e, fun q hq => ?_⟩
    exact absurd (show q ∈ ([] : List (Addr × Obj)) ++ [] from hq) (by simp)
  have lp : codeAny (model X.prog X.w) X.A (.compLoop (.ListComp elt [⟨tg, iter, ifs, 0⟩] scope pos) 0 (.ref it) (.ref D) env) (compPost (model X.prog X.w) X.A X.xe use Qf (.ref D) sc.heap.objs.size) sd := by
    refine compLoop_any (fun n s' => ∃ i H', Inv (X.blk sc Hc scope env [it]) [] (wipe σ (own.map (·.2))) H' s' ∧ s'.heap.IsListIter it a i ∧ H' it = none ∧ W i n H') ?_ m0 ⟨0, Hc, Id, itd, hid, begins⟩
    rintro n se ⟨i, He, Ie, ie, free, at_⟩
    obtain ⟨f0, f1, f2, f3, f4, f5⟩ := fpOk Ie free
    rcases turn i n He at_ with ⟨⟨ys, hy, hle⟩, wish⟩ | ⟨⟨ys, x0, hy, hx0⟩, On, next, step⟩
    · obtain ⟨jts, rj, lj, hj⟩ := Ie.list hy
      have hlen := rj.length
      refine next_end_hot (hbb.hot Ie) ie lj.isList (by simp; omega) fun h' eb => ?_
      have If : Inv (X.blk sc Hc scope env [it]) [] (wipe σ (own.map (·.2))) He { se with heap := h' } := Ie.turned (t' := se.toks) (fun b o hb e => eb b o hb e) f0 f1 f3 f4 f5
      have back : Inv X pl σ He { se with heap := h' } := Ic.call' (ch := [it]) If.os If.base If.hok If.bare fun b hb => ⟨(okc b hb).1.2.2.2.1, (okc b hb).1.2.1, (okc b hb).1.2.2.2.2.1, (okc b hb).1.2.2.2.2.2⟩
      have noC : He sc.heap.objs.size = none := by
        have z : He env.locals = none := If.free
        rw [eloc] at z
        exact z
      obtain ⟨m, hn, _⟩ := If.loc
      have hn' : h'.Ns env.locals m := hn
      rw [eloc] at hn'
      exact fin D sc.heap.objs.size _ m He back wish hn' (Ic.fpOk (Nat.le_refl _) noC)
    · obtain ⟨jts, rj, lj, hj⟩ := Ie.list hy
      obtain ⟨u, hu, ru⟩ := rj.get hx0
      refine wpAny_pyNext_list_item ie lj.isList (x := u) (by simpa using hu) fun h' ie' sb' => ?_
      have Ig : Inv (X.blk sc Hc scope env [it]) [] (wipe σ (own.map (·.2))) He { se with heap := h' } := Ie.turned (t' := se.toks) (fun b o hb e => (sb'.2 b hb).trans e) f0 f1 f3 f4 f5
      obtain ⟨oi, ei, ci, di⟩ := id ie'
      refine go_of (s := { se with heap := h' }) ei ci di (by decide) ?_
      have pinned := Ig.pinned (fp := [it]) (fun b hb => by
        obtain rfl : b = it := by simpa using hb
        exact fpOk Ig free) (fun b hb => by
        obtain rfl : b = it := by simpa using hb
        exact ⟨oi, ei, fun v z => by rw [di] at z; cases z⟩)
      refine thnF (g1.run _ { se with heap := h' } _ He x0 u _ pinned ru (step x0 He ⟨rfl, fun zs hz => by rw [Ie.list_inj hz hy]; exact hx0⟩)) fun _ sh ⟨σh, Hh, Ih, wh, qh⟩ => ?_
      refine thnF (g2.run _ sh σh Hh _ Ih qh) fun b si ⟨Hi, Ii, qi⟩ => ?_
      have ends : ∀ {s' : Shared} {H' : Hp}, Inv (X.blk sc Hc scope env [it]) ([] ++ pinsAt [it] h') σh H' s' → On H' →
          ∃ m, m < n ∧ ∃ i H', Inv (X.blk sc Hc scope env [it]) [] (wipe σ (own.map (·.2))) H' s' ∧ s'.heap.IsListIter it a i ∧ H' it = none ∧ W i m H' := fun {s' H'} I' on => by
        obtain ⟨m', lt, at'⟩ := next H' on
        have z := I'.pin (it, oi) (List.mem_append_right _ (List.mem_append_right _ (mem_pinsAt (by simp) ei)))
        have len : (wipe σ (own.map (·.2))).length = σh.length := by
          rw [← wh, wipe_length]
        refine ⟨m', lt, i + 1, H', (I'.unpinned (pins := [])).weak len (fun j y e => ?_), ⟨oi, z.1, ci, di⟩, z.2.1, at'⟩
        rw [← wh] at e
        exact (wipe_some e).1
      cases b with
      | false =>
        simp only [Bool.false_eq_true, if_false] at qi ⊢
        exact ends Ii qi
      | true =>
        simp only [if_true] at qi ⊢
        refine thnF (g3.run _ si σh Hi _ Ii qi) fun _ sj ⟨yv, Hj, Ij, rj', acc, eDj, few, on⟩ => ?_
        exact app_ok (X := X.blk sc Hc scope env [it]) Ij eDj few rj' fun _ Il => ends Il on
  exact codeAny_compStart_list lp (wpAny_pyIter_listiter itd lp)
/-- name = [..] on one line, while p is handled -/
theorem ps_setLcE {i : Nat} {y : Str} {py spos : Pos} (hp : p ∈ X.pn) (hb : Hb X p) (hN : X.N.Nodup) (hy : X.N[i]? = some y) (hyl : X.env.scope.names.lookup y = some .local) (hsw : swapsWith (.ListComp elt [⟨tg, iter, ifs, 0⟩] scope pos) (some (.Name y py)) spos.line X.env = pure true)
    (hi : PE X iter ti) (ok : BlkOk X.N X.env.scope scope own)
    (hg : ∀ (s : Shared) (H : Hp) (C : Addr) (cl : List (Str × Addr)) (fp : List Addr), Hb (X.blk s H scope (compEnvC scope cl C X.env) fp) p → PG (X.blk s H scope (compEnvC scope cl C X.env) fp) tg g)
    (ht : ∀ (s : Shared) (H : Hp) (C : Addr) (cl : List (Str × Addr)) (fp : List Addr), PTs (X.blk s H scope (compEnvC scope cl C X.env) fp) ifs tt)
    (he : ∀ (s : Shared) (H : Hp) (C : Addr) (cl : List (Str × Addr)) (fp : List Addr), PE (X.blk s H scope (compEnvC scope cl C X.env) fp) elt te) (hs : ∀ x, foldedSetIterable iter X.env x = pure x := by intro _; rfl) :
    PS X (.Assign [.Name y py] (.ListComp elt [⟨tg, iter, ifs, 0⟩] scope pos) spos) (tAsg (tLc (iList X.K ti) g tt te (own.map (·.2))) (gName i)) := by
  refine ⟨fun pl s σ H D I want => ?_⟩
  rw [exec_Assign_Name_used _ _ _ _ hsw]
  refine wpAny_bind (wpAny_standAt (wpAny_bind (wpAny_bind (thn (lcE (Qf := fun _ s' => SP X pl D .next s') hp hb hN I hi ok hg ht he hs (show tLc (iList X.K ti) g tt te (own.map (·.2)) σ H (fun x H1 => gName i x σ H1 D.nx) from want) fun L C s' m H' I' q hn f => ?_) fun _ s' hq => wpAny_pure (wpAny_pure hq)))))
  obtain ⟨f0, f1, f2, f3, f4, f5⟩ := f
  refine wpAny_assign_Name (store_ok2 (v := V.ref L) I' hN hy (.inl hyl) rfl (fun sx Ix ⟨a, sb, ha⟩ => ⟨m, hn.sameBut sb ?_, fun hx sbx => ⟨_, H', Ix.turned (t' := sx.toks) (fun b o hb e => (sbx.2 b hb).trans e) f0 f1 f3 f4 f5, q⟩⟩) (.inr hyl))
  rcases ha with z | z
  · rw [z]
    exact f1
  · exact fun e => f4 y a z e.symm
end
end L2
namespace L2
open PySem PySem.Spec PyProof.Rows PySem.GX HotX L2H
/-- what a def promises where p is handled: sp may speak of p -/
structure FnE (p : Addr × Obj) (P : Program) (w : World) (K : PySem.W.Frag) (mg : Str → Option Value) (base : Heap) (k : Nat) (f : Addr) (fd : FuncData) (ps : List Str) (sp : Sp) : Prop where
  len : ∀ vs H Q E, sp vs H Q E → vs.length = ps.length
  run : ∀ (A : Around) (outer : List Env) (s : Shared) (H : Hp) (args : Args) (us : List Value) (vs : List V) (Q : VK) (E : XK), RoomH k A → Hot1 A p → PinOk outer H s p → Env0 P w K mg base A outer s H → BindsTo s fd args (ps.zip us) → Vals vs us → sp vs H Q E →
    codeAny (model P w) A (.call (.ref f) args) (CR CX0 outer P w H s Q E) s
section
variable {P : Program} {w : World} {K : PySem.W.Frag} {mg : Str → Option Value} {base : Heap} {p : Addr × Obj}
theorem Fun.okE {x qual : Str} {st : Stmt} {f : Addr} {fd : FuncData} {N ps : List Str} {k : Nat} {sp : Sp} (F : Fun K x qual st f fd) (S : FnScope N ps (defScope st)) (len : ∀ vs H Q E, sp vs H Q E → vs.length = ps.length)
    (hbody : ∀ (cdv : Value) (A : Around) (outer : List Env) (s : Shared) (H : Hp) (vs : List V) (Q : VK) (E : XK), Hot1 A p → RoomH k (A.deeper (envOfC qual (defScope st) s.heap.objs.size f cdv)) → sp vs H Q E →
      ∃ t, PSs (cxH CX0 P w K mg base N qual (defScope st) f cdv A outer s H E p) (defBody st) t ∧ t { nx := fun _ H' => Q .non H', rt := Q } (start N vs) H) : FnE p P w K mg base (k + 1) f fd ps sp := by
  obtain ⟨oc, od, kV, doc, pm, an, cdv, ct, osl, rfl, lk, hcd⟩ := F.ex
  refine ⟨len, fun A outer s H args us vs Q E hr hot hpin e0 hb r want => ?_⟩
  have kin : K.In s.heap := e0.mod.kin.keeps fun b o e => (e0.bs b o e).1
  have kinds : ∀ y ∈ ps.zip us, (defScope st).names.lookup y.1 = some .local ∨ ((defScope st).names.lookup y.1 = some .cell ∧ ((cellsFrom (s.heap.objs.size + 1) (defScope st).names []).lookup y.1).isSome = true) := fun ⟨n, v⟩ hy => by
    rcases S.par n (List.of_mem_zip hy).1 with q | q
    · exact .inl q
    · exact .inr ⟨q, PySem.W.cellsFrom_some _ _ _ (.inl q)⟩
  refine codeAny_call_function hr.depth (kin _ _ lk) rfl S.co S.gen rfl (PySem.W.codeRec_of kin hcd) (hb _ _ _ _ (wpAny_newFunctionEnv_cells S.kind kinds fun env he s1 x => ?_))
  subst he
  refine ⟨(e0.mod.nolimit.keeps fun b o e => (e0.bs b o e).1).keeps x.toInCall.keep, codeAny_func ?_⟩
  obtain ⟨t, ht, hq⟩ := hbody cdv A outer s H vs Q E hot (hr.deeper _) want
  refine wpAny_mono (ht.run [] s1 (start N vs) H _ (inv_startH S hpin e0 (len _ _ _ _ want) r x) hq) (fun fl s' hs => ?_) fun e s' hs => hs
  cases fl with
  | ret u =>
    obtain ⟨v, σ', H', J, rv, q⟩ := hs
    exact ⟨v, H', J.os, J.bare, J.base, J.hok, rv, q⟩
  | next =>
    obtain ⟨σ', H', J, q⟩ := hs
    exact ⟨V.non, H', J.os, J.bare, J.base, J.hok, rfl, q⟩
  | brk =>
    obtain ⟨_, _, _, q⟩ := hs
    exact False.elim q
  | cont =>
    obtain ⟨_, _, _, q⟩ := hs
    exact False.elim q
end
def tCallE (sp : Sp) (t : TA) : TE := fun σ H Q => t σ H fun vs H1 => sp vs H1 Q fun _ _ _ => False
section
variable {X : Cx} {p : Addr × Obj} {k : Nat} {f : Addr} {fd : FuncData} {ps : List Str} {sp : Sp} {x : Str} {pp pos : Pos} {e : Expr} {es : List Expr} {t : TA}
theorem pe_callE (F : FnE p X.prog X.w X.K X.mg X.base k f fd ps sp) (hr : RoomH k X.A) (hot : Hot1 X.A p) (hp : p ∈ X.pn) (hg : Gl X x) (hm : X.mg x = some (.ref f)) (hk : PySem.W.keepIn X.K (.ref f) = true) (hb : Binds X.K fd ps [])
    (ha : PA X (e :: es) t) (hdb : (x == ("__debug__" : Str)) = false := by decide) (he : starEach (e :: es) X.env = (false, eval e X.env) :: starEach es X.env := by rfl) (hpl : (backTo pos (starEach es X.env)).any (·.1) = false := by rfl) :
    PE X (.Call (.Name x pp) (e :: es) [] pos) (tCallE sp t) := by
  refine ⟨fun pl s σ H Q I want => wpAny_Call_Name_kw (ld_glob I hg hm (PySem.W.callWith_K (h₀ := X.base) I.ok.mod.kin hk (thn (ha.run pos pl s σ H _ I want) fun us s1 ⟨vs, H1, I1, r, q⟩ => ⟨I1.kIn, ?_⟩) he hpl) hdb)⟩
  have hl : us.length = ps.length := by
    rw [← r.length]
    exact F.len _ _ _ _ q
  have b := hb s1 us I1.kIn (by rw [List.append_nil]; exact hl)
  rw [List.append_nil] at b
  have z := I1.pin p (List.mem_append_left _ hp)
  have pin : PinOk X.stack H1 s1 p := ⟨z.1, z.2.1, fun m => (List.mem_cons.mp (I1.stkSub p.1 m)).elim z.2.2.1 z.2.2.2.1, z.2.2.2.2⟩
  refine wpAny_call (codeAny_mono (F.run X.A X.stack s1 H1 ⟨us, []⟩ us vs Q _ hr hot pin I1.env0 b r q) fun r s' hq => ?_)
  cases r with
  | error e => exact False.elim hq
  | ok fl =>
    cases fl with
    | ret u => exact I1.after hq
    | next => exact False.elim hq
    | brk => exact False.elim hq
    | cont => exact False.elim hq
end
end L2
namespace L2
open PySem PySem.Spec PyProof.Rows PySem.GX HotX L2H
/-- p is an exception of the class at C, its dict at d -/
structure PIs (p : Addr × Obj) (C d : Addr) : Prop where
  cl : p.2.cls = .ref C
  di : p.2.dict = some d
section
variable {X : Cx} {p : Addr × Obj} {C d : Addr} {pins : List (Addr × Obj)} {σ : St} {H : Hp} {s : Shared} {fs : List (Str × V)}
theorem inst_p (hb : Hb X p) (hp : PIs p C d) (I : Inv X pins σ H s) (hd : H d = some (exd d fs)) : ∃ o : Obj, PySem.W.InstAt s.heap p.1 p.2 C (some o) := by
  obtain ⟨mA, ⟨o, es, ep, h1, h2⟩, _⟩ := exd_at I.hok hd
  obtain ⟨vs, dv, _⟩ := hb.ctx
  refine ⟨o, ⟨(hb.at_ _ _ _ _ I).1, hp.cl, ?_, ?_⟩⟩
  · unfold PySem.W.notCls
    rw [dv]
  · rw [hp.di]
    exact h1
end
/-- isinstance(e, c), e the exception p that is handled -/
def rIsP (p : Addr × Obj) (C d : Addr) (K : PySem.W.Frag) : List V → Hp → VK → Prop := fun xs H Q => ∃ (c : V) (u : Value) (b : Bool) (fs : List (Str × V)), xs = [.ref p.1, c] ∧ H d = some (exd d fs) ∧ ClsV c u ∧ PySem.W.kitOne K (.ref C) u = some b ∧ Q (.bl b) H
theorem call_isP {X : Cx} {p : Addr × Obj} {C d : Addr} (hb : Hb X p) (hp : PIs p C d) (T : ExcC X.K C) : CallR X (.builtin "isinstance") (rIsP p C d X.K) := by
  intro pl s σ H xs us Q I r ⟨c, u, b, fs, ex, hd, k, ek, q⟩
  subst ex
  obtain ⟨u1, u2, rfl, r1, r2⟩ := vals2 r
  have z := k.eq r2
  subst z
  obtain rfl : u1 = Value.ref p.1 := r1
  obtain ⟨o, J⟩ := inst_p hb hp I hd
  exact PySem.W.kia_one (kitG T) I.kIn J ek (fun z => nomatch z) fun tk => ⟨.bl b, H, I.tok tk, rfl, q⟩
/-- e.f, e the exception p that is handled -/
def tXfP (p : Addr × Obj) (C d : Addr) (K : PySem.W.Frag) (f : Str) (te : TE) : TE := fun σ H Q => te σ H fun x H1 => ∃ (fs : List (Str × V)) (v : V), x = .ref p.1 ∧ H1 d = some (exd d fs) ∧ PySem.W.findIn K (.ref C) f = some none ∧ fs.lookup f = some v ∧ Q v H1
theorem pe_xfP {X : Cx} {p : Addr × Obj} {C d : Addr} {e : Expr} {te : TE} {f : Str} {pos : Pos} (hb : Hb X p) (hp : PIs p C d) (T : ExcC X.K C) (he : PE X e te) (ha : attributeBase e f X.env (eval e X.env) = eval e X.env := by rfl) : PE X (.Attribute e f pos) (tXfP p C d X.K f te) := by
  refine ⟨fun pl s σ H Q I want => attr_of ha (thn (he.run pl s σ H _ I want) fun u s1 ⟨x, H1, I1, rx, fs, v, ex, hd, no, l, q⟩ => ?_)⟩
  subst ex
  obtain rfl : u = Value.ref p.1 := rx
  obtain ⟨mA, hns, rel⟩ := exd_at I1.hok hd
  obtain ⟨od, hod, hl⟩ := lookIn_ns hns
  obtain ⟨u, hu, ru⟩ := RelO.some_of (v := v) (o := mA f) (by rw [← l]; exact rel f)
  obtain ⟨vs, dv, _⟩ := hb.ctx
  have J : PySem.W.InstAt s1.heap p.1 p.2 C (some od) := ⟨(hb.at_ _ _ _ _ I1).1, hp.cl, by unfold PySem.W.notCls; rw [dv], by rw [hp.di]; exact hod⟩
  exact HandSPX.exc_get I1.kIn J T.hg T.hk T.hs (PySem.W.findObj_own T.hd no rfl (by rw [hl, hu])) (handed_of ru) ⟨v, H1, I1.tok _, ru, q⟩
end L2
namespace L2
open PySem PySem.Spec PyProof.Rows PySem.GX HotX L2H
theorem PE_imp {X : Cx} {e : Expr} {t t' : TE} (h : PE X e t) (m : ∀ σ H Q, t' σ H Q → t σ H Q) : PE X e t' := ⟨fun pins s σ H Q I q => h.run pins s σ H Q I (m σ H Q q)⟩
/-- __init__ with one field -/
def spI1 (C : Addr) (f : Str) : Sp := fun vs H Q _ => ∃ (a : Addr) (v : V), vs = [.ref a, v] ∧ H a = some (exo a C none) ∧
  ∀ d, H d = none → d ≠ a → Q .non (upd (upd H d (exd d [(f, v)])) a (exo a C (some d)))
/-- the class x at C, whose __init__ keeps its one argument as f -/
structure Mk1 (P : Program) (w : World) (K : PySem.W.Frag) (mg : Str → Option Value) (base : Heap) (x : Str) (C : Addr) (f : Str) : Prop where
  ex : ExG K C
  gC : mg x = some (.ref C)
  ini : ∃ (fI : Addr) (fd : FuncData), PySem.W.findIn K (.ref C) "__init__" = some (some (.ref fI)) ∧ PySem.W.typeIn K (.ref fI) = some (.type "function") ∧ FnOk P w K mg base CX0 1 fI fd ["self", f] (spI1 C f) ∧
    KBn K fd ["self", f] 2 [] (fun us _ => us) (fun vs _ => vs) ∧ KBn K fd ["self", f] 1 [f] (fun us ws => us ++ ws) (fun vs zs => vs ++ zs)
def tMk1 (C : Addr) (f : Str) (ta : TA) : TE := fun σ H Q => ta σ H fun vs H1 => ∃ v, vs = [v] ∧ ∀ (a d : Addr) (H2 : Hp), H1 a = none → d ≠ a → Same H1 H2 → ExAt H2 a C d [(f, v)] → Q (.ref a) H2
/-- the heap behind the making -/
theorem mk1_heap {H : Hp} {a d C : Addr} {f : Str} {v : V} (ha : H a = none) (hd : upd H a (exo a C none) d = none) (ne : d ≠ a) :
    Same H (upd (upd (upd H a (exo a C none)) d (exd d [(f, v)])) a (exo a C (some d))) ∧ ExAt (upd (upd (upd H a (exo a C none)) d (exd d [(f, v)])) a (exo a C (some d))) a C d [(f, v)] := by
  refine ⟨fun b o e => ?_, upd_same, by rw [upd_ne ne, upd_same]⟩
  have hd' : H d = none := by rw [upd_ne ne] at hd; exact hd
  rw [upd_ne (ne_of_none e ha), upd_ne (ne_of_none e hd'), upd_ne (ne_of_none e ha)]
  exact e
section
variable {X : Cx} {x f g : Str} {C : Addr} {e : Expr} {es : List Expr} {kws : List Keyword} {ta tk : TA} {p pos : Pos}
theorem pe_mk1 (M : Mk1 X.prog X.w X.K X.mg X.base x C f) (hr : Room 2 X.A) (hg : Gl X x) (ha : PA X (e :: es) ta)
    (hdb : (x == ("__debug__" : Str)) = false := by decide) (he : starEach (e :: es) X.env = (false, eval e X.env) :: starEach es X.env := by rfl) (hpl : (backTo pos (starEach es X.env)).any (·.1) = false := by rfl) :
    PE X (.Call (.Name x p) (e :: es) [] pos) (tMk1 C f ta) := by
  obtain ⟨fI, fd, iC, tI, F1, kb, _⟩ := M.ini
  refine ⟨fun pins s σ H Q I h => wpAny_Call_Name_kw (ld_glob I hg M.gC ?_ hdb)⟩
  refine PySem.W.callWith_K (h₀ := X.base) I.ok.mod.kin M.ex.kC (thn (ha.run pos pins s σ H _ I h) fun us s1 ⟨vs, H1, I1, r, v, ev, q⟩ => ⟨I1.kIn, ?_⟩) he hpl
  subst ev
  refine run_mkG (n := 1) (ks := []) (ws := []) (zs := []) M.ex iC tI F1 hr kb pass0 I1 r .nil rfl rfl (by show 1 ≤ 1000; decide) fun a na => ⟨a, v, rfl, upd_same, fun d nd ne => ⟨rfl, ?_⟩⟩
  obtain ⟨z1, z2⟩ := mk1_heap (f := f) (v := v) na nd ne
  exact q a d _ na ne z1 z2
theorem pe_mk1K (M : Mk1 X.prog X.w X.K X.mg X.base x C f) (hr : Room 2 X.A) (hg : Gl X x) (hkw : PK X kws tk)
    (hall : (backToKw pos (keywordEach kws X.env)).all (·.1.isSome) = true := by rfl) (hks : (backToKw pos (keywordEach kws X.env)).filterMap (·.1) = [f] := by rfl) (hdb : (x == ("__debug__" : Str)) = false := by decide)
    (hpl : ((backTo pos (starEach [] X.env)).any (·.1) || (backToKw pos (keywordEach kws X.env)).any (·.1.isNone)) = false := by rfl) :
    PE X (.Call (.Name x p) [] kws pos) (tMk1 C f tk) := by
  obtain ⟨fI, fd, iC, tI, F1, _, kb⟩ := M.ini
  refine ⟨fun pins s σ H Q I h => wpAny_Call_Name_kw (ld_glob I hg M.gC ?_ hdb)⟩
  refine PySem.W.callWith_KW0 (h₀ := X.base) I.ok.mod.kin M.ex.kC hall ?_ hpl
  refine thn (hkw.run pos pins s σ H _ I h) fun ws s2 ⟨zs, H1, I1, rz, v, ev, q⟩ => ⟨I1.kIn, ?_⟩
  subst ev
  rw [hks]
  refine run_mkG (n := 0) (ks := [f]) (us := []) (vs := []) M.ex iC tI F1 hr kb pass0 I1 .nil rz rfl rfl (by decide) fun a na => ⟨a, v, rfl, upd_same, fun d nd ne => ⟨rfl, ?_⟩⟩
  obtain ⟨z1, z2⟩ := mk1_heap (f := f) (v := v) na nd ne
  exact q a d _ na ne z1 z2
end

/-- an own exception with its dict, made and raised -/
theorem pmk_exo {X : Cx} {e : Expr} {te : TE} (hx : X.ex = []) (he : PE X e te) :
    L2N.PMk X e (fun σ H Q => te σ H fun x H1 => ∃ a C d, x = .ref a ∧ H1 a = some (exo a C (some d)) ∧ X.H_0 a = none ∧ Raises X (.ref C) ∧ Q (.ref C) (some d) (delH H1 a)) := by
  intro pl s σ H Q I want
  refine wpAny_mono (he.run pl s σ H _ I want) (fun u s1 ⟨v, H1, I1, r1, a, C, d, ev, ea, h0, hr, q⟩ => ?_) fun _ _ x => x
  subst ev
  cases r1
  obtain ⟨t1, ho⟩ := exo_at I1.hok ea
  obtain ⟨G, gs, ga, J⟩ := Inv.untrack I1 ea (fr0_none h0) hx
  exact ⟨a, _, _, { s1 with heap := G }, delH H1 a, .ref C, some d, rfl, J, gs, ga, ho, ⟨rfl, rfl, fun vs e => by cases e; rfl⟩, rfl, rfl, delH_same, rfl, I1.bare, hr, q⟩
/-- raise X(e): what leaves -/
def tRs1 (X : Cx) (C : Addr) (f : Str) (W : L2.WX) (ta : TA) : TS := fun _ σ H => tMk1 C f ta σ H fun x H1 => ∃ a C d, x = .ref a ∧ H1 a = some (exo a C (some d)) ∧ X.H_0 a = none ∧ Raises X (.ref C) ∧ W (.ref C) (some d) σ (delH H1 a)
section
variable {X : Cx} {x f : Str} {C : Addr} {e : Expr} {es : List Expr} {ta : TA} {pp pos pos2 : Pos} {W : L2.WX}
theorem ps_raise1 (M : Mk1 X.prog X.w X.K X.mg X.base x C f) (hr : Room 2 X.A) (hg : Gl X x) (hx : X.ex = []) (hc : X.calm = true) (tk : L2N.Takes X W) (ha : PA X (e :: es) ta)
    (hdb : (x == ("__debug__" : Str)) = false := by decide) (he : starEach (e :: es) X.env = (false, eval e X.env) :: starEach es X.env := by rfl) (hpl : (backTo pos (starEach es X.env)).any (·.1) = false := by rfl) :
    PS X (.Raise (some (.Call (.Name x pp) (e :: es) [] pos)) none pos2) (tRs1 X C f W ta) :=
  L2N.ps_raise hc tk (pmk_exo hx (pe_mk1 (p := pp) M hr hg ha hdb he hpl))
/-- how the reading is answered -/
theorem rs1_end {X : Cx} {C a d : Addr} {f : Str} {v : V} {H1 H2 : Hp} {σ : St} {W : L2.WX} (rs : Raises X (.ref C)) (h0 : Same X.H_0 H1) (na : H1 a = none) (ne : d ≠ a) (s2 : Same H1 H2) (ex : ExAt H2 a C d [(f, v)])
    (k : ∀ H3, Same H1 H3 → H3 d = some (exd d [(f, v)]) → W (.ref C) (some d) σ H3) : ∃ a' C' d', V.ref a = .ref a' ∧ H2 a' = some (exo a' C' (some d')) ∧ X.H_0 a' = none ∧ Raises X (.ref C') ∧ W (.ref C') (some d') σ (delH H2 a') := by
  refine ⟨a, C, d, rfl, ex.ob, h0.free na, rs, k _ (fun b o e => ?_) ?_⟩
  · rw [delH_ne (ne_of_none e na)]
    exact s2 b o e
  · rw [delH_ne ne]
    exact ex.di
end
/-- a def that may raise, where nothing is handled -/
theorem Fun.okN {P : Program} {w : World} {K : PySem.W.Frag} {mg : Str → Option Value} {base : Heap} {x qual : Str} {st : Stmt} {f : Addr} {fd : FuncData} {N ps : List Str} {k : Nat} {sp : Sp} (F : Fun K x qual st f fd) (S : FnScope N ps (defScope st)) (len : ∀ vs H Q E, sp vs H Q E → vs.length = ps.length)
    (hbody : ∀ (cdv : Value) (A : Around) (outer : List Env) (s : Shared) (H : Hp) (vs : List V) (Q : VK) (E : XK), Room k (A.deeper (envOfC qual (defScope st) s.heap.objs.size f cdv)) → sp vs H Q E →
      ∃ t, PSs (cxOf (L2N.CX P w) P w K mg base N qual (defScope st) f cdv A outer s H E) (defBody st) t ∧ t { nx := fun _ H' => Q .non H', rt := Q } (start N vs) H) : FnOk P w K mg base (L2N.CX P w) (k + 1) f fd ps sp := by
  obtain ⟨oc, od, kV, doc, pm, an, cdv, ct, osl, rfl, lk, hcd⟩ := F.ex
  exact fn_of lk hcd S len fun A outer s H vs Q E hr want => hbody cdv A outer s H vs Q E hr want
end L2
namespace L2
open PySem PySem.Spec PyProof.Rows PySem.GX HotX L2H
theorem flying_keep {B h h' : Heap} {l : List Env} {e : Addr} {Z : Obj → Prop} (x : HandSPX.FlyingZ B l e Z h) (k : ∀ b o, h.get? b = some o → h'.get? b = some o) : HandSPX.FlyingZ B l e Z h' := by
  obtain ⟨f1, f2, f3, oe, vs, T, oT, ts, a1, a2, a3, a4, a5, a6, a7, a8, a9⟩ := x
  exact ⟨fun b o q => k b o (f1 b o q), f2, f3.of_keeps fun b o q _ => ⟨o, k b o q, rfl⟩, oe, vs, T, oT, ts, k _ _ a1, a2, a3, a4, a5, a6, k _ _ a7, a8, a9⟩
/-- what 'except (c1, c2, ..) as n' wishes: slot i is n's; all that may come is of one of them -/
def w3 (K : PySem.W.Frag) (cs : List Value) (i : Nat) (ts : Addr → Value → Option Addr → TS) (D : Ends) : L2.WX := fun cls d σ H =>
  PySem.W.exmAny K cls cs = some true ∧ ∀ a, H a = none → ts a cls d { nx := fun σ' H' => D.nx (σ'.set i none) H', rt := D.rt, bk := fun σ' H' => D.bk (σ'.set i none) H', ct := fun σ' H' => D.ct (σ'.set i none) H' } (σ.set i (some (.ref a))) H
section
variable {X : Cx} {x1 x2 x3 n : Str} {c1 c2 c3 : Value} {i kk : Nat} {body suite : List Stmt} {b₀ : Stmt} {p1 p2 p3 tp pos pos' : Pos} {tb : L2.WX → TS} {ts : Addr → Value → Option Addr → TS}
theorem ps_try3 (hs : X.stack = X.env :: X.outer) (hf : X.env.frame = some X.env.locals) (hN : X.N.Nodup) (hi : X.N[i]? = some n) (hln : X.env.kindOf n = some .local) (m1 : Names X x1 c1) (m2 : Names X x2 c2) (m3 : Names X x3 c3)
    (hb : ∀ (W : L2.WX) (pn : List (Addr × Obj)) (xe : Value → Shared → Prop), L2N.Takes (X.tr pn xe) W → PassesOwn (model X.prog X.w) X.A X.env xe → PSs (X.tr pn xe) body (tb W))
    (hsu : ∀ (a : Addr) (oe : Obj) (cls : Value) (d : Option Addr) (pn : List (Addr × Obj)), L2N.Zn cls d oe → (∃ vs, oe.data = .fields vs) → PSs (X.suite a ((a, oe) :: pn)) (b₀ :: suite) (ts a cls d)) :
    PS X (.Try body [.ExceptHandler (some (.Tuple [.Name x1 p1, .Name x2 p2, .Name x3 p3] kk tp)) (some n) (b₀ :: suite) pos'] [] [] pos) (fun D σ H => tb (w3 X.K [c1, c2, c3] i ts D) D σ H) := by
  refine ⟨fun pl s σ H D I want => wpAny_Try_except ?_⟩
  have ok := I.ok
  have frs_ : X.A.frames = some (X.env :: X.outer) := by rw [ok.frames, hs]
  have loc_ : Loc X.env.scope n := .inl hln
  refine wpAny_mono ((hb (w3 X.K [c1, c2, c3] i ts D) (X.pn ++ pl) (fun e s₁ => wpAny (model X.prog X.w) X.A (noteFrame e X.env) (fun _ s₂ => wpAny (model X.prog X.w) X.A (setFlight e none) (fun _ s₃ =>
    wpAny (model X.prog X.w) X.A (handleBy e X.env [.ExceptHandler (some (.Tuple [.Name x1 p1, .Name x2 p2, .Name x3 p3] kk tp)) (some n) (b₀ :: suite) pos']) (SP X pl D) X.xe s₃) X.xe s₂) X.xe s₁) (fun u s' xx => ?_) PassesOwn.looking).run [] s σ H D (I.toTry _) want) (fun f s1 hsp => ?_) (fun e s1 he => he)
  · obtain ⟨a, B, sI, pins', σ', H', cls, d, rfl, J', nb, up, sky, na, os, ag, hex, hyes⟩ := xx
    have J : Inv X pl σ' H' sI := J'.ofTry ok
    show wpAny (model X.prog X.w) X.A (noteFrame (.ref a) X.env) _ _ _
    refine L2N.Sky.land L2N.Zn.steady frs_ hf (show Sky B (X.env :: X.outer) a (L2N.Zn cls d) X.env.locals s'.heap by rw [← hs]; exact sky) fun h3 fl3 up3 => ?_
    have J3 : Inv X pl σ' H' { s' with heap := h3 } := J.landed nb fl3.1 (up.trans up3) os ag
    obtain ⟨oe3, vs3, he3, hz3, hd3⟩ := fl3.there
    have nfr : a ∉ frs (X.env :: X.outer) := fun m => by
      obtain ⟨_, o', e', hnf⟩ := fl3.2.2.1.mem m
      rw [he3] at e'
      cases e'
      exact hnf _ hd3
    have nL : a ≠ X.env.locals := fun z => nfr (List.mem_filterMap.mpr ⟨X.env, List.mem_cons_self, by rw [hf, z]⟩)
    have nF : a ∉ X.fs := fun m => by
      obtain ⟨e, he, q⟩ := List.mem_filterMap.mp m
      exact nfr (List.mem_filterMap.mpr ⟨e, List.mem_cons_of_mem _ he, q⟩)
    have S3 := J3.suite he3 hd3 na nL nF
    refine wpAny_handleBy_cons (codeAny_handlers_test ?_) (by intro q; cases q)
    have nam : ∀ {x : Str} {c : Value} {np : Pos} {Q : Value → Shared → Prop} {E : Value → Shared → Prop}, Names X x c → Q c { s' with heap := h3 } → wpAny (model X.prog X.w) (X.A.mark (some (.ref a))) (eval (.Name x np) X.env) Q E { s' with heap := h3 } := fun {x c np Q E} hc q => by
      obtain ⟨hg, hdbg, hm | ⟨hm, hv, hnn⟩⟩ := hc
      · exact ld_glob (X := X.suite a ((a, oe3) :: (X.pn ++ pl))) S3 hg hm q hdbg
      · exact ld_blt (X := X.suite a ((a, oe3) :: (X.pn ++ pl))) S3 hg hm hv q hnn hdbg
    refine wpAny_Tuple (wpAny_items_cons (nam m1 (wpAny_items_cons (nam m2 (wpAny_items_cons (nam m3 (wpAny_items_nil ⟨by size_fits, ?_⟩)))))))
    have kp : ∀ q o, h3.get? q = some o → (h3.push { cls := .type "tuple", data := .seq [c1, c2, c3].toArray }).get? q = some o := fun _ _ z => Heap.get?_push_of_some _ z
    have LT : PySem.W.Looks (model X.prog X.w) (h3.push { cls := .type "tuple", data := .seq [c1, c2, c3].toArray }) (typeOf (.ref a)) cls := fun A Q E s k q => wpAny_typeOf_ref (k _ _ (kp _ _ he3)) (by rw [hz3.1]; exact q)
    refine (PySem.W.exm_tup3 (M := model X.prog X.w) (J3.kIn.keeps kp) LT (Heap.get?_push_size h3 rfl) hex).here ?_
    refine codeAny_handlers_suite_as (HandSPX.lands_againZ (flying_keep fl3 kp) fun h4 fl4 up4 => ?_)
    have J4 : Inv X pl σ' H' { s' with heap := h4 } := J.landed nb fl4.1 (((up.trans up3).trans (.of_keeps kp)).trans up4) os ag
    obtain ⟨oe4, vs4, he4, hz4, hd4⟩ := fl4.there
    have S4 := J4.suite he4 hd4 na nL nF
    refine store_ok (X := X.suite a ((a, oe4) :: (X.pn ++ pl))) (v := .ref a) S4 hN hi loc_ rfl (fun s5 S5 => wpAny_mono ((hsu a oe4 cls d (X.pn ++ pl) hz4 ⟨_, hd4⟩).run [] s5 _ H' _ S5 (hyes a na)) (fun f s6 hsp => ?_) (fun _ _ z => False.elim z)) (.inr hln)
    have leaves : ∀ {σ6 : St} {H6 : Hp} {Q : Shared → Prop}, Inv (X.suite a ((a, oe4) :: (X.pn ++ pl))) [] σ6 H6 s6 → (∀ s7, Inv X pl (σ6.set i none) H6 s7 → Q s7) →
        wpAny (model X.prog X.w) X.A (do bindName X.env n .none; unbindBehindTheSuite X.env n pos') (fun _ s7 => Q s7) X.xe s6 := fun {σ6 H6 Q} S6 hq => gone_ok (S6.unsuite ok) hN hi hln hq
    cases f with
    | next =>
      obtain ⟨σ6, H6, S6, q6⟩ := hsp
      exact leaves S6 fun s7 J7 => ⟨_, _, J7, q6⟩
    | brk =>
      obtain ⟨σ6, H6, S6, q6⟩ := hsp
      exact leaves S6 fun s7 J7 => ⟨_, _, J7, q6⟩
    | cont =>
      obtain ⟨σ6, H6, S6, q6⟩ := hsp
      exact leaves S6 fun s7 J7 => ⟨_, _, J7, q6⟩
    | ret u =>
      obtain ⟨v6, σ6, H6, S6, r6, q6⟩ := hsp
      exact leaves S6 fun s7 J7 => ⟨_, _, _, J7, r6, q6⟩
  · cases f with
    | next =>
      obtain ⟨σ', H', J', q⟩ := hsp
      exact wpAny_execs_nil ⟨σ', H', J'.ofTry ok, q⟩
    | brk =>
      obtain ⟨σ', H', J', q⟩ := hsp
      exact ⟨σ', H', J'.ofTry ok, q⟩
    | cont =>
      obtain ⟨σ', H', J', q⟩ := hsp
      exact ⟨σ', H', J'.ofTry ok, q⟩
    | ret u =>
      obtain ⟨v, σ', H', J', r, q⟩ := hsp
      exact ⟨v, σ', H', J'.ofTry ok, r, q⟩
end
end L2
namespace L2
open PySem PySem.Spec PyProof.Rows PySem.GX HotX L2H LamX
/-- what is invariant does not speak of the wish about exceptions -/
theorem Inv.xe_ {X : Cx} {pins : List (Addr × Obj)} {σ : L2.St} {H : Hp} {s : Shared} (I : Inv X pins σ H s) (e : Value → Shared → Prop) : Inv { X with xe := e } pins σ H s :=
  have o := I.ok
  ⟨⟨o.mod, o.kind, o.glob, o.blt, o.above, o.inj, o.has, o.cab, o.hd, o.frames, o.stk, o.exf, o.bs, o.bsz, o.noex, o.exfs, o.funs, o.frf⟩, I.os, I.bare, I.base, I.loc, I.cell, I.free, I.freeC, I.pin, I.hok, I.len⟩
/-- the context of a lambda's body; what leaves it has no context of its own -/
def lamN (X : Cx) (A : Around) (outer : List Env) (s : Shared) (H : Hp) (E : XK) (scope : Scope) (f c' : Addr) : Cx :=
  { lamCx X A outer s H E scope f c' with xe := fun e s' => wpAny (model X.prog X.w) (A.deeper (lamEnv X scope s.heap.objs.size f c')) (leaving (lamEnv X scope s.heap.objs.size f c') e) (fun _ s'' => L2N.CX X.prog X.w outer H s E e s'') (fun e' s'' => L2N.CX X.prog X.w outer H s E e' s'') s' }
section
variable {X : Cx} {pl : List (Addr × Obj)} {σ : L2.St} {H : Hp} {s : Shared}
/-- a(), in the def that got the lambda -/
theorem pe_actN {CXg : CXT} {Eg : XK} {Ng : List Str} {qg : Str} {sg : Scope} {g f c' : Addr} {cdg pm ctv : Value} {params : Arguments} {body : Expr} {scope : Scope} {k i : Nat} {a : Str} {pn : List (Addr × Obj)} {xe : Value → Shared → Prop} {W : L2.WX} {E : XK} {tb : TE} {p1 p2 : Pos}
    (I : Inv X pl σ H s) (L : LamS X.env.scope scope) (hf : s.heap.get? f = some (PySem.W.kla_obj "<lambda>" (X.env.qual ++ "<lambda>") params body scope (cloFrom X.env.cells scope.names []) pm c' ctv)) (hfn : H f = none) (hfr : f ∉ frs X.stack)
    (hbind : bindArgs (PySem.W.kla_fn "<lambda>" (X.env.qual ++ "<lambda>") params body scope (cloFrom X.env.cells scope.names []) pm (.ref c') ctv) ⟨[], []⟩ = pure [])
    (tk : L2N.Takes ((cxOf CXg X.prog X.w X.K X.mg X.base Ng qg sg g cdg X.A X.stack s H Eg).tr pn xe) W) (hW : ∀ cls d σ' H', E cls d H' → W cls d σ' H') (hr : Room (k + 1) (X.A.deeper (envOfC qg sg s.heap.objs.size g cdg)))
    (hbody : ∀ (A : Around) (outer : List Env) (s : Shared) (H : Hp), Room k (A.deeper (lamEnv X scope s.heap.objs.size f c')) → PE (lamN X A outer s H E scope f c') body tb)
    (hN : Ng[i]? = some a) (hv : Vis sg a) (hd : (a == ("__debug__" : Str)) = false := by decide) (hcd : (a == ("__classdict__" : Str)) = false := by decide) :
    PE ((cxOf CXg X.prog X.w X.K X.mg X.base Ng qg sg g cdg X.A X.stack s H Eg).tr pn xe) (.Call (.Name a p1) [] [] p2)
      (fun σZ HZ Q => σZ[i]? = some (some (.ref f)) ∧ HZ c' = some (CodeO c' (X.env.qual ++ "<lambda>")) ∧ tb σ HZ Q) := by
  refine ⟨fun plZ sZ σZ HZ Q IZ ⟨hs, hc, want⟩ => wpAny_Call_Name_kw (thn ((pe_var (pos := p1) (i := i) hN hv hd hcd).run plZ sZ σZ HZ (fun v H1 => v = .ref f ∧ H1 = HZ) IZ ⟨.ref f, hs, rfl, rfl⟩) fun u s1 ⟨v, H1, I1, r1, ev, eH⟩ => ?_)⟩
  subst ev
  rw [eH] at I1
  obtain rfl : u = Value.ref f := r1
  have of1 : s1.heap.get? f = some (PySem.W.kla_obj "<lambda>" (X.env.qual ++ "<lambda>") params body scope (cloFrom X.env.cells scope.names []) pm c' ctv) := I1.base.keep f _ hf hfn hfr (fun z => nomatch (show f ∈ ([] : List Addr) from z))
  obtain ⟨⟨oc, vs, t, hoc, hdc, hvc⟩, _, _⟩ := I1.hok c' _ hc
  have rc : codeAny (model X.prog X.w) (X.A.deeper (envOfC qg sg s.heap.objs.size g cdg)) (.call (.ref f) ⟨[], []⟩) (CR (L2N.CX X.prog X.w) (envOfC qg sg s.heap.objs.size g cdg :: X.stack) X.prog X.w HZ s1 Q E) s1 := by
    refine PySem.W.kla_callFunE hr.depth of1 rfl L.co L.gen rfl ⟨c', oc, vs, t, rfl, hoc, hdc, hvc⟩ ?_
    rw [hbind]
    refine wpAny_pure (wpAny_newFunctionEnv (fun y hy => (L.own y hy).2) (fun y hy => absurd hy (by simp)) (fun h₁ hns hsb => ⟨I1.nolimit.fresh _ hsb, ?_⟩) L.kind)
    show codeAny _ _ (.expr body (lamEnv X scope s1.heap.objs.size f c')) _ _
    have J := (lam_start2 (E := E) (f := f) (c' := c') (tk := s1.toks + ([] : List (Str × Value)).length) I L I1.env0 hr.hd (show Un (frs X.stack) [] H HZ s.heap s1.heap from I1.base) hns fun b o e => hsb.extBut b o (Nat.ne_of_lt (Heap.lt_size e)) (Heap.get?_push_of_some _ e)).xe_ (fun e s' => wpAny (model X.prog X.w) ((X.A.deeper (envOfC qg sg s.heap.objs.size g cdg)).deeper (lamEnv X scope s1.heap.objs.size f c')) (leaving (lamEnv X scope s1.heap.objs.size f c') e) (fun _ s'' => L2N.CX X.prog X.w (envOfC qg sg s.heap.objs.size g cdg :: X.stack) HZ s1 E e s'') (fun e' s'' => L2N.CX X.prog X.w (envOfC qg sg s.heap.objs.size g cdg :: X.stack) HZ s1 E e' s'') s')
    refine PySem.W.kla_codeExpr (wpAny_mono ((hbody _ _ s1 HZ (hr.deeper _)).run [] _ _ HZ Q J want) (fun v s' ⟨w', H', J', rv, q⟩ => ⟨w', H', J'.os, J'.bare, J'.base, J'.hok, rv, q⟩) fun e s' hq => hq)
  refine PySem.W.callWith_F0 ⟨_, _, _, _, of1⟩ (wpAny_call (codeAny_mono rc fun r s' hq => ?_))
  cases r with
  | error e => exact L2N.passes_call tk hW plZ σZ HZ s1 e s' I1 hq
  | ok fl =>
    cases fl with
    | ret u => exact I1.after hq
    | next => exact False.elim hq
    | brk => exact False.elim hq
    | cont => exact False.elim hq
end
/-- the def that calls what it got (TT: what it makes of the lambda's reading) -/
def GivesN (X : Cx) (k : Nat) (Ng : List Str) (x : Str) (sg : Scope) (g : Addr) (cdg : Value) (bg : List Stmt) (a : Str) (q : Str) (TT : (XK → Hp → VK → Prop) → Hp → VK → Prop) : Prop :=
  ∀ (f c' : Addr) (s : Shared) (H : Hp) (Q : VK) (tl : XK → Hp → VK → Prop), Room k (X.A.deeper (envOfC x sg s.heap.objs.size g cdg)) →
    (∀ (W : L2.WX) (pn : List (Addr × Obj)) (xe : Value → Shared → Prop) (E : XK) (p1 p2 : Pos), L2N.Takes ((cxOf CX0 X.prog X.w X.K X.mg X.base Ng x sg g cdg X.A X.stack s H E0).tr pn xe) W → (∀ cls d σ' H', E cls d H' → W cls d σ' H') →
      PE ((cxOf CX0 X.prog X.w X.K X.mg X.base Ng x sg g cdg X.A X.stack s H E0).tr pn xe) (.Call (.Name a p1) [] [] p2) (fun σZ HZ Q => σZ[0]? = some (some (.ref f)) ∧ HZ c' = some (CodeO c' q) ∧ tl E HZ Q)) →
    H c' = some (CodeO c' q) → TT tl H Q →
    ∃ t, PSs (cxOf CX0 X.prog X.w X.K X.mg X.base Ng x sg g cdg X.A X.stack s H E0).nox bg t ∧ t { nx := fun _ H' => Q .non H', rt := Q } (L2.start Ng [.ref f]) H
section
variable {X : Cx}
/-- x(lambda: body) -/
theorem pe_lamN {T : List (Addr × Str)} {TT : (XK → Hp → VK → Prop) → Hp → VK → Prop} {x a : Str} {g c P : Addr} {k : Nat} {pg : Arguments} {bg : List Stmt} {sg : Scope} {dV kV doc pm cdv ct oc : Value} {an od : Option Addr} {osl : Array (Option Value)} {Ng : List Str}
    {params : Arguments} {body : Expr} {scope : Scope} {t : XK → TE} {p lpos pos : Pos} (hg : Gl X x) (hm : X.mg x = some (.ref g)) (hk : PySem.W.keepIn X.K (.ref g) = true)
    (lk : X.K.lookup g = some ⟨oc, od, .func (PySem.W.fnOf x x pg bg sg dV kV doc pm an cdv ct), osl⟩) (hcg : PySem.W.codeIn X.K cdv x = true) (hb : L2.Binds X.K (PySem.W.fnOf x x pg bg sg dV kV doc pm an cdv ct) [a] []) (Sg : FnScope Ng [a] sg) (hNg : Ng[0]? = some a) (hva : Vis sg a)
    (hG : GivesN X (k + 1) Ng x sg g cdv bg a (X.env.qual ++ "<lambda>") TT)
    (TB : TabB X.base X.mg c P) (hcode : X.env.code = .ref c) (hmT : (P, X.env.qual ++ "<lambda>") ∈ T) (hu : ∀ p ∈ T, p.1 = P → p.2 = X.env.qual ++ "<lambda>") (hr : Room (k + 2) X.A) (L : LamS X.env.scope scope) (hdef : defaultsOf params X.env = ([], []))
    (hbind : ∀ (q : Str) (cl : List (Str × Addr)) (pm cv ctv : Value), bindArgs (PySem.W.kla_fn "<lambda>" q params body scope cl pm cv ctv) ⟨[], []⟩ = pure [])
    (hbody : ∀ (A : Around) (outer : List Env) (s : Shared) (H : Hp) (E : XK) (f c' : Addr), Room k (A.deeper (lamEnv X scope s.heap.objs.size f c')) → PE (lamN X A outer s H E scope f c') body (t E))
    (hdb : (x == ("__debug__" : Str)) = false := by decide) (hd : (a == ("__debug__" : Str)) = false := by decide) (hcd : (a == ("__classdict__" : Str)) = false := by decide) :
    PE X (.Call (.Name x p) [.Lambda params body scope lpos] [] pos) (tLam T TT t) := by
  refine ⟨fun pl s σ H Q I ⟨hT, want⟩ => wpAny_Call_Name_kw (ld_glob I hg hm (PySem.W.callWith_K (h₀ := X.base) I.ok.mod.kin hk ?_ (by rfl) (by rfl)) hdb)⟩
  show wpAny _ _ (spliced ((false, eval (.Lambda params body scope lpos) X.env) :: backTo pos (starEach [] X.env))) _ _ s
  refine Calls.spliced_cons (lam_make2 I TB hcode hmT hu hT hdef (L.has I.ok) fun f c' pm' ctv H1 s' I1 eN T1 hf hfn hfr hco => Calls.spliced_nil ⟨I1.kIn, ?_⟩)
  have rc : codeAny (model X.prog X.w) X.A (.call (.ref g) ⟨[.ref f], []⟩) (CR CX0 X.stack X.prog X.w H1 s' Q E0) s' := by
    refine run_ofS (N := Ng) (ps := [a]) (us := [.ref f]) (vs := [.ref f]) lk hcg Sg hr I1.env0 (hb s' [.ref f] I1.kIn rfl) (.cons rfl .nil) rfl fun hr' => ?_
    obtain ⟨t', ht', hq'⟩ := hG f c' s' H1 Q (fun E H' Q' => t E σ H' Q') hr' (fun W pn xe E p1 p2 tk hW => pe_actN (i := 0) I1 L hf hfn hfr (hbind _ _ _ _ _) tk hW hr' (fun A outer s H hr2 => hbody A outer s H E f c' hr2) hNg hva hd hcd) hco (want H1 eN T1)
    exact ⟨t', ht'.nox, hq'⟩
  refine wpAny_call (codeAny_mono rc fun r s2 hq => ?_)
  cases r with
  | error e => exact (show False from hq).elim
  | ok fl =>
    cases fl with
    | ret u => exact I1.after hq
    | next => exact False.elim hq
    | brk => exact False.elim hq
    | cont => exact False.elim hq
end
end L2
namespace L2
open PySem PySem.Spec PyProof.Rows PySem.GX LamX
/-- the law's call, its promise where no repr is under way; the tables ts of code objects may grow -/
theorem law_callGT {P : Program} {w : World} {K : PySem.W.Frag} {mg mb : Str → Option Value} {CX : CXT} {k : Nat} {fa a : Addr} {fd : FuncData} {x : Str} {sp : Sp} {s1 : Shared} {vs : List Value} {ns : List Int} {ts : List (Addr × Addr)}
    (KX : K.In s1.heap) (hns : s1.heap.Ns mainGlobals mg) (hb : s1.heap.Ns builtinsNs mb) (hbb : ∀ x : Str, x ≠ "__name__" → mb x = bootBuiltins x) (hlim : s1.heap.NoLimit) (hg : s1.gens = #[])
    (t1 : ∀ q ∈ ts, s1.heap.get? q.2 = some (PySem.W.tabObj #[]) ∧ K.lookup q.2 = none ∧ PySem.W.CodeHd s1.heap q.1 q.2)
    (hbm : ∃ (m : Addr) (om : Obj), mg "__builtins__" = some (.ref m) ∧ m ≠ builtinsNs ∧ s1.heap.get? m = some om ∧ om.cls = .type "module" ∧ om.dict = some builtinsNs ∧ om.data = .plain)
    (ha : s1.heap.get? a = some { cls := .type "list", data := .seq vs.toArray }) (hi : IntsAre vs ns) (hl : ns.length ≤ sizeLine) (hr : Room k callerA)
    (F : ∀ base : Heap, K.In base → base.Ns mainGlobals mg → (∀ q ∈ ts, TabB base mg q.1 q.2) → FnG P w K mg base CX k fa fd [x] sp) (hbind : ∀ (s : Shared) (u : Value), BindsTo s fd ⟨[u], []⟩ [(x, u)])
    (hsp : ∀ H : Hp, (∀ q ∈ ts, H q.2 = some (.tbl #[])) → SqL K H a (ns.map V.int) → sp [.ref a] H (fun v _ => v = .bl true) fun _ _ _ => False)
    (hCX : ∀ H e s', CX [] H s1 (fun _ _ _ => False) e s' → False) :
    codeAny (model P w) callerA (.call (.ref fa) ⟨[.ref a], []⟩) (fun r s' => r = .ok (.ret (.bool true)) ∧ OldK s1.heap s'.heap ∧ s'.os = s1.os ∧ AllBare s'.gens) s1 := by
  have rv := vals_ints hi
  have lenV := hi.length
  let T : List Addr := ts.map (·.2)
  have tT : ∀ b ∈ T, ∃ q ∈ ts, q.2 = b := fun b h => List.mem_map.mp h
  have oT : ∀ b ∈ T, s1.heap.get? b = some (PySem.W.tabObj #[]) := fun b h => by
    obtain ⟨q, hq, rfl⟩ := tT b h
    exact (t1 q hq).1
  have naT : a ∉ T := fun h => by
    have e := oT a h
    rw [ha] at e
    have d : Data.seq vs.toArray _ = Data.fields #[] := congrArg Obj.data (Option.some.inj e)
    cases d
  let sc : HO := .frz { cls := .type "list", data := .seq vs.toArray } (.lst (ns.map V.int))
  let H : Hp := fun b => if b ∈ T then some (.tbl #[]) else if b = a ∧ (K.lookup a).isNone = true then some sc else none
  have HT : ∀ b ∈ T, H b = some (.tbl #[]) := fun b h => if_pos h
  have isH : ∀ b, H b ≠ none → b ∈ T ∨ b = a ∧ K.lookup a = none := fun b h => by
    by_cases h1 : b ∈ T
    · exact .inl h1
    · by_cases h2 : b = a ∧ (K.lookup a).isNone = true
      · exact .inr ⟨h2.1, Option.isNone_iff_eq_none.mp h2.2⟩
      · exact absurd ((if_neg h1).trans (if_neg h2)) h
  have sH : ∀ b u, H b = some u → b ∉ T → u = sc := fun b u e h1 => by
    have e2 : (if b = a ∧ (K.lookup a).isNone = true then some sc else none) = some u := (if_neg h1).symm.trans e
    by_cases h2 : b = a ∧ (K.lookup a).isNone = true
    · exact (Option.some.inj ((if_pos h2).symm.trans e2)).symm
    · cases (if_neg h2).symm.trans e2
  have seqA : SqL K H a (ns.map V.int) := by
    cases hk : K.lookup a with
    | some o =>
      have e := KX a o hk
      rw [ha] at e
      cases e
      exact .inr ⟨_, vs.toArray, _, hk, rfl, rfl, rfl, by rw [List.size_toArray, lenV]; exact hl, by simpa using rv⟩
    | none =>
      refine .inl (.inr ⟨{ cls := .type "list", data := .seq vs.toArray }, (if_neg naT).trans (if_pos ⟨rfl, ?_⟩)⟩)
      rw [hk]
      rfl
  have hok : HOk P w H s1.heap := fun b u e => by
    by_cases h1 : b ∈ T
    · have e2 := (HT b h1).symm.trans e
      cases e2
      exact oT b h1
    · have e3 := sH b u e h1
      have e4 : b = a := ((isH b (by rw [e]; simp)).resolve_left h1).1
      subst e3 e4
      exact ⟨ha, by rw [List.length_map]; exact hl, vs, _, rv, ha⟩
  -- what is of another kind is not tracked
  have off : ∀ {b : Addr} {o : Obj}, s1.heap.get? b = some o → (∀ z n, o.data ≠ .seq z n) → o.data ≠ .fields #[] → H b = none := fun {b o} e d1 d2 => by
    cases q : H b with
    | none => rfl
    | some u =>
      rcases isH b (by rw [q]; simp) with m | ⟨m, _⟩
      · rw [oT b m] at e
        cases e
        exact absurd rfl d2
      · rw [m, ha] at e
        cases e
        exact absurd rfl (d1 _ _)
  have offD : ∀ {b : Addr} {o : Obj} {es : Array DictEntry} {ep : Nat}, s1.heap.get? b = some o → o.data = .dict es ep → H b = none := fun {b o es ep} e d =>
    off e (fun z n q => by rw [d] at q; cases q) (fun q => by rw [d] at q; cases q)
  have nsB : ∀ {b : Addr} {m : Str → Option Value}, s1.heap.Ns b m → (hidT s1.heap H).Ns b m := fun {b m} ⟨o, es, ep, e, d, r⟩ => ⟨o, es, ep, hidT_get e (offD e d), d, r⟩
  have inB : K.In (hidT s1.heap H) := fun b o e => hidT_get (KX b o e) (by
    cases q : H b with
    | none => rfl
    | some u =>
      rcases isH b (by rw [q]; simp) with m | ⟨m, m2⟩
      · obtain ⟨r, hq, rfl⟩ := tT b m
        rw [(t1 r hq).2.1] at e
        cases e
      · rw [m, m2] at e
        cases e)
  have modB : Mod K mg (hidT s1.heap H) := ⟨inB, nsB hns, ⟨mb, nsB hb, hbb⟩, let ⟨mc, l1, l2⟩ := hlim; ⟨mc, nsB l1, l2⟩⟩
  have tabB : ∀ q ∈ ts, TabB (hidT s1.heap H) mg q.1 q.2 := fun q hq => by
    obtain ⟨oq, _, ⟨oc, us, fl, tf, fg, tg, nF, tx, tt, c1, c2, c3, c4, c5⟩⟩ := t1 q hq
    refine ⟨⟨oc, us, fl, tf, fg, tg, nF, tx, tt, hidT_get c1 (off c1 (fun z n d => by rw [c3] at d; cases d) fun d => ?_), c2, c3, c4, c5⟩, ?_, fun z => ?_⟩
    · rw [c3] at d
      cases d
      simp at c4
    · obtain ⟨m, om, b1, b2, b3, b4, b5, b6⟩ := hbm
      refine ⟨m, om, b1, b2, fun z => ?_, fun z => ?_, hidT_get b3 (off b3 (fun z n d => by rw [b6] at d; cases d) fun d => by rw [b6] at d; cases d), b4, b5, b6⟩
      · obtain ⟨o, es, ep, e, d, _⟩ := hns
        rw [z, e] at b3
        cases b3
        rw [d] at b6
        cases b6
      · rw [z, oq] at b3
        cases b3
        cases b6
    · obtain ⟨o, es, ep, e, d, _⟩ := hns
      rw [z, oq] at e
      cases e
      cases d
  have e0 : Env0 P w K mg (hidT s1.heap H) callerA [] s1 H :=
    ⟨rfl, modB, fun b o e => of_hidT e, Nat.le_of_eq (hidT_size _ _), trivial, fun b m => absurd (show b ∈ ([] : List Addr) from m) (by simp), hok, .of_eq hg⟩
  refine codeAny_mono ((F _ inB (nsB hns) tabB).run callerA [] s1 H ⟨[.ref a], []⟩ [.ref a] [.ref a] _ _ rfl hr e0 (hbind s1 (.ref a)) (.cons rfl .nil) (hsp H (fun q hq => HT _ (List.mem_map.mpr ⟨q, hq, rfl⟩)) seqA)) fun r s' h => ?_
  cases r with
  | error e => exact (hCX H e s' h).elim
  | ok fl =>
    cases fl with
    | next => exact False.elim h
    | brk => exact False.elim h
    | cont => exact False.elim h
    | ret u =>
      obtain ⟨v, H', os, bare, un, hok', r', q⟩ := h
      have qv : v = .bl true := q
      subst qv
      obtain rfl : u = Value.bool true := r'
      have stays : ∀ b o, b ∉ T → s1.heap.get? b = some o → s'.heap.get? b = some o := fun b o nb e => by
        cases q : H b with
        | none => exact un.keep b o e q (by intro z; exact absurd (show b ∈ ([] : List Addr) from z) (by simp)) (by simp)
        | some u =>
          have e3 := sH b u q nb
          subst e3
          have z2 := un.frzs b _ _ q
          obtain ⟨k1, _⟩ := hok b _ q
          obtain ⟨k2, _⟩ := hok' b _ z2
          rw [e] at k1
          cases k1
          exact k2
      have grows : ∀ b ∈ T, ∃ more : Array Value, s'.heap.get? b = some (PySem.W.tabObj more) := fun b m => by
        obtain ⟨more, z⟩ := un.tbls b #[] (HT b m)
        exact ⟨_, hok' b _ z⟩
      refine ⟨rfl, ⟨fun b o e => ?_, fun b o e => ?_⟩, os, bare⟩
      · by_cases m : b ∈ T
        · obtain ⟨q, hq, rfl⟩ := tT b m
          obtain ⟨more, hm⟩ := grows _ m
          obtain ⟨oq, _, cq⟩ := t1 q hq
          rw [oq] at e
          cases e
          exact .inr (.inl ⟨(cq.tab oq).isCodeTable, rfl, #[], more, rfl, by rw [Array.empty_append]; exact hm⟩)
        · exact .inl (stays b o m e)
      · by_cases m : b ∈ T
        · obtain ⟨more, hm⟩ := grows _ m
          exact ⟨_, hm⟩
        · exact ⟨o, stays b o m e⟩
/-- the walk of a law whose defs make lambdas -/
theorem walk_GT {l : PySem.W.OpenLaw} {n k : Nat} {q : Program} {loose : List Str} {XP : (Str → Option Value) → Heap → Prop} {YP : World → Heap → Prop} {d : DefRec} {K : Params → PySem.W.Frag} {sp : PySem.W.Frag → List (Addr × Addr) → Sp} {x : Str} {ts : List (Addr × Addr)}
    (hn : l.most = some n) (hn2 : n ≤ sizeLine) (hdf : d.params.defaults = []) (hr : Room k callerA)
    (hY : ∀ (w : World) (h : Heap), YP w h → (K w.params).In h) (hZ : ∀ (w : World) (h : Heap), YP w h → ∀ q ∈ ts, h.get? q.2 = some (PySem.W.tabObj #[]) ∧ (K w.params).lookup q.2 = none ∧ PySem.W.CodeHd h q.1 q.2)
    (F : ∀ (w : World) (mg : Str → Option Value) (fa : Addr) (h : Heap), (K w.params).In h → h.Ns mainGlobals mg → mg d.name = some (.ref fa) →
      ∃ fd : FuncData, (∀ (s : Shared) (u : Value), BindsTo s fd ⟨[u], []⟩ [(x, u)]) ∧
        ∀ base : Heap, (K w.params).In base → base.Ns mainGlobals mg → (∀ q ∈ ts, TabB base mg q.1 q.2) → FnG l.prog w (K w.params) mg base CX0 k fa fd [x] (sp (K w.params) ts))
    (hsp : ∀ (K : PySem.W.Frag) (H : Hp) (a : Addr) (ns : List Int), ns.length ≤ n → (∀ q ∈ ts, H q.2 = some (.tbl #[])) → SqL K H a (ns.map V.int) → sp K ts [.ref a] H (fun v _ => v = .bl true) fun _ _ _ => False) :
    PySem.W.WalkO q loose XP YP l.row.toRowW d [] (fun f vs => PySem.call f vs) := by
  refine Att.attach_call hn hdf fun w s₀ s1 mg mb fa o pm cd doc a vs ns G Y ho hd hcd hmg hobj hints hlen hg => ?_
  have KX := hY w _ Y
  have t1 := hZ w _ Y
  obtain ⟨fd, hb, hF⟩ := F w mg fa _ KX G.T.g hmg
  exact law_callGT KX G.T.g G.T.b G.T.builtins G.T.nolimit hg t1 G.T.bmain hobj hints (Nat.le_trans hlen hn2) hr hF hb (fun H hT hS => hsp (K w.params) H a ns hlen hT hS) fun _ _ _ z => z
end L2
namespace My
open PySem PySem.Spec PyProof.Rows L2 PySem.GX L2H LamX
open Builtin.Str (reprChar)
theorem reps_list (c : Nat) : ∀ (n : Nat) (acc : Array Nat), ((List.replicate n #[c]).foldl (· ++ ·) acc).toList = acc.toList ++ List.replicate n c
  | 0, acc => by simp
  | n + 1, acc => by
    rw [List.replicate_succ, List.foldl_cons, reps_list c n, List.replicate_succ]
    simp
/-- one sign, so often -/
def manyS (c : Nat) : Str := ⟨(List.replicate 1001 c).toArray⟩
theorem op_mulS {X : Cx} : OpR X (binaryOp .Mult) (fun x y H Q => ∃ c : Nat, x = .str (sg c) ∧ y = .int 1001 ∧ Q (.str (manyS c)) H) := by
  intro pins s σ H x y v u Q I rx ry ⟨c, ex, ey, q⟩
  subst ex ey
  obtain ⟨t, rfl⟩ := rx
  obtain ⟨t', rfl⟩ := ry
  have e : Txt.mul (sg c) 1001 = manyS c := by
    unfold Txt.mul
    rw [if_neg (by decide), if_neg (by show ¬ ((1001 : Int) == 1 || (1 : Nat) == 0) = true; decide)]
    exact str_ext (by
      show ((List.replicate 1001 #[c]).foldl (· ++ ·) #[]).toList = _
      rw [reps_list]
      simp [manyS])
  refine SB.mul ⟨by decide, fun _ _ => ?_, fun _ _ => ?_⟩ fun t' k => ⟨.str (manyS c), H, I.tok _, ⟨t', by rw [e]⟩, q⟩
  · show ¬ ((1 : Int) > (2 ^ 63 - 1) / 1001)
    decide
  · show Builtin.Str.tooLong (1 * 1001) = false
    decide +kernel
/-- all but the tables and what is at p stays -/
def Kp (p : Addr) (H H' : Hp) : Prop := ∀ b o, b ≠ p → (∀ ps, o ≠ .tbl ps) → H b = some o → H' b = some o
theorem Kp.refl (p : Addr) (H : Hp) : Kp p H H := fun _ _ _ _ h => h
theorem Kp.trans {p : Addr} {H H1 H2 : Hp} (a : Kp p H H1) (b : Kp p H1 H2) : Kp p H H2 := fun c o n t h => b c o n t (a c o n t h)
theorem Kp.sb {p : Addr} {H H' : Hp} (s : Sb p H H') : Kp p H H' := fun b o n _ h => s b o n h
theorem Kp.of {p : Addr} {H H' : Hp} (s : Same H H') : Kp p H H' := fun b o _ _ h => s b o h
theorem Kp.ext {p : Addr} {H H' : Hp} (s : ExtN H H') : Kp p H H' := fun b o _ t h => s b o h t
theorem Tabs.sb_ {T : List (Addr × Str)} {p : Addr} {H H' : Hp} (t : Tabs T H) (w : Wl H p) (s : Sb p H H') : Tabs T H' := fun q hq => by
  obtain ⟨ps, h1, h2, h3⟩ := t q hq
  refine ⟨ps, s _ _ (w.ne h1 fun a b c z => by cases z) h1, h2, fun pos cv hc => ?_⟩
  obtain ⟨c, e1, e2⟩ := h3 pos cv hc
  exact ⟨c, e1, s _ _ (w.ne e2 fun a b c z => by cases z) e2⟩
theorem Wl.ext_ {H H' : Hp} {p : Addr} (w : Wl H p) (s : ExtN H H') : Wl H' p := by
  obtain ⟨w0, w1, w2, a0, a1, e⟩ := w
  exact ⟨w0, w1, w2, a0, a1, s _ _ e fun _ z => by cases z⟩
theorem call_reprLK {X : Cx} {K : PySem.W.Frag} (h : X.K = K) (hg : X.A.guards = some []) (hu : X.A.units + 64 < cLine) : CallR X (.builtin "repr") (rRepr K) := by subst h; exact call_reprL hg hu
def Low (y : Str) : Prop := ∀ c ∈ y.cps.toList, c < 256
theorem Low.app {a b : Str} (h1 : Low a) (h2 : Low b) : Low (a ++ b) := fun c hc => by
  rw [cps_app] at hc
  rcases List.mem_append.mp hc with m | m
  · exact h1 c m
  · exact h2 c m
theorem reprChar_low : ∀ c, c < 256 → ∀ q ∈ [39, 34], (reprChar q c).all (fun e => decide (e < 256)) = true := by decide +kernel
theorem fold_low (q : Nat) (hq : q ∈ [39, 34]) : ∀ (l : List Nat) (acc : Array Nat), (∀ c ∈ l, c < 256) → (∀ c ∈ acc.toList, c < 256) → ∀ c ∈ (l.foldl (fun out c => out ++ (reprChar q c).toArray) acc).toList, c < 256
  | [], acc, _, h => h
  | d :: r, acc, h1, h2 => by
    refine fold_low q hq r _ (fun c hc => h1 c (by simp [hc])) fun c hc => ?_
    simp only [Array.toList_append, List.mem_append] at hc
    rcases hc with m | m
    · exact h2 c m
    · exact of_decide_eq_true (List.all_eq_true.mp (reprChar_low d (h1 d (by simp)) q hq) c m)
theorem repr_low {x : Str} (h : Low x) : Low (reprText x) := fun c hc => by
  have hq : reprQuote x ∈ [39, 34] := by
    unfold reprQuote
    split <;> simp
  unfold reprText at hc
  simp only [Array.toList_push, List.mem_append, List.mem_singleton] at hc
  have q0 : reprQuote x < 256 := by
    simp only [List.mem_cons, List.not_mem_nil, or_false] at hq
    omega
  rcases hc with m | m
  · rw [← Array.foldl_toList] at m
    exact fold_low _ hq _ _ h (fun d hd => by
      have : d = reprQuote x := by simpa using hd
      rw [this]; exact q0) c m
  · rw [m]; exact q0
theorem repr_short {x : Str} (h : Low x) : (reprText x).length ≤ 10 * x.length + 2 := StrLaws.reprText_len x fun c hc => Nat.lt_trans (h c hc) (by decide)
/-- what repr(["row", d]) is asked for -/
structure Gd (d : PyData) : Prop where
  sh : PyData.showableAll [.str "row", d] = true
  ln : (PyData.list [.str "row", d]).shown.length ≤ sizeLine
  dp : (PyData.list [.str "row", d]).depth ≤ 60
  ok : PyData.strOk (PyData.list [.str "row", d]).shown = true
theorem row_text (t : Str) : listText [reprText "row", t] = ("['row', " : Str) ++ t ++ "]" := by
  have e : textFrom 0 "[" [reprText "row", t] = ("['row', " : Str) ++ t := by
    show (("[" : Str) ++ ("" : Str) ++ reprText "row") ++ (", " : Str) ++ t = _
    have : (("[" : Str) ++ ("" : Str) ++ reprText "row") ++ (", " : Str) = "['row', " := by decide +kernel
    rw [this]
  unfold listText
  rw [e]
theorem gd_of {d : PyData} (h1 : d.showable = true) (h2 : d.shown.length ≤ 20000) (h3 : d.depth ≤ 50) (h4 : Low d.shown) : Gd d := by
  have e : (PyData.list [.str "row", d]).shown = ("['row', " : Str) ++ d.shown ++ "]" := by
    rw [← row_text]
    simp only [PyData.shown, PyData.shownAll]
  refine ⟨?_, ?_, ?_, ?_⟩
  · simp only [PyData.showableAll, PyData.showable, h1, Bool.and_self]
  · rw [e, len_app, len_app]
    have a : ("['row', " : Str).length = 8 := by decide +kernel
    have b : ("]" : Str).length = 1 := by decide +kernel
    rw [a, b, sizeLine_eq]
    omega
  · simp only [PyData.depth, PyData.depthAll]
    omega
  · rw [e]
    exact ok_low (Low.app (Low.app (by unfold Low; decide +kernel) h4) (by unfold Low; decide +kernel))
theorem gd_str {r : Str} (h : Low r) (hl : r.length ≤ 1100) : Gd (.str r) := by
  have := repr_short h
  refine gd_of (by simp only [PyData.showable]) ?_ (by simp only [PyData.depth]; omega) ?_
  · simp only [PyData.shown]
    omega
  · simp only [PyData.shown]
    exact repr_low h
theorem gd_list {r : Str} (h : Low r) (hl : r.length ≤ 1100) : Gd (.list [.str r]) := by
  have := repr_short h
  have e : (PyData.list [.str r]).shown = ("[" : Str) ++ reprText r ++ "]" := by
    simp only [PyData.shown, PyData.shownAll]
    unfold listText
    show (("[" : Str) ++ ("" : Str) ++ reprText r) ++ "]" = _
    have : ("[" : Str) ++ ("" : Str) = "[" := by decide +kernel
    rw [this]
  refine gd_of (by simp only [PyData.showable, PyData.showableAll, Bool.and_self]) ?_ (by simp only [PyData.depth, PyData.depthAll]; omega) ?_
  · rw [e, len_app, len_app]
    have a : ("[" : Str).length = 1 := by decide +kernel
    have b : ("]" : Str).length = 1 := by decide +kernel
    omega
  · rw [e]
    exact Low.app (Low.app (by unfold Low; decide +kernel) (repr_low h)) (by unfold Low; decide +kernel)
theorem gd_tup {r : Str} (h : Low r) (hl : r.length ≤ 1100) : Gd (.tuple [.str r]) := by
  have := repr_short h
  have e : (PyData.tuple [.str r]).shown = ("(" : Str) ++ reprText r ++ ",)" := by
    simp only [PyData.shown, PyData.shownAll]
    rfl
  refine gd_of (by simp only [PyData.showable, PyData.showableAll, Bool.and_self]) ?_ (by simp only [PyData.depth, PyData.depthAll]; omega) ?_
  · rw [e, len_app, len_app]
    have a : ("(" : Str).length = 1 := by decide +kernel
    have b : (",)" : Str).length = 2 := by decide +kernel
    omega
  · rw [e]
    exact Low.app (Low.app (by unfold Low; decide +kernel) (repr_low h)) (by unfold Low; decide +kernel)
mutual
theorem Sh.ext {K : PySem.W.Frag} {H H' : Hp} (s : ExtN H H') : ∀ {v : V} {d : PyData}, Sh K H v d → Sh K H' v d
  | _, _, .fl f => .fl f
  | _, _, .lst h t => .lst (by
      rcases h with (h | ⟨o, h⟩) | h
      · exact .inl (.inl (s _ _ h fun _ z => by cases z))
      · exact .inl (.inr ⟨o, s _ _ h fun _ z => by cases z⟩)
      · exact .inr h) (ShAll.ext s t)
  | _, _, .tup h t => .tup (by
      rcases h with (h | ⟨o, h⟩) | h
      · exact .inl (.inl (s _ _ h fun _ z => by cases z))
      · exact .inl (.inr ⟨o, s _ _ h fun _ z => by cases z⟩)
      · exact .inr h) (ShAll.ext s t)
  | _, _, .dic h a b => .dic (s _ _ h fun _ z => by cases z) a b
theorem ShAll.ext {K : PySem.W.Frag} {H H' : Hp} (s : ExtN H H') : ∀ {vs : List V} {ds : List PyData}, ShAll K H vs ds → ShAll K H' vs ds
  | _, _, .nil => .nil
  | _, _, .cons a b => .cons (Sh.ext s a) (ShAll.ext s b)
end
theorem Kp.cut {p : Addr} {H H' : Hp} (s : Kp p H H') : ExtN (del H p) (del H' p) := fun b o e t => by
  by_cases hb : b = p
  · rw [hb, del_same] at e; cases e
  · rw [del_ne hb] at e ⊢
    exact s b o hb t e
theorem ext_of_del {H : Hp} {p : Addr} : ExtN (del H p) H := fun b o e _ => by
  by_cases hb : b = p
  · rw [hb, del_same] at e; cases e
  · rw [del_ne hb] at e; exact e
theorem sb_of_del {p : Addr} {H H' : Hp} (s : Same (del H p) (del H' p)) : Sb p H H' := fun b o n e => by
  have := s b o (by rw [del_ne n]; exact e)
  rw [del_ne n] at this
  exact this
/-- a text, or of another type -/
theorem sh_ty {K : PySem.W.Frag} {H : Hp} {v : V} {d : PyData} (h : Sh K H v d) : (∃ r, v = .str r ∧ d = .str r) ∨ ∃ ty, TyX K H v ty ∧ PySem.W.kitOne K ty (.type "str") = some false := by
  cases h with
  | fl f =>
    cases f with
    | non => exact .inr ⟨_, .base .non, kit_ty (by decide +kernel)⟩
    | bl b => exact .inr ⟨_, .base (.bl b), kit_ty (by decide +kernel)⟩
    | int i => exact .inr ⟨_, .base (.int i), kit_ty (by decide +kernel)⟩
    | str x => exact .inl ⟨x, rfl, rfl⟩
  | lst h t =>
    rcases h with (h | ⟨o, h⟩) | ⟨o, its, n, hk, hc, _⟩
    · exact .inr ⟨_, .base (.lst h), kit_ty (by decide +kernel)⟩
    · exact .inr ⟨_, .base (.frz h), kit_ty (by decide +kernel)⟩
    · exact .inr ⟨_, .kList hk hc, kit_ty (by decide +kernel)⟩
  | tup h t =>
    rcases h with (h | ⟨o, h⟩) | ⟨o, its, n, hk, hc, _⟩
    · exact .inr ⟨_, .base (.tup h), kit_ty (by decide +kernel)⟩
    · exact .inr ⟨_, .fTuple h, kit_ty (by decide +kernel)⟩
    · exact .inr ⟨_, .kTuple hk hc, kit_ty (by decide +kernel)⟩
  | dic h a b => exact .inr ⟨_, .base (.dK h), kit_ty (by decide +kernel)⟩
theorem row_is {x r : Str} (h1 : r.length ≤ 1000) (h2 : ∀ c ∈ r.cps.toList, c ∈ x.cps.toList) : isRowL x r = true := by
  unfold isRowL
  rw [decide_eq_true h1, Bool.true_and]
  exact List.all_eq_true.mpr fun c hc => decide_eq_true (h2 c hc)
theorem cut_sub (r : Str) (lo hi : Option Int) : ∀ c ∈ (cutS r lo hi).cps.toList, c ∈ r.cps.toList := fun c hc => by
  unfold cutS at hc
  exact List.mem_of_mem_drop (List.mem_of_mem_take (by simpa using hc))
theorem many_low {c : Nat} (h : c < 256) : Low (manyS c) := fun d hd => by
  unfold manyS at hd
  have : d = c := by simpa using hd
  rw [this]; exact h
theorem many_len (c : Nat) : (manyS c).length = 1001 := by
  show ((List.replicate 1001 c).toArray).size = 1001
  rw [List.size_toArray, List.length_replicate]
theorem sg_low {c : Nat} (h : c < 256) : Low (sg c) := fun d hd => by
  have : d = c := by simpa using hd
  rw [this]; exact h
theorem Tabs.off {T : List (Addr × Str)} {l : Addr} {H : Hp} {xs : List V} {o : HO} (t : Tabs T H) (e : H l = some (.lst xs)) : Tabs T (upd H l o) := fun q hq => by
  obtain ⟨ps, h1, h2, h3⟩ := t q hq
  refine ⟨ps, by rw [upd_ne (ne_of h1 e (by intro z; cases z))]; exact h1, h2, fun pos cv hc => ?_⟩
  obtain ⟨c, e1, e2⟩ := h3 pos cv hc
  exact ⟨c, e1, by rw [upd_ne (ne_of e2 e (by intro z; cases z))]; exact e2⟩
end My
namespace L2
open PySem PySem.Spec PyProof.Rows PySem.GX
/-! a set comprehension whose members are texts -/
theorem addT {P : Program} {w : World} {A : Around} {E : Value → Shared → Prop} {s : Shared} {a : Addr} {ys : List Str} {k : Str} {tk : Tok} {Q : Value → Shared → Prop} (R : SetT w s.heap a ys) (room : ys.length + 1 < scanBound)
    (done : ∀ h', Heap.SameBut a s.heap h' → SetT w h' a (ins ys k) → Q .none { s with heap := h', toks := s.toks + 1 }) : wpAny (model P w) A (call (.builtin "set.add") [.ref a, .str k tk]) Q E s := by
  have ty : s.TypeIs (.ref a) "set" := by
    obtain ⟨o, _, _, _, ho, hex, _⟩ := R
    exact ⟨o, ho, hex.1⟩
  refine wpAny_call_entry PySem.F.slot_set_add ty PySem.F.entry_set_add ?_ (PySem.F.args_set_add_2 (.ref a) (.str k tk))
  unfold Builtin.«set.add» Builtin.Frozenset.oneOther Builtin.Frozenset.addrOf setAdd
  simp only [bind_assoc, List.isEmpty_nil]
  refine wpAny_bind (wpAny_pure ?_)
  try dsimp only
  refine wpAny_bind (wpAny_pure ?_)
  try dsimp only
  refine wpAny_bind (wpAny_holding ?_)
  refine wpAny_bind ((PySem.strKind P w).pyHash (k := k) (strKind_is P w k tk) ?_)
  refine setT_add (s := { s with toks := s.toks + 1 }) R room fun b h' sb r => ?_
  show wpAny _ _ (ret Value.none) _ _ _
  exact wpAny_pure ⟨_, rfl, done h' sb r⟩
/-- D is the new set -/
def tScT (w : World) (wi : TI) (g : TG) (tt : TT) (te : TE) (vs : List Nat) : TE := fun σ H Q => wi σ H fun J H1 => ∀ D, H1 D = none → ∃ W : Nat → Nat → Hp → Prop, (∃ m, W 0 m (upd H1 D (SetTx w D []))) ∧ ∀ i m H, W i m H →
  (J.stop i H ∧ Q (.ref D) H) ∨ (J.go i H ∧ ∃ On : Hp → Prop, (∀ H', On H' → ∃ m', m' < m ∧ W (i + 1) m' H') ∧ ∀ x H', J.yld i H x H' → g x (wipe σ vs) H' fun σ2 H2 => wipe σ2 vs = wipe σ vs ∧ tt σ2 H2 fun b H3 =>
    if b = true then te σ2 H3 fun y H4 => ∃ ys k, y = .str k ∧ H4 D = some (SetTx w D ys) ∧ ys.length + 1 < scanBound ∧ On (upd H4 D (SetTx w D (ins ys k))) else On H3)
section
variable {X : Cx} {ex tg iter : Expr} {ifs : List Expr} {scope : Scope} {own : List (Str × Nat)} {pos : Pos} {wi : TI} {g : TG} {tt : TT} {te : TE}
theorem pe_scT (calm : X.calm = true) (hN : X.N.Nodup) (hi : PI X tg iter wi) (ok : BlkOk X.N X.env.scope scope own)
    (hg : ∀ (s : Shared) (H : Hp) (C : Addr) (cl : List (Str × Addr)) (fp : List Addr), PG (X.blk s H scope (compEnvC scope cl C X.env) fp) tg g)
    (ht : ∀ (s : Shared) (H : Hp) (C : Addr) (cl : List (Str × Addr)) (fp : List Addr), PTs (X.blk s H scope (compEnvC scope cl C X.env) fp) ifs tt)
    (hk : ∀ (s : Shared) (H : Hp) (C : Addr) (cl : List (Str × Addr)) (fp : List Addr), PE (X.blk s H scope (compEnvC scope cl C X.env) fp) ex te)
    (hs : ∀ x, foldedSetIterable iter X.env x = pure x := by intro _; rfl) :
    PE X (.SetComp ex [⟨tg, iter, ifs, 0⟩] scope pos) (tScT X.w wi g tt te (own.map (·.2))) := by
  refine ⟨fun pl s σ H Q I h => ?_⟩
  rw [PpSet.eval_SetComp]
  have frees : ∀ y ∈ scope.names, y.2 = .free → ∃ c, X.env.cells.lookup y.1 = some c := fun y hy e => by
    rcases ok.free y hy e with k | k
    · exact I.ok.has _ (.inl k)
    · exact I.ok.has _ (.inr k)
  refine wpAny_comprehension_free rfl hs (closure_ok frees) ok.kind (fun y hy e => by rw [ok.uniq y hy, e]) (thn (hi.run pl s σ H _ I h) fun _ sa ha => thn ha fun _ sb hb => ?_)
  obtain ⟨it, fp, tn, J, Hb, rfl, Ib, T, tb, okb, want⟩ := hb
  refine PpSet.newSet_ok (newEnv_comp ?_)
  -- the new set
  generalize eD : sb.heap.objs.size = D
  have freeD : Hb D = none := Ib.hok.fresh (Nat.le_of_eq eD)
  obtain ⟨W, ⟨m0, begins⟩, turn⟩ := want D freeD
  generalize esc : ({ sb with heap := sb.heap.push (L2.newSet X.w) } : Shared) = sc
  have hsc : sc.heap = sb.heap.push (L2.newSet X.w) := by rw [← esc]
  have Ic : Inv X pl σ (upd Hb D (SetTx X.w D [])) sc := by
    rw [← esc]
    refine Ib.laid (t' := sb.toks) (fun b o e => Heap.get?_push_of_some _ e) (Nat.le_of_eq eD) ?_
    rw [← eD]
    exact setTx_new (setT_fresh X.w)
  have old : ∀ b ∈ fp, b < sb.heap.objs.size := fun b hb => by
    obtain ⟨o, e, _⟩ := T.obj _ _ tb b hb
    exact Heap.lt_size e
  have okc : ∀ b ∈ fp, FpOk X pl (upd Hb D (SetTx X.w D [])) b ∧ b < sc.heap.objs.size := fun b hb => by
    have lt := old b hb
    refine ⟨⟨?_, (okb b hb).2⟩, ?_⟩
    · rw [upd_ne (by rw [← eD]; exact Nat.ne_of_lt lt)]
      exact (okb b hb).1
    · rw [hsc, Heap.size_push]
      exact Nat.lt_succ_of_lt lt
  have tc : tn 0 sc.heap := T.keep _ _ _ tb fun b _ o e => by
    rw [hsc]
    exact Heap.get?_push_of_some _ e
  -- the block
  have Id := block_start Ic ok hN okc
  have g1 := hg sc (upd Hb D (SetTx X.w D [])) sc.heap.objs.size (cellsFrom (sc.heap.objs.size + 1) scope.names (cloFrom X.env.cells scope.names [])) fp
  have g2 := ht sc (upd Hb D (SetTx X.w D [])) sc.heap.objs.size (cellsFrom (sc.heap.objs.size + 1) scope.names (cloFrom X.env.cells scope.names [])) fp
  have g3 := hk sc (upd Hb D (SetTx X.w D [])) sc.heap.objs.size (cellsFrom (sc.heap.objs.size + 1) scope.names (cloFrom X.env.cells scope.names [])) fp
  show codeAny _ _ (.compStart (.SetComp ex [⟨tg, iter, ifs, 0⟩] scope pos) 0 (.ref it) (.ref D) (compEnvC scope (cellsFrom (sc.heap.objs.size + 1) scope.names (cloFrom X.env.cells scope.names [])) sc.heap.objs.size X.env)) _
    { sc with heap := pushCells (sc.heap.push { cls := .type "dict", data := .dict #[] }) scope.names }
  have hid : ∀ b ∈ fp, (upd Hb D (SetTx X.w D [])) b = none := fun b hb => (okc b hb).1.1
  generalize eenv : compEnvC scope (cellsFrom (sc.heap.objs.size + 1) scope.names (cloFrom X.env.cells scope.names [])) sc.heap.objs.size X.env = env at Id g1 g2 g3 ⊢
  have eloc : env.locals = sc.heap.objs.size := by subst eenv; rfl
  generalize eHc : upd Hb D (SetTx X.w D []) = Hc at Ic Id g1 g2 g3 begins hid okc
  generalize esd : ({ sc with heap := pushCells (sc.heap.push { cls := .type "dict", data := .dict #[] }) scope.names } : Shared) = sd at Id ⊢
  have td : tn 0 sd.heap := T.keep _ _ _ tc fun b _ o e => by
    rw [← esd]
    exact pushCells_keeps _ _ _ _ (Heap.get?_push_of_some _ e)
  have fpOk : ∀ {σ' : St} {H' : Hp} {s' : Shared}, Inv (X.blk sc Hc scope env fp) [] σ' H' s' → (∀ b ∈ fp, H' b = none) → ∀ b ∈ fp, FpOk (X.blk sc Hc scope env fp) [] H' b := fun {σ' H' s'} I' free b hb => by
    refine ⟨free b hb, (I'.ok.exf b hb).1, I'.ok.exfs b hb, .inl hb, fun x c e => (I'.ok.exf b hb).2 x c e, fun p hp => ?_⟩
    exact absurd (show p ∈ ([] : List (Addr × Obj)) ++ [] from hp) (by simp)
  refine PpSet.codeAny_compStart_set ?lp (T.self X.A 0 _ _ _ td ?lp)
  refine PpSet.compLoopS_any (fun n s' => ∃ i H', Inv (X.blk sc Hc scope env fp) [] (wipe σ (own.map (·.2))) H' s' ∧ tn i s'.heap ∧ (∀ b ∈ fp, H' b = none) ∧ W i n H') ?_ m0 ⟨0, Hc, Id, td, hid, begins⟩
  rintro n se ⟨i, He, Ie, te, free, at_⟩
  rcases turn i n He at_ with ⟨stop, wish⟩ | ⟨goes, On, next, step⟩
  · refine thnF (T.done (X.blk sc Hc scope env fp) rfl rfl rfl calm i [] se _ He (fun _ _ => False) Ie (fpOk Ie free) te stop) fun r sf ⟨hr, If⟩ => ?_
    subst hr
    have back : Inv X pl σ He sf := Ic.call' (ch := fp) If.os If.base If.hok If.bare fun b hb => ⟨(okc b hb).1.2.2.2.1, (okc b hb).1.2.1, (okc b hb).1.2.2.2.2.1, (okc b hb).1.2.2.2.2.2⟩
    have noC : He sc.heap.objs.size = none := by
      have z : He env.locals = none := If.free
      rw [eloc] at z
      exact z
    obtain ⟨m, hn, _⟩ := If.loc
    have hn' : sf.heap.Ns env.locals m := hn
    rw [eloc] at hn'
    obtain ⟨f0, f1, f2, f3, f4, f5⟩ := Ic.fpOk (Nat.le_refl _) noC
    exact ⟨m, hn', fun h'' sb' => ⟨.ref D, He, back.turned (t' := sf.toks) (fun b o hb e => (sb'.2 b hb).trans e) f0 f1 f3 f4 f5, rfl, wish⟩⟩
  · refine thnF (T.item (X.blk sc Hc scope env fp) rfl rfl rfl calm i [] se _ He (fun _ _ => False) Ie (fpOk Ie free) te goes) fun r sf ⟨u, hr, hf⟩ => ?_
    subst hr
    refine thnF hf fun _ sg ⟨x, Hg, Ig, rg, yg, tg', freeg⟩ => ?_
    have pinned := Ig.pinned (fpOk Ig freeg) (T.obj _ _ tg')
    refine thnF (g1.run _ sg _ Hg x u _ pinned rg (step x Hg yg)) fun _ sh ⟨σh, Hh, Ih, wh, qh⟩ => ?_
    refine thnF (g2.run _ sh σh Hh _ Ih qh) fun b si ⟨Hi, Ii, qi⟩ => ?_
    have ends : ∀ {s' : Shared} {H' : Hp}, Inv (X.blk sc Hc scope env fp) ([] ++ pinsAt fp sg.heap) σh H' s' → On H' →
        ∃ m, m < n ∧ ∃ i H', Inv (X.blk sc Hc scope env fp) [] (wipe σ (own.map (·.2))) H' s' ∧ tn i s'.heap ∧ (∀ b ∈ fp, H' b = none) ∧ W i m H' := fun {s' H'} I' on => by
      obtain ⟨m', lt, at'⟩ := next H' on
      have kept : ∀ b ∈ fp, ∀ o, sg.heap.get? b = some o → s'.heap.get? b = some o ∧ H' b = none := fun b hb o e => by
        have z := I'.pin (b, o) (List.mem_append_right _ (List.mem_append_right _ (mem_pinsAt hb e)))
        exact ⟨z.1, z.2.1⟩
      have len : (wipe σ (own.map (·.2))).length = σh.length := by
        rw [← wh, wipe_length]
      refine ⟨m', lt, i + 1, H', (I'.unpinned (pins := [])).weak len (fun j y e => ?_), T.keep _ _ _ tg' fun b hb o e => (kept b hb o e).1, fun b hb => ?_, at'⟩
      · rw [← wh] at e
        exact (wipe_some e).1
      · obtain ⟨o, e, _⟩ := T.obj _ _ tg' b hb
        exact (kept b hb o e).2
    cases b with
    | false =>
      simp only [Bool.false_eq_true, if_false] at qi ⊢
      exact ends Ii qi
    | true =>
      simp only [if_true] at qi ⊢
      refine thnF (g3.run _ si σh Hi _ Ii qi) fun z sj ⟨yk, Hj, Ij, rj, ys, k, ek, eDk, few, on⟩ => ?_
      subst ek
      obtain ⟨tk, rfl⟩ := rj
      have R : SetT X.w sj.heap D ys := (Ij.hok D _ eDk).1
      refine addT R few fun h' sb' new => ends (Ij.write (e := D) (t' := sj.toks + 1) (by rw [eDk]; trivial) (.inl rfl) (fun b u hb hu => (sb'.2 b hb).trans hu) ?_ (setTx_new new)) on
      obtain ⟨o, _, _, _, ho, _⟩ := new
      exact ⟨o, ho⟩
end
section
variable {w : World} {J : It} {G : Hp → Prop} {Y : Nat → Hp → V → Hp → Prop} {g : TG} {tt : TT} {te : TE} {vs : List Nat} {σ : St} {H1 : Hp} {D : Addr} {Qd : Hp → Prop}
/-- {e for x in ..}, xs the texts that e is, one after another -/
theorem scG (xs : List Str) (wk : Walk J xs.length G Y) (hz : xs.length < 4000) (hD : H1 D = none) (hY : ∀ i H x H', Y i H x H' → Same H H') (hG : ∀ H', Same H1 H' → G H')
    (turn : ∀ (i : Nat) (a : Str) (x : V) (H' H'' : Hp) (k : V → Hp → Prop) (k0 : Hp → Prop), xs[i]? = some a → Same H1 H' → Y i H' x H'' → (∀ H4, Same H'' H4 → k (.str a) H4) →
      g x (wipe σ vs) H'' fun σ2 H2 => wipe σ2 vs = wipe σ vs ∧ tt σ2 H2 fun b H3 => if b = true then te σ2 H3 fun y H4 => k y H4 else k0 H3)
    (hd : ∀ H', Same H1 H' → H' D = some (SetTx w D (setFold xs)) → Qd H') :
    ∃ W : Nat → Nat → Hp → Prop, (∃ m, W 0 m (upd H1 D (SetTx w D []))) ∧ ∀ i m H, W i m H →
      (J.stop i H ∧ Qd H) ∨ (J.go i H ∧ ∃ On : Hp → Prop, (∀ H', On H' → ∃ m', m' < m ∧ W (i + 1) m' H') ∧ ∀ x H', J.yld i H x H' → g x (wipe σ vs) H' fun σ2 H2 => wipe σ2 vs = wipe σ vs ∧ tt σ2 H2 fun b H3 =>
        if b = true then te σ2 H3 fun y H4 => ∃ ys k, y = .str k ∧ H4 D = some (SetTx w D ys) ∧ ys.length + 1 < scanBound ∧ On (upd H4 D (SetTx w D (ins ys k))) else On H3) := by
  refine dc_it wk (nx := fun i H' => Same H1 H' ∧ H' D = some (SetTx w D (setFold (xs.take i)))) (body := fun i x H' On => g x (wipe σ vs) H' fun σ2 H2 => wipe σ2 vs = wipe σ vs ∧ tt σ2 H2 fun b H3 =>
        if b = true then te σ2 H3 fun y H4 => ∃ ys k, y = .str k ∧ H4 D = some (SetTx w D ys) ∧ ys.length + 1 < scanBound ∧ On (upd H4 D (SetTx w D (ins ys k))) else On H3)
    ⟨same_new hD, upd_same⟩ (fun i H _ h => hG H h.1) (fun i x H H' hi h hy => ?_) (fun H h => hd H h.1 (by rw [h.2, List.take_length]))
  have ei : xs[i]? = some xs[i] := List.getElem?_eq_getElem hi
  have sy := hY _ _ _ _ hy
  refine turn i xs[i] x H H' (fun y H5 => ∃ ys k, y = .str k ∧ H5 D = some (SetTx w D ys) ∧ ys.length + 1 < scanBound ∧ _) _ ei h.1 hy fun H4 s4 => ⟨_, _, rfl, s4 _ _ (sy _ _ h.2), ?_, fun b o z => ?_, ?_⟩
  · have := setFold_len i (xs.take i) (by rw [List.length_take]; omega)
    unfold scanBound
    omega
  · rw [upd_ne (ne_of_none z hD)]
    exact s4 _ _ (sy _ _ (h.1 b o z))
  · rw [upd_same, List.take_add_one, ei]
    show some (SetTx w D _) = some (SetTx w D (setFold (xs.take i ++ [xs[i]])))
    rw [setFold_snoc]
end
end L2
namespace PySem.SeqAt
open AutoSeq1 (wpAny_loadPart')
open MeetsSeq
theorem str_declines_dict (x : Str) (u : Tok) (a : Addr) (es : Array DictEntry) (n : Nat) (dd : Option Addr) (sl : Array (Option Value)) :
    Meets (Builtin.«str.__eq__» ⟨[.str x u, .ref a], []⟩) (fun _ R s => s.heap.get? a = some { cls := .type "dict", dict := dd, data := .dict es n, slots := sl } ∧ R (.ok (.ret .notImplemented)) s) :=
  .of_wp fun prog w A R s h => by
    obtain ⟨hp, g, d, tk, os⟩ := s
    obtain ⟨ha, h⟩ := h
    wp_walk using wpAny_loadPart' ha, wpAny_load ha
    exact ⟨_, rfl, h⟩
theorem dict_declines_str (x : Str) (u : Tok) (a : Addr) (es : Array DictEntry) (n : Nat) (dd : Option Addr) (sl : Array (Option Value)) :
    Meets (Builtin.«dict.__eq__» ⟨[.ref a, .str x u], []⟩) (fun _ R s => s.heap.get? a = some { cls := .type "dict", dict := dd, data := .dict es n, slots := sl } ∧ R (.ok (.ret .notImplemented)) s) :=
  .of_wp fun prog w A R s h => by
    obtain ⟨hp, g, d, tk, os⟩ := s
    obtain ⟨ha, h⟩ := h
    have f1 := F.sub_str_dict
    wp_walk using wpAny_loadPart' ha, wpAny_load ha
    exact ⟨_, rfl, h⟩
section
variable {A : Around} {s : Shared} {a : Addr} {o : Obj} {es : Array DictEntry} {n : Nat}
theorem rc_str_dict (x : Str) (u : Tok) (ho : s.heap.get? a = some o) (hc : o.cls = .type "dict") (hd : o.data = .dict es n) (hu : A.units < cLine) : RcAt A s (.str x u) (.ref a) false := fun prog w E Q h => by
  obtain ⟨cls, dd, data, sl⟩ := o
  dsimp only at hc hd
  subst hc hd
  refine rc_eq_decline_or (k := false) (typeIs_str s x u) ⟨_, ho, rfl⟩ (by decide) F.sub_dict_str F.slot_str_eq F.slot_dict_eq_refl (fun _ hq => ?_) (fun _ hq => ?_) (fun _ hq => wpAny_of_eq (rfl : isSame (.str x u) (.ref a) = pure false) hq) (.inr hu) h
  · exact call_meets F.slot_str_eq (typeIs_str s x u) F.entry_str_eq (F.args_str_eq_2 _ _) (str_declines_dict x u a es n dd sl) ⟨ho, hq⟩
  · exact call_meets F.slot_dict_eq_refl ⟨_, ho, rfl⟩ F.entry_dict_eq (F.args_dict_eq_2 _ _) (dict_declines_str x u a es n dd sl) ⟨ho, hq⟩
theorem rc_dict_str (x : Str) (u : Tok) (ho : s.heap.get? a = some o) (hc : o.cls = .type "dict") (hd : o.data = .dict es n) (hu : A.units < cLine) : RcAt A s (.ref a) (.str x u) false := fun prog w E Q h => by
  obtain ⟨cls, dd, data, sl⟩ := o
  dsimp only at hc hd
  subst hc hd
  refine rc_eq_decline_or (k := false) ⟨_, ho, rfl⟩ (typeIs_str s x u) (by decide) F.sub_str_dict F.slot_dict_eq F.slot_str_eq_refl (fun _ hq => ?_) (fun _ hq => ?_) (fun _ hq => wpAny_of_eq (rfl : isSame (.ref a) (.str x u) = pure false) hq) (.inr hu) h
  · exact call_meets F.slot_dict_eq ⟨_, ho, rfl⟩ F.entry_dict_eq (F.args_dict_eq_2 _ _) (dict_declines_str x u a es n dd sl) ⟨ho, hq⟩
  · exact call_meets F.slot_str_eq_refl (typeIs_str s x u) F.entry_str_eq (F.args_str_eq_2 _ _) (str_declines_dict x u a es n dd sl) ⟨ho, hq⟩
theorem eq_str_dict (x : Str) (u : Tok) (ho : s.heap.get? a = some o) (hc : o.cls = .type "dict") (hd : o.data = .dict es n) (hu : A.units < cLine) : EqAt A s (.str x u) (.ref a) false := fun prog w E Q h => by
  unfold eqBool
  refine wpAny_holding (wpAny_ite_split (fun z => absurd (eq_of_beq z) nofun) fun _ => ?_)
  exact wpAny_bind (rc_str_dict x u ho hc hd hu prog w E _ (wpAny_truthy_bool h))
end
end PySem.SeqAt
namespace L2
open PySem PySem.Spec PyProof.Rows PySem.GX
/-- the data is this text -/
def isTx (z : Str) : PyData → Bool
  | .str y => decide (y = z)
  | _ => false
section
variable {X : Cx} {pins : List (Addr × Obj)} {σ : St} {H : Hp} {s : Shared}
/-- a text beside any thing -/
theorem sh_eqAt (I : Inv X pins σ H s) {x : V} {d : PyData} {v : Value} (h : Sh X.K H x d) (r : RelV x v) {A : Around} (hu : A.units < cLine) (z : Str) (t : Tok) : SeqAt.EqAt A s (.str z t) v (isTx z d) := by
  cases h with
  | fl f =>
    cases f with
    | non => cases r; exact SeqAt.EqAt.str_none z t
    | bl b => cases r; exact SeqAt.EqAt.str_bool z t b
    | int i => obtain ⟨u, rfl⟩ := r; exact SeqAt.EqAt.str_int z t i u
    | str y =>
      obtain ⟨u, rfl⟩ := r
      have e : isTx z (.str y) = (z == y) := by
        show decide (y = z) = _
        by_cases q : y = z
        · subst q; simp
        · rw [decide_eq_false q]
          exact (beq_eq_false_iff_ne.mpr (Ne.symm q)).symm
      rw [e]
      exact SeqAt.EqAt.str_str z t y u
  | lst hq _ =>
    cases r
    obtain ⟨its, rv, ⟨o, n, ho, hc, _, hd⟩, _⟩ := I.list hq
    exact SeqAt.EqAt.str_list z t ⟨o, ho, hc, n, hd⟩ hu
  | tup hq _ =>
    cases r
    obtain ⟨its, rv, ⟨o, ho, hc, n, hd⟩, _⟩ := I.tuple hq
    exact SeqAt.EqAt.str_tuple z t ⟨o, ho, hc, n, hd⟩ hu
  | dic hq _ _ =>
    cases r
    obtain ⟨_, hsys, vs, rkv, o, es, ep, ho, ⟨hc, _⟩, hd, _⟩ := I.hok _ _ hq
    exact SeqAt.eq_str_dict z t ho hc hd hu
theorem sh_rcAt (I : Inv X pins σ H s) {x : V} {d : PyData} {v : Value} (h : Sh X.K H x d) (r : RelV x v) {A : Around} (hu : A.units < cLine) (z : Str) (t : Tok) : SeqAt.RcAt A s v (.str z t) (isTx z d) := by
  cases h with
  | fl f =>
    cases f with
    | non => cases r; exact SeqAt.RcAt.none_str z t
    | bl b => cases r; exact SeqAt.RcAt.bool_str b z t
    | int i => obtain ⟨u, rfl⟩ := r; exact SeqAt.RcAt.int_str i u z t
    | str y =>
      obtain ⟨u, rfl⟩ := r
      have e : isTx z (.str y) = (y == z) := by
        show decide (y = z) = _
        by_cases q : y = z
        · subst q; simp
        · rw [decide_eq_false q]
          exact (beq_eq_false_iff_ne.mpr q).symm
      rw [e]
      exact SeqAt.RcAt.str_str y u z t
  | lst hq _ =>
    cases r
    obtain ⟨its, rv, ⟨o, n, ho, hc, _, hd⟩, _⟩ := I.list hq
    exact SeqAt.RcAt.list_str z t ⟨o, ho, hc, n, hd⟩ hu
  | tup hq _ =>
    cases r
    obtain ⟨its, rv, ⟨o, ho, hc, n, hd⟩, _⟩ := I.tuple hq
    exact SeqAt.RcAt.tuple_str z t ⟨o, ho, hc, n, hd⟩ hu
  | dic hq _ _ =>
    cases r
    obtain ⟨_, hsys, vs, rkv, o, es, ep, ho, ⟨hc, _⟩, hd, _⟩ := I.hok _ _ hq
    exact SeqAt.rc_dict_str z t ho hc hd hu
end
/-- x not in a list of texts, x anything -/
def rNotInTx (K : PySem.W.Frag) : R2 := fun x y H Q => ∃ (d : PyData) (p : Addr) (ws : List Str), Sh K H x d ∧ y = .ref p ∧ SqL K H p (ws.map V.str) ∧ Q (.bl (!ws.any fun z => isTx z d)) H
theorem op_notInTx {X : Cx} (hu : X.A.units + 1 < cLine) : OpR X (compareOp .NotIn) (rNotInTx X.K) := by
  intro pins s σ H x y v u Q I rx ry ⟨d, p, ws, hd, ey, hp, q⟩
  subst ey
  cases ry
  obtain ⟨its, rv, ⟨o, n, ho, hc, hnn, hdd⟩, hlen⟩ := I.list hp
  have at_ : ∀ y, y ∈ its.toArray → ∃ z t, y = Value.str z t ∧ z ∈ ws := by
    intro y hy
    have hy' : y ∈ its := by simpa using hy
    clear hdd ho hc hp hy q hlen hnn
    generalize hvs : ws.map V.str = vs at rv
    induction rv generalizing ws with
    | nil => cases hy'
    | cons r _ ih =>
      match ws, hvs with
      | w1 :: wt, hvs =>
        injection hvs with e1 e2
        subst e1
        rcases List.mem_cons.mp hy' with m | m
        · obtain ⟨t, e⟩ := r
          exact ⟨w1, t, by rw [m, e], List.mem_cons_self ..⟩
        · obtain ⟨z, t, a1, a2⟩ := ih wt m e2
          exact ⟨z, t, a1, List.mem_cons_of_mem _ a2⟩
  have any_ : (its.toArray.any fun y => match y with | .str z _ => isTx z d | _ => false) = ws.any fun z => isTx z d := by
    rw [List.any_toArray]
    clear at_ hdd ho hc hp q hlen hnn
    generalize hvs : ws.map V.str = vs at rv
    induction rv generalizing ws with
    | nil =>
      match ws, hvs with
      | [], _ => rfl
    | cons r _ ih =>
      match ws, hvs with
      | w1 :: wt, hvs =>
        injection hvs with e1 e2
        subst e1
        obtain ⟨t, e⟩ := r
        subst e
        rw [List.any_cons, List.any_cons, ih wt e2]
  refine SeqAt.notIn_listAt (fun y => match y with | .str z _ => isTx z d | _ => false) ⟨o, ho, hc, n, hdd⟩ (fun y hy => ?_) ?_
  · obtain ⟨z, t, rfl, _⟩ := at_ y hy
    exact sh_eqAt I hd rx (by show X.A.units + 1 < cLine; exact hu) z t
  · rw [any_]
    exact ⟨.bl _, H, I, rfl, q⟩
/-- x == text, x anything -/
def rEqTx (K : PySem.W.Frag) : R2 := fun x y H Q => ∃ (d : PyData) (z : Str), Sh K H x d ∧ y = .str z ∧ Q (.bl (isTx z d)) H
theorem op_eqTx {X : Cx} (hu : X.A.units < cLine) : OpR X (compareOp .Eq) (rEqTx X.K) := by
  intro pins s σ H x y v u Q I rx ry ⟨d, z, hd, ey, q⟩
  subst ey
  obtain ⟨t, rfl⟩ := ry
  exact sh_rcAt I hd rx hu z t _ _ _ _ ⟨.bl _, H, I, rfl, q⟩
/-- repr(x), x a tuple -/
def rReprT (K : PySem.W.Frag) : List V → Hp → VK → Prop := fun xs H Q => ∃ (a : Addr) (ds : List PyData), xs = [.ref a] ∧ Sh K H (.ref a) (.tuple ds) ∧ PyData.showableAll ds = true ∧ (PyData.tuple ds).shown.length ≤ sizeLine ∧ (PyData.tuple ds).depth ≤ 60 ∧
  Q (.str (PyData.tuple ds).shown) H
theorem call_reprT {X : Cx} {K : PySem.W.Frag} (eK : X.K = K) (hg : X.A.guards = some []) (hu : X.A.units + 64 < cLine) : CallR X (.builtin "repr") (rReprT K) := by
  subst eK
  intro pins s σ H xs us Q I r h
  obtain ⟨a, ds, rfl, hsh, hs, hz, hdp, q⟩ := h
  cases r with
  | cons r1 r2 =>
    cases r2
    cases r1
    cases hsh with
    | fl f => cases f
    | @tup _ xs _ hq ha =>
      obtain ⟨its, rv, ⟨o, ho, hc, n, hd⟩, _⟩ := I.tuple hq
      have hz' : (tupleText (PyData.shownAll ds)).length ≤ sizeLine := by simpa only [PyData.shown] using hz
      obtain ⟨⟨as, hr⟩, bs, hb, hk⟩ := Sh.bothAll I ds xs its ha rv hs (fun t ht => Nat.le_trans (tupleText_mem_le ht) hz')
      have rr : Reads s.heap (.ref a) (.tuple ds) _ := Reads.tuple ho hc hd hr
      have hna : a ∉ bs := not_mem_of_deeper rr (by simp only [PyData.depth]; omega) hb
      simp only [PyData.depth] at hdp
      simp only [PyData.shown] at q
      refine call_repr_slot (by omega) ⟨o, ho, hc⟩ F.slot_tuple_repr ?_
      exact call_tuple_reprK ho hc hd hna hk hg (fun b _ => Clear.nil b) (by show X.A.units + 1 + _ < cLine; omega) (fun _ _ e => e) (fun h' u tk k => ⟨_, _, rfl, .str (tupleText (PyData.shownAll ds)), H, I.kept k, ⟨u, rfl⟩, q⟩) hz'
/-- what is compared can be shown -/
theorem Dp.sh {K : PySem.W.Frag} {H : Hp} : ∀ {d : PyData} {v : V}, Dp K H v d → Sh K H v d := by
  intro d v h
  exact Dp.rec (motive_1 := fun v d _ => Sh K H v d) (motive_2 := fun vs ds _ => ShAll K H vs ds) (.fl .non) (fun b => .fl (.bl b)) (fun i => .fl (.int i)) (fun x => .fl (.str x)) (fun h _ i => .lst h i) (fun h _ i => .tup h i) .nil (fun _ _ i j => .cons i j) h
end L2
namespace My
open PySem PySem.Spec PyProof.Rows L2 PySem.GX L2H LamX
abbrev kinds : List Str := ["last", "ends", "windows", "sets"]
def isK (d : PyData) : Bool := kinds.any fun z => isTx z d
/-- an integer in bounds -/
def inb (d : PyData) (lo hi : Int) : Bool := match d with
  | .int i => decide (lo ≤ i) && decide (i ≤ hi)
  | _ => false
def leastN (k : Str) : Int := if k = "last" then 0 else 1
def isI : PyData → Bool
  | .int _ => true
  | .bool _ => true
  | _ => false
def isB : PyData → Bool
  | .bool _ => true
  | _ => false
def isS : PyData → Bool
  | .str _ => true
  | _ => false
theorem sh_kit {K : PySem.W.Frag} {H : Hp} {v : V} {d : PyData} (h : Sh K H v d) : ∃ ty, TyX K H v ty ∧ PySem.W.kitOne K ty (.type "int") = some (isI d) ∧ PySem.W.kitOne K ty (.type "bool") = some (isB d) ∧ PySem.W.kitOne K ty (.type "str") = some (isS d) := by
  cases h with
  | fl f =>
    cases f with
    | non => exact ⟨_, .base .non, kit_ty (show _ = some false by decide +kernel), kit_ty (show _ = some false by decide +kernel), kit_ty (show _ = some false by decide +kernel)⟩
    | bl b => exact ⟨_, .base (.bl b), kit_ty (show _ = some true by decide +kernel), kit_ty (show _ = some true by decide +kernel), kit_ty (show _ = some false by decide +kernel)⟩
    | int i => exact ⟨_, .base (.int i), kit_ty (show _ = some true by decide +kernel), kit_ty (show _ = some false by decide +kernel), kit_ty (show _ = some false by decide +kernel)⟩
    | str x => exact ⟨_, .base (.str x), kit_ty (show _ = some false by decide +kernel), kit_ty (show _ = some false by decide +kernel), kit_ty (show _ = some true by decide +kernel)⟩
  | lst h t =>
    rcases h with (h | ⟨o, h⟩) | ⟨o, its, n, hk, hc, _⟩
    · exact ⟨_, .base (.lst h), kit_ty (show _ = some false by decide +kernel), kit_ty (show _ = some false by decide +kernel), kit_ty (show _ = some false by decide +kernel)⟩
    · exact ⟨_, .base (.frz h), kit_ty (show _ = some false by decide +kernel), kit_ty (show _ = some false by decide +kernel), kit_ty (show _ = some false by decide +kernel)⟩
    · exact ⟨_, .kList hk hc, kit_ty (show _ = some false by decide +kernel), kit_ty (show _ = some false by decide +kernel), kit_ty (show _ = some false by decide +kernel)⟩
  | tup h t =>
    rcases h with (h | ⟨o, h⟩) | ⟨o, its, n, hk, hc, _⟩
    · exact ⟨_, .base (.tup h), kit_ty (show _ = some false by decide +kernel), kit_ty (show _ = some false by decide +kernel), kit_ty (show _ = some false by decide +kernel)⟩
    · exact ⟨_, .fTuple h, kit_ty (show _ = some false by decide +kernel), kit_ty (show _ = some false by decide +kernel), kit_ty (show _ = some false by decide +kernel)⟩
    · exact ⟨_, .kTuple hk hc, kit_ty (show _ = some false by decide +kernel), kit_ty (show _ = some false by decide +kernel), kit_ty (show _ = some false by decide +kernel)⟩
  | dic h a b => exact ⟨_, .base (.dK h), kit_ty (show _ = some false by decide +kernel), kit_ty (show _ = some false by decide +kernel), kit_ty (show _ = some false by decide +kernel)⟩
theorem sh_int {K : PySem.W.Frag} {H : Hp} {v : V} {i : Int} (h : Sh K H v (.int i)) : v = .int i := by
  cases h with
  | fl f => cases f; rfl
theorem sh_str {K : PySem.W.Frag} {H : Hp} {v : V} {x : Str} (h : Sh K H v (.str x)) : v = .str x := by
  cases h with
  | fl f => cases f; rfl
/-- the promise where nothing is raised -/
theorem FnOk.calm_ {P : Program} {w : World} {K : PySem.W.Frag} {mg : Str → Option Value} {base : Heap} {k : Nat} {f : Addr} {fd : FuncData} {ps : List Str} {sp sp0 : Sp} (F : FnOk P w K mg base (L2N.CX P w) k f fd ps sp) (m : ∀ vs H Q E, sp0 vs H Q E → sp vs H Q E0) : FnOk P w K mg base CX0 k f fd ps sp0 :=
  ⟨fun vs H Q E h => F.len vs H Q E0 (m _ _ _ _ h), fun A outer s H args us vs Q E hr e0 hb r h => codeAny_mono (F.run A outer s H args us vs Q E0 hr e0 hb r (m _ _ _ _ h)) fun r s' hq => by
    cases r with
    | error e =>
      obtain ⟨a, B, H', cls, d, _, _, _, _, _, _, _, hE⟩ := hq
      exact hE.elim
    | ok fl => cases fl <;> exact hq⟩
/-- raises C with v as what is given -/
def Rz (C : Addr) (v : V) (H : Hp) (E : XK) : Prop := ∀ da H', Same H H' → H' da = some (exd da [("given", v)]) → E (.ref C) (some da) H'
theorem Rz.same {C : Addr} {v : V} {H H1 : Hp} {E : XK} (h : Rz C v H E) (s : Same H H1) : Rz C v H1 E := fun da H' s' e => h da H' (s.trans s') e
/-- what is known of a class that is raised -/
structure RzC (P : Program) (w : World) (K : PySem.W.Frag) (mg : Str → Option Value) (base : Heap) (x : Str) (C : Addr) : Prop where
  mk1 : Mk1 P w K mg base x C "given"
  b1 : PySem.W.subIn K (.ref C) (.type "BaseException") = some true
  b2 : PySem.W.typeIn K (.ref C) = some (.type "type")
theorem PE_imp {X : Cx} {e : Expr} {t t' : TE} (h : PE X e t) (m : ∀ σ H Q, t' σ H Q → t σ H Q) : PE X e t' := ⟨fun pins s σ H Q I q => h.run pins s σ H Q I (m σ H Q q)⟩
def isKs (ws : List Str) (d : PyData) : Bool := ws.any fun z => isTx z d
theorem isK_is (d : PyData) : isK d = isKs kinds d := rfl
/-- the def x is there, and keeps the promise; it may raise -/
structure HvX (P : Program) (w : World) (K : PySem.W.Frag) (mg : Str → Option Value) (base : Heap) (k : Nat) (x : Str) (ps : List Str) (sp : Sp) : Prop where
  ex : ∃ (f : Addr) (fd : FuncData), FnOk P w K mg base (L2N.CX P w) k f fd ps sp ∧ Binds K fd ps [] ∧ mg x = some (.ref f) ∧ PySem.W.keepIn K (.ref f) = true
theorem pe_clX {X : Cx} {k : Nat} {x : Str} {ps : List Str} {sp : Sp} {p pos : Pos} {e : Expr} {es : List Expr} {t : TA} {E : XK} (h : HvX X.prog X.w X.K X.mg X.base k x ps sp) (hr : Room k X.A) (hg : Gl X x) (hx : Passes (L2N.CX X.prog X.w) X E) (ha : PA X (e :: es) t)
    (hdb : (x == ("__debug__" : Str)) = false := by decide) (he : starEach (e :: es) X.env = (false, eval e X.env) :: starEach es X.env := by rfl) (hpl : (backTo pos (starEach es X.env)).any (·.1) = false := by rfl) :
    PE X (.Call (.Name x p) (e :: es) [] pos) (tCall sp [] E t) := by
  obtain ⟨f, fd, F, b, g, kp⟩ := h.ex
  exact pe_call F hr hg g kp b .nil hx ha hdb he hpl
/-- the same, called without its last parameters, whose values are dvs -/
structure HvD (P : Program) (w : World) (K : PySem.W.Frag) (mg : Str → Option Value) (base : Heap) (k : Nat) (x : Str) (ps : List Str) (dvs : List V) (sp : Sp) : Prop where
  ex : ∃ (f : Addr) (fd : FuncData) (ds : List Value), FnOk P w K mg base (L2N.CX P w) k f fd ps sp ∧ Vals dvs ds ∧ Binds K fd ps ds ∧ mg x = some (.ref f) ∧ PySem.W.keepIn K (.ref f) = true
theorem pe_clD {X : Cx} {k : Nat} {x : Str} {ps : List Str} {dvs : List V} {sp : Sp} {p pos : Pos} {e : Expr} {es : List Expr} {t : TA} {E : XK} (h : HvD X.prog X.w X.K X.mg X.base k x ps dvs sp) (hr : Room k X.A) (hg : Gl X x) (hx : Passes (L2N.CX X.prog X.w) X E) (ha : PA X (e :: es) t)
    (hdb : (x == ("__debug__" : Str)) = false := by decide) (he : starEach (e :: es) X.env = (false, eval e X.env) :: starEach es X.env := by rfl) (hpl : (backTo pos (starEach es X.env)).any (·.1) = false := by rfl) :
    PE X (.Call (.Name x p) (e :: es) [] pos) (tCall sp dvs E t) := by
  obtain ⟨f, fd, ds, F, v, b, g, kp⟩ := h.ex
  exact pe_call F hr hg g kp b v hx ha hdb he hpl
def spIsK (K : PySem.W.Frag) : Sp := fun vs H Q _ => ∃ (v : V) (d : PyData) (t : Addr) (ws : List Str), vs = [v, .ref t] ∧ Sh K H v d ∧ SqT K H t (ws.map V.str) ∧ Q (.bl (isKs ws d)) H
def spCKs (K : PySem.W.Frag) (C2 : Addr) : Sp := fun vs H Q E => ∃ (v : V) (d : PyData) (t : Addr) (ws : List Str), vs = [v, .ref t] ∧ Sh K H v d ∧ SqT K H t (ws.map V.str) ∧ (isKs ws d = true → Q .non H) ∧ (isKs ws d = false → Rz C2 v H E)
theorem isKs_str (ws : List Str) (x : Str) : inV (.str x) (ws.map V.str) = isKs ws (.str x) := by
  rw [in_strs]
  unfold isKs
  rw [Bool.eq_iff_iff, decide_eq_true_eq, List.any_eq_true]
  exact ⟨fun h => ⟨x, h, decide_eq_true rfl⟩, fun ⟨z, h1, h2⟩ => by rw [show x = z from of_decide_eq_true h2]; exact h1⟩
theorem isKs_no {ws : List Str} {d : PyData} (h : ¬ isS d = true) : isKs ws d = false := by
  have : ∀ z, isTx z d = false := fun z => by
    match d, h with
    | .str _, h => exact absurd rfl h
    | .int i, _ => rfl
    | .bool b, _ => rfl
    | .none, _ => rfl
    | .list _, _ => rfl
    | .tuple _, _ => rfl
    | .dict _, _ => rfl
  unfold isKs
  rw [Bool.eq_false_iff]
  intro z
  obtain ⟨y, _, e⟩ := List.any_eq_true.mp z
  rw [this y] at e
  cases e
end My
namespace My
open PySem PySem.Spec PyProof.Rows L2 PySem.GX L2H LamX
def spInB (K : PySem.W.Frag) : Sp := fun vs H Q _ => ∃ (v : V) (d : PyData) (lo hi : Int), vs = [v, .int lo, .int hi] ∧ Sh K H v d ∧ Q (.bl (inb d lo hi)) H
section
variable {P : Program} {w : World} {K : PySem.W.Frag} {mg : Str → Option Value} {base : Heap}
theorem scInB : FnScope ["value", "low", "high"] ["value", "low", "high"] (defScope sBounds) := ⟨rfl, rfl, rfl, by decide +kernel, rfl, by decide +kernel, by decide +kernel⟩
theorem ok_inb {f : Addr} {fd : FuncData} (F : Fun K "in_bounds" "in_bounds" sBounds f fd) (hIs : mg "isinstance" = none) (hI : mg "int" = none) (hB : mg "bool" = none) : FnOk P w K mg base CX0 1 f fd ["value", "low", "high"] (spInB K) := by
  refine F.ok scInB (fun vs H Q E h => ?_) (fun cdv A outer s H vs Q E hr h => ?_)
  · obtain ⟨v, d, lo, hi, rfl, _⟩ := h
    rfl
  · obtain ⟨v, d, lo, hi, rfl, hd, k⟩ := h
    refine ⟨_, pss_one (ps_ret (pe_and (pe_callB call_isi (by rfl) hIs (by decide +kernel) (pa_cons (pv 0) (pa_cons (pe_bltn (v := .ty "int") (by rfl) hI (by decide +kernel) rfl) pa_nil)))
        (pe_and (pe_not (pe_callB call_isi (by rfl) hIs (by decide +kernel) (pa_cons (pv 0) (pa_cons (pe_bltn (v := .ty "bool") (by rfl) hB (by decide +kernel) rfl) pa_nil))))
        (pe_one (pe_chain op_le op_le (pv 1) (pv 0) (pv 2)))))), ?_⟩
    obtain ⟨ty, hty, k1, k2, _⟩ := sh_kit hd
    refine ⟨_, rfl, v, .ty "int", ty, .type "int", isI d, rfl, .ty _, hty, k1, _, rfl, ite2 (fun c1 => ?_) (fun c1 => ?_)⟩
    · refine ⟨_, rfl, v, .ty "bool", ty, .type "bool", isB d, rfl, .ty _, hty, k2, _, rfl, _, rfl, ite2 (fun c2 => ?_) (fun c2 => ?_)⟩
      · match d, hd, c1, c2, k with
        | .int i, hd, _, _, k =>
          obtain rfl := sh_int hd
          refine ⟨_, rfl, _, rfl, _, _, rfl, rfl, _, rfl, ite2 (fun c3 => ⟨_, rfl, _, _, rfl, rfl, ?_⟩) (fun c3 => ?_)⟩
          · have e : inb (.int i) lo hi = decide (i ≤ hi) := by
              show (decide (lo ≤ i) && decide (i ≤ hi)) = _
              rw [c3, Bool.true_and]
            rw [e] at k
            exact k
          · have e : inb (.int i) lo hi = false := by
              show (decide (lo ≤ i) && decide (i ≤ hi)) = _
              rw [Bool.eq_false_iff.mpr c3, Bool.false_and]
            rw [e] at k
            exact k
      · have e : inb d lo hi = false := by
          match d, c2 with
          | .bool b, _ => rfl
          | .int i, c2 => exact absurd rfl c2
          | .none, _ => rfl
          | .str _, _ => rfl
          | .list _, _ => rfl
          | .tuple _, _ => rfl
          | .dict _, _ => rfl
        rw [e] at k
        exact k
    · have e : inb d lo hi = false := by
        match d, c1 with
        | .int i, c1 => exact absurd rfl c1
        | .bool b, _ => rfl
        | .none, _ => rfl
        | .str _, _ => rfl
        | .list _, _ => rfl
        | .tuple _, _ => rfl
        | .dict _, _ => rfl
      rw [e] at k
      exact k
end
end My
namespace My
open PySem PySem.Spec PyProof.Rows L2 PySem.GX L2H LamX
theorem ix_tupK {X : Cx} {K : PySem.W.Frag} (h : X.K = K) : IxR X (rIxT K) := by subst h; exact ix_tup
theorem call_isiK {X : Cx} {K : PySem.W.Frag} (h : X.K = K) : CallR X (.builtin "isinstance") (rIsi K) := by subst h; exact call_isi
def rJoinK (K : PySem.W.Frag) : V → List V → Hp → VK → Prop := fun x xs H Q => ∃ a p, ∃ ys : List Str, x = .str a ∧ xs = [.ref p] ∧ (SqL K H p (ys.map V.str) ∨ SqT K H p (ys.map V.str)) ∧ (ys.map (·.length)).sum + ys.length * a.length ≤ 16777216 ∧ Q (.str (Txt.join a ys)) H
theorem pe_joinK {X : Cx} {K : PySem.W.Frag} {o e : Expr} {to te : TE} {apos pos : Pos} (h : X.K = K) (ho : PE X o to) (he : PE X e te) (hs : starEach [e] X.env = [(false, eval e X.env)] := by rfl) (hbase : attributeBase o "join" X.env (eval o X.env) = eval o X.env := by rfl) (hline : (apos.endLine == pos.line) = true := by rfl) :
    PE X (.Call (.Attribute o "join" apos) [e] [] pos) (tM1 (rJoinK K) to te) := by
  subst h
  exact pe_join ho he hs hbase hline
theorem pi_listK {X : Cx} {K : PySem.W.Frag} {tg l : Expr} {tl : TE} (h : X.K = K) (hl : PE X l tl) : PI X tg l (iList K tl) := by
  subst h
  exact pi_list hl
theorem op_in_seqK {X : Cx} {K : PySem.W.Frag} (h : X.K = K) : OpR X (compareOp .In) (rIn K false) := by subst h; exact op_in_seq
end My
namespace My
open PySem PySem.Spec PyProof.Rows L2 PySem.GX L2H LamX
abbrev sTurnR : Stmt := inClass sRule 11
abbrev sIsMood : Stmt := inClass sRule 12
/-- all but l stays -/
def KpM (l : Addr) (H H' : Hp) : Prop := ∀ b o, b ≠ l → H b = some o → H' b = some o
theorem KpM.refl {l : Addr} (H : Hp) : KpM l H H := fun _ _ _ e => e
theorem KpM.trans {l : Addr} {H H1 H2 : Hp} (h : KpM l H H1) (k : KpM l H1 H2) : KpM l H H2 := fun b o n e => k b o n (h b o n e)
theorem KpM.same {l : Addr} {H H1 H2 : Hp} (h : KpM l H H1) (k : Same H1 H2) : KpM l H H2 := fun b o n e => k b o (h b o n e)
theorem KpM.upd {l : Addr} {H H1 : Hp} {o : HO} (h : KpM l H H1) : KpM l H (upd H1 l o) := fun b o' n e => by rw [upd_ne n]; exact h b o' n e
/-- a text of a rule from its parts -/
def wrL (p : Parts) (gs : List Str) : Str := textL p.sg p.ms gs (goalsD p.rs)
def turnP (p : Parts) (m : Str) : Parts := ⟨p.sg, p.ms, p.ms.filter fun x => decide (decide (x ∈ p.gs) ≠ decide (x = m)), rsL p.sg p.ms (goalsD p.rs)⟩
theorem walkT {α : Type} {K : PySem.W.Frag} {a : Addr} (xs : List α) (f : α → V) : Walk (Itt K a) xs.length (fun H => SqT K H a (xs.map f)) (YAt (xs.map f)) := by
  have := walk_tup (K := K) (a := a) (xs := xs.map f)
  rw [List.length_map] at this
  exact this
theorem ok_sub {ms gs : List Str} (h : areGoodL gs ms = true) : gs.Sublist ms := by
  unfold areGoodL at h
  rw [of_decide_eq_true h]
  exact List.filter_sublist
theorem fine_of {p : Parts} {gs : List Str} (ok : PartsOk p) (hs : gs.Sublist p.ms) : Fine p.sg p.ms gs (goalsD p.rs) :=
  ⟨ok.sgs, ok.mds, hs, fun t ht c hc => ⟨_, (ok.goal ht hc).1, (ok.goal ht hc).2⟩⟩
theorem turn_parse {p : Parts} (ok : PartsOk p) (m : Str) : parseL (wrL p (turnP p m).gs) = some (turnP p m) := fine_parse (fine_of ok List.filter_sublist)
theorem turn_ok {p : Parts} (ok : PartsOk p) (m : Str) : PartsOk (turnP p m) := parts_ok (turn_parse ok m)
theorem wr_short {p : Parts} {gs : List Str} (ok : PartsOk p) (hs : gs.Sublist p.ms) (hn : p.ms.length ≤ 20) : Short p.sg p.ms gs (goalsD p.rs) := (fine_of ok hs).short hn
def spWrite : Sp := fun vs H Q _ => ∃ (M G D : Addr) (x : Str) (ws fs : List Str) (kvs : List (List Key × V)), vs = [.str x, .ref M, .ref G, .ref D] ∧ H M = some (.tup (ws.map V.str)) ∧ (H G = some (.tup (fs.map V.str)) ∨ H G = some (.lst (fs.map V.str))) ∧ H D = some (.dT kvs) ∧ Short x ws fs kvs ∧ ∀ H', Same H H' → Q (.str (textL x ws fs kvs)) H'
def spIsMood (C : Addr) : Sp := fun vs H Q _ => ∃ (a : Addr) (m t : Str) (p : Parts), vs = [.ref a, .str m] ∧ RuleAt H C a t p ∧ Q (.bl (decide (m ∈ p.ms))) H
def spTurn (C : Addr) : Sp := fun vs H Q _ => ∃ (a : Addr) (m t : Str) (p : Parts), vs = [.ref a, .str m] ∧ RuleAt H C a t p ∧ PartsOk p ∧ p.ms.length ≤ 20 ∧ m ∈ p.ms ∧ ∀ (b : Addr) (t' : Str) (H' : Hp), Same H H' → RuleAt H' C b t' (turnP p m) → Q (.ref b) H'
section
variable {P : Program} {w : World} {K : PySem.W.Frag} {mg : Str → Option Value} {base : Heap}
abbrev nWrite : List Str := ["signs", "moods", "good", "goals", "lines", "mood", "sign"]
theorem scWrite : FnScope nWrite ["signs", "moods", "good", "goals"] (defScope sWriteR) := ⟨rfl, rfl, rfl, by decide +kernel, rfl, by decide +kernel, by decide +kernel⟩
theorem ok_write {f : Addr} {fd : FuncData} (F : Fun K "write_rule" "write_rule" sWriteR f fd) : FnOk P w K mg base CX0 1 f fd ["signs", "moods", "good", "goals"] spWrite := by
  refine F.ok scWrite (fun vs H Q E h => ?_) (fun cdv A outer s H vs Q E hr h => ?_)
  · obtain ⟨M, G, D, x, ws, fs, kvs, rfl, _⟩ := h
    rfl
  · obtain ⟨M, G, D, x, ws, fs, kvs, rfl, eM, eG, eD, sh, k⟩ := h
    refine ⟨_, pss_cons (ps_set (i := 4) scWrite.nd rfl (Or.inl rfl) (pe_lst (pa_cons (pe_joined (.cons pe_str (.cons (pe_fmt (pv 0)) .nil))) (pa_cons (pe_join pe_str (pe_lst (pa_cons pe_str (StX.pa_star (pv 1) pa_nil)))) (pa_cons (pe_join pe_str (pe_lst (pa_cons pe_str (StX.pa_star (pv 2) pa_nil)))) pa_nil)))))
      (pss_cons (ps_for PassesOwn.never rfl (pi_tup (pv 1)) (pg_name (i := 5) scWrite.nd rfl (Or.inl rfl)) (pss_one (ps_for PassesOwn.never rfl (pi_str (pv 0)) (pg_name (i := 6) scWrite.nd rfl (Or.inl rfl))
        (pss_one (ps_expr (pe_bm PySem.F.plainAttrs_list PySem.F.slot_list_append PySem.F.type_list_append mt_append (pv 4) (pa_cons (pe_joined (.cons (pe_fmt (pv 5)) (.cons pe_str (.cons (pe_fmt (pv 6)) (.cons pe_str (.cons (pe_fmt (pe_dget (hu_of hr) (pv 3) (pe_tup (pa_cons (pv 5) (pa_cons (pv 6) pa_nil))) (fun _ _ => rfl))) .nil)))))) pa_nil)))))))
      (pss_one (ps_ret (pe_join pe_str (pv 4))))), ?_⟩
    have esp : (Str.ofString " ") = sp := by decide +kernel
    have enl : (Str.ofString "\n") = nl := by decide +kernel
    have hs := lines_short sh
    have z := sh.hx
    have z1 := sh.nw
    have z2 := sh.nf
    have e0 : ∀ y : Str, Str.empty ++ y = y := fun y => str_ext (by rw [cps_app]; rfl)
    refine ⟨_, rfl, by rw [e0, sizeLine_eq]; decide +kernel, _, rfl, .inl ⟨x, rfl, by rw [sizeLine_eq]; omega, ?_⟩⟩
    refine ⟨_, rfl, by
      have : ("signs " : Str).length = 6 := by decide +kernel
      have e6 : (Str.ofString "signs ").length = 6 := this
      rw [e0, len_app, e6, sizeLine_eq]; omega, ?_⟩
    rw [e0]
    -- the second and the third line
    refine ⟨⟨_, rfl⟩, _, rfl, M, ws.map V.str, rfl, .inl (SqT.of eM), ?_⟩
    refine ⟨by rw [List.append_nil, List.length_cons, List.length_map, sizeLine_eq]; omega, fun a1 h1 => ?_⟩
    rw [List.append_nil]
    have s1 := same_new (o := .lst (V.str ("moods" : Str) :: ws.map V.str)) h1
    refine ⟨_, a1, ("moods" : Str) :: ws, rfl, rfl, .inl (SqL.of upd_same), ?_, ?_⟩
    · have b := sum_le sh.lw
      have c : ("moods" : Str).length = 5 := by decide +kernel
      have d : (Str.ofString " ").length = 1 := by decide +kernel
      rw [List.map_cons, List.sum_cons, List.length_cons, c, d]
      omega
    have eG1 : upd H a1 (.lst (V.str ("moods" : Str) :: ws.map V.str)) G = some (.tup (fs.map V.str)) ∨ upd H a1 (.lst (V.str ("moods" : Str) :: ws.map V.str)) G = some (.lst (fs.map V.str)) := eG.imp (s1 _ _) (s1 _ _)
    have s1' : Same H (upd H a1 (.lst (V.str (Str.ofString "moods") :: ws.map V.str))) := s1
    refine ⟨⟨_, rfl⟩, _, rfl, G, fs.map V.str, rfl, eG1.imp SqT.of SqL.of, ?_⟩
    refine ⟨by rw [List.append_nil, List.length_cons, List.length_map, sizeLine_eq]; omega, fun a2 h2 => ?_⟩
    rw [List.append_nil]
    have s2 := s1'.trans (same_new (o := .lst (V.str ("good" : Str) :: fs.map V.str)) h2)
    refine ⟨_, a2, ("good" : Str) :: fs, rfl, rfl, .inl (SqL.of upd_same), ?_, ?_⟩
    · have b := sum_le sh.lf
      have c : ("good" : Str).length = 4 := by decide +kernel
      have d : (Str.ofString " ").length = 1 := by decide +kernel
      rw [List.map_cons, List.sum_cons, List.length_cons, c, d]
      omega
    have s2' : Same H (upd (upd H a1 (.lst (V.str (Str.ofString "moods") :: ws.map V.str))) a2 (.lst (V.str (Str.ofString "good") :: fs.map V.str))) := s2
    generalize upd (upd H a1 (.lst (V.str (Str.ofString "moods") :: ws.map V.str))) a2 (.lst (V.str (Str.ofString "good") :: fs.map V.str)) = H4 at s2' ⊢
    refine ⟨(by show 3 ≤ sizeLine; rw [sizeLine_eq]; decide), fun l h0 => ?_⟩
    rw [esp]
    show gName 4 (V.ref l) _ (upd H4 l (.lst ((headL x ws fs).map V.str))) _
    have s5 : Same H (upd H4 l (.lst ((headL x ws fs).map V.str))) := s2'.trans (same_new h0)
    have e5 : upd H4 l (.lst ((headL x ws fs).map V.str)) l = some (.lst ((headL x ws fs).map V.str)) := upd_same
    have nl0 : ∀ b o, H b = some o → b ≠ l := fun b o e z => by rw [z] at e; exact absurd ((s2' _ _ e).symm.trans h0) (by simp)
    generalize upd H4 l (.lst ((headL x ws fs).map V.str)) = H5 at s5 e5 ⊢
    have eM5 := s5 _ _ eM
    have eD5 := s5 _ _ eD
    refine ⟨_, rfl, M, rfl, ⟨_, SqT.of eM5⟩, ?_⟩
    refine for_it (walkT ws V.str) (fun i σ H' => ∃ v5 v6 : Option V, σ = [some (.str x), some (.ref M), some (.ref G), some (.ref D), some (.ref l), v5, v6] ∧ KpM l H5 H' ∧ H' l = some (.lst ((headL x ws fs ++ bodyL x (ws.take i) kvs).map V.str)))
      ⟨none, none, rfl, KpM.refl _, by rw [List.take_zero]; exact e5⟩ (fun i σ H' _ h => ?_) (fun i y σ H' H'' hi h hy => ?_) (fun σ H' h => ?_)
    · obtain ⟨v5, v6, rfl, st, _⟩ := h
      exact SqT.of (st _ _ (nl0 _ _ eM) eM5)
    · obtain ⟨rfl, hy⟩ := hy
      have hm : ws[i]? = some ws[i] := List.getElem?_eq_getElem hi
      obtain rfl := map_get hm hy
      obtain ⟨v5, v6, rfl, st, el⟩ := h
      have hmw : ws[i] ∈ ws := List.getElem_mem hi
      rw [body_take hm]
      have zb : (headL x ws fs ++ bodyL x (ws.take i) kvs).length ≤ 63 := by
        rw [List.length_append, body_len, List.length_take]
        have : min i ws.length * x.length ≤ 20 * 3 := Nat.mul_le_mul (by omega) z
        show 3 + _ ≤ 63
        omega
      rw [← List.append_assoc]
      generalize headL x ws fs ++ bodyL x (ws.take i) kvs = L0 at el zb ⊢
      generalize ws[i] = t at hmw
      refine ⟨_, rfl, x, rfl, ?_⟩
      refine for_it walk_str (fun j σ H' => ∃ v6 : Option V, σ = [some (.str x), some (.ref M), some (.ref G), some (.ref D), some (.ref l), some (.str t), v6] ∧ KpM l H5 H' ∧ H' l = some (.lst ((L0 ++ (x.cps.toList.take j).map fun c => lineL kvs t c).map V.str)))
        ⟨v6, rfl, st, by rw [List.take_zero, List.map_nil, List.append_nil]; exact el⟩ (fun _ _ _ _ _ => trivial) (fun j y σ H2 H3 hj h hy => ?_) (fun σ H2 h => ?_)
      · obtain ⟨rfl, c, hc, rfl⟩ := hy
        obtain ⟨v6, rfl, sj, ej⟩ := h
        have hc' : x.cps.toList[j]? = some c := by rw [Array.getElem?_toList]; exact hc
        have hcx : c ∈ x.cps.toList := List.mem_of_getElem? hc'
        obtain ⟨gy, lg, egy⟩ := sh.gl t hmw c hcx
        have lt := sh.lw t hmw
        have d2 : (sg c).length = 1 := rfl
        have dsp : (sp : Str).length = 1 := rfl
        refine ⟨_, rfl, .inl ⟨rfl, _, SqL.of ej⟩, ?_⟩
        refine ⟨_, rfl, .inl ⟨t, rfl, by rw [sizeLine_eq]; omega, _, rfl, by rw [e0, sizeLine_eq]; omega, ?_⟩⟩
        rw [e0]
        refine ⟨_, rfl, by rw [len_app, sizeLine_eq]; omega, ?_⟩
        refine ⟨_, rfl, .inl ⟨sg c, rfl, by rw [sizeLine_eq]; omega, _, rfl, by rw [len_app, len_app, sizeLine_eq]; omega, ?_⟩⟩
        refine ⟨_, rfl, by rw [len_app, len_app, len_app, sizeLine_eq]; omega, ?_⟩
        refine ⟨_, rfl, _, rfl, _, rfl, (by show 2 ≤ sizeLine; rw [sizeLine_eq]; decide), fun t' ht' => ⟨D, V.str gy, rfl, ?_, ?_⟩⟩
        · have := DGet.t (k := kT t c) (keep1 (sj _ _ (nl0 _ _ eD) eD5) ht') (upd_same (o := .tup ((kT t c).map kV)))
          rw [egy] at this
          exact this
        · refine .inl ⟨gy, rfl, by rw [sizeLine_eq]; omega, _, rfl, by rw [len_app, len_app, len_app, len_app, sizeLine_eq]; omega, ?_⟩
          have nt : t' ≠ l := fun z => by rw [z] at ht'; exact absurd (ej.symm.trans ht') (by simp)
          refine ⟨l, _, _, rfl, rfl, by rw [upd_ne nt.symm]; exact ej, ?_, ?_⟩
          · have zz : (x.cps.toList.take j).length ≤ 3 := Nat.le_trans (List.length_take_le' j _) (by rw [Array.length_toList]; exact z)
            rw [List.length_map, List.length_append, List.length_map, sizeLine_eq]
            omega
          · refine ⟨some (.str (sg c)), rfl, (sj.same (same_new ht')).upd, ?_⟩
            rw [upd_same, List.take_add_one, hc', List.map_append (f := fun c => lineL kvs t c), ← List.append_assoc, List.map_append (l₁ := L0 ++ _)]
            unfold lineL
            rw [← gf_is egy]
            rfl
      · obtain ⟨v6, rfl, sj, ej⟩ := h
        refine ⟨_, _, rfl, sj, ?_⟩
        have : x.cps.toList.take x.cps.size = x.cps.toList := by rw [← Array.length_toList, List.take_length]
        rw [this] at ej
        exact ej
    · obtain ⟨v5, v6, rfl, st, el⟩ := h
      rw [List.take_length] at el
      refine ⟨⟨_, rfl⟩, _, rfl, _, l, linesL x ws fs kvs, rfl, rfl, .inl (SqL.of el), ?_, ?_⟩
      · have b := sum_le hs.2
        have c := hs.1
        have d : (Str.ofString "\n").length = 1 := by decide +kernel
        have e : (linesL x ws fs kvs).length * 200 ≤ 63 * 200 := Nat.mul_le_mul_right _ c
        rw [d]
        omega
      · rw [enl]
        exact k _ fun b o e => st b o (nl0 _ _ e) (s5 _ _ e)
theorem scIsMood : FnScope ["self", "mood"] ["self", "mood"] (defScope sIsMood) := ⟨rfl, rfl, rfl, by decide +kernel, rfl, by decide +kernel, by decide +kernel⟩
theorem ok_isMood {f C : Addr} {fd : FuncData} (F : Fun K "is_mood" "Rule.is_mood" sIsMood f fd) (T : RuC K C) (hIs : mg "isinstance" = none) (hSt : mg "str" = none) : FnOk P w K mg base CX0 1 f fd ["self", "mood"] (spIsMood C) := by
  refine F.ok scIsMood (fun vs H Q E h => ?_) (fun cdv A outer s H vs Q E hr h => ?_)
  · obtain ⟨a, m, t, p, rfl, _⟩ := h
    rfl
  · obtain ⟨a, m, t, p, rfl, ⟨dx, M, G, D, e1, e2, e3, e4⟩, k⟩ := h
    refine ⟨_, pss_one (ps_ret (pe_and (pe_callB call_isi (by rfl) hIs (by decide +kernel) (pa_cons (pv 1) (pa_cons (pe_bltn (v := .ty "str") (by rfl) hSt (by decide +kernel) rfl) pa_nil))) (pe_one (pe_cmpR op_in_seq (pv 1) (pe_fld (pv 0) rfl) (by rfl))))), ?_⟩
    refine ⟨_, rfl, .str m, .ty "str", _, .type "str", true, rfl, .ty _, .base (.str m), kit_ty (by decide +kernel), _, rfl, iteT ?_⟩
    refine ⟨_, rfl, _, rfl, a, C, dx, _, .ref M, rfl, e1, T.cl, T.f3, rfl, M, _, rfl, .inr (SqT.of e2), rfl, flat_strs _, ?_⟩
    show Q (.bl (inV (.str m) (p.ms.map V.str))) H
    rw [in_strs]
    exact k
abbrev nTurn : List Str := ["self", "mood", "good", "word"]
theorem scTurn : FnScope nTurn ["self", "mood"] (defScope sTurnR) := ⟨rfl, rfl, rfl, by decide +kernel, rfl, by decide +kernel, by decide +kernel⟩
theorem ok_turn {f C fI : Addr} {fd fdI : FuncData} (F : Fun K "turn" "Rule.turn" sTurnR f fd) (T : RuC K C) (hM : HvM P w K mg base 1 C "is_mood" ["self", "mood"] (spIsMood C)) (hW : Hv P w K mg base 1 "write_rule" ["signs", "moods", "good", "goals"] spWrite) (MI : Mk K C fI) (GI : FnOk P w K mg base CX0 5 fI fdI ["self", "text"] (spInit C)) (bI : Binds K fdI ["self", "text"] []) (gI : mg "Rule" = some (.ref C)) :
    FnOk P w K mg base CX0 7 f fd ["self", "mood"] (spTurn C) := by
  refine F.ok scTurn (fun vs H Q E h => ?_) (fun cdv A outer s H vs Q E hr h => ?_)
  · obtain ⟨a, m, t, p, rfl, _⟩ := h
    rfl
  · obtain ⟨a, m, t, p, rfl, hA, ok, hn, hm, k⟩ := h
    refine ⟨_, pss_cons (ps_if (pt_not (pt_val (pe_mt hM (pv 0) T.cl (hr.mono (by decide)) pass0 (pa_cons (pv 1) pa_nil)))) (pss_one ps_never) pss_nil)
      (pss_cons (ps_setLc (i := 2) (own := [("word", 3)]) (g := gName 3) (by rfl) scTurn.nd rfl rfl (sw_true rfl rfl rfl (by decide +kernel)) (pi_tup (pe_fld (pv 0) rfl)) (blkOk_by (N := nTurn) (sc := defScope sTurnR) (by decide +kernel)) (fun _ _ _ _ _ => pg_name (i := 3) scTurn.nd rfl (Or.inl rfl))
        (fun _ _ _ _ _ => pts_one (pt_cmpR op_ne (pe_cmpR (op_in_seqK (K := K) rfl) (pv 3) (pe_fldK (K := K) rfl (pv 0) rfl) (by rfl)) (pe_cmpR op_eq (pv 3) (pv 1) (nomark _)) (nomark _))) (fun _ _ _ _ _ => pv 3))
      (pss_one (ps_ret (pe_make MI GI hr rfl gI bI .nil pass0 (pa_cons (pe_cl hW (hr.mono (by decide)) rfl pass0 (pa_cons (pe_fld (pv 0) rfl) (pa_cons (pe_fld (pv 0) rfl) (pa_cons (pv 2) (pa_cons (pe_fld (pv 0) rfl) pa_nil))))) pa_nil))))), ?_⟩
    obtain ⟨dx, M, G, D, e1, e2, e3, e4⟩ := id hA
    refine ⟨_, rfl, a, dx, _, rfl, e1, rfl, _, rfl, a, m, t, p, rfl, hA, _, rfl, ?_⟩
    have hm' : decide (m ∈ p.ms) = true := decide_eq_true hm
    rw [hm']
    refine iteF ?_
    refine ⟨_, rfl, a, C, dx, _, .ref M, rfl, e1, T.cl, T.f3, rfl, M, rfl, ⟨_, SqT.of e2⟩, fun L hL => ?_⟩
    refine lcG p.ms (fun x => if decide (decide (x ∈ p.gs) ≠ decide (x = m)) = true then some (V.str x) else none) (walkT _ _) (by omega) hL (yat_same _) (fun H' s => SqT.of (s _ _ e2)) (fun i x y H' H'' k1 hx sj hy k2 => ?_) (fun H1 s1 eL => ?_)
    · obtain ⟨rfl, hy⟩ := hy
      obtain rfl := map_get hx hy
      have kk := k2 _ (Same.refl _)
      refine ⟨rfl, _, rfl, _, rfl, a, C, dx, _, .ref G, rfl, sj _ _ e1, T.cl, T.f4, rfl, G, _, rfl, .inr (SqT.of (sj _ _ e3)), rfl, flat_strs _, ?_⟩
      refine ⟨_, rfl, _, rfl, rfl, rfl, _, rfl, ?_⟩
      have e : (!decide (V.bl (inV (.str x) (p.gs.map V.str)) = V.bl (decide (V.str x = V.str m)))) = decide (decide (x ∈ p.gs) ≠ decide (x = m)) := by
        have e1 : decide (V.str x = V.str m) = decide (x = m) := by
          rw [Bool.eq_iff_iff, decide_eq_true_eq, decide_eq_true_eq]
          exact ⟨fun h => by injection h, fun h => by rw [h]⟩
        have e2 : ∀ c d : Bool, (!decide (V.bl c = V.bl d)) = decide (c ≠ d) := by decide
        rw [e1, in_strs, e2]
      show if (!decide (V.bl (inV (.str x) (p.gs.map V.str)) = V.bl (decide (V.str x = V.str m)))) = true then _ else _
      rw [e]
      refine ite2 (fun c => ?_) (fun c => ?_)
      · rw [if_pos c] at kk
        exact ⟨_, rfl, kk⟩
      · rw [if_neg c] at kk
        exact kk
    · have sh := wr_short (gs := (turnP p m).gs) ok List.filter_sublist hn
      rw [fm_filter] at eL
      refine ⟨_, rfl, a, C, dx, _, .str p.sg, rfl, s1 _ _ e1, T.cl, T.f2, rfl, _, rfl, a, C, dx, _, .ref M, rfl, s1 _ _ e1, T.cl, T.f3, rfl, _, rfl, _, rfl, a, C, dx, _, .ref D, rfl, s1 _ _ e1, T.cl, T.f5, rfl, ?_⟩
      refine ⟨M, L, D, p.sg, p.ms, (turnP p m).gs, goalsD p.rs, rfl, s1 _ _ e2, .inr eL, s1 _ _ e4, sh, fun H2 s2 y dy ny ndy ne => ?_⟩
      have sm : Same H2 (upd (upd H2 dy (.own y)) y (.ins C dy [])) := (same_new ndy).trans (same_new (by rw [upd_ne ne.symm]; exact ny))
      exact ⟨y, dy, _, turnP p m, rfl, upd_same, text_small sh, text_ok (fine_of ok List.filter_sublist), turn_parse ok m, fun H6 keep rA => ⟨rfl, k y _ H6 (fun b o e => keep b o (ne_of_none ((s1.trans s2) _ _ e) ny) (sm b o ((s1.trans s2) _ _ e))) rA⟩⟩
end
end My
namespace L2
open PySem PySem.Spec PyProof.Rows PySem.GX
section
variable {α β : Type} {J : It} {G : Hp → Prop} {Y : Nat → Hp → V → Hp → Prop} {g g1 : TG} {tt tt1 : TT} {wi1 : TI} {te : TE} {vs vs1 : List Nat} {σ : St} {H1 : Hp} {D : Addr} {Qd : Hp → Prop}
theorem fm_len (xs : List α) (ys : List β) (f : α → β → V) : (xs.flatMap fun a => ys.map (f a)).length = xs.length * ys.length := by
  induction xs with
  | nil => simp
  | cons a t ih => rw [List.flatMap_cons, List.length_append, ih, List.length_map, List.length_cons, Nat.succ_mul, Nat.add_comm]
def NxL (H' : Hp) (D : Addr) (l : List V) : Hp → Prop := fun H6 => (∀ b o, b ≠ D → H' b = some o → H6 b = some o) ∧ H6 D = some (.lst l)
/-- [e for x in .. for y in ..], the second walk always over the same -/
theorem lc2G (xs : List α) (ys : List β) (f : α → β → V) (w : Walk J xs.length G Y) (hz : xs.length * ys.length ≤ 16000000) (hD : H1 D = none) (hY : ∀ i H x H', Y i H x H' → Same H H') (hG : ∀ H', Same H1 H' → G H')
    (turn : ∀ (i : Nat) (a : α) (x : V) (H' H'' : Hp) (Nx : Hp → Prop) (go : It → Hp → St → Prop), xs[i]? = some a → Same H1 H' → Y i H' x H'' →
      (∀ (J1 : It) (H4 : Hp) (σ2 : St) (G1 : Hp → Prop) (Y1 : Nat → Hp → V → Hp → Prop), Same H'' H4 → Walk J1 ys.length G1 Y1 → (∀ i H x H', Y1 i H x H' → Same H H') → (∀ H', Same H1 H' → G1 H') →
        (∀ (j : Nat) (b : β) (y : V) (H5 H6 : Hp) (k : Option V → Hp → Prop), ys[j]? = some b → Same H1 H5 → Y1 j H5 y H6 → (∀ H9, Same H6 H9 → k (some (f a b)) H9) →
          g1 y (wipe σ2 vs1) H6 fun σ3 H7 => wipe σ3 vs1 = wipe σ2 vs1 ∧ tt1 σ3 H7 fun c H8 => if c = true then te σ3 H8 fun v H9 => k (some v) H9 else k none H8) → go J1 H4 σ2) →
      g x (wipe σ vs) H'' fun σ2 H2 => wipe σ2 vs = wipe σ vs ∧ tt σ2 H2 fun b H3 => if b = true then wi1 σ2 H3 fun J1 H4 => go J1 H4 σ2 else Nx H3)
    (hd : ∀ H', Same H1 H' → H' D = some (.lst (xs.flatMap fun a => ys.map (f a))) → Qd H') :
    ∃ W : Nat → Nat → Hp → Prop, (∃ m, W 0 m (upd H1 D (.lst []))) ∧ ∀ i m H, W i m H →
      (J.stop i H ∧ Qd H) ∨ (J.go i H ∧ ∃ Nx : Hp → Prop, (∀ H', Nx H' → ∃ m', m' < m ∧ W (i + 1) m' H') ∧ ∀ x H', J.yld i H x H' → g x (wipe σ vs) H' fun σ2 H2 => wipe σ2 vs = wipe σ vs ∧ tt σ2 H2 fun b H3 =>
        if b = true then wi1 σ2 H3 fun J1 H4 => ∃ W1 : Nat → Nat → Hp → Prop, (∃ m, W1 0 m H4) ∧ ∀ j k H, W1 j k H →
          (J1.stop j H ∧ Nx H) ∨ (J1.go j H ∧ ∃ Nx1 : Hp → Prop, (∀ H', Nx1 H' → ∃ k', k' < k ∧ W1 (j + 1) k' H') ∧ ∀ x H', J1.yld j H x H' → g1 x (wipe σ2 vs1) H' fun σ3 H5 => wipe σ3 vs1 = wipe σ2 vs1 ∧ tt1 σ3 H5 fun b H6 =>
            if b = true then te σ3 H6 fun y H7 => ∃ acc, H7 D = some (.lst acc) ∧ acc.length < sizeLine ∧ Nx1 (upd H7 D (.lst (acc ++ [y]))) else Nx1 H6)
        else Nx H3) := by
  refine ⟨fun i m H => i ≤ xs.length ∧ m = xs.length - i ∧ Same H1 H ∧ H D = some (.lst ((xs.take i).flatMap fun a => ys.map (f a))), ⟨_, Nat.zero_le _, rfl, same_new hD, by rw [upd_same]; rfl⟩, fun i m H ⟨hi, hm, sH, eD⟩ => ?_⟩
  by_cases h : i < xs.length
  rotate_left
  · have e : i = xs.length := by omega
    subst e
    rw [List.take_length] at eD
    exact .inl ⟨w.stops H (hG H sH), hd H sH eD⟩
  have ei : xs[i]? = some xs[i] := List.getElem?_eq_getElem h
  generalize xs[i] = a at ei
  refine .inr ⟨w.goes i H h (hG H sH), fun H' => Same H1 H' ∧ H' D = some (.lst ((xs.take (i + 1)).flatMap fun a => ys.map (f a))), fun H' ⟨s, e⟩ => ⟨_, (by omega : xs.length - (i + 1) < m), by omega, rfl, s, e⟩, fun x H' hy => ?_⟩
  have hy := w.yields i H x H' h (hG H sH) hy
  have sy := hY _ _ _ _ hy
  refine turn i a x H H' _ (fun J1 H4 σ2 => ∃ W1 : Nat → Nat → Hp → Prop, _) ei sH hy fun J1 H4 σ2 G1 Y1 s4 w1 hY1 hG1 t1 => ?_
  refine ⟨fun j k H => j ≤ ys.length ∧ k = ys.length - j ∧ (∀ b o, b ≠ D → H' b = some o → H b = some o) ∧ H D = some (.lst (((xs.take i).flatMap fun a => ys.map (f a)) ++ (ys.take j).map (f a))), ⟨_, Nat.zero_le _, rfl, fun b o _ e => s4 b o e, ?_⟩, fun j k H5 ⟨hj, hk, s5, e5⟩ => ?_⟩
  · rw [List.take_zero, List.map_nil, List.append_nil]
    exact s4 _ _ (sy _ _ eD)
  have s1 : Same H1 H5 := fun b o e => s5 b o (ne_of_none e hD) (sy _ _ (sH _ _ e))
  by_cases h' : j < ys.length
  rotate_left
  · have e : j = ys.length := by omega
    subst e
    refine .inl ⟨w1.stops H5 (hG1 H5 s1), s1, ?_⟩
    rw [e5, List.take_length, List.take_add_one, ei, List.flatMap_append]
    simp
  have ej : ys[j]? = some ys[j] := List.getElem?_eq_getElem h'
  generalize ys[j] = b at ej
  refine .inr ⟨w1.goes j H5 h' (hG1 H5 s1), NxL H' D (((xs.take i).flatMap fun a => ys.map (f a)) ++ (ys.take (j + 1)).map (f a)), fun H6 ⟨s, e⟩ => ⟨_, (by omega : ys.length - (j + 1) < k), by omega, rfl, s, e⟩, fun y H6 hy1 => ?_⟩
  have hy1 := w1.yields j H5 y H6 h' (hG1 H5 s1) hy1
  have s6 := hY1 _ _ _ _ hy1
  refine t1 j b y H5 H6 (fun o H9 => match o with
    | some v => ∃ acc, H9 D = some (.lst acc) ∧ acc.length < sizeLine ∧ NxL H' D (((xs.take i).flatMap fun a => ys.map (f a)) ++ (ys.take (j + 1)).map (f a)) (upd H9 D (.lst (acc ++ [v])))
    | none => NxL H' D (((xs.take i).flatMap fun a => ys.map (f a)) ++ (ys.take (j + 1)).map (f a)) H9) ej s1 hy1 fun H9 s9 => ?_
  have e9 := s9 _ _ (s6 _ _ e5)
  refine ⟨_, e9, ?_, fun c o n e => ?_, ?_⟩
  · rw [List.length_append, fm_len, List.length_map, List.length_take, List.length_take, sizeLine_eq]
    have h1 : min i xs.length = i := by omega
    have h2 : min j ys.length = j := by omega
    rw [h1, h2]
    have h3 : (i + 1) * ys.length ≤ xs.length * ys.length := Nat.mul_le_mul_right _ h
    rw [Nat.succ_mul] at h3
    omega
  · rw [upd_ne n]
    exact s9 _ _ (s6 _ _ (s5 c o n e))
  · rw [upd_same, List.take_add_one, ej, List.map_append, ← List.append_assoc]
    rfl
end
end L2
namespace L2
open PySem PySem.Spec PyProof.Rows PySem.GX
section
variable {X : Cx}
/-- name = {k: v for ..} on one line, the name a local -/
theorem ps_setDc {i : Nat} {y : Str} {py : Pos} {kx vx tg iter : Expr} {ifs : List Expr} {scope : Scope} {own : List (Str × Nat)} {pos spos : Pos} {wi : TI} {g : TG} {tt : TT} {tk tv : TE} (hc : X.calm = true) (hN : X.N.Nodup) (hy : X.N[i]? = some y) (hyl : X.env.scope.names.lookup y = some .local)
    (hsw : swapsWith (.DictComp kx vx [⟨tg, iter, ifs, 0⟩] scope pos) (some (.Name y py)) spos.line X.env = pure true) (hi : PI X tg iter wi) (ok : BlkOk X.N X.env.scope scope own)
    (hg : ∀ (s : Shared) (H : Hp) (C : Addr) (cl : List (Str × Addr)) (fp : List Addr), PG (X.blk s H scope (compEnvC scope cl C X.env) fp) tg g) (ht : ∀ (s : Shared) (H : Hp) (C : Addr) (cl : List (Str × Addr)) (fp : List Addr), PTs (X.blk s H scope (compEnvC scope cl C X.env) fp) ifs tt)
    (hk : ∀ (s : Shared) (H : Hp) (C : Addr) (cl : List (Str × Addr)) (fp : List Addr), PE (X.blk s H scope (compEnvC scope cl C X.env) fp) kx tk)
    (he : ∀ (s : Shared) (H : Hp) (C : Addr) (cl : List (Str × Addr)) (fp : List Addr), PE (X.blk s H scope (compEnvC scope cl C X.env) fp) vx tv) (hs : ∀ x, foldedSetIterable iter X.env x = pure x := by intro _; rfl) :
    PS X (.Assign [.Name y py] (.DictComp kx vx [⟨tg, iter, ifs, 0⟩] scope pos) spos) (tAsg (tDc wi g tt tk tv (own.map (·.2))) (gName i)) := by
  refine ⟨fun pins s σ H D I h => ?_⟩
  rw [exec_Assign_Name_used _ _ _ _ hsw]
  refine wpAny_bind (wpAny_standAt (wpAny_bind ?_))
  show wpAny _ X.A (do let _ ← comprehension (.DictComp kx vx [⟨tg, iter, ifs, 0⟩] scope pos) scope X.env (firstIterPos [⟨tg, iter, ifs, 0⟩] pos) newDict false (eval iter X.env) (some (assign (.Name y py) X.env))) _ _ s
  have h : tDc wi g tt tk tv (own.map (·.2)) σ H (fun x H1 => gName i x σ H1 D.nx) := h
  refine wpAny_bind (thn (dc_core (Qf := fun _ s' => SP X pins D .next s') hc hN I hi ok hg ht hk he hs h fun L C s' m H' I' q hn f => ?_) fun _ s' hq => wpAny_pure (wpAny_pure hq))
  show wpAny _ _ (assign (.Name y py) X.env (.ref L)) _ _ _
  refine wpAny_assign_Name (store_ok2 (v := V.ref L) I' hN hy (.inl hyl) rfl (fun s2 I2 ⟨a, sb, ha⟩ => ?_) (.inr hyl))
  obtain ⟨f0, f1, f2, f3, f4, f5⟩ := f
  have haC : C ≠ a := by
    rcases ha with z | z
    · rw [z]; exact f1
    · exact fun e => f4 y a z e.symm
  refine ⟨m, hn.sameBut sb haC, fun h3 sb3 => ?_⟩
  exact ⟨_, H', I2.turned (t' := s2.toks) (fun b o hb e => (sb3.2 b hb).trans e) f0 f1 f3 f4 f5, q⟩
theorem sw_trueD {kx vx : Expr} {gs : List Comprehension} {scope : Scope} {pos py : Pos} {y : Str} {l : Nat} {env : Env} (hk : env.scope.kind = .function) (hy : env.scope.names.lookup y = some .local) (hl : (py.line == pos.line) = true)
    (ha : (scope.names.any fun (n, k) => n == y && (k == .local || k == .cell)) = false) : swapsWith (.DictComp kx vx gs scope pos) (some (.Name y py)) l env = pure true := by
  have ky : env.kindOf y = some .local := hy
  have hb : env.blockKind = .function := by unfold Env.blockKind; rw [hk]; rfl
  unfold swapsWith
  simp only [hb, ky, ha, Expr.pos, hl]
  rfl
end
end L2
namespace L2
open PySem PySem.Spec PyProof.Rows PySem.GX
/-! enumerate(tuple) -/
set_option maxHeartbeats 4000000 in
theorem meets_enumerate_newG {v : Value} {o : Obj} {H : Heap → Prop} (B : Begins v o H) :
    Meets (Builtin.«enumerate.__new__» ⟨[.type "enumerate", v], []⟩) (fun _ R s => H s.heap ∧
      R (.ok (.ret (.ref (s.heap.push o).objs.size))) { s with heap := (s.heap.push o).push { cls := .type "enumerate", data := .fields #[.none, .bool false, .ref s.heap.objs.size, rawInt 0, .none, .none] } }) :=
  .of_wp fun prog w A R s h => by
    obtain ⟨hp, g, d, tk, os⟩ := s; obtain ⟨h1, h⟩ := h
    have hsub := sub_enumerate
    have q1 : ∀ {A' : Around} {E : Value → Shared → Prop} {Q : Value → Shared → Prop}, Q (.ref hp.objs.size) ⟨hp.push o, g, d, tk, os⟩ → wpAny (model prog w) A' (pyIter v) Q E ⟨hp, g, d, tk, os⟩ :=
      fun q => B.iter prog w _ _ ⟨hp, g, d, tk, os⟩ _ h1 q
    wp_walk using q1
    refine wpAny_stack_any fun st => wpAny_pure ?_
    split
    · rename_i c _ _ _ _ _
      cases (c == Value.type "enumerate")
      · wp_walk using q1
        exact ⟨_, rfl, h⟩
      · wp_walk using q1
        exact ⟨_, rfl, h⟩
    · wp_walk using q1
      exact ⟨_, rfl, h⟩
theorem call_enumerate_tuple {prog : Program} {w : World} {A : Around} {E : Value → Shared → Prop} {s : Shared} {l : Addr} {items : Array Value} {Q : Value → Shared → Prop} (hL : s.heap.IsTuple l items)
    (h : ∀ h', IsEnum h' (s.heap.objs.size + 1) s.heap.objs.size 0 .none → h'.IsTupleIter s.heap.objs.size l 0 → h'.objs.size = s.heap.objs.size + 2 →
      (∀ b o, s.heap.get? b = some o → h'.get? b = some o) → Q (.ref (s.heap.objs.size + 1)) { s with heap := h' }) :
    wpAny (model prog w) A (call (.type "enumerate") [.ref l]) Q E s := by
  refine callType_new F.called_enumerate (by decide) (F.typeCall_enumerate_1 _) (F.newCall_enumerate_1 _) (fun obj => F.args_object_init_2 obj _) F.entry_enumerate_new
    (meets_enumerate_newG (begins_tuple l items)) ⟨hL, ?_⟩
  have hz : (s.heap.push { cls := .type "tuple_iterator", data := .fields #[.ref l, .int 0 0] }).objs.size = s.heap.objs.size + 1 := Heap.size_push ..
  show _ ∧ _
  rw [hz]
  have he : IsEnum ((s.heap.push { cls := .type "tuple_iterator", data := .fields #[.ref l, .int 0 0] }).push
      { cls := .type "enumerate", data := .fields #[.none, .bool false, .ref s.heap.objs.size, rawInt 0, .none, .none] }) (s.heap.objs.size + 1) s.heap.objs.size 0 .none := by
    have := Heap.get?_push_size (s.heap.push { cls := .type "tuple_iterator", data := .fields #[.ref l, .int 0 0] })
      (o := { cls := .type "enumerate", data := .fields #[.none, .bool false, .ref s.heap.objs.size, rawInt 0, .none, .none] }) rfl
    rw [hz] at this; exact this
  refine ⟨⟨_, he, rfl⟩, h _ he ⟨_, Heap.get?_push_of_some _ (Heap.get?_push_size _ rfl), rfl, rfl⟩ (by rw [Heap.size_push, hz]) fun b o x => Heap.get?_push_of_some _ (Heap.get?_push_of_some _ x)⟩
theorem wpAny_pyNext_enum_endT {prog : Program} {w : World} {A : Around} {E : Value → Shared → Prop} {s : Shared} {e it l : Addr} {i : Nat} {items : Array Value} {old : Value} {Q : Option Value → Shared → Prop} (hh : A.handled = none)
    (he : IsEnum s.heap e it i old) (hit : s.heap.IsTupleIter it l i) (hl : s.heap.IsTuple l items) (hx : items[i]? = none)
    (hQ : ∀ h', Heap.ExtBut it s.heap h' → Q none { s with heap := h' }) : wpAny (model prog w) A (pyNext (.ref e)) Q E s := by
  have hT : s.TypeIs (.ref e) "enumerate" := ⟨_, he, rfl⟩
  unfold pyNext
  refine wpAny_bind (wpAny_attempt (wpAny_callSpecial?_slot (name := Str.ofString "__next__") hT F.slot_enumerate_next
    (wpAny_call_entry F.slot_enumerate_next hT F.entry_enumerate_next ?_ (F.args_enumerate_next_1 _))))
  show wpAny _ _ (field (.ref e) 2 >>= _) _ _ _
  refine wpAny_bind (wpAny_field he rfl (x := .ref it) rfl ?_)
  refine wpAny_bind (wpAny_nextOf_tuple_end hh hit hl hx fun h' x he' hx' => ?_)
  obtain ⟨o, ho, hc⟩ := hx'
  refine wpAny_bind (wpAny_isInstance (T := "StopIteration") (b := true) ⟨o, ho, hc⟩ isSubtype_stop ?_)
  exact wpAny_pure (hQ _ he')
/-- the tuple at a, each item in a new pair -/
def IteT (K : PySem.W.Frag) (a : Addr) : It :=
  ⟨fun i H => ∃ (xs : List V) (x : V), SqT K H a xs ∧ xs[i]? = some x, fun i H v H' => ∃ T x, v = .ref T ∧ H T = none ∧ H' = upd H T (.tup [.int (i : Nat), x]) ∧ ∀ xs, SqT K H a xs → xs[i]? = some x, fun i H => ∃ xs : List V, SqT K H a xs ∧ xs.length ≤ i⟩
theorem turn_enumT {P : Program} {w : World} {K : PySem.W.Frag} {elts : List Expr} {kk : Nat} {tpos : Pos} (a e it : Addr) :
    Turn P w K (.Tuple elts kk tpos) (IteT K a) [e, it] e (fun i h => (∃ old, IsEnum h e it ((i : Nat) : Int) old) ∧ h.IsTupleIter it a i ∧ e ≠ it ∧ a ≠ it ∧ e ≠ a) where
  mem := by simp
  obj := fun i h st b hb => by
    obtain ⟨⟨old, he⟩, ⟨o, ho, hc, hd⟩, _⟩ := st
    have e' : b = e ∨ b = it := by simpa using hb
    rcases e' with z | z
    · rw [z]; exact ⟨_, he, fun v q => nomatch q⟩
    · rw [z]; exact ⟨o, ho, fun v q => by rw [hd] at q; cases q⟩
  keep := fun i h h' st k => let ⟨⟨old, he⟩, hi, hne⟩ := st; ⟨⟨old, k e (by simp) _ he⟩, hi.at fun o q => k it (by simp) o q, hne⟩
  item := by
    intro X hP hw hK hc i pins s σ H E I hf st hg
    subst hP hw hK
    obtain ⟨⟨old, he⟩, hit, hne, hai, hea⟩ := st
    obtain ⟨xs, x, hq, hx⟩ := hg
    obtain ⟨its, rv, p, hz⟩ := I.tuple hq
    obtain ⟨u, hu, ru⟩ := rv.get hx
    have hel : e < s.heap.objs.size := Heap.lt_size he
    have hil : it < s.heap.objs.size := by obtain ⟨_, q, _⟩ := hit; exact Heap.lt_size q
    have hlen : i < its.toArray.size := by
      have : i < its.length := (List.getElem?_eq_some_iff.mp hu).1
      simpa using this
    refine wpAny_pyNext_enum_itemD (Draws.tuple (A := X.A.in1) (by show X.A.handled = none; exact I.ok.hd hc) it a hai its.toArray) he ⟨hit, p⟩ hlen hne (by simp [hne, hea]) fun x' h' tk hx' ho hit' hT hsz hk => ?_
    have ex' : x' = u := by
      have h2 : its.toArray[i]? = some u := by simpa using hu
      exact Option.some.inj (hx'.symm.trans h2)
    subst ex'
    refine ⟨_, rfl, wpAny_letOwnedTupleGo_enum (s := { s with heap := h', toks := tk + 1 }) ho fun h'' he' sb => ?_⟩
    have hT2 : h''.get? s.heap.objs.size = some { cls := .type "tuple", data := .seq #[.int i tk, x'] } := (sb.2 _ (Nat.ne_of_gt hel)).trans hT
    have new : ObjOk X.prog X.w (upd H s.heap.objs.size (.tup [.int (i : Nat), x])) h'' s.heap.objs.size (.tup [.int (i : Nat), x]) :=
      ⟨by show 2 ≤ sizeLine; decide, [.int i tk, x'], .cons ⟨_, rfl⟩ (.cons ru .nil), ⟨_, hT2, rfl, _, rfl⟩⟩
    have I1 : Inv X pins σ (upd H s.heap.objs.size (.tup [.int (i : Nat), x])) { s with heap := h'', toks := tk + 1 } :=
      I.turnedNew (ch := [e, it]) (fun b ob hb q => (sb.2 b (fun z => hb (by simp [z]))).trans (hk b ob (fun z => hb (by simp [z])) (fun z => hb (by simp [z])) q)) hf (Nat.le_refl _) new
    refine ⟨.ref s.heap.objs.size, _, I1, rfl, ⟨_, x, rfl, I.hok.fresh (Nat.le_refl _), rfl, fun ys hy => by rw [I.tuple_inj hy hq]; exact hx⟩, ⟨⟨x', ?_⟩, hit'.1.at fun o q => (sb.2 it (Ne.symm hne)).trans q, hne, hai, hea⟩, fun b hb => ?_⟩
    · have e1 : ((i + 1 : Nat) : Int) = (i : Int) + 1 := by omega
      rw [e1]; exact he'
    · have hb' : b < s.heap.objs.size := by
        have e' : b = e ∨ b = it := by simpa using hb
        rcases e' with z | z
        · rw [z]; exact hel
        · rw [z]; exact hil
      rw [upd_ne (Nat.ne_of_lt hb')]
      exact (hf b hb).1
  done := by
    intro X hP hw hK hc i pins s σ H E I hf st hg
    subst hP hw hK
    obtain ⟨⟨old, he⟩, hit, hne, hai, hea⟩ := st
    obtain ⟨xs, hq, hx⟩ := hg
    obtain ⟨its, rv, p, hz⟩ := I.tuple hq
    obtain ⟨f0, f1, f2, f3, f4, f5⟩ := hf it (by simp)
    have hl := rv.length
    refine wpAny_pyNext_enum_endT (I.ok.hd hc) he hit p (by simp; omega) fun h' eb => ⟨rfl, I.turned (t' := s.toks) (fun b o hb q => eb b o hb q) f0 f1 f3 f4 f5⟩
  self := fun A i s Q E st h => let ⟨⟨_, he⟩, _⟩ := st; wpAny_pyIter_enum he h
def iEnumT (K : PySem.W.Frag) (ta : TA) : TI := fun σ H R => ta σ H fun vs H1 => ∃ a xs, vs = [.ref a] ∧ SqT K H1 a xs ∧ R (IteT K a) H1
theorem pi_enumT {X : Cx} {e : Expr} {ta : TA} {p pos tpos : Pos} {elts : List Expr} {kk : Nat} (hg : Gl X "enumerate") (hm : X.mg "enumerate" = none) (ha : PA X [e] ta) (hs : starEach [e] X.env = [(false, eval e X.env)] := by rfl) :
    PI X (.Tuple elts kk tpos) (.Call (.Name "enumerate" p) [e] [] pos) (iEnumT X.K ta) := by
  refine ⟨fun pins s σ H R I h => ?_⟩
  refine Call_ (ld_blt I hg hm boot_enumerate (PyProof.Rows.callWith_type1 (thn (ha.run pos pins s σ H _ I h) fun us s1 ⟨vs, H1, I1, r1, q1⟩ => ?_) hs rfl))
  obtain ⟨a, xs, ex, hq, q⟩ := q1
  subst ex
  cases r1 with
  | cons r rr =>
    cases rr
    cases r
    obtain ⟨its, rv, p', hz⟩ := I1.tuple hq
    have hla : a < s1.heap.objs.size := by
      obtain ⟨o, ho, _⟩ := id p'
      exact Heap.lt_size ho
    refine call_enumerate_tuple p' fun h' he hit hsz hk => wpAny_pyIter_enum he ?_
    have I2 : Inv X pins σ H1 { s1 with heap := h' } := I1.kept (t' := s1.toks) hk
    refine ⟨s1.heap.objs.size + 1, [s1.heap.objs.size + 1, s1.heap.objs.size], _, _, H1, rfl, I2, turn_enumT a (s1.heap.objs.size + 1) s1.heap.objs.size, ⟨⟨.none, he⟩, hit, Nat.succ_ne_self _, Nat.ne_of_lt hla, (Nat.ne_of_lt (Nat.lt_succ_of_lt hla)).symm⟩, fun b hb => ?_, q⟩
    have e' : b = s1.heap.objs.size + 1 ∨ b = s1.heap.objs.size := by simpa using hb
    have hle : s1.heap.objs.size ≤ b := by
      rcases e' with z | z
      · rw [z]; exact Nat.le_add_right _ _
      · rw [z]; exact Nat.le_refl _
    exact I1.fpOk hle (I1.hok.fresh hle)
/-- its walk -/
theorem walk_enumT {K : PySem.W.Frag} {a : Addr} {xs : List V} : Walk (IteT K a) xs.length (fun H => SqT K H a xs) (fun i H v H' => ∃ T x, v = .ref T ∧ H T = none ∧ H' = upd H T (.tup [.int (i : Nat), x]) ∧ xs[i]? = some x) where
  goes := fun i H h g => ⟨xs, xs[i], g, List.getElem?_eq_getElem h⟩
  stops := fun H g => ⟨xs, g, Nat.le_refl _⟩
  yields := fun i H x H' h g ⟨T, y, a, b, c, d⟩ => ⟨T, y, a, b, c, d xs g⟩
end L2
namespace My
open PySem PySem.Spec PyProof.Rows L2 PySem.GX L2H LamX
/-- a list beside an empty one -/
def rEqNil (K : PySem.W.Frag) (neg : Bool) : R2 := fun x y H Q => ∃ (a b : Addr) (xs : List V), x = .ref a ∧ y = .ref b ∧ SqL K H a xs ∧ SqL K H b [] ∧ Q (.bl (if neg then !xs.isEmpty else xs.isEmpty)) H
theorem op_eqNil {X : Cx} (hu : X.A.units < cLine) : OpR X (compareOp .Eq) (rEqNil X.K false) := by
  intro pins s σ H x y v u Q I rx ry ⟨a, b, xs, ex, ey, ha, hb, q⟩
  subst ex ey
  cases rx
  cases ry
  obtain ⟨its, rv, ⟨o, n, ho, hc, _, hd⟩, _⟩ := I.list ha
  obtain ⟨its2, rv2, ⟨o2, n2, ho2, hc2, _, hd2⟩, _⟩ := I.list hb
  cases rv2
  cases rv with
  | nil => exact SeqAt.RcAt.lists (e := fun _ => true) ⟨o, ho, hc, n, hd⟩ ⟨o2, ho2, hc2, n2, hd2⟩ rfl hu (fun j h1 _ => absurd h1 (Nat.not_lt_zero j)) _ _ _ _ ⟨.bl _, H, I, rfl, q⟩
  | cons r1 r2 => exact SeqAt.RcAt.lists_lengths ⟨o, ho, hc, n, hd⟩ ⟨o2, ho2, hc2, n2, hd2⟩ (by simp) hu _ _ _ _ ⟨.bl _, H, I, rfl, q⟩
theorem op_neNil {X : Cx} (hu : X.A.units < cLine) : OpR X (compareOp .NotEq) (rEqNil X.K true) := by
  intro pins s σ H x y v u Q I rx ry ⟨a, b, xs, ex, ey, ha, hb, q⟩
  subst ex ey
  cases rx
  cases ry
  obtain ⟨its, rv, ⟨o, n, ho, hc, _, hd⟩, _⟩ := I.list ha
  obtain ⟨its2, rv2, ⟨o2, n2, ho2, hc2, _, hd2⟩, _⟩ := I.list hb
  cases rv2
  cases rv with
  | nil => exact SeqAt.RcNeAt.lists (e := fun _ => true) ⟨o, ho, hc, n, hd⟩ ⟨o2, ho2, hc2, n2, hd2⟩ rfl hu (fun j h1 _ => absurd h1 (Nat.not_lt_zero j)) _ _ _ _ ⟨.bl _, H, I, rfl, q⟩
  | cons r1 r2 => exact SeqAt.RcNeAt.lists_lengths ⟨o, ho, hc, n, hd⟩ ⟨o2, ho2, hc2, n2, hd2⟩ (by simp) hu _ _ _ _ ⟨.bl _, H, I, rfl, q⟩
/-- f(k = e, ..), keywords alone -/
def tCallKw (sp : Sp) (gV : List V → List V → List V) (n : Nat) (E : XK) (tk : TA) : TE := fun σ H Q => tk σ H fun zs H2 => zs.length = n ∧ sp (gV [] zs) H2 Q E
theorem pe_callKw {X : Cx} {CX : CXT} {k : Nat} {f : Addr} {fd : FuncData} {x : Str} {ps ks : List Str} {sp : Sp} {p pos : Pos} {kws : List Keyword} {tk : TA} {E : XK} {g : List Value → List Value → List Value} {gV : List V → List V → List V}
    (F : FnOk X.prog X.w X.K X.mg X.base CX k f fd ps sp) (hr : Room k X.A) (hg : Gl X x) (hm : X.mg x = some (.ref f)) (hk : PySem.W.keepIn X.K (.ref f) = true) (hb : KBn X.K fd ps 0 ks g gV) (hx : Passes CX X E) (hkw : PK X kws tk)
    (hdb : (x == ("__debug__" : Str)) = false := by decide) (hall : (backToKw pos (keywordEach kws X.env)).all (·.1.isSome) = true := by rfl) (hks : (backToKw pos (keywordEach kws X.env)).filterMap (·.1) = ks := by rfl)
    (hpl : ((backTo pos (starEach [] X.env)).any (·.1) || (backToKw pos (keywordEach kws X.env)).any (·.1.isNone)) = false := by rfl) :
    PE X (.Call (.Name x p) [] kws pos) (tCallKw sp gV ks.length E tk) := by
  refine ⟨fun pins s σ H Q I want => wpAny_Call_Name_kw (ld_glob I hg hm ?_ hdb)⟩
  refine PySem.W.callWith_KW0 (first := []) (h₀ := X.base) I.ok.mod.kin hk hall (thn (hkw.run pos pins s σ H _ I want) fun ws s2 ⟨zs, H2, I2, rz, lz, q2⟩ => ⟨I2.kIn, ?_⟩) hpl
  rw [hks]
  exact run_fnN (us := []) (vs := []) (n := 0) (ks := ks) F hr hb hx I2 .nil rz rfl lz q2
theorem if_false_of {c : Bool} {A B : Prop} (hc : c = false) (h : B) : if c = true then A else B := by
  rw [hc, if_neg Bool.false_ne_true]
  exact h
theorem PT_imp {X : Cx} {e : Expr} {t t' : L2.St → Hp → (Bool → Hp → Prop) → Prop} (h : PT X e t) (m : ∀ σ H Q, t' σ H Q → t σ H Q) : PT X e t' := ⟨fun pins s σ H Q I q => h.run pins s σ H Q I (m σ H Q q)⟩
theorem Dp.ext {K : PySem.W.Frag} {H H' : Hp} (s : Same H H') {v : V} {d : PyData} (h : Dp K H v d) : Dp K H' v d := by
  have sl : ∀ {a : Addr} {xs : List V}, SqL K H a xs → SqL K H' a xs := fun h => by
    rcases h with (h | ⟨o, h⟩) | h
    · exact .inl (.inl (s _ _ h))
    · exact .inl (.inr ⟨o, s _ _ h⟩)
    · exact .inr h
  have st : ∀ {a : Addr} {xs : List V}, SqT K H a xs → SqT K H' a xs := fun h => by
    rcases h with (h | ⟨o, h⟩) | h
    · exact .inl (.inl (s _ _ h))
    · exact .inl (.inr ⟨o, s _ _ h⟩)
    · exact .inr h
  exact Dp.rec (motive_1 := fun v d _ => Dp K H' v d) (motive_2 := fun vs ds _ => DpAll K H' vs ds) .non .bl .int .str (fun h _ i => .lst (sl h) i) (fun h _ i => .tup (st h) i) .nil (fun _ _ i j => .cons i j) h
theorem pick_strs {ws : List Str} {j : Nat} {y : V} (h : (ws.map V.str)[j]? = some y) : ∃ z ∈ ws, y = .str z := by
  rw [List.getElem?_map] at h
  cases e : ws[j]? with
  | none => rw [e] at h; cases h
  | some z => rw [e] at h; cases h; exact ⟨z, List.mem_of_getElem? e, rfl⟩
theorem op_notInTxK {X : Cx} {K : PySem.W.Frag} (h : X.K = K) (hu : X.A.units + 1 < cLine) : OpR X (compareOp .NotIn) (rNotInTx K) := by subst h; exact op_notInTx hu
theorem others_nil {x z : Str} : (z.cps.toList.filter fun c => !decide (c ∈ x.cps.toList)) = [] ↔ ∀ c ∈ z.cps.toList, c ∈ x.cps.toList := by
  rw [List.filter_eq_nil_iff]
  exact ⟨fun h c hc => by simpa using h c hc, fun h c hc => by simpa using h c hc⟩
theorem fm_sg (p : Nat → Bool) : ∀ cs : List Nat, (cs.filterMap fun c => if p c = true then some (V.str (sg c)) else none) = ((cs.filter p).map sg).map V.str
  | [] => rfl
  | c :: t => by
    by_cases h : p c = true
    · rw [List.filterMap_cons, if_pos h, List.filter_cons_of_pos h, fm_sg p t]
      rfl
    · rw [List.filterMap_cons, if_neg h, List.filter_cons_of_neg h, fm_sg p t]
theorem PS_imp {X : Cx} {st : Stmt} {t t' : TS} (h : PS X st t) (m : ∀ D σ H, t' D σ H → t D σ H) : PS X st t' := ⟨fun pins s σ H D I q => h.run pins s σ H D I (m D σ H q)⟩
end My
namespace My
open PySem PySem.Spec PyProof.Rows L2 PySem.GX L2H LamX
def PrF (P : Program) (w : World) (K : PySem.W.Frag) (mg : Str → Option Value) (base : Heap) (C : Addr) (x y : Str) : Prop := ∃ (p g : Addr) (fd : FuncData), PropOf K C x p g ∧ FnOk P w K mg base CX0 1 g fd ["self"] (getSp C y) ∧ Binds K fd ["self"] []
theorem if_true_of {c : Bool} {A B : Prop} (hc : c = true) (h : A) : if c = true then A else B := by
  rw [if_pos hc]
  exact h
/-! wishes about rows -/
def goodRowL (p : Parts) (r : Str) : Bool := madeL r p.sg && decide (moodL p r ∈ p.gs)
def wishL (p : Parts) (w r : Str) : Bool := decide (goodRowL p r = decide (w = "good"))
def RowW (w : Str) : Prop := w = "good" ∨ w = "bad"
/-- letters alone, not too long -/
def LinL (r : Str) : Prop := r.length ≤ 1000 ∧ madeL r abc = true
theorem LinL.row {r : Str} (h : LinL r) : isRowL abc r = true := by
  unfold isRowL
  rw [Bool.and_eq_true_iff]
  refine ⟨decide_eq_true h.1, ?_⟩
  have := h.2
  rw [made_all] at this
  exact this
theorem row_made {p : Parts} {r : Str} (hl : r.length ≤ 1000) (h : madeL r p.sg = true) : isRowL p.sg r = true := by
  unfold isRowL
  rw [Bool.and_eq_true_iff]
  refine ⟨decide_eq_true hl, ?_⟩
  rw [made_all] at h
  exact h
def spGoodRow (C : Addr) : Sp := fun vs H Q _ => ∃ (a : Addr) (r t : Str) (p : Parts), vs = [.ref a, .str r] ∧ RuleAt H C a t p ∧ PartsOk p ∧ r.length ≤ 1000 ∧ ∀ H', Same H H' → Q (.bl (goodRowL p r)) H'
def spHoldsR (C : Addr) : Sp := fun vs H Q _ => ∃ (a c : Addr) (w r t : Str) (p : Parts), vs = [.ref a, .ref c] ∧ RuleAt H C a t p ∧ PartsOk p ∧ H c = some (.tup [.str w, .str r]) ∧ RowW w ∧ r.length ≤ 1000 ∧ ∀ H', Same H H' → Q (.bl (wishL p w r)) H'
def spIsWishR : Sp := fun vs H Q _ => ∃ (c : Addr) (k : V) (w r : Str), vs = [.ref c, k] ∧ H c = some (.tup [.str w, .str r]) ∧ RowW w ∧ LinL r ∧ ∀ H', Same H H' → Q (.bl true) H'
section
variable {P : Program} {w : World} {K : PySem.W.Frag} {mg : Str → Option Value} {base : Heap}
theorem scGoodRow : FnScope ["rule", "row"] ["rule", "row"] (defScope sGoodRow) := ⟨rfl, rfl, rfl, by decide +kernel, rfl, by decide +kernel, by decide +kernel⟩
theorem ok_goodRow {f C : Addr} {fd : FuncData} (F : Fun K "is_good_row" "is_good_row" sGoodRow f fd) (T : RuC K C) (hO : Hv P w K mg base 1 "made_of" ["text", "letters"] spMade) (pS : PrF P w K mg base C "signs" "letters") (hH : HvM P w K mg base 4 C "has" ["self", "row"] (spHas C)) : FnOk P w K mg base CX0 5 f fd ["rule", "row"] (spGoodRow C) := by
  obtain ⟨pp, gp, fdp, PP, GP, bP⟩ := pS
  refine F.ok scGoodRow (fun vs H Q E h => ?_) (fun cdv A outer s H vs Q E hr h => ?_)
  · obtain ⟨a, r, t, p, rfl, _⟩ := h
    rfl
  · obtain ⟨a, r, t, p, rfl, hA, ok, hl, k⟩ := h
    have hr1 := hr.mono (by decide : 1 ≤ 4)
    have hr2 := hr.mono (by decide : 2 ≤ 4)
    refine ⟨_, pss_one (ps_ret (pe_and (pe_cl hO hr1 rfl pass0 (pa_cons (pv 1) (pa_cons (pe_prop (pv 0) T.cl PP GP hr2 bP .nil pass0 (by rfl)) pa_nil))) (pe_one (pe_mt hH (pv 0) T.cl hr pass0 (pa_cons (pv 1) pa_nil))))), ?_⟩
    obtain ⟨dx, M, G, D, e1, e2, e3, e4⟩ := id hA
    refine ⟨_, rfl, _, rfl, a, dx, _, rfl, e1, a, dx, _, .str p.sg, rfl, e1, rfl, r, p.sg, rfl, by omega, fun H1 s1 => ⟨_, rfl, ite2 (fun c => ?_) (fun c => ?_)⟩⟩
    · refine ⟨_, rfl, a, dx, _, rfl, s1 _ _ e1, rfl, _, rfl, a, r, t, p, rfl, hA.same s1, ok, row_made hl c, fun H2 s2 => ?_⟩
      unfold goodRowL at k
      rw [c, Bool.true_and] at k
      exact k _ (s1.trans s2)
    · have c' : madeL r p.sg = false := by simpa using c
      unfold goodRowL at k
      rw [c', Bool.false_and] at k
      exact k _ s1
abbrev nHolds : List Str := ["rule", "wish", "word", "rest"]
theorem scHolds : FnScope nHolds ["rule", "wish"] (defScope sHoldsW) := ⟨rfl, rfl, rfl, by decide +kernel, rfl, by decide +kernel, by decide +kernel⟩
theorem rw_kept {w : Str} (h : RowW w) : decide (V.str w = V.str "kept") = false := by rcases h with rfl | rfl <;> decide +kernel
theorem rw_never {w : Str} (h : RowW w) : decide (V.str w = V.str "never") = false := by rcases h with rfl | rfl <;> decide +kernel
theorem wish_eq {b : Bool} {w : Str} : decide (V.bl b = V.bl (decide (V.str w = V.str "good"))) = decide (b = decide (w = "good")) := by
  have e : decide (V.str w = V.str "good") = decide (w = "good") := by
    rw [Bool.eq_iff_iff, decide_eq_true_eq, decide_eq_true_eq]
    exact ⟨fun h => by injection h, fun h => by rw [h]⟩
  rw [e, Bool.eq_iff_iff, decide_eq_true_eq, decide_eq_true_eq]
  exact ⟨fun h => by injection h, fun h => by rw [h]⟩
theorem ok_holdsR {f C : Addr} {fd : FuncData} (F : Fun K "holds" "holds" sHoldsW f fd) (hG : Hv P w K mg base 5 "is_good_row" ["rule", "row"] (spGoodRow C)) : FnOk P w K mg base CX0 6 f fd ["rule", "wish"] (spHoldsR C) := by
  refine F.ok scHolds (fun vs H Q E h => ?_) (fun cdv A outer s H vs Q E hr h => ?_)
  · obtain ⟨a, c, w, r, t, p, rfl, _⟩ := h
    rfl
  · obtain ⟨a, c, w, r, t, p, rfl, hA, ok, ec, hw, hl, k⟩ := h
    refine ⟨_, pss_cons (ps_asg (pv 1) (pg_star (n := 2) (i := 1) rfl (pgs_cons (pg_name (i := 2) scHolds.nd rfl (Or.inl rfl)) (pgs_star (pg_name (i := 3) scHolds.nd rfl (Or.inl rfl)) pgs_nil))))
      (pss_cons (ps_if (pt_cmpR op_eq (pv 2) pe_str (nomark _)) (pss_one ps_never) pss_nil)
      (pss_cons (ps_if (pt_cmpR op_eq (pv 2) pe_str (nomark _)) (pss_one ps_never) pss_nil)
      (pss_one (ps_ret (pe_cmpR op_eq (pe_cl hG hr rfl pass0 (pa_cons (pv 0) (pa_cons (pe_ix ix_list (pv 3) pe_int (fun _ _ => rfl)) pa_nil))) (pe_cmpR op_eq (pv 2) pe_str (nomark _)) (nomark _)))))), ?_⟩
    refine ⟨_, rfl, c, [.str w, .str r], rfl, SqT.of ec, by show 1 < 2; decide, by show 2 ≤ 3; decide, by show 2 ≤ 16384; decide, fun Dl hD => ⟨_, _, rfl, _, _, rfl, rfl, ?_⟩⟩
    have s1 := same_new (o := .lst [.str r]) hD
    refine ⟨_, rfl, rfl, _, rfl, if_false_of (rw_kept hw) ⟨_, rfl, rfl, _, rfl, if_false_of (rw_never hw) ?_⟩⟩
    refine ⟨_, rfl, _, rfl, Dl, _, _, V.str r, rfl, rfl, SqL.of upd_same, atI_nat (j := 0) rfl, a, r, t, p, rfl, hA.same s1, ok, hl, fun H2 s2 => ⟨_, rfl, rfl, rfl, ?_⟩⟩
    have y := k _ (s1.trans s2)
    unfold wishL at y
    rw [← wish_eq] at y
    exact y
theorem scIsWish : FnScope ["value", "kinds", "word", "rest"] ["value", "kinds"] (defScope sIsWish) := ⟨rfl, rfl, rfl, by decide +kernel, rfl, by decide +kernel, by decide +kernel⟩
theorem rw_in {w : Str} (h : RowW w) : inV (.str w) [.str "good", .str "bad"] = true := by rcases h with rfl | rfl <;> decide +kernel
theorem ok_isWishR {f : Addr} {fd : FuncData} {tA : Tok} (F : Fun K "is_wish" "is_wish" sIsWish f fd) (hR : Hv P w K mg base 2 "is_row_of" ["value", "letters"] spRow) (hA : mg "LETTERS" = some (.str abc tA)) (hIs : mg "isinstance" = none) (hSt : mg "str" = none) (hTu : mg "tuple" = none) (hL : mg "len" = none) : FnOk P w K mg base CX0 3 f fd ["value", "kinds"] spIsWishR := by
  refine F.ok scIsWish (fun vs H Q E h => ?_) (fun cdv A outer s H vs Q E hr h => ?_)
  · obtain ⟨c, k0, w, r, rfl, _⟩ := h
    rfl
  · obtain ⟨c, k0, w, r, rfl, ec, hw, hl, k⟩ := h
    refine ⟨_, pss_cons (ps_if (pt_not (PW.pt (pw_and (pt_val (pe_callB call_isi (by rfl) hIs (by decide +kernel) (pa_cons (pv 0) (pa_cons (pe_bltn (v := .ty "tuple") (by rfl) hTu (by decide +kernel) rfl) pa_nil)))) (pw_and (pt_cmpR op_gt (pe_callB call_len_seq (by rfl) hL PySem.boot_len (pa_cons (pv 0) pa_nil)) pe_int (nomark _)) (pw_and1 (pt_val (pe_callB call_isi (by rfl) hIs (by decide +kernel) (pa_cons (pe_ix ix_tup (pv 0) pe_int (fun _ _ => rfl)) (pa_cons (pe_bltn (v := .ty "str") (by rfl) hSt (by decide +kernel) rfl) pa_nil))))))))) (pss_one (ps_ret pe_bl)) pss_nil)
      (pss_cons (ps_asg (pv 0) (pg_star (n := 2) (i := 1) rfl (pgs_cons (pg_name (i := 2) scIsWish.nd rfl (Or.inl rfl)) (pgs_star (pg_name (i := 3) scIsWish.nd rfl (Or.inl rfl)) pgs_nil))))
      (pss_cons (ps_if (pt_cmpR op_eq (pv 2) pe_str (nomark _)) (pss_one ps_never) pss_nil)
      (pss_cons (ps_if (pt_cmpR op_ne (pe_callB call_len_seq (by rfl) hL PySem.boot_len (pa_cons (pv 3) pa_nil)) pe_int (nomark _)) (pss_one ps_never) pss_nil)
      (pss_cons (ps_if (pt_cmpR op_eq (pv 2) pe_str (nomark _)) (pss_one ps_never) pss_nil)
      (pss_one (ps_ret (pe_and (pe_cmpR op_in_seq (pv 2) (pe_tup (pa_cons pe_str (pa_cons pe_str pa_nil))) (by rfl)) (pe_one (pe_cl hR hr rfl pass0 (pa_cons (pe_ix ix_list (pv 3) pe_int (fun _ _ => rfl)) (pa_cons (pe_glob (v := .str abc) rfl hA ⟨_, rfl⟩) pa_nil))))))))))), ?_⟩
    refine ⟨_, rfl, .ref c, .ty "tuple", _, .type "tuple", true, rfl, .ty _, .base (.tup ec), kit_ty (by decide +kernel), _, rfl, iteT ?_⟩
    refine ⟨_, rfl, c, _, rfl, .inr (SqT.of ec), _, _, rfl, rfl, _, rfl, iteT ?_⟩
    refine ⟨_, rfl, c, _, _, V.str w, rfl, rfl, SqT.of ec, atI_nat (j := 0) rfl, .str w, .ty "str", _, .type "str", true, rfl, .ty _, .base (.str w), kit_ty (by decide +kernel), _, rfl, iteF ?_⟩
    refine ⟨_, rfl, c, [.str w, .str r], rfl, SqT.of ec, by show 1 < 2; decide, by show 2 ≤ 3; decide, by show 2 ≤ 16384; decide, fun Dl hD => ⟨_, _, rfl, _, _, rfl, rfl, ?_⟩⟩
    have s1 := same_new (o := .lst [.str r]) hD
    refine ⟨_, rfl, rfl, _, rfl, if_false_of (rw_kept hw) ?_⟩
    refine ⟨_, rfl, Dl, [.str r], rfl, .inl (SqL.of upd_same), rfl, _, rfl, iteF ?_⟩
    refine ⟨_, rfl, rfl, _, rfl, if_false_of (rw_never hw) ?_⟩
    refine ⟨_, rfl, by show 2 ≤ sizeLine; decide, fun tp ht => ⟨tp, _, rfl, .inr (SqT.of upd_same), rfl, rfl, _, rfl, if_true_of (rw_in hw) ?_⟩⟩
    have s2 := s1.trans (same_new (o := .tup [.str "good", .str "bad"]) ht)
    refine ⟨_, rfl, Dl, [.str r], _, V.str r, rfl, rfl, SqL.of (keep1 upd_same ht), atI_nat (j := 0) rfl, r, abc, rfl, by have := hl.1; omega, fun H3 s3 => ?_⟩
    rw [hl.row]
    exact k _ (s2.trans s3)
end
end My
namespace My
open PySem PySem.Spec PyProof.Rows L2 PySem.GX L2H LamX
/-! lots -/
def itL (l : List Nat) : List V := l.map fun n : Nat => .int (n : Int)
theorem flat_ints (l : List Nat) : (itL l).all flatV = true := by
  unfold itL
  rw [List.all_map]
  exact List.all_eq_true.mpr fun _ _ => rfl
theorem in_itL (x : Nat) : ∀ ys : List Nat, inV (.int (x : Int)) (itL ys) = decide (x ∈ ys)
  | [] => rfl
  | y :: t => by
    have ih := in_itL x t
    unfold inV itL at ih ⊢
    rw [List.map_cons, List.any_cons, ih]
    have e : eqV (.int (y : Int)) (.int (x : Int)) = decide (y = x) := by
      show ((y : Int) == (x : Int)) = _
      by_cases h : y = x
      · subst h; simp
      · have : ¬ (y : Int) = (x : Int) := by omega
        simp [h, this]
    rw [e]
    by_cases h : y = x
    · subst h; simp
    · simp [h, Ne.symm h]
section
variable {α : Type} {J : It} {G : Hp → Prop} {Y : Nat → Hp → V → Hp → Prop} {g : TG} {tt : TT} {te tk tv : TE} {vs : List Nat} {σ : L2.St} {H1 : Hp} {D : Addr} {Qd : Hp → Prop}
/-- a tuple stands at each -/
def TupsH (H : Hp) (zs : List (Addr × List V)) : Prop := ∀ z ∈ zs, H z.1 = some (.tup z.2)
def refsL (zs : List (Addr × List V)) : List V := zs.map fun z => V.ref z.1
/-- a list comprehension of new tuples -/
theorem lcTup (xs : List α) (f : α → List V) (w : Walk J xs.length G Y) (hz : xs.length ≤ 16000000) (hD : H1 D = none) (hY : ∀ i H x H', Y i H x H' → Same H H') (hG : ∀ H', Same H1 H' → G H')
    (turn : ∀ (i : Nat) (a : α) (x : V) (H' H'' : Hp) (k : V → Hp → Prop) (kn : Hp → Prop), xs[i]? = some a → Same H1 H' → Y i H' x H'' → (∀ t H4, Same H'' H4 → H4 t = some (.tup (f a)) → k (.ref t) H4) →
      g x (wipe σ vs) H'' fun σ2 H2 => wipe σ2 vs = wipe σ vs ∧ tt σ2 H2 fun b H3 => if b = true then te σ2 H3 fun y H4 => k y H4 else kn H3)
    (hd : ∀ H' zs, Same H1 H' → H' D = some (.lst (refsL zs)) → zs.map (·.2) = xs.map f → TupsH H' zs → Qd H') :
    ∃ W : Nat → Nat → Hp → Prop, (∃ m, W 0 m (upd H1 D (.lst []))) ∧ ∀ i m H, W i m H →
      (J.stop i H ∧ Qd H) ∨ (J.go i H ∧ ∃ Nx : Hp → Prop, (∀ H', Nx H' → ∃ m', m' < m ∧ W (i + 1) m' H') ∧ ∀ x H', J.yld i H x H' → g x (wipe σ vs) H' fun σ2 H2 => wipe σ2 vs = wipe σ vs ∧ tt σ2 H2 fun b H3 =>
        if b = true then te σ2 H3 fun y H4 => ∃ acc, H4 D = some (.lst acc) ∧ acc.length < sizeLine ∧ Nx (upd H4 D (.lst (acc ++ [y]))) else Nx H3) := by
  have e0 : upd H1 D (.lst []) D = some (.lst []) := upd_same
  have nD : ∀ {H' : Hp} {b : Addr} {o : HO}, H1 b = some o → b ≠ D := fun e z => by rw [z, hD] at e; cases e
  refine dc_it w (nx := fun i H' => (Same H1 H') ∧ ∃ zs, H' D = some (.lst (refsL zs)) ∧ zs.map (·.2) = (xs.take i).map f ∧ TupsH H' zs) (body := fun i x H' Nx => g x (wipe σ vs) H' fun σ2 H2 => wipe σ2 vs = wipe σ vs ∧ tt σ2 H2 fun b H3 =>
        if b = true then te σ2 H3 fun y H4 => ∃ acc, H4 D = some (.lst acc) ∧ acc.length < sizeLine ∧ Nx (upd H4 D (.lst (acc ++ [y]))) else Nx H3)
    ⟨same_new hD, [], e0, rfl, fun z hz => by cases hz⟩ (fun i H' _ h => hG _ h.1) (fun i x H' H'' hi h hy => ?_) (fun H' h => ?_)
  · obtain ⟨sm, zs, eD, em, ht⟩ := h
    have ei : xs[i]? = some xs[i] := List.getElem?_eq_getElem hi
    have hl : zs.length = i := by
      have := congrArg List.length em
      rw [List.length_map, List.length_map, List.length_take] at this
      omega
    refine turn i xs[i] x H' H'' (fun y H4 => ∃ acc, H4 D = some (.lst acc) ∧ acc.length < sizeLine ∧ _) _ ei sm hy fun t H4 s4 et => ?_
    have s5 := (hY _ _ _ _ hy).trans s4
    have eD4 := s5 _ _ eD
    have nt : t ≠ D := fun z => by rw [z, eD4] at et; cases et
    refine ⟨_, eD4, by unfold refsL; rw [List.length_map, hl, sizeLine_eq]; omega, ?_, zs ++ [(t, f xs[i])], ?_, ?_, ?_⟩
    · intro b o e
      rw [upd_ne (nD (H' := H1) e)]
      exact (sm.trans s5) _ _ e
    · rw [upd_same]
      unfold refsL
      rw [List.map_append]
      rfl
    · rw [List.map_append, em, List.take_add_one, ei, List.map_append]
      rfl
    · intro z hz
      rcases List.mem_append.mp hz with m | m
      · have := s5 _ _ (ht z m)
        have nz : z.1 ≠ D := fun q => by rw [q, eD4] at this; cases this
        rw [upd_ne nz]
        exact this
      · have : z = (t, f xs[i]) := by simpa using m
        subst this
        show upd H4 D _ t = _
        rw [upd_ne nt]
        exact et
  · obtain ⟨sm, zs, eD, em, ht⟩ := h
    rw [List.take_length] at em
    exact hd H' zs sm eD em ht
end
theorem pa_starK {X : Cx} {K : PySem.W.Frag} {e : Expr} {es : List Expr} {te : TE} {t : TA} {p : Pos} (h : X.K = K) (he : PE X e te) (hr : PA X es t) (hs : starEach (.Starred e p :: es) X.env = (true, eval e X.env) :: starEach es X.env := by rfl) : PA X (.Starred e p :: es) (StX.tStar K te t) := by
  subst h
  exact StX.pa_star he hr hs
def nextL (n : Nat) (lot : List Nat) : List (List Nat) := (List.range' (match lot.getLast? with | none => 0 | some x => x + 1) (n - (match lot.getLast? with | none => 0 | some x => x + 1))).map fun p => lot ++ [p]
def growL (n : Nat) : Nat → List (List Nat)
  | 0 => [[]]
  | k + 1 => growL n k ++ (match (growL n k)[k]? with | some lot => nextL n lot | none => [])
def lotsL (n : Nat) : List (List Nat) := growL n (2 ^ n)
theorem grow_len : ∀ n ≤ 6, (∀ k < 2 ^ n, k < (growL n k).length) ∧ (growL n (2 ^ n)).length = 2 ^ n := by decide +kernel
def startL (lot : List Nat) : Nat := match lot.getLast? with
  | none => 0
  | some x => x + 1
theorem next_is (n : Nat) (lot : List Nat) : nextL n lot = (List.range' (startL lot) (n - startL lot)).map fun p => lot ++ [p] := rfl
theorem grow_small : ∀ n ≤ 6, ∀ k ≤ 2 ^ n, (growL n k).length ≤ 64 ∧ ∀ lot ∈ growL n k, lot.length ≤ 6 := by decide +kernel
def spIsPart : Sp := fun vs H Q _ => ∃ (a b : Addr) (p l : List Nat), vs = [.ref a, .ref b] ∧ H a = some (.tup (itL p)) ∧ H b = some (.tup (itL l)) ∧ p.length ≤ 1000 ∧ ∀ H', Same H H' → Q (.bl (p.all fun x => decide (x ∈ l))) H'
def spAllLots : Sp := fun vs H Q _ => ∃ n : Nat, vs = [.int (n : Int)] ∧ n ≤ 6 ∧ ∀ (l : Addr) (zs : List (Addr × List V)) (H' : Hp), Same H H' → H' l = some (.lst (refsL zs)) → TupsH H' zs → zs.map (·.2) = (lotsL n).map itL → Q (.ref l) H'
theorem grow_next {n k : Nat} {lot : List Nat} (h : (growL n k)[k]? = some lot) : growL n (k + 1) = growL n k ++ nextL n lot := by
  show growL n k ++ (match (growL n k)[k]? with | some lot => nextL n lot | none => []) = _
  rw [h]
theorem PE_impM {X : Cx} {e : Expr} {t t' : TE} (h : PE X e t) (m : ∀ σ H Q, t' σ H Q → t σ H Q) : PE X e t' := ⟨fun pins s σ H Q I q => h.run pins s σ H Q I (m σ H Q q)⟩
def tStartA : TE := fun σ H Q => ∃ (z : Addr) (lot : List Nat), σ[3]? = some (some (.ref z)) ∧ H z = some (.tup (itL lot)) ∧ Q (.int (startL lot : Int)) H
theorem walk_rg {s n : Nat} : Walk (Itr (s : Int) ((n : Int) - (s : Int)).toNat) (List.range' s (n - s)).length (fun _ => True) (YFn fun i => .int ((s : Int) + i)) := by
  have : ((n : Int) - (s : Int)).toNat = n - s := by omega
  rw [List.length_range', this]
  exact walk_range
theorem start_le {lot : List Nat} (h : ∀ x ∈ lot, x < 6) : startL lot ≤ 6 := by
  unfold startL
  cases e : lot.getLast? with
  | none => exact Nat.zero_le _
  | some x => exact h x (List.mem_of_getLast? e)
theorem grow_in : ∀ n ≤ 6, ∀ k ≤ 2 ^ n, ∀ lot ∈ growL n k, ∀ x ∈ lot, x < 6 := by decide +kernel
def atA (σ : List (Option V)) : Nat := match σ[2]? with
  | some (some (V.int n)) => 200 - n.toNat
  | _ => 0
section
variable {P : Program} {w : World} {K : PySem.W.Frag} {mg : Str → Option Value} {base : Heap}
theorem scIsPart : FnScope ["part", "lot", "place"] ["part", "lot"] (defScope sIsPart) := ⟨rfl, rfl, rfl, by decide +kernel, rfl, by decide +kernel, by decide +kernel⟩
theorem ok_isPart {f : Addr} {fd : FuncData} (F : Fun K "is_part" "is_part" sIsPart f fd) (hA : mg "all" = none) : FnOk P w K mg base CX0 1 f fd ["part", "lot"] spIsPart := by
  refine F.ok scIsPart (fun vs H Q E h => ?_) (fun cdv A outer s H vs Q E hr h => ?_)
  · obtain ⟨a, b, p, l, rfl, _⟩ := h
    rfl
  · obtain ⟨a, b, p, l, rfl, ea, eb, hz, k⟩ := h
    refine ⟨_, pss_one (ps_ret (pe_callB (cr_all rfl) (by rfl) hA (by decide +kernel) (pa_cons (pe_lc (own := [("place", 2)]) (g := gName 2) (tt := tYes) rfl scIsPart.nd (pi_tup (pv 0))
      (blkOk_by (N := ["part", "lot", "place"]) (sc := defScope sIsPart) (by decide +kernel)) (fun _ _ _ _ _ => pg_name (i := 2) scIsPart.nd rfl (Or.inl rfl)) (fun _ _ _ _ _ => pts_nil) (fun _ _ _ _ _ => pe_cmpR (op_in_seqK (K := K) rfl) (pv 2) (pv 1) (by rfl))) pa_nil))), ?_⟩
    refine ⟨_, rfl, a, rfl, ⟨_, SqT.of ea⟩, fun D hD => ?_⟩
    refine lcG p (fun x => some (.bl (decide (x ∈ l)))) (walkT _ _) (by omega) hD (yat_same _) (fun H' s => SqT.of (s _ _ ea)) (fun i x y H' H'' k1 hx sj hy k2 => ?_) (fun H' s' e => ?_)
    · obtain ⟨rfl, hy⟩ := hy
      obtain rfl := map_get hx hy
      refine ⟨rfl, _, rfl, _, rfl, b, _, rfl, .inr (SqT.of (sj _ _ eb)), rfl, flat_ints _, ?_⟩
      show k1 (some (.bl (inV (.int (x : Int)) (itL l)))) _
      rw [in_itL]
      exact k2 _ (Same.refl _)
    · refine ⟨D, p.map fun x => decide (x ∈ l), rfl, SqL.of ?_, ?_⟩
      · rw [e, List.filterMap_eq_map', List.map_map]
        rfl
      · have : ((p.map fun x => decide (x ∈ l)).all fun b => b) = p.all fun x => decide (x ∈ l) := by rw [List.all_map]; rfl
        first
          | exact this ▸ k _ s'
          | (rw [this]; exact k _ s')
abbrev nLots : List Str := ["number", "lots", "at", "lot", "first", "place"]
theorem scLots : FnScope nLots ["number"] (defScope sAllLots) := ⟨rfl, rfl, rfl, by decide +kernel, rfl, by decide +kernel, by decide +kernel⟩
theorem ok_allLots {f : Addr} {fd : FuncData} (F : Fun K "all_lots" "all_lots" sAllLots f fd) (hL : mg "len" = none) (hR : mg "range" = none) : FnOk P w K mg base CX0 1 f fd ["number"] spAllLots := by
  refine F.ok scLots (fun vs H Q E h => ?_) (fun cdv A outer s H vs Q E hr h => ?_)
  · obtain ⟨n, rfl, _⟩ := h
    rfl
  · obtain ⟨n, rfl, hn, k⟩ := h
    refine ⟨_, pss_cons (ps_set (i := 1) scLots.nd rfl (Or.inl rfl) (pe_lst (pa_cons (pe_tup pa_nil) pa_nil)))
      (pss_cons (ps_set (i := 2) scLots.nd rfl (Or.inl rfl) pe_int)
      (pss_cons (ps_while PassesOwn.never (pt_cmpR op_lt (pv 2) (pe_callB call_len_seq (by rfl) hL PySem.boot_len (pa_cons (pv 1) pa_nil)) (nomark _))
        (pss_cons (ps_set (i := 3) scLots.nd rfl (Or.inr rfl) (pe_ix ix_list (pv 1) (pv 2) (fun _ _ => rfl)))
        (pss_cons (ps_set (i := 4) scLots.nd rfl (Or.inl rfl) (PE_impM (t' := tStartA) (pe_ifExp (pt_truth (pv 3) (fun _ => rfl)) (pe_op op_add (pe_ix ix_tup (pv 3) (pe_un un_neg pe_int) (fun _ _ => rfl)) pe_int) pe_int) ?iSt))
        (pss_cons (ps_expr (pe_bm PySem.F.plainAttrs_list PySem.F.slot_list_extend PySem.F.type_list_extend mt_extend (pv 1) (pa_cons (pe_lc (own := [("place", 5)]) (g := gName 5) (tt := tYes) rfl scLots.nd (pi_range2 (by rfl) hR (pa_cons (pv 4) (pa_cons (pv 0) pa_nil)))
          (blkOk_by (N := nLots) (sc := defScope sAllLots) (by decide +kernel)) (fun _ _ _ _ _ => pg_name (i := 5) scLots.nd rfl (Or.inl rfl)) (fun _ _ _ _ _ => pts_nil) (fun _ _ _ _ _ => pe_tup (pa_starK (K := K) rfl (pv 3) (pa_cons (pv 5) pa_nil)))) pa_nil)))
        (pss_one (ps_aug (i := 2) scLots.nd rfl (Or.inl rfl) pe_int ip_add))))))
      (pss_one (ps_ret (pv 1))))), ?_⟩
    case iSt =>
      rintro σ H Q ⟨z, lot, e3, ez, q⟩
      refine ⟨_, e3, _, .inr (.inl ⟨_, SqT.of ez, rfl⟩), ?_⟩
      rcases List.eq_nil_or_concat lot with rfl | ⟨ms, a, rfl⟩
      · exact iteF q
      · rw [List.concat_eq_append] at ez q ⊢
        have ei : itL (ms ++ [a]) = itL ms ++ [V.int (a : Int)] := by unfold itL; rw [List.map_append]; rfl
        have en : (!(itL (ms ++ [a])).isEmpty) = true := by rw [ei]; simp
        rw [en]
        refine iteT ⟨_, e3, 1, rfl, z, _, _, V.int (a : Int), rfl, rfl, SqT.of ez, by rw [ei]; exact atI_last _ _, _, _, rfl, rfl, ?_⟩
        have es : startL (ms ++ [a]) = a + 1 := by unfold startL; rw [List.getLast?_concat]
        rw [es] at q
        have e2 : ((a + 1 : Nat) : Int) = (a : Int) + 1 := by omega
        rw [e2] at q
        exact q
    refine ⟨by show 0 ≤ sizeLine; decide, fun a0 h0 => ⟨by show 1 ≤ sizeLine; decide, fun l hl => ?_⟩⟩
    have sH := (same_new (o := .tup []) h0).trans (same_new (o := .lst [.ref a0]) hl)
    have ea := keep1 (o := .lst [.ref a0]) (upd_same (a := a0) (H := H) (o := .tup [])) hl
    have el : upd (upd H a0 (.tup [])) l (.lst [.ref a0]) l = some (.lst [.ref a0]) := upd_same
    have nl0 : ∀ b o, H b = some o → b ≠ l := fun b o e => ne_of_none (keep1 (o := .tup []) e h0) hl
    generalize upd (upd H a0 (.tup [])) l (.lst [.ref a0]) = H1 at sH ea el ⊢
    clear h0 hl
    have gl := grow_len n hn
    have gs := grow_small n hn
    have gi := grow_in n hn
    have fin : ∀ H', KpM l H1 H' → Same H H' := fun H' ks b o e => ks b o (nl0 b o e) (sH b o e)
    refine while_by (fun σ H' => ∃ (j : Nat) (v3 v4 v5 : Option V) (zs : List (Addr × List V)), σ = [some (.int (n : Int)), some (.ref l), some (.int (j : Int)), v3, v4, v5] ∧ j ≤ 2 ^ n ∧ KpM l H1 H' ∧ H' l = some (.lst (refsL zs)) ∧ zs.map (·.2) = (growL n j).map itL ∧ TupsH H' zs) (fun σ _ => atA σ)
      ⟨0, none, none, none, [(a0, [])], rfl, Nat.zero_le _, KpM.refl _, el, rfl, fun z hz => by rw [List.mem_singleton.mp hz]; exact ea⟩ (fun σ H2 h => ?_) ?mono
    case mono =>
      rintro σ H Q Q' m ⟨a1, a2, a3, a4, a5, a6, a7, a8, a9, a10, a11, a12, a13, a14, q⟩
      exact ⟨a1, a2, a3, a4, a5, a6, a7, a8, a9, a10, a11, a12, a13, a14, m _ _ q⟩
    obtain ⟨j, v3, v4, v5, zs, rfl, hj, ks, eL, em, hT⟩ := h
    have elen : zs.length = (growL n j).length := by
      have := congrArg List.length em
      rwa [List.length_map, List.length_map] at this
    refine ⟨_, rfl, _, rfl, l, _, rfl, .inl (SqL.of eL), _, _, rfl, rfl, _, rfl, ite2 (fun c => ?_) (fun c => ?_)⟩
    · have c1 : (j : Int) < ((refsL zs).length : Int) := of_decide_eq_true c
      unfold refsL at c1
      rw [List.length_map, elen] at c1
      have hlt : j < (growL n j).length := by omega
      have hj2 : j < 2 ^ n := by
        rcases Nat.lt_or_ge j (2 ^ n) with q | q
        · exact q
        · have : j = 2 ^ n := by omega
          subst this
          have := gl.2
          omega
      clear c c1
      have hz : zs[j]? = some zs[j] := List.getElem?_eq_getElem (by omega)
      have hg : (growL n j)[j]? = some (growL n j)[j] := List.getElem?_eq_getElem hlt
      have ezs : (zs[j]'(by omega)).2 = itL (growL n j)[j] := by
        have := congrArg (fun q : List (List V) => q[j]?) em
        simp only [List.getElem?_map, hz, hg, Option.map_some] at this
        exact Option.some.inj this
      have hzm := hT _ (List.mem_of_getElem? hz)
      rw [ezs] at hzm
      have hgm := List.mem_of_getElem? hg
      have s6 := start_le (gi j hj _ hgm)
      have l6 := (gs j hj).2 _ hgm
      have gn := grow_next hg
      have sz : zs.length ≤ 64 := by rw [elen]; exact (gs j hj).1
      have sz2 := (gs (j + 1) hj2).1
      generalize (growL n j)[j] = lot at hg hgm hzm s6 l6 gn
      have hza : (refsL zs)[j]? = some (V.ref (zs[j]'(by omega)).1) := by unfold refsL; rw [List.getElem?_map, hz]; rfl
      generalize (zs[j]'(by omega)).1 = z at hzm hza
      refine ⟨_, rfl, _, rfl, l, _, _, V.ref z, rfl, rfl, SqL.of eL, atI_nat hza, z, lot, rfl, hzm, ?_⟩
      refine ⟨_, rfl, .inl ⟨rfl, _, SqL.of eL⟩, _, rfl, _, rfl, _, _, rfl, ⟨by omega, by omega, by omega, by omega⟩, fun D hD => ?_⟩
      refine lcTup (List.range' (startL lot) (n - startL lot)) (fun p => itL (lot ++ [p])) walk_rg (by rw [List.length_range']; omega) hD (fun i H x H' h => by rw [h.1]; exact Same.refl _) (fun _ _ => trivial) (fun i x y H' H'' k1 kn hx sj hy k2 => ?_) (fun H' zs2 s7 eD em2 hT2 => ?_)
      · obtain ⟨rfl, rfl⟩ := hy
        have ex : x = startL lot + i := by
          have hi := (List.getElem?_eq_some_iff.mp hx).1
          rw [List.length_range'] at hi
          rw [List.getElem?_range' hi] at hx
          injection hx with hx
          omega
        subst ex
        refine ⟨rfl, _, rfl, z, itL lot, rfl, .inl (SqT.of (sj _ _ hzm)), _, rfl, ?_, fun t ht => ?_⟩
        · show (itL lot ++ [_]).length ≤ sizeLine
          unfold itL
          rw [List.length_append, List.length_map, sizeLine_eq]
          show lot.length + 1 ≤ 16777216
          omega
        · refine k2 t _ (same_new ht) ?_
          rw [upd_same]
          unfold itL
          rw [List.map_append]
          have e : (((startL lot + i : Nat)) : Int) = (startL lot : Int) + (i : Int) := by omega
          show _ = some (HO.tup (_ ++ [V.int (((startL lot + i : Nat)) : Int)]))
          rw [e]
      · have len2 : zs2.length = n - startL lot := by
          have := congrArg List.length em2
          rwa [List.length_map, List.length_map, List.length_range'] at this
        have eL7 := s7 _ _ eL
        refine ⟨l, D, refsL zs, refsL zs2, rfl, rfl, eL7, eD, by unfold refsL; rw [List.length_map, List.length_map, sizeLine_eq]; omega, ?_⟩
        refine ⟨_, rfl, _, _, rfl, rfl, ⟨j + 1, some (.ref z), some (.int (startL lot : Int)), v5, zs ++ zs2, ?_, hj2, (ks.same s7).upd, ?_, ?_, ?_⟩, ?_⟩
        · have e : ((j + 1 : Nat) : Int) = (j : Int) + 1 := by omega
          rw [e]
          rfl
        · rw [upd_same]
          unfold refsL
          rw [List.map_append]
        · rw [List.map_append, em, em2, gn, List.map_append, next_is, List.map_map]
          rfl
        · intro q hq
          rcases List.mem_append.mp hq with m | m
          · have := s7 _ _ (hT q m)
            have nq : q.1 ≠ l := fun e => by rw [e, eL7] at this; cases this
            rw [upd_ne nq]
            exact this
          · have := hT2 q m
            have nq : q.1 ≠ l := fun e => by rw [e, eL7] at this; cases this
            rw [upd_ne nq]
            exact this
        · show 200 - ((j : Int) + 1).toNat < 200 - (j : Int).toNat
          omega
    · have c1 : ¬ (j : Int) < ((refsL zs).length : Int) := fun z => c (decide_eq_true z)
      unfold refsL at c1
      rw [List.length_map, elen] at c1
      have hj2 : j = 2 ^ n := by
        rcases Nat.lt_or_ge j (2 ^ n) with q | q
        · have := gl.1 j q
          omega
        · omega
      subst hj2
      exact ⟨_, rfl, k l zs _ (fin _ ks) eL hT em⟩
end
end My
set_option pp.maxSteps 1500
namespace L2
open PySem PySem.Spec PyProof.Rows PySem.GX NdefX LamX
/-! a function that a def returned: its cells are kept in the heap as things of their own -/
def CellX (c : Addr) (v : V) : HO := .ext fun h => ∃ u, RelV v u ∧ h.IsCell c (some u)
theorem cellX_own {c x : Addr} {v : V} : CellX c v ≠ .own x := fun z => by cases z
theorem cellX_tup {c : Addr} {v : V} {xs : List V} : CellX c v ≠ .tup xs := fun z => by cases z
def hide (H : Hp) (cs : List Addr) : Hp := fun b => if b ∈ cs then none else H b
def unhide (H : Hp) (cs : List Addr) (H' : Hp) : Hp := fun b => if b ∈ cs then H b else H' b
theorem hide_in {H : Hp} {cs : List Addr} {b : Addr} (h : b ∈ cs) : hide H cs b = none := by unfold hide; rw [if_pos h]
theorem hide_out {H : Hp} {cs : List Addr} {b : Addr} (h : b ∉ cs) : hide H cs b = H b := by unfold hide; rw [if_neg h]
theorem unhide_in {H H' : Hp} {cs : List Addr} {b : Addr} (h : b ∈ cs) : unhide H cs H' b = H b := by unfold unhide; rw [if_pos h]
theorem unhide_out {H H' : Hp} {cs : List Addr} {b : Addr} (h : b ∉ cs) : unhide H cs H' b = H' b := by unfold unhide; rw [if_neg h]
/-- all these are cells -/
def CellsX (H : Hp) (cs : List Addr) : Prop := ∀ c ∈ cs, ∃ v, H c = some (CellX c v)
theorem CellsX.out {H : Hp} {cs : List Addr} (a : CellsX H cs) {b : Addr} {o : HO} (e : H b = some o) (n : ∀ v, o ≠ CellX b v) : b ∉ cs := fun m => by
  obtain ⟨v, ev⟩ := a b m
  rw [e] at ev
  exact n v (Option.some.inj ev)
theorem hide_some {H : Hp} {cs : List Addr} {b : Addr} {o : HO} (e : hide H cs b = some o) : b ∉ cs ∧ H b = some o := by
  by_cases h : b ∈ cs
  · rw [hide_in h] at e; cases e
  · rw [hide_out h] at e; exact ⟨h, e⟩
section
variable {P : Program} {w : World} {K : PySem.W.Frag} {mg : Str → Option Value} {base : Heap} {A : Around} {outer : List Env} {s : Shared} {H : Hp} {cs : List Addr}
theorem hide_ok {h : Heap} (x : HOk P w H h) (a : CellsX H cs) : HOk P w (hide H cs) h := fun b o e => by
  obtain ⟨n, e'⟩ := hide_some e
  refine (x b o e').stay (fun _ _ _ q => q) (fun c q => ?_) (fun c xs q => ?_)
  · rw [hide_out (a.out q fun v z => cellX_own z.symm)]; exact q
  · rw [hide_out (a.out q fun v z => cellX_tup z.symm)]; exact q
theorem hide_env (e : Env0 P w K mg base A outer s H) (a : CellsX H cs) : Env0 P w K mg base A outer s (hide H cs) := by
  refine { frames := e.frames, mod := e.mod, bs := fun b o q => ⟨(e.bs b o q).1, ?_⟩, bsz := e.bsz, funs := e.funs, frf := fun b hb => ?_, hok := hide_ok e.hok a, bare := e.bare }
  · have := (e.bs b o q).2
    unfold hide
    split
    · rfl
    · exact this
  · have := e.frf b hb
    unfold hide
    split
    · rfl
    · exact this
theorem cell_keep {h h' : Heap} {c : Addr} {v : V} (x : ObjOk P w H h c (CellX c v)) (k : ∀ o, h.get? c = some o → h'.get? c = some o) : ObjOk P w H h' c (CellX c v) := by
  obtain ⟨p, ⟨o, e⟩, st⟩ := x
  exact ⟨st _ _ p k, ⟨o, k _ e⟩, st⟩
/-- behind the call the cells are there again -/
theorem unhide_end {Q : VK} {u : Value} {s' : Shared} (e : Env0 P w K mg base A outer s H) (a : CellsX H cs) (h : CE outer P w (hide H cs) s (fun v H' => (∀ c ∈ cs, H' c = none) → Q v (unhide H cs H')) u s') : CE outer P w H s Q u s' := by
  obtain ⟨v, H', os, bare, un, ok, r, q⟩ := h
  have nofr : ∀ c ∈ cs, c ∉ frs outer := fun c hc hf => by
    obtain ⟨v, ev⟩ := a c hc
    rw [e.frf c hf] at ev
    cases ev
  have obj : ∀ c ∈ cs, ∃ o v, s.heap.get? c = some o ∧ H c = some (CellX c v) ∧ ObjOk P w H s.heap c (CellX c v) := fun c hc => by
    obtain ⟨v, ev⟩ := a c hc
    have x := e.hok c _ ev
    obtain ⟨p, ⟨o, eo⟩, st⟩ := id x
    exact ⟨o, v, eo, ev, x⟩
  have keepc : ∀ c ∈ cs, ∀ o, s.heap.get? c = some o → s'.heap.get? c = some o := fun c hc o eo => un.keep c o eo (hide_in hc) (nofr c hc) (by simp)
  have none' : ∀ c ∈ cs, H' c = none := fun c hc => by
    obtain ⟨o, v, eo, _, _⟩ := obj c hc
    exact un.free c o eo (hide_in hc) (by simp)
  have outc : ∀ {b : Addr}, H b = none → b ∉ cs := fun {b} hb hc => by
    obtain ⟨v, ev⟩ := a b hc
    rw [hb] at ev
    cases ev
  have hn : ∀ {b : Addr}, H b = none → hide H cs b = none := fun {b} hb => by rw [hide_out (outc hb)]; exact hb
  refine ⟨v, unhide H cs H', os, bare, ?_, fun b o eb => ?_, r, q none'⟩
  · refine { keep := fun b o eo hb hf hx => un.keep b o eo (hn hb) hf hx, slot := fun b o eo hb hf hx => un.slot b o eo (hn hb) hf hx, free := fun b o eo hb hx => ?_, there := fun b o eo hx => un.there b o eo hx, tups := fun b xs eb => ?_, frzs := fun b o u' eb => ?_, tbls := fun b ps eb => ?_ }
    · rw [unhide_out (outc hb)]
      exact un.free b o eo (hn hb) hx
    · have n := a.out eb fun v z => cellX_tup z.symm
      rw [unhide_out n]
      exact un.tups b xs (by rw [hide_out n]; exact eb)
    · have n : b ∉ cs := a.out eb fun v z => by cases z
      rw [unhide_out n]
      exact un.frzs b o u' (by rw [hide_out n]; exact eb)
    · have n : b ∉ cs := a.out eb fun v z => by cases z
      rw [unhide_out n]
      exact un.tbls b ps (by rw [hide_out n]; exact eb)
  · by_cases hb : b ∈ cs
    · rw [unhide_in hb] at eb
      obtain ⟨o', v', eo, ev, x⟩ := obj b hb
      rw [ev] at eb
      cases eb
      have x' := cell_keep (h' := s'.heap) x (keepc b hb)
      obtain ⟨p, q', st⟩ := x'
      exact ⟨p, q', st⟩
    · rw [unhide_out hb] at eb
      refine (ok b o eb).stay (fun _ _ _ q => q) (fun c q => ?_) (fun c xs q => ?_)
      · rw [unhide_out fun hc => by rw [none' c hc] at q; cases q]; exact q
      · rw [unhide_out fun hc => by rw [none' c hc] at q; cases q]; exact q
end
/-- the captured names' values, the cells kept in the heap -/
structure CloAt (H : Hp) (cl : List (Str × Addr)) (fr : List Str) (ws : List V) : Prop where
  len : ws.length = fr.length
  cel : CellsX H (cl.map (·.2))
  inj : ∀ x y c, cl.lookup x = some c → cl.lookup y = some c → x = y
  has : ∀ (i : Nat) (y : Str), fr[i]? = some y → ∃ c, cl.lookup y = some c ∧ ∀ v, ws[i]? = some v → H c = some (CellX c v)
theorem lookup_in : ∀ {cl : List (Str × Addr)} {y : Str} {c : Addr}, cl.lookup y = some c → c ∈ cl.map (·.2)
  | [], _, _, h => by cases h
  | (a, b) :: t, y, c, h => by
    rw [List.lookup_cons] at h
    split at h
    · injection h with h
      subst h
      exact List.mem_cons_self ..
    · exact List.mem_cons_of_mem _ (lookup_in h)
theorem CloAt.cells {P : Program} {w : World} {H : Hp} {h : Heap} {cl : List (Str × Addr)} {fr : List Str} {ws : List V} (C : CloAt H cl fr ws) (ok : HOk P w H h) : CellsAt cl fr (ws.map some) h (hide H (cl.map (·.2))) := by
  refine ⟨by rw [List.length_map]; exact C.len, fun y c e => ⟨hide_in (lookup_in e), ?_⟩, C.inj, fun i y e => ?_⟩
  · obtain ⟨v, ev⟩ := C.cel c (lookup_in e)
    obtain ⟨⟨u, _, hu⟩, _, _⟩ := ok c _ ev
    exact ⟨_, hu⟩
  · obtain ⟨c, hc, hv⟩ := C.has i y e
    refine ⟨c, hc, fun v q => ?_⟩
    rw [List.getElem?_map] at q
    cases hw : ws[i]? with
    | none => rw [hw] at q; cases q
    | some v' =>
      rw [hw] at q
      injection q with q
      injection q with q
      subst q
      obtain ⟨⟨u, hr, hu⟩, _, _⟩ := ok c _ (hv v' hw)
      exact ⟨u, hr, hu⟩
/-- what may be called: the object O at f, the captured names, the promise -/
structure COk (P : Program) (w : World) (K : PySem.W.Frag) (mg : Str → Option Value) (base : Heap) (k : Nat) (f : Addr) (O : HO) (F : NF) (ps fr : List Str) (sp : List (Option V) → Sp) : Prop where
  len : ∀ ws vs H Q E, sp ws vs H Q E → vs.length = ps.length
  isf : ∀ (H : Hp) (h : Heap), HOk P w H h → H f = some O → ∃ (fd : FuncData) (od : Option Addr) (oc : Value) (sl : Array (Option Value)), h.get? f = some (⟨oc, od, .func fd, sl⟩ : Obj) ∧ PySem.W.FnAt f h
  run : ∀ (A : Around) (outer : List Env) (s : Shared) (H : Hp) (us : List Value) (vs : List V) (ws : List (Option V)) (Q : VK) (E : XK), Room k A → Env0 P w K mg base A outer s H → H f = some O → H F.c = some (CodeO F.c F.qual) →
    CellsAt F.cl fr ws s.heap H → Vals vs us → sp ws vs H Q E → codeAny (model P w) A (.call (.ref f) ⟨us, []⟩) (CR (fun _ _ _ _ _ _ => False) outer P w H s Q E) s
theorem cok_def {P : Program} {w : World} {K : PySem.W.Frag} {mg : Str → Option Value} {base : Heap} {k : Nat} {f : Addr} {F : NF} {ps fr : List Str} {sp : List (Option V) → Sp} (o : NOk P w K mg base (fun _ _ _ _ _ _ => False) k f F ps fr sp) : COk P w K mg base k f (FnO f F) F ps fr sp :=
  ⟨o.len, fun H h ok e => let ⟨od, sl, doc, pm, ctv, ho⟩ := fnO_at ok e; ⟨_, od, _, sl, ho, ⟨_, od, _, sl, ho⟩⟩, o.run⟩
/-- the object of a lambda -/
def LamO (f : Addr) (F : NF) (e : Expr) : HO := .ext fun h => ∃ pm ctv : Value, h.get? f = some (PySem.W.kla_obj F.name F.qual F.params e F.scope F.cl pm F.c ctv)
/-- the running lambda -/
theorem cok_lam {P : Program} {w : World} {K : PySem.W.Frag} {mg : Str → Option Value} {base : Heap} {k : Nat} {f : Addr} {F : NF} {e : Expr} {N ps fr : List Str} {sp : List (Option V) → Sp} (S : NScope N ps fr F.scope)
    (hb : ∀ (pm ctv : Value) (us : List Value), us.length = ps.length → bindArgs (PySem.W.kla_fn F.name F.qual F.params e F.scope F.cl pm (.ref F.c) ctv) ⟨us, []⟩ = pure (ps.zip us)) (len : ∀ ws vs H Q E, sp ws vs H Q E → vs.length = ps.length)
    (hbody : ∀ (A : Around) (outer : List Env) (s : Shared) (H : Hp) (vs : List V) (ws : List (Option V)) (Q : VK) (E : XK), Room k (A.deeper (envF F f s.heap.objs.size)) → H f = some (LamO f F e) → H F.c = some (CodeO F.c F.qual) → ws.length = fr.length → sp ws vs H Q E →
      ∃ te, PE (ncx (fun _ _ _ _ _ _ => False) P w K mg base N F f A outer s H E) e te ∧ te (startF N vs ws) H Q) :
    COk P w K mg base (k + 1) f (LamO f F e) F ps fr sp := by
  refine ⟨len, fun H h ok eo => ?_, fun A outer s H us vs ws Q E hr e0 hf hc C r hsp => ?_⟩
  · obtain ⟨⟨pm, ctv, ho⟩, _, _⟩ := ok f _ eo
    exact ⟨_, _, _, _, ho, ⟨_, _, _, _, ho⟩⟩
  · have hl := len _ _ _ _ _ hsp
    have lim : s.heap.NoLimit := e0.mod.nolimit.keeps fun b o e => (e0.bs b o e).1
    obtain ⟨⟨pm, ctv, ho⟩, _, _⟩ := e0.hok f _ hf
    obtain ⟨⟨oc, vs', t, hoc, hdc, hvc⟩, _, _⟩ := e0.hok F.c _ hc
    refine PySem.W.kla_callFunE hr.depth ho rfl S.co S.gen rfl ⟨F.c, oc, vs', t, rfl, hoc, hdc, hvc⟩ ?_
    rw [hb pm ctv us (by rw [← r.length]; exact hl)]
    refine wpAny_pure (wpAny_newFunctionEnv S.nocell (fun ⟨n, _⟩ hy => S.par n (List.of_mem_zip hy).1) (fun h₁ hns hsb => ⟨lim.fresh _ hsb, ?_⟩) S.kind)
    show codeAny _ _ (.expr e (envF F f s.heap.objs.size)) _ _
    have kp : ∀ b o, s.heap.get? b = some o → h₁.get? b = some o := fun b o e => hsb.extBut b o (Nat.ne_of_lt (Heap.lt_size e)) (Heap.get?_push_of_some _ e)
    obtain ⟨te, ht, hq⟩ := hbody A outer s H vs ws Q E (hr.deeper _) hf hc C.len hsp
    have I : Inv (ncx (fun _ _ _ _ _ _ => False) P w K mg base N F f A outer s H E) [] (startF N vs ws) H { s with heap := h₁, toks := s.toks + (ps.zip us).length } := inv_startN S hr.hd e0 hl r C hns kp
    refine PySem.W.kla_codeExpr (wpAny_mono (ht.run [] _ (startF N vs ws) H _ I hq) (fun v s' hs => ?_) fun e s' hs => hs)
    obtain ⟨w', H', J, rv, q⟩ := hs
    exact ⟨w', H', J.os, J.bare, J.base, J.hok, rv, q⟩
/-- a function that was returned: what it is, and what it promises -/
structure Clo (P : Program) (w : World) (K : PySem.W.Frag) (mg : Str → Option Value) (base : Heap) (k : Nat) (H : Hp) (f : Addr) (O : HO) (fs : NF) (ps fr : List Str) (ws : List V) (sp : List (Option V) → Sp) : Prop where
  ok : COk P w K mg base k f O fs ps fr sp
  ntb : ∀ ps, O ≠ .tbl ps
  at_ : H f = some O
  code : H fs.c = some (CodeO fs.c fs.qual)
  clo : CloAt H fs.cl fr ws
theorem Clo.same {P : Program} {w : World} {K : PySem.W.Frag} {mg : Str → Option Value} {base : Heap} {k : Nat} {H H' : Hp} {f : Addr} {O : HO} {fs : NF} {ps fr : List Str} {ws : List V} {sp : List (Option V) → Sp} (c : Clo P w K mg base k H f O fs ps fr ws sp) (s : ∀ b o, H b = some o → H' b = some o) : Clo P w K mg base k H' f O fs ps fr ws sp :=
  ⟨c.ok, c.ntb, s _ _ c.at_, s _ _ c.code, ⟨c.clo.len, fun a ha => let ⟨v, e⟩ := c.clo.cel a ha; ⟨v, s _ _ e⟩, c.clo.inj, fun i y e => let ⟨a, h1, h2⟩ := c.clo.has i y e; ⟨a, h1, fun v q => s _ _ (h2 v q)⟩⟩⟩
theorem Clo.ext {P : Program} {w : World} {K : PySem.W.Frag} {mg : Str → Option Value} {base : Heap} {k : Nat} {H H' : Hp} {f : Addr} {O : HO} {fs : NF} {ps fr : List Str} {ws : List V} {sp : List (Option V) → Sp} (c : Clo P w K mg base k H f O fs ps fr ws sp) (s : ExtN H H') : Clo P w K mg base k H' f O fs ps fr ws sp :=
  ⟨c.ok, c.ntb, s _ _ c.at_ c.ntb, s _ _ c.code codeO_ne, ⟨c.clo.len, fun a ha => let ⟨v, e⟩ := c.clo.cel a ha; ⟨v, s _ _ e fun _ z => by cases z⟩, c.clo.inj, fun i y e => let ⟨a, h1, h2⟩ := c.clo.has i y e; ⟨a, h1, fun v q => s _ _ (h2 v q) fun _ z => by cases z⟩⟩⟩
theorem lamO_ne {f : Addr} {F : NF} {e : Expr} (ps : Array Value) : LamO f F e ≠ .tbl ps := fun z => by
  unfold LamO at z
  cases z
section
variable {X : Cx} {k j i : Nat} {x : Str} {p pos : Pos} {e : Expr} {es : List Expr} {t : TA}
theorem run_clo {pins : List (Addr × Obj)} {σ : L2.St} {H : Hp} {s : Shared} {Q : VK} {f : Addr} {O : HO} {fs : NF} {ps fr : List Str} {ws : List V} {sp : List (Option V) → Sp} {us : List Value} {vs : List V} (C : Clo X.prog X.w X.K X.mg X.base k H f O fs ps fr ws sp) (hr : Room k X.A) (I : Inv X pins σ H s) (r : Vals vs us)
    (q : sp (ws.map some) vs (hide H (fs.cl.map (·.2))) (fun v H' => (∀ c ∈ fs.cl.map (·.2), H' c = none) → Q v (unhide H (fs.cl.map (·.2)) H')) (fun _ _ _ => False)) :
    wpAny (model X.prog X.w) X.A (call (.ref f) us) (EP X pins σ Q) X.xe s := by
  have nf : f ∉ fs.cl.map (·.2) := fun m => by
    obtain ⟨v, ev⟩ := C.clo.cel f m
    obtain ⟨⟨u, _, o, ho, hd⟩, _, _⟩ := I.hok f _ ev
    obtain ⟨_, _, _, _, hf, _⟩ := C.ok.isf H s.heap I.hok C.at_
    rw [ho] at hf
    cases hf
    cases hd
  have nc : fs.c ∉ fs.cl.map (·.2) := fun m => by
    obtain ⟨v, ev⟩ := C.clo.cel fs.c m
    obtain ⟨⟨u, _, o, ho, hd⟩, _, _⟩ := I.hok fs.c _ ev
    obtain ⟨⟨oc, vs', t', hc, hd2, _⟩, _, _⟩ := I.hok fs.c _ C.code
    rw [ho] at hc
    injection hc with hc
    rw [hc, hd2] at hd
    cases hd
  refine wpAny_call (codeAny_mono (C.ok.run X.A X.stack s (hide H (fs.cl.map (·.2))) us vs _ _ _ hr (hide_env I.env0 C.clo.cel) (by rw [hide_out nf]; exact C.at_) (by rw [hide_out nc]; exact C.code) (C.clo.cells I.hok) r q) fun r s' hq => ?_)
  cases r with
  | error e => exact False.elim hq
  | ok fl =>
    cases fl with
    | ret u => exact I.after (unhide_end I.env0 C.clo.cel hq)
    | next => exact False.elim hq
    | brk => exact False.elim hq
    | cont => exact False.elim hq
/-- f(..), f a name that holds a returned function -/
def tCallC (P : Program) (w : World) (K : PySem.W.Frag) (mg : Str → Option Value) (base : Heap) (k i : Nat) (t : TA) : TE := fun σ H Q => ∃ (f : Addr) (O : HO) (fs : NF) (ps fr : List Str) (ws : List V) (sp : List (Option V) → Sp), σ[i]? = some (some (.ref f)) ∧ COk P w K mg base k f O fs ps fr sp ∧ H f = some O ∧
  t σ H fun vs H1 => Clo P w K mg base k H1 f O fs ps fr ws sp ∧ sp (ws.map some) vs (hide H1 (fs.cl.map (·.2))) (fun v H' => (∀ c ∈ fs.cl.map (·.2), H' c = none) → Q v (unhide H1 (fs.cl.map (·.2)) H')) (fun _ _ _ => False)
theorem pe_callC {P : Program} {w : World} {K : PySem.W.Frag} {mg : Str → Option Value} {base : Heap} (e1 : X.prog = P) (e2 : X.w = w) (e3 : X.K = K) (e4 : X.mg = mg) (e5 : X.base = base) (hr : Room k X.A) (hN : X.N[i]? = some x) (hv : Vis X.env.scope x) (ha : PA X (e :: es) t)
    (hd : (x == ("__debug__" : Str)) = false := by decide) (hcd : (x == ("__classdict__" : Str)) = false := by decide)
    (he : starEach (e :: es) X.env = (false, eval e X.env) :: starEach es X.env := by rfl) (hpl : (backTo pos (starEach es X.env)).any (·.1) = false := by rfl) :
    PE X (.Call (.Name x p) (e :: es) [] pos) (tCallC P w K mg base k i t) := by
  subst e1 e2 e3 e4 e5
  refine ⟨fun pins s σ H Q I h => ?_⟩
  obtain ⟨f, O, fs, ps, fr, ws, sp, hs, hO, hf, ht⟩ := h
  refine wpAny_Call_Name_kw (thn ((pe_var (pos := p) hN hv hd hcd).run pins s σ H (fun v H1 => v = .ref f ∧ H1 = H) I ⟨.ref f, hs, rfl, rfl⟩) fun u s1 ⟨v, H1, I1, r1, q1⟩ => ?_)
  obtain ⟨ev, eH⟩ := q1
  subst ev
  rw [eH] at I1
  obtain rfl : u = Value.ref f := r1
  refine PySem.W.callWith_F (first := []) (let ⟨_, _, _, _, _, z⟩ := hO.isf H s1.heap I1.hok hf; z) (thn (ha.run pos pins s1 σ H _ I1 ht) fun us s2 ⟨vs, H2, I2, r, C, q⟩ => ⟨(let ⟨_, _, _, _, _, z⟩ := C.ok.isf H2 s2.heap I2.hok C.at_; z), ?_⟩) he hpl
  show wpAny _ _ (call (.ref f) us) _ _ _
  exact run_clo C hr I2 r q
end
end L2
set_option pp.maxSteps 1500
namespace L2
open PySem PySem.Spec PyProof.Rows PySem.GX NdefX LamX
section
variable {X : Cx} {pins : List (Addr × Obj)} {σ : L2.St} {H : Hp} {s : Shared}
/-- a lambda's object just made is known from now on -/
theorem inv_lamO {F : NF} {e : Expr} {t' : Nat} {pm ctv : Value} (I : Inv X pins σ H s) :
    Inv X pins σ (upd H s.heap.objs.size (LamO s.heap.objs.size F e)) { s with heap := s.heap.push (PySem.W.kla_obj F.name F.qual F.params e F.scope F.cl pm F.c ctv), toks := t' } := by
  refine I.laid (a := s.heap.objs.size) (fun b u e => Heap.get?_push_of_some _ e) (Nat.le_refl _) ?_
  have e' : (s.heap.push (PySem.W.kla_obj F.name F.qual F.params e F.scope F.cl pm F.c ctv)).get? s.heap.objs.size = some (PySem.W.kla_obj F.name F.qual F.params e F.scope F.cl pm F.c ctv) := Heap.get?_push_size _ rfl
  exact ⟨⟨pm, ctv, e'⟩, ⟨_, e'⟩, fun h1 h2 ⟨p, t, z⟩ st => ⟨p, t, st _ z⟩⟩
theorem lamO_make {T : List (Addr × Str)} {c P : Addr} {params : Arguments} {body : Expr} {scope : Scope} {pos : Pos} {E : Value → Shared → Prop} {Q : Value → Shared → Prop} (I : Inv X pins σ H s) (TB : TabB X.base X.mg c P) (hcode : X.env.code = .ref c)
    (hm : (P, X.env.qual ++ "<lambda>") ∈ T) (hu : ∀ p ∈ T, p.1 = P → p.2 = X.env.qual ++ "<lambda>") (hT : Tabs T H) (hdef : defaultsOf params X.env = ([], [])) (hfree : ∀ y ∈ scope.names, y.2 = .free → ∃ c, X.env.cells.lookup y.1 = some c)
    (h : ∀ (f c' : Addr) (H1 : Hp) (s' : Shared), Inv X pins σ H1 s' → ExtN H H1 → Tabs T H1 → H f = none → H1 f = some (LamO f ⟨"<lambda>", X.env.qual ++ "<lambda>", params, [], scope, cloFrom X.env.cells scope.names [], c'⟩ body) → H1 c' = some (CodeO c' (X.env.qual ++ "<lambda>")) → Q (.ref f) s') :
    wpAny (model X.prog X.w) X.A (eval (.Lambda params body scope pos) X.env) Q E s := by
  obtain ⟨ps, hP, ht, ha⟩ := hT _ hm
  refine PySem.W.kla_eval hdef ?_
  have bP : s.heap.BuiltinsAt X.mg P := TB.bm.keeps I.bk
  have hP' : s.heap.get? P = some { cls := .none, data := .fields ps } := I.hok P _ hP
  cases hc : codeAmong pos ps.toList with
  | none =>
    refine PySem.W.kla_makeFunction (mg := X.mg) (c := c) (P := P) (ps := ps) (closure_ok hfree) I.ok.glob (I.mod.glob.keeps I.bk) hcode (TB.code.keeps I.bk) hP' ht hc TB.gP bP fun c' ctv h' tk hx hge hlt hrec htb => ?_
    obtain ⟨c2, oc, vs, t, e2, hoc, hd, hv⟩ := hrec
    cases e2
    have nC : H c' = none := I.hok.fresh hge
    have I1 := inv_table (t' := tk) (more := #[rawInt pos.line, rawInt pos.col, .ref c']) (h' := h') I hP (fun b o hb e => hx b o hb e) htb hge ⟨oc, vs, t, hoc, hd, hv⟩
    have hE : ExtN H (upd (upd H P (.tbl (ps ++ #[rawInt pos.line, rawInt pos.col, .ref c']))) c' (CodeO c' (X.env.qual ++ "<lambda>"))) := fun b o e n => by
      rw [upd_ne (ne_of_none e nC), upd_ne (fun z => n ps (Option.some.inj (e.symm.trans (by rw [z]; exact hP))))]
      exact e
    have eL : (ps ++ #[rawInt pos.line, rawInt pos.col, .ref c']).toList = ps.toList ++ [rawInt pos.line, rawInt pos.col, .ref c'] := by simp
    have T1 : Tabs T (upd (upd H P (.tbl (ps ++ #[rawInt pos.line, rawInt pos.col, .ref c']))) c' (CodeO c' (X.env.qual ++ "<lambda>"))) := fun p hp => by
      by_cases hb : p.1 = P
      · rw [hu p hp hb, hb]
        refine ⟨_, by rw [upd_ne (ne_of_none hP nC), upd_same], by rw [eL]; exact PySem.TriplesOk_snoc _ _ _ _ ht, fun p' cv hcv => ?_⟩
        rw [eL] at hcv
        rcases among_app _ ht hcv with z | z
        · obtain ⟨c0, e1, e2⟩ := ha p' cv z
          exact ⟨c0, e1, hE _ _ e2 codeO_ne⟩
        · exact ⟨c', z, upd_same⟩
      · obtain ⟨ps', a1, a2, a3⟩ := hT p hp
        refine ⟨ps', by rw [upd_ne (ne_of_none a1 nC), upd_ne hb]; exact a1, a2, fun p' cv hcv => ?_⟩
        obtain ⟨c0, e1, e2⟩ := a3 p' cv hcv
        exact ⟨c0, e1, hE _ _ e2 codeO_ne⟩
    have nF := I1.hok.fresh (Nat.le_refl _)
    have I2 := inv_lamO (F := ⟨"<lambda>", X.env.qual ++ "<lambda>", params, [], scope, cloFrom X.env.cells scope.names [], c'⟩) (e := body) (t' := tk) (pm := (X.mg "__name__").getD .none) (ctv := ctv) I1
    refine h h'.objs.size c' _ _ I2 (fun b o e n => ?_) (T1.ext fun b o e => ?_) (I.hok.fresh (Nat.le_trans hge (Nat.le_of_lt hlt))) upd_same ?_
    · have e1 := hE b o e n
      exact (upd_ne (ne_of_none e1 nF)).trans e1
    · exact (upd_ne (ne_of_none e nF)).trans e
    · exact (upd_ne (Nat.ne_of_lt hlt)).trans upd_same
  | some cv =>
    obtain ⟨c', e, hco⟩ := ha pos cv hc
    subst e
    refine PySem.W.kla_makeFunctionHit (mg := X.mg) (c := c) (P := P) (ps := ps) (closure_ok hfree) I.ok.glob (I.mod.glob.keeps I.bk) hcode (TB.code.keeps I.bk) hP' ht hc bP fun ctv h' tk hx hsz => ?_
    have I1 : Inv X pins σ H { s with heap := h', toks := tk } := I.kept hx
    have nF : H h'.objs.size = none := I1.hok.fresh (Nat.le_refl _)
    have I2 := inv_lamO (F := ⟨"<lambda>", X.env.qual ++ "<lambda>", params, [], scope, cloFrom X.env.cells scope.names [], c'⟩) (e := body) (t' := tk) (pm := (X.mg "__name__").getD .none) (ctv := ctv) I1
    refine h h'.objs.size c' _ _ I2 (fun b o e n => ?_) (hT.ext fun b o e => ?_) nF upd_same ?_
    · exact (upd_ne (ne_of_none e nF)).trans e
    · exact (upd_ne (ne_of_none e nF)).trans e
    · exact (upd_ne (ne_of_none hco nF)).trans hco
end
end L2
set_option pp.maxSteps 1500
namespace L2
open PySem PySem.Spec PyProof.Rows PySem.GX NdefX LamX
/-! a frame is left, a function that it made goes out: its cells are known from now on -/
section
variable {X : Cx} {σ : L2.St} {H : Hp} {s : Shared} {cl : List (Str × Addr)} {fr : List Str} {ws : List V} {js : List Nat}
def CelV (cl : List (Str × Addr)) (fr : List Str) (ws : List V) (b : Addr) (v : V) : Prop := ∃ (i : Nat) (y : Str), fr[i]? = some y ∧ cl.lookup y = some b ∧ ws[i]? = some v
open Classical in
noncomputable def celV (cl : List (Str × Addr)) (fr : List Str) (ws : List V) (b : Addr) : V := if h : ∃ v, CelV cl fr ws b v then h.choose else .non
theorem celV_is (nd : fr.Nodup) (inj : ∀ x y c, cl.lookup x = some c → cl.lookup y = some c → x = y) {b : Addr} {v : V} (h : CelV cl fr ws b v) : celV cl fr ws b = v := by
  have ex : ∃ v, CelV cl fr ws b v := ⟨v, h⟩
  unfold celV
  rw [dif_pos ex]
  obtain ⟨i, y, e1, e2, e3⟩ := ex.choose_spec
  obtain ⟨j, z, g1, g2, g3⟩ := h
  have := inj y z b e2 g2
  subst this
  have hi := (List.getElem?_eq_some_iff.mp e1).1
  have : i = j := (List.getElem?_inj hi nd).mp (e1.trans g1.symm)
  subst this
  exact Option.some.inj (e3.symm.trans g3)
open Classical in
noncomputable def leaveH (cl : List (Str × Addr)) (fr : List Str) (ws : List V) (H : Hp) : Hp := fun b => if b ∈ cl.map (·.2) then some (CellX b (celV cl fr ws b)) else H b
theorem clo_leave (J : Inv X [] σ H s) (hex : X.ex = []) (hfn : ∀ x, X.fn x = true) (cp : Caps X cl fr js) (nd : fr.Nodup) (hws : js.map (NdefX.slotAt σ) = ws.map some) (hall : ∀ p ∈ cl, p.1 ∈ fr ∧ X.env.cells.lookup p.1 = some p.2) :
    Un X.fs [] X.H_0 (leaveH cl fr ws H) X.s_0.heap s.heap ∧ HOk X.prog X.w (leaveH cl fr ws H) s.heap ∧ (∀ b o, H b = some o → leaveH cl fr ws H b = some o) ∧ CloAt (leaveH cl fr ws H) cl fr ws ∧ (∀ b ∈ cl.map (·.2), H b = none) := by
  have C := cells_of J cp
  rw [hws] at C
  have inj := C.inj
  have clen : ws.length = fr.length := by have := C.len; rwa [List.length_map] at this
  have none' : ∀ b ∈ cl.map (·.2), H b = none := fun b hb => by
    obtain ⟨p, hp, rfl⟩ := List.mem_map.mp hb
    exact J.freeC p.1 p.2 (hall p hp).2
  have big : ∀ b ∈ cl.map (·.2), X.s_0.heap.get? b = none := fun b hb => by
    obtain ⟨p, hp, rfl⟩ := List.mem_map.mp hb
    have h := J.ok.cab p.1 p.2 (hfn _) (hall p hp).2
    cases e : X.s_0.heap.get? p.2 with
    | none => rfl
    | some o => exact absurd (Heap.lt_size e) (Nat.not_lt.mpr h)
  have inn : ∀ {b : Addr}, b ∈ cl.map (·.2) → leaveH cl fr ws H b = some (CellX b (celV cl fr ws b)) := fun {b} hb => by unfold leaveH; rw [if_pos hb]
  have out : ∀ {b : Addr}, b ∉ cl.map (·.2) → leaveH cl fr ws H b = H b := fun {b} hb => by unfold leaveH; rw [if_neg hb]
  have outs : ∀ {b : Addr} {o : HO}, H b = some o → b ∉ cl.map (·.2) := fun {b o} e hb => by rw [none' b hb] at e; cases e
  have keep : ∀ b o, H b = some o → leaveH cl fr ws H b = some o := fun b o e => by rw [out (outs e)]; exact e
  have look : ∀ p ∈ cl, cl.lookup p.1 = some p.2 := fun p hp => cp.sup p.1 (hall p hp).1 p.2 (hall p hp).2
  have val : ∀ b ∈ cl.map (·.2), ∃ v, CelV cl fr ws b v ∧ ∃ u, RelV v u ∧ s.heap.IsCell b (some u) := fun b hb => by
    obtain ⟨p, hp, rfl⟩ := List.mem_map.mp hb
    obtain ⟨i, hi⟩ := List.mem_iff_getElem?.mp (hall p hp).1
    have hil : i < fr.length := (List.getElem?_eq_some_iff.mp hi).1
    have hwi : ws[i]? = some (ws[i]'(by omega)) := List.getElem?_eq_getElem (by omega)
    obtain ⟨c, hc, hv⟩ := C.has i p.1 hi
    have ec : c = p.2 := Option.some.inj (hc.symm.trans (look p hp))
    subst ec
    obtain ⟨u, r, z⟩ := hv (ws[i]'(by omega)) (by rw [List.getElem?_map, hwi]; rfl)
    exact ⟨_, ⟨i, p.1, hi, look p hp, hwi⟩, u, r, z⟩
  have un := J.base
  rw [hex] at un
  refine ⟨?_, fun b o eb => ?_, keep, ⟨clen, fun c hc => ⟨_, inn hc⟩, inj, fun i y e => ?_⟩, none'⟩
  · refine { keep := un.keep, slot := un.slot, free := fun b o eo hb hx => ?_, there := un.there, tups := fun b xs eb => keep _ _ (un.tups b xs eb), frzs := fun b o u eb => keep _ _ (un.frzs b o u eb), tbls := fun b ps eb => ?_ }
    · have : b ∉ cl.map (·.2) := fun m => by rw [big b m] at eo; cases eo
      rw [out this]
      exact un.free b o eo hb hx
    · obtain ⟨more, e⟩ := un.tbls b ps eb
      exact ⟨more, keep _ _ e⟩
  · by_cases hb : b ∈ cl.map (·.2)
    · rw [inn hb] at eb
      cases eb
      obtain ⟨v, cv, u, r, z⟩ := val b hb
      rw [celV_is nd inj cv]
      obtain ⟨ob, ho, hd⟩ := id z
      exact ⟨⟨u, r, z⟩, ⟨ob, ho⟩, fun h1 h2 ⟨u', r', ob', ho', hd'⟩ st => ⟨u', r', ob', st _ ho', hd'⟩⟩
    · rw [out hb] at eb
      exact (J.hok b o eb).stay (fun _ _ _ q => q) (fun c q => keep _ _ q) fun c xs q => keep _ _ q
  · obtain ⟨c, hc, _⟩ := C.has i y e
    refine ⟨c, hc, fun v ev => ?_⟩
    rw [inn (lookup_in hc), celV_is nd inj ⟨i, y, e, hc, ev⟩]
end
end L2
set_option pp.maxSteps 1500
namespace L2
open PySem PySem.Spec PyProof.Rows PySem.GX NdefX LamX
/-! a def that returns a lambda over its own names -/
abbrev RetP := Value → L2.St → Hp → Prop
structure PSr (X : Cx) (sts : List Stmt) (t : RetP → L2.St → Hp → Prop) : Prop where
  run : ∀ (s : Shared) (σ : L2.St) (H : Hp) (R : RetP), Inv X [] σ H s → t R σ H → wpAny (model X.prog X.w) X.A (execs sts X.env) (fun fl s' => ∃ u σ' H', fl = .ret u ∧ Inv X [] σ' H' s' ∧ R u σ' H') X.xe s
section
variable {X : Cx}
theorem psr_cons {st : Stmt} {rest : List Stmt} {t : TS} {u : RetP → L2.St → Hp → Prop} (h1 : PS X st t) (h2 : PSr X rest u) : PSr X (st :: rest) (fun R σ H => t { nx := fun σ' H' => u R σ' H', rt := fun _ _ => False } σ H) := by
  refine ⟨fun s σ H R I h => ?_⟩
  refine wpAny_execs_cons (thn (h1.run [] s σ H { nx := fun σ' H' => u R σ' H', rt := fun _ _ => False } I h) fun f s1 q => ?_)
  cases f with
  | next =>
    obtain ⟨σ', H', I', q⟩ := q
    exact h2.run s1 σ' H' R I' q
  | ret v => obtain ⟨_, _, _, _, _, z⟩ := q; exact z.elim
  | brk => obtain ⟨_, _, _, z⟩ := q; exact z.elim
  | cont => obtain ⟨_, _, _, z⟩ := q; exact z.elim
/-- return lambda ..: .. -/
def tRetLam (T : List (Addr × Str)) (mk : Addr → NF) (body : Expr) : RetP → L2.St → Hp → Prop := fun R σ H => Tabs T H ∧ ∀ (f c' : Addr) (H1 : Hp), ExtN H H1 → Tabs T H1 → H f = none → H1 f = some (LamO f (mk c') body) → H1 c' = some (CodeO c' (mk c').qual) → R (.ref f) σ H1
theorem psr_lam {T : List (Addr × Str)} {c P : Addr} {params : Arguments} {body : Expr} {scope : Scope} {pos rpos : Pos} (TB : TabB X.base X.mg c P) (hcode : X.env.code = .ref c)
    (hm : (P, X.env.qual ++ "<lambda>") ∈ T) (hu : ∀ p ∈ T, p.1 = P → p.2 = X.env.qual ++ "<lambda>") (hdef : defaultsOf params X.env = ([], []))
    (hfree : ∀ y ∈ scope.names, y.2 = .free → X.env.scope.names.lookup y.1 = some .cell ∨ X.env.scope.names.lookup y.1 = some .free) :
    PSr X [.Return (some (.Lambda params body scope pos)) rpos] (tRetLam T (fun c' => ⟨"<lambda>", X.env.qual ++ "<lambda>", params, [], scope, cloFrom X.env.cells scope.names [], c'⟩) body) := by
  refine ⟨fun s σ H R I h => ?_⟩
  obtain ⟨hT, h⟩ := h
  have hfr : ∀ y ∈ scope.names, y.2 = .free → ∃ c, X.env.cells.lookup y.1 = some c := fun y hy e => (hfree y hy e).elim (fun z => I.ok.has _ (.inl z)) fun z => I.ok.has _ (.inr z)
  refine wpAny_execs_cons (thn (Q := fun fl s' => ∃ u σ' H', fl = .ret u ∧ Inv X [] σ' H' s' ∧ R u σ' H') (wpAny_Return_some (lamO_make I TB hcode hm hu hT hdef hfr fun f c' H1 s' I1 eN T1 f0 f1 c1 => ⟨_, σ, H1, rfl, I1, h f c' H1 eN T1 f0 f1 c1⟩)) fun f s1 q => ?_)
  obtain ⟨u, σ', H', rfl, J, r⟩ := q
  exact ⟨u, σ', H', rfl, J, r⟩
end
/-- none of these was known, tables aside -/
def NewC (H : Hp) (cs : List Addr) : Prop := ∀ c ∈ cs, ∀ o, H c = some o → ∃ ps, o = .tbl ps
theorem NewC.back {H H1 : Hp} {cs : List Addr} (n : NewC H1 cs) (s : ExtN H H1) : NewC H cs := fun c hc o e => Classical.byContradiction fun z => z (n c hc o (s c o e fun ps q => z ⟨ps, q⟩))
theorem NewC.hide {H H1 : Hp} {cs : List Addr} (n : NewC H cs) (s : ExtN H H1) : ExtN H (hide H1 cs) := fun b o e ne => by
  rw [hide_out fun m => let ⟨ps, q⟩ := n b m o e; ne ps q]
  exact s b o e ne
/-- the promise of a def that returns a lambda: the cells stand in the heap behind it -/
theorem fnL_of {P : Program} {w : World} {K : PySem.W.Frag} {mg : Str → Option Value} {base : Heap} {k : Nat} {f : Addr} {name qual : Str} {params : Arguments} {body : List Stmt} {scope lsc : Scope} {dV kV doc pm cdv ct oc : Value} {an od : Option Addr}
    {osl : Array (Option Value)} {N ps fr : List Str} {js : List Nat} {sp : Sp} (lk : K.lookup f = some ⟨oc, od, .func (PySem.W.fnOf name qual params body scope dV kV doc pm an cdv ct), osl⟩) (hcd : PySem.W.codeIn K cdv qual = true) (S : FnScope N ps scope)
    (len : ∀ vs H Q E, sp vs H Q E → vs.length = ps.length)
    (hfree : ∀ y ∈ lsc.names, y.2 = .free → scope.names.lookup y.1 = some .cell ∨ scope.names.lookup y.1 = some .free) (hfr : ∀ y ∈ fr, (y, NameKind.free) ∈ lsc.names) (hin : ∀ y ∈ lsc.names, y.2 = .free → y.1 ∈ fr) (nd : fr.Nodup) (hjs : js.map (fun j => N[j]?) = fr.map some)
    (hbody : ∀ (A : Around) (outer : List Env) (s : Shared) (H : Hp) (vs : List V) (Q : VK) (E : XK), Room k (A.deeper (envOfC qual scope s.heap.objs.size f cdv)) → sp vs H Q E →
      ∃ t, PSr (cxOf (fun _ _ _ _ _ _ => False) P w K mg base N qual scope f cdv A outer s H E) body t ∧
        t (fun u σ' H' => ∃ (g : Addr) (ws : List V), u = .ref g ∧ js.map (NdefX.slotAt σ') = ws.map some ∧ ∀ H2, (∀ b o, H' b = some o → H2 b = some o) → CloAt H2 (cloFrom (envOfC qual scope s.heap.objs.size f cdv).cells lsc.names []) fr ws → NewC H' ((cloFrom (envOfC qual scope s.heap.objs.size f cdv).cells lsc.names []).map (·.2)) → Q (.ref g) H2) (start N vs) H) :
    FnOk P w K mg base (fun _ _ _ _ _ _ => False) (k + 1) f (PySem.W.fnOf name qual params body scope dV kV doc pm an cdv ct) ps sp := by
  refine ⟨len, fun A outer s H args us vs Q E hr e0 hb r hsp => ?_⟩
  have hl := len _ _ _ _ hsp
  have KX : K.In s.heap := e0.mod.kin.keeps fun b o e => (e0.bs b o e).1
  have lim : s.heap.NoLimit := e0.mod.nolimit.keeps fun b o e => (e0.bs b o e).1
  have hkind : ∀ y ∈ ps.zip us, scope.names.lookup y.1 = some .local ∨ (scope.names.lookup y.1 = some .cell ∧ ((cellsFrom (s.heap.objs.size + 1) scope.names []).lookup y.1).isSome = true) := fun ⟨n, v⟩ hy => by
    rcases S.par n (List.of_mem_zip hy).1 with q | q
    · exact .inl q
    · exact .inr ⟨q, PySem.W.cellsFrom_some _ _ _ (.inl q)⟩
  refine codeAny_call_function hr.depth (KX _ _ lk) rfl S.co S.gen rfl (PySem.W.codeRec_of KX hcd) (hb _ _ _ _ ?_)
  refine wpAny_newFunctionEnv_cells S.kind hkind fun env he s1 x => ?_
  subst he
  refine ⟨lim.keeps x.toInCall.keep, codeAny_func ?_⟩
  obtain ⟨t, ht, hq⟩ := hbody A outer s H vs Q E (hr.deeper _) hsp
  have I : Inv (cxOf (fun _ _ _ _ _ _ => False) P w K mg base N qual scope f cdv A outer s H E) [] (start N vs) H s1 := inv_start S hr.hd e0 hl r x
  refine wpAny_mono (ht.run s1 (start N vs) H _ I hq) (fun fl s' hs => ?_) fun e s' hs => hs
  obtain ⟨u, σ', H', rfl, J, g, ws, rfl, hws, hk⟩ := hs
  have hf2 : ∀ y ∈ lsc.names, y.2 = .free → ∃ c, (envOfC qual scope s.heap.objs.size f cdv).cells.lookup y.1 = some c := fun y hy e => (hfree y hy e).elim (fun z => J.ok.has _ (.inl z)) fun z => J.ok.has _ (.inr z)
  have cp : Caps (cxOf (fun _ _ _ _ _ _ => False) P w K mg base N qual scope f cdv A outer s H E) (cloFrom (envOfC qual scope s.heap.objs.size f cdv).cells lsc.names []) fr js := Caps.made (scope := lsc) J.ok hfree hfr hjs
  have hall : ∀ p ∈ cloFrom (envOfC qual scope s.heap.objs.size f cdv).cells lsc.names [], p.1 ∈ fr ∧ (envOfC qual scope s.heap.objs.size f cdv).cells.lookup p.1 = some p.2 := fun p hp => by
    rcases cloFrom_mem hp with hm | ⟨h1, h2⟩
    · cases hm
    · obtain ⟨c1, hc⟩ := hf2 _ h1 rfl
      have hc : (envOfC qual scope s.heap.objs.size f cdv).cells.lookup p.1 = some c1 := hc
      have e2 : p.2 = c1 := by
        rw [h2, hc] <;> rfl
      exact ⟨hin _ h1 rfl, by rw [e2]; exact hc⟩
  obtain ⟨un, hok, keep, clo, nn⟩ := clo_leave J rfl (fun _ => rfl) cp nd hws hall
  exact ⟨.ref g, _, J.os, J.bare, un, hok, rfl, hk _ keep clo fun c hc o e => by rw [nn c hc] at e; cases e⟩
end L2
namespace L2
open PySem PySem.Spec PyProof.Rows PySem.GX NdefX LamX
/-- lambda ..: .. as a value -/
def tLamO (T : List (Addr × Str)) (mk : Addr → NF) (body : Expr) : TE := fun _ H Q => Tabs T H ∧ ∀ (f c' : Addr) (H1 : Hp), ExtN H H1 → Tabs T H1 → H f = none → H1 f = some (LamO f (mk c') body) → H1 c' = some (CodeO c' (mk c').qual) → Q (.ref f) H1
theorem pe_lamO {X : Cx} {T : List (Addr × Str)} {c P : Addr} {params : Arguments} {body : Expr} {scope : Scope} {pos : Pos} (TB : TabB X.base X.mg c P) (hcode : X.env.code = .ref c)
    (hm : (P, X.env.qual ++ "<lambda>") ∈ T) (hu : ∀ p ∈ T, p.1 = P → p.2 = X.env.qual ++ "<lambda>") (hdef : defaultsOf params X.env = ([], []))
    (hfree : ∀ y ∈ scope.names, y.2 = .free → X.env.scope.names.lookup y.1 = some .cell ∨ X.env.scope.names.lookup y.1 = some .free) :
    PE X (.Lambda params body scope pos) (tLamO T (fun c' => ⟨"<lambda>", X.env.qual ++ "<lambda>", params, [], scope, cloFrom X.env.cells scope.names [], c'⟩) body) := by
  refine ⟨fun pins s σ H Q I h => ?_⟩
  obtain ⟨hT, h⟩ := h
  have hfr : ∀ y ∈ scope.names, y.2 = .free → ∃ c, X.env.cells.lookup y.1 = some c := fun y hy e => (hfree y hy e).elim (fun z => I.ok.has _ (.inl z)) fun z => I.ok.has _ (.inr z)
  exact lamO_make I TB hcode hm hu hT hdef hfr fun f c' H1 s' I1 eN T1 f0 f1 c1 => ⟨.ref f, H1, I1, rfl, h f c' H1 eN T1 f0 f1 c1⟩
/-- a lambda that captures nothing -/
theorem clo_nil {P : Program} {w : World} {K : PySem.W.Frag} {mg : Str → Option Value} {base : Heap} {k : Nat} {H : Hp} {f : Addr} {F : NF} {e : Expr} {ps : List Str} {sp : List (Option V) → Sp} (hcl : F.cl = []) (ok : COk P w K mg base k f (LamO f F e) F ps [] sp) (h1 : H f = some (LamO f F e)) (h2 : H F.c = some (CodeO F.c F.qual)) : Clo P w K mg base k H f (LamO f F e) F ps [] [] sp := by
  refine ⟨ok, lamO_ne, h1, h2, ⟨rfl, fun c hc => ?_, fun x y c e1 => ?_, fun i y e => by simp at e⟩⟩
  · rw [hcl] at hc
    cases hc
  · rw [hcl] at e1
    cases e1
end L2
set_option pp.maxSteps 1500
namespace L2
open PySem PySem.Spec PyProof.Rows PySem.GX NdefX LamX PySem.W
/-! sorted(list of tuples, key=lambda x: (len(x), x)) -/
section
variable {prog : Program} {w : World} {A : Around} {s : Shared} {K : PySem.W.Frag} {mg : Str → Option Value} {base : Heap}
theorem len_key_call {name qual x : Str} {params : Arguments} {body : Expr} {scope : Scope} {pm ctv : Value} {c' f a : Addr} {us : List Value} {ds : List PyData} {p1 p2 p3 p4 p5 : Pos} {x1 : Nat}
    (hM : Mod K mg base) (hb : ∀ b o, base.get? b = some o → s.heap.get? b = some o) (hlen : mg "len" = none)
    (ho : s.heap.get? f = some (kla_obj name qual params body scope [] pm c' ctv)) (hcr : s.heap.CodeRec (.ref c') qual) (S : NScope [x] [x] [] scope) (hbind : ∀ u : Value, bindArgs (kla_fn name qual params body scope [] pm (.ref c') ctv) ⟨[u], []⟩ = pure [(x, u)])
    (hbody : body = .Tuple [.Call (.Name "len" p1) [.Name x p2] [] p3, .Name x p4] x1 p5) (hg : scope.names.lookup ("len" : Str) = some .globalImplicit) (hxl : scope.names.lookup x = some .local) (hxd : (x == ("__debug__" : Str)) = false)
    (hdep : A.depth < recursionLimit) (ht : IsTup s.heap a us.toArray) (hz : us.length ≤ 1000) (r : ReadsAll s.heap us ds []) :
    wpAny (model prog w) A (call (.ref f) [.ref a]) (KeyPure (.tuple [.int (us.length : Int), .tuple ds]) s) (fun _ _ => False) s := by
  have lim : s.heap.NoLimit := hM.nolimit.keeps hb
  refine wpAny_call (kla_callFunE hdep ho rfl S.co S.gen rfl hcr ?_)
  rw [hbind]
  refine wpAny_pure (wpAny_newFunctionEnv S.nocell (fun y hy => ?_) (fun h₁ hns hsb => ⟨lim.fresh _ hsb, kla_codeExpr ?_⟩) S.kind)
  · have : y = (x, Value.ref a) := by simpa using hy
    rw [this]
    exact hxl
  · have kp : ∀ b o, s.heap.get? b = some o → h₁.get? b = some o := fun b o e => hsb.extBut b o (Nat.ne_of_lt (Heap.lt_size e)) (Heap.get?_push_of_some _ e)
    subst hbody
    obtain ⟨mb, hb1, hb2⟩ := hM.blt
    have hx : ([(x, Value.ref a)] : List (Str × Value)).reverse.lookup x = some (.ref a) := by simp [List.lookup]
    have hbl : bootBuiltins ("len" : Str) = some (.builtin "len") := by decide +kernel
    have leftName : ∀ {p : Pos} {A' : Around} {Q : Value → Shared → Prop} {E : Value → Shared → Prop} {s' : Shared}, s'.heap = h₁ → Q (.ref a) s' → wpAny (model prog w) A' (eval (.Name x p) (newEnv scope s.heap.objs.size mainGlobals [] (qual ++ ".<locals>.") (some f) (.ref c') none builtinsNs)) Q E s' := fun {p A' Q E s'} e q =>
      wpAny_Name (wpAny_loadName_local S.kind hxl (by rw [e]; exact hns) hx q) hxd
    refine wpAny_Tuple_spliced ?_
    refine Calls.spliced_cons ?_
    refine wpAny_Call_Name_kw (Calls.Name_function_global S.kind hg (Calls.loadGlobal_builtin (hM.glob.keeps fun b o e => kp b o (hb b o e)) hlen (hb1.keeps fun b o e => kp b o (hb b o e)) ((hb2 _ (by decide)).trans hbl) ?_) (by decide))
    refine callWith_builtin1 ?_ rfl rfl
    refine Calls.spliced_cons (leftName rfl ?_)
    refine Calls.spliced_nil ?_
    have ht1 : IsTup h₁ a us.toArray := ht.keeps kp
    refine len_tuple ht1 (by simp only [List.size_toArray]; omega) ?_
    refine Calls.spliced_cons (leftName rfl ?_)
    refine Calls.spliced_nil ?_
    refine ⟨by show 2 ≤ sizeLine; decide, ?_⟩
    refine ⟨_, _, rfl, fun b o e => Heap.get?_push_of_some _ (kp _ _ e), ?_⟩
    obtain ⟨ot, h1, h2, nt, h3⟩ := ht
    refine .tuple (Heap.get?_push_size _ rfl) rfl rfl (.cons (as := []) (.int _ _) (.cons (as := []) (.tuple (Heap.get?_push_of_some _ (kp _ _ h1)) h2 h3 ?_) .nil))
    exact ReadsAll.keeps (fun b o e => Heap.get?_push_of_some _ (kp _ _ e)) r
end
/-- the function x: (len(x), x) -/
structure LenLam (F : NF) (e : Expr) : Prop where
  cl : F.cl = []
  sc : ∃ x : Str, NScope [x] [x] [] F.scope ∧ (∀ (pm cdv ctv u : Value), bindArgs (kla_fn F.name F.qual F.params e F.scope [] pm cdv ctv) ⟨[u], []⟩ = pure [(x, u)]) ∧ (∃ p1 p2 p3 p4 p5 x1, e = .Tuple [.Call (.Name "len" p1) [.Name x p2] [] p3, .Name x p4] x1 p5) ∧ F.scope.names.lookup x = some .local ∧ (x == ("__debug__" : Str)) = false
  gl : F.scope.names.lookup ("len" : Str) = some .globalImplicit
def lenKey (z : Addr × List Int) : PyData := .tuple [.int (z.2.length : Int), .tuple (z.2.map .int)]
theorem alike_ints : ∀ (xs ys : List Int), alikeAll (xs.map .int) (ys.map .int) = true
  | [], _ => by simp [alikeAll]
  | _ :: _, [] => by simp [alikeAll]
  | a :: t, b :: u => by
    rw [List.map_cons, List.map_cons, alikeAll, alike_ints t u]
    rfl
theorem reads_ints {h : Heap} : ∀ {ns : List Int} {us : List Value}, Vals (ns.map V.int) us → ReadsAll h us (ns.map .int) []
  | [], _, h => by
    cases h
    exact .nil
  | n :: t, _, h => by
    cases h with
    | cons r rs =>
      obtain ⟨tk, rfl⟩ := r
      exact .cons (as := []) (.int n tk) (reads_ints rs)
theorem depth_ints : ∀ (ns : List Int), PyData.depthAll (ns.map .int) = 0
  | [] => by simp [PyData.depthAll]
  | n :: t => by simp [PyData.depthAll, PyData.depth, depth_ints t]
def rSortedLen (K : PySem.W.Frag) : List V → List V → Hp → VK → Prop := fun vs zs H Q => ∃ (l f : Addr) (F : NF) (e : Expr) (its : List (Addr × List Int)), vs = [.ref l] ∧ zs = [.ref f] ∧ SqL K H l (its.map fun z => V.ref z.1) ∧ (∀ z ∈ its, H z.1 = some (.tup (z.2.map V.int)) ∧ z.2.length ≤ 1000) ∧ H f = some (LamO f F e) ∧ H F.c = some (CodeO F.c F.qual) ∧ LenLam F e ∧
  ∀ p, H p = none → Q (.ref p) (upd H p (.lst ((its.mergeSort (dataLe false lenKey)).map fun z => V.ref z.1)))
section
variable {X : Cx} {k : Nat}
theorem each_refs {its : List (Addr × List Int)} : ∀ {us : List Value}, Vals (its.map fun z => V.ref z.1) us → EachIs (fun v z => v = Value.ref z.1) us its := by
  induction its with
  | nil =>
    intro us h
    cases h
    exact .nil
  | cons z t ih =>
    intro us h
    cases h with
    | cons r rs => exact .cons r (ih rs)
theorem vals_each {its : List (Addr × List Int)} : ∀ {us : List Value}, EachIs (fun v z => v = Value.ref z.1) us its → Vals (its.map fun z => V.ref z.1) us := by
  induction its with
  | nil =>
    intro us h
    cases h
    exact .nil
  | cons z t ih =>
    intro us h
    cases h with
    | cons r rs => exact .cons r (ih rs)
theorem cr_sortedLen (hr : Room k X.A) (hlen : X.mg "len" = none) : CallRK X (.builtin "sorted") [Str.ofString "key"] (rSortedLen X.K) := by
  intro pins s σ H vs zs us ws Q I r rz h
  obtain ⟨l, f, F, e, its, rfl, rfl, hs, hit, hf, hc, LL, q⟩ := h
  obtain rfl := Vals.ref1 r
  obtain ⟨w1, rfl, e1⟩ := vals1 rz
  obtain rfl : w1 = Value.ref f := e1
  obtain ⟨lst, rv, hl, hz⟩ := I.list hs
  obtain ⟨⟨pm, ctv, ho⟩, _, _⟩ := I.hok f _ hf
  obtain ⟨⟨oc, vs', t, hoc, hdc, hvc⟩, _, _⟩ := I.hok F.c _ hc
  obtain ⟨x, S, hbind, ⟨p1, p2, p3, p4, p5, x1, hbody⟩, hxl, hxd⟩ := LL.sc
  rw [LL.cl] at ho
  have hu := hr.units
  refine sorted_key_data (b := false) (R := fun v z => v = Value.ref z.1) (bs := its) lenKey hl.isList (each_refs rv) (AllAlike.of fun z z' => ?_) (Sortable.tuples fun z => ⟨_, _, rfl⟩) (by rw [List.length_map] at hz; exact hz) (fun z _ => ?_) (ksk_s1 _ _) (fun _ => ksk_l1 _ _) (fun _ => ksk_t1 _ _)
    (fun v z hv hm h tk kp => ?_) fun out c h' tk kp _ hD hlen' eo => ?_
  · show alikeAll [.int _, .tuple _] [.int _, .tuple _] = true
    simp only [alikeAll, alike, Bool.true_and, Bool.and_true]
    exact alike_ints _ _
  · have hd : (lenKey z).depth = 2 := by
      unfold lenKey
      simp [PyData.depth, PyData.depthAll, depth_ints]
    omega
  · subst hv
    obtain ⟨ht, hzl⟩ := hit z hm
    obtain ⟨iz, rz', tz, _⟩ := I.tuple (SqT.of ht)
    have hzl2 : iz.length = z.2.length := by rw [← rz'.length, List.length_map]
    have := len_key_call (prog := X.prog) (w := X.w) (A := X.A.in1.in1) (s := { s with heap := h, toks := tk }) (K := X.K) (mg := X.mg) (base := X.base) (c' := F.c) (us := iz) (ds := z.2.map .int) I.mod (fun b o e => kp _ _ (I.bk b o e)) hlen (kp _ _ ho)
      ⟨F.c, oc, vs', t, rfl, kp _ _ hoc, hdc, hvc⟩ S (fun u => hbind pm (.ref F.c) ctv u) hbody LL.gl hxl hxd hr.depth (tz.keeps kp) (by omega) (reads_ints rz')
    rw [hzl2] at this
    exact this
  · have hln : ((its.mergeSort (dataLe false lenKey)).map fun z => V.ref z.1).length ≤ sizeLine := by
      rw [List.length_map, List.length_mergeSort]
      rw [List.length_map] at hz
      exact hz
    refine ⟨.ref _, upd H (s.heap.objs.size + 1) (.lst ((its.mergeSort (dataLe false lenKey)).map fun z => V.ref z.1)), I.laid (t' := tk) kp (Nat.le_succ _) ⟨hln, out, c, vals_each eo, hD⟩, rfl, q _ (I.hok.fresh (Nat.le_succ _))⟩
end
end L2
set_option pp.maxSteps 1500
namespace My
open PySem PySem.Spec PyProof.Rows L2 PySem.GX L2H LamX PySem.W
/-! the lots in their order -/
def lotI (l : List Nat) : List Int := l.map fun k : Nat => (k : Int)
def bitL (n b : Nat) : List Nat := (List.range n).filter fun k => b / 2 ^ k % 2 == 1
def bitsL (n : Nat) : List (List Nat) := (List.range (2 ^ n)).map (bitL n)
def leL : List Int → List Int → Bool := dataLe false fun l : List Int => .tuple [.int (l.length : Int), .tuple (l.map .int)]
def lotChk (n : Nat) : Bool := ((lotsL n).map lotI).isPerm ((bitsL n).map lotI) && decide (((lotsL n).map lotI).Pairwise fun a b => leL a b = true) && ((lotsL n).map lotI).all fun a => ((lotsL n).map lotI).all fun b => !(leL a b && leL b a) || decide (a = b)
theorem lots_chk : ∀ n < 7, lotChk n = true := by decide +kernel
theorem lots_sorted {n : Nat} (hn : n ≤ 6) {its : List (Addr × List Int)} (e : its.map (·.2) = (bitsL n).map lotI) : (its.mergeSort (dataLe false lenKey)).map (·.2) = (lotsL n).map lotI := by
  have h := lots_chk n (by omega)
  unfold lotChk at h
  simp only [Bool.and_eq_true, decide_eq_true_eq, List.all_eq_true, Bool.or_eq_true, Bool.not_eq_true', Bool.and_eq_false_imp] at h
  obtain ⟨⟨h1, h2⟩, h3⟩ := h
  have h1 := List.isPerm_iff.mp h1
  have em : (its.mergeSort (dataLe false lenKey)).map (·.2) = (its.map (·.2)).mergeSort leL := sort_maps (r := dataLe false lenKey) (s := leL) (fun z : Addr × List Int => z.2) (l := its) (fun a _ b _ => rfl)
  rw [em, e]
  have tot : TotalLe leL := by
    unfold leL dataLe
    exact sortLe_total _ _ _
  have p1 := List.mergeSort_perm ((bitsL n).map lotI) leL
  have s1 := sort_pairwise tot ((bitsL n).map lotI)
  refine List.Perm.eq_of_pairwise (fun a b ha hb hab hba => ?_) s1 h2 (p1.trans h1.symm)
  have ha' : a ∈ (lotsL n).map lotI := (h1.mem_iff).mpr (p1.mem_iff.mp ha)
  rcases h3 a ha' b hb with h | h
  · rw [h hab] at hba
    cases hba
  · exact h
end My
set_option pp.maxSteps 1500
namespace My
open PySem PySem.Spec PyProof.Rows L2 PySem.GX L2H NdefX LamX PySem.W
/-! the law's lots -/
theorem walk_rgA {n : Nat} : Walk (Itr 0 (n : Int).toNat) (List.range n).length (fun _ => True) (YFn fun i => .int (i : Int)) := by
  have h : (n : Int).toNat = n := by omega
  rw [List.length_range, h]
  have := walk_range (lo := 0) (n := n)
  have e : (fun i : Nat => V.int (0 + (i : Int))) = fun i : Nat => V.int (i : Int) := funext fun i => by rw [Int.zero_add]
  rw [e] at this
  exact this
theorem range_atA {n i x : Nat} (h : (List.range n)[i]? = some x) : x = i ∧ i < n := by
  have hi := (List.getElem?_eq_some_iff.mp h).1
  rw [List.length_range] at hi
  rw [List.getElem?_range hi] at h
  exact ⟨(Option.some.inj h).symm, hi⟩
def kwLam : Stmt → Arguments × Expr × Scope
  | .Return (some (.Call _ _ [⟨_, .Lambda a e s _, _⟩] _)) _ => (a, e, s)
  | _ => (default, .Constant .none 0 ⟨0, 0, 0, 0⟩, default)
abbrev lamLt := kwLam ((defBody sLotsL).getD 2 (.Pass ⟨0, 0, 0, 0⟩))
abbrev qLt : Str := ("_law_lots.<locals>.<lambda>" : Str)
theorem freeLt : ∀ y ∈ lamLt.2.2.names, y.2 = .free → (defScope sLotsL).names.lookup y.1 = some .cell ∨ (defScope sLotsL).names.lookup y.1 = some .free := by decide +kernel
def mkLt (cl : List (Str × Addr)) (c' : Addr) : NF := ⟨"<lambda>", qLt, lamLt.1, [], lamLt.2.2, cl, c'⟩
theorem len_lt {c' : Addr} : LenLam (mkLt [] c') lamLt.2.1 :=
  ⟨rfl, ⟨"_law_lot", nscope_by (show nscB ["_law_lot"] ["_law_lot"] [] lamLt.2.2 = true by decide +kernel), fun _ _ _ _ => rfl, ⟨_, _, _, _, _, _, rfl⟩, (show lamLt.2.2.names.lookup ("_law_lot" : Str) = some .local by decide +kernel), by decide⟩, (show lamLt.2.2.names.lookup ("len" : Str) = some .globalImplicit by decide +kernel)⟩
theorem its_of : ∀ (L : List (List Nat)) (zs : List (Addr × List V)), zs.map (·.2) = L.map itL → ∃ its : List (Addr × List Int), zs = its.map (fun z => (z.1, z.2.map V.int)) ∧ its.map (·.2) = L.map lotI
  | [], [], _ => ⟨[], rfl, rfl⟩
  | [], _ :: _, h => by cases h
  | _ :: _, [], h => by cases h
  | l :: L, z :: zs, h => by
    rw [List.map_cons, List.map_cons] at h
    injection h with h1 h2
    obtain ⟨its, e1, e2⟩ := its_of L zs h2
    refine ⟨(z.1, lotI l) :: its, ?_, by rw [List.map_cons, List.map_cons, e2]⟩
    rw [List.map_cons, ← e1]
    have : z.2 = (lotI l).map V.int := by
      rw [h1]
      unfold itL lotI
      rw [List.map_map]
      rfl
    rw [← this]
theorem lotI_it (l : List Nat) : (lotI l).map V.int = itL l := by
  unfold itL lotI
  rw [List.map_map]
  rfl
/-- the law's lots in their order -/
def spLotsT (T : List (Addr × Str)) : Sp := fun vs H Q _ => ∃ n : Nat, vs = [.int (n : Int)] ∧ n ≤ 6 ∧ Tabs T H ∧ ∀ (l : Addr) (zs : List (Addr × List V)) (H' : Hp), ExtN H H' → Tabs T H' → (∀ o, (∀ ps, o ≠ .tbl ps) → H l ≠ some o) → H' l = some (.lst (refsL zs)) → TupsH H' zs → zs.map (·.2) = (lotsL n).map itL → Q (.ref l) H'
abbrev pow7 : List Nat := [1, 2, 4, 8, 16, 32, 64]
abbrev pow6 : List Nat := [1, 2, 4, 8, 16, 32]
theorem pow7_at : ∀ n ≤ 6, (itL pow7)[n]? = some (V.int ((2 ^ n : Nat) : Int)) := by
  intro n hn
  have h : ∀ n < 7, pow7[n]? = some (2 ^ n) := by decide
  unfold itL
  rw [List.getElem?_map, h n (by omega)]
  rfl
theorem pow6_at : ∀ n < 6, (itL pow6)[n]? = some (V.int ((2 ^ n : Nat) : Int)) := by
  intro n hn
  have h : ∀ n < 6, pow6[n]? = some (2 ^ n) := by decide
  unfold itL
  rw [List.getElem?_map, h n hn]
  rfl
theorem bit_dec (b x : Nat) : (decide (V.int ((0 + (b : Int)).fdiv ((2 ^ x : Nat) : Int) % 2) = V.int 1)) = (b / 2 ^ x % 2 == 1) := by
  have e : (0 + (b : Int)).fdiv ((2 ^ x : Nat) : Int) % 2 = ((b / 2 ^ x % 2 : Nat) : Int) := by
    rw [Int.fdiv_eq_ediv_of_nonneg _ (Int.natCast_nonneg _), Int.zero_add, Int.natCast_emod, Int.natCast_ediv]
    rfl
  rw [e]
  by_cases h : b / 2 ^ x % 2 = 1
  · rw [h]
    rfl
  · have h2 : (b / 2 ^ x % 2 == 1) = false := by simpa using h
    rw [h2]
    refine decide_eq_false fun z => h ?_
    injection z with z
    omega
theorem bit_fm (n b : Nat) : (List.range n).filterMap (fun k : Nat => if (b / 2 ^ k % 2 == 1) = true then some (V.int (k : Int)) else none) = itL (bitL n b) := by
  unfold itL bitL
  generalize List.range n = xs
  induction xs with
  | nil => rfl
  | cons x t ih =>
    rw [List.filterMap_cons, List.filter_cons]
    split
    · rename_i h
      split at h
      · cases h
      · rename_i h2
        rw [if_neg h2, ih]
    · rename_i v h
      split at h
      · rename_i h2
        rw [if_pos h2, List.map_cons, ih]
        cases h
        rfl
      · cases h
section
variable {P : Program} {w : World} {K : PySem.W.Frag} {mg : Str → Option Value} {base : Heap}
abbrev nLt : List Str := ["_law_size", "_law_found", "_law_bits", "_law_k"]
theorem scLt : FnScope nLt ["_law_size"] (defScope sLotsL) := ⟨rfl, rfl, rfl, by decide +kernel, rfl, by decide +kernel, by decide +kernel⟩
theorem ok_lotsL {g cR PT : Addr} {od an : Option Addr} {oc kV dc pm ct : Value} {osl : Array (Option Value)} {T : List (Addr × Str)} (lk : K.lookup g = some ⟨oc, od, .func (PySem.W.fnOf "_law_lots" "_law_lots" (defArgs sLotsL) (defBody sLotsL) (defScope sLotsL) .none kV dc pm an (.ref cR) ct), osl⟩) (hcd : PySem.W.codeIn K (.ref cR) "_law_lots" = true)
    (TB : TabB base mg cR PT) (hm : (PT, qLt) ∈ T) (hu : ∀ p ∈ T, p.1 = PT → p.2 = qLt) (hL : mg "len" = none) (hR : mg "range" = none) (hTu : mg "tuple" = none) (hSo : mg "sorted" = none) :
    FnOk P w K mg base CX0 1 g (PySem.W.fnOf "_law_lots" "_law_lots" (defArgs sLotsL) (defBody sLotsL) (defScope sLotsL) .none kV dc pm an (.ref cR) ct) ["_law_size"] (spLotsT T) := by
  refine fn_of lk hcd scLt (fun vs H Q E h => ?_) (fun A outer s H vs Q E hr h => ?_)
  · obtain ⟨n, rfl, _⟩ := h
    rfl
  · obtain ⟨n, rfl, hn, hT, k⟩ := h
    suffices hh : ∃ t, PSs (cxOf CX0 P w K mg base nLt "_law_lots" (defScope sLotsL) g (.ref cR) A outer s H E).nox (defBody sLotsL) t ∧ t { nx := fun _ H' => Q .non H', rt := Q } (L2.start nLt [.int (n : Int)]) H from by
      obtain ⟨t, h1, h2⟩ := hh
      exact ⟨t, h1.nox, h2⟩
    refine ⟨_, pss_cons (ps_set (i := 1) scLt.nd rfl (Or.inl rfl) (pe_lst pa_nil))
      (pss_cons (ps_for PassesOwn.never rfl (pi_range1 rfl hR (pa_cons (pe_ix ix_list (pe_lst (pa_cons pe_int (pa_cons pe_int (pa_cons pe_int (pa_cons pe_int (pa_cons pe_int (pa_cons pe_int (pa_cons pe_int pa_nil)))))))) (pv 0) (fun _ _ => rfl)) pa_nil)) (pg_name (i := 2) scLt.nd rfl (Or.inr rfl))
        (pss_one (ps_expr (pe_bm PySem.F.plainAttrs_list PySem.F.slot_list_append PySem.F.type_list_append mt_append (pv 1) (pa_cons (pe_callTy call_tuple_of (by rfl) hTu (by decide +kernel) (pa_cons
          (pe_lc (own := [("_law_k", 3)]) (g := gName 3) rfl scLt.nd (pi_range1 rfl hR (pa_cons (pv 0) pa_nil)) (blkOk_by (N := nLt) (sc := defScope sLotsL) (by decide +kernel)) (fun _ _ _ _ _ => pg_name (i := 3) scLt.nd rfl (Or.inl rfl))
            (fun _ _ _ _ _ => pts_one (pt_cmpR op_eq (pe_op op_mod (pe_op op_fdivN (pv 2) (pe_ix (ix_listK (K := K) rfl) (pe_lst (pa_cons pe_int (pa_cons pe_int (pa_cons pe_int (pa_cons pe_int (pa_cons pe_int (pa_cons pe_int pa_nil))))))) (pv 3) (fun _ _ => rfl))) pe_int) pe_int (nomark _)))
            (fun _ _ _ _ _ => pv 3)) pa_nil)) pa_nil)))))
      (pss_one (ps_ret (pe_callBK (cr_sortedLen hr hL) (by rfl) hSo (by decide +kernel) (pa_cons (pv 1) pa_nil) (pk_cons (pe_lamO (T := T) (c := cR) (P := PT) TB rfl hm hu rfl freeLt) pk_nil))))), ?_⟩
    refine ⟨by show 0 ≤ sizeLine; decide, fun l hl => ?_⟩
    have sH := same_new (o := .lst []) hl
    have el := upd_same (a := l) (H := H) (o := .lst [])
    have nl0 : ∀ b o, H b = some o → b ≠ l := fun b o e => ne_of_none e hl
    generalize upd H l (.lst []) = H1 at sH el ⊢
    obtain ⟨N, hN⟩ : ∃ N, N = 2 ^ n := ⟨_, rfl⟩
    have hp7 := pow7_at n hn
    rw [← hN] at hp7
    refine ⟨by show 7 ≤ sizeLine; decide, fun l7 h7 => ⟨_, rfl, l7, _, _, V.int (N : Int), rfl, rfl, SqL.of upd_same, atI_nat hp7, ?_⟩⟩
    have s2 := same_new (o := .lst [V.int 1, V.int 2, V.int 4, V.int 8, V.int 16, V.int 32, V.int 64]) h7
    have el2 := s2 _ _ el
    generalize upd H1 l7 (.lst [V.int 1, V.int 2, V.int 4, V.int 8, V.int 16, V.int 32, V.int 64]) = H2 at s2 el2 ⊢
    clear h7
    have sH2 := sH.trans s2
    have hT2 := hT.ext sH2
    have nl2 : ∀ b o, H b = some o → b ≠ l := nl0
    have z64 : N ≤ 64 := by
      have h : ∀ n < 7, 2 ^ n ≤ 64 := by decide
      rw [hN]
      exact h n (by omega)
    refine ⟨N, rfl, by omega, by omega, for_range (n := N) (fun j σ H' => ∃ (zs : List (Addr × List V)) (v2 v3 : Option V), σ = [some (.int (n : Int)), some (.ref l), v2, v3] ∧ KpM l H2 H' ∧ H' l = some (.lst (refsL zs)) ∧ zs.map (·.2) = ((bitsL n).take j).map itL ∧ TupsH H' zs)
      ⟨[], none, none, rfl, KpM.refl _, el2, rfl, fun z hz => by cases hz⟩ (fun j σ H3 hj h => ?_) (fun σ H3 h => ?_)⟩
    · obtain ⟨zs, v2, v3, rfl, ks, eL, em, hZ⟩ := h
      have zl : zs.length = ((bitsL n).take j).length := by
        have := congrArg List.length em
        rwa [List.length_map, List.length_map] at this
      have zl64 : zs.length ≤ 64 := by
        rw [zl]
        refine Nat.le_trans (List.length_take_le _ _) ?_
        omega
      refine ⟨_, rfl, .inl ⟨rfl, _, SqL.of eL⟩, _, rfl, n, rfl, by omega, by omega, fun D hD => ?_⟩
      have nlD : D ≠ l := fun z => by rw [z, eL] at hD; cases hD
      refine lcG (List.range n) (fun k : Nat => if (j / 2 ^ k % 2 == 1) = true then some (V.int (k : Int)) else none) walk_rgA (by rw [List.length_range]; omega) hD (fun i H x H' h => by rw [h.1]; exact Same.refl _) (fun _ _ => trivial) (fun i x y H6 H7 k1 hx sj hy k2 => ?_) (fun H4 s4 e4 => ?_)
      · obtain ⟨rfl, rfl⟩ := hy
        obtain ⟨rfl, hxl⟩ := range_atA hx
        refine ⟨rfl, _, rfl, by show 6 ≤ sizeLine; decide, fun l6 h6 => ⟨_, rfl, l6, _, _, V.int ((2 ^ x : Nat) : Int), rfl, rfl, SqL.of upd_same, atI_nat (pow6_at x (by omega)), _, _, rfl, rfl, ?_, _, _, rfl, rfl, (by show (0 : Int) < 2; decide), rfl, _, rfl, ?_⟩⟩
        · have z32 : ∀ x < 6, 0 < 2 ^ x ∧ 2 ^ x ≤ 32 := by decide
          have := z32 x (by omega)
          generalize 2 ^ x = y at this
          constructor
          · omega
          · show (y : Int).natAbs < _
            omega
        · have kk := k2 _ (same_new (o := .lst [V.int 1, V.int 2, V.int 4, V.int 8, V.int 16, V.int 32]) h6)
          show if (decide (V.int ((0 + (j : Int)).fdiv ((2 ^ x : Nat) : Int) % 2) = V.int 1)) = true then _ else _
          rw [bit_dec]
          refine ite2 (fun c => ?_) (fun c => ?_)
          · rw [if_pos c] at kk
            exact ⟨_, rfl, kk⟩
          · rw [if_neg c] at kk
            exact kk
      · rw [bit_fm] at e4
        refine ⟨D, _, rfl, .inl ⟨SqL.of e4, fun tp htp => ?_⟩⟩
        have s5 := s4.trans (same_new (o := .tup (itL (bitL n j))) htp)
        have e5 : upd H4 tp (.tup (itL (bitL n j))) tp = some (.tup (itL (bitL n j))) := upd_same
        generalize upd H4 tp (.tup (itL (bitL n j))) = H5 at s5 e5 ⊢
        have eL5 := s5 _ _ eL
        have ntp : tp ≠ l := fun z => by rw [z, eL5] at e5; cases e5
        refine ⟨l, _, _, rfl, rfl, eL5, by unfold refsL; rw [List.length_map, sizeLine_eq]; omega, zs ++ [(tp, itL (bitL n j))], _, _, rfl, (ks.same s5).upd, ?_, ?_, ?_⟩
        · rw [upd_same]
          unfold refsL
          rw [List.map_append]
          rfl
        · rw [List.map_append, em, List.take_add_one]
          have : (bitsL n)[j]? = some (bitL n j) := by
            unfold bitsL
            rw [List.getElem?_map, List.getElem?_range (by omega)]
            rfl
          rw [this, List.map_append]
          rfl
        · intro z hz
          rcases List.mem_append.mp hz with m | m
          · have e := s5 _ _ (hZ z m)
            rw [upd_ne (fun q => by rw [q, eL5] at e; cases e)]
            exact e
          · rw [List.mem_singleton.mp m]
            rw [upd_ne ntp]
            exact e5
    · obtain ⟨zs, v2, v3, rfl, ks, eL, em, hZ⟩ := h
      have eb : (bitsL n).take N = bitsL n := List.take_of_length_le (by unfold bitsL; rw [List.length_map, List.length_range]; omega)
      rw [eb] at em
      obtain ⟨its, rfl, ei⟩ := its_of (bitsL n) zs em
      have kH : Same H H3 := fun b o e => ks b o (nl0 b o e) (sH2 b o e)
      refine ⟨_, rfl, hT.ext kH, fun f c' H4 eN T4 f0 f1 c1 => ?_⟩
      refine ⟨l, f, mkLt [] c', lamLt.2.1, its, rfl, rfl, ?_, fun z hz => ?_, f1, c1, len_lt, fun p hp => ?_⟩
      · have e : refsL (its.map fun z => (z.1, z.2.map V.int)) = its.map fun z => V.ref z.1 := by
          unfold refsL
          rw [List.map_map]
          rfl
        rw [← e]
        exact SqL.of (eN _ _ eL fun _ z => by cases z)
      · refine ⟨eN _ _ (hZ _ (List.mem_map.mpr ⟨z, hz, rfl⟩)) (fun _ z => by cases z), ?_⟩
        have h1 : z.2 ∈ (bitsL n).map lotI := by
          rw [← ei]
          exact List.mem_map.mpr ⟨z, hz, rfl⟩
        obtain ⟨q, hq, e⟩ := List.mem_map.mp h1
        obtain ⟨b, _, e2⟩ := List.mem_map.mp hq
        rw [← e, ← e2]
        unfold lotI bitL
        rw [List.length_map]
        refine Nat.le_trans (List.length_filter_le _ _) ?_
        rw [List.length_range]
        omega
      · have es := lots_sorted hn ei
        generalize hR : its.mergeSort (dataLe false lenKey) = R at es ⊢
        have hmem : ∀ z ∈ R, z ∈ its := fun z hz => by
          rw [← hR] at hz
          exact (List.mergeSort_perm its _).mem_iff.mp hz
        refine k p (R.map fun z => (z.1, z.2.map V.int)) _ (fun b o e nt => ?_) ((T4.ext (same_new hp))) ?_ ?_ (fun z hz => ?_) ?_
        · have e1 := eN _ _ (kH _ _ e) nt
          rw [upd_ne (ne_of_none e1 hp)]
          exact e1
        · intro o nt e
          rw [eN _ _ (kH _ _ e) nt] at hp
          cases hp
        · rw [upd_same]
          unfold refsL
          rw [List.map_map]
          rfl
        · obtain ⟨y, hy, rfl⟩ := List.mem_map.mp hz
          have e1 := eN _ _ (hZ _ (List.mem_map.mpr ⟨y, hmem y hy, rfl⟩)) (fun _ z => by cases z)
          have e2 := keep1 (o := .lst (R.map fun z => V.ref z.1)) e1 hp
          exact e2
        · rw [List.map_map, show ((fun z : Addr × List V => z.2) ∘ fun z : Addr × List Int => (z.1, z.2.map V.int)) = (fun l : List Int => l.map V.int) ∘ fun z : Addr × List Int => z.2 from rfl, ← List.map_map, es, List.map_map]
          exact List.map_congr_left fun l _ => lotI_it l
end
end My
namespace My
open PySem PySem.Spec PyProof.Rows L2 PySem.GX L2H LamX
/-- what isinstance asks of a class -/
structure InC (K : PySem.W.Frag) (C : Addr) : Prop where
  cl : Cls K C
  ha : PySem.W.findIn K (.ref C) "__class__" = some (some (.builtin "object.__class__"))
  hn : PySem.W.specialIn K (.builtin "object.__class__") "__get__" = some (some (.builtin "getset_descriptor.__get__"))
  tk : PySem.W.takesIn K (.builtin "object.__class__") = some true
  mo : PySem.W.mroIn K C (.type "object") = some true
  kit : PySem.W.kitOne K (.ref C) (.ref C) = some true
def spCkRule (CU : Addr) : Sp := fun vs H Q _ => ∃ (r : Addr) (t : Str) (p : Parts), vs = [.ref r] ∧ RuleAt H CU r t p ∧ ∀ H', Same H H' → Q .non H'
/-- one-tuples of words -/
def onesL (zs : List (Addr × Str)) : List V := zs.map fun z => V.ref z.1
def OnesH (H : Hp) (zs : List (Addr × Str)) : Prop := ∀ z ∈ zs, H z.1 = some (.tup [.str z.2])
theorem OnesH.same {H H' : Hp} {zs : List (Addr × Str)} (h : OnesH H zs) (s : Same H H') : OnesH H' zs := fun z hz => s _ _ (h z hz)
/-- wishes about rows -/
abbrev Wsh := Addr × Str × Str
def wishR (zs : List Wsh) : List V := zs.map fun z => V.ref z.1
def WshH (H : Hp) (zs : List Wsh) : Prop := ∀ z ∈ zs, H z.1 = some (.tup [.str z.2.1, .str z.2.2]) ∧ RowW z.2.1 ∧ LinL z.2.2
theorem WshH.same {H H' : Hp} {zs : List Wsh} (h : WshH H zs) (s : Same H H') : WshH H' zs := fun z hz => ⟨s _ _ (h z hz).1, (h z hz).2⟩
def turnsP (p : Parts) (ms : List Str) : Parts := ms.foldl turnP p
theorem turns_snoc (p : Parts) (ms : List Str) (m : Str) : turnsP p (ms ++ [m]) = turnP (turnsP p ms) m := by unfold turnsP; rw [List.foldl_append]; rfl
theorem turns_ok {p : Parts} (ok : PartsOk p) : ∀ ms : List Str, PartsOk (turnsP p ms) ∧ (turnsP p ms).ms = p.ms ∧ (turnsP p ms).sg = p.sg := by
  suffices h : ∀ (n : Nat) (ms : List Str), ms.length = n → PartsOk (turnsP p ms) ∧ (turnsP p ms).ms = p.ms ∧ (turnsP p ms).sg = p.sg from fun ms => h _ ms rfl
  intro n
  induction n with
  | zero =>
    intro ms h
    have : ms = [] := List.eq_nil_of_length_eq_zero h
    subst this
    exact ⟨ok, rfl, rfl⟩
  | succ n ih =>
    intro ms h
    rcases List.eq_nil_or_concat ms with rfl | ⟨xs, m, rfl⟩
    · cases h
    · rw [List.concat_eq_append] at h ⊢
      obtain ⟨a, b, c⟩ := ih xs (by rw [List.length_append] at h; simpa using h)
      rw [turns_snoc]
      exact ⟨turn_ok a m, b, c⟩
def seen1 (ms : List Str) : List (List Key × V) := ms.map fun m => ([Sum.inr m], V.bl true)
theorem seen1_no {m : Str} : ∀ {ms : List Str}, m ∉ ms → valV (seen1 ms) [Sum.inr m] = none
  | [], _ => rfl
  | a :: t, h => by
    rw [show seen1 (a :: t) = ([Sum.inr a], V.bl true) :: seen1 t from rfl, valV_neg (fun z => h ?_)]
    · exact seen1_no fun z => h (List.mem_cons_of_mem _ z)
    · injection z with z _
      injection z with z
      rw [← z]
      exact List.mem_cons_self ..
theorem seen1_snoc {ms : List Str} {m : Str} (h : m ∉ ms) : putK (seen1 ms) [Sum.inr m] (.bl true) = seen1 (ms ++ [m]) := by
  rw [putK_new _ (seen1_no h)]
  unfold seen1
  rw [List.map_append]
  rfl
def spCkWish : Sp := fun vs H Q _ => ∃ (W : Addr) (zs : List Wsh), vs = [.ref W] ∧ H W = some (.tup (wishR zs)) ∧ WshH H zs ∧ ∀ H', Same H H' → Q .non H'
def spIsChg (C : Addr) : Sp := fun vs H Q _ => ∃ (a c : Addr) (m t : Str) (p : Parts), vs = [.ref a, .ref c] ∧ RuleAt H C a t p ∧ H c = some (.tup [.str m]) ∧ Q (.bl (decide (m ∈ p.ms))) H
def spCkChg (C : Addr) : Sp := fun vs H Q _ => ∃ (a W : Addr) (t : Str) (p : Parts) (zs : List (Addr × Str)), vs = [.ref a, .ref W] ∧ RuleAt H C a t p ∧ H W = some (.tup (onesL zs)) ∧ OnesH H zs ∧ zs.length ≤ 6 ∧ (zs.map (·.2)).Nodup ∧ (∀ z ∈ zs, z.2 ∈ p.ms) ∧ ∀ H', Same H H' → Q .non H'
def spChanged (C : Addr) : Sp := fun vs H Q _ => ∃ (a l : Addr) (t : Str) (p : Parts) (zs : List (Addr × Str)), vs = [.ref a, .ref l] ∧ RuleAt H C a t p ∧ PartsOk p ∧ p.ms.length ≤ 20 ∧ H l = some (.lst (onesL zs)) ∧ OnesH H zs ∧ (∀ z ∈ zs, z.2 ∈ p.ms) ∧ ∀ (b : Addr) (t' : Str) (H' : Hp), Same H H' → RuleAt H' C b t' (turnsP p (zs.map (·.2))) → Q (.ref b) H'
section
variable {P : Program} {w : World} {K : PySem.W.Frag} {mg : Str → Option Value} {base : Heap} {CU : Addr}
theorem isi_rule {H : Hp} {r : Addr} {t : Str} {p : Parts} (I : InC K CU) (h : RuleAt H CU r t p) : TyX K H (.ref r) (.ref CU) := by
  obtain ⟨dx, M, G, D, e, _⟩ := h
  exact .base (.ins e I.cl I.ha I.hn I.tk I.mo)
theorem scCkRule : FnScope ["value"] ["value"] (defScope sCRule) := ⟨rfl, rfl, rfl, by decide +kernel, rfl, by decide +kernel, by decide +kernel⟩
theorem ok_ckRule {f : Addr} {fd : FuncData} (F : Fun K "check_rule" "check_rule" sCRule f fd) (I : InC K CU) (hIs : mg "isinstance" = none) (gU : mg "Rule" = some (.ref CU)) : FnOk P w K mg base CX0 1 f fd ["value"] (spCkRule CU) := by
  refine F.ok scCkRule (fun vs H Q E h => ?_) (fun cdv A outer s H vs Q E hr h => ?_)
  · obtain ⟨r, t, p, rfl, _⟩ := h
    rfl
  · obtain ⟨r, t, p, rfl, hR, k⟩ := h
    refine ⟨_, pss_one (ps_if (pt_not (pt_val (pe_callB call_isi (by rfl) hIs (by decide +kernel) (pa_cons (pv 0) (pa_cons (pe_glob (v := .ref CU) rfl gU rfl) pa_nil))))) (pss_one ps_never) pss_nil), ?_⟩
    exact ⟨_, rfl, .ref r, .ref CU, _, .ref CU, true, rfl, .own _, isi_rule I hR, I.kit, _, rfl, iteF (k H (Same.refl _))⟩
abbrev nCkW : List Str := ["wishes", "index", "wish"]
theorem scCkW : FnScope nCkW ["wishes"] (defScope sCkWish) := ⟨rfl, rfl, rfl, by decide +kernel, rfl, by decide +kernel, by decide +kernel⟩
theorem ok_ckWish {f tK : Addr} {fd : FuncData} (F : Fun K "check_wishes" "check_wishes" sCkWish f fd) (hW : Hv P w K mg base 3 "is_wish" ["value", "kinds"] spIsWishR) (gK : mg "KINDS_WITHOUT_SETS" = some (.ref tK)) (hIs : mg "isinstance" = none) (hTu : mg "tuple" = none) (hEn : mg "enumerate" = none) : FnOk P w K mg base CX0 4 f fd ["wishes"] spCkWish := by
  refine F.ok scCkW (fun vs H Q E h => ?_) (fun cdv A outer s H vs Q E hr h => ?_)
  · obtain ⟨W, zs, rfl, _⟩ := h
    rfl
  · obtain ⟨W, zs, rfl, eW, hZ, k⟩ := h
    refine ⟨_, pss_cons (ps_if (pt_not (pt_val (pe_callB call_isi (by rfl) hIs (by decide +kernel) (pa_cons (pv 0) (pa_cons (pe_bltn (v := .ty "tuple") (by rfl) hTu (by decide +kernel) rfl) pa_nil))))) (pss_one ps_never) pss_nil)
      (pss_one (ps_for PassesOwn.never rfl (pi_enumT rfl hEn (pa_cons (pv 0) pa_nil)) (pg_tup (by rfl) (pgs_cons (pg_name (i := 1) scCkW.nd rfl (Or.inl rfl)) (pgs_cons (pg_name (i := 2) scCkW.nd rfl (Or.inl rfl)) pgs_nil)))
        (pss_one (ps_if (pt_not (pt_val (pe_cl hW hr rfl pass0 (pa_cons (pv 2) (pa_cons (pe_glob (v := .ref tK) rfl gK rfl) pa_nil))))) (pss_one ps_never) pss_nil)))), ?_⟩
    refine ⟨_, rfl, .ref W, .ty "tuple", _, .type "tuple", true, rfl, .ty _, .base (.tup eW), kit_ty (by decide +kernel), _, rfl, iteF ?_⟩
    refine ⟨_, rfl, W, _, rfl, SqT.of eW, ?_⟩
    have wk := walk_enumT (K := K) (a := W) (xs := wishR zs)
    rw [show (wishR zs).length = zs.length by unfold wishR; rw [List.length_map]] at wk
    refine for_it wk (fun i σ H' => (∃ v1 v2 : Option V, σ = [some (.ref W), v1, v2]) ∧ Same H H') ⟨⟨none, none, rfl⟩, Same.refl _⟩ (fun i σ H' _ h => SqT.of (h.2 _ _ eW)) (fun i y σ H' H'' hi h hy => ?_) (fun σ H' h => ?_)
    · obtain ⟨T, x, rfl, hT, rfl, hx⟩ := hy
      obtain ⟨⟨v1, v2, rfl⟩, st⟩ := h
      have hz : zs[i]? = some zs[i] := List.getElem?_eq_getElem hi
      obtain rfl := map_get hz hx
      obtain ⟨e1, e2, e3⟩ := hZ _ (List.mem_of_getElem? hz)
      have s1 := st.trans (same_new (o := .tup [.int (i : Nat), V.ref zs[i].1]) hT)
      refine ⟨T, _, rfl, SqT.of upd_same, rfl, _, _, rfl, _, _, rfl, rfl, ?_⟩
      refine ⟨_, rfl, zs[i].1, _, zs[i].2.1, zs[i].2.2, rfl, s1 _ _ e1, e2, e3, fun H3 s3 => ⟨_, rfl, iteF ⟨⟨_, _, rfl⟩, s1.trans s3⟩⟩⟩
    · exact k _ h.2
theorem scIsChg : FnScope ["rule", "value"] ["rule", "value"] (defScope sIsChange) := ⟨rfl, rfl, rfl, by decide +kernel, rfl, by decide +kernel, by decide +kernel⟩
theorem ok_isChg {f C : Addr} {fd : FuncData} (F : Fun K "is_change" "is_change" sIsChange f fd) (T : RuC K C) (hM : HvM P w K mg base 1 C "is_mood" ["self", "mood"] (spIsMood C)) (hIs : mg "isinstance" = none) (hTu : mg "tuple" = none) (hL : mg "len" = none) : FnOk P w K mg base CX0 2 f fd ["rule", "value"] (spIsChg C) := by
  refine F.ok scIsChg (fun vs H Q E h => ?_) (fun cdv A outer s H vs Q E hr h => ?_)
  · obtain ⟨a, c, m, t, p, rfl, _⟩ := h
    rfl
  · obtain ⟨a, c, m, t, p, rfl, hA, ec, k⟩ := h
    refine ⟨_, pss_cons (ps_if (pt_not (pt_val (pe_callB call_isi (by rfl) hIs (by decide +kernel) (pa_cons (pv 1) (pa_cons (pe_bltn (v := .ty "tuple") (by rfl) hTu (by decide +kernel) rfl) pa_nil))))) (pss_one ps_never) pss_nil)
      (pss_cons (ps_if (pt_cmpR op_eq (pe_callB call_len_seq (by rfl) hL PySem.boot_len (pa_cons (pv 1) pa_nil)) pe_int (nomark _)) (pss_one ps_never) pss_nil)
      (pss_one (ps_ret (pe_and (pe_cmpR op_eq (pe_callB call_len_seq (by rfl) hL PySem.boot_len (pa_cons (pv 1) pa_nil)) pe_int (nomark _)) (pe_one (pe_mt hM (pv 0) T.cl hr pass0 (pa_cons (pe_ix ix_tup (pv 1) pe_int (fun _ _ => rfl)) pa_nil))))))), ?_⟩
    obtain ⟨dx, M, G, D, e1, e2, e3, e4⟩ := id hA
    refine ⟨_, rfl, .ref c, .ty "tuple", _, .type "tuple", true, rfl, .ty _, .base (.tup ec), kit_ty (by decide +kernel), _, rfl, iteF ?_⟩
    refine ⟨_, rfl, c, _, rfl, .inr (SqT.of ec), rfl, _, rfl, iteF ?_⟩
    refine ⟨_, rfl, c, _, rfl, .inr (SqT.of ec), rfl, _, rfl, iteT ?_⟩
    exact ⟨_, rfl, a, dx, _, rfl, e1, rfl, _, rfl, c, _, _, V.str m, rfl, rfl, SqT.of ec, atI_nat (j := 0) rfl, a, m, t, p, rfl, hA, k⟩
abbrev nCkC : List Str := ["rule", "changes", "changed", "index", "change", "place"]
theorem scCkC : FnScope nCkC ["rule", "changes"] (defScope sCkChg) := ⟨rfl, rfl, rfl, by decide +kernel, rfl, by decide +kernel, by decide +kernel⟩
theorem ok_ckChg {f C : Addr} {fd : FuncData} {tM : Tok} (F : Fun K "check_changes" "check_changes" sCkChg f fd) (hI : Hv P w K mg base 2 "is_change" ["rule", "value"] (spIsChg C)) (gM : mg "MOST_CHANGES" = some (.int 6 tM)) (hIs : mg "isinstance" = none) (hTu : mg "tuple" = none) (hEn : mg "enumerate" = none) : FnOk P w K mg base CX0 3 f fd ["rule", "changes"] (spCkChg C) := by
  refine F.ok scCkC (fun vs H Q E h => ?_) (fun cdv A outer s H vs Q E hr h => ?_)
  · obtain ⟨a, W, t, p, zs, rfl, _⟩ := h
    rfl
  · obtain ⟨a, W, t, p, zs, rfl, hA, eW, hZ, zl, nd, hin, k⟩ := h
    have hu := hu_of hr
    refine ⟨_, pss_cons (ps_if (pt_not (pt_val (pe_callB call_isi (by rfl) hIs (by decide +kernel) (pa_cons (pv 1) (pa_cons (pe_bltn (v := .ty "tuple") (by rfl) hTu (by decide +kernel) rfl) pa_nil))))) (pss_one ps_never) pss_nil)
      (pss_cons (ps_set (i := 2) scCkC.nd rfl (Or.inl rfl) pe_dnewT)
      (pss_one (ps_for PassesOwn.never rfl (pi_enumT rfl hEn (pa_cons (pv 1) pa_nil)) (pg_tup (by rfl) (pgs_cons (pg_name (i := 3) scCkC.nd rfl (Or.inl rfl)) (pgs_cons (pg_name (i := 4) scCkC.nd rfl (Or.inl rfl)) pgs_nil)))
        (pss_cons (ps_if (PW.pt (pw_or (pt_cmpR op_eq (pv 3) (pe_glob (v := .int 6) rfl gM ⟨_, rfl⟩) (nomark _)) (pw_or1 (pt_not (pt_val (pe_cl hI hr rfl pass0 (pa_cons (pv 0) (pa_cons (pv 4) pa_nil)))))))) (pss_one ps_never) pss_nil)
        (pss_cons (ps_set (i := 5) scCkC.nd rfl (Or.inl rfl) (pe_slice sl_tupA (pv 4) po_none (po_some pe_int)))
        (pss_cons (ps_if (pt_cmp (pc_din hu (pv 5) (pv 2))) (pss_one ps_never) pss_nil)
        (pss_one (ps_dput hu (pv 2) (pv 5) pe_bl rfl)))))))), ?_⟩
    refine ⟨_, rfl, .ref W, .ty "tuple", _, .type "tuple", true, rfl, .ty _, .base (.tup eW), kit_ty (by decide +kernel), _, rfl, iteF ?_⟩
    refine fun D hD => ⟨_, rfl, W, _, rfl, SqT.of (keep1 eW hD), ?_⟩
    have sH := same_new (o := .dT []) hD
    have eD : upd H D (.dT []) D = some (.dT []) := upd_same
    have nD : ∀ b o, H b = some o → b ≠ D := fun b o e => ne_of_none e hD
    generalize upd H D (.dT []) = H1 at sH eD ⊢
    have wk := walk_enumT (K := K) (a := W) (xs := onesL zs)
    rw [show (onesL zs).length = zs.length by unfold onesL; rw [List.length_map]] at wk
    have fin : ∀ H', KpM D H1 H' → Same H H' := fun H' ks b o e => ks b o (nD b o e) (sH b o e)
    refine for_it wk (fun i σ H' => (∃ v3 v4 v5 : Option V, σ = [some (.ref a), some (.ref W), some (.ref D), v3, v4, v5]) ∧ KpM D H1 H' ∧ H' D = some (.dT (seen1 ((zs.take i).map (·.2))))) ⟨⟨none, none, none, rfl⟩, KpM.refl _, eD⟩ (fun i σ H' _ h => SqT.of (fin _ h.2.1 _ _ eW)) (fun i y σ H' H'' hi h hy => ?_) (fun σ H' h => ?_)
    · obtain ⟨T, x, rfl, hT, rfl, hx⟩ := hy
      obtain ⟨⟨v3, v4, v5, rfl⟩, ks, eD2⟩ := h
      have hz : zs[i]? = some zs[i] := List.getElem?_eq_getElem hi
      obtain rfl := map_get hz hx
      have hzm := List.mem_of_getElem? hz
      have e1 := hZ _ hzm
      have s1 := (fin _ ks).trans (same_new (o := .tup [.int (i : Nat), V.ref zs[i].1]) hT)
      have eD3 := keep1 (o := .tup [.int (i : Nat), V.ref zs[i].1]) eD2 hT
      refine ⟨T, _, rfl, SqT.of upd_same, rfl, _, _, rfl, _, _, rfl, rfl, ?_⟩
      have ni : decide (V.int (i : Int) = V.int 6) = false := decide_eq_false fun z => by injection z with z; omega
      have no : zs[i].2 ∉ (zs.take i).map (·.2) := by
        intro m
        rw [List.map_take] at m
        obtain ⟨q, hq⟩ := List.mem_iff_getElem?.mp m
        rw [List.getElem?_take] at hq
        split at hq
        · rename_i hlt
          have : q = i := (List.getElem?_inj (by rw [List.length_map]; omega) nd).mp (by rw [hq, List.getElem?_map, hz]; rfl)
          omega
        · cases hq
      have ks1 := ks.same (same_new (o := .tup [.int (i : Nat), V.ref zs[i].1]) hT)
      refine ⟨_, rfl, rfl, _, rfl, if_false_of ni ?_⟩
      refine ⟨_, rfl, _, rfl, a, zs[i].1, zs[i].2, t, p, rfl, hA.same s1, s1 _ _ e1, _, rfl, ?_⟩
      rw [decide_eq_true (hin _ hzm)]
      refine iteF ⟨_, rfl, _, rfl, zs[i].1, _, rfl, SqT.of (s1 _ _ e1), fun _ => ?_, fun z => absurd ⟨rfl, rfl⟩ z⟩
      refine ⟨_, rfl, _, rfl, D, _, rfl, DGet.t (k := [Sum.inr zs[i].2]) eD3 (s1 _ _ e1), _, rfl, ?_⟩
      rw [seen1_no no]
      refine iteF ?_
      refine ⟨_, rfl, _, rfl, D, upd _ D (.dT (seen1 ((zs.take (i + 1)).map (·.2)))), rfl, ?_, ⟨_, _, _, rfl⟩, ks1.upd, upd_same⟩
      have et : seen1 ((zs.take (i + 1)).map (·.2)) = putK (seen1 ((zs.take i).map (·.2))) [Sum.inr zs[i].2] (.bl true) := by
        rw [List.take_add_one, hz, List.map_append, seen1_snoc no]
        rfl
      rw [et]
      refine DPut.t (k := [Sum.inr zs[i].2]) eD3 (s1 _ _ e1) ?_
      unfold seen1
      rw [List.length_map, List.length_map, List.length_take, sizeLine_eq]
      omega
    · exact k _ (fin _ h.2.1)
abbrev nChd : List Str := ["rule", "changes", "change"]
theorem scChd : FnScope nChd ["rule", "changes"] (defScope sChanged) := ⟨rfl, rfl, rfl, by decide +kernel, rfl, by decide +kernel, by decide +kernel⟩
theorem ok_changed {f C : Addr} {fd : FuncData} (F : Fun K "changed_rule" "changed_rule" sChanged f fd) (T : RuC K C) (hT : HvM P w K mg base 7 C "turn" ["self", "mood"] (spTurn C)) (hL : mg "len" = none) : FnOk P w K mg base CX0 8 f fd ["rule", "changes"] (spChanged C) := by
  refine F.ok scChd (fun vs H Q E h => ?_) (fun cdv A outer s H vs Q E hr h => ?_)
  · obtain ⟨a, l, t, p, zs, rfl, _⟩ := h
    rfl
  · obtain ⟨a, l, t, p, zs, rfl, hA, ok, hn, el, hZ, hin, k⟩ := h
    refine ⟨_, pss_cons (ps_for PassesOwn.never rfl (pi_list (pv 1)) (pg_name (i := 2) scChd.nd rfl (Or.inl rfl))
        (pss_one (ps_set (i := 0) scChd.nd rfl (Or.inl rfl) (pe_ifExp (pt_cmpR op_eq (pe_callB call_len_seq (by rfl) hL PySem.boot_len (pa_cons (pv 2) pa_nil)) pe_int (nomark _)) (pe_mt hT (pv 0) T.cl hr pass0 (pa_cons (pe_ix ix_tup (pv 2) pe_int (fun _ _ => rfl)) pa_nil)) pe_neverE))))
      (pss_one (ps_ret (pv 0))), ?_⟩
    refine ⟨_, rfl, l, rfl, ⟨_, SqL.of el⟩, ?_⟩
    refine for_it (walk_listL zs fun z => V.ref z.1) (fun i σ H' => ∃ (b : Addr) (t' : Str) (v2 : Option V), σ = [some (.ref b), some (.ref l), v2] ∧ Same H H' ∧ RuleAt H' C b t' (turnsP p ((zs.take i).map (·.2)))) ⟨a, t, none, rfl, Same.refl _, hA⟩ (fun i σ H' _ h => ?_) (fun i y σ H' H'' hi h hy => ?_) (fun σ H' h => ?_)
    · obtain ⟨b, t', v2, rfl, st, _⟩ := h
      exact SqL.of (st _ _ el)
    · obtain ⟨rfl, hy⟩ := hy
      obtain ⟨b, t', v2, rfl, st, hB⟩ := h
      have hz : zs[i]? = some zs[i] := List.getElem?_eq_getElem hi
      obtain rfl := map_get hz hy
      have hzm := List.mem_of_getElem? hz
      have e1 := st _ _ (hZ _ hzm)
      have tk := turns_ok ok ((zs.take i).map (·.2))
      obtain ⟨dx, M, G, D, e5, e6, e7, e8⟩ := id hB
      refine ⟨_, rfl, zs[i].1, _, rfl, .inr (SqT.of e1), rfl, _, rfl, iteT ?_⟩
      refine ⟨_, rfl, b, dx, _, rfl, e5, rfl, _, rfl, zs[i].1, _, _, V.str zs[i].2, rfl, rfl, SqT.of e1, atI_nat (j := 0) rfl, b, zs[i].2, t', _, rfl, hB, tk.1, by rw [tk.2.1]; exact hn, by rw [tk.2.1]; exact hin _ hzm, fun b2 t2 H2 s2 hB2 => ?_⟩
      refine ⟨b2, t2, _, rfl, st.trans s2, ?_⟩
      rw [List.take_add_one, hz, List.map_append]
      show RuleAt H2 C b2 t2 (turnsP p ((zs.take i).map (·.2) ++ [zs[i].2]))
      rw [turns_snoc]
      exact hB2
    · obtain ⟨b, t', v2, rfl, st, hB⟩ := h
      rw [List.take_length] at hB
      exact ⟨_, rfl, k b t' _ st hB⟩
end
end My
namespace L2
open PySem PySem.Spec PyProof.Rows PySem.GX
/-! a dict comprehension whose keys are tuples of ints and texts -/
section
variable {X : Cx}
theorem dc_coreT {pl : List (Addr × Obj)} {s : Shared} {σ : St} {H : Hp} {Q : VK} {kx vx tg iter : Expr} {ifs : List Expr} {scope : Scope} {own : List (Str × Nat)} {pos pos' : Pos} {wi : TI} {g : TG} {tt : TT} {tk tv : TE} {use : Option (Value → Sem Unit)} {Qf : Value → Shared → Prop}
    (hr : X.A.units + 64 < cLine) (calm : X.calm = true) (hN : X.N.Nodup) (I : Inv X pl σ H s) (hi : PI X tg iter wi) (ok : BlkOk X.N X.env.scope scope own)
    (hg : ∀ (s : Shared) (H : Hp) (C : Addr) (cl : List (Str × Addr)) (fp : List Addr), PG (X.blk s H scope (compEnvC scope cl C X.env) fp) tg g)
    (ht : ∀ (s : Shared) (H : Hp) (C : Addr) (cl : List (Str × Addr)) (fp : List Addr), PTs (X.blk s H scope (compEnvC scope cl C X.env) fp) ifs tt)
    (hk : ∀ (s : Shared) (H : Hp) (C : Addr) (cl : List (Str × Addr)) (fp : List Addr), PE (X.blk s H scope (compEnvC scope cl C X.env) fp) kx tk)
    (hv : ∀ (s : Shared) (H : Hp) (C : Addr) (cl : List (Str × Addr)) (fp : List Addr), PE (X.blk s H scope (compEnvC scope cl C X.env) fp) vx tv)
    (hs : ∀ x, foldedSetIterable iter X.env x = pure x)
    (h : tDcT wi g tt tk tv (own.map (·.2)) σ H Q)
    (hRR : ∀ D C s' m H', Inv X pl σ H' s' → Q (.ref D) H' → s'.heap.Ns C m → FpOk X pl H' C → compPost (model X.prog X.w) X.A X.xe use Qf (.ref D) C (.ok .next) s') :
    wpAny (model X.prog X.w) X.A (comprehension (.DictComp kx vx [⟨tg, iter, ifs, 0⟩] scope pos) scope X.env pos' newDict false (eval iter X.env) use) Qf X.xe s := by
  have frees : ∀ y ∈ scope.names, y.2 = .free → ∃ c, X.env.cells.lookup y.1 = some c := fun y hy e => by
    rcases ok.free y hy e with k | k
    · exact I.ok.has _ (.inl k)
    · exact I.ok.has _ (.inr k)
  refine wpAny_comprehension_free (use := use) rfl hs (closure_ok frees) ok.kind (fun y hy e => by rw [ok.uniq y hy, e]) (thn (hi.run pl s σ H _ I h) fun _ sa ha => thn ha fun _ sb hb => ?_)
  obtain ⟨it, fp, tn, J, Hb, rfl, Ib, T, tb, okb, want⟩ := hb
  refine wpAny_newObj_type (newEnv_comp ?_)
  -- the new dict
  generalize eD : sb.heap.objs.size = D
  have freeD : Hb D = none := Ib.hok.fresh (Nat.le_of_eq eD)
  obtain ⟨W, ⟨m0, begins⟩, turn⟩ := want D freeD
  generalize esc : ({ sb with heap := sb.heap.push { cls := .type "dict", data := .dict #[] } } : Shared) = sc
  have hsc : sc.heap = sb.heap.push { cls := .type "dict", data := .dict #[] } := by rw [← esc]
  have Ic : Inv X pl σ (upd Hb D (.dT [])) sc := by
    rw [← esc]
    refine Ib.laid (t' := sb.toks) (fun b o e => Heap.get?_push_of_some _ e) (Nat.le_of_eq eD) ?_
    rw [← eD]
    exact dt_empty sb.heap Ib.big
  have old : ∀ b ∈ fp, b < sb.heap.objs.size := fun b hb => by
    obtain ⟨o, e, _⟩ := T.obj _ _ tb b hb
    exact Heap.lt_size e
  have okc : ∀ b ∈ fp, FpOk X pl (upd Hb D (.dT [])) b ∧ b < sc.heap.objs.size := fun b hb => by
    have lt := old b hb
    refine ⟨⟨?_, (okb b hb).2⟩, ?_⟩
    · rw [upd_ne (by rw [← eD]; exact Nat.ne_of_lt lt)]
      exact (okb b hb).1
    · rw [hsc, Heap.size_push]
      exact Nat.lt_succ_of_lt lt
  have tc : tn 0 sc.heap := T.keep _ _ _ tb fun b _ o e => by
    rw [hsc]
    exact Heap.get?_push_of_some _ e
  -- the block
  have Id := block_start Ic ok hN okc
  have g1 := hg sc (upd Hb D (.dT [])) sc.heap.objs.size (cellsFrom (sc.heap.objs.size + 1) scope.names (cloFrom X.env.cells scope.names [])) fp
  have g2 := ht sc (upd Hb D (.dT [])) sc.heap.objs.size (cellsFrom (sc.heap.objs.size + 1) scope.names (cloFrom X.env.cells scope.names [])) fp
  have g3 := hk sc (upd Hb D (.dT [])) sc.heap.objs.size (cellsFrom (sc.heap.objs.size + 1) scope.names (cloFrom X.env.cells scope.names [])) fp
  have g4 := hv sc (upd Hb D (.dT [])) sc.heap.objs.size (cellsFrom (sc.heap.objs.size + 1) scope.names (cloFrom X.env.cells scope.names [])) fp
  show codeAny _ _ (.compStart (.DictComp kx vx [⟨tg, iter, ifs, 0⟩] scope pos) 0 (.ref it) (.ref D) (compEnvC scope (cellsFrom (sc.heap.objs.size + 1) scope.names (cloFrom X.env.cells scope.names [])) sc.heap.objs.size X.env)) (compPost (model X.prog X.w) X.A X.xe use Qf (.ref D) sc.heap.objs.size)
    { sc with heap := pushCells (sc.heap.push { cls := .type "dict", data := .dict #[] }) scope.names }
  have hid : ∀ b ∈ fp, (upd Hb D (.dT [])) b = none := fun b hb => (okc b hb).1.1
  generalize eenv : compEnvC scope (cellsFrom (sc.heap.objs.size + 1) scope.names (cloFrom X.env.cells scope.names [])) sc.heap.objs.size X.env = env at Id g1 g2 g3 g4 ⊢
  have eloc : env.locals = sc.heap.objs.size := by subst eenv; rfl
  generalize eHc : upd Hb D (.dT []) = Hc at Ic Id g1 g2 g3 g4 begins hid okc
  generalize esd : ({ sc with heap := pushCells (sc.heap.push { cls := .type "dict", data := .dict #[] }) scope.names } : Shared) = sd at Id ⊢
  have td : tn 0 sd.heap := T.keep _ _ _ tc fun b _ o e => by
    rw [← esd]
    exact pushCells_keeps _ _ _ _ (Heap.get?_push_of_some _ e)
  have fpOk : ∀ {σ' : St} {H' : Hp} {s' : Shared}, Inv (X.blk sc Hc scope env fp) [] σ' H' s' → (∀ b ∈ fp, H' b = none) → ∀ b ∈ fp, FpOk (X.blk sc Hc scope env fp) [] H' b := fun {σ' H' s'} I' free b hb => by
    refine ⟨free b hb, (I'.ok.exf b hb).1, I'.ok.exfs b hb, .inl hb, fun x c e => (I'.ok.exf b hb).2 x c e, fun p hp => ?_⟩
    exact absurd (show p ∈ ([] : List (Addr × Obj)) ++ [] from hp) (by simp)
  refine codeAny_compStart_dict ?lp (T.self X.A 0 _ _ _ td ?lp)
  refine compLoop_anyD (fun n s' => ∃ i H', Inv (X.blk sc Hc scope env fp) [] (wipe σ (own.map (·.2))) H' s' ∧ tn i s'.heap ∧ (∀ b ∈ fp, H' b = none) ∧ W i n H') ?_ m0 ⟨0, Hc, Id, td, hid, begins⟩
  rintro n se ⟨i, He, Ie, te, free, at_⟩
  rcases turn i n He at_ with ⟨stop, wish⟩ | ⟨goes, On, next, step⟩
  · refine thnF (T.done (X.blk sc Hc scope env fp) rfl rfl rfl calm i [] se _ He (fun _ _ => False) Ie (fpOk Ie free) te stop) fun r sf ⟨hr, If⟩ => ?_
    subst hr
    have back : Inv X pl σ He sf := Ic.call' (ch := fp) If.os If.base If.hok If.bare fun b hb => ⟨(okc b hb).1.2.2.2.1, (okc b hb).1.2.1, (okc b hb).1.2.2.2.2.1, (okc b hb).1.2.2.2.2.2⟩
    have noC : He sc.heap.objs.size = none := by
      have z : He env.locals = none := If.free
      rw [eloc] at z
      exact z
    obtain ⟨m, hn, _⟩ := If.loc
    have hn' : sf.heap.Ns env.locals m := hn
    rw [eloc] at hn'
    exact hRR D sc.heap.objs.size sf m He back wish hn' (Ic.fpOk (Nat.le_refl _) noC)
  · refine thnF (T.item (X.blk sc Hc scope env fp) rfl rfl rfl calm i [] se _ He (fun _ _ => False) Ie (fpOk Ie free) te goes) fun r sf ⟨u, hr, hf⟩ => ?_
    subst hr
    refine thnF hf fun _ sg ⟨x, Hg, Ig, rg, yg, tg', freeg⟩ => ?_
    have pinned := Ig.pinned (fpOk Ig freeg) (T.obj _ _ tg')
    refine thnF (g1.run _ sg _ Hg x u _ pinned rg (step x Hg yg)) fun _ sh ⟨σh, Hh, Ih, wh, qh⟩ => ?_
    refine thnF (g2.run _ sh σh Hh _ Ih qh) fun b si ⟨Hi, Ii, qi⟩ => ?_
    have ends : ∀ {s' : Shared} {H' : Hp}, Inv (X.blk sc Hc scope env fp) ([] ++ pinsAt fp sg.heap) σh H' s' → On H' →
        ∃ m, m < n ∧ ∃ i H', Inv (X.blk sc Hc scope env fp) [] (wipe σ (own.map (·.2))) H' s' ∧ tn i s'.heap ∧ (∀ b ∈ fp, H' b = none) ∧ W i m H' := fun {s' H'} I' on => by
      obtain ⟨m', lt, at'⟩ := next H' on
      have kept : ∀ b ∈ fp, ∀ o, sg.heap.get? b = some o → s'.heap.get? b = some o ∧ H' b = none := fun b hb o e => by
        have z := I'.pin (b, o) (List.mem_append_right _ (List.mem_append_right _ (mem_pinsAt hb e)))
        exact ⟨z.1, z.2.1⟩
      have len : (wipe σ (own.map (·.2))).length = σh.length := by
        rw [← wh, wipe_length]
      refine ⟨m', lt, i + 1, H', (I'.unpinned (pins := [])).weak len (fun j y e => ?_), T.keep _ _ _ tg' fun b hb o e => (kept b hb o e).1, fun b hb => ?_, at'⟩
      · rw [← wh] at e
        exact (wipe_some e).1
      · obtain ⟨o, e, _⟩ := T.obj _ _ tg' b hb
        exact (kept b hb o e).2
    cases b with
    | false =>
      simp only [Bool.false_eq_true, if_false] at qi ⊢
      exact ends Ii qi
    | true =>
      simp only [if_true] at qi ⊢
      refine thnF (g3.run _ si σh Hi _ Ii qi) fun _ sj ⟨yk, Hj, Ij, rj, qj⟩ => ?_
      refine thnF (g4.run _ sj σh Hj _ Ij qj) fun _ sk ⟨yv, Hk, Ik, rk, kvs, k, t, ek, et, eDk, few, on⟩ => ?_
      subst ek
      exact dictSet_tup (X := X.blk sc Hc scope env fp) (by show X.A.units < cLine; omega) Ik eDk et few rj rk fun _ Il => ends Il on
theorem ps_setDcT {i : Nat} {y : Str} {py : Pos} {kx vx tg iter : Expr} {ifs : List Expr} {scope : Scope} {own : List (Str × Nat)} {pos spos : Pos} {wi : TI} {g : TG} {tt : TT} {tk tv : TE} (hr : X.A.units + 64 < cLine) (hc : X.calm = true) (hN : X.N.Nodup) (hy : X.N[i]? = some y) (hyl : X.env.scope.names.lookup y = some .local)
    (hsw : swapsWith (.DictComp kx vx [⟨tg, iter, ifs, 0⟩] scope pos) (some (.Name y py)) spos.line X.env = pure true) (hi : PI X tg iter wi) (ok : BlkOk X.N X.env.scope scope own)
    (hg : ∀ (s : Shared) (H : Hp) (C : Addr) (cl : List (Str × Addr)) (fp : List Addr), PG (X.blk s H scope (compEnvC scope cl C X.env) fp) tg g) (ht : ∀ (s : Shared) (H : Hp) (C : Addr) (cl : List (Str × Addr)) (fp : List Addr), PTs (X.blk s H scope (compEnvC scope cl C X.env) fp) ifs tt)
    (hk : ∀ (s : Shared) (H : Hp) (C : Addr) (cl : List (Str × Addr)) (fp : List Addr), PE (X.blk s H scope (compEnvC scope cl C X.env) fp) kx tk)
    (he : ∀ (s : Shared) (H : Hp) (C : Addr) (cl : List (Str × Addr)) (fp : List Addr), PE (X.blk s H scope (compEnvC scope cl C X.env) fp) vx tv) (hs : ∀ x, foldedSetIterable iter X.env x = pure x := by intro _; rfl) :
    PS X (.Assign [.Name y py] (.DictComp kx vx [⟨tg, iter, ifs, 0⟩] scope pos) spos) (tAsg (tDcT wi g tt tk tv (own.map (·.2))) (gName i)) := by
  refine ⟨fun pins s σ H D I h => ?_⟩
  rw [exec_Assign_Name_used _ _ _ _ hsw]
  refine wpAny_bind (wpAny_standAt (wpAny_bind ?_))
  show wpAny _ X.A (do let _ ← comprehension (.DictComp kx vx [⟨tg, iter, ifs, 0⟩] scope pos) scope X.env (firstIterPos [⟨tg, iter, ifs, 0⟩] pos) newDict false (eval iter X.env) (some (assign (.Name y py) X.env))) _ _ s
  have h : tDcT wi g tt tk tv (own.map (·.2)) σ H (fun x H1 => gName i x σ H1 D.nx) := h
  refine wpAny_bind (thn (dc_coreT hr (Qf := fun _ s' => SP X pins D .next s') hc hN I hi ok hg ht hk he hs h fun L C s' m H' I' q hn f => ?_) fun _ s' hq => wpAny_pure (wpAny_pure hq))
  show wpAny _ _ (assign (.Name y py) X.env (.ref L)) _ _ _
  refine wpAny_assign_Name (store_ok2 (v := V.ref L) I' hN hy (.inl hyl) rfl (fun s2 I2 ⟨a, sb, ha⟩ => ?_) (.inr hyl))
  obtain ⟨f0, f1, f2, f3, f4, f5⟩ := f
  have haC : C ≠ a := by
    rcases ha with z | z
    · rw [z]; exact f1
    · exact fun e => f4 y a z e.symm
  refine ⟨m, hn.sameBut sb haC, fun h3 sb3 => ?_⟩
  exact ⟨_, H', I2.turned (t' := s2.toks) (fun b o hb e => (sb3.2 b hb).trans e) f0 f1 f3 f4 f5, q⟩
end
end L2
set_option pp.maxSteps 1500
namespace My
open PySem PySem.Spec PyProof.Rows L2 PySem.GX L2H LamX
abbrev sLeadR : Stmt := inClass sRule 10
abbrev sIsSign : Stmt := inClass sRule 13
def leadRs (p : Parts) (m : Str) (x : Nat) (g : Str) : List (List Str) := p.ms.flatMap fun t => p.sg.cps.toList.map fun c => [t, sg c, if t = m ∧ c = x then g else ledL p t c]
def leadP (p : Parts) (m : Str) (x : Nat) (g : Str) : Parts := ⟨p.sg, p.ms, p.gs, leadRs p m x g⟩
def spIsSign (C : Addr) : Sp := fun vs H Q _ => ∃ (a : Addr) (x : Nat) (t : Str) (p : Parts), vs = [.ref a, .str (sg x)] ∧ RuleAt H C a t p ∧ Q (.bl (decide (x ∈ p.sg.cps.toList))) H
def spLead (C : Addr) : Sp := fun vs H Q _ => ∃ (a : Addr) (m g t : Str) (x : Nat) (p : Parts), vs = [.ref a, .str m, .str (sg x), .str g] ∧ RuleAt H C a t p ∧ PartsOk p ∧ p.ms.length ≤ 20 ∧ m ∈ p.ms ∧ g ∈ p.ms ∧ x ∈ p.sg.cps.toList ∧ ∀ (b : Addr) (t' : Str) (H' : Hp), Same H H' → RuleAt H' C b t' (leadP p m x g) → Q (.ref b) H'
/-- a dict with the same goals -/
def SameG (p : Parts) (kvs : List (List Key × V)) : Prop := ∀ t ∈ p.ms, ∀ c ∈ p.sg.cps.toList, valV kvs (kT t c) = some (.str (ledL p t c))
theorem lead_val {p : Parts} {kvs : List (List Key × V)} (h : SameG p kvs) (m : Str) (x : Nat) (g : Str) {t : Str} (ht : t ∈ p.ms) {c : Nat} (hc : c ∈ p.sg.cps.toList) : valV (putK kvs (kT m x) (.str g)) (kT t c) = some (.str (if t = m ∧ c = x then g else ledL p t c)) := by
  rw [valV_put]
  by_cases e : t = m ∧ c = x
  · rw [if_pos e, if_pos (by rw [e.1, e.2])]
  · rw [if_neg e, if_neg]
    · exact h t ht c hc
    · intro z
      apply e
      injection z with z1 z2
      injection z2 with z2 _
      exact ⟨Sum.inr.inj z1, sg_inj (Sum.inr.inj z2)⟩
theorem lead_rs {p : Parts} {kvs : List (List Key × V)} (h : SameG p kvs) (m : Str) (x : Nat) (g : Str) : rsL p.sg p.ms (putK kvs (kT m x) (.str g)) = leadRs p m x g := by
  unfold rsL leadRs
  rw [List.flatMap_def, List.flatMap_def]
  congr 1
  refine List.map_congr_left fun t ht => List.map_congr_left fun c hc => ?_
  rw [gf_is (lead_val h m x g ht hc)]
theorem lead_fine {p : Parts} {kvs : List (List Key × V)} (ok : PartsOk p) (h : SameG p kvs) {m : Str} {x : Nat} {g : Str} (hg : g ∈ p.ms) : Fine p.sg p.ms p.gs (putK kvs (kT m x) (.str g)) := by
  refine ⟨ok.sgs, ok.mds, ok_sub ok.gds, fun t ht c hc => ⟨_, ?_, lead_val h m x g ht hc⟩⟩
  split
  · exact hg
  · exact (ok.goal ht hc).1
theorem val_mem {κ : Type} [DecidableEq κ] {k : κ} {v : V} : ∀ {kvs : List (κ × V)}, (k, v) ∈ kvs → ∃ u, valV kvs k = some u
  | [], h => by cases h
  | (a, b) :: t, h => by
    by_cases e : a = k
    · exact ⟨b, valV_pos e⟩
    · rcases List.mem_cons.mp h with q | q
      · injection q with q1 q2
        exact absurd q1.symm e
      · obtain ⟨u, hu⟩ := val_mem q
        exact ⟨u, by rw [valV_neg e]; exact hu⟩
theorem mem_val {κ : Type} [DecidableEq κ] {k : κ} {u : V} : ∀ {kvs : List (κ × V)}, valV kvs k = some u → ∃ v, (k, v) ∈ kvs
  | [], h => by cases h
  | (a, b) :: t, h => by
    by_cases e : a = k
    · exact ⟨b, by rw [e]; exact List.mem_cons_self ..⟩
    · rw [valV_neg e] at h
      obtain ⟨v, hv⟩ := mem_val h
      exact ⟨v, List.mem_cons_of_mem _ hv⟩
theorem copy_val (kvs : List (List Key × V)) {k : List Key} {u : V} (h : valV kvs k = some u) : valV (dOf (fun z : List Key × V => z.1) (fun z => (valV kvs z.1).getD .non) kvs) k = some u := by
  obtain ⟨v, hv⟩ := mem_val h
  exact dOf_const kvs (fun a _ e => by rw [e, h]; rfl) ⟨(k, v), hv, rfl⟩
theorem pairs_lenR (x : Str) (ws : List Str) : (pairsL x ws).length = ws.length * x.length := by
  unfold pairsL
  induction ws with
  | nil => simp
  | cons m t ih =>
    rw [List.flatMap_cons, List.length_append, ih, List.length_map, Array.length_toList, List.length_cons, Nat.succ_mul]
    show x.length + _ = _
    omega
theorem rs_len {p : Parts} (ok : PartsOk p) (hn : p.ms.length ≤ 20) : p.rs.length ≤ 60 := by
  have hg := ok.gls
  unfold goalsOkL at hg
  rw [Bool.and_eq_true_iff] at hg
  have ep : p.rs.map (List.take 2) = pairsL p.sg p.ms := of_decide_eq_true hg.1
  have := congrArg List.length ep
  rw [List.length_map, pairs_lenR] at this
  rw [this]
  have := (wr_short (gs := p.gs) ok (ok_sub ok.gds) hn).hx
  exact Nat.mul_le_mul hn this
section
variable {P : Program} {w : World} {K : PySem.W.Frag} {mg : Str → Option Value} {base : Heap}
theorem scIsSign : FnScope ["self", "sign"] ["self", "sign"] (defScope sIsSign) := ⟨rfl, rfl, rfl, by decide +kernel, rfl, by decide +kernel, by decide +kernel⟩
theorem ok_isSign {f C : Addr} {fd : FuncData} (F : Fun K "is_sign" "Rule.is_sign" sIsSign f fd) (T : RuC K C) (hIs : mg "isinstance" = none) (hSt : mg "str" = none) (hL : mg "len" = none) : FnOk P w K mg base CX0 1 f fd ["self", "sign"] (spIsSign C) := by
  refine F.ok scIsSign (fun vs H Q E h => ?_) (fun cdv A outer s H vs Q E hr h => ?_)
  · obtain ⟨a, x, t, p, rfl, _⟩ := h
    rfl
  · obtain ⟨a, x, t, p, rfl, ⟨dx, M, G, D, e1, e2, e3, e4⟩, k⟩ := h
    refine ⟨_, pss_one (ps_ret (pe_and (pe_callB call_isi (by rfl) hIs (by decide +kernel) (pa_cons (pv 1) (pa_cons (pe_bltn (v := .ty "str") (by rfl) hSt (by decide +kernel) rfl) pa_nil))) (pe_and (pe_cmpR op_eq (pe_callB call_len_str (by rfl) hL PySem.boot_len (pa_cons (pv 1) pa_nil)) pe_int (nomark _)) (pe_one (pe_cmpR op_in_sign (pv 1) (pe_fld (pv 0) rfl) (by rfl)))))), ?_⟩
    refine ⟨_, rfl, .str (sg x), .ty "str", _, .type "str", true, rfl, .ty _, .base (.str (sg x)), kit_ty (by decide +kernel), _, rfl, iteT ?_⟩
    have hl : (sg x).length = 1 := rfl
    refine ⟨_, rfl, sg x, rfl, by rw [hl, sizeLine_eq]; decide, rfl, _, rfl, iteT ?_⟩
    exact ⟨_, rfl, _, rfl, a, C, dx, _, .str p.sg, rfl, e1, T.cl, T.f2, rfl, x, p.sg, rfl, rfl, k⟩
abbrev nLead : List Str := ["self", "mood", "sign", "goal", "goals", "pair"]
theorem scLead : FnScope nLead ["self", "mood", "sign", "goal"] (defScope sLeadR) := ⟨rfl, rfl, rfl, by decide +kernel, rfl, by decide +kernel, by decide +kernel⟩
theorem ok_lead {f C fI : Addr} {fd fdI : FuncData} (F : Fun K "lead" "Rule.lead" sLeadR f fd) (T : RuC K C) (hM : HvM P w K mg base 1 C "is_mood" ["self", "mood"] (spIsMood C)) (hS : HvM P w K mg base 1 C "is_sign" ["self", "sign"] (spIsSign C)) (hW : Hv P w K mg base 1 "write_rule" ["signs", "moods", "good", "goals"] spWrite) (MI : Mk K C fI) (GI : FnOk P w K mg base CX0 5 fI fdI ["self", "text"] (spInit C)) (bI : Binds K fdI ["self", "text"] []) (gI : mg "Rule" = some (.ref C)) :
    FnOk P w K mg base CX0 7 f fd ["self", "mood", "sign", "goal"] (spLead C) := by
  refine F.ok scLead (fun vs H Q E h => ?_) (fun cdv A outer s H vs Q E hr h => ?_)
  · obtain ⟨a, m, g, t, x, p, rfl, _⟩ := h
    rfl
  · obtain ⟨a, m, g, t, x, p, rfl, hA, ok, hn, hm, hg, hx, k⟩ := h
    have hr1 := hr.mono (by decide : 1 ≤ 6)
    have hu := hu_of hr
    refine ⟨_, pss_cons (ps_if (pt_not (pt_val (pe_mt hM (pv 0) T.cl hr1 pass0 (pa_cons (pv 1) pa_nil)))) (pss_one ps_never) pss_nil)
      (pss_cons (ps_if (pt_not (pt_val (pe_mt hS (pv 0) T.cl hr1 pass0 (pa_cons (pv 2) pa_nil)))) (pss_one ps_never) pss_nil)
      (pss_cons (ps_if (pt_not (pt_val (pe_mt hM (pv 0) T.cl hr1 pass0 (pa_cons (pv 3) pa_nil)))) (pss_one ps_never) pss_nil)
      (pss_cons (ps_lock (ps_setDcT (i := 4) (own := [("pair", 5)]) (g := gName 5) (tt := tYes) hr.units rfl scLead.nd rfl rfl (sw_trueD rfl rfl rfl (by decide +kernel)) (pi_keys (pe_fld (pv 0) rfl)) (blkOk_by (N := nLead) (sc := defScope sLeadR) (by decide +kernel)) (fun _ _ _ _ _ => pg_name (i := 5) scLead.nd rfl (Or.inl rfl)) (fun _ _ _ _ _ => pts_nil) (fun _ _ _ _ _ => pv 5)
          (fun _ _ _ _ _ => pe_dget hu (pe_fldK (K := K) rfl (pv 0) rfl) (pv 5) (fun _ _ => rfl))))
      (pss_cons (ps_dput hu (pv 4) (pe_tup (pa_cons (pv 1) (pa_cons (pv 2) pa_nil))) (pv 3) rfl)
      (pss_one (ps_ret (pe_make MI GI hr rfl gI bI .nil pass0 (pa_cons (pe_cl hW hr1 rfl pass0 (pa_cons (pe_fld (pv 0) rfl) (pa_cons (pe_fld (pv 0) rfl) (pa_cons (pe_fld (pv 0) rfl) (pa_cons (pv 4) pa_nil))))) pa_nil)))))))), ?_⟩
    obtain ⟨dx, M, G, D, e1, e2, e3, e4⟩ := id hA
    refine ⟨_, rfl, a, dx, _, rfl, e1, rfl, _, rfl, a, m, t, p, rfl, hA, _, rfl, ?_⟩
    rw [decide_eq_true hm]
    refine iteF ⟨_, rfl, a, dx, _, rfl, e1, rfl, _, rfl, a, x, t, p, rfl, hA, _, rfl, ?_⟩
    rw [decide_eq_true hx]
    refine iteF ⟨_, rfl, a, dx, _, rfl, e1, rfl, _, rfl, a, g, t, p, rfl, hA, _, rfl, ?_⟩
    rw [decide_eq_true hg]
    refine iteF ⟨D, _, e4, trivial, fun od => ?_⟩
    have naD : a ≠ D := ne_of e1 e4 (by intro z; cases z)
    have la := (upd_ne (H := H) (o := .frz od (.dT (goalsD p.rs))) naD).trans e1
    have lD : upd H D (.frz od (.dT (goalsD p.rs))) D = some (.frz od (.dT (goalsD p.rs))) := upd_same
    have sameF : ∀ b o, b ≠ D → H b = some o → upd H D (.frz od (.dT (goalsD p.rs))) b = some o := fun b o n e => by rw [upd_ne n]; exact e
    generalize upd H D (.frz od (.dT (goalsD p.rs))) = HF at la lD sameF ⊢
    refine ⟨_, rfl, a, C, dx, _, .ref D, rfl, la, T.cl, T.f5, rfl, D, od, rfl, .inr ⟨_, lD, fun D2 hD2 => ?_⟩⟩
    have zk : (goalsD p.rs).length ≤ 60 := Nat.le_trans (dOf_len _ _ _) (rs_len ok hn)
    refine dcGT (goalsD p.rs) (fun z => z.1) (fun z => (valV (goalsD p.rs) z.1).getD .non) walk_keysT (by omega) hD2 (fun i H x H' h => by rw [h.1]; exact Same.refl _) (fun H' s' => s' _ _ lD) (fun i z y H3 H4 kk k0 hi s3 hy k1 => ?_) (fun H3 s3 eD => ?_)
    · obtain ⟨rfl, key, v, q, hq, rfl, eq⟩ := hy
      have : z = (key, v) := Option.some.inj (hi.symm.trans hq)
      subst this
      obtain ⟨u, hu2⟩ := val_mem (List.mem_of_getElem? hi)
      have kk2 := k1 q _ (Same.refl _) eq
      have eu : (valV (goalsD p.rs) key).getD .non = u := by rw [hu2]; rfl
      have kk3 : kk (.ref q) u H4 := by
        have := kk2
        rw [show (valV (goalsD p.rs) (key, v).fst).getD V.non = u from eu] at this
        exact this
      exact ⟨rfl, _, rfl, _, rfl, a, C, dx, _, .ref D, rfl, s3 _ _ la, T.cl, T.f5, rfl, _, rfl, D, u, rfl, .inr ⟨_, key, q, .inr ⟨od, s3 _ _ lD⟩, rfl, eq, hu2.symm⟩, kk3⟩
    · refine ⟨s3 _ _ lD, ?_⟩
      have nD2 : D2 ≠ D := (ne_of_none lD hD2).symm
      have hsame : SameG p (dOf (fun z : List Key × V => z.1) (fun z => (valV (goalsD p.rs) z.1).getD .non) (goalsD p.rs)) := fun t ht c hc => copy_val _ (ok.goal ht hc).2
      have l2 : (dOf (fun z : List Key × V => z.1) (fun z => (valV (goalsD p.rs) z.1).getD .non) (goalsD p.rs)).length ≤ 60 := Nat.le_trans (dOf_len _ _ _) zk
      generalize dOf (fun z : List Key × V => z.1) (fun z => (valV (goalsD p.rs) z.1).getD .non) (goalsD p.rs) = kvs at eD hsame l2
      have sU : Same H (upd H3 D (.dT (goalsD p.rs))) := fun b o e => by
        by_cases hb : b = D
        · subst hb
          rw [upd_same]
          exact e4.symm.trans e
        · rw [upd_ne hb]
          exact s3 _ _ (sameF b o hb e)
      have eU : upd H3 D (.dT (goalsD p.rs)) D2 = some (.dT kvs) := by rw [upd_ne nD2]; exact eD
      have fD2 : H D2 = none := by
        cases e : H D2 with
        | none => rfl
        | some o =>
          have := sameF D2 o nD2 e
          rw [hD2] at this
          cases this
      show tSeq _ _ _ _ _
      generalize upd H3 D (.dT (goalsD p.rs)) = HU at sU eU ⊢
      refine ⟨_, rfl, _, rfl, _, rfl, _, rfl, by show 2 ≤ sizeLine; decide, fun tk htk => ⟨D2, upd (upd HU tk (.tup ((kT m x).map kV))) D2 (.dT (putK kvs (kT m x) (.str g))), rfl, DPut.t (k := kT m x) (keep1 eU htk) upd_same (by rw [sizeLine_eq]; omega), ?_⟩⟩
      have sV : Same H (upd (upd HU tk (.tup ((kT m x).map kV))) D2 (.dT (putK kvs (kT m x) (.str g)))) := fun b o e => by
        have hb : b ≠ D2 := fun z => by rw [z, fD2] at e; cases e
        rw [upd_ne hb]
        exact keep1 (sU b o e) htk
      have eV : upd (upd HU tk (.tup ((kT m x).map kV))) D2 (.dT (putK kvs (kT m x) (.str g))) D2 = some (.dT (putK kvs (kT m x) (.str g))) := upd_same
      generalize upd (upd HU tk (.tup ((kT m x).map kV))) D2 (.dT (putK kvs (kT m x) (.str g))) = HV at sV eV ⊢
      have fin := lead_fine (m := m) (x := x) ok hsame hg
      have sh := fin.short hn
      refine ⟨_, rfl, a, C, dx, _, .str p.sg, rfl, sV _ _ e1, T.cl, T.f2, rfl, _, rfl, a, C, dx, _, .ref M, rfl, sV _ _ e1, T.cl, T.f3, rfl, _, rfl, a, C, dx, _, .ref G, rfl, sV _ _ e1, T.cl, T.f4, rfl, _, rfl, ?_⟩
      refine ⟨M, G, D2, p.sg, p.ms, p.gs, putK kvs (kT m x) (.str g), rfl, sV _ _ e2, .inl (sV _ _ e3), eV, sh, fun H2 s2 y dy ny ndy ne => ?_⟩
      have sm : Same H2 (upd (upd H2 dy (.own y)) y (.ins C dy [])) := (same_new ndy).trans (same_new (by rw [upd_ne ne.symm]; exact ny))
      have pr : parseL (textL p.sg p.ms p.gs (putK kvs (kT m x) (.str g))) = some (leadP p m x g) := by
        rw [fine_parse fin, lead_rs hsame]
        rfl
      exact ⟨y, dy, _, leadP p m x g, rfl, upd_same, text_small sh, text_ok fin, pr, fun H6 keep rA => ⟨rfl, k y _ H6 (fun b o e => keep b o (ne_of_none ((sV.trans s2) _ _ e) ny) (sm b o ((sV.trans s2) _ _ e))) rA⟩⟩
end
end My
set_option pp.maxSteps 1500
namespace My
open PySem PySem.Spec PyProof.Rows L2 PySem.GX L2H LamX
/-! changes of both forms -/
inductive Chg where
  | turn (m : Str)
  | lead (m : Str) (x : Nat) (g : Str)
def Chg.vs : Chg → List V
  | .turn m => [.str m]
  | .lead m x g => [.str m, .str (sg x), .str g]
def Chg.key : Chg → List Key
  | .turn m => [Sum.inr m]
  | .lead m x _ => [Sum.inr m, Sum.inr (sg x)]
def ChgOk (p : Parts) : Chg → Prop
  | .turn m => m ∈ p.ms
  | .lead m x g => m ∈ p.ms ∧ x ∈ p.sg.cps.toList ∧ g ∈ p.ms
def applyC (p : Parts) : Chg → Parts
  | .turn m => turnP p m
  | .lead m x g => leadP p m x g
theorem same_goals {p : Parts} (ok : PartsOk p) : SameG p (goalsD p.rs) := fun t ht c hc => (ok.goal ht hc).2
theorem lead_ok {p : Parts} (ok : PartsOk p) {m : Str} {x : Nat} {g : Str} (hg : g ∈ p.ms) : PartsOk (leadP p m x g) := by
  refine parts_ok (t := textL p.sg p.ms p.gs (putK (goalsD p.rs) (kT m x) (.str g))) ?_
  rw [fine_parse (lead_fine ok (same_goals ok) hg), lead_rs (same_goals ok)]
  rfl
theorem applyC_ok {p : Parts} (ok : PartsOk p) {c : Chg} (h : ChgOk p c) : PartsOk (applyC p c) ∧ (applyC p c).ms = p.ms ∧ (applyC p c).sg = p.sg := by
  cases c with
  | turn m => exact ⟨turn_ok ok m, rfl, rfl⟩
  | lead m x g => exact ⟨lead_ok ok h.2.2, rfl, rfl⟩
def changesP (p : Parts) (cs : List Chg) : Parts := cs.foldl applyC p
theorem changes_snoc (p : Parts) (cs : List Chg) (c : Chg) : changesP p (cs ++ [c]) = applyC (changesP p cs) c := by unfold changesP; rw [List.foldl_append]; rfl
theorem ChgOk.of {p q : Parts} {c : Chg} (h : ChgOk p c) (e1 : q.ms = p.ms) (e2 : q.sg = p.sg) : ChgOk q c := by
  cases c with
  | turn m => show m ∈ q.ms; rw [e1]; exact h
  | lead m x g => show m ∈ q.ms ∧ x ∈ q.sg.cps.toList ∧ g ∈ q.ms; rw [e1, e2]; exact h
theorem changes_ok {p : Parts} (ok : PartsOk p) : ∀ cs : List Chg, (∀ c ∈ cs, ChgOk p c) → PartsOk (changesP p cs) ∧ (changesP p cs).ms = p.ms ∧ (changesP p cs).sg = p.sg := by
  suffices h : ∀ (n : Nat) (cs : List Chg), cs.length = n → (∀ c ∈ cs, ChgOk p c) → PartsOk (changesP p cs) ∧ (changesP p cs).ms = p.ms ∧ (changesP p cs).sg = p.sg from fun cs => h _ cs rfl
  intro n
  induction n with
  | zero =>
    intro cs h _
    have : cs = [] := List.eq_nil_of_length_eq_zero h
    subst this
    exact ⟨ok, rfl, rfl⟩
  | succ n ih =>
    intro cs h hc
    rcases List.eq_nil_or_concat cs with rfl | ⟨xs, m, rfl⟩
    · cases h
    · rw [List.concat_eq_append] at h hc ⊢
      obtain ⟨a, b, d⟩ := ih xs (by rw [List.length_append] at h; simpa using h) fun c hm => hc c (List.mem_append_left _ hm)
      rw [changes_snoc]
      obtain ⟨a2, b2, d2⟩ := applyC_ok a ((hc m (by simp)).of b d)
      exact ⟨a2, b2.trans b, d2.trans d⟩
def seenC (ks : List (List Key)) : List (List Key × V) := ks.map fun k => (k, V.bl true)
theorem seenC_no {k : List Key} : ∀ {ks : List (List Key)}, k ∉ ks → valV (seenC ks) k = none
  | [], _ => rfl
  | a :: t, h => by
    rw [show seenC (a :: t) = (a, V.bl true) :: seenC t from rfl, valV_neg (fun z => h (by
      have z' : a = k := z
      rw [z']; exact List.mem_cons_self ..))]
    exact seenC_no fun z => h (List.mem_cons_of_mem _ z)
theorem seenC_snoc {ks : List (List Key)} {k : List Key} (h : k ∉ ks) : putK (seenC ks) k (.bl true) = seenC (ks ++ [k]) := by
  rw [putK_new _ (seenC_no h)]
  unfold seenC
  rw [List.map_append]
  rfl
abbrev ChA := Addr × Chg
def chR (zs : List ChA) : List V := zs.map fun z => V.ref z.1
def ChH (H : Hp) (zs : List ChA) : Prop := ∀ z ∈ zs, H z.1 = some (.tup z.2.vs)
theorem ChH.same {H H' : Hp} {zs : List ChA} (h : ChH H zs) (s : Same H H') : ChH H' zs := fun z hz => s _ _ (h z hz)
def spIsChgG (C : Addr) : Sp := fun vs H Q _ => ∃ (a c : Addr) (t : Str) (p : Parts) (ch : Chg), vs = [.ref a, .ref c] ∧ RuleAt H C a t p ∧ H c = some (.tup ch.vs) ∧ ChgOk p ch ∧ Q (.bl true) H
def spCkChgG (C : Addr) : Sp := fun vs H Q _ => ∃ (a W : Addr) (t : Str) (p : Parts) (zs : List ChA), vs = [.ref a, .ref W] ∧ RuleAt H C a t p ∧ H W = some (.tup (chR zs)) ∧ ChH H zs ∧ zs.length ≤ 6 ∧ (zs.map (·.2.key)).Nodup ∧ (∀ z ∈ zs, ChgOk p z.2) ∧ ∀ H', Same H H' → Q .non H'
def spChangedG (C : Addr) : Sp := fun vs H Q _ => ∃ (a l : Addr) (t : Str) (p : Parts) (zs : List ChA), vs = [.ref a, .ref l] ∧ RuleAt H C a t p ∧ PartsOk p ∧ p.ms.length ≤ 20 ∧ H l = some (.lst (chR zs)) ∧ ChH H zs ∧ (∀ z ∈ zs, ChgOk p z.2) ∧ ∀ (b : Addr) (t' : Str) (H' : Hp), Same H H' → RuleAt H' C b t' (changesP p (zs.map (·.2))) → Q (.ref b) H'
/-- the place of a change -/
def tPlace : TS := fun D σ H => ∃ (v0 v1 v2 v3 v5 : Option V) (c : Addr) (ch : Chg), σ = [v0, v1, v2, v3, some (.ref c), v5] ∧ H c = some (.tup ch.vs) ∧ ∀ q H', Same H H' → H' q = some (.tup (ch.key.map kV)) → D.nx [v0, v1, v2, v3, some (.ref c), some (.ref q)] H'
/-- the rule with one change more -/
def tChange (C : Addr) : TS := fun D σ H => ∃ (b l c : Addr) (t : Str) (p : Parts) (ch : Chg), σ = [some (.ref b), some (.ref l), some (.ref c)] ∧ RuleAt H C b t p ∧ PartsOk p ∧ p.ms.length ≤ 20 ∧ H c = some (.tup ch.vs) ∧ ChgOk p ch ∧ ∀ (b' : Addr) (t' : Str) (H' : Hp), Same H H' → RuleAt H' C b' t' (applyC p ch) → D.nx [some (.ref b'), some (.ref l), some (.ref c)] H'
section
variable {P : Program} {w : World} {K : PySem.W.Frag} {mg : Str → Option Value} {base : Heap} {CU : Addr}
theorem scIsChgG : FnScope ["rule", "value"] ["rule", "value"] (defScope sIsChange) := ⟨rfl, rfl, rfl, by decide +kernel, rfl, by decide +kernel, by decide +kernel⟩
theorem ok_isChgG {f C : Addr} {fd : FuncData} (F : Fun K "is_change" "is_change" sIsChange f fd) (T : RuC K C) (hM : HvM P w K mg base 1 C "is_mood" ["self", "mood"] (spIsMood C)) (hS : HvM P w K mg base 1 C "is_sign" ["self", "sign"] (spIsSign C)) (hIs : mg "isinstance" = none) (hTu : mg "tuple" = none) (hL : mg "len" = none) : FnOk P w K mg base CX0 2 f fd ["rule", "value"] (spIsChgG C) := by
  refine F.ok scIsChgG (fun vs H Q E h => ?_) (fun cdv A outer s H vs Q E hr h => ?_)
  · obtain ⟨a, c, t, p, ch, rfl, _⟩ := h
    rfl
  · obtain ⟨a, c, t, p, ch, rfl, hA, ec, hc, k⟩ := h
    refine ⟨_, pss_cons (ps_if (pt_not (pt_val (pe_callB call_isi (by rfl) hIs (by decide +kernel) (pa_cons (pv 1) (pa_cons (pe_bltn (v := .ty "tuple") (by rfl) hTu (by decide +kernel) rfl) pa_nil))))) (pss_one ps_never) pss_nil)
      (pss_cons (ps_if (pt_cmpR op_eq (pe_callB call_len_seq (by rfl) hL PySem.boot_len (pa_cons (pv 1) pa_nil)) pe_int (nomark _))
        (pss_one (ps_ret (pe_and (pe_mt hM (pv 0) T.cl hr pass0 (pa_cons (pe_ix ix_tup (pv 1) pe_int (fun _ _ => rfl)) pa_nil)) (pe_and (pe_mt hS (pv 0) T.cl hr pass0 (pa_cons (pe_ix ix_tup (pv 1) pe_int (fun _ _ => rfl)) pa_nil)) (pe_one (pe_mt hM (pv 0) T.cl hr pass0 (pa_cons (pe_ix ix_tup (pv 1) pe_int (fun _ _ => rfl)) pa_nil))))))) pss_nil)
      (pss_one (ps_ret (pe_and (pe_cmpR op_eq (pe_callB call_len_seq (by rfl) hL PySem.boot_len (pa_cons (pv 1) pa_nil)) pe_int (nomark _)) (pe_one (pe_mt hM (pv 0) T.cl hr pass0 (pa_cons (pe_ix ix_tup (pv 1) pe_int (fun _ _ => rfl)) pa_nil))))))), ?_⟩
    obtain ⟨dx, M, G, D, e1, e2, e3, e4⟩ := id hA
    refine ⟨_, rfl, .ref c, .ty "tuple", _, .type "tuple", true, rfl, .ty _, .base (.tup ec), kit_ty (by decide +kernel), _, rfl, iteF ?_⟩
    cases ch with
    | turn m =>
      refine ⟨_, rfl, c, _, rfl, .inr (SqT.of ec), rfl, _, rfl, iteF ?_⟩
      refine ⟨_, rfl, c, _, rfl, .inr (SqT.of ec), rfl, _, rfl, iteT ?_⟩
      refine ⟨_, rfl, a, dx, _, rfl, e1, rfl, _, rfl, c, _, _, V.str m, rfl, rfl, SqT.of ec, atI_nat (j := 0) rfl, a, m, t, p, rfl, hA, ?_⟩
      rw [decide_eq_true (show m ∈ p.ms from hc)]
      exact k
    | lead m x g =>
      refine ⟨_, rfl, c, _, rfl, .inr (SqT.of ec), rfl, _, rfl, iteT ?_⟩
      refine ⟨_, rfl, a, dx, _, rfl, e1, rfl, _, rfl, c, _, _, V.str m, rfl, rfl, SqT.of ec, atI_nat (j := 0) rfl, a, m, t, p, rfl, hA, _, rfl, ?_⟩
      rw [decide_eq_true hc.1]
      refine iteT ⟨_, rfl, a, dx, _, rfl, e1, rfl, _, rfl, c, _, _, V.str (sg x), rfl, rfl, SqT.of ec, atI_nat (j := 1) rfl, a, x, t, p, rfl, hA, _, rfl, ?_⟩
      rw [decide_eq_true hc.2.1]
      refine iteT ⟨_, rfl, a, dx, _, rfl, e1, rfl, _, rfl, c, _, _, V.str g, rfl, rfl, SqT.of ec, atI_nat (j := 2) rfl, a, g, t, p, rfl, hA, ?_⟩
      rw [decide_eq_true hc.2.2]
      exact k
theorem scCkCG : FnScope nCkC ["rule", "changes"] (defScope sCkChg) := ⟨rfl, rfl, rfl, by decide +kernel, rfl, by decide +kernel, by decide +kernel⟩
theorem ok_ckChgG {f C : Addr} {fd : FuncData} {tM : Tok} (F : Fun K "check_changes" "check_changes" sCkChg f fd) (hI : Hv P w K mg base 2 "is_change" ["rule", "value"] (spIsChgG C)) (gM : mg "MOST_CHANGES" = some (.int 6 tM)) (hIs : mg "isinstance" = none) (hTu : mg "tuple" = none) (hEn : mg "enumerate" = none) : FnOk P w K mg base CX0 3 f fd ["rule", "changes"] (spCkChgG C) := by
  refine F.ok scCkCG (fun vs H Q E h => ?_) (fun cdv A outer s H vs Q E hr h => ?_)
  · obtain ⟨a, W, t, p, zs, rfl, _⟩ := h
    rfl
  · obtain ⟨a, W, t, p, zs, rfl, hA, eW, hZ, zl, nd, hin, k⟩ := h
    have hu := hu_of hr
    refine ⟨_, pss_cons (ps_if (pt_not (pt_val (pe_callB call_isi (by rfl) hIs (by decide +kernel) (pa_cons (pv 1) (pa_cons (pe_bltn (v := .ty "tuple") (by rfl) hTu (by decide +kernel) rfl) pa_nil))))) (pss_one ps_never) pss_nil)
      (pss_cons (ps_set (i := 2) scCkCG.nd rfl (Or.inl rfl) pe_dnewT)
      (pss_one (ps_for PassesOwn.never rfl (pi_enumT rfl hEn (pa_cons (pv 1) pa_nil)) (pg_tup (by rfl) (pgs_cons (pg_name (i := 3) scCkCG.nd rfl (Or.inl rfl)) (pgs_cons (pg_name (i := 4) scCkCG.nd rfl (Or.inl rfl)) pgs_nil)))
        (pss_cons (ps_if (PW.pt (pw_or (pt_cmpR op_eq (pv 3) (pe_glob (v := .int 6) rfl gM ⟨_, rfl⟩) (nomark _)) (pw_or1 (pt_not (pt_val (pe_cl hI hr rfl pass0 (pa_cons (pv 0) (pa_cons (pv 4) pa_nil)))))))) (pss_one ps_never) pss_nil)
        (pss_cons (PS_imp (t' := tPlace) (ps_set (i := 5) scCkCG.nd rfl (Or.inl rfl) (pe_slice sl_tupA (pv 4) po_none (po_some pe_int))) ?iPl)
        (pss_cons (ps_if (pt_cmp (pc_din hu (pv 5) (pv 2))) (pss_one ps_never) pss_nil)
        (pss_one (ps_dput hu (pv 2) (pv 5) pe_bl rfl)))))))), ?_⟩
    case iPl =>
      rintro D σ H ⟨v0, v1, v2, v3, v5, c, ch, rfl, ec, q⟩
      cases ch with
      | turn m => exact ⟨_, rfl, _, rfl, c, _, rfl, SqT.of ec, fun _ => q c H (Same.refl _) ec, fun z => absurd ⟨rfl, rfl⟩ z⟩
      | lead m x g => exact ⟨_, rfl, _, rfl, c, _, rfl, SqT.of ec, fun z => absurd z.2 (by show ¬ (2 : Nat) = 3; decide), fun _ t ht => q t _ (same_new ht) upd_same⟩
    refine ⟨_, rfl, .ref W, .ty "tuple", _, .type "tuple", true, rfl, .ty _, .base (.tup eW), kit_ty (by decide +kernel), _, rfl, iteF ?_⟩
    refine fun D hD => ⟨_, rfl, W, _, rfl, SqT.of (keep1 eW hD), ?_⟩
    have sH := same_new (o := .dT []) hD
    have eD : upd H D (.dT []) D = some (.dT []) := upd_same
    have nD : ∀ b o, H b = some o → b ≠ D := fun b o e => ne_of_none e hD
    generalize upd H D (.dT []) = H1 at sH eD ⊢
    have wk := walk_enumT (K := K) (a := W) (xs := chR zs)
    rw [show (chR zs).length = zs.length by unfold chR; rw [List.length_map]] at wk
    have fin : ∀ H', KpM D H1 H' → Same H H' := fun H' ks b o e => ks b o (nD b o e) (sH b o e)
    refine for_it wk (fun i σ H' => (∃ v3 v4 v5 : Option V, σ = [some (.ref a), some (.ref W), some (.ref D), v3, v4, v5]) ∧ KpM D H1 H' ∧ H' D = some (.dT (seenC ((zs.take i).map (·.2.key))))) ⟨⟨none, none, none, rfl⟩, KpM.refl _, eD⟩ (fun i σ H' _ h => SqT.of (fin _ h.2.1 _ _ eW)) (fun i y σ H' H'' hi h hy => ?_) (fun σ H' h => ?_)
    · obtain ⟨T, x, rfl, hT, rfl, hx⟩ := hy
      obtain ⟨⟨v3, v4, v5, rfl⟩, ks, eD2⟩ := h
      have hz : zs[i]? = some zs[i] := List.getElem?_eq_getElem hi
      obtain rfl := map_get hz hx
      have hzm := List.mem_of_getElem? hz
      have e1 := hZ _ hzm
      have s1 := (fin _ ks).trans (same_new (o := .tup [.int (i : Nat), V.ref zs[i].1]) hT)
      have eD3 := keep1 (o := .tup [.int (i : Nat), V.ref zs[i].1]) eD2 hT
      refine ⟨T, _, rfl, SqT.of upd_same, rfl, _, _, rfl, _, _, rfl, rfl, ?_⟩
      have ni : decide (V.int (i : Int) = V.int 6) = false := decide_eq_false fun z => by injection z with z; omega
      have no : zs[i].2.key ∉ (zs.take i).map (·.2.key) := by
        intro m
        rw [List.map_take] at m
        obtain ⟨q, hq⟩ := List.mem_iff_getElem?.mp m
        rw [List.getElem?_take] at hq
        split at hq
        · rename_i hlt
          have : q = i := (List.getElem?_inj (by rw [List.length_map]; omega) nd).mp (by rw [hq, List.getElem?_map, hz]; rfl)
          omega
        · cases hq
      have ks1 := ks.same (same_new (o := .tup [.int (i : Nat), V.ref zs[i].1]) hT)
      refine ⟨_, rfl, rfl, _, rfl, if_false_of ni ?_⟩
      refine ⟨_, rfl, _, rfl, a, zs[i].1, t, p, zs[i].2, rfl, hA.same s1, s1 _ _ e1, hin _ hzm, _, rfl, iteF ?_⟩
      refine ⟨_, _, _, _, _, zs[i].1, zs[i].2, rfl, s1 _ _ e1, fun q H3 s3 eq => ?_⟩
      have eD4 := s3 _ _ eD3
      refine ⟨_, rfl, _, rfl, D, _, rfl, DGet.t (k := zs[i].2.key) eD4 eq, _, rfl, ?_⟩
      rw [seenC_no no]
      refine iteF ⟨_, rfl, _, rfl, D, upd _ D (.dT (seenC ((zs.take (i + 1)).map (·.2.key)))), rfl, ?_, ⟨_, _, _, rfl⟩, (ks1.same s3).upd, upd_same⟩
      have et : seenC ((zs.take (i + 1)).map (·.2.key)) = putK (seenC ((zs.take i).map (·.2.key))) zs[i].2.key (.bl true) := by
        rw [List.take_add_one, hz, List.map_append, seenC_snoc no]
        rfl
      rw [et]
      refine DPut.t (k := zs[i].2.key) eD4 eq ?_
      unfold seenC
      rw [List.length_map, List.length_map, List.length_take, sizeLine_eq]
      omega
    · exact k _ (fin _ h.2.1)
theorem scChdG : FnScope nChd ["rule", "changes"] (defScope sChanged) := ⟨rfl, rfl, rfl, by decide +kernel, rfl, by decide +kernel, by decide +kernel⟩
theorem ok_changedG {f C : Addr} {fd : FuncData} (F : Fun K "changed_rule" "changed_rule" sChanged f fd) (T : RuC K C) (hT : HvM P w K mg base 7 C "turn" ["self", "mood"] (spTurn C)) (hLe : HvM P w K mg base 7 C "lead" ["self", "mood", "sign", "goal"] (spLead C)) (hL : mg "len" = none) : FnOk P w K mg base CX0 8 f fd ["rule", "changes"] (spChangedG C) := by
  refine F.ok scChdG (fun vs H Q E h => ?_) (fun cdv A outer s H vs Q E hr h => ?_)
  · obtain ⟨a, l, t, p, zs, rfl, _⟩ := h
    rfl
  · obtain ⟨a, l, t, p, zs, rfl, hA, ok, hn, el, hZ, hin, k⟩ := h
    refine ⟨_, pss_cons (ps_for PassesOwn.never rfl (pi_list (pv 1)) (pg_name (i := 2) scChdG.nd rfl (Or.inl rfl))
        (pss_one (PS_imp (t' := tChange C) (ps_set (i := 0) scChdG.nd rfl (Or.inl rfl) (pe_ifExp (pt_cmpR op_eq (pe_callB call_len_seq (by rfl) hL PySem.boot_len (pa_cons (pv 2) pa_nil)) pe_int (nomark _)) (pe_mt hT (pv 0) T.cl hr pass0 (pa_cons (pe_ix ix_tup (pv 2) pe_int (fun _ _ => rfl)) pa_nil))
          (pe_mt hLe (pv 0) T.cl hr pass0 (pa_cons (pe_ix ix_tup (pv 2) pe_int (fun _ _ => rfl)) (pa_cons (pe_ix ix_tup (pv 2) pe_int (fun _ _ => rfl)) (pa_cons (pe_ix ix_tup (pv 2) pe_int (fun _ _ => rfl)) pa_nil)))))) ?iCh)))
      (pss_one (ps_ret (pv 0))), ?_⟩
    case iCh =>
      rintro D σ H ⟨b, l, c, t, p, ch, rfl, hB, ok, hn, ec, hc, q⟩
      obtain ⟨dx, M, G, D', e5, e6, e7, e8⟩ := id hB
      cases ch with
      | turn m =>
        refine ⟨_, rfl, c, _, rfl, .inr (SqT.of ec), rfl, _, rfl, iteT ?_⟩
        exact ⟨_, rfl, b, dx, _, rfl, e5, rfl, _, rfl, c, _, _, V.str m, rfl, rfl, SqT.of ec, atI_nat (j := 0) rfl, b, m, t, p, rfl, hB, ok, hn, hc, fun b2 t2 H2 s2 hB2 => q b2 t2 H2 s2 hB2⟩
      | lead m x g =>
        refine ⟨_, rfl, c, _, rfl, .inr (SqT.of ec), rfl, _, rfl, iteF ?_⟩
        exact ⟨_, rfl, b, dx, _, rfl, e5, rfl, _, rfl, c, _, _, V.str m, rfl, rfl, SqT.of ec, atI_nat (j := 0) rfl, _, rfl, c, _, _, V.str (sg x), rfl, rfl, SqT.of ec, atI_nat (j := 1) rfl, _, rfl, c, _, _, V.str g, rfl, rfl, SqT.of ec, atI_nat (j := 2) rfl, b, m, g, t, x, p, rfl, hB, ok, hn, hc.1, hc.2.2, hc.2.1, fun b2 t2 H2 s2 hB2 => q b2 t2 H2 s2 hB2⟩
    refine ⟨_, rfl, l, rfl, ⟨_, SqL.of el⟩, ?_⟩
    refine for_it (walk_listL zs fun z => V.ref z.1) (fun i σ H' => ∃ (b : Addr) (t' : Str) (v2 : Option V), σ = [some (.ref b), some (.ref l), v2] ∧ Same H H' ∧ RuleAt H' C b t' (changesP p ((zs.take i).map (·.2)))) ⟨a, t, none, rfl, Same.refl _, hA⟩ (fun i σ H' _ h => ?_) (fun i y σ H' H'' hi h hy => ?_) (fun σ H' h => ?_)
    · obtain ⟨b, t', v2, rfl, st, _⟩ := h
      exact SqL.of (st _ _ el)
    · obtain ⟨rfl, hy⟩ := hy
      obtain ⟨b, t', v2, rfl, st, hB⟩ := h
      have hz : zs[i]? = some zs[i] := List.getElem?_eq_getElem hi
      obtain rfl := map_get hz hy
      have hzm := List.mem_of_getElem? hz
      have tk := changes_ok ok ((zs.take i).map (·.2)) fun c hc => by
        obtain ⟨z, hz1, rfl⟩ := List.mem_map.mp hc
        exact hin z (List.mem_of_mem_take hz1)
      refine ⟨b, l, zs[i].1, t', _, zs[i].2, rfl, hB, tk.1, by rw [tk.2.1]; exact hn, st _ _ (hZ _ hzm), (hin _ hzm).of tk.2.1 tk.2.2, fun b2 t2 H2 s2 hB2 => ⟨b2, t2, _, rfl, st.trans s2, ?_⟩⟩
      rw [List.take_add_one, hz, List.map_append]
      show RuleAt H2 C b2 t2 (changesP p ((zs.take i).map (·.2) ++ [zs[i].2]))
      rw [changes_snoc]
      exact hB2
    · obtain ⟨b, t', v2, rfl, st, hB⟩ := h
      rw [List.take_length] at hB
      exact ⟨_, rfl, k b t' _ st hB⟩
end
end My
namespace My
open PySem PySem.Spec PyProof.Rows L2
def spCell (K : PySem.W.Frag) : Sp := fun vs H Q _ => ∃ (a : Addr) (ns : List Int) (t : Int), vs = [.ref a, .int t] ∧ SqL K H a (ns.map V.int) ∧ 0 ≤ t ∧ t ≤ 1000 ∧ ∀ (n : Int) (H' : Hp), Same H H' → Q (.int n) H'
/-- a drawn number -/
def spPk : Sp := fun vs H Q _ => ∃ (p : Addr) (n : Int), vs = [.ref p, .int n] ∧ Wl H p ∧ 0 < n ∧ n < 1073741824 ∧ ∀ (d : Int) (H' : Hp), 0 ≤ d → d < n → Sb p H H' → Wl H' p → Q (.int d) H'
def spPurse : Sp := fun vs H Q _ => ∃ n : Int, vs = [.int n] ∧ ∀ (p : Addr) (H' : Hp), Same H H' → H p = none → Wl H' p → Q (.ref p) H'
section
variable {P : Program} {w : World} {K : PySem.W.Frag} {mg : Str → Option Value} {base : Heap}
abbrev nCell : List Str := ["_law_cells", "_law_k", "_law_seed", "_law_cell_here"]
theorem scCell : FnScope nCell ["_law_cells", "_law_k"] (defScope sCell) := ⟨rfl, rfl, rfl, by decide +kernel, rfl, by decide +kernel, by decide +kernel⟩
theorem ok_cell {f : Addr} {fd : FuncData} (F : Fun K "_law_cell" "_law_cell" sCell f fd) (hI : mg "int" = none) (hL : mg "len" = none) : FnOk P w K mg base CX0 1 f fd ["_law_cells", "_law_k"] (spCell K) := by
  refine F.ok scCell (fun vs H Q E h => ?_) (fun cdv A outer s H vs Q E hr h => ?_)
  · obtain ⟨a, ns, t, rfl, _⟩ := h
    rfl
  · obtain ⟨a, ns, t, rfl, hS, t0, t1, k⟩ := h
    refine ⟨_, pss_cons (ps_if (pt_cmpR op_lt (pv 1) (pe_callB call_len_seq (by rfl) hL PySem.boot_len (pa_cons (pv 0) pa_nil)) (nomark _)) (pss_one (ps_ret (pe_ix ix_list (pv 0) (pv 1) (fun _ _ => rfl)))) pss_nil)
      (pss_cons (ps_set (i := 2) scCell.nd rfl (Or.inl rfl) (pe_op op_add (pe_op op_add pe_int (pe_op op_mul (pe_op op_mul pe_int (pv 1)) (pv 1))) (pe_op op_mul pe_int (pv 1))))
      (pss_cons (ps_for PassesOwn.never rfl (pi_list (pe_slice sl_list (pv 0) po_none (po_some pe_int))) (pg_name (i := 3) scCell.nd rfl (Or.inl rfl))
        (pss_one (ps_set (i := 2) scCell.nd rfl (Or.inl rfl) (pe_op op_mod (pe_callTy call_int1 (by rfl) hI (by decide +kernel) (pa_cons (pe_op op_add (pe_op op_mul (pv 2) pe_int) (pv 3)) pa_nil)) pe_int))))
      (pss_one (ps_ret (pv 2))))), ?_⟩
    refine ⟨_, rfl, _, rfl, a, _, rfl, .inl hS, _, _, rfl, rfl, _, rfl, ite2 (fun c => ?_) (fun c => ?_)⟩
    · have c1 : t < ((ns.map V.int).length : Int) := of_decide_eq_true c
      rw [List.length_map] at c1
      obtain ⟨z, hz⟩ : ∃ z, ns[t.toNat]? = some z := ⟨_, List.getElem?_eq_getElem (by omega : t.toNat < ns.length)⟩
      have et : t = ((t.toNat : Nat) : Int) := by omega
      refine ⟨_, rfl, _, rfl, a, _, _, V.int z, rfl, rfl, hS, ?_, k z _ (Same.refl _)⟩
      rw [et]
      exact atI_nat (by rw [List.getElem?_map, hz]; rfl)
    · refine ⟨_, rfl, _, _, rfl, rfl, .inl ⟨by decide, by decide⟩, _, rfl, _, _, rfl, rfl, .inr ⟨by show -(2 ^ 64 : Int) < t; omega, by show t < 2 ^ 64; omega⟩, _, _, rfl, rfl, _, rfl, _, _, rfl, rfl, .inl ⟨by decide, by decide⟩, _, _, rfl, rfl, ?_⟩
      refine ⟨_, rfl, 4, rfl, a, _, rfl, hS, fun q hq => ⟨q, rfl, ⟨_, SqL.of upd_same⟩, ?_⟩⟩
      obtain ⟨ms, hms⟩ := cut_ints ns none (some 4)
      refine for_list (K := K) (a := q) (xs := cutV (ns.map V.int) none (some 4)) (fun i σ H' => ∃ (st : Int) (v : Option V), σ = [some (.ref a), some (.int t), some (.int st), v] ∧ H' = upd H q (.lst (cutV (ns.map V.int) none (some 4))))
        ⟨_, none, rfl, rfl⟩ (fun i σ H' _ ⟨_, _, _, e⟩ => by rw [e]; exact SqL.of upd_same) ?_ ?_
      · rintro i y σ H' hi ⟨st, v, rfl, rfl⟩
        rw [hms] at hi
        obtain ⟨z, _, rfl⟩ := map_int_get hi
        exact ⟨_, rfl, _, _, rfl, rfl, .inr ⟨by decide, by decide⟩, _, rfl, _, _, rfl, rfl, .inl ⟨_, rfl, _, _, rfl, rfl, (by show (0 : Int) < 2147483399; decide), _, _, rfl, rfl⟩⟩
      · rintro σ H' ⟨st, v, rfl, rfl⟩
        exact ⟨_, rfl, k _ _ (same_new hq)⟩
abbrev nPurse : List Str := ["_law_cell_here", "_law_digits"]
theorem scPurse : FnScope nPurse ["_law_cell_here"] (defScope sPurse) := ⟨rfl, rfl, rfl, by decide +kernel, rfl, by decide +kernel, by decide +kernel⟩
def tDig : TE := fun σ H Q => ∃ (n : Int) (v : Option V), σ = [some (.int n), v] ∧ ∀ d : Int, 0 ≤ d → Q (.int d) H
theorem PE_imp0 {X : Cx} {e : Expr} {t t' : TE} (h : PE X e t) (m : ∀ σ H Q, t' σ H Q → t σ H Q) : PE X e t' := ⟨fun pins s σ H Q I q => h.run pins s σ H Q I (m σ H Q q)⟩
theorem ok_purse {f : Addr} {fd : FuncData} (F : Fun K "_law_purse" "_law_purse" sPurse f fd) (hI : mg "int" = none) (hA : mg "abs" = none) : FnOk P w K mg base CX0 1 f fd ["_law_cell_here"] spPurse := by
  refine F.ok scPurse (fun vs H Q E h => ?_) (fun cdv A outer s H vs Q E hr h => ?_)
  · obtain ⟨n, rfl, _⟩ := h
    rfl
  · obtain ⟨n, rfl, k⟩ := h
    refine ⟨_, pss_cons (ps_set (i := 1) scPurse.nd rfl (Or.inl rfl) (PE_imp0 (t' := tDig) (pe_ifExp (PW.pt (pw_or (pt_cmpR op_lt (pv 0) pe_int (nomark _)) (pw_or1 (pt_cmpR op_ge (pv 0) (pe_op op_pow pe_int pe_int) (nomark _))))) (pe_callB call_abs (by rfl) hA (by decide +kernel) (pa_cons (pv 0) pa_nil)) pe_int) ?iD))
      (pss_one (ps_ret (pe_lst (pa_cons (pe_op op_mod (pe_callTy call_int1 (by rfl) hI (by decide +kernel) (pa_cons (pe_op op_add (pe_op op_mul (pv 0) pe_int) pe_int) pa_nil)) pe_int) (pa_cons (pv 1) (pa_cons pe_int pa_nil)))))), ?_⟩
    case iD =>
      rintro σ H Q ⟨n, v, rfl, q⟩
      refine ⟨_, rfl, _, _, rfl, rfl, _, rfl, ite2 (fun c => ?_) (fun c => ?_)⟩
      · exact ⟨_, rfl, _, rfl, q _ (by split <;> omega)⟩
      · refine ⟨_, rfl, _, _, rfl, rfl, ⟨by decide, by decide, by decide⟩, _, _, rfl, rfl, _, rfl, ite2 (fun c => ?_) (fun c => ?_)⟩
        · exact ⟨_, rfl, _, rfl, q _ (by split <;> omega)⟩
        · exact q 0 (Int.le_refl _)
    refine ⟨n, none, rfl, fun d hd => ?_⟩
    refine ⟨_, rfl, _, _, rfl, rfl, .inr ⟨by decide, by decide⟩, _, _, rfl, rfl, .inl ⟨_, rfl, _, _, rfl, rfl, (by show (0 : Int) < 2147483563; decide), _, rfl, by show 3 ≤ sizeLine; decide, fun p hp => ?_⟩⟩
    exact k p _ (same_new hp) hp ⟨_, _, _, Int.emod_nonneg _ (by decide), hd, upd_same⟩
abbrev nPk : List Str := ["_law_purse_here", "_law_size", "_law_state", "_law_step", "_law_digit"]
theorem scPk : FnScope nPk ["_law_purse_here", "_law_size"] (defScope sPick) := ⟨rfl, rfl, rfl, by decide +kernel, rfl, by decide +kernel, by decide +kernel⟩
theorem ok_pk {f : Addr} {fd : FuncData} (F : Fun K "_law_pick" "_law_pick" sPick f fd) (hI : mg "int" = none) (hD : mg "divmod" = none) : FnOk P w K mg base CX0 1 f fd ["_law_purse_here", "_law_size"] spPk := by
  refine F.ok scPk (fun vs H Q E h => ?_) (fun cdv A outer s H vs Q E hr h => ?_)
  · obtain ⟨p, n, rfl, _⟩ := h
    rfl
  · obtain ⟨p, n, rfl, ⟨w0, w1, w2, h0, h1, hp⟩, n0, n1, k⟩ := h
    refine ⟨_, pss_cons (ps_asg (pe_op op_add (pe_ix ix_list (pv 0) pe_int (fun _ _ => rfl)) pe_int) (pg_sub (pv 0) pe_int set_list))
      (pss_cons (ps_set (i := 2) scPk.nd rfl (Or.inl rfl) (pe_callTy call_int1 (by rfl) hI (by decide +kernel) (pa_cons (pe_ix ix_list (pv 0) pe_int (fun _ _ => rfl)) pa_nil)))
      (pss_cons (ps_set (i := 3) scPk.nd rfl (Or.inl rfl) (pe_op op_add (pe_op op_mod (pe_callTy call_int1 (by rfl) hI (by decide +kernel) (pa_cons (pv 2) pa_nil)) pe_int) pe_int))
      (pss_cons (ps_asg (pe_op op_mod (pe_callTy call_int1 (by rfl) hI (by decide +kernel) (pa_cons (pe_op op_add (pe_op op_add (pe_op op_mul (pv 2) (pv 3)) (pe_op op_mul pe_int (pe_ix ix_list (pv 0) pe_int (fun _ _ => rfl)))) pe_int) pa_nil)) pe_int) (pg_sub (pv 0) pe_int set_list))
      (pss_cons (ps_if (pt_cmpR op_gt (pe_ix ix_list (pv 0) pe_int (fun _ _ => rfl)) pe_int (nomark _))
        (pss_cons (ps_asg (pe_callB call_divmod (by rfl) hD (by decide +kernel) (pa_cons (pe_ix ix_list (pv 0) pe_int (fun _ _ => rfl)) (pa_cons (pv 1) pa_nil))) (pg_tup rfl (pgs_cons (pg_sub (pv 0) pe_int set_list) (pgs_cons (pg_name (i := 4) scPk.nd rfl (Or.inl rfl)) pgs_nil))))
        (pss_one (ps_ret (pv 4)))) pss_nil)
      (pss_one (ps_ret (pe_op op_modN (pe_op op_fdiv (pe_callTy call_int1 (by rfl) hI (by decide +kernel) (pa_cons (pe_ix ix_list (pv 0) pe_int (fun _ _ => rfl)) pa_nil)) pe_int) (pv 1)))))))), ?_⟩
    have hp1 : ∀ o, upd H p o p = some o := fun o => upd_same
    refine ⟨_, rfl, p, _, _, _, rfl, rfl, SqL.of hp, atI_nat (j := 2) rfl, _, _, rfl, rfl, _, rfl, p, _, _, 2, rfl, rfl, hp, rfl, ?_⟩
    refine ⟨_, rfl, p, _, _, _, rfl, rfl, SqL.of (hp1 _), atI_nat (j := 0) rfl, .inl ⟨_, rfl, ?_⟩⟩
    refine ⟨_, rfl, .inl ⟨_, rfl, _, _, rfl, rfl, (by show (0 : Int) < 40013; decide), _, _, rfl, rfl, ?_⟩⟩
    have m0 := Int.emod_nonneg w0 (show (40013 : Int) ≠ 0 by decide)
    have m1 := Int.emod_lt_of_pos w0 (show (0 : Int) < 40013 by decide)
    refine ⟨_, rfl, _, rfl, _, _, rfl, rfl, .inr ⟨by show -(2 ^ 64 : Int) < w0 % 40013 + 20021; omega, by show w0 % 40013 + 20021 < 2 ^ 64; omega⟩, _, rfl, p, _, _, _, rfl, rfl, SqL.of (hp1 _), atI_nat (j := 2) rfl, _, _, rfl, rfl, .inl ⟨by decide, by decide⟩, _, _, rfl, rfl, _, _, rfl, rfl, .inl ⟨_, rfl, _, _, rfl, rfl, (by show (0 : Int) < 2147483399; decide), _, rfl, p, _, _, 0, rfl, rfl, hp1 _, rfl, ?_⟩⟩
    rw [upd_upd]
    have e0 : ∀ z : Int, 0 ≤ z % 2147483399 := fun z => Int.emod_nonneg _ (by decide)
    refine ⟨_, rfl, p, _, _, _, rfl, rfl, SqL.of (hp1 _), atI_nat (j := 1) rfl, _, _, rfl, rfl, _, rfl, ite2 (fun c => ?_) (fun c => ?_)⟩
    · have c' : (0 : Int) < w1 := of_decide_eq_true c
      refine ⟨_, rfl, p, _, _, _, rfl, rfl, SqL.of (hp1 _), atI_nat (j := 1) rfl, _, rfl, _, _, rfl, ⟨by omega, by omega⟩, fun t ht => ?_⟩
      have nt : t ≠ p := (ne_of_none (hp1 _) ht).symm
      refine ⟨t, _, rfl, SqT.of upd_same, rfl, _, _, rfl, _, rfl, p, _, _, 1, rfl, rfl, by rw [upd_ne nt.symm]; exact hp1 _, rfl, _, _, rfl, rfl, _, rfl, ?_⟩
      have ed : w1 % n = w1 % n := rfl
      refine k _ _ (Int.emod_nonneg _ (by omega)) (Int.emod_lt_of_pos _ n0) (fun b u nb e => ?_) ⟨_, _, _, e0 _, Int.ediv_nonneg h1 (by omega), upd_same⟩
      have nbt : b ≠ t := ne_of_none (show upd H p _ b = some u by rw [upd_ne nb]; exact e) ht
      rw [upd_ne nb, upd_ne nbt, upd_ne nb]
      exact e
    · refine ⟨_, rfl, p, _, _, _, rfl, rfl, SqL.of (hp1 _), atI_nat (j := 0) rfl, .inl ⟨_, rfl, _, _, rfl, rfl, ⟨by decide, by decide⟩, _, rfl, _, _, rfl, rfl, (by show n ≠ 0; omega), ?_⟩⟩
      exact k _ _ (Int.fmod_nonneg_of_pos _ n0) (Int.fmod_lt_of_pos _ n0) Sb.upd_ ⟨_, _, _, e0 _, h1, upd_same⟩
end
end My
namespace My
open PySem PySem.Spec PyProof.Rows L2 PySem.GX L2H LamX
def spLetters : Sp := fun vs H Q _ => ∃ (p : Addr) (n : Nat), vs = [.ref p, .int (n : Int)] ∧ Wl H p ∧ 1 ≤ n ∧ n ≤ 3 ∧ ∀ (x : Str) (H' : Hp), areSignsL [x] = true → x.length = n → Sb p H H' → Wl H' p → Q (.str x) H'
/-- places in the alphabet, ascending -/
def Asc (m : Nat) (ns : List Nat) : Prop := ns.Pairwise (· < ·) ∧ ∀ n ∈ ns, n < m
theorem Asc.snoc {m k : Nat} {ns : List Nat} (h : Asc m ns) (h1 : m ≤ k + 1) (h2 : ∀ n ∈ ns, n < k) : Asc (k + 1) (ns ++ [k]) := by
  refine ⟨?_, fun n hn => ?_⟩
  · rw [List.pairwise_append]
    exact ⟨h.1, by simp, fun a ha b hb => by rw [List.mem_singleton.mp hb]; exact h2 a ha⟩
  · rcases List.mem_append.mp hn with m | m
    · have := h2 n m; omega
    · rw [List.mem_singleton.mp m]; omega
theorem abc_at : ∀ n, n < 26 → abc.cps.toList[n]? = some (97 + n) := by decide +kernel
theorem letters_ok {ns : List Nat} (h : Asc 26 ns) (l1 : 1 ≤ ns.length) (l3 : ns.length ≤ 3) : areSignsL [Txt.join Str.empty (ns.map fun n => sg (97 + n))] = true ∧ (Txt.join Str.empty (ns.map fun n => sg (97 + n))).length = ns.length := by
  have e : (Txt.join Str.empty (ns.map fun n => sg (97 + n))).cps.toList = ns.map (97 + ·) := by
    rw [TL.join_eq]
    have := join_signs (ns.map (97 + ·))
    rw [List.map_map] at this
    exact this
  have el : (Txt.join Str.empty (ns.map fun n => sg (97 + n))).length = ns.length := by
    show (Txt.join Str.empty (ns.map fun n => sg (97 + n))).cps.size = _
    rw [← Array.length_toList, e, List.length_map]
  refine ⟨?_, el⟩
  rw [areS1, el, decide_eq_true l1, decide_eq_true l3, Bool.true_and, Bool.true_and, Bool.and_eq_true_iff]
  constructor
  · unfold madeL
    rw [e, List.all_map, List.all_eq_true]
    intro c hc
    obtain ⟨n, hn, rfl⟩ := List.mem_map.mp hc
    exact decide_eq_true (List.mem_of_getElem? (abc_at n (h.2 n hn)))
  · rw [e]
    refine decide_eq_true (List.pairwise_map.mpr (h.1.imp fun hab => ?_))
    omega
section
variable {P : Program} {w : World} {K : PySem.W.Frag} {mg : Str → Option Value} {base : Heap}
abbrev nLet : List Str := ["_law_purse_here", "_law_size", "_law_abc", "_law_found", "_law_k", "_law_low", "_law_at"]
theorem scLet : FnScope nLet ["_law_purse_here", "_law_size"] (defScope sLetters) := ⟨rfl, rfl, rfl, by decide +kernel, rfl, by decide +kernel, by decide +kernel⟩
def natsI (ns : List Nat) : List V := ns.map fun n : Nat => V.int (n : Int)
def tLow : TE := fun σ H Q => ∃ (l : Addr) (ns : List Nat), σ[3]? = some (some (.ref l)) ∧ H l = some (.lst (natsI ns)) ∧ ∀ (n : Nat) (H' : Hp), Same H H' → (ns = [] → n = 0) → (∀ ms a, ns = ms ++ [a] → n = a + 1) → Q (.int (n : Int)) H'
theorem ok_letters {f : Addr} {fd : FuncData} (F : Fun K "_law_letters" "_law_letters" sLetters f fd) (hP : Hv P w K mg base 1 "_law_pick" ["_law_purse_here", "_law_size"] spPk) (hR : mg "range" = none) : FnOk P w K mg base CX0 2 f fd ["_law_purse_here", "_law_size"] spLetters := by
  refine F.ok scLet (fun vs H Q E h => ?_) (fun cdv A outer s H vs Q E hr h => ?_)
  · obtain ⟨p, n, rfl, _⟩ := h
    rfl
  · obtain ⟨p, n, rfl, hW, n1, n3, k⟩ := h
    have hu := hu_of hr
    have hu0 : (A.deeper (envOfC "_law_letters" (defScope sLetters) s.heap.objs.size f cdv)).units < cLine := by omega
    refine ⟨_, pss_cons (ps_asg (pe_tup (pa_cons pe_str (pa_cons (pe_lst pa_nil) pa_nil))) (pg_tup rfl (pgs_cons (pg_name (i := 2) scLet.nd rfl (Or.inr rfl)) (pgs_cons (pg_name (i := 3) scLet.nd rfl (Or.inl rfl)) pgs_nil))))
      (pss_cons (ps_for PassesOwn.never rfl (pi_range1 rfl hR (pa_cons (pv 1) pa_nil)) (pg_name (i := 4) scLet.nd rfl (Or.inl rfl))
        (pss_cons (ps_set (i := 5) scLet.nd rfl (Or.inl rfl) (PE_imp (t' := tLow) (pe_ifExp (pt_cmpR (op_eqNil hu0) (pv 3) (pe_lst pa_nil) (nomark _)) pe_int (pe_op op_add (pe_ix ix_list (pv 3) (pe_un un_neg pe_int) (fun _ _ => rfl)) pe_int)) ?iLow))
        (pss_one (ps_expr (pe_bm PySem.F.plainAttrs_list PySem.F.slot_list_append PySem.F.type_list_append mt_append (pv 3) (pa_cons (pe_op op_add (pv 5) (pe_cl hP hr rfl pass0 (pa_cons (pv 0) (pa_cons (pe_op op_sub (pe_op op_add (pe_op op_sub pe_int (pv 1)) (pv 4)) (pv 5)) pa_nil)))) pa_nil))))))
      (pss_one (ps_ret (pe_join pe_str (pe_lc (own := [("_law_at", 6)]) (g := gName 6) (tt := tYes) rfl scLet.nd (pi_list (pv 3)) (blkOk_by (N := nLet) (sc := defScope sLetters) (by decide +kernel))
        (fun _ _ _ _ _ => pg_name (i := 6) scLet.nd rfl (Or.inl rfl)) (fun _ _ _ _ _ => pts_nil) (fun _ _ _ _ _ => pe_ix ix_str (pv 2) (pv 6) (fun _ _ => rfl))))))), ?_⟩
    case iLow =>
      rintro σ H Q ⟨l, ns, e3, el, q⟩
      refine ⟨_, e3, by show 0 ≤ sizeLine; decide, fun l0 h0 => ⟨l, l0, _, rfl, rfl, SqL.of (keep1 el h0), SqL.of upd_same, _, rfl, ?_⟩⟩
      rcases List.eq_nil_or_concat ns with rfl | ⟨ms, a, rfl⟩
      · exact iteT (q 0 _ (same_new h0) (fun _ => rfl) (fun ms a e => by simp at e))
      · have e1 : natsI (ms ++ [a]) = natsI ms ++ [V.int (a : Int)] := by unfold natsI; rw [List.map_append]; rfl
        have e2 : (natsI (ms.concat a)).isEmpty = false := by
          rw [List.concat_eq_append, e1]
          simp
        show if (natsI (ms.concat a)).isEmpty = true then _ else _
        rw [e2]
        refine iteF ⟨_, e3, 1, rfl, l, _, _, V.int (a : Int), rfl, rfl, SqL.of (keep1 el h0), ?_, _, _, rfl, rfl, ?_⟩
        · rw [List.concat_eq_append, e1]
          exact atI_last _ _
        · have := q (a + 1) _ (same_new (o := .lst []) h0) (fun e => by simp at e) (fun ms' a' e => by
            rw [List.concat_eq_append] at e
            have := List.append_inj_right' e rfl
            simp at this
            omega)
          rw [show (((a + 1 : Nat)) : Int) = (a : Int) + 1 by omega] at this
          exact this
    refine ⟨by show 0 ≤ sizeLine; decide, fun l hl => ⟨by show 2 ≤ sizeLine; decide, fun t ht => ?_⟩⟩
    refine ⟨t, _, rfl, SqT.of upd_same, rfl, _, _, rfl, _, _, rfl, rfl, ?_⟩
    have nl : l ≠ p := hW.new hl
    have s1 : Same H (upd (upd H l (.lst [])) t (.tup [.str abc, .ref l])) := (same_new hl).trans (same_new ht)
    have el : upd (upd H l (.lst [])) t (.tup [.str abc, .ref l]) l = some (.lst (natsI [])) := keep1 upd_same ht
    have hW1 := hW.same s1
    generalize upd (upd H l (.lst [])) t (.tup [.str abc, .ref l]) = H1 at s1 el hW1 ⊢
    refine ⟨_, rfl, (n : Int), rfl, by omega, by omega, for_range (n := n) (fun i σ H' => (∃ v4 v5, σ = [some (.ref p), some (.int (n : Int)), some (.str abc), some (.ref l), v4, v5, none]) ∧ Wl H' p ∧ (∀ b o, b ≠ p → b ≠ l → H1 b = some o → H' b = some o) ∧ ∃ ns : List Nat, ns.length = i ∧ Asc (26 - n + i) ns ∧ H' l = some (.lst (natsI ns)))
      ⟨⟨_, _, rfl⟩, hW1, fun _ _ _ _ e => e, [], rfl, ⟨List.Pairwise.nil, fun m hm => by cases hm⟩, el⟩ (fun i σ H2 hi h => ?_) (fun σ H2 h => ?_)⟩
    · obtain ⟨⟨v4, v5, rfl⟩, hW2, st, ns, ln, asc, e2⟩ := h
      refine ⟨l, ns, rfl, e2, fun lo H3 s3 c1 c2 => ?_⟩
      have hlo : lo ≤ 26 - n + i ∧ ∀ m ∈ ns, m < lo := by
        rcases List.eq_nil_or_concat ns with rfl | ⟨ms, a, rfl⟩
        · rw [c1 rfl]
          exact ⟨Nat.zero_le _, fun m hm => by cases hm⟩
        · rw [List.concat_eq_append] at asc c2 ⊢
          rw [c2 ms a rfl]
          have := asc.2 a (by simp)
          refine ⟨by omega, fun m hm => ?_⟩
          rcases List.mem_append.mp hm with h | h
          · have := (List.pairwise_append.mp asc.1).2.2 m h a (by simp)
            omega
          · rw [List.mem_singleton.mp h]; omega
      refine ⟨_, rfl, .inl ⟨rfl, _, SqL.of (s3 _ _ e2)⟩, _, rfl, _, rfl, _, rfl, _, _, rfl, rfl, _, rfl, _, _, rfl, rfl, _, rfl, _, _, rfl, rfl, p, _, rfl, hW2.same s3, by omega, by omega, fun d H4 d0 d1 sb4 hW4 => ?_⟩
      obtain ⟨m, rfl⟩ := Int.eq_ofNat_of_zero_le d0
      have hm : lo + m < 26 - n + i + 1 := by omega
      refine ⟨_, _, rfl, rfl, l, _, _, rfl, rfl, sb4 _ _ nl (s3 _ _ e2), by unfold natsI; rw [List.length_map, ln, sizeLine_eq]; omega, ?_⟩
      refine ⟨⟨_, _, rfl⟩, hW4.upd_ nl, fun b o n1 n2 e => ?_, ns ++ [lo + m], by rw [List.length_append, ln]; rfl, ?_, ?_⟩
      · rw [upd_ne n2]
        exact sb4 _ _ n1 (s3 _ _ (st b o n1 n2 e))
      · refine ⟨?_, fun z hz => ?_⟩
        · rw [List.pairwise_append]
          exact ⟨asc.1, by simp, fun a ha b hb => by rw [List.mem_singleton.mp hb]; have := hlo.2 a ha; omega⟩
        · rcases List.mem_append.mp hz with h | h
          · have := asc.2 z h; omega
          · rw [List.mem_singleton.mp h]; omega
      · rw [upd_same]
        unfold natsI
        rw [List.map_append]
        show some (HO.lst (_ ++ [V.int ((lo : Int) + (m : Int))])) = some (HO.lst (_ ++ [V.int ((lo + m : Nat) : Int)]))
        rw [show (((lo + m : Nat)) : Int) = (lo : Int) + (m : Int) by omega]
    · obtain ⟨⟨v4, v5, rfl⟩, hW2, st, ns, ln, asc, e2⟩ := h
      have asc' : Asc 26 ns := ⟨asc.1, fun m hm => by have := asc.2 m hm; omega⟩
      refine ⟨⟨_, rfl⟩, _, rfl, l, rfl, ⟨_, SqL.of e2⟩, fun D hD => ?_⟩
      have zs : abc.length ≤ sizeLine := by decide +kernel
      refine lcG ns (fun n => some (V.str (sg (97 + n)))) (walk_listL (K := K) (a := l) ns fun n : Nat => V.int (n : Int)) (by omega) hD (yat_same _) (fun H' s' => SqL.of (s' _ _ e2)) (fun i m y H' H'' k1 hm sj hy k2 => ?_) (fun H6 s6 e6 => ?_)
      · obtain ⟨rfl, hy⟩ := hy
        have ey := map_get hm hy
        subst ey
        exact ⟨rfl, _, rfl, _, rfl, abc, _, 97 + m, rfl, rfl, zs, atI_nat (abc_at m (asc'.2 m (List.mem_of_getElem? hm))), k2 _ (Same.refl _)⟩
      · have e6' : H6 D = some (.lst ((ns.map fun n => sg (97 + n)).map V.str)) := by
          rw [e6, List.filterMap_eq_map', List.map_map]
          rfl
        obtain ⟨g1, g2⟩ := letters_ok asc' (by omega) (by omega)
        refine ⟨_, D, _, rfl, rfl, .inl (SqL.of e6'), ?_, ?_⟩
        · have : ((ns.map fun n => sg (97 + n)).map (·.length)).sum = ns.length := by
            clear e6' e6 g1 g2 asc asc' e2 ln
            induction ns with
            | nil => rfl
            | cons a t ih => rw [List.map_cons, List.map_cons, List.sum_cons, ih, List.length_cons]; show 1 + _ = _; omega
          rw [this, List.length_map]
          have e0 : (Str.ofString "").length = 0 := rfl
          rw [e0]
          omega
        · refine k _ _ g1 (by rw [show Str.ofString "" = Str.empty from rfl]; rw [g2, ln]) (fun b o n1 e => ?_) (hW2.same s6)
          have e1 := s1 _ _ e
          exact s6 _ _ (st b o n1 (ne_of_none e hl) e1)
end
end My
namespace My
open PySem PySem.Spec PyProof.Rows L2 PySem.GX L2H LamX
/-- how many moods a way has -/
def WayOk (way size count : Nat) : Prop := (way = 1 → size = count) ∧ (way = 2 → size = count + 2) ∧ (way = 3 → size = 4) ∧ (way = 4 → count = 2 ∧ size = 5) ∧ 1 ≤ size ∧ size ≤ 5 ∧ 1 ≤ count ∧ count ≤ 3
def spAim : Sp := fun vs H Q _ => ∃ (p : Addr) (way size count spot step : Nat), vs = [.ref p, .int (way : Int), .int (size : Int), .int (count : Int), .int (spot : Int), .int (step : Int)] ∧ Wl H p ∧ WayOk way size count ∧ spot < size ∧ step < count ∧
  ∀ (i : Nat) (H' : Hp), i < size → Sb p H H' → Wl H' p → Q (.int (i : Int)) H'
def tBad : TE := fun σ H Q => ∃ (p : Addr) (spot : Nat), σ[0]? = some (some (.ref p)) ∧ σ[4]? = some (some (.int (spot : Int))) ∧ Wl H p ∧ ∀ (b : Bool) (H' : Hp), Sb p H H' → Wl H' p → Q (.bl b) H'
section
variable {P : Program} {w : World} {K : PySem.W.Frag} {mg : Str → Option Value} {base : Heap}
abbrev nAim : List Str := ["_law_purse_here", "_law_way", "_law_size", "_law_count", "_law_spot", "_law_step", "_law_bad"]
theorem scAim : FnScope nAim ["_law_purse_here", "_law_way", "_law_size", "_law_count", "_law_spot", "_law_step"] (defScope sAim) := ⟨rfl, rfl, rfl, by decide +kernel, rfl, by decide +kernel, by decide +kernel⟩
theorem dec_int {a b : Nat} (h : decide (V.int (a : Int) = V.int (b : Int)) = true) : a = b := by
  have := of_decide_eq_true h
  injection this with e
  omega
theorem ok_aim {f : Addr} {fd : FuncData} (F : Fun K "_law_aim" "_law_aim" sAim f fd) (hP : Hv P w K mg base 1 "_law_pick" ["_law_purse_here", "_law_size"] spPk) (hI : mg "int" = none) : FnOk P w K mg base CX0 2 f fd ["_law_purse_here", "_law_way", "_law_size", "_law_count", "_law_spot", "_law_step"] spAim := by
  refine F.ok scAim (fun vs H Q E h => ?_) (fun cdv A outer s H vs Q E hr h => ?_)
  · obtain ⟨p, way, size, count, spot, step, rfl, _⟩ := h
    rfl
  · obtain ⟨p, way, size, count, spot, step, rfl, hW, ⟨w1, w2, w3, w4, z1, z5, c1, c3⟩, hs, ht, k⟩ := h
    refine ⟨_, pss_cons (ps_if (pt_cmpR op_eq (pv 1) pe_int (nomark _)) (pss_one (ps_ret (pv 5))) pss_nil)
      (pss_cons (ps_if (pt_cmpR op_eq (pv 1) pe_int (nomark _))
        (pss_cons (ps_if (pt_cmpR op_eq (pv 4) (pe_op op_sub (pv 2) pe_int) (nomark _)) (pss_one (ps_ret (pv 4))) pss_nil)
        (pss_cons (ps_set (i := 6) scAim.nd rfl (Or.inl rfl) (PE_imp (t' := tBad) (pe_and (pe_cmpR op_gt (pv 4) pe_int (nomark _)) (pe_one (pe_cmpR op_eq (pe_cl hP hr rfl pass0 (pa_cons (pv 0) (pa_cons pe_int pa_nil))) pe_int (nomark _)))) ?iBad))
        (pss_one (ps_ret (pe_ifExp (pt_val (pv 6)) (pe_op op_sub (pv 2) pe_int) (pe_op op_add pe_int (pv 5))))))) pss_nil)
      (pss_cons (ps_if (pt_cmpR op_eq (pv 1) pe_int (nomark _)) (pss_one (ps_ret (pe_op op_mod (pe_callTy call_int1 (by rfl) hI (by decide +kernel) (pa_cons (pe_op op_add (pe_op op_mul (pv 4) (pv 3)) (pv 5)) pa_nil)) (pv 2)))) pss_nil)
      (pss_cons (ps_if (pt_cmpR op_eq (pv 1) pe_int (nomark _)) (pss_one (ps_ret (pe_ifExp (pt_cmpR op_eq (pv 4) pe_int (nomark _)) (pe_op op_add pe_int (pe_op op_mul pe_int (pv 5))) (pe_op op_add (pe_op op_add pe_int (pe_op op_mul (pe_op op_fdiv (pe_op op_sub (pv 4) pe_int) pe_int) pe_int)) (pv 5))))) pss_nil)
      (pss_one (ps_ret (pe_cl hP hr rfl pass0 (pa_cons (pv 0) (pa_cons (pv 2) pa_nil)))))))), ?_⟩
    case iBad =>
      rintro σ H Q ⟨p, spot, e0, e4, hW, q⟩
      refine ⟨_, e4, _, _, rfl, rfl, _, rfl, ite2 (fun c => ?_) (fun c => ?_)⟩
      · exact ⟨_, e0, p, 3, rfl, hW, by decide, by decide, fun d H' d0 d1 sb hW' => ⟨rfl, q _ _ sb hW'⟩⟩
      · exact q false H (Sb.refl _ _) hW
    have kk : ∀ (z : Int) (i : Nat) (H' : Hp), z = (i : Int) → i < size → Sb p H H' → Wl H' p → Q (.int z) H' := fun z i H' e hi sb hw => by rw [e]; exact k i H' hi sb hw
    refine ⟨_, rfl, rfl, _, rfl, ite2 (fun c => ?_) (fun c => ?_)⟩
    · have e := w1 (dec_int (b := 1) c)
      exact ⟨_, rfl, k step H (by omega) (Sb.refl _ _) hW⟩
    refine ⟨_, rfl, rfl, _, rfl, ite2 (fun c => ?_) (fun c => ?_)⟩
    · have e := w2 (dec_int (b := 2) c)
      refine ⟨_, rfl, _, rfl, _, _, rfl, rfl, rfl, _, rfl, ite2 (fun c => ?_) (fun c => ?_)⟩
      · exact ⟨_, rfl, k spot H hs (Sb.refl _ _) hW⟩
      · refine ⟨p, spot, rfl, rfl, hW, fun b H1 sb1 hW1 => ⟨_, rfl, _, rfl, ite2 (fun _ => ?_) (fun _ => ?_)⟩⟩
        · exact ⟨_, rfl, _, _, rfl, rfl, kk _ (size - 1) H1 (by omega) (by omega) sb1 hW1⟩
        · exact ⟨_, rfl, _, _, rfl, rfl, kk _ (1 + step) H1 (by omega) (by omega) sb1 hW1⟩
    refine ⟨_, rfl, rfl, _, rfl, ite2 (fun c => ?_) (fun c => ?_)⟩
    · have e := w3 (dec_int (b := 3) c)
      refine ⟨_, rfl, _, rfl, _, _, rfl, rfl, .inl ⟨by show -(2 ^ 64 : Int) < (spot : Int); omega, by show (spot : Int) < 2 ^ 64; omega⟩, _, rfl, _, _, rfl, rfl, .inl ⟨_, rfl, _, rfl, _, _, rfl, rfl, (by show (0 : Int) < (size : Int); omega), ?_⟩⟩
      refine kk _ ((spot * count + step) % size) H ?_ (Nat.mod_lt _ (by omega)) (Sb.refl _ _) hW
      rw [Int.natCast_emod, Int.natCast_add, Int.natCast_mul]
    refine ⟨_, rfl, rfl, _, rfl, ite2 (fun c => ?_) (fun c => ?_)⟩
    · obtain ⟨e1, e2⟩ := w4 (dec_int (b := 4) c)
      refine ⟨_, rfl, rfl, _, rfl, ite2 (fun c => ?_) (fun c => ?_)⟩
      · exact ⟨_, rfl, _, _, rfl, rfl, .inl ⟨by decide, by decide⟩, _, _, rfl, rfl, kk _ (1 + 3 * step) H (by omega) (by omega) (Sb.refl _ _) hW⟩
      · have hs0 : spot ≠ 0 := fun z => c (decide_eq_true (by rw [z]; rfl))
        refine ⟨_, rfl, _, _, rfl, rfl, _, _, rfl, rfl, ⟨by decide, by decide⟩, _, _, rfl, rfl, .inr ⟨by decide, by decide⟩, _, _, rfl, rfl, _, rfl, _, _, rfl, rfl, ?_⟩
        refine kk _ (1 + (spot - 1) / 2 * 2 + step) H ?_ (by omega) (Sb.refl _ _) hW
        omega
    exact ⟨_, rfl, _, rfl, p, _, rfl, hW, by omega, by omega, fun d H1 d0 d1 sb hW1 => by
      obtain ⟨m, rfl⟩ := Int.eq_ofNat_of_zero_le d0
      exact k m H1 (by omega) sb hW1⟩
end
end My
namespace My
open PySem PySem.Spec PyProof.Rows L2 PySem.GX L2H LamX
abbrev stock : List Str := ["p", "pq", "q", "good", "maa", "signs", "ppq", "mab", "moods", "qqqqqqqq"]
def tagsL (f st n : Nat) : List Str := (List.range n).map fun k => stock.getD ((f + st * k) % 10) Str.empty
theorem tags_len (f st n : Nat) : (tagsL f st n).length = n := by unfold tagsL; rw [List.length_map, List.length_range]
theorem tags_ok : ∀ f, f < 10 → ∀ st ∈ [1, 3, 7, 9], ∀ n, n < 6 → 1 ≤ n → areMoodsL (tagsL f st n) = true := by decide +kernel
theorem filt_map (z : Str) : ∀ fs : List Str, (fs.filterMap fun t => if t = z then none else some (V.str t)) = (fs.filter fun t => !decide (t = z)).map V.str
  | [] => rfl
  | t :: r => by
    rw [List.filterMap_cons]
    by_cases htz : t = z
    · rw [if_pos htz, List.filter_cons_of_neg (by simp [htz])]
      exact filt_map z r
    · rw [if_neg htz, List.filter_cons_of_pos (by simp [htz]), List.map_cons, ← filt_map z r]
/-- a box stands at q -/
def BxAt (H : Hp) (q : Addr) (x : Str) (ws fs : List Str) (kvs : List (List Key × V)) : Prop := ∃ lw lf g, H q = some (.tup [.str x, .ref lw, .ref lf, .ref g]) ∧ H lw = some (.lst (ws.map V.str)) ∧ H lf = some (.lst (fs.map V.str)) ∧ H g = some (.dT kvs)
/-- its lists and its dict are new -/
def BxNw (H H' : Hp) (q : Addr) : Prop := ∀ s lw lf g, H' q = some (.tup [s, .ref lw, .ref lf, .ref g]) → H lw = none ∧ H lf = none ∧ H g = none
def spBox : Sp := fun vs H Q _ => ∃ (p : Addr) (x : Str), vs = [.ref p, .str x] ∧ Wl H p ∧ areSignsL [x] = true ∧ ∀ (q : Addr) (ws fs : List Str) (kvs : List (List Key × V)) (H' : Hp), Fine x ws fs kvs → ws.length ≤ 5 → kvs.length ≤ 15 → Sb p H H' → Wl H' p → BxAt H' q x ws fs kvs → BxNw H H' q → Q (.ref q) H'
section
variable {P : Program} {w : World} {K : PySem.W.Frag} {mg : Str → Option Value} {base : Heap}
abbrev nBox : List Str := ["_law_purse_here", "_law_letters_here", "_law_count", "_law_way", "_law_size", "_law_stock", "_law_first", "_law_step", "_law_tags", "_law_goals", "_law_spot", "_law_at", "_law_fine", "_law_k", "_law_tag"]
theorem scBox : FnScope nBox ["_law_purse_here", "_law_letters_here"] (defScope sBox) := ⟨rfl, rfl, rfl, by decide +kernel, rfl, by decide +kernel, by decide +kernel⟩
def tWay : TS := fun D σ H => ∃ (a0 a1 : Option V) (count way : Nat), σ = [a0, a1, some (.int (count : Int)), some (.int (way : Int)), none, none, none, none, none, none, none, none, none, none, none] ∧ way < 6 ∧
  ∀ w' : Nat, w' < 6 → (w' = 4 → count = 2) → D.nx [a0, a1, some (.int (count : Int)), some (.int (w' : Int)), none, none, none, none, none, none, none, none, none, none, none] H
def tSub : TS := fun D σ H => ∃ (lf lt : Addr) (ws fs : List Str) (way : Nat) (v0 v1 v2 v4 v5 v6 v7 v9 v10 v11 : Option V), σ = [v0, v1, v2, some (.int (way : Int)), v4, v5, v6, v7, some (.ref lt), v9, v10, v11, some (.ref lf), none, none] ∧ H lf = some (.lst (fs.map V.str)) ∧ H lt = some (.lst (ws.map V.str)) ∧ ws ≠ [] ∧ fs.length ≤ 1000 ∧
  ∀ (lf' : Addr) (fs' : List Str) (H' : Hp), fs'.Sublist fs → (lf' = lf ∨ H lf' = none) → Same H H' → H' lf' = some (.lst (fs'.map V.str)) → D.nx [v0, v1, v2, some (.int (way : Int)), v4, v5, v6, v7, some (.ref lt), v9, v10, v11, some (.ref lf'), none, none] H'
theorem ok_box {f : Addr} {fd : FuncData} (F : Fun K "_law_box" "_law_box" sBox f fd) (hP : Hv P w K mg base 1 "_law_pick" ["_law_purse_here", "_law_size"] spPk) (hA : Hv P w K mg base 2 "_law_aim" ["_law_purse_here", "_law_way", "_law_size", "_law_count", "_law_spot", "_law_step"] spAim) (hI : mg "int" = none) (hL : mg "len" = none) (hR : mg "range" = none) : FnOk P w K mg base CX0 3 f fd ["_law_purse_here", "_law_letters_here"] spBox := by
  refine F.ok scBox (fun vs H Q E h => ?_) (fun cdv A outer s H vs Q E hr h => ?_)
  · obtain ⟨p, x, rfl, _⟩ := h
    rfl
  · obtain ⟨p, x, rfl, hW, hx, k⟩ := h
    have hu := hu_of hr
    have hr1 : Room 1 (A.deeper (envOfC "_law_box" (defScope sBox) s.heap.objs.size f cdv)) := hr.mono (by decide)
    refine ⟨_, pss_cons (ps_par (i := 2) (j := 3) rfl scBox.nd rfl rfl (by decide) rfl rfl (pa_cons (pe_callB call_len_str (by rfl) hL PySem.boot_len (pa_cons (pv 1) pa_nil)) (pa_cons (pe_cl hP hr1 rfl pass0 (pa_cons (pv 0) (pa_cons pe_int pa_nil))) pa_nil)) rfl)
      (pss_cons (PS_imp (t' := tWay) (ps_if (PW.pt (pw_and (pt_cmpR op_eq (pv 3) pe_int (nomark _)) (pw_and1 (pt_cmpR op_ne (pv 2) pe_int (nomark _))))) (pss_one (ps_set (i := 3) scBox.nd rfl (Or.inl rfl) pe_int)) pss_nil) ?iWay)
      (pss_cons (ps_set (i := 4) scBox.nd rfl (Or.inl rfl) (pe_op op_add pe_int (pe_cl hP hr1 rfl pass0 (pa_cons (pv 0) (pa_cons pe_int pa_nil)))))
      (pss_cons (ps_set (i := 4) scBox.nd rfl (Or.inl rfl) (pe_ix ix_list (pe_lst (pa_cons (pv 4) (pa_cons (pv 2) (pa_cons (pe_op op_add (pv 2) pe_int) (pa_cons pe_int (pa_cons pe_int (pa_cons pe_int pa_nil))))))) (pv 3) (fun _ _ => rfl)))
      (pss_cons (ps_set (i := 5) scBox.nd rfl (Or.inr rfl) (pe_lst (pa_cons pe_str (pa_cons pe_str (pa_cons pe_str (pa_cons pe_str (pa_cons pe_str (pa_cons pe_str (pa_cons pe_str (pa_cons pe_str (pa_cons pe_str (pa_cons pe_str pa_nil))))))))))))
      (pss_cons (ps_asg (pe_tup (pa_cons (pe_cl hP hr1 rfl pass0 (pa_cons (pv 0) (pa_cons pe_int pa_nil))) (pa_cons (pe_ix ix_list (pe_lst (pa_cons pe_int (pa_cons pe_int (pa_cons pe_int (pa_cons pe_int pa_nil))))) (pe_cl hP hr1 rfl pass0 (pa_cons (pv 0) (pa_cons pe_int pa_nil))) (fun _ _ => rfl)) pa_nil)))
          (pg_tup rfl (pgs_cons (pg_name (i := 6) scBox.nd rfl (Or.inr rfl)) (pgs_cons (pg_name (i := 7) scBox.nd rfl (Or.inr rfl)) pgs_nil))))
      (pss_cons (ps_asg (pe_tup (pa_cons (pe_lc (own := [("_law_k", 13)]) (g := gName 13) (tt := tYes) rfl scBox.nd (pi_range1 rfl hR (pa_cons (pv 4) pa_nil)) (blkOk_by (N := nBox) (sc := defScope sBox) (by decide +kernel)) (fun _ _ _ _ _ => pg_name (i := 13) scBox.nd rfl (Or.inl rfl)) (fun _ _ _ _ _ => pts_nil)
            (fun _ _ _ _ _ => pe_ix (ix_listK (K := K) rfl) (pv 5) (pe_op op_mod (pe_callTy call_int1 (by rfl) hI (by decide +kernel) (pa_cons (pe_op op_add (pv 6) (pe_op op_mul (pv 7) (pv 13))) pa_nil)) pe_int) (fun _ _ => rfl))) (pa_cons pe_dnewT pa_nil)))
          (pg_tup rfl (pgs_cons (pg_name (i := 8) scBox.nd rfl (Or.inr rfl)) (pgs_cons (pg_name (i := 9) scBox.nd rfl (Or.inl rfl)) pgs_nil))))
      (pss_cons (ps_for PassesOwn.never rfl (pi_range1 rfl hR (pa_cons (pv 4) pa_nil)) (pg_name (i := 10) scBox.nd rfl (Or.inl rfl)) (pss_one (ps_for PassesOwn.never rfl (pi_range1 rfl hR (pa_cons (pv 2) pa_nil)) (pg_name (i := 11) scBox.nd rfl (Or.inl rfl))
          (pss_one (ps_dput hu (pv 9) (pe_tup (pa_cons (pe_ix ix_list (pv 8) (pv 10) (fun _ _ => rfl)) (pa_cons (pe_ix ix_str (pv 1) (pv 11) (fun _ _ => rfl)) pa_nil))) (pe_ix ix_list (pv 8) (pe_cl hA hr rfl pass0 (pa_cons (pv 0) (pa_cons (pv 3) (pa_cons (pv 4) (pa_cons (pv 2) (pa_cons (pv 10) (pa_cons (pv 11) pa_nil))))))) (fun _ _ => rfl)) rfl)))))
      (pss_cons (ps_setLc (i := 12) (own := [("_law_tag", 14)]) (g := gName 14) (by rfl) scBox.nd rfl rfl (sw_true rfl rfl rfl (by decide +kernel)) (pi_list (pv 8)) (blkOk_by (N := nBox) (sc := defScope sBox) (by decide +kernel)) (fun _ _ _ _ _ => pg_name (i := 14) scBox.nd rfl (Or.inl rfl))
            (fun _ _ _ _ _ => pts_one (pt_cmpR op_eq (pe_cl hP hr1 rfl pass0 (pa_cons (pv 0) (pa_cons pe_int pa_nil))) pe_int (nomark _))) (fun _ _ _ _ _ => pv 14))
      (pss_cons (PS_imp (t' := tSub) (ps_if (pt_cmpR op_eq (pv 3) pe_int (nomark _)) (pss_one (ps_setLc (i := 12) (own := [("_law_tag", 14)]) (g := gName 14) (by rfl) scBox.nd rfl rfl (sw_true rfl rfl rfl (by decide +kernel)) (pi_list (pv 12)) (blkOk_by (N := nBox) (sc := defScope sBox) (by decide +kernel)) (fun _ _ _ _ _ => pg_name (i := 14) scBox.nd rfl (Or.inl rfl))
            (fun _ _ _ _ _ => pts_one (pt_cmpR op_ne (pv 14) (pe_ix (ix_listK (K := K) rfl) (pv 8) (pe_un un_neg pe_int) (fun _ _ => rfl)) (nomark _))) (fun _ _ _ _ _ => pv 14))) pss_nil) ?iSub)
      (pss_one (ps_ret (pe_tup (pa_cons (pv 1) (pa_cons (pv 8) (pa_cons (pv 12) (pa_cons (pv 9) pa_nil)))))))))))))))), ?_⟩
    case iWay =>
      rintro D σ H ⟨a0, a1, count, way, rfl, hw, q⟩
      refine ⟨_, rfl, rfl, _, rfl, ite2 (fun c => ?_) (fun c => iteF (q way hw fun e => absurd (by rw [e]; exact decide_eq_true rfl) c))⟩
      refine ⟨_, rfl, rfl, _, rfl, ite2 (fun c2 => q 0 (by decide) (fun e => absurd e (by decide))) (fun c2 => q way hw fun _ => ?_)⟩
      apply Classical.byContradiction
      intro z
      apply c2
      simp
      omega
    case iSub =>
      rintro D σ H ⟨lf, lt, ws, fs, way, v0, v1, v2, v4, v5, v6, v7, v9, v10, v11, rfl, e1, e2, hne, hl, q⟩
      refine ⟨_, rfl, rfl, _, rfl, ite2 (fun c => ?_) (fun c => q lf fs H (List.Sublist.refl _) (.inl rfl) (Same.refl _) e1)⟩
      obtain ⟨ms, z, rfl⟩ : ∃ ms z, ws = ms ++ [z] := ⟨ws.dropLast, ws.getLast hne, (List.dropLast_concat_getLast hne).symm⟩
      refine ⟨_, rfl, lf, rfl, ⟨_, SqL.of e1⟩, fun D1 hD1 => ?_⟩
      refine lcG fs (fun t => if t = z then none else some (V.str t)) (walk_listL (K := K) (a := lf) fs V.str) (by omega) hD1 (yat_same _) (fun H' s' => SqL.of (s' _ _ e1)) (fun i t y H' H'' k1 ht sj hy k2 => ?_) (fun H6 s6 e6 => ?_)
      · obtain ⟨rfl, hy⟩ := hy
        have ey := map_get ht hy
        subst ey
        refine ⟨rfl, _, rfl, _, rfl, 1, rfl, lt, _, _, V.str z, rfl, rfl, SqL.of (sj _ _ e2), ?_, rfl, _, rfl, ?_⟩
        · rw [List.map_append]
          exact atI_last _ _
        · have k2 := k2 _ (Same.refl _)
          by_cases htz : t = z
          · rw [if_pos htz] at k2
            exact if_false_of (by rw [htz]; simp) k2
          · rw [if_neg htz] at k2
            refine ite2 (fun _ => ⟨_, rfl, k2⟩) (fun c => absurd ?_ c)
            simp [htz]
      · refine q D1 (fs.filter fun t => !decide (t = z)) H6 List.filter_sublist (.inr hD1) s6 ?_
        rw [e6]
        exact congrArg (fun z => some (HO.lst z)) (filt_map z fs)
    have hx3 : 1 ≤ x.length ∧ x.length ≤ 3 := by
      rw [areS1] at hx
      simp only [Bool.and_eq_true, decide_eq_true_eq] at hx
      exact ⟨hx.1.1.1, hx.1.1.2⟩
    have zx : x.length ≤ sizeLine := by rw [sizeLine_eq]; omega
    refine ⟨_, rfl, x, rfl, zx, _, rfl, p, 6, rfl, hW, by decide, by decide, fun wy H1 d0 d1 sb1 hW1 => ⟨_, _, rfl, ?_⟩⟩
    obtain ⟨way, rfl⟩ := Int.eq_ofNat_of_zero_le d0
    refine ⟨_, _, x.length, way, rfl, by omega, fun w' hw' hc => ?_⟩
    clear d0 d1
    refine ⟨_, rfl, p, 4, rfl, hW1, by decide, by decide, fun d H2 d0 d1 sb2 hW2 => ⟨_, _, rfl, rfl, ?_⟩⟩
    obtain ⟨m, rfl⟩ := Int.eq_ofNat_of_zero_le d0
    have sbA := sb1.trans sb2
    clear sb1 sb2 hW1 d0
    obtain ⟨size, hsz, hWO⟩ : ∃ size : Nat, ([V.int (1 + (m : Int)), V.int (x.length : Int), V.int ((x.length : Int) + 2), V.int 4, V.int 5, V.int 2] : List V)[w']? = some (V.int (size : Int)) ∧ WayOk w' size x.length := by
      unfold WayOk
      match w', hw', hc with
      | 0, _, _ => exact ⟨1 + m, by rw [show (((1 + m : Nat)) : Int) = 1 + (m : Int) by omega]; rfl, by omega⟩
      | 1, _, _ => exact ⟨x.length, rfl, by omega⟩
      | 2, _, _ => exact ⟨x.length + 2, by rw [show (((x.length + 2 : Nat)) : Int) = (x.length : Int) + 2 by omega]; rfl, by omega⟩
      | 3, _, _ => exact ⟨4, rfl, by omega⟩
      | 4, _, hc => exact ⟨5, rfl, by have := hc rfl; omega⟩
      | 5, _, _ => exact ⟨2, rfl, by omega⟩
    refine ⟨_, rfl, _, rfl, _, rfl, _, _, rfl, rfl, by show 6 ≤ sizeLine; decide, fun l6 h6 => ⟨_, rfl, l6, _, _, V.int (size : Int), rfl, rfl, SqL.of upd_same, atI_nat hsz, ?_⟩⟩
    have sbA := sbA.trans (Sb.of (same_new (o := .lst [V.int (1 + (m : Int)), V.int (x.length : Int), V.int ((x.length : Int) + 2), V.int 4, V.int 5, V.int 2]) h6))
    have hW2 := hW2.same (same_new (o := .lst [V.int (1 + (m : Int)), V.int (x.length : Int), V.int ((x.length : Int) + 2), V.int 4, V.int 5, V.int 2]) h6)
    generalize upd H2 l6 (.lst [V.int (1 + (m : Int)), V.int (x.length : Int), V.int ((x.length : Int) + 2), V.int 4, V.int 5, V.int 2]) = H3 at sbA hW2 ⊢
    clear h6 hsz
    refine ⟨by show 10 ≤ sizeLine; decide, fun ls hls => ?_⟩
    have els : upd H3 ls (.lst (stock.map V.str)) ls = some (.lst (stock.map V.str)) := upd_same
    have nls : ls ≠ p := hW2.new hls
    have sbA := sbA.trans (Sb.of (same_new (o := .lst (stock.map V.str)) hls))
    have hW2 := hW2.same (same_new (o := .lst (stock.map V.str)) hls)
    refine (fun (G : ∀ H4 : Hp, Sb p H H4 → Wl H4 p → H4 ls = some (.lst (stock.map V.str)) → _) => G _ sbA hW2 els) (fun H4 sbB hW4 els => ?_)
    clear sbA hW2 hls
    refine ⟨_, rfl, p, 10, rfl, hW4, by decide, by decide, fun fi H5 f0 f1 sb5 hW5 => ⟨by show 4 ≤ sizeLine; decide, fun l4 h4 => ?_⟩⟩
    obtain ⟨fz, rfl⟩ := Int.eq_ofNat_of_zero_le f0
    have els := sb5 _ _ nls els
    have n4 : l4 ≠ p := hW5.new h4
    have els := keep1 (o := .lst [.int 1, .int 3, .int 7, .int 9]) els h4
    have e4 : upd H5 l4 (.lst [.int 1, .int 3, .int 7, .int 9]) l4 = some (.lst [.int 1, .int 3, .int 7, .int 9]) := upd_same
    have sbC := (sbB.trans sb5).trans (Sb.of (same_new (o := .lst [.int 1, .int 3, .int 7, .int 9]) h4))
    have hW6 := hW5.same (same_new (o := .lst [.int 1, .int 3, .int 7, .int 9]) h4)
    generalize upd H5 l4 (.lst [.int 1, .int 3, .int 7, .int 9]) = H6 at els e4 sbC hW6 ⊢
    clear sbB sb5 hW5 h4 hW4
    refine ⟨_, rfl, p, 4, rfl, hW6, by decide, by decide, fun j H7 j0 j1 sb7 hW7 => ?_⟩
    obtain ⟨jn, rfl⟩ := Int.eq_ofNat_of_zero_le j0
    obtain ⟨st, hst, mst⟩ : ∃ st : Nat, ([V.int 1, V.int 3, V.int 7, V.int 9] : List V)[jn]? = some (V.int (st : Int)) ∧ st ∈ [1, 3, 7, 9] := by
      have : jn < 4 := by omega
      match jn, this with
      | 0, _ => exact ⟨1, rfl, by simp⟩
      | 1, _ => exact ⟨3, rfl, by simp⟩
      | 2, _ => exact ⟨7, rfl, by simp⟩
      | 3, _ => exact ⟨9, rfl, by simp⟩
    have els := sb7 _ _ nls els
    refine ⟨l4, _, _, V.int (st : Int), rfl, rfl, SqL.of (sb7 _ _ n4 e4), atI_nat hst, by show 2 ≤ sizeLine; decide, fun t1 ht1 => ⟨t1, _, rfl, SqT.of upd_same, rfl, _, _, rfl, _, _, rfl, rfl, ?_⟩⟩
    have els := keep1 (o := .tup [.int (fz : Int), .int (st : Int)]) els ht1
    have sbD := (sbC.trans sb7).trans (Sb.of (same_new (o := .tup [.int (fz : Int), .int (st : Int)]) ht1))
    have hW8 := hW7.same (same_new (o := .tup [.int (fz : Int), .int (st : Int)]) ht1)
    generalize upd H7 t1 (.tup [.int (fz : Int), .int (st : Int)]) = H8 at els sbD hW8 ⊢
    clear sbC sb7 hW6 hW7 ht1 e4 hst
    have st9 : st ≤ 9 := by simp at mst; omega
    have hz := hWO
    obtain ⟨_, _, _, _, z1, z5, _, _⟩ := hz
    have hmo := tags_ok fz (by omega) st mst size (by omega) z1
    refine ⟨_, rfl, (size : Int), rfl, by omega, by omega, fun D hD => ?_⟩
    refine lcG (List.range size) (fun k => some (V.str (stock.getD ((fz + st * k) % 10) Str.empty))) (by rw [List.length_range]; exact walk_range) (by rw [List.length_range]; omega) hD (fun i H x H' h => by rw [h.1]; exact Same.refl _) (fun _ _ => trivial) (fun i kk y H' H'' k1 hk sj hy k2 => ?_) (fun H9 s9 e9 => ?_)
    · obtain ⟨rfl, rfl⟩ := hy
      have hi : i < size := by
        have := (List.getElem?_eq_some_iff.mp hk).1
        rw [List.length_range] at this
        exact this
      have ek : kk = i := by
        rw [List.getElem?_range hi] at hk
        exact (Option.some.inj hk).symm
      subst ek
      refine ⟨rfl, _, rfl, _, rfl, _, rfl, _, rfl, _, _, rfl, rfl, .inl ⟨by show -(2 ^ 64 : Int) < (st : Int); omega, by show (st : Int) < 2 ^ 64; omega⟩, _, _, rfl, rfl, .inl ⟨_, rfl, _, _, rfl, rfl, (by show (0 : Int) < 10; decide), ls, _, _, V.str (stock.getD ((fz + st * kk) % 10) Str.empty), rfl, rfl, SqL.of (sj _ _ els), ?_, k2 _ (Same.refl _)⟩⟩
      have e1 : ((fz : Int) + (st : Int) * (0 + (kk : Int))) % 10 = (((fz + st * kk) % 10 : Nat) : Int) := by
        rw [Int.natCast_emod, Int.natCast_add, Int.natCast_mul, Int.zero_add]
        rfl
      show atI _ (((fz : Int) + (st : Int) * (0 + (kk : Int))) % 10) = _
      rw [e1]
      have lt10 : (fz + st * kk) % 10 < 10 := Nat.mod_lt _ (by decide)
      generalize (fz + st * kk) % 10 = r at lt10 ⊢
      refine atI_nat ?_
      have : ∀ r, r < 10 → stock[r]? = some (stock.getD r Str.empty) := by decide +kernel
      rw [List.getElem?_map, this r lt10]
      rfl
    · have ew : H9 D = some (.lst ((tagsL fz st size).map V.str)) := by
        rw [e9, List.filterMap_eq_map']
        unfold tagsL
        rw [List.map_map]
        rfl
      have lw := tags_len fz st size
      generalize tagsL fz st size = ws at ew hmo lw
      refine fun g hg => ⟨by show 2 ≤ sizeLine; decide, fun t2 ht2 => ⟨t2, _, rfl, SqT.of upd_same, rfl, _, _, rfl, _, _, rfl, rfl, ?_⟩⟩
      have nD : D ≠ p := hW8.new hD
      have hW9 := hW8.same s9
      have ng : g ≠ p := hW9.new hg
      have nDg : D ≠ g := ne_of_none ew hg
      have fgH : H g = none := (sbD.trans (Sb.of s9)).free ng hg
      have fDH : H D = none := sbD.free nD hD
      have sm := (same_new (o := .dT []) hg).trans (same_new (o := .tup [.ref D, .ref g]) ht2)
      have eg : upd (upd H9 g (.dT [])) t2 (.tup [.ref D, .ref g]) g = some (.dT []) := keep1 upd_same ht2
      have ew6 := sm _ _ ew
      have s6 := (sbD.trans (Sb.of s9)).trans (Sb.of (p := p) sm)
      have hW6 := hW9.same sm
      generalize upd (upd H9 g (.dT [])) t2 (.tup [.ref D, .ref g]) = H10 at eg ew6 s6 hW6 ⊢
      clear sm ew hW9 ht2 hg e9 s9 sbD hW8 els hD
      refine ⟨_, rfl, (size : Int), rfl, by omega, by omega, for_range (n := size) (fun i σ H' => ∃ v10 v11 kvs, σ = [some (.ref p), some (.str x), some (.int (x.length : Int)), some (.int (w' : Int)), some (.int (size : Int)), some (.ref ls), some (.int (fz : Int)), some (.int (st : Int)), some (.ref D), some (.ref g), v10, v11, none, none, none] ∧ Wl H' p ∧ H' g = some (.dT kvs) ∧ Cv kvs ws (doneL (ws.take i) x) ∧ (∀ b o, b ≠ p → b ≠ g → H10 b = some o → H' b = some o))
        ⟨none, none, [], rfl, hW6, eg, ⟨Nat.zero_le _, fun d hd => by simp [doneL] at hd⟩, fun b o _ _ e => e⟩ (fun i σ H' hi h => ?_) (fun σ H' h => ?_)⟩
      · obtain ⟨v10, v11, kvs, rfl, hW7, eg7, cv, stt⟩ := h
        have hm : ws[i]? = some ws[i] := List.getElem?_eq_getElem (by omega)
        refine ⟨_, rfl, (x.length : Int), rfl, by omega, by omega, for_range (n := x.length) (fun j σ H' => ∃ v11 kvs, σ = [some (.ref p), some (.str x), some (.int (x.length : Int)), some (.int (w' : Int)), some (.int (size : Int)), some (.ref ls), some (.int (fz : Int)), some (.int (st : Int)), some (.ref D), some (.ref g), some (.int (0 + (i : Int))), v11, none, none, none] ∧ Wl H' p ∧ H' g = some (.dT kvs) ∧ Cv kvs ws (doneL (ws.take i) x ++ (x.cps.toList.take j).map fun c => (ws[i], c)) ∧ (∀ b o, b ≠ p → b ≠ g → H10 b = some o → H' b = some o))
          ⟨v11, kvs, rfl, hW7, eg7, by rw [List.take_zero, List.map_nil, List.append_nil]; exact cv, stt⟩ (fun j σ H8 hj h => ?_) (fun σ H8 h => ?_)⟩
        · obtain ⟨v11, kvs, rfl, hW8, eg8, cv, stt⟩ := h
          have hjl : j < x.cps.toList.length := by rw [Array.length_toList]; exact hj
          have hcj : x.cps.toList[j]? = some x.cps.toList[j] := List.getElem?_eq_getElem hjl
          generalize hcc : x.cps.toList[j] = c at hcj
          have et : (x.cps.toList.take (j + 1)).map (fun c => (ws[i], c)) = (x.cps.toList.take j).map (fun c => (ws[i], c)) ++ [(ws[i], c)] := by
            rw [List.take_add_one, hcj, List.map_append]
            rfl
          have ewn := stt _ _ nD nDg ew6
          refine ⟨_, rfl, _, rfl, _, rfl, _, rfl, _, rfl, _, rfl, _, rfl, p, w', size, x.length, i, j, ?_, hW8, hWO, hi, hj, fun u H9 hu' sb9 hW9 => ?_⟩
          · show [V.ref p, V.int (w' : Int), V.int (size : Int), V.int (x.length : Int), V.int (0 + (i : Int)), V.int (0 + (j : Int))] = _
            rw [Int.zero_add, Int.zero_add]
          have hzu : ws[u]? = some ws[u] := List.getElem?_eq_getElem (by omega)
          have mz : ws[u] ∈ ws := List.getElem_mem (by omega)
          generalize ws[u] = z at hzu mz
          refine ⟨D, _, _, V.str z, rfl, rfl, SqL.of (sb9 _ _ nD ewn), atI_nat (by rw [List.getElem?_map, hzu]; rfl), ?_⟩
          have eg9 := sb9 _ _ ng eg8
          have ew9 := sb9 _ _ nD ewn
          have st9 : ∀ b o', b ≠ p → b ≠ g → H10 b = some o' → H9 b = some o' := fun b o' n1 n2 e => sb9 _ _ n1 (stt b o' n1 n2 e)
          refine ⟨_, rfl, _, rfl, _, rfl, D, _, _, V.str ws[i], rfl, rfl, SqL.of ew9, ?_, _, rfl, _, rfl, x, _, c, rfl, rfl, zx, ?_, (by show 2 ≤ sizeLine; decide), fun t ht => ⟨g, _, rfl, .inr ⟨kvs, kT ws[i] c, t, keep1 eg9 ht, rfl, upd_same, ?_, rfl⟩, ?_⟩⟩
          · rw [Int.zero_add]
            exact atI_nat (by rw [List.getElem?_map, hm]; rfl)
          · rw [Int.zero_add]
            exact atI_nat hcj
          · have a1 := cv.1
            rw [List.length_append, done_len, List.length_take, List.length_map, List.length_take] at a1
            have a2 : min i ws.length * x.length ≤ 9 * 3 := Nat.mul_le_mul (by omega) (by omega)
            rw [sizeLine_eq]
            have a3 : min j x.cps.toList.length ≤ j := Nat.min_le_left ..
            omega
          · have nt : g ≠ t := ne_of_none eg9 ht
            refine ⟨_, _, rfl, ((hW9.same (same_new ht)).upd_ ng), upd_same, ?_, fun b o' n1 n2 e => ?_⟩
            · rw [et, ← List.append_assoc]
              exact cv.put mz
            · rw [upd_ne n2, upd_ne (ne_of_none (st9 b o' n1 n2 e) ht)]
              exact st9 b o' n1 n2 e
        · obtain ⟨v11, kvs, rfl, hW8, eg8, cv, stt⟩ := h
          refine ⟨_, _, kvs, rfl, hW8, eg8, ?_, stt⟩
          have : x.cps.toList.take x.length = x.cps.toList := by
            show x.cps.toList.take x.cps.size = _
            rw [← Array.length_toList, List.take_length]
          rw [this] at cv
          rw [done_take hm]
          exact cv
      · obtain ⟨v10, v11, kvs, rfl, hW7, eg7, cv, stt⟩ := h
        have etk : ws.take size = ws := by rw [← lw, List.take_length]
        rw [etk] at cv
        have ew7 := stt _ _ nD nDg ew6
        have s7 : Sb p H H' := fun b o n e => by
          have nb : b ≠ g := fun z => by rw [z, fgH] at e; cases e
          exact stt b o n nb (s6 b o n e)
        refine ⟨_, rfl, D, rfl, ⟨_, SqL.of ew7⟩, fun D3 hD3 => ?_⟩
        have nD3 : D3 ≠ p := hW7.new hD3
        have fD3 : H D3 = none := s7.free nD3 hD3
        refine lc_it (walk_listL ws V.str) (fun i H'' => Wl H'' p ∧ (∀ b o, b ≠ p → b ≠ D3 → H' b = some o → H'' b = some o) ∧ ∃ fs : List Str, fs.Sublist (ws.take i) ∧ H'' D3 = some (.lst (fs.map V.str)))
          ⟨hW7.upd_ nD3, fun b o n1 n2 e => by rw [upd_ne n2]; exact e, [], by simp, upd_same⟩ (fun i H'' _ h => SqL.of (h.2.1 _ _ nD (ne_of_none ew7 hD3) ew7)) (fun i y H8 H9 hi h hy => ?_) (fun H9 h => ?_)
        · obtain ⟨rfl, hy⟩ := hy
          have hm : ws[i]? = some ws[i] := List.getElem?_eq_getElem hi
          obtain rfl := map_get hm hy
          obtain ⟨hW8, st8, fs, sub, eD⟩ := h
          have etk' : ws.take (i + 1) = ws.take i ++ [ws[i]] := by rw [List.take_add_one, hm]; rfl
          refine ⟨rfl, _, rfl, p, 2, rfl, hW8, (by decide), (by decide), fun d Hx d0 d1 sbx hW9 => ⟨rfl, _, rfl, ite2 (fun c => ?_) (fun c => ?_)⟩⟩
          · refine ⟨_, rfl, _, sbx _ _ nD3 eD, ?_, hW9.upd_ nD3, fun b o' n1 n2 e => ?_, fs ++ [ws[i]], by rw [etk']; exact sub.append (List.Sublist.refl _), ?_⟩
            · have := sub.length_le
              rw [List.length_take] at this
              rw [List.length_map, sizeLine_eq]
              omega
            · rw [upd_ne n2]
              exact sbx _ _ n1 (st8 b o' n1 n2 e)
            · rw [upd_same, List.map_append]
              rfl
          · refine ⟨hW9, fun b o' n1 n2 e => sbx _ _ n1 (st8 b o' n1 n2 e), fs, ?_, sbx _ _ nD3 eD⟩
            rw [etk']
            exact sub.trans (List.sublist_append_left _ _)
        · obtain ⟨hW8, st8, fs, sub, eD⟩ := h
          rw [List.take_length] at sub
          have eg8 := st8 _ _ ng (ne_of_none eg7 hD3) eg7
          have ew8 := st8 _ _ nD (ne_of_none ew7 hD3) ew7
          have hne : ws ≠ [] := fun z => by rw [z] at lw; simp at lw; omega
          have fl : fs.length ≤ 1000 := by have := sub.length_le; omega
          refine ⟨D3, D, ws, fs, w', _, _, _, _, _, _, _, _, _, _, rfl, eD, ew8, hne, fl, fun lf fs' H11 sub' hlf s11 elf => ?_⟩
          refine ⟨_, rfl, _, rfl, _, rfl, _, rfl, (by show 4 ≤ sizeLine; decide), fun q hq => ?_⟩
          have gl : ∀ t ∈ ws, ∀ c ∈ x.cps.toList, ∃ y ∈ ws, valV kvs (kT t c) = some (.str y) := fun t ht c hc => cv.2 (t, c) (List.mem_flatMap.mpr ⟨t, ht, List.mem_map.mpr ⟨c, hc, rfl⟩⟩)
          have lk : kvs.length ≤ 15 := by
            have := cv.1
            rw [done_len] at this
            have : ws.length * x.length ≤ 5 * 3 := Nat.mul_le_mul (by omega) (by omega)
            omega
          refine k q ws fs' kvs _ ⟨hx, hmo, sub'.trans sub, gl⟩ (by omega) lk (fun b o n e => ?_) ((hW8.same s11).same (same_new hq)) ⟨D, lf, g, upd_same, keep1 (s11 _ _ ew8) hq, keep1 elf hq, keep1 (s11 _ _ eg8) hq⟩ (fun s1 a1 a2 a3 e => ?_)
          · have e7 := s7 b o n e
            exact keep1 (s11 _ _ (st8 b o n (ne_of_none e7 hD3) e7)) hq
          · rw [upd_same] at e
            injection e with e
            injection e with e
            injection e with _ e
            injection e with e1 e
            injection e with e2 e
            injection e with e3 _
            injection e1 with e1
            injection e2 with e2
            injection e3 with e3
            subst e1 e2 e3
            refine ⟨fDH, ?_, fgH⟩
            rcases hlf with rfl | hlf
            · exact fD3
            · have sAll : Sb p H H9 := fun b o n e => by
                have e7 := s7 b o n e
                exact st8 b o n (ne_of_none e7 hD3) e7
              exact sAll.free (hW8.new hlf) hlf
end
end My
namespace My
open PySem PySem.Spec PyProof.Rows L2 PySem.GX L2H LamX
def spTextB : Sp := fun vs H Q _ => ∃ (q : Addr) (x : Str) (ws fs : List Str) (kvs : List (List Key × V)), vs = [.ref q] ∧ BxAt H q x ws fs kvs ∧ Short x ws fs kvs ∧ ∀ H', Same H H' → Q (.str (textL x ws fs kvs)) H'
/-- a box that tells the goals of p, whose moods begin otherwise -/
def BxF (H : Hp) (q : Addr) (p : Parts) (ws : List Str) : Prop := ∃ lw lf g kvs, H q = some (.tup [.str p.sg, .ref lw, .ref lf, .ref g]) ∧ H lw = some (.lst (ws.map V.str)) ∧ H lf = some (.lst (p.gs.map V.str)) ∧ H g = some (.dT kvs) ∧
  ∀ t ∈ p.ms, ∀ c ∈ p.sg.cps.toList, valV kvs (kT t c) = some (.str (ledL p t c))
theorem BxF.same {H H' : Hp} {q : Addr} {p : Parts} {ws : List Str} (h : BxF H q p ws) (s : Same H H') : BxF H' q p ws := by
  obtain ⟨lw, lf, g, kvs, a, b, c, d, e⟩ := h
  exact ⟨lw, lf, g, kvs, s _ _ a, s _ _ b, s _ _ c, s _ _ d, e⟩
theorem strs_ne3 (ws : List Str) (a b c : Int) : HO.lst (ws.map V.str) ≠ .lst [.int a, .int b, .int c] := fun z => by
  injection z with z
  cases ws with
  | nil => cases z
  | cons w t => injection z with z _; cases z
theorem BxF.sb {H H' : Hp} {q p0 : Addr} {p : Parts} {ws : List Str} (h : BxF H q p ws) (w : Wl H p0) (s : Sb p0 H H') : BxF H' q p ws := by
  obtain ⟨lw, lf, g, kvs, a, b, c, d, e⟩ := h
  refine ⟨lw, lf, g, kvs, s _ _ (w.ne a fun _ _ _ z => by cases z) a, s _ _ (w.ne b (strs_ne3 _)) b, s _ _ (w.ne c (strs_ne3 _)) c, s _ _ (w.ne d fun _ _ _ z => by cases z) d, e⟩
abbrev partsF (x : Str) (ws fs : List Str) (kvs : List (List Key × V)) : Parts := ⟨x, ws, fs, rsL x ws kvs⟩
theorem led_is {x : Str} {ws fs : List Str} {kvs : List (List Key × V)} (h : Fine x ws fs kvs) {t : Str} (ht : t ∈ ws) {c : Nat} (hc : c ∈ x.cps.toList) : valV kvs (kT t c) = some (.str (ledL (partsF x ws fs kvs) t c)) := by
  have e1 : ledL (partsF x ws fs kvs) t c = gf kvs t c := gf_is (fine_val h ht hc)
  obtain ⟨y, _, e2⟩ := h.gl t ht c hc
  rw [e1, e2, gf_is e2]
theorem bxF_of {H : Hp} {q : Addr} {x : Str} {ws fs : List Str} {kvs : List (List Key × V)} (h : Fine x ws fs kvs) (a : BxAt H q x ws fs kvs) : BxF H q (partsF x ws fs kvs) ws := by
  obtain ⟨lw, lf, g, a, b, c, d⟩ := a
  exact ⟨lw, lf, g, kvs, a, b, c, d, fun t ht c hc => led_is h ht hc⟩
theorem pok_of {x : Str} {ws fs : List Str} {kvs : List (List Key × V)} (h : Fine x ws fs kvs) : PartsOk (partsF x ws fs kvs) := parts_ok (fine_parse h)
def InS (p : Parts) (r : Str) : Prop := ∀ c ∈ r.cps.toList, c ∈ p.sg.cps.toList
def spEndB : Sp := fun vs H Q _ => ∃ (q : Addr) (p : Parts) (ws : List Str) (t r : Str), vs = [.ref q, .str t, .str r] ∧ BxF H q p ws ∧ PartsOk p ∧ t ∈ p.ms ∧ InS p r ∧ ∀ H', Same H H' → Q (.str (walkL p t r.cps.toList)) H'
section
variable {P : Program} {w : World} {K : PySem.W.Frag} {mg : Str → Option Value} {base : Heap}
abbrev nTextB : List Str := ["_law_box_here", "_law_lines", "_law_here", "_law_letter"]
theorem scTextB : FnScope nTextB ["_law_box_here"] (defScope sText) := ⟨rfl, rfl, rfl, by decide +kernel, rfl, by decide +kernel, by decide +kernel⟩
theorem ok_textB {f : Addr} {fd : FuncData} (F : Fun K "_law_text" "_law_text" sText f fd) : FnOk P w K mg base CX0 1 f fd ["_law_box_here"] spTextB := by
  refine F.ok scTextB (fun vs H Q E h => ?_) (fun cdv A outer s H vs Q E hr h => ?_)
  · obtain ⟨q, x, ws, fs, kvs, rfl, _⟩ := h
    rfl
  · obtain ⟨q, x, ws, fs, kvs, rfl, ⟨lw, lf, g, eq, ew, ef, eg⟩, sh, k⟩ := h
    refine ⟨_, pss_cons (ps_set (i := 1) scTextB.nd rfl (Or.inl rfl) (pe_lst (pa_cons (pe_op op_add_str pe_str (pe_ix ix_tup (pv 0) pe_int (fun _ _ => rfl))) (pa_cons (pe_join pe_str (pe_op op_cat (pe_lst (pa_cons pe_str pa_nil)) (pe_ix ix_tup (pv 0) pe_int (fun _ _ => rfl)))) (pa_cons (pe_join pe_str (pe_op op_cat (pe_lst (pa_cons pe_str pa_nil)) (pe_ix ix_tup (pv 0) pe_int (fun _ _ => rfl)))) pa_nil)))))
      (pss_cons (ps_for PassesOwn.never rfl (pi_list (pe_ix ix_tup (pv 0) pe_int (fun _ _ => rfl))) (pg_name (i := 2) scTextB.nd rfl (Or.inl rfl)) (pss_one (ps_for PassesOwn.never rfl (pi_str (pe_ix ix_tup (pv 0) pe_int (fun _ _ => rfl))) (pg_name (i := 3) scTextB.nd rfl (Or.inl rfl))
          (pss_one (ps_expr (pe_bm PySem.F.plainAttrs_list PySem.F.slot_list_append PySem.F.type_list_append mt_append (pv 1) (pa_cons (pe_op op_add_str (pe_op op_add_str (pe_op op_add_str (pe_op op_add_str (pv 2) pe_str) (pv 3)) pe_str) (pe_dget (hu_of hr) (pe_ix ix_tup (pv 0) pe_int (fun _ _ => rfl)) (pe_tup (pa_cons (pv 2) (pa_cons (pv 3) pa_nil))) (fun _ _ => rfl))) pa_nil)))))))
      (pss_one (ps_ret (pe_join pe_str (pv 1))))), ?_⟩
    have esp : (Str.ofString " ") = sp := by decide +kernel
    have enl : (Str.ofString "\n") = nl := by decide +kernel
    have hs := lines_short sh
    have z := sh.hx
    have z1 := sh.nw
    have z2 := sh.nf
    refine ⟨_, rfl, q, _, _, V.str x, rfl, rfl, SqT.of eq, atI_nat (j := 0) rfl, _, _, rfl, rfl, ?_, ?_⟩
    · have : ("signs " : Str).length = 6 := by decide +kernel
      rw [sizeLine_eq]
      omega
    refine ⟨⟨_, rfl⟩, (by show 1 ≤ sizeLine; decide), fun a1 h1 => ⟨_, rfl, q, _, _, V.ref lw, rfl, rfl, SqT.of (keep1 eq h1), atI_nat (j := 1) rfl, a1, lw, _, _, rfl, rfl, upd_same, keep1 ew h1, ?_, fun a2 h2 => ?_⟩⟩
    · rw [List.length_map, sizeLine_eq]
      simp
      omega
    have s2 := (same_new (o := .lst [V.str ("moods" : Str)]) h1).trans (same_new (o := .lst ([V.str ("moods" : Str)] ++ ws.map V.str)) h2)
    refine ⟨_, a2, ("moods" : Str) :: ws, rfl, rfl, .inl (SqL.of upd_same), ?_, ?_⟩
    · have b := sum_le sh.lw
      have c : ("moods" : Str).length = 5 := by decide +kernel
      have d : (Str.ofString " ").length = 1 := by decide +kernel
      rw [List.map_cons, List.sum_cons, List.length_cons, c, d]
      omega
    generalize upd (upd H a1 (.lst [V.str ("moods" : Str)])) a2 (.lst ([V.str ("moods" : Str)] ++ ws.map V.str)) = H2 at s2 ⊢
    refine ⟨⟨_, rfl⟩, (by show 1 ≤ sizeLine; decide), fun a3 h3 => ⟨_, rfl, q, _, _, V.ref lf, rfl, rfl, SqT.of (keep1 (s2 _ _ eq) h3), atI_nat (j := 2) rfl, a3, lf, _, _, rfl, rfl, upd_same, keep1 (s2 _ _ ef) h3, ?_, fun a4 h4 => ?_⟩⟩
    · rw [List.length_map, sizeLine_eq]
      simp
      omega
    have s4 := (s2.trans (same_new (o := .lst [V.str ("good" : Str)]) h3)).trans (same_new (o := .lst ([V.str ("good" : Str)] ++ fs.map V.str)) h4)
    refine ⟨_, a4, ("good" : Str) :: fs, rfl, rfl, .inl (SqL.of upd_same), ?_, ?_⟩
    · have b := sum_le sh.lf
      have c : ("good" : Str).length = 4 := by decide +kernel
      have d : (Str.ofString " ").length = 1 := by decide +kernel
      rw [List.map_cons, List.sum_cons, List.length_cons, c, d]
      omega
    generalize upd (upd H2 a3 (.lst [V.str ("good" : Str)])) a4 (.lst ([V.str ("good" : Str)] ++ fs.map V.str)) = H4 at s4 ⊢
    refine ⟨(by show 3 ≤ sizeLine; decide), fun l0 h0 => ?_⟩
    rw [esp]
    have s5 := s4.trans (same_new (o := .lst ((headL x ws fs).map V.str)) h0)
    have e5 : upd H4 l0 (.lst ((headL x ws fs).map V.str)) l0 = some (.lst ((headL x ws fs).map V.str)) := upd_same
    have eq5 := s5 _ _ eq
    have ew5 := s5 _ _ ew
    have eg5 := s5 _ _ eg
    have nq : q ≠ l0 := ne_of_none (s4 _ _ eq) h0
    have nw : lw ≠ l0 := ne_of_none (s4 _ _ ew) h0
    have ng : g ≠ l0 := ne_of_none (s4 _ _ eg) h0
    have fl : ∀ b o, H b = some o → b ≠ l0 := fun b o e => ne_of_none (s4 _ _ e) h0
    show ∃ a, _
    generalize eH5 : upd H4 l0 (.lst ((headL x ws fs).map V.str)) = H5 at s5 e5 eq5 ew5 eg5
    have eH5' : upd H4 l0 (.lst [V.str (("signs " : Str) ++ x), V.str (Txt.join sp (("moods" : Str) :: ws)), V.str (Txt.join sp (("good" : Str) :: fs))]) = H5 := eH5
    rw [eH5']
    refine ⟨_, rfl, q, _, _, V.ref lw, rfl, rfl, SqT.of eq5, atI_nat (j := 1) rfl, lw, rfl, ⟨_, SqL.of ew5⟩, ?_⟩
    refine for_it (walk_listL ws V.str) (fun i σ H' => ∃ (v2 v3 : Option V), σ = [some (.ref q), some (.ref l0), v2, v3] ∧ Sb l0 H5 H' ∧ H' l0 = some (.lst ((headL x ws fs ++ bodyL x (ws.take i) kvs).map V.str)))
      ⟨none, none, rfl, Sb.refl _ _, by rw [List.take_zero]; exact e5⟩ (fun i σ H' _ h => ?_) (fun i y σ H' H'' hi h hy => ?_) (fun σ H' h => ?_)
    · obtain ⟨v2, v3, rfl, st, _⟩ := h
      exact SqL.of (st _ _ nw ew5)
    · obtain ⟨rfl, hy⟩ := hy
      have hm : ws[i]? = some ws[i] := List.getElem?_eq_getElem hi
      obtain rfl := map_get hm hy
      obtain ⟨v2, v3, rfl, st, el⟩ := h
      refine ⟨_, rfl, q, _, _, V.str x, rfl, rfl, SqT.of (st _ _ nq eq5), atI_nat (j := 0) rfl, x, rfl, ?_⟩
      refine for_it walk_str (fun j σ H' => ∃ (v3 : Option V), σ = [some (.ref q), some (.ref l0), some (.str ws[i]), v3] ∧ Sb l0 H5 H' ∧ H' l0 = some (.lst ((headL x ws fs ++ bodyL x (ws.take i) kvs ++ (x.cps.toList.take j).map fun c => lineL kvs ws[i] c).map V.str)))
        ⟨v3, rfl, st, by rw [List.take_zero, List.map_nil, List.append_nil]; exact el⟩ (fun _ _ _ _ _ => trivial) (fun j y σ H7 H8 hj h hy => ?_) (fun σ H7 h => ?_)
      · obtain ⟨rfl, c, hc, rfl⟩ := hy
        obtain ⟨v3, rfl, st7, el7⟩ := h
        rw [← Array.getElem?_toList] at hc
        have hmw : ws[i] ∈ ws := List.getElem_mem hi
        have hcx : c ∈ x.cps.toList := List.mem_of_getElem? hc
        obtain ⟨gy, lg, egy⟩ := sh.gl ws[i] hmw c hcx
        have lt := sh.lw ws[i] hmw
        have d : (sp : Str).length = 1 := rfl
        have d2 : ({ cps := #[c] } : Str).length = 1 := rfl
        refine ⟨_, rfl, .inl ⟨rfl, _, SqL.of el7⟩, _, rfl, _, _, rfl, rfl, (by rw [sizeLine_eq]; omega), _, rfl, _, _, rfl, rfl, (by rw [sizeLine_eq, len_app]; omega), _, _, rfl, rfl, (by rw [sizeLine_eq, len_app, len_app]; omega), _, rfl, q, _, _, V.ref g, rfl, rfl, SqT.of (st7 _ _ nq eq5), atI_nat (j := 3) rfl, _, rfl, _, rfl, (by show 2 ≤ sizeLine; decide), fun t ht => ?_⟩
        refine ⟨g, V.str gy, rfl, ?_, _, _, rfl, rfl, ?_, l0, _, _, rfl, rfl, keep1 el7 ht, ?_, ?_⟩
        · have := DGet.t (k := kT ws[i] c) (keep1 (st7 _ _ ng eg5) ht) (upd_same (o := .tup ((kT ws[i] c).map kV)))
          rw [egy] at this
          exact this
        · rw [sizeLine_eq, len_app, len_app, len_app]
          omega
        · have a1 : (headL x ws fs ++ bodyL x (ws.take i) kvs).length ≤ 63 := by
            rw [List.length_append, body_len, List.length_take]
            have : min i ws.length * x.length ≤ 20 * 3 := Nat.mul_le_mul (by omega) z
            show 3 + _ ≤ 63
            omega
          have a2 : ((x.cps.toList.take j).map fun c => lineL kvs ws[i] c).length ≤ 3 := by
            rw [List.length_map, List.length_take, Array.length_toList]
            exact Nat.le_trans (Nat.min_le_right ..) z
          rw [List.length_map, List.length_append, sizeLine_eq]
          omega
        · refine ⟨_, rfl, fun b o n e => ?_, ?_⟩
          · rw [upd_ne n]
            exact keep1 (st7 _ _ n e) ht
          · rw [upd_same, List.take_add_one, hc]
            show some (HO.lst (_ ++ [V.str _])) = _
            rw [List.map_append (f := fun c => lineL kvs ws[i] c), ← List.append_assoc, List.map_append (f := V.str) (l₂ := List.map (fun c => lineL kvs ws[i] c) (some c).toList)]
            have e9 : V.str (ws[i] ++ sp ++ { cps := #[c] } ++ sp ++ gy) = V.str (lineL kvs ws[i] c) := by
              unfold lineL
              rw [gf_is egy]
            exact congrArg (fun z => some (HO.lst (_ ++ [z]))) e9
      · obtain ⟨v3, rfl, st7, el7⟩ := h
        refine ⟨_, _, rfl, st7, ?_⟩
        have : x.cps.toList.take x.cps.size = x.cps.toList := by rw [← Array.length_toList, List.take_length]
        rw [this] at el7
        rw [body_take hm, ← List.append_assoc]
        exact el7
    · obtain ⟨v2, v3, rfl, st, el⟩ := h
      rw [List.take_length] at el
      refine ⟨⟨_, rfl⟩, _, rfl, _, l0, linesL x ws fs kvs, rfl, rfl, .inl (SqL.of el), ?_, ?_⟩
      · have b := sum_le hs.2
        have c := hs.1
        have d : (Str.ofString "\n").length = 1 := by decide +kernel
        have e : (linesL x ws fs kvs).length * 200 ≤ 63 * 200 := Nat.mul_le_mul_right _ c
        rw [d]
        omega
      · rw [enl]
        exact k _ fun b o e => st _ _ (fl b o e) (s5 _ _ e)
end
end My
namespace My
open PySem PySem.Spec PyProof.Rows L2 PySem.GX L2H LamX
section
variable {P : Program} {w : World} {K : PySem.W.Frag} {mg : Str → Option Value} {base : Heap}
abbrev nEndB : List Str := ["_law_box_here", "_law_begin", "_law_line_here", "_law_here", "_law_letter"]
theorem scEndB : FnScope nEndB ["_law_box_here", "_law_begin", "_law_line_here"] (defScope sEnd) := ⟨rfl, rfl, rfl, by decide +kernel, rfl, by decide +kernel, by decide +kernel⟩
theorem ok_endB {f : Addr} {fd : FuncData} (F : Fun K "_law_end" "_law_end" sEnd f fd) : FnOk P w K mg base CX0 1 f fd ["_law_box_here", "_law_begin", "_law_line_here"] spEndB := by
  refine F.ok scEndB (fun vs H Q E h => ?_) (fun cdv A outer s H vs Q E hr h => ?_)
  · obtain ⟨q, p, ws, t, r, rfl, _⟩ := h
    rfl
  · obtain ⟨q, p, ws, t, r, rfl, ⟨lw, lf, g, kvs, eq, ew, ef, eg, cv⟩, ok, ht, hin, k⟩ := h
    refine ⟨_, pss_cons (ps_set (i := 3) scEndB.nd rfl (Or.inl rfl) (pv 1))
      (pss_cons (ps_for PassesOwn.never rfl (pi_str (pv 2)) (pg_name (i := 4) scEndB.nd rfl (Or.inl rfl)) (pss_one (ps_set (i := 3) scEndB.nd rfl (Or.inl rfl) (pe_dget (hu_of hr) (pe_ix ix_tup (pv 0) pe_int (fun _ _ => rfl)) (pe_tup (pa_cons (pv 3) (pa_cons (pv 4) pa_nil))) (fun _ _ => rfl)))))
      (pss_one (ps_ret (pv 3)))), ?_⟩
    refine ⟨_, rfl, _, rfl, r, rfl, ?_⟩
    refine for_it walk_str (fun i σ H' => ∃ v4, σ = [some (.ref q), some (.str t), some (.str r), some (.str (walkL p t (r.cps.toList.take i))), v4] ∧ Same H H') ⟨none, rfl, Same.refl _⟩ (fun _ _ _ _ _ => trivial) (fun i y σ H2 H3 hi h hy => ?_) (fun σ H2 h => ?_)
    · obtain ⟨rfl, c, hc, rfl⟩ := hy
      obtain ⟨v4, rfl, s2⟩ := h
      have hc' : r.cps.toList[i]? = some c := by rw [Array.getElem?_toList]; exact hc
      have hm := walk_mem ok (r.cps.toList.take i) t ht fun d hd => hin d (List.mem_of_mem_take hd)
      have hg := cv _ hm c (hin c (List.mem_of_getElem? hc'))
      refine ⟨_, rfl, q, _, _, V.ref g, rfl, rfl, SqT.of (s2 _ _ eq), atI_nat (j := 3) rfl, _, rfl, _, rfl, (by show 2 ≤ sizeLine; decide), fun t' ht' => ⟨g, .str (ledL p (walkL p t (r.cps.toList.take i)) c), rfl, ?_, ?_⟩⟩
      · have := DGet.t (k := kT (walkL p t (r.cps.toList.take i)) c) (keep1 (s2 _ _ eg) ht') (upd_same (o := .tup ((kT (walkL p t (r.cps.toList.take i)) c).map kV)))
        rw [hg] at this
        exact this
      · refine ⟨some (.str (sg c)), ?_, s2.trans (same_new ht')⟩
        rw [List.take_add_one, hc']
        show _ = [_, _, _, some (V.str (walkL p t (r.cps.toList.take i ++ [c]))), _]
        unfold walkL
        rw [List.foldl_append]
        rfl
    · obtain ⟨v4, rfl, s2⟩ := h
      refine ⟨_, rfl, ?_⟩
      have : r.cps.toList.take r.cps.size = r.cps.toList := by rw [← Array.length_toList, List.take_length]
      rw [this]
      exact k _ s2
end
end My
namespace My
open PySem PySem.Spec PyProof.Rows L2 PySem.GX L2H LamX
theorem in_natsI (n : Nat) : ∀ ns : List Nat, inV (.int (n : Int)) (natsI ns) = decide (n ∈ ns)
  | [] => rfl
  | m :: t => by
    have ih := in_natsI n t
    unfold inV natsI at *
    rw [List.map_cons, List.any_cons, ih]
    have e : eqV (V.int (m : Int)) (V.int (n : Int)) = decide (n = m) := by
      show decide ((m : Int) = (n : Int)) = _
      rw [Bool.eq_iff_iff, decide_eq_true_eq, decide_eq_true_eq]
      omega
    rw [e, Bool.eq_iff_iff, Bool.or_eq_true_iff, decide_eq_true_eq, decide_eq_true_eq, decide_eq_true_eq, List.mem_cons]
theorem flat_natsI (ns : List Nat) : (natsI ns).all flatV = true := by
  rw [List.all_eq_true]
  intro v hv
  obtain ⟨n, _, rfl⟩ := List.mem_map.mp hv
  rfl
def rowOkB (x : Str) : Option Str → Bool
  | some r => r.cps.toList.all fun c => decide (c ∈ x.cps.toList)
  | none => false
def fullAt (its : List (Option Str)) (n : Nat) : Bool := match its[n]? with
  | some (some r) => decide (0 < r.length)
  | _ => true
def areL (x : Str) (o : Option (List (Option Str))) (sizes filled : List Nat) : Bool := match o with
  | none => false
  | some its => (decide (its.length ∈ sizes) && its.all (rowOkB x)) && filled.all (fullAt its)
theorem rowOkB_in {x r : Str} (h : rowOkB x (some r) = true) : ∀ c ∈ r.cps.toList, c ∈ x.cps.toList := fun c hc => of_decide_eq_true (List.all_eq_true.mp h c hc)
theorem row_glyphs (x r : Str) : (r.cps.toList.filter fun c => !decide (c ∈ x.cps.toList)).isEmpty = rowOkB x (some r) := by
  rw [Bool.eq_iff_iff, List.isEmpty_iff, others_nil]
  exact ⟨fun h => List.all_eq_true.mpr fun c hc => decide_eq_true (h c hc), rowOkB_in⟩
theorem empty_is (r : Str) : decide (V.str r = V.str (Str.ofString "")) = !decide (0 < r.length) := by
  rw [Bool.eq_iff_iff, decide_eq_true_eq, Bool.not_eq_true', decide_eq_false_iff_not]
  constructor
  · intro h
    injection h with h
    rw [h]
    decide
  · intro h
    have : r = Str.ofString "" := str_ext (by
      have e : r.cps.toList.length = 0 := by
        rw [Array.length_toList]
        show r.length = 0
        omega
      rw [List.eq_nil_of_length_eq_zero e]
      rfl)
    rw [this]
theorem empties_isB (its : List (Option Str)) : ∀ (ns : List Nat), (ns.filterMap fun n => if fullAt its n = true then none else some (V.int (n : Int))).isEmpty = ns.all (fullAt its)
  | [] => rfl
  | n :: t => by
    have ih := empties_isB its t
    rw [List.filterMap_cons, List.all_cons]
    cases hn : fullAt its n with
    | true => rw [if_pos rfl, Bool.true_and]; exact ih
    | false => rw [if_neg Bool.false_ne_true, Bool.false_and]; rfl
end My
set_option pp.maxSteps 1500
namespace My
open PySem PySem.Spec PyProof.Rows L2 PySem.GX L2H LamX
/-! drawn rows and wishes; whether a wish holds -/
def spLineZ : Sp := fun vs H Q _ => ∃ (p : Addr) (x : Str) (m : Nat), vs = [.ref p, .str x, .int (m : Int)] ∧ Wl H p ∧ 1 ≤ x.length ∧ x.length ≤ 1000 ∧ 1 ≤ m ∧ m ≤ 1000 ∧ ∀ (r : Str) (H' : Hp), r.length < m → (∀ c ∈ r.cps.toList, c ∈ x.cps.toList) → Sb p H H' → Wl H' p → Q (.str r) H'
def spWishZ : Sp := fun vs H Q _ => ∃ (p : Addr) (x : Str), vs = [.ref p, .str x] ∧ Wl H p ∧ 1 ≤ x.length ∧ x.length ≤ 1000 ∧ (∀ c ∈ x.cps.toList, c ∈ abc.cps.toList) ∧ ∀ (t : Addr) (wd r : Str) (H' : Hp), Sb p H H' → Wl H' p → RowW wd → LinL r → r.length ≤ 7 → H' t = some (.tup [.str wd, .str r]) → (∀ o, H t ≠ some o) → Q (.ref t) H'
def spFineZ : Sp := fun vs H Q _ => ∃ (q : Addr) (p : Parts) (r : Str), vs = [.ref q, .str r] ∧ BxF H q p p.ms ∧ PartsOk p ∧ InS p r ∧ ∀ H', Same H H' → Q (.bl (decide (walkL p (firstL p) r.cps.toList ∈ p.gs))) H'
def spHoldsZ : Sp := fun vs H Q _ => ∃ (q c : Addr) (p : Parts) (wd r : Str), vs = [.ref q, .ref c] ∧ BxF H q p p.ms ∧ PartsOk p ∧ H c = some (.tup [.str wd, .str r]) ∧ RowW wd ∧ r.length ≤ 1000 ∧ ∀ H', Same H H' → Q (.bl (wishL p wd r)) H'
def tKnown : TE := fun σ H Q => ∃ (q c : Addr) (p : Parts) (wd r : Str), σ[0]? = some (some (.ref q)) ∧ σ[1]? = some (some (.ref c)) ∧ BxF H q p p.ms ∧ PartsOk p ∧ H c = some (.tup [.str wd, .str r]) ∧ r.length ≤ 1000 ∧ ∀ H', Same H H' → Q (.bl (goodRowL p r)) H'
theorem join_sgs (cs : List Nat) : Txt.join Str.empty (cs.map sg) = ⟨cs.toArray⟩ := str_ext (by rw [TL.join_eq, join_signs])
section
variable {P : Program} {w : World} {K : PySem.W.Frag} {mg : Str → Option Value} {base : Heap}
abbrev nLineZ : List Str := ["_law_purse_here", "_law_letters_here", "_law_size", "_law_k"]
theorem scLineZ : FnScope nLineZ ["_law_purse_here", "_law_letters_here", "_law_size"] (defScope sLine) := ⟨rfl, rfl, rfl, by decide +kernel, rfl, by decide +kernel, by decide +kernel⟩
theorem ok_lineZ {f : Addr} {fd : FuncData} (F : Fun K "_law_line" "_law_line" sLine f fd) (hP : Hv P w K mg base 1 "_law_pick" ["_law_purse_here", "_law_size"] spPk) (hR : mg "range" = none) (hL : mg "len" = none) : FnOk P w K mg base CX0 2 f fd ["_law_purse_here", "_law_letters_here", "_law_size"] spLineZ := by
  refine F.ok scLineZ (fun vs H Q E h => ?_) (fun cdv A outer s H vs Q E hr h => ?_)
  · obtain ⟨p, x, m, rfl, _⟩ := h
    rfl
  · obtain ⟨p, x, m, rfl, hW, x1, x3, m1, m2, k⟩ := h
    refine ⟨_, pss_one (ps_ret (pe_join pe_str (pe_lc (own := [("_law_k", 3)]) (g := gName 3) (tt := tYes) rfl scLineZ.nd (pi_range1 rfl hR (pa_cons (pe_cl hP hr rfl pass0 (pa_cons (pv 0) (pa_cons (pv 2) pa_nil))) pa_nil)) (blkOk_by (N := nLineZ) (sc := defScope sLine) (by decide +kernel))
        (fun _ _ _ _ _ => pg_name (i := 3) scLineZ.nd rfl (Or.inl rfl)) (fun _ _ _ _ _ => pts_nil) (fun _ _ _ _ _ => pe_ix ix_str (pv 1) (pe_cl hP hr rfl pass0 (pa_cons (pv 0) (pa_cons (pe_callB call_len_str (by rfl) hL PySem.boot_len (pa_cons (pv 1) pa_nil)) pa_nil))) (fun _ _ => rfl))))), ?_⟩
    have zs : x.length ≤ sizeLine := by rw [sizeLine_eq]; omega
    refine ⟨⟨_, rfl⟩, _, rfl, _, rfl, p, m, rfl, hW, by omega, by omega, fun d H4 d0 d1 s4 hW4 => ?_⟩
    obtain ⟨n, rfl⟩ := Int.eq_ofNat_of_zero_le d0
    have hn : n < m := by omega
    refine ⟨n, rfl, by omega, by omega, fun DL hDL => ?_⟩
    have nDL : DL ≠ p := hW4.new hDL
    refine lc_range (lo := 0) (n := n) (fun i H' => Wl H' p ∧ (∀ b o, b ≠ p → b ≠ DL → H4 b = some o → H' b = some o) ∧ ∃ cs : List Nat, cs.length = i ∧ (∀ c ∈ cs, c ∈ x.cps.toList) ∧ H' DL = some (.lst ((cs.map sg).map V.str)))
      ⟨hW4.upd_ nDL, fun b o n1 n2 e => by rw [upd_ne n2]; exact e, [], rfl, (fun c hc => by cases hc), upd_same⟩ (fun i H' hi h => ?_) (fun H' h => ?_)
    · obtain ⟨hW2, st, cs, lc, inc, eD⟩ := h
      refine ⟨rfl, _, rfl, _, rfl, _, rfl, x, rfl, zs, p, _, rfl, hW2, by omega, by omega, fun d H3 d0 d1 s3 hW3 => ?_⟩
      obtain ⟨j, rfl⟩ := Int.eq_ofNat_of_zero_le d0
      have hj : j < x.cps.toList.length := by
        rw [Array.length_toList]
        show j < x.length
        omega
      have ei : x.cps.toList[j]? = some x.cps.toList[j] := List.getElem?_eq_getElem hj
      have hc : x.cps.toList[j] ∈ x.cps.toList := List.getElem_mem hj
      generalize x.cps.toList[j] = c at ei hc
      refine ⟨x, _, c, rfl, rfl, zs, atI_nat ei, _, s3 _ _ nDL eD, ?_, hW3.upd_ nDL, fun b o' n1 n2 e => ?_, cs ++ [c], by rw [List.length_append, lc]; rfl, fun d hd => ?_, ?_⟩
      · rw [List.length_map, List.length_map, lc, sizeLine_eq]
        omega
      · rw [upd_ne n2]
        exact s3 _ _ n1 (st b o' n1 n2 e)
      · rcases List.mem_append.mp hd with hd | hd
        · exact inc d hd
        · rw [List.mem_singleton.mp hd]; exact hc
      · rw [upd_same, List.map_append, List.map_append]
        rfl
    · obtain ⟨hW5, st, cs, lc, inc, eDL⟩ := h
      refine ⟨_, DL, cs.map sg, rfl, rfl, .inl (SqL.of eDL), ?_, ?_⟩
      · have : ((cs.map sg).map (·.length)).sum = cs.length := by
          clear eDL lc inc
          induction cs with
          | nil => rfl
          | cons a t ih => rw [List.map_cons, List.map_cons, List.sum_cons, ih, List.length_cons]; show 1 + _ = _; omega
        rw [this, List.length_map]
        have e0 : (Str.ofString "").length = 0 := rfl
        rw [e0]
        omega
      have e0 : (Str.ofString "") = Str.empty := rfl
      rw [e0, join_sgs]
      have lr : (⟨cs.toArray⟩ : Str).length = n := by
        show cs.toArray.size = n
        simpa using lc
      exact k _ H' (by omega) (fun c hc => inc c (by simpa using hc)) (s4.trans fun b o' n1 e => st b o' n1 (ne_of_none e hDL) e) hW5
abbrev nWishZ : List Str := ["_law_purse_here", "_law_letters_here", "_law_line_here", "_law_word"]
theorem scWishZ : FnScope nWishZ ["_law_purse_here", "_law_letters_here"] (defScope sWishL) := ⟨rfl, rfl, rfl, by decide +kernel, rfl, by decide +kernel, by decide +kernel⟩
theorem abc_atZ {j : Nat} (h : j < 26) : ∃ c, abc.cps.toList[j]? = some c ∧ c ∈ abc.cps.toList := by
  have h2 : j < abc.cps.toList.length := h
  exact ⟨_, List.getElem?_eq_getElem h2, List.getElem_mem h2⟩
theorem word_at {j : Nat} (h : j < 2) : ∃ wd : Str, ([V.str "good", V.str "bad"])[j]? = some (V.str wd) ∧ RowW wd := by
  match j, h with
  | 0, _ => exact ⟨_, rfl, .inl rfl⟩
  | 1, _ => exact ⟨_, rfl, .inr rfl⟩
theorem lin_of {r : Str} (h1 : r.length ≤ 1000) (h2 : ∀ c ∈ r.cps.toList, c ∈ abc.cps.toList) : LinL r := by
  refine ⟨h1, ?_⟩
  rw [made_all, List.all_eq_true]
  exact fun c hc => decide_eq_true (h2 c hc)
theorem ok_wishZ {f : Addr} {fd : FuncData} (F : Fun K "_law_wish" "_law_wish" sWishL f fd) (hP : Hv P w K mg base 1 "_law_pick" ["_law_purse_here", "_law_size"] spPk) (hLi : Hv P w K mg base 2 "_law_line" ["_law_purse_here", "_law_letters_here", "_law_size"] spLineZ) : FnOk P w K mg base CX0 3 f fd ["_law_purse_here", "_law_letters_here"] spWishZ := by
  refine F.ok scWishZ (fun vs H Q E h => ?_) (fun cdv A outer s H vs Q E hr h => ?_)
  · obtain ⟨p, x, rfl, _⟩ := h
    rfl
  · obtain ⟨p, x, rfl, hW, x1, x3, xa, k⟩ := h
    have hr1 := hr.mono (by decide : 1 ≤ 2)
    refine ⟨_, pss_cons (ps_par (i := 2) (j := 3) rfl scWishZ.nd rfl rfl (by decide) rfl rfl (pa_cons (pe_cl hLi hr rfl pass0 (pa_cons (pv 0) (pa_cons (pv 1) (pa_cons pe_int pa_nil)))) (pa_cons (pe_ix ix_list (pe_lst (pa_cons pe_str (pa_cons pe_str pa_nil))) (pe_cl hP hr1 rfl pass0 (pa_cons (pv 0) (pa_cons pe_int pa_nil))) (fun _ _ => rfl)) pa_nil)) rfl)
      (pss_cons (ps_if (pt_cmpR op_eq (pe_cl hP hr1 rfl pass0 (pa_cons (pv 0) (pa_cons pe_int pa_nil))) pe_int (nomark _)) (pss_one (ps_set (i := 2) scWishZ.nd rfl (Or.inl rfl) (pe_op op_add_str (pv 2) (pe_ix ix_str pe_str (pe_cl hP hr1 rfl pass0 (pa_cons (pv 0) (pa_cons pe_int pa_nil))) (fun _ _ => rfl))))) pss_nil)
      (pss_one (ps_ret (pe_tup (pa_cons (pv 3) (pa_cons (pv 2) pa_nil)))))), ?_⟩
    refine ⟨_, rfl, _, rfl, p, x, 7, rfl, hW, x1, x3, by decide, by decide, fun r H1 hr7 hin s1 hW1 => ?_⟩
    refine ⟨by show 2 ≤ sizeLine; decide, fun l2 hl2 => ⟨_, rfl, p, 2, rfl, hW1.same (same_new hl2), by decide, by decide, fun d H2 d0 d1 s2 hW2 => ?_⟩⟩
    obtain ⟨j, rfl⟩ := Int.eq_ofNat_of_zero_le d0
    obtain ⟨wd, hwd, rw_⟩ := word_at (show j < 2 by omega)
    have nl2 : l2 ≠ p := hW1.new hl2
    refine ⟨l2, _, _, V.str wd, rfl, rfl, SqL.of (s2 _ _ nl2 upd_same), atI_nat hwd, _, _, rfl, ?_⟩
    have sb2 : Sb p H H2 := (s1.trans (Sb.of (same_new (o := .lst [V.str "good", V.str "bad"]) hl2))).trans s2
    refine ⟨_, rfl, p, 9, rfl, hW2, by decide, by decide, fun d H3 d0' d1' s3 hW3 => ⟨rfl, _, rfl, ?_⟩⟩
    have sb3 := sb2.trans s3
    have hra : ∀ c ∈ r.cps.toList, c ∈ abc.cps.toList := fun c hc => xa c (hin c hc)
    have fin : ∀ (H' : Hp) (r' : Str) (t : Addr), Sb p H H' → Wl H' p → H' t = none → (∀ o, H t ≠ some o) → r'.length ≤ 7 → (∀ c ∈ r'.cps.toList, c ∈ abc.cps.toList) → Q (.ref t) (upd H' t (.tup [.str wd, .str r'])) := fun H' r' t sb hW' ht hn h7 ha =>
      k t wd r' _ (sb.trans (Sb.of (same_new ht))) (hW'.same (same_new ht)) rw_ (lin_of (by omega) ha) h7 upd_same hn
    have newt : ∀ {H' : Hp} {t : Addr}, Sb p H H' → Wl H' p → H' t = none → ∀ o, H t ≠ some o := fun {H' t} sb hW' ht o e => by
      have np : t ≠ p := hW'.new ht
      rw [sb _ _ np e] at ht
      cases ht
    refine ite2 (fun c => ?_) (fun c => ?_)
    · refine ⟨_, rfl, _, rfl, p, 26, rfl, hW3, by decide, by decide, fun d H4 d0 d1 s4 hW4 => ?_⟩
      obtain ⟨i, rfl⟩ := Int.eq_ofNat_of_zero_le d0
      obtain ⟨ch, hch, hca⟩ := abc_atZ (show i < 26 by omega)
      have sb4 := sb3.trans s4
      refine ⟨_, _, ch, rfl, rfl, by decide, atI_nat hch, _, _, rfl, rfl, ?_, ?_⟩
      · show r.length + 1 ≤ _
        rw [sizeLine_eq]
        omega
      · refine ⟨_, rfl, _, rfl, by show 2 ≤ sizeLine; decide, fun t ht => fin H4 _ t sb4 hW4 ht (newt sb4 hW4 ht) ?_ ?_⟩
        · rw [len_app]
          show r.length + 1 ≤ 7
          omega
        · intro c' hc'
          rw [cps_app] at hc'
          rcases List.mem_append.mp hc' with h | h
          · exact hra _ h
          · have : c' = ch := by simpa [sg] using h
            rw [this]
            exact hca
    · exact ⟨_, rfl, _, rfl, by show 2 ≤ sizeLine; decide, fun t ht => fin H3 r t sb3 hW3 ht (newt sb3 hW3 ht) (by omega) hra⟩
theorem scFineZ : FnScope ["_law_box_here", "_law_line_here"] ["_law_box_here", "_law_line_here"] (defScope sFine) := ⟨rfl, rfl, rfl, by decide +kernel, rfl, by decide +kernel, by decide +kernel⟩
theorem ok_fineZ {f : Addr} {fd : FuncData} (F : Fun K "_law_is_fine" "_law_is_fine" sFine f fd) (hEn : Hv P w K mg base 1 "_law_end" ["_law_box_here", "_law_begin", "_law_line_here"] spEndB) : FnOk P w K mg base CX0 2 f fd ["_law_box_here", "_law_line_here"] spFineZ := by
  refine F.ok scFineZ (fun vs H Q E h => ?_) (fun cdv A outer s H vs Q E hr h => ?_)
  · obtain ⟨q, p, r, rfl, _⟩ := h
    rfl
  · obtain ⟨q, p, r, rfl, hB, ok, ir, k⟩ := h
    refine ⟨_, pss_one (ps_ret (pe_cmpR op_in_seq (pe_cl hEn hr rfl pass0 (pa_cons (pv 0) (pa_cons (pe_ix ix_list (pe_ix ix_tup (pv 0) pe_int (fun _ _ => rfl)) pe_int (fun _ _ => rfl)) (pa_cons (pv 1) pa_nil)))) (pe_ix ix_tup (pv 0) pe_int (fun _ _ => rfl)) (by rfl))), ?_⟩
    obtain ⟨ms, em⟩ := ok.first
    have ef : (p.ms.map V.str)[0]? = some (.str (firstL p)) := by rw [em]; rfl
    have mf : firstL p ∈ p.ms := by rw [em]; simp
    obtain ⟨lw, lg, g, kvs, eq, ew, eg, _, _⟩ := id hB
    refine ⟨_, rfl, _, rfl, q, _, _, V.ref lw, rfl, rfl, SqT.of eq, atI_nat (j := 1) rfl, lw, _, _, V.str (firstL p), rfl, rfl, SqL.of ew, atI_nat (j := 0) ef, _, rfl, q, p, p.ms, firstL p, r, rfl, hB, ok, mf, ir, fun H1 s1 => ?_⟩
    refine ⟨_, rfl, q, _, _, V.ref lg, rfl, rfl, SqT.of (s1 _ _ eq), atI_nat (j := 2) rfl, lg, _, rfl, .inl (SqL.of (s1 _ _ eg)), rfl, flat_strs _, ?_⟩
    show Q (.bl (inV (.str _) (p.gs.map V.str))) H1
    rw [in_strs]
    exact k _ s1
abbrev nHoldsZ : List Str := ["_law_box_here", "_law_wish_here", "_law_known", "_law_letter"]
theorem scHoldsZ : FnScope nHoldsZ ["_law_box_here", "_law_wish_here"] (defScope sHolds) := ⟨rfl, rfl, rfl, by decide +kernel, rfl, by decide +kernel, by decide +kernel⟩
theorem made_glyph (p : Parts) (r : Str) : ((r.cps.toList.filter fun c => !decide (c ∈ p.sg.cps.toList)).map sg).isEmpty = madeL r p.sg := by
  rw [Bool.eq_iff_iff, List.isEmpty_iff, List.map_eq_nil_iff, others_nil, made_all, List.all_eq_true]
  exact ⟨fun h c hc => decide_eq_true (h c hc), fun h c hc => of_decide_eq_true (h c hc)⟩
theorem ok_holdsZ {f : Addr} {fd : FuncData} (F : Fun K "_law_holds" "_law_holds" sHolds f fd) (hFi : Hv P w K mg base 2 "_law_is_fine" ["_law_box_here", "_law_line_here"] spFineZ) : FnOk P w K mg base CX0 3 f fd ["_law_box_here", "_law_wish_here"] spHoldsZ := by
  refine F.ok scHoldsZ (fun vs H Q E h => ?_) (fun cdv A outer s H vs Q E hr h => ?_)
  · obtain ⟨q, c, p, wd, r, rfl, _⟩ := h
    rfl
  · obtain ⟨q, c, p, wd, r, rfl, hB, ok, ec, hw, zr, k⟩ := h
    have hu := hu_of hr
    have hu0 : (A.deeper (envOfC "_law_holds" (defScope sHolds) s.heap.objs.size f cdv)).units < cLine := by omega
    refine ⟨_, pss_cons (ps_set (i := 2) scHoldsZ.nd rfl (Or.inl rfl) (pe_cmpR (op_eqNil hu0) (pe_lc (own := [("_law_letter", 3)]) (g := gName 3) rfl scHoldsZ.nd (pi_str (pe_ix ix_tup (pv 1) pe_int (fun _ _ => rfl))) (blkOk_by (N := nHoldsZ) (sc := defScope sHolds) (by decide +kernel)) (fun _ _ _ _ _ => pg_name (i := 3) scHoldsZ.nd rfl (Or.inl rfl)) (fun _ _ _ _ _ => pts_one (pt_cmpR op_notIn_sign (pv 3) (pe_ix (ix_tupK (K := K) rfl) (pv 0) pe_int (fun _ _ => rfl)) (by rfl))) (fun _ _ _ _ _ => pv 3)) (pe_lst pa_nil) (nomark _)))
      (pss_one (ps_ret (pe_cmpR op_eq (pe_and (pv 2) (pe_one (pe_cl hFi hr rfl pass0 (pa_cons (pv 0) (pa_cons (pe_ix ix_tup (pv 1) pe_int (fun _ _ => rfl)) pa_nil))))) (pe_cmpR op_eq (pe_ix ix_tup (pv 1) pe_int (fun _ _ => rfl)) pe_str (nomark _)) (nomark _)))), ?_⟩
    obtain ⟨lw, lg, g, kvs, eq, _⟩ := id hB
    refine ⟨_, rfl, c, _, _, V.str r, rfl, rfl, SqT.of ec, atI_nat (j := 1) rfl, r, rfl, fun D hD => ?_⟩
    refine lcG (r.cps.toList) (fun c => if (!decide (c ∈ p.sg.cps.toList)) = true then some (.str (sg c)) else none) (by rw [Array.length_toList]; exact walk_str) (by rw [Array.length_toList]; show r.length ≤ _; omega) hD (fun i H x H' h => by rw [h.1]; exact Same.refl _) (fun _ _ => trivial) (fun i c y H' H'' k1 hc s1 hy k2 => ?_) (fun H' s' e => ?_)
    · obtain ⟨rfl, c', hc', rfl⟩ := hy
      rw [← Array.getElem?_toList, hc] at hc'
      cases hc'
      refine ⟨rfl, _, rfl, _, rfl, q, _, _, V.str p.sg, rfl, rfl, SqT.of (s1 _ _ eq), atI_nat (j := 0) rfl, c, _, rfl, rfl, _, rfl, ?_⟩
      have k2 := k2 _ (Same.refl _)
      refine ite2 (fun b => ?_) (fun b => ?_)
      · rw [if_pos b] at k2
        exact ⟨_, rfl, k2⟩
      · rw [if_neg b] at k2
        exact k2
    · rw [fm_sg] at e
      refine ⟨by show 0 ≤ sizeLine; decide, fun l0 h0 => ⟨D, l0, _, rfl, rfl, SqL.of (keep1 e h0), SqL.of upd_same, ?_⟩⟩
      have eE : ∀ l : List Nat, ((l.map sg).map V.str).isEmpty = (l.map sg).isEmpty := fun l => by cases l <;> rfl
      have s6 := s'.trans (same_new (o := .lst []) h0)
      generalize upd H' l0 (.lst []) = H6 at s6 ⊢
      have ec6 := s6 _ _ ec
      rw [eE, made_glyph]
      have fin : ∀ (b : Bool) (H7 : Hp), b = goodRowL p r → Same H H7 → decide (V.bl b = V.bl (decide (V.str wd = V.str "good"))) = wishL p wd r := fun b H7 eb s7 => by
        subst eb
        unfold wishL
        have e1 : decide (V.str wd = V.str "good") = decide (wd = "good") := by
          by_cases h : wd = "good"
          · rw [decide_eq_true h, h]
            exact decide_eq_true rfl
          · rw [decide_eq_false h]
            exact decide_eq_false fun z => h (by injection z)
        rw [e1]
        by_cases h : goodRowL p r = decide (wd = "good")
        · rw [decide_eq_true h, h]
          exact decide_eq_true rfl
        · rw [decide_eq_false h]
          exact decide_eq_false fun z => h (by injection z)
      refine ⟨_, rfl, _, rfl, ?_⟩
      refine ite2 (fun cc => ?_) (fun cc => ?_)
      · have cc : madeL r p.sg = true := cc
        have hin : InS p r := fun d hd => by
          have c := cc
          rw [made_all, List.all_eq_true] at c
          exact of_decide_eq_true (c d hd)
        refine ⟨_, rfl, _, rfl, c, _, _, V.str r, rfl, rfl, SqT.of ec6, atI_nat (j := 1) rfl, q, p, r, rfl, hB.same s6, ok, hin, fun H7 s7 => ?_⟩
        have s67 := s6.trans s7
        refine ⟨_, rfl, c, _, _, V.str wd, rfl, rfl, SqT.of (s7 _ _ ec6), atI_nat (j := 0) rfl, rfl, rfl, ?_⟩
        have eg : decide (walkL p (firstL p) r.cps.toList ∈ p.gs) = goodRowL p r := by
          unfold goodRowL moodL
          rw [cc, Bool.true_and]
        rw [fin _ H7 eg s67]
        exact k _ s67
      · have c' : madeL r p.sg = false := by simpa using cc
        refine ⟨_, rfl, c, _, _, V.str wd, rfl, rfl, SqT.of ec6, atI_nat (j := 0) rfl, rfl, rfl, ?_⟩
        rw [fin false H6 (by unfold goodRowL; rw [c', Bool.false_and]) s6]
        exact k _ s6
end
end My
set_option pp.maxSteps 1500
namespace My
open PySem PySem.Spec PyProof.Rows L2 PySem.GX L2H LamX
/-! drawn changes -/
def spChangesZ : Sp := fun vs H Q _ => ∃ (p q : Addr) (P : Parts) (m : Nat), vs = [.ref p, .ref q, .int (m : Int)] ∧ Wl H p ∧ BxF H q P P.ms ∧ PartsOk P ∧ P.ms.length ≤ 5 ∧ m ≤ 100 ∧
  ∀ (l : Addr) (zs : List ChA) (H' : Hp), Sb p H H' → Wl H' p → H' l = some (.lst (chR zs)) → ChH H' zs → (zs.map (·.2.key)).Nodup → (∀ z ∈ zs, ChgOk P z.2) → zs.length ≤ m → Q (.ref l) H'
/-- a change, drawn -/
def tThing : TE := fun σ H Q => ∃ (p : Addr) (m g : Str) (x : Nat), σ[0]? = some (some (.ref p)) ∧ σ[6]? = some (some (.str m)) ∧ σ[7]? = some (some (.str g)) ∧ σ[8]? = some (some (.str (sg x))) ∧ Wl H p ∧
  ∀ (c : Addr) (ch : Chg) (H' : Hp), Sb p H H' → Wl H' p → H' c = some (.tup ch.vs) → (ch = .turn m ∨ ch = .lead m x g) → Q (.ref c) H'
/-- a change's place -/
def tKeyZ : TE := fun σ H Q => ∃ (c : Addr) (ch : Chg), σ[9]? = some (some (.ref c)) ∧ H c = some (.tup ch.vs) ∧ ∀ q H', Same H H' → H' q = some (.tup (ch.key.map kV)) → Q (.ref q) H'
section
variable {P : Program} {w : World} {K : PySem.W.Frag} {mg : Str → Option Value} {base : Heap}
abbrev nChZ : List Str := ["_law_purse_here", "_law_box_here", "_law_most", "_law_found", "_law_places", "_law_turn", "_law_here", "_law_aim_here", "_law_letter", "_law_thing"]
theorem scChZ : FnScope nChZ ["_law_purse_here", "_law_box_here", "_law_most"] (defScope sChangesL) := ⟨rfl, rfl, rfl, by decide +kernel, rfl, by decide +kernel, by decide +kernel⟩
theorem ok_changesZ {f : Addr} {fd : FuncData} (F : Fun K "_law_changes" "_law_changes" sChangesL f fd) (hP : Hv P w K mg base 1 "_law_pick" ["_law_purse_here", "_law_size"] spPk) (hR : mg "range" = none) (hL : mg "len" = none) : FnOk P w K mg base CX0 2 f fd ["_law_purse_here", "_law_box_here", "_law_most"] spChangesZ := by
  refine F.ok scChZ (fun vs H Q E h => ?_) (fun cdv A outer s H vs Q E hr h => ?_)
  · obtain ⟨p, q, P, m, rfl, _⟩ := h
    rfl
  · obtain ⟨p, q, P0, m, rfl, hW, hB, ok, n5, m100, k⟩ := h
    have hu := hu_of hr
    refine ⟨_, pss_cons (ps_par (i := 3) (j := 4) rfl scChZ.nd rfl rfl (by decide) rfl rfl (pa_cons (pe_lst pa_nil) (pa_cons pe_dnewT pa_nil)) rfl)
      (pss_cons (ps_for PassesOwn.never rfl (pi_range1 rfl hR (pa_cons (pe_cl hP hr rfl pass0 (pa_cons (pv 0) (pa_cons (pe_op op_add (pv 2) pe_int) pa_nil))) pa_nil)) (pg_name (i := 5) scChZ.nd rfl (Or.inl rfl))
        (pss_cons (ps_par (i := 6) (j := 7) rfl scChZ.nd rfl rfl (by decide) rfl rfl (pa_cons (pe_ix ix_list (pe_ix ix_tup (pv 1) pe_int (fun _ _ => rfl)) (pe_cl hP hr rfl pass0 (pa_cons (pv 0) (pa_cons (pe_callB call_len_seq (by rfl) hL PySem.boot_len (pa_cons (pe_ix ix_tup (pv 1) pe_int (fun _ _ => rfl)) pa_nil)) pa_nil))) (fun _ _ => rfl)) (pa_cons (pe_ix ix_list (pe_ix ix_tup (pv 1) pe_int (fun _ _ => rfl)) (pe_cl hP hr rfl pass0 (pa_cons (pv 0) (pa_cons (pe_callB call_len_seq (by rfl) hL PySem.boot_len (pa_cons (pe_ix ix_tup (pv 1) pe_int (fun _ _ => rfl)) pa_nil)) pa_nil))) (fun _ _ => rfl)) pa_nil)) rfl)
        (pss_cons (ps_set (i := 8) scChZ.nd rfl (Or.inl rfl) (pe_ix ix_str (pe_ix ix_tup (pv 1) pe_int (fun _ _ => rfl)) (pe_cl hP hr rfl pass0 (pa_cons (pv 0) (pa_cons (pe_callB call_len_str (by rfl) hL PySem.boot_len (pa_cons (pe_ix ix_tup (pv 1) pe_int (fun _ _ => rfl)) pa_nil)) pa_nil))) (fun _ _ => rfl)))
        (pss_cons (ps_set (i := 9) scChZ.nd rfl (Or.inl rfl) (PE_imp (t' := tThing) (pe_ifExp (pt_cmpR op_eq (pe_cl hP hr rfl pass0 (pa_cons (pv 0) (pa_cons pe_int pa_nil))) pe_int (nomark _)) (pe_tup (pa_cons (pv 6) pa_nil)) (pe_tup (pa_cons (pv 6) (pa_cons (pv 8) (pa_cons (pv 7) pa_nil))))) ?iTh))
        (pss_one (ps_if (pt_cmp (pc_dnotin hu (PE_imp (t' := tKeyZ) (pe_slice sl_tupA (pv 9) po_none (po_some pe_int)) ?iK1) (pv 4)))
          (pss_cons (ps_dput hu (pv 4) (PE_imp (t' := tKeyZ) (pe_slice sl_tupA (pv 9) po_none (po_some pe_int)) ?iK2) pe_bl rfl)
          (pss_one (ps_expr (pe_bm PySem.F.plainAttrs_list PySem.F.slot_list_append PySem.F.type_list_append mt_append (pv 3) (pa_cons (pv 9) pa_nil))))) pss_nil))))))
      (pss_one (ps_ret (pv 3)))), ?_⟩
    case iTh =>
      rintro σ H Q ⟨p, m, g, x, e0, e6, e7, e8, hW, k⟩
      refine ⟨_, e0, p, 3, rfl, hW, by decide, by decide, fun d H1 d0 d1 s1 hW1 => ⟨rfl, _, rfl, ite2 (fun c => ?_) (fun c => ?_)⟩⟩
      · exact ⟨_, e6, by show 1 ≤ sizeLine; decide, fun c hc => k c (.turn m) _ (s1.trans (Sb.of (same_new hc))) (hW1.same (same_new hc)) upd_same (.inl rfl)⟩
      · exact ⟨_, e6, _, e8, _, e7, by show 3 ≤ sizeLine; decide, fun c hc => k c (.lead m x g) _ (s1.trans (Sb.of (same_new hc))) (hW1.same (same_new hc)) upd_same (.inr rfl)⟩
    case iK1 =>
      rintro σ H Q ⟨c, ch, e9, ec, q⟩
      cases ch with
      | turn m => exact ⟨_, e9, _, rfl, c, _, rfl, SqT.of ec, fun _ => q c H (Same.refl _) ec, fun z => absurd ⟨rfl, rfl⟩ z⟩
      | lead m x g => exact ⟨_, e9, _, rfl, c, _, rfl, SqT.of ec, fun z => absurd z.2 (by show ¬ (2 : Nat) = 3; decide), fun _ t ht => q t _ (same_new ht) upd_same⟩
    case iK2 =>
      rintro σ H Q ⟨c, ch, e9, ec, q⟩
      cases ch with
      | turn m => exact ⟨_, e9, _, rfl, c, _, rfl, SqT.of ec, fun _ => q c H (Same.refl _) ec, fun z => absurd ⟨rfl, rfl⟩ z⟩
      | lead m x g => exact ⟨_, e9, _, rfl, c, _, rfl, SqT.of ec, fun z => absurd z.2 (by show ¬ (2 : Nat) = 3; decide), fun _ t ht => q t _ (same_new ht) upd_same⟩
    obtain ⟨lw, lg, g, kvs, eq, ew, eg, ed, hv⟩ := id hB
    have nq : q ≠ p := hW.ne eq fun _ _ _ z => by cases z
    have nlw : lw ≠ p := hW.neS ew
    obtain ⟨ms, em⟩ := ok.first
    have z1 : 1 ≤ P0.ms.length := by rw [em, List.length_cons]; omega
    have zsg : 1 ≤ P0.sg.length ∧ P0.sg.length ≤ 3 := by
      have := ok.sgs
      rw [areS1] at this
      simp only [Bool.and_eq_true, decide_eq_true_eq] at this
      exact ⟨this.1.1.1, this.1.1.2⟩
    have zs : P0.sg.length ≤ sizeLine := by rw [sizeLine_eq]; omega
    refine ⟨by show 0 ≤ sizeLine; decide, fun l hl D hD => ⟨_, _, rfl, ?_⟩⟩
    have sH := (same_new (o := .lst []) hl).trans (same_new (o := .dT []) hD)
    have el := keep1 (o := .dT []) (upd_same (a := l) (H := H) (o := .lst [])) hD
    have eD : upd (upd H l (.lst [])) D (.dT []) D = some (.dT []) := upd_same
    have nlp : l ≠ p := hW.new hl
    have nDp : D ≠ p := (hW.same (same_new hl)).new hD
    have nlD : l ≠ D := fun z => by rw [← z, upd_same] at hD; cases hD
    have noo : ∀ b o, H b = some o → b ≠ l ∧ b ≠ D := fun b o e => ⟨ne_of_none e hl, ne_of_none (keep1 (o := .lst []) e hl) hD⟩
    have hW1 := hW.same sH
    generalize upd (upd H l (.lst [])) D (.dT []) = H1 at sH el eD hW1 ⊢
    clear hl hD
    refine ⟨_, rfl, _, rfl, _, _, rfl, rfl, p, m + 1, rfl, hW1, by omega, by omega, fun d H2 d0 d1 s2 hW2 => ?_⟩
    obtain ⟨n, rfl⟩ := Int.eq_ofNat_of_zero_le d0
    have hnm : n ≤ m := by omega
    refine ⟨n, rfl, by omega, by omega, for_range (n := n) (fun j σ H' => ∃ (zs : List ChA) (v5 v6 v7 v8 v9 : Option V), σ = [some (.ref p), some (.ref q), some (.int (m : Int)), some (.ref l), some (.ref D), v5, v6, v7, v8, v9] ∧ Wl H' p ∧ (∀ b o, b ≠ p → b ≠ l → b ≠ D → H1 b = some o → H' b = some o) ∧ H' l = some (.lst (chR zs)) ∧ H' D = some (.dT (seenC (zs.map (·.2.key)))) ∧ ChH H' zs ∧ zs.length ≤ j ∧ (zs.map (·.2.key)).Nodup ∧ (∀ z ∈ zs, ChgOk P0 z.2))
      ⟨[], none, none, none, none, none, rfl, hW2, fun b o n1 _ _ e => s2 _ _ n1 e, s2 _ _ nlp el, s2 _ _ nDp eD, (fun z hz => by cases hz), Nat.le_refl _, List.nodup_nil, fun z hz => by cases hz⟩ (fun j σ H3 hj h => ?_) (fun σ H3 h => ?_)⟩
    · clear hW2 s2
      obtain ⟨zs0, v5, v6, v7, v8, v9, rfl, hW3, st, eL, eDD, hZ, zl, nd, hin⟩ := h
      have up3 : ∀ b o, b ≠ p → H b = some o → H3 b = some o := fun b o n1 e => st b o n1 (noo b o e).1 (noo b o e).2 (sH _ _ e)
      have eq3 := up3 _ _ nq eq
      have ew3 := up3 _ _ nlw ew
      have lz : (P0.ms.map V.str).length = P0.ms.length := List.length_map _
      refine ⟨_, rfl, q, _, _, V.ref lw, rfl, rfl, SqT.of eq3, atI_nat (j := 1) rfl, _, rfl, _, rfl, q, _, _, V.ref lw, rfl, rfl, SqT.of eq3, atI_nat (j := 1) rfl, lw, _, rfl, .inl (SqL.of ew3), p, (P0.ms.map V.str).length, rfl, hW3, by omega, by omega, fun d H4 d0 d1 s4 hW4 => ?_⟩
      obtain ⟨i1, rfl⟩ := Int.eq_ofNat_of_zero_le d0
      obtain ⟨m1, hm1⟩ : ∃ m1, P0.ms[i1]? = some m1 := ⟨_, List.getElem?_eq_getElem (by omega)⟩
      have eq4 := s4 _ _ nq eq3
      have ew4 := s4 _ _ nlw ew3
      refine ⟨lw, _, _, V.str m1, rfl, rfl, SqL.of ew4, atI_nat (by rw [List.getElem?_map, hm1]; rfl), ?_⟩
      refine ⟨_, rfl, q, _, _, V.ref lw, rfl, rfl, SqT.of eq4, atI_nat (j := 1) rfl, _, rfl, _, rfl, q, _, _, V.ref lw, rfl, rfl, SqT.of eq4, atI_nat (j := 1) rfl, lw, _, rfl, .inl (SqL.of ew4), p, (P0.ms.map V.str).length, rfl, hW4, by omega, by omega, fun d H5 d0 d1 s5 hW5 => ?_⟩
      obtain ⟨i2, rfl⟩ := Int.eq_ofNat_of_zero_le d0
      obtain ⟨g1, hg1⟩ : ∃ g1, P0.ms[i2]? = some g1 := ⟨_, List.getElem?_eq_getElem (by omega)⟩
      have eq5 := s5 _ _ nq eq4
      have ew5 := s5 _ _ nlw ew4
      refine ⟨lw, _, _, V.str g1, rfl, rfl, SqL.of ew5, atI_nat (by rw [List.getElem?_map, hg1]; rfl), _, _, rfl, ?_⟩
      refine ⟨_, rfl, q, _, _, V.str P0.sg, rfl, rfl, SqT.of eq5, atI_nat (j := 0) rfl, _, rfl, _, rfl, q, _, _, V.str P0.sg, rfl, rfl, SqT.of eq5, atI_nat (j := 0) rfl, P0.sg, rfl, zs, p, P0.sg.length, rfl, hW5, by omega, by omega, fun d H6 d0 d1 s6 hW6 => ?_⟩
      obtain ⟨i3, rfl⟩ := Int.eq_ofNat_of_zero_le d0
      have hi3 : i3 < P0.sg.cps.toList.length := by
        rw [Array.length_toList]
        show i3 < P0.sg.length
        omega
      have ei : P0.sg.cps.toList[i3]? = some P0.sg.cps.toList[i3] := List.getElem?_eq_getElem hi3
      have hxc : P0.sg.cps.toList[i3] ∈ P0.sg.cps.toList := List.getElem_mem hi3
      generalize P0.sg.cps.toList[i3] = x at ei hxc
      refine ⟨P0.sg, _, x, rfl, rfl, zs, atI_nat ei, ?_⟩
      refine ⟨p, m1, g1, x, rfl, rfl, rfl, rfl, hW6, fun c ch H7 s7 hW7 ec hch => ?_⟩
      have s37 := ((s4.trans s5).trans s6).trans s7
      have okc : ChgOk P0 ch := by
        rcases hch with rfl | rfl
        · exact List.mem_of_getElem? hm1
        · exact ⟨List.mem_of_getElem? hm1, hxc, List.mem_of_getElem? hg1⟩
      have eL7 := s37 _ _ nlp eL
      have eD7 := s37 _ _ nDp eDD
      have hZ7 : ChH H7 zs0 := fun z hz => s37 _ _ (hW3.ne (hZ z hz) (fun _ _ _ q => by cases q)) (hZ z hz)
      have st7 : ∀ b o, b ≠ p → b ≠ l → b ≠ D → H1 b = some o → H7 b = some o := fun b o n1 n2 n3 e => s37 _ _ n1 (st b o n1 n2 n3 e)
      clear hch s37 s7 hW6 s6 hW5 s5 hW4 s4 eq3 ew3 eq4 ew4 eq5 ew5
      refine ⟨c, ch, rfl, ec, fun kq H8 s8 ekq => ?_⟩
      have eD8 := s8 _ _ eD7
      refine ⟨_, rfl, D, _, rfl, DGet.t (k := ch.key) eD8 ekq, _, rfl, ?_⟩
      have ndk : ∀ ks : List (List Key), ((valV (seenC ks) ch.key).isSome = true ↔ ch.key ∈ ks) := fun ks => by
        constructor
        · intro h
          refine Classical.byContradiction fun no => ?_
          rw [seenC_no no] at h
          cases h
        · intro h
          induction ks with
          | nil => cases h
          | cons a t ih =>
            by_cases e : a = ch.key
            · subst e
              rw [show seenC (ch.key :: t) = (ch.key, V.bl true) :: seenC t from rfl, valV_pos rfl]
              rfl
            · rw [show seenC (a :: t) = (a, V.bl true) :: seenC t from rfl, valV_neg (fun z => e z)]
              exact ih ((List.mem_cons.mp h).resolve_left fun z => e z.symm)
      by_cases hk : ch.key ∈ zs0.map (·.2.key)
      · refine if_false_of ?_ ?_
        · rw [(ndk _).mpr hk]
          rfl
        · refine ⟨zs0, _, _, _, _, _, rfl, hW7.same s8, fun b o n1 n2 n3 e => s8 _ _ (st7 b o n1 n2 n3 e), s8 _ _ eL7, eD8, fun z hz => s8 _ _ (hZ7 z hz), by omega, nd, hin⟩
      · refine if_true_of ?_ ?_
        · cases e : (valV (seenC (zs0.map (·.2.key))) ch.key).isSome with
          | true => exact absurd ((ndk _).mp e) hk
          | false => rfl
        · refine ⟨_, rfl, c, ch, rfl, s8 _ _ ec, fun kq2 H9 s9 ekq2 => ⟨D, _, rfl, DPut.t (k := ch.key) (s9 _ _ eD8) ekq2 ?_, ?_⟩⟩
          · unfold seenC
            rw [List.length_map, List.length_map, sizeLine_eq]
            omega
          · rw [seenC_snoc hk]
            have s79 := s8.trans s9
            have eL9 := s79 _ _ eL7
            have eL10 : upd H9 D (.dT (seenC (zs0.map (·.2.key) ++ [ch.key]))) l = some (.lst (chR zs0)) := by rw [upd_ne nlD]; exact eL9
            refine ⟨_, rfl, .inl ⟨rfl, _, SqL.of eL10⟩, _, rfl, l, _, _, rfl, rfl, eL10, by unfold chR; rw [List.length_map, sizeLine_eq]; omega, ?_⟩
            have nc : c ≠ l ∧ c ≠ D := ⟨(fun z => by rw [z, eL7] at ec; cases ec), fun z => by rw [z, eD7] at ec; cases ec⟩
            have off : ∀ b o, b ≠ l → b ≠ D → H7 b = some o → upd (upd H9 D (.dT (seenC (zs0.map (·.2.key) ++ [ch.key])))) l (.lst (chR zs0 ++ [.ref c])) b = some o := fun b o n1 n2 e => by
              rw [upd_ne n1, upd_ne n2]
              exact s79 _ _ e
            refine ⟨zs0 ++ [(c, ch)], _, _, _, _, _, rfl, ?_, fun b o n1 n2 n3 e => off b o n2 n3 (st7 b o n1 n2 n3 e), ?_, ?_, fun z hz => ?_, by rw [List.length_append]; show zs0.length + 1 ≤ _; omega, ?_, fun z hz => ?_⟩
            · obtain ⟨w0, w1, w2, a0, a1, ep⟩ := hW7
              exact ⟨w0, w1, w2, a0, a1, off _ _ nlp.symm nDp.symm ep⟩
            · rw [upd_same]
              unfold chR
              rw [List.map_append]
              rfl
            · rw [upd_ne nlD.symm, upd_same, List.map_append]
              rfl
            · rcases List.mem_append.mp hz with h | h
              · have e := hZ7 z h
                exact off _ _ (fun q => by rw [q, eL7] at e; cases e) (fun q => by rw [q, eD7] at e; cases e) e
              · rw [List.mem_singleton.mp h]
                exact off _ _ nc.1 nc.2 ec
            · rw [List.map_append, List.nodup_append]
              refine ⟨nd, List.nodup_cons.mpr ⟨by simp, List.nodup_nil⟩, fun a ha b hb e => ?_⟩
              have hb' : b = ch.key := by simpa using hb
              rw [e, hb'] at ha
              exact hk ha
            · rcases List.mem_append.mp hz with h | h
              · exact hin z h
              · rw [List.mem_singleton.mp h]
                exact okc
    · obtain ⟨zs0, v5, v6, v7, v8, v9, rfl, hW3, st, eL, eDD, hZ, zl, nd, hin⟩ := h
      exact ⟨_, rfl, k l zs0 H3 (fun b o n1 e => st b o n1 (noo b o e).1 (noo b o e).2 (sH _ _ e)) hW3 eL hZ nd hin (by omega)⟩
end
end My
namespace My
open PySem PySem.Spec PyProof.Rows L2 PySem.GX L2H LamX
def partB (l lot : List Nat) : Bool := l.all fun x => decide (x ∈ lot)
def chosenL (ms : List Str) (lot : List Nat) : List Str := lot.map fun k => ms.getD k Str.empty
def wishesL (p : Parts) (wp : List (Str × Str)) : Bool := wp.all fun w => wishL p w.1 w.2
def mendStep (p : Parts) (wp : List (Str × Str)) (ms : List Str) (found : List (List Nat)) (lot : List Nat) : List (List Nat) :=
  if found.any (fun l => partB l lot) = true then found else if wishesL (turnsP p (chosenL ms lot)) wp = true then found ++ [lot] else found
def mendL (p : Parts) (wp : List (Str × Str)) (ms : List Str) : List (List Nat) := (lotsL ms.length).foldl (mendStep p wp ms) []
theorem lots_in : ∀ n ≤ 6, ∀ lot ∈ lotsL n, lot.length ≤ 6 ∧ ∀ x ∈ lot, x < n := by decide +kernel
theorem lots_len : ∀ n ≤ 6, (lotsL n).length ≤ 64 := by decide +kernel
theorem step_len {p : Parts} {wp : List (Str × Str)} {ms : List Str} : ∀ (ls acc : List (List Nat)), (ls.foldl (mendStep p wp ms) acc).length ≤ acc.length + ls.length
  | [], _ => Nat.le_refl _
  | a :: t, acc => by
    have ih := step_len (p := p) (wp := wp) (ms := ms) t (mendStep p wp ms acc a)
    have : (mendStep p wp ms acc a).length ≤ acc.length + 1 := by
      unfold mendStep
      split
      · omega
      · split
        · rw [List.length_append]; exact Nat.le_refl _
        · omega
    rw [List.foldl_cons, List.length_cons]
    omega
theorem step_in {p : Parts} {wp : List (Str × Str)} {ms : List Str} {P : List Nat → Prop} : ∀ (ls acc : List (List Nat)), (∀ l ∈ acc, P l) → (∀ l ∈ ls, P l) → ∀ l ∈ ls.foldl (mendStep p wp ms) acc, P l
  | [], _, h, _ => h
  | a :: t, acc, h, g => by
    refine step_in t _ (fun l hl => ?_) fun l hl => g l (List.mem_cons_of_mem _ hl)
    unfold mendStep at hl
    split at hl
    · exact h l hl
    · split at hl
      · rcases List.mem_append.mp hl with m | m
        · exact h l m
        · rw [List.mem_singleton.mp m]; exact g a (List.mem_cons_self ..)
      · exact h l hl
def spMending (C : Addr) : Sp := fun vs H Q _ => ∃ (a W G : Addr) (t : Str) (p : Parts) (ws : List Wsh) (zs : List (Addr × Str)), vs = [.ref a, .ref W, .ref G] ∧ RuleAt H C a t p ∧ PartsOk p ∧ p.ms.length ≤ 20 ∧ H W = some (.tup (wishR ws)) ∧ WshH H ws ∧ ws.length ≤ 1000 ∧ H G = some (.tup (onesL zs)) ∧ OnesH H zs ∧ zs.length ≤ 6 ∧ (zs.map (·.2)).Nodup ∧ (∀ z ∈ zs, z.2 ∈ p.ms) ∧
  ∀ (T : Addr) (fs : List (Addr × List V)) (H' : Hp), Same H H' → H' T = some (.tup (refsL fs)) → TupsH H' fs → fs.map (·.2) = (mendL p (ws.map (·.2)) (zs.map (·.2))).map itL → Q (.ref T) H'
section
variable {P : Program} {w : World} {K : PySem.W.Frag} {mg : Str → Option Value} {base : Heap}
abbrev nMend : List Str := ["rule", "wishes", "changes", "found", "lot", "other", "least", "place", "wish"]
theorem scMend : FnScope nMend ["rule", "wishes", "changes"] (defScope sMending) := ⟨rfl, rfl, rfl, by decide +kernel, rfl, by decide +kernel, by decide +kernel⟩
theorem ok_mending {f C : Addr} {fd : FuncData} (F : Fun K "mending" "mending" sMending f fd) (hR : Hv P w K mg base 1 "check_rule" ["value"] (spCkRule C)) (hW : Hv P w K mg base 4 "check_wishes" ["wishes"] spCkWish) (hC : Hv P w K mg base 3 "check_changes" ["rule", "changes"] (spCkChg C))
    (hA : Hv P w K mg base 1 "all_lots" ["number"] spAllLots) (hP : Hv P w K mg base 1 "is_part" ["part", "lot"] spIsPart) (hD : Hv P w K mg base 8 "changed_rule" ["rule", "changes"] (spChanged C)) (hH : Hv P w K mg base 6 "holds" ["rule", "wish"] (spHoldsR C))
    (hAny : mg "any" = none) (hAll : mg "all" = none) (hTu : mg "tuple" = none) (hL : mg "len" = none) : FnOk P w K mg base CX0 9 f fd ["rule", "wishes", "changes"] (spMending C) := by
  refine F.ok scMend (fun vs H Q E h => ?_) (fun cdv A outer s H vs Q E hr h => ?_)
  · obtain ⟨a, W, G, t, p, ws, zs, rfl, _⟩ := h
    rfl
  · obtain ⟨a, W, G, t, p, ws, zs, rfl, hA0, ok, hn, eW, hWs, wl, eG, hZ, zl, nd, hin, k⟩ := h
    have hr1 := hr.mono (by decide : 1 ≤ 8)
    have hr3 := hr.mono (by decide : 3 ≤ 8)
    have hr4 := hr.mono (by decide : 4 ≤ 8)
    have hr6 := hr.mono (by decide : 6 ≤ 8)
    refine ⟨_, pss_cons (ps_expr (pe_cl hR hr1 rfl pass0 (pa_cons (pv 0) pa_nil)))
      (pss_cons (ps_expr (pe_cl hW hr4 rfl pass0 (pa_cons (pv 1) pa_nil)))
      (pss_cons (ps_expr (pe_cl hC hr3 rfl pass0 (pa_cons (pv 0) (pa_cons (pv 2) pa_nil))))
      (pss_cons (ps_set (i := 3) scMend.nd rfl (Or.inl rfl) (pe_lst pa_nil))
      (pss_cons (ps_for PassesOwn.never rfl (pi_list (pe_cl hA hr1 rfl pass0 (pa_cons (pe_callB call_len_seq (by rfl) hL PySem.boot_len (pa_cons (pv 2) pa_nil)) pa_nil))) (pg_name (i := 4) scMend.nd rfl (Or.inr rfl))
        (pss_cons (ps_if (pt_val (pe_callB (cr_any rfl) (by rfl) hAny (by decide +kernel) (pa_cons (pe_lc (own := [("least", 6)]) (g := gName 6) (tt := tYes) rfl scMend.nd (pi_list (pv 3)) (blkOk_by (N := nMend) (sc := defScope sMending) (by decide +kernel)) (fun _ _ _ _ _ => pg_name (i := 6) scMend.nd rfl (Or.inl rfl)) (fun _ _ _ _ _ => pts_nil)
            (fun _ _ _ _ _ => pe_cl hP hr1 rfl pass0 (pa_cons (pv 6) (pa_cons (pv 4) pa_nil)))) pa_nil))) (pss_one ps_continue) pss_nil)
        (pss_cons (ps_set (i := 5) scMend.nd rfl (Or.inr rfl) (pe_cl hD hr rfl pass0 (pa_cons (pv 0) (pa_cons (pe_lc (own := [("place", 7)]) (g := gName 7) (tt := tYes) rfl scMend.nd (pi_tup (pv 4)) (blkOk_by (N := nMend) (sc := defScope sMending) (by decide +kernel)) (fun _ _ _ _ _ => pg_name (i := 7) scMend.nd rfl (Or.inl rfl)) (fun _ _ _ _ _ => pts_nil)
            (fun _ _ _ _ _ => pe_ix (ix_tupK (K := K) rfl) (pv 2) (pv 7) (fun _ _ => rfl))) pa_nil))))
        (pss_one (ps_if (pt_val (pe_callB (cr_all rfl) (by rfl) hAll (by decide +kernel) (pa_cons (pe_lc (own := [("wish", 8)]) (g := gName 8) (tt := tYes) rfl scMend.nd (pi_tup (pv 1)) (blkOk_by (N := nMend) (sc := defScope sMending) (by decide +kernel)) (fun _ _ _ _ _ => pg_name (i := 8) scMend.nd rfl (Or.inl rfl)) (fun _ _ _ _ _ => pts_nil)
            (fun _ _ _ _ _ => pe_cl hH hr6 rfl pass0 (pa_cons (pv 5) (pa_cons (pv 8) pa_nil)))) pa_nil)))
          (pss_one (ps_expr (pe_bm PySem.F.plainAttrs_list PySem.F.slot_list_append PySem.F.type_list_append mt_append (pv 3) (pa_cons (pv 4) pa_nil)))) pss_nil)))))
      (pss_one (ps_ret (pe_callTy call_tuple_of (by rfl) hTu (by decide +kernel) (pa_cons (pv 3) pa_nil)))))))), ?_⟩
    refine ⟨_, rfl, a, t, p, rfl, hA0, fun H1 s1 => ?_⟩
    refine ⟨_, rfl, W, ws, rfl, s1 _ _ eW, hWs.same s1, fun H2 s2 => ?_⟩
    have s12 := s1.trans s2
    refine ⟨_, rfl, _, rfl, a, G, t, p, zs, rfl, hA0.same s12, s12 _ _ eG, hZ.same s12, zl, nd, hin, fun H3 s3 => ?_⟩
    have s13 := s12.trans s3
    refine ⟨by show 0 ≤ sizeLine; decide, fun fl hfl => ?_⟩
    have sH := s13.trans (same_new (o := .lst []) hfl)
    have eF0 : upd H3 fl (.lst []) fl = some (.lst []) := upd_same
    have nF : ∀ b o, H b = some o → b ≠ fl := fun b o e => ne_of_none (s13 _ _ e) hfl
    show tSeq _ _ _ _ _
    generalize upd H3 fl (.lst []) = H4 at sH eF0 ⊢
    have en : (onesL zs).length = zs.length := by unfold onesL; rw [List.length_map]
    refine ⟨_, rfl, G, _, rfl, .inr (SqT.of (sH _ _ eG)), (onesL zs).length, rfl, by rw [en]; exact zl, fun l zs0 H5 s5 eL hT em => ⟨l, rfl, ⟨_, SqL.of eL⟩, ?_⟩⟩
    rw [en] at em
    have sH5 := sH.trans s5
    have eF5 := s5 _ _ eF0
    clear s1 s2 s12 s3 s13 hfl
    have fin : ∀ H', KpM fl H5 H' → Same H H' := fun H' ks b o e => ks b o (nF b o e) (sH5 b o e)
    have nl : l ≠ fl := fun z => by
      rw [z] at eL
      have e := eL.symm.trans eF5
      have e2 : refsL zs0 = [] := by injection e with e; injection e
      have e3 : zs0 = [] := List.map_eq_nil_iff.mp e2
      rw [e3] at em
      have := (grow_len zs.length zl).2
      have z2 : (lotsL zs.length).length = 0 := by
        have := congrArg List.length em
        rw [List.length_map, List.length_map] at this
        exact this.symm
      unfold lotsL at z2
      rw [this] at z2
      exact absurd z2 (by have := Nat.two_pow_pos zs.length; omega)
    have lenZ : zs0.length = (lotsL zs.length).length := by
      have := congrArg List.length em
      rwa [List.length_map, List.length_map] at this
    have len64 := lots_len zs.length zl
    have lin := lots_in zs.length zl
    refine for_it (walk_listL zs0 fun z => V.ref z.1) (fun i σ H' => ∃ (v4 v5 v6 v7 v8 : Option V) (fs : List (Addr × List V)), σ = [some (.ref a), some (.ref W), some (.ref G), some (.ref fl), v4, v5, v6, v7, v8] ∧ KpM fl H5 H' ∧ H' fl = some (.lst (refsL fs)) ∧ fs.map (·.2) = (((lotsL zs.length).take i).foldl (mendStep p (ws.map (·.2)) (zs.map (·.2))) []).map itL ∧ TupsH H' fs)
      ⟨none, none, none, none, none, [], rfl, KpM.refl _, eF5, rfl, fun z hz => by cases hz⟩ (fun i σ H' _ h => ?_) (fun i y σ H' H'' hi h hy => ?_) (fun σ H' h => ?_)
    · obtain ⟨v4, v5, v6, v7, v8, fs, rfl, ks, _⟩ := h
      exact SqL.of (ks _ _ nl eL)
    · obtain ⟨rfl, hy⟩ := hy
      obtain ⟨v4, v5, v6, v7, v8, fs, rfl, ks, eF, ef, hF⟩ := h
      have hz : zs0[i]? = some zs0[i] := List.getElem?_eq_getElem hi
      obtain rfl := map_get hz hy
      have hg : (lotsL zs.length)[i]? = some ((lotsL zs.length)[i]'(by omega)) := List.getElem?_eq_getElem (by omega)
      have ezs : (zs0[i]).2 = itL ((lotsL zs.length)[i]'(by omega)) := by
        have := congrArg (fun q : List (List V) => q[i]?) em
        simp only [List.getElem?_map, hz, hg, Option.map_some] at this
        exact Option.some.inj this
      have hzm := hT _ (List.mem_of_getElem? hz)
      rw [ezs] at hzm
      have hlot := lin _ (List.mem_of_getElem? hg)
      rw [List.take_add_one, hg, List.foldl_append]
      generalize (lotsL zs.length)[i]'(by omega) = lot at hzm hlot
      generalize zs0[i].1 = z at hzm
      have nz : z ≠ fl := fun q => by rw [q, eF5] at hzm; cases hzm
      have ez := ks _ _ nz hzm
      have fin0 := fin _ ks
      have fl6 : ∀ x ∈ ((lotsL zs.length).take i).foldl (mendStep p (ws.map (·.2)) (zs.map (·.2))) [], x.length ≤ 6 := step_in (P := fun x => x.length ≤ 6) _ _ (fun _ h => by cases h) fun x hx => (lin x (List.mem_of_mem_take hx)).1
      have fl64 : (((lotsL zs.length).take i).foldl (mendStep p (ws.map (·.2)) (zs.map (·.2))) []).length ≤ 64 := by
        have a1 := step_len (p := p) (wp := ws.map (·.2)) (ms := zs.map (·.2)) ((lotsL zs.length).take i) []
        have a2 := List.length_take_le i (lotsL zs.length)
        rw [List.length_nil] at a1
        omega
      show tSeq _ _ _ _ _
      generalize ((lotsL zs.length).take i).foldl (mendStep p (ws.map (·.2)) (zs.map (·.2))) [] = found at ef fl6 fl64 ⊢
      have lenF : fs.length = found.length := by
        have := congrArg List.length ef
        rwa [List.length_map, List.length_map] at this
      have wf := walk_listL (K := K) (a := fl) fs (fun z => V.ref z.1)
      rw [lenF] at wf
      -- any
      refine ⟨_, rfl, fl, rfl, ⟨_, SqL.of eF⟩, fun D hD => ?_⟩
      refine lcG found (fun x => some (.bl (partB x lot))) wf (by omega) hD (yat_same _) (fun H6 s => SqL.of (s _ _ eF)) (fun j x y H6 H7 k1 hx sj hy k2 => ?_) (fun H6 s6 e6 => ?_)
      · obtain ⟨rfl, hy⟩ := hy
        have hj : j < fs.length := by rw [lenF]; exact (List.getElem?_eq_some_iff.mp hx).1
        have hq : fs[j]? = some fs[j] := List.getElem?_eq_getElem hj
        obtain rfl := map_get hq hy
        have eq2 : fs[j].2 = itL x := by
          have := congrArg (fun q : List (List V) => q[j]?) ef
          simp only [List.getElem?_map, hq, hx, Option.map_some] at this
          exact Option.some.inj this
        have hqm := hF _ (List.mem_of_getElem? hq)
        rw [eq2] at hqm
        exact ⟨rfl, _, rfl, _, rfl, fs[j].1, z, x, lot, rfl, sj _ _ hqm, sj _ _ ez, by have := fl6 x (List.mem_of_getElem? hx); omega, fun H8 s8 => k2 _ s8⟩
      have eany : (found.map fun x => partB x lot).any id = found.any fun x => partB x lot := by rw [List.any_map]; rfl
      refine ⟨D, found.map fun x => partB x lot, rfl, SqL.of ?_, _, rfl, ?_⟩
      · rw [e6, List.filterMap_eq_map', List.map_map]
        rfl
      rw [eany]
      have ks6 := ks.same s6
      have eF6 := s6 _ _ eF
      have hF6 : TupsH H6 fs := fun q hq => s6 _ _ (hF q hq)
      have ez6 := s6 _ _ ez
      have fin6 := fin _ ks6
      refine ite2 (fun c => ?_) (fun c => ?_)
      · refine ⟨_, _, _, _, _, fs, rfl, ks6, eF6, ?_, hF6⟩
        rw [ef]
        show _ = List.map itL (mendStep p _ _ found lot)
        unfold mendStep
        rw [if_pos c]
      -- the rule with its moods turned
      refine ⟨_, rfl, _, rfl, z, rfl, ⟨_, SqT.of ez6⟩, fun D2 hD2 => ?_⟩
      refine lcG lot (fun n => some (V.ref (zs.getD n (0, Str.empty)).1)) (walkT lot fun n : Nat => .int (n : Int)) (by have := hlot.1; omega) hD2 (yat_same _) (fun H7 s => SqT.of (s _ _ ez6)) (fun j x y H7 H8 k1 hx sj hy k2 => ?_) (fun H7 s7 e7 => ?_)
      · obtain ⟨rfl, hy⟩ := hy
        obtain rfl := map_get hx hy
        have hxl : x < zs.length := hlot.2 x (List.mem_of_getElem? hx)
        have hzx : (onesL zs)[x]? = some (V.ref (zs.getD x (0, Str.empty)).1) := by
          unfold onesL
          rw [List.getElem?_map, List.getD_eq_getElem?_getD, List.getElem?_eq_getElem hxl]
          rfl
        exact ⟨rfl, _, rfl, _, rfl, G, _, _, _, rfl, rfl, SqT.of (sj _ _ (fin6 _ _ eG)), atI_nat hzx, k2 _ (Same.refl _)⟩
      have ez2 : lot.filterMap (fun n => some (V.ref (zs.getD n (0, Str.empty)).1)) = onesL (lot.map fun n => zs.getD n (0, Str.empty)) := by
        unfold onesL
        rw [List.filterMap_eq_map', List.map_map]
        rfl
      rw [ez2] at e7
      have s67 := fin6.trans s7
      have hz2 : ∀ q ∈ lot.map (fun n => zs.getD n (0, Str.empty)), q ∈ zs := fun q hq => by
        obtain ⟨n, hn1, rfl⟩ := List.mem_map.mp hq
        have hnl := hlot.2 n hn1
        rw [List.getD_eq_getElem?_getD, List.getElem?_eq_getElem hnl]
        exact List.getElem_mem hnl
      have ech : (lot.map fun n => zs.getD n (0, Str.empty)).map (·.2) = chosenL (zs.map (·.2)) lot := by
        unfold chosenL
        rw [List.map_map]
        refine List.map_congr_left fun n hn1 => ?_
        have hnl := hlot.2 n hn1
        show (zs.getD n (0, Str.empty)).2 = _
        rw [List.getD_eq_getElem?_getD, List.getD_eq_getElem?_getD, List.getElem?_map, List.getElem?_eq_getElem hnl]
        rfl
      refine ⟨a, D2, t, p, _, rfl, hA0.same s67, ok, hn, e7, fun q hq => s67 _ _ (hZ q (hz2 q hq)), fun q hq => hin q (hz2 q hq), fun b t' H8 s8 hB => ?_⟩
      rw [ech] at hB
      have tk := turns_ok ok (chosenL (zs.map (·.2)) lot)
      have s68 := s67.trans s8
      -- all
      refine ⟨_, rfl, W, rfl, ⟨_, SqT.of (s68 _ _ eW)⟩, fun D3 hD3 => ?_⟩
      refine lcG ws (fun x => some (.bl (wishL (turnsP p (chosenL (zs.map (·.2)) lot)) x.2.1 x.2.2))) (walkT ws fun x => V.ref x.1) (by omega) hD3 (yat_same _) (fun H9 s => SqT.of (s _ _ (s68 _ _ eW))) (fun j x y H9 H10 k1 hx sj hy k2 => ?_) (fun H9 s9 e9 => ?_)
      · obtain ⟨rfl, hy⟩ := hy
        obtain rfl := map_get hx hy
        obtain ⟨w1, w2, w3⟩ := hWs x (List.mem_of_getElem? hx)
        exact ⟨rfl, _, rfl, _, rfl, b, x.1, x.2.1, x.2.2, t', _, rfl, hB.same sj, tk.1, sj _ _ (s68 _ _ w1), w2, w3.1, fun H11 s11 => k2 _ s11⟩
      have eall : (ws.map fun x => wishL (turnsP p (chosenL (zs.map (·.2)) lot)) x.2.1 x.2.2).all id = wishesL (turnsP p (chosenL (zs.map (·.2)) lot)) (ws.map (·.2)) := by
        unfold wishesL
        rw [List.all_map, List.all_map]
        rfl
      refine ⟨D3, ws.map fun x => wishL (turnsP p (chosenL (zs.map (·.2)) lot)) x.2.1 x.2.2, rfl, SqL.of ?_, _, rfl, ?_⟩
      · rw [e9, List.filterMap_eq_map', List.map_map]
        rfl
      rw [eall]
      have s79 := s7.trans (s8.trans s9)
      have ks9 := ks6.same s79
      have eF9 := s79 _ _ eF6
      have hF9 : TupsH H9 fs := fun q hq => s79 _ _ (hF6 q hq)
      refine ite2 (fun c2 => ?_) (fun c2 => ?_)
      · refine ⟨_, rfl, .inl ⟨rfl, _, SqL.of eF9⟩, _, rfl, fl, _, _, rfl, rfl, eF9, by unfold refsL; rw [List.length_map, lenF, sizeLine_eq]; omega, ⟨_, _, _, _, _, fs ++ [(z, itL lot)], rfl, ks9.upd, ?_, ?_, ?_⟩⟩
        · rw [upd_same]
          unfold refsL
          rw [List.map_append]
          rfl
        · show _ = List.map itL (mendStep p _ _ found lot)
          unfold mendStep
          rw [if_neg c, if_pos c2, List.map_append, List.map_append, ef]
          rfl
        · intro q hq
          rcases List.mem_append.mp hq with m | m
          · have := hF9 q m
            have nq : q.1 ≠ fl := fun e => by rw [e, eF9] at this; cases this
            rw [upd_ne nq]
            exact this
          · rw [List.mem_singleton.mp m]
            show upd H9 fl _ z = _
            rw [upd_ne nz]
            exact s79 _ _ ez6
      · refine ⟨_, _, _, _, _, fs, rfl, ks9, eF9, ?_, hF9⟩
        rw [ef]
        show _ = List.map itL (mendStep p _ _ found lot)
        unfold mendStep
        rw [if_neg c, if_neg c2]
    · obtain ⟨v4, v5, v6, v7, v8, fs, rfl, ks, eF, ef, hF⟩ := h
      have e1 : (lotsL zs.length).take zs0.length = lotsL (zs.map (·.2)).length := by rw [lenZ, List.take_length, List.length_map]
      rw [e1] at ef
      have s0 := fin _ ks
      refine ⟨_, rfl, fl, _, rfl, .inl ⟨SqL.of eF, fun T hT2 => k T fs _ (s0.trans (same_new hT2)) upd_same (fun q hq => keep1 (hF q hq) hT2) ef⟩⟩
end
end My
namespace My
open PySem PySem.Spec PyProof.Rows L2 PySem.GX L2H LamX
def chosenC (cs : List Chg) (lot : List Nat) : List Chg := lot.map fun k => cs.getD k (.turn Str.empty)
def mendStepG (p : Parts) (wp : List (Str × Str)) (ms : List Chg) (found : List (List Nat)) (lot : List Nat) : List (List Nat) :=
  if found.any (fun l => partB l lot) = true then found else if wishesL (changesP p (chosenC ms lot)) wp = true then found ++ [lot] else found
def mendLG (p : Parts) (wp : List (Str × Str)) (ms : List Chg) : List (List Nat) := (lotsL ms.length).foldl (mendStepG p wp ms) []
theorem step_lenG {p : Parts} {wp : List (Str × Str)} {ms : List Chg} : ∀ (ls acc : List (List Nat)), (ls.foldl (mendStepG p wp ms) acc).length ≤ acc.length + ls.length
  | [], _ => Nat.le_refl _
  | a :: t, acc => by
    have ih := step_lenG (p := p) (wp := wp) (ms := ms) t (mendStepG p wp ms acc a)
    have : (mendStepG p wp ms acc a).length ≤ acc.length + 1 := by
      unfold mendStepG
      split
      · omega
      · split
        · rw [List.length_append]; exact Nat.le_refl _
        · omega
    rw [List.foldl_cons, List.length_cons]
    omega
theorem step_inG {p : Parts} {wp : List (Str × Str)} {ms : List Chg} {P : List Nat → Prop} : ∀ (ls acc : List (List Nat)), (∀ l ∈ acc, P l) → (∀ l ∈ ls, P l) → ∀ l ∈ ls.foldl (mendStepG p wp ms) acc, P l
  | [], _, h, _ => h
  | a :: t, acc, h, g => by
    refine step_inG t _ (fun l hl => ?_) fun l hl => g l (List.mem_cons_of_mem _ hl)
    unfold mendStepG at hl
    split at hl
    · exact h l hl
    · split at hl
      · rcases List.mem_append.mp hl with m | m
        · exact h l m
        · rw [List.mem_singleton.mp m]; exact g a (List.mem_cons_self ..)
      · exact h l hl
def spMendingG (C : Addr) : Sp := fun vs H Q _ => ∃ (a W G : Addr) (t : Str) (p : Parts) (ws : List Wsh) (zs : List ChA), vs = [.ref a, .ref W, .ref G] ∧ RuleAt H C a t p ∧ PartsOk p ∧ p.ms.length ≤ 20 ∧ H W = some (.tup (wishR ws)) ∧ WshH H ws ∧ ws.length ≤ 1000 ∧ H G = some (.tup (chR zs)) ∧ ChH H zs ∧ zs.length ≤ 6 ∧ (zs.map (·.2.key)).Nodup ∧ (∀ z ∈ zs, ChgOk p z.2) ∧
  ∀ (T : Addr) (fs : List (Addr × List V)) (H' : Hp), Same H H' → H' T = some (.tup (refsL fs)) → TupsH H' fs → fs.map (·.2) = (mendLG p (ws.map (·.2)) (zs.map (·.2))).map itL → Q (.ref T) H'
section
variable {P : Program} {w : World} {K : PySem.W.Frag} {mg : Str → Option Value} {base : Heap}
abbrev nMendG : List Str := ["rule", "wishes", "changes", "found", "lot", "other", "least", "place", "wish"]
theorem scMendG : FnScope nMendG ["rule", "wishes", "changes"] (defScope sMending) := ⟨rfl, rfl, rfl, by decide +kernel, rfl, by decide +kernel, by decide +kernel⟩
theorem ok_mendingG {f C : Addr} {fd : FuncData} (F : Fun K "mending" "mending" sMending f fd) (hR : Hv P w K mg base 1 "check_rule" ["value"] (spCkRule C)) (hW : Hv P w K mg base 4 "check_wishes" ["wishes"] spCkWish) (hC : Hv P w K mg base 3 "check_changes" ["rule", "changes"] (spCkChgG C))
    (hA : Hv P w K mg base 1 "all_lots" ["number"] spAllLots) (hP : Hv P w K mg base 1 "is_part" ["part", "lot"] spIsPart) (hD : Hv P w K mg base 8 "changed_rule" ["rule", "changes"] (spChangedG C)) (hH : Hv P w K mg base 6 "holds" ["rule", "wish"] (spHoldsR C))
    (hAny : mg "any" = none) (hAll : mg "all" = none) (hTu : mg "tuple" = none) (hL : mg "len" = none) : FnOk P w K mg base CX0 9 f fd ["rule", "wishes", "changes"] (spMendingG C) := by
  refine F.ok scMendG (fun vs H Q E h => ?_) (fun cdv A outer s H vs Q E hr h => ?_)
  · obtain ⟨a, W, G, t, p, ws, zs, rfl, _⟩ := h
    rfl
  · obtain ⟨a, W, G, t, p, ws, zs, rfl, hA0, ok, hn, eW, hWs, wl, eG, hZ, zl, nd, hin, k⟩ := h
    have hr1 := hr.mono (by decide : 1 ≤ 8)
    have hr3 := hr.mono (by decide : 3 ≤ 8)
    have hr4 := hr.mono (by decide : 4 ≤ 8)
    have hr6 := hr.mono (by decide : 6 ≤ 8)
    refine ⟨_, pss_cons (ps_expr (pe_cl hR hr1 rfl pass0 (pa_cons (pv 0) pa_nil)))
      (pss_cons (ps_expr (pe_cl hW hr4 rfl pass0 (pa_cons (pv 1) pa_nil)))
      (pss_cons (ps_expr (pe_cl hC hr3 rfl pass0 (pa_cons (pv 0) (pa_cons (pv 2) pa_nil))))
      (pss_cons (ps_set (i := 3) scMendG.nd rfl (Or.inl rfl) (pe_lst pa_nil))
      (pss_cons (ps_for PassesOwn.never rfl (pi_list (pe_cl hA hr1 rfl pass0 (pa_cons (pe_callB call_len_seq (by rfl) hL PySem.boot_len (pa_cons (pv 2) pa_nil)) pa_nil))) (pg_name (i := 4) scMendG.nd rfl (Or.inr rfl))
        (pss_cons (ps_if (pt_val (pe_callB (cr_any rfl) (by rfl) hAny (by decide +kernel) (pa_cons (pe_lc (own := [("least", 6)]) (g := gName 6) (tt := tYes) rfl scMendG.nd (pi_list (pv 3)) (blkOk_by (N := nMendG) (sc := defScope sMending) (by decide +kernel)) (fun _ _ _ _ _ => pg_name (i := 6) scMendG.nd rfl (Or.inl rfl)) (fun _ _ _ _ _ => pts_nil)
            (fun _ _ _ _ _ => pe_cl hP hr1 rfl pass0 (pa_cons (pv 6) (pa_cons (pv 4) pa_nil)))) pa_nil))) (pss_one ps_continue) pss_nil)
        (pss_cons (ps_set (i := 5) scMendG.nd rfl (Or.inr rfl) (pe_cl hD hr rfl pass0 (pa_cons (pv 0) (pa_cons (pe_lc (own := [("place", 7)]) (g := gName 7) (tt := tYes) rfl scMendG.nd (pi_tup (pv 4)) (blkOk_by (N := nMendG) (sc := defScope sMending) (by decide +kernel)) (fun _ _ _ _ _ => pg_name (i := 7) scMendG.nd rfl (Or.inl rfl)) (fun _ _ _ _ _ => pts_nil)
            (fun _ _ _ _ _ => pe_ix (ix_tupK (K := K) rfl) (pv 2) (pv 7) (fun _ _ => rfl))) pa_nil))))
        (pss_one (ps_if (pt_val (pe_callB (cr_all rfl) (by rfl) hAll (by decide +kernel) (pa_cons (pe_lc (own := [("wish", 8)]) (g := gName 8) (tt := tYes) rfl scMendG.nd (pi_tup (pv 1)) (blkOk_by (N := nMendG) (sc := defScope sMending) (by decide +kernel)) (fun _ _ _ _ _ => pg_name (i := 8) scMendG.nd rfl (Or.inl rfl)) (fun _ _ _ _ _ => pts_nil)
            (fun _ _ _ _ _ => pe_cl hH hr6 rfl pass0 (pa_cons (pv 5) (pa_cons (pv 8) pa_nil)))) pa_nil)))
          (pss_one (ps_expr (pe_bm PySem.F.plainAttrs_list PySem.F.slot_list_append PySem.F.type_list_append mt_append (pv 3) (pa_cons (pv 4) pa_nil)))) pss_nil)))))
      (pss_one (ps_ret (pe_callTy call_tuple_of (by rfl) hTu (by decide +kernel) (pa_cons (pv 3) pa_nil)))))))), ?_⟩
    refine ⟨_, rfl, a, t, p, rfl, hA0, fun H1 s1 => ?_⟩
    refine ⟨_, rfl, W, ws, rfl, s1 _ _ eW, hWs.same s1, fun H2 s2 => ?_⟩
    have s12 := s1.trans s2
    refine ⟨_, rfl, _, rfl, a, G, t, p, zs, rfl, hA0.same s12, s12 _ _ eG, hZ.same s12, zl, nd, hin, fun H3 s3 => ?_⟩
    have s13 := s12.trans s3
    refine ⟨by show 0 ≤ sizeLine; decide, fun fl hfl => ?_⟩
    have sH := s13.trans (same_new (o := .lst []) hfl)
    have eF0 : upd H3 fl (.lst []) fl = some (.lst []) := upd_same
    have nF : ∀ b o, H b = some o → b ≠ fl := fun b o e => ne_of_none (s13 _ _ e) hfl
    show tSeq _ _ _ _ _
    generalize upd H3 fl (.lst []) = H4 at sH eF0 ⊢
    have en : (chR zs).length = zs.length := by unfold chR; rw [List.length_map]
    refine ⟨_, rfl, G, _, rfl, .inr (SqT.of (sH _ _ eG)), (chR zs).length, rfl, by rw [en]; exact zl, fun l zs0 H5 s5 eL hT em => ⟨l, rfl, ⟨_, SqL.of eL⟩, ?_⟩⟩
    rw [en] at em
    have sH5 := sH.trans s5
    have eF5 := s5 _ _ eF0
    clear s1 s2 s12 s3 s13 hfl
    have fin : ∀ H', KpM fl H5 H' → Same H H' := fun H' ks b o e => ks b o (nF b o e) (sH5 b o e)
    have nl : l ≠ fl := fun z => by
      rw [z] at eL
      have e := eL.symm.trans eF5
      have e2 : refsL zs0 = [] := by injection e with e; injection e
      have e3 : zs0 = [] := List.map_eq_nil_iff.mp e2
      rw [e3] at em
      have := (grow_len zs.length zl).2
      have z2 : (lotsL zs.length).length = 0 := by
        have := congrArg List.length em
        rw [List.length_map, List.length_map] at this
        exact this.symm
      unfold lotsL at z2
      rw [this] at z2
      exact absurd z2 (by have := Nat.two_pow_pos zs.length; omega)
    have lenZ : zs0.length = (lotsL zs.length).length := by
      have := congrArg List.length em
      rwa [List.length_map, List.length_map] at this
    have len64 := lots_len zs.length zl
    have lin := lots_in zs.length zl
    refine for_it (walk_listL zs0 fun z => V.ref z.1) (fun i σ H' => ∃ (v4 v5 v6 v7 v8 : Option V) (fs : List (Addr × List V)), σ = [some (.ref a), some (.ref W), some (.ref G), some (.ref fl), v4, v5, v6, v7, v8] ∧ KpM fl H5 H' ∧ H' fl = some (.lst (refsL fs)) ∧ fs.map (·.2) = (((lotsL zs.length).take i).foldl (mendStepG p (ws.map (·.2)) (zs.map (·.2))) []).map itL ∧ TupsH H' fs)
      ⟨none, none, none, none, none, [], rfl, KpM.refl _, eF5, rfl, fun z hz => by cases hz⟩ (fun i σ H' _ h => ?_) (fun i y σ H' H'' hi h hy => ?_) (fun σ H' h => ?_)
    · obtain ⟨v4, v5, v6, v7, v8, fs, rfl, ks, _⟩ := h
      exact SqL.of (ks _ _ nl eL)
    · obtain ⟨rfl, hy⟩ := hy
      obtain ⟨v4, v5, v6, v7, v8, fs, rfl, ks, eF, ef, hF⟩ := h
      have hz : zs0[i]? = some zs0[i] := List.getElem?_eq_getElem hi
      obtain rfl := map_get hz hy
      have hg : (lotsL zs.length)[i]? = some ((lotsL zs.length)[i]'(by omega)) := List.getElem?_eq_getElem (by omega)
      have ezs : (zs0[i]).2 = itL ((lotsL zs.length)[i]'(by omega)) := by
        have := congrArg (fun q : List (List V) => q[i]?) em
        simp only [List.getElem?_map, hz, hg, Option.map_some] at this
        exact Option.some.inj this
      have hzm := hT _ (List.mem_of_getElem? hz)
      rw [ezs] at hzm
      have hlot := lin _ (List.mem_of_getElem? hg)
      rw [List.take_add_one, hg, List.foldl_append]
      generalize (lotsL zs.length)[i]'(by omega) = lot at hzm hlot
      generalize zs0[i].1 = z at hzm
      have nz : z ≠ fl := fun q => by rw [q, eF5] at hzm; cases hzm
      have ez := ks _ _ nz hzm
      have fin0 := fin _ ks
      have fl6 : ∀ x ∈ ((lotsL zs.length).take i).foldl (mendStepG p (ws.map (·.2)) (zs.map (·.2))) [], x.length ≤ 6 := step_inG (P := fun x => x.length ≤ 6) _ _ (fun _ h => by cases h) fun x hx => (lin x (List.mem_of_mem_take hx)).1
      have fl64 : (((lotsL zs.length).take i).foldl (mendStepG p (ws.map (·.2)) (zs.map (·.2))) []).length ≤ 64 := by
        have a1 := step_lenG (p := p) (wp := ws.map (·.2)) (ms := zs.map (·.2)) ((lotsL zs.length).take i) []
        have a2 := List.length_take_le i (lotsL zs.length)
        rw [List.length_nil] at a1
        omega
      show tSeq _ _ _ _ _
      generalize ((lotsL zs.length).take i).foldl (mendStepG p (ws.map (·.2)) (zs.map (·.2))) [] = found at ef fl6 fl64 ⊢
      have lenF : fs.length = found.length := by
        have := congrArg List.length ef
        rwa [List.length_map, List.length_map] at this
      have wf := walk_listL (K := K) (a := fl) fs (fun z => V.ref z.1)
      rw [lenF] at wf
      -- any
      refine ⟨_, rfl, fl, rfl, ⟨_, SqL.of eF⟩, fun D hD => ?_⟩
      refine lcG found (fun x => some (.bl (partB x lot))) wf (by omega) hD (yat_same _) (fun H6 s => SqL.of (s _ _ eF)) (fun j x y H6 H7 k1 hx sj hy k2 => ?_) (fun H6 s6 e6 => ?_)
      · obtain ⟨rfl, hy⟩ := hy
        have hj : j < fs.length := by rw [lenF]; exact (List.getElem?_eq_some_iff.mp hx).1
        have hq : fs[j]? = some fs[j] := List.getElem?_eq_getElem hj
        obtain rfl := map_get hq hy
        have eq2 : fs[j].2 = itL x := by
          have := congrArg (fun q : List (List V) => q[j]?) ef
          simp only [List.getElem?_map, hq, hx, Option.map_some] at this
          exact Option.some.inj this
        have hqm := hF _ (List.mem_of_getElem? hq)
        rw [eq2] at hqm
        exact ⟨rfl, _, rfl, _, rfl, fs[j].1, z, x, lot, rfl, sj _ _ hqm, sj _ _ ez, by have := fl6 x (List.mem_of_getElem? hx); omega, fun H8 s8 => k2 _ s8⟩
      have eany : (found.map fun x => partB x lot).any id = found.any fun x => partB x lot := by rw [List.any_map]; rfl
      refine ⟨D, found.map fun x => partB x lot, rfl, SqL.of ?_, _, rfl, ?_⟩
      · rw [e6, List.filterMap_eq_map', List.map_map]
        rfl
      rw [eany]
      have ks6 := ks.same s6
      have eF6 := s6 _ _ eF
      have hF6 : TupsH H6 fs := fun q hq => s6 _ _ (hF q hq)
      have ez6 := s6 _ _ ez
      have fin6 := fin _ ks6
      refine ite2 (fun c => ?_) (fun c => ?_)
      · refine ⟨_, _, _, _, _, fs, rfl, ks6, eF6, ?_, hF6⟩
        rw [ef]
        show _ = List.map itL (mendStepG p _ _ found lot)
        unfold mendStepG
        rw [if_pos c]
      -- the rule with its moods turned
      refine ⟨_, rfl, _, rfl, z, rfl, ⟨_, SqT.of ez6⟩, fun D2 hD2 => ?_⟩
      refine lcG lot (fun n => some (V.ref (zs.getD n ((0 : Addr), Chg.turn Str.empty)).1)) (walkT lot fun n : Nat => .int (n : Int)) (by have := hlot.1; omega) hD2 (yat_same _) (fun H7 s => SqT.of (s _ _ ez6)) (fun j x y H7 H8 k1 hx sj hy k2 => ?_) (fun H7 s7 e7 => ?_)
      · obtain ⟨rfl, hy⟩ := hy
        obtain rfl := map_get hx hy
        have hxl : x < zs.length := hlot.2 x (List.mem_of_getElem? hx)
        have hzx : (chR zs)[x]? = some (V.ref (zs.getD x ((0 : Addr), Chg.turn Str.empty)).1) := by
          unfold chR
          rw [List.getElem?_map, List.getD_eq_getElem?_getD, List.getElem?_eq_getElem hxl]
          rfl
        exact ⟨rfl, _, rfl, _, rfl, G, _, _, _, rfl, rfl, SqT.of (sj _ _ (fin6 _ _ eG)), atI_nat hzx, k2 _ (Same.refl _)⟩
      have ez2 : lot.filterMap (fun n => some (V.ref (zs.getD n ((0 : Addr), Chg.turn Str.empty)).1)) = chR (lot.map fun n => zs.getD n ((0 : Addr), Chg.turn Str.empty)) := by
        unfold chR
        rw [List.filterMap_eq_map', List.map_map]
        rfl
      rw [ez2] at e7
      have s67 := fin6.trans s7
      have hz2 : ∀ q ∈ lot.map (fun n => zs.getD n ((0 : Addr), Chg.turn Str.empty)), q ∈ zs := fun q hq => by
        obtain ⟨n, hn1, rfl⟩ := List.mem_map.mp hq
        have hnl := hlot.2 n hn1
        rw [List.getD_eq_getElem?_getD, List.getElem?_eq_getElem hnl]
        exact List.getElem_mem hnl
      have ech : (lot.map fun n => zs.getD n ((0 : Addr), Chg.turn Str.empty)).map (·.2) = chosenC (zs.map (·.2)) lot := by
        unfold chosenC
        rw [List.map_map]
        refine List.map_congr_left fun n hn1 => ?_
        have hnl := hlot.2 n hn1
        show (zs.getD n ((0 : Addr), Chg.turn Str.empty)).2 = _
        rw [List.getD_eq_getElem?_getD, List.getD_eq_getElem?_getD, List.getElem?_map, List.getElem?_eq_getElem hnl]
        rfl
      refine ⟨a, D2, t, p, _, rfl, hA0.same s67, ok, hn, e7, fun q hq => s67 _ _ (hZ q (hz2 q hq)), fun q hq => hin q (hz2 q hq), fun b t' H8 s8 hB => ?_⟩
      rw [ech] at hB
      have tk := changes_ok ok (chosenC (zs.map (·.2)) lot) fun c hc => by
        rw [← ech] at hc
        obtain ⟨q, hq, rfl⟩ := List.mem_map.mp hc
        exact hin q (hz2 q hq)
      have s68 := s67.trans s8
      -- all
      refine ⟨_, rfl, W, rfl, ⟨_, SqT.of (s68 _ _ eW)⟩, fun D3 hD3 => ?_⟩
      refine lcG ws (fun x => some (.bl (wishL (changesP p (chosenC (zs.map (·.2)) lot)) x.2.1 x.2.2))) (walkT ws fun x => V.ref x.1) (by omega) hD3 (yat_same _) (fun H9 s => SqT.of (s _ _ (s68 _ _ eW))) (fun j x y H9 H10 k1 hx sj hy k2 => ?_) (fun H9 s9 e9 => ?_)
      · obtain ⟨rfl, hy⟩ := hy
        obtain rfl := map_get hx hy
        obtain ⟨w1, w2, w3⟩ := hWs x (List.mem_of_getElem? hx)
        exact ⟨rfl, _, rfl, _, rfl, b, x.1, x.2.1, x.2.2, t', _, rfl, hB.same sj, tk.1, sj _ _ (s68 _ _ w1), w2, w3.1, fun H11 s11 => k2 _ s11⟩
      have eall : (ws.map fun x => wishL (changesP p (chosenC (zs.map (·.2)) lot)) x.2.1 x.2.2).all id = wishesL (changesP p (chosenC (zs.map (·.2)) lot)) (ws.map (·.2)) := by
        unfold wishesL
        rw [List.all_map, List.all_map]
        rfl
      refine ⟨D3, ws.map fun x => wishL (changesP p (chosenC (zs.map (·.2)) lot)) x.2.1 x.2.2, rfl, SqL.of ?_, _, rfl, ?_⟩
      · rw [e9, List.filterMap_eq_map', List.map_map]
        rfl
      rw [eall]
      have s79 := s7.trans (s8.trans s9)
      have ks9 := ks6.same s79
      have eF9 := s79 _ _ eF6
      have hF9 : TupsH H9 fs := fun q hq => s79 _ _ (hF6 q hq)
      refine ite2 (fun c2 => ?_) (fun c2 => ?_)
      · refine ⟨_, rfl, .inl ⟨rfl, _, SqL.of eF9⟩, _, rfl, fl, _, _, rfl, rfl, eF9, by unfold refsL; rw [List.length_map, lenF, sizeLine_eq]; omega, ⟨_, _, _, _, _, fs ++ [(z, itL lot)], rfl, ks9.upd, ?_, ?_, ?_⟩⟩
        · rw [upd_same]
          unfold refsL
          rw [List.map_append]
          rfl
        · show _ = List.map itL (mendStepG p _ _ found lot)
          unfold mendStepG
          rw [if_neg c, if_pos c2, List.map_append, List.map_append, ef]
          rfl
        · intro q hq
          rcases List.mem_append.mp hq with m | m
          · have := hF9 q m
            have nq : q.1 ≠ fl := fun e => by rw [e, eF9] at this; cases this
            rw [upd_ne nq]
            exact this
          · rw [List.mem_singleton.mp m]
            show upd H9 fl _ z = _
            rw [upd_ne nz]
            exact s79 _ _ ez6
      · refine ⟨_, _, _, _, _, fs, rfl, ks9, eF9, ?_, hF9⟩
        rw [ef]
        show _ = List.map itL (mendStepG p _ _ found lot)
        unfold mendStepG
        rw [if_neg c, if_neg c2]
    · obtain ⟨v4, v5, v6, v7, v8, fs, rfl, ks, eF, ef, hF⟩ := h
      have e1 : (lotsL zs.length).take zs0.length = lotsL (zs.map (·.2)).length := by rw [lenZ, List.take_length, List.length_map]
      rw [e1] at ef
      have s0 := fin _ ks
      refine ⟨_, rfl, fl, _, rfl, .inl ⟨SqL.of eF, fun T hT2 => k T fs _ (s0.trans (same_new hT2)) upd_same (fun q hq => keep1 (hF q hq) hT2) ef⟩⟩
end
end My
namespace L2
open PySem PySem.Spec PyProof.Rows PySem.GX
/-! dict(xs) of a list of pairs (key, value) where each key is a tuple of ints and texts -/
def mergeT (acc ps : List (List Key × V)) : List (List Key × V) := ps.foldl (fun acc p => putK acc p.1 p.2) acc
theorem mergeT_len : ∀ (ps acc : List (List Key × V)), (mergeT acc ps).length ≤ acc.length + ps.length
  | [], _ => Nat.le_refl _
  | p :: ps, acc => by
    have h1 := mergeT_len ps (putK acc p.1 p.2)
    have h2 := length_putK acc p.1 p.2
    show (mergeT (putK acc p.1 p.2) ps).length ≤ _
    rw [List.length_cons]
    omega
theorem KT.merge {H : Hp} : ∀ {kvs acc : List (List Key × V)} {xs accx : List (List Key × Addr × Value)}, KT H kvs xs → KT H acc accx → KT H (mergeT acc kvs) (storedAllH accx xs)
  | _, _, _, _, .nil, r => r
  | _, _, _, _, .cons (a := p) (b := q) h t, r => by
    have e := h.1
    have := KT.merge t (r.put p.1 h.2.1 h.2.2)
    rw [e] at this
    show KT H (mergeT (putK _ p.1 p.2) _) (storedAllH (storedH _ q.1 q.2.1 q.2.2) _)
    rw [e]
    exact this
section
variable {X : Cx}
theorem pairsT_of {pins : List (Addr × Obj)} {σ : St} {H : Hp} {s : Shared} (I : Inv X pins σ H s) : ∀ {ps : List Addr} {kvs : List (List Key × V)}, Paired (fun p kv => ∃ t, SqT X.K H p [.ref t, kv.2] ∧ H t = some (.tup (kv.1.map kV))) ps kvs →
    ∃ xs : List (List Key × Addr × Value), KT H kvs xs ∧ xs.length = ps.length ∧ ∀ (j : Nat) (q : List Key × Addr × Value), xs[j]? = some q → ∃ b, ps[j]? = some b ∧ IsTup s.heap b #[.ref q.2.1, q.2.2]
  | _, _, .nil => ⟨[], .nil, rfl, fun j q e => by simp at e⟩
  | _, _, .cons (a := p) (b := kv) h t => by
    obtain ⟨xs, r, hl, hp⟩ := pairsT_of I t
    obtain ⟨tk, hq, ht⟩ := h
    obtain ⟨its, rv, hT, _⟩ := I.tuple hq
    obtain ⟨u, y, ei, ru, ry⟩ := vals2 rv
    subst ei
    have eu : u = .ref tk := ru
    subst eu
    refine ⟨(kv.1, tk, y) :: xs, .cons ⟨rfl, ht, ry⟩ r, by rw [List.length_cons, List.length_cons, hl], fun j q e => ?_⟩
    cases j with
    | zero =>
      have e' : (kv.1, tk, y) = q := Option.some.inj e
      subst e'
      exact ⟨p, rfl, hT⟩
    | succ j =>
      obtain ⟨b, e1, e2⟩ := hp j q (by simpa using e)
      exact ⟨b, by simpa using e1, e2⟩
/-- dict(xs) of a list of pairs (key, value): later pairs win, the place is the first one's -/
theorem call_dictT (hcalm : X.calm = true) (hu : X.A.units + 2 < cLine) : CallR X (.type "dict") (fun xs H Q => ∃ (a : Addr) (ps : List Addr) (kvs : List (List Key × V)), xs = [.ref a] ∧ SqL X.K H a (ps.map V.ref) ∧ Paired (fun p kv => ∃ t, SqT X.K H p [.ref t, kv.2] ∧ H t = some (.tup (kv.1.map kV))) ps kvs ∧
    ∀ p, H p = none → Q (.ref p) (upd H p (.dT (mergeT [] kvs)))) := by
  intro pins s σ H xs us Q I r q
  obtain ⟨a, ps, kvs, ex, hq, hp, q⟩ := q
  subst ex
  obtain ⟨u, eu, rx⟩ := vals1 r
  subst eu
  cases rx
  obtain ⟨its, rv, pl, hz⟩ := I.list hq
  have ei := refs_at rv
  subst ei
  rw [List.length_map] at hz
  obtain ⟨xs, rel, hl, hpr⟩ := pairsT_of I hp
  have isk : ∀ x ∈ xs, (tupleKind (mixKind X.prog X.w)).is s.heap x.1 x.2.1 := by
    have all : ∀ {l : List (List Key × V)} {m : List (List Key × Addr × Value)}, KT H l m → ∀ x ∈ m, (tupleKind (mixKind X.prog X.w)).is s.heap x.1 x.2.1 := by
      intro l m q
      induction q with
      | nil => intro x hx; exact nomatch hx
      | @cons p q ps qs hq t ih =>
        intro x hx
        rcases List.mem_cons.mp hx with e | hx
        · subst e
          exact key_of I.hok (by rw [← hq.1]; exact hq.2.1)
        · exact ih x hx
    exact all rel
  have items : PairItems s.heap (ps.map Value.ref).toArray (fun j => ps[j]?.getD 0) (xs.map fun q => (Value.ref q.2.1, q.2.2)) := by
    refine ⟨by simp [hl], fun j k v e => ?_⟩
    rw [List.getElem?_map] at e
    cases hx : xs[j]? with
    | none => rw [hx] at e; cases e
    | some x =>
      rw [hx] at e
      have e := Option.some.inj e
      obtain ⟨b, e1, ⟨o, e2, e3, n, e4⟩⟩ := hpr j x hx
      have ek : Value.ref x.2.1 = k := congrArg Prod.fst e
      have ev : x.2.2 = v := congrArg Prod.snd e
      subst ek ev
      have eg : (fun j => ps[j]?.getD 0) j = b := by
        show ps[j]?.getD 0 = b
        rw [e1]
        rfl
      rw [eg]
      exact ⟨by simp [e1], .inl ⟨o, e2, e3, n, e4⟩⟩
  obtain ⟨o, n, ho, hc, hd, hdat⟩ := pl
  refine call_dict_pairsH (knd := tupleKind (mixKind X.prog X.w)) (ps := xs) (PairArg.list a (ps.map Value.ref).toArray (fun j => ps[j]?.getD 0) (xs.map fun q => (Value.ref q.2.1, q.2.2))) (I.ok.hd hcalm) ?_ ⟨⟨o, n, ho, hc, hd, hdat⟩, items⟩ ⟨by rw [List.length_map], fun i key v e => ?_⟩ (fun h' hk x hx => ?_) (by rw [List.length_map, hl]; exact hz) fun h' tk hd' k => ?_
  · show X.A.units + 1 + 1 < cLine
    omega
  · have e : (xs.map fun q => (Value.ref q.2.1, q.2.2))[i]? = some (key, v) := e
    rw [List.getElem?_map] at e
    cases hx : xs[i]? with
    | none => rw [hx] at e; cases e
    | some x =>
      rw [hx] at e
      have e := Option.some.inj e
      obtain ⟨k0, b0, u0⟩ := x
      cases e
      exact ⟨k0, b0, rfl, rfl⟩
  · obtain ⟨o, arr, n, h1, h2, h3, h4⟩ := isk x hx
    exact ⟨o, arr, n, hk _ _ (Nat.ne_of_lt (Heap.lt_size h1)) (fun z => nomatch z) h1, h2, h3, h4⟩
  · have hm : (s.heap.objs.size == sysModules) = false := beq_eq_false_iff_ne.mpr (Nat.ne_of_gt I.big)
    have hkl : kvs.length = ps.length := by rw [Paired.length rel, hl]
    have hlen : (mergeT [] kvs).length ≤ sizeLine := by
      refine Nat.le_trans (mergeT_len kvs []) ?_
      rw [List.length_nil, Nat.zero_add, hkl]
      exact hz
    obtain ⟨o', es, ep, g1, g2, g3, g4, _, g6⟩ := hd'
    have fr := I.hok.fresh (Nat.le_refl s.heap.objs.size)
    exact ⟨.ref s.heap.objs.size, upd H s.heap.objs.size (.dT (mergeT [] kvs)), I.laid (t' := tk) (fun b o e => k b o (fun z => nomatch z) e) (Nat.le_refl _) (show ObjOk X.prog X.w _ _ _ (.dT (mergeT [] kvs)) from ⟨hlen, hm, storedAllH [] xs, (KT.merge rel .nil).keeps fun b ys e => by rw [upd_ne (ne_of_none e fr)]; exact e, o', es, ep, g1, g2, g3, g4, g6⟩), rfl, q _ fr⟩
end
end L2
set_option pp.maxSteps 1500
namespace L2
open PySem PySem.Spec PyProof.Rows PySem.GX PySem.W L2.DX
/-! list(d.items()) of a dict with tuple keys -/
/-- the pairs tracked at their addresses: xs tells the keys' own addresses -/
def putTT : Hp → List Addr → List (Addr × V) → Hp
  | H, a :: as, p :: kvs => putTT (upd H a (.tup [.ref p.1, p.2])) as kvs
  | H, _, _ => H
theorem putTT_off {b : Addr} : ∀ (as : List Addr) (kvs : List (Addr × V)) (H : Hp), b ∉ as → putTT H as kvs b = H b
  | [], _, _, _ => rfl
  | _ :: _, [], _, _ => rfl
  | a :: as, p :: kvs, H, h => by
    show putTT (upd H a (.tup [.ref p.1, p.2])) as kvs b = H b
    rw [putTT_off as kvs _ (fun z => h (List.mem_cons_of_mem _ z)), upd_ne (fun z => h (by rw [z]; exact List.mem_cons_self))]
theorem putTT_at : ∀ (as : List Addr) (kvs : List (Addr × V)) (H : Hp), as.length = kvs.length → as.Nodup → Paired (fun (t : Addr) (p : Addr × V) => putTT H as kvs t = some (.tup [.ref p.1, p.2])) as kvs
  | [], [], _, _, _ => .nil
  | [], _ :: _, _, h, _ => by cases h
  | _ :: _, [], _, h, _ => by cases h
  | a :: as, p :: kvs, H, h, hn => by
    have hn' := List.nodup_cons.mp hn
    have ih := putTT_at as kvs (upd H a (.tup [.ref p.1, p.2])) (Nat.succ.inj h) hn'.2
    refine .cons ?_ ih
    show putTT (upd H a (.tup [.ref p.1, p.2])) as kvs a = some (.tup [.ref p.1, p.2])
    rw [putTT_off as kvs _ hn'.1, upd_same]
theorem paired_ofIx {α β : Type} {F : α → β → Prop} : ∀ {xs : List α} {ys : List β}, xs.length = ys.length → (∀ (j : Nat) (x : α) (y : β), xs[j]? = some x → ys[j]? = some y → F x y) → Paired F xs ys
  | [], [], _, _ => .nil
  | [], _ :: _, h, _ => by cases h
  | _ :: _, [], h, _ => by cases h
  | x :: xs, y :: ys, h, k => .cons (k 0 x y rfl rfl) (paired_ofIx (Nat.succ.inj h) fun j a b e1 e2 => k (j + 1) a b e1 e2)
theorem keys_rel {H : Hp} : ∀ {kvs : List (List L2.Key × V)} {xs : List (List L2.Key × Addr × Value)}, Paired (fun (p : List L2.Key × V) (q : List L2.Key × Addr × Value) => p.1 = q.1 ∧ H q.2.1 = some (.tup (p.1.map kV)) ∧ RelV p.2 q.2.2) kvs xs → kvs.map (·.1) = xs.map (·.1)
  | _, _, .nil => rfl
  | _, _, .cons h t => by rw [List.map_cons, List.map_cons, h.1, keys_rel t]
def rListIt : List V → Hp → VK → Prop := fun xs H Q => ∃ (p a : Addr) (kvs : List (List L2.Key × V)), xs = [.ref p] ∧ H p = some (itemsO p a) ∧ H a = some (.dT kvs) ∧
  ∀ (H' : Hp) (l : Addr) (ts : List Addr), Same H H' → H l = none → l ∉ ts → H' l = some (.lst (ts.map V.ref)) → Paired (fun (t : Addr) (q : List L2.Key × V) => ∃ kt, H' t = some (.tup [.ref kt, q.2]) ∧ H' kt = some (.tup (q.1.map kV))) ts kvs → (kvs.map (·.1)).Nodup → Q (.ref l) H'
section
variable {X : Cx}
theorem call_listItT (hc : X.calm = true) : CallR X (.type "list") rListIt := by
  intro pins s σ H xs us Q I r h
  obtain ⟨p, a, kvs, rfl, hp, ha, q⟩ := h
  obtain rfl := Vals.ref1 r
  have view : s.heap.IsItemsView p a := (show ObjOk X.prog X.w H s.heap p (itemsO p a) from I.hok p _ hp).1
  obtain ⟨hz, hd, xs', rel, o, es, ep, ho, hx, hdat, hes, hnd⟩ := I.hok a _ ha
  have lx : kvs.length = xs'.length := Paired.length rel
  have lz : es.size = xs'.length := by rw [← Array.length_toList, hes, List.length_map]
  refine dil_call (es := es) (ep := ep) (I.ok.hd hc) view ⟨o, ho, hx, hdat⟩ (by omega) fun h' tk acc c as hk hS hl hG hacc => ?_
  -- the keys' addresses beside the values
  obtain ⟨ps, hps, hrel⟩ : ∃ ps : List (Addr × V), ps.length = kvs.length ∧ ∀ (j : Nat) (z : Addr × V), ps[j]? = some z → ∃ kv x, kvs[j]? = some kv ∧ xs'[j]? = some x ∧ z = (x.2.1, kv.2) := by
    refine ⟨(xs'.zip kvs).map fun y => (y.1.2.1, y.2.2), by rw [List.length_map, List.length_zip]; omega, fun j z hj => ?_⟩
    rw [List.getElem?_map] at hj
    cases e : (xs'.zip kvs)[j]? with
    | none => rw [e] at hj; cases hj
    | some y =>
      rw [e] at hj
      obtain ⟨e1, e2⟩ := List.getElem?_zip_eq_some.mp e
      exact ⟨_, _, e2, e1, (Option.some.inj hj).symm⟩
  have hSn : s.heap.objs.size ∉ as := fun z => Nat.lt_irrefl _ (hG.above _ z)
  have nd : as.Nodup := List.Pairwise.imp (fun {a b} (h : a < b) => Nat.ne_of_lt h) hG.rise
  have new : ∀ t ∈ as, H t = none := fun t ht => I.hok.fresh (Nat.le_of_lt (hG.above t ht))
  have newS : H s.heap.objs.size = none := I.hok.fresh (Nat.le_refl _)
  have atP := putTT_at as ps (upd H s.heap.objs.size (.lst (as.map V.ref))) (by omega) nd
  have off : ∀ b, b ∉ as → b ≠ s.heap.objs.size → putTT (upd H s.heap.objs.size (.lst (as.map V.ref))) as ps b = H b := fun b h1 h2 => by rw [putTT_off as ps _ h1, upd_ne h2]
  have low : ∀ b o, s.heap.get? b = some o → b ∉ as ∧ b ≠ s.heap.objs.size := fun b o e => ⟨fun z => absurd (Heap.lt_size e) (Nat.not_lt.mpr (Nat.le_of_lt (hG.above b z))), Nat.ne_of_lt (Heap.lt_size e)⟩
  have kp : ∀ b u, H b = some u → (putTT (upd H s.heap.objs.size (.lst (as.map V.ref))) as ps) b = some u := fun b u e => by
    rw [off b (fun z => by rw [new b z] at e; cases e) (fun z => by rw [z, newS] at e; cases e)]
    exact e
  have eS : putTT (upd H s.heap.objs.size (.lst (as.map V.ref))) as ps s.heap.objs.size = some (.lst (as.map V.ref)) := by rw [putTT_off as ps _ hSn, upd_same]
  have relj : ∀ (j : Nat) (kv : List L2.Key × V) (x : List L2.Key × Addr × Value), kvs[j]? = some kv → xs'[j]? = some x → kv.1 = x.1 ∧ H x.2.1 = some (.tup (kv.1.map kV)) ∧ RelV kv.2 x.2.2 := fun j kv x e1 e2 => by
    obtain ⟨y, g1, g2⟩ := LiI.paired_get rel e1
    rw [e2] at g1
    cases g1
    exact g2
  have J : Inv X pins σ (putTT (upd H s.heap.objs.size (.lst (as.map V.ref))) as ps) { s with heap := h', toks := tk } := by
    refine I.call' (ch := []) rfl ⟨fun b o q _ _ _ => hk b o q, fun b o q _ _ _ => ⟨o.slots, hk b o q⟩, fun b o q n _ => ?_, fun b o q _ => ⟨o, hk b o q⟩, fun b xs q => kp b _ q, fun b o u q => kp b _ q, fun b ps q => ⟨#[], by rw [kp b _ q]; simp⟩⟩ (fun b u q => ?_) I.bare fun b z => by simp at z
    · obtain ⟨z1, z2⟩ := low b o q
      rw [off b z1 z2]
      exact n
    · by_cases hb : b ∈ as
      · obtain ⟨j, pk, e1, e2, e3⟩ := LiI.paired_ix atP hb
        rw [e3] at q
        cases q
        obtain ⟨hj, f3⟩ := hG.pairs j b e1
        obtain ⟨kv, x, g1, g2, rfl⟩ := hrel j pk e2
        obtain ⟨r1, r2, r3⟩ := relj j kv x g1 g2
        have ee : es[j] = entryOfKey (tupleKind (mixKind X.prog X.w)) x := by
          have : es.toList[j]? = some (entryOfKey (tupleKind (mixKind X.prog X.w)) x) := by rw [hes, List.getElem?_map, g2]; rfl
          rw [Array.getElem?_toList, Array.getElem?_eq_getElem hj] at this
          exact Option.some.inj this
        refine ⟨by show 2 ≤ sizeLine; decide, [es[j].key, es[j].val], .cons ?_ (.cons ?_ .nil), ⟨_, f3, rfl, _, rfl⟩⟩
        · rw [ee]
          rfl
        · rw [ee]
          exact r3
      · by_cases hb2 : b = s.heap.objs.size
        · rw [hb2] at q ⊢
          rw [eS] at q
          cases q
          refine ⟨by rw [List.length_map]; omega, acc.toList, c, by rw [hacc]; exact LiI.vals_refs as, ?_⟩
          rw [Array.toArray_toList]
          exact hS
        · rw [off b hb hb2] at q
          exact (I.hok b u q).stay (fun d v _ y => hk d v y) (fun d y => kp d _ y) fun d xs y => kp d _ y
  have ek : kvs.map (·.1) = xs'.map (·.1) := keys_rel rel
  refine ⟨.ref _, _, J, rfl, q _ _ as (fun b o e => kp b o e) newS hSn eS ?_ (by rw [ek]; exact hnd)⟩
  refine paired_ofIx (by omega) fun j t kv e1 e2 => ?_
  obtain ⟨z, hz1, hz2⟩ := LiI.paired_get atP e1
  obtain ⟨kv', x, g1, g2, rfl⟩ := hrel j z hz1
  rw [e2] at g1
  cases g1
  exact ⟨x.2.1, hz2, kp _ _ (relj j kv x e2 g2).2.1⟩
theorem mergeT_new : ∀ (kvs acc : List (List L2.Key × V)), ((acc ++ kvs).map (·.1)).Nodup → mergeT acc kvs = acc ++ kvs
  | [], acc, _ => by rw [List.append_nil]; rfl
  | p :: t, acc, h => by
    have no : valV acc p.1 = none := by
      cases e : valV acc p.1 with
      | none => rfl
      | some v =>
        exfalso
        have hm : p.1 ∈ acc.map (·.1) := by
          clear h
          induction acc with
          | nil => cases e
          | cons a r ih =>
            by_cases q : a.1 = p.1
            · rw [List.map_cons, q]
              exact List.mem_cons_self
            · rw [show a :: r = (a.1, a.2) :: r from rfl, valV_neg q] at e
              exact List.mem_cons_of_mem _ (ih e)
        rw [List.map_append] at h
        exact (List.nodup_append.mp h).2.2 _ hm _ (List.mem_map.mpr ⟨p, List.mem_cons_self, rfl⟩) rfl
    show mergeT (putK acc p.1 p.2) t = _
    rw [putK_new _ no, mergeT_new t _ (by rw [List.append_assoc]; exact h), List.append_assoc]
    rfl
theorem mergeT_nil {kvs : List (List L2.Key × V)} (h : (kvs.map (·.1)).Nodup) : mergeT [] kvs = kvs := mergeT_new kvs [] h
end
end L2
set_option pp.maxSteps 1500
namespace My
open PySem PySem.Spec PyProof.Rows L2 PySem.GX L2H LamX L2.DX
/-! a rule with some changes -/
def BxZ (H : Hp) (q : Addr) (p : Parts) : Prop := ∃ lw lf g kvs, H q = some (.tup [.str p.sg, .ref lw, .ref lf, .ref g]) ∧ H lw = some (.lst (p.ms.map V.str)) ∧ H lf = some (.lst (p.gs.map V.str)) ∧ H g = some (.dT kvs) ∧ SameG p kvs ∧ kvs.length ≤ 100
theorem BxZ.toF {H : Hp} {q : Addr} {p : Parts} (h : BxZ H q p) : BxF H q p p.ms := by
  obtain ⟨lw, lf, g, kvs, a, b, c, d, e, _⟩ := h
  exact ⟨lw, lf, g, kvs, a, b, c, d, e⟩
theorem BxZ.same {H H' : Hp} {q : Addr} {p : Parts} (h : BxZ H q p) (s : Same H H') : BxZ H' q p := by
  obtain ⟨lw, lf, g, kvs, a, b, c, d, e, z⟩ := h
  exact ⟨lw, lf, g, kvs, s _ _ a, s _ _ b, s _ _ c, s _ _ d, e, z⟩
theorem SameG.step {p : Parts} (ok : PartsOk p) {kvs : List (List Key × V)} (h : SameG p kvs) : ∀ {ch : Chg}, ChgOk p ch → SameG (applyC p ch) (match ch with | .turn _ => kvs | .lead m x g => putK kvs (kT m x) (.str g))
  | .turn m, _ => fun t ht c hc => by
    have f : Fine p.sg p.ms (turnP p m).gs (goalsD p.rs) := fine_of ok List.filter_sublist
    have e1 := led_is f ht hc
    have e2 := same_goals ok t ht c hc
    rw [e2] at e1
    have e3 : ledL (turnP p m) t c = ledL p t c := by
      have := Option.some.inj e1
      injection this with this
      exact this.symm
    show valV kvs (kT t c) = some (.str (ledL (turnP p m) t c))
    rw [e3]
    exact h t ht c hc
  | .lead m x g, hc => fun t ht c hcc => by
    have f := lead_fine ok h (m := m) (x := x) hc.2.2
    have e1 := led_is f ht hcc
    have e2 : partsF p.sg p.ms p.gs (putK kvs (kT m x) (.str g)) = leadP p m x g := by
      unfold partsF leadP
      rw [lead_rs h]
    rw [e2] at e1
    exact e1
def spWithZ : Sp := fun vs H Q _ => ∃ (q G lt : Addr) (p : Parts) (zs : List ChA) (lot : List Nat), vs = [.ref q, .ref G, .ref lt] ∧ BxZ H q p ∧ PartsOk p ∧ p.ms.length ≤ 5 ∧ H G = some (.tup (chR zs)) ∧ ChH H zs ∧ (∀ z ∈ zs, ChgOk p z.2) ∧ H lt = some (.tup (itL lot)) ∧ (∀ k ∈ lot, k < zs.length) ∧ lot.length ≤ 6 ∧
  ∀ (q' : Addr) (H' : Hp), Same H H' → BxF H' q' (changesP p (chosenC (zs.map (·.2)) lot)) p.ms → Q (.ref q') H'
def tKeyW : TE := fun σ H Q => ∃ (c : Addr) (ch : Chg), σ[6]? = some (some (.ref c)) ∧ H c = some (.tup ch.vs) ∧ ∀ q H', Same H H' → H' q = some (.tup (ch.key.map kV)) → Q (.ref q) H'
theorem op_in_seqW {X : Cx} {K : PySem.W.Frag} (h : X.K = K) : OpR X (compareOp .In) (rIn K false) := by subst h; exact op_in_seq
section
variable {P : Program} {w : World} {K : PySem.W.Frag} {mg : Str → Option Value} {base : Heap}
abbrev nWi : List Str := ["_law_box_here", "_law_changes_here", "_law_lot", "_law_goals", "_law_fine", "_law_at", "_law_thing", "_law_here"]
theorem scWi : FnScope nWi ["_law_box_here", "_law_changes_here", "_law_lot"] (defScope sWithL) := ⟨rfl, rfl, rfl, by decide +kernel, rfl, by decide +kernel, by decide +kernel⟩
theorem ok_withZ {f : Addr} {fd : FuncData} (F : Fun K "_law_with" "_law_with" sWithL f fd) (hDi : mg "dict" = none) (hLi : mg "list" = none) (hL : mg "len" = none) : FnOk P w K mg base CX0 1 f fd ["_law_box_here", "_law_changes_here", "_law_lot"] spWithZ := by
  refine F.ok scWi (fun vs H Q E h => ?_) (fun cdv A outer s H vs Q E hr h => ?_)
  · obtain ⟨q, G, lt, p, zs, lot, rfl, _⟩ := h
    rfl
  · obtain ⟨q, G, lt, p, zs, lot, rfl, hB, ok, n5, eG, hZ, hin, elt, hlt, l6, k⟩ := h
    have hu := hu_of hr
    have hu2 : (A.deeper (envOfC "_law_with" (defScope sWithL) s.heap.objs.size f cdv)).units + 2 < cLine := by have := hr.units; omega
    refine ⟨_, pss_cons (ps_asg (pe_tup (pa_cons (pe_callTy (call_dictT rfl hu2) (by rfl) hDi (by decide +kernel) (pa_cons (pe_callTy (call_listItT rfl) (by rfl) hLi (by decide +kernel) (pa_cons (pe_bm0 PySem.F.plainAttrs_dict PySem.F.slot_dict_items PySem.F.type_dict_items mt_itemsT (pe_ix ix_tup (pv 0) pe_int (fun _ _ => rfl))) pa_nil)) pa_nil))
          (pa_cons (pe_callTy call_list_of (by rfl) hLi (by decide +kernel) (pa_cons (pe_ix ix_tup (pv 0) pe_int (fun _ _ => rfl)) pa_nil)) pa_nil))) (pg_tup (by rfl) (pgs_cons (pg_name (i := 3) scWi.nd rfl (Or.inl rfl)) (pgs_cons (pg_name (i := 4) scWi.nd rfl (Or.inr rfl)) pgs_nil))))
      (pss_cons (ps_for PassesOwn.never rfl (pi_tup (pv 2)) (pg_name (i := 5) scWi.nd rfl (Or.inl rfl))
        (pss_cons (ps_set (i := 6) scWi.nd rfl (Or.inr rfl) (pe_ix ix_tup (pv 1) (pv 5) (fun _ _ => rfl)))
        (pss_one (ps_if (pt_cmpR op_eq (pe_callB call_len_seq (by rfl) hL PySem.boot_len (pa_cons (pv 6) pa_nil)) pe_int (nomark _))
          (pss_one (ps_dput hu (pv 3) (PE_imp (t' := tKeyW) (pe_slice sl_tupA (pv 6) po_none (po_some pe_int)) ?iK) (pe_ix ix_tup (pv 6) pe_int (fun _ _ => rfl)) rfl))
          (pss_one (ps_set (i := 4) scWi.nd rfl (Or.inr rfl) (pe_lc (own := [("_law_here", 7)]) (g := gName 7) rfl scWi.nd (pi_list (pe_ix ix_tup (pv 0) pe_int (fun _ _ => rfl))) (blkOk_by (N := nWi) (sc := defScope sWithL) (by decide +kernel)) (fun _ _ _ _ _ => pg_name (i := 7) scWi.nd rfl (Or.inl rfl))
            (fun _ _ _ _ _ => pts_one (pt_cmpR op_ne (pe_cmpR (op_in_seqW (K := K) rfl) (pv 7) (pv 4) (by rfl)) (pe_cmpR op_eq (pv 7) (pe_ix (ix_tupK (K := K) rfl) (pv 6) pe_int (fun _ _ => rfl)) (nomark _)) (nomark _))) (fun _ _ _ _ _ => pv 7))))))))
      (pss_one (ps_ret (pe_tup (pa_cons (pe_ix ix_tup (pv 0) pe_int (fun _ _ => rfl)) (pa_cons (pe_ix ix_tup (pv 0) pe_int (fun _ _ => rfl)) (pa_cons (pv 4) (pa_cons (pv 3) pa_nil)))))))), ?_⟩
    case iK =>
      rintro σ H Q ⟨c, ch, e9, ec, q⟩
      cases ch with
      | turn m => exact ⟨_, e9, _, rfl, c, _, rfl, SqT.of ec, fun _ => q c H (Same.refl _) ec, fun z => absurd ⟨rfl, rfl⟩ z⟩
      | lead m x g => exact ⟨_, e9, _, rfl, c, _, rfl, SqT.of ec, fun z => absurd z.2 (by show ¬ (2 : Nat) = 3; decide), fun _ t ht => q t _ (same_new ht) upd_same⟩
    obtain ⟨lw, lf, g, kvs, eq, ew, ef, ed, sg0, zk⟩ := id hB
    refine ⟨_, rfl, q, _, _, V.ref g, rfl, rfl, SqT.of eq, atI_nat (j := 3) rfl, .inr (.inr (.inl ⟨rfl, .inr ⟨_, ed⟩⟩)), g, kvs, rfl, rfl, ed, fun v hv => ?_⟩
    have s1 := same_new (o := itemsO v g) hv
    refine ⟨v, g, kvs, rfl, upd_same, s1 _ _ ed, fun H2 l2 ts s2 _ _ el2 hp nd => ?_⟩
    have s12 := s1.trans s2
    clear hv
    refine ⟨l2, ts, kvs, rfl, SqL.of el2, paired_ofIx (Paired.length hp) (fun j x y e1 e2 => ?_), fun Dg hDg => ?_⟩
    · obtain ⟨y', e3, kt, e4, e5⟩ := LiI.paired_get hp e1
      rw [e2] at e3
      cases e3
      exact ⟨kt, SqT.of e4, e5⟩
    rw [mergeT_nil nd]
    have s3 := s12.trans (same_new (o := .dT kvs) hDg)
    have eDg : upd H2 Dg (.dT kvs) Dg = some (.dT kvs) := upd_same
    have nDg : ∀ b o, H b = some o → b ≠ Dg := fun b o e => ne_of_none (s12 _ _ e) hDg
    generalize upd H2 Dg (.dT kvs) = H3 at s3 eDg ⊢
    refine ⟨_, rfl, q, _, _, V.ref lf, rfl, rfl, SqT.of (s3 _ _ eq), atI_nat (j := 2) rfl, lf, _, rfl, .inl (SqL.of (s3 _ _ ef)), fun Lf hLf => ⟨by show 2 ≤ sizeLine; decide, fun t0 ht0 => ⟨t0, _, rfl, SqT.of upd_same, rfl, _, _, rfl, _, _, rfl, rfl, ?_⟩⟩⟩
    have s4 := s3.trans ((same_new (o := .lst (p.gs.map V.str)) hLf).trans (same_new (o := .tup [.ref Dg, .ref Lf]) ht0))
    have eDg4 := keep1 (o := .tup [.ref Dg, .ref Lf]) (keep1 (o := .lst (p.gs.map V.str)) eDg hLf) ht0
    have eLf4 := keep1 (o := .tup [.ref Dg, .ref Lf]) (upd_same (a := Lf) (H := H3) (o := .lst (p.gs.map V.str))) ht0
    generalize upd (upd H3 Lf (.lst (p.gs.map V.str))) t0 (.tup [.ref Dg, .ref Lf]) = H4 at s4 eDg4 eLf4 ⊢
    clear hLf ht0 eDg s3 hDg s12 s1 s2 el2 hp
    have chs : ∀ (i : Nat) (kk : Nat), lot[i]? = some kk → ∃ z, zs[kk]? = some z ∧ (zs.map (·.2)).getD kk (.turn Str.empty) = z.2 ∧ z ∈ zs := fun i kk e => by
      have hk := hlt kk (List.mem_of_getElem? e)
      have hz : zs[kk]? = some zs[kk] := List.getElem?_eq_getElem hk
      refine ⟨_, hz, ?_, List.getElem_mem hk⟩
      rw [List.getD_eq_getElem?_getD, List.getElem?_map, hz]
      rfl
    have cin : ∀ (i : Nat), ∀ c ∈ chosenC (zs.map (·.2)) (lot.take i), ChgOk p c := fun i c hc => by
      obtain ⟨kk, hk, rfl⟩ := List.mem_map.mp hc
      obtain ⟨j, hj⟩ := List.mem_iff_getElem?.mp (List.mem_of_mem_take hk)
      obtain ⟨z, _, e2, e3⟩ := chs j kk hj
      show ChgOk p ((zs.map (·.2)).getD kk (.turn Str.empty))
      rw [e2]
      exact hin z e3
    refine ⟨_, rfl, lt, rfl, ⟨_, SqT.of (s4 _ _ elt)⟩, ?_⟩
    have wk := walkT (K := K) (a := lt) lot fun n : Nat => V.int (n : Int)
    refine for_it wk (fun i σ H' => ∃ (Lf : Addr) (kvs' : List (List Key × V)) (v5 v6 v7 : Option V), σ = [some (.ref q), some (.ref G), some (.ref lt), some (.ref Dg), some (.ref Lf), v5, v6, v7] ∧ KpM Dg H4 H' ∧ H' Dg = some (.dT kvs') ∧ SameG (changesP p (chosenC (zs.map (·.2)) (lot.take i))) kvs' ∧ kvs'.length ≤ 100 + i ∧ H' Lf = some (.lst ((changesP p (chosenC (zs.map (·.2)) (lot.take i))).gs.map V.str)))
      ⟨Lf, kvs, none, none, none, rfl, KpM.refl _, eDg4, sg0, zk, eLf4⟩ (fun i σ H' _ h => ?_) (fun i y σ H' H'' hi h hy => ?_) (fun σ H' h => ?_)
    · obtain ⟨Lf, kvs', v5, v6, v7, rfl, ks, _⟩ := h
      exact SqT.of (ks _ _ (nDg _ _ elt) (s4 _ _ elt))
    · obtain ⟨rfl, hy⟩ := hy
      obtain ⟨Lf, kvs', v5, v6, v7, rfl, ks, eD, hsg, zl, eL⟩ := h
      have hlk : lot[i]? = some lot[i] := List.getElem?_eq_getElem hi
      obtain rfl := map_get hlk hy
      obtain ⟨z, hz, hzd, hzm⟩ := chs i _ hlk
      have ecs : chosenC (zs.map (·.2)) (lot.take (i + 1)) = chosenC (zs.map (·.2)) (lot.take i) ++ [z.2] := by
        unfold chosenC
        rw [List.take_add_one, hlk, List.map_append]
        show _ ++ [(zs.map (·.2)).getD lot[i] (.turn Str.empty)] = _
        rw [hzd]
      rw [ecs, changes_snoc]
      obtain ⟨okc, ems, esg⟩ := changes_ok ok _ (cin i)
      have okz : ChgOk (changesP p (chosenC (zs.map (·.2)) (lot.take i))) z.2 := (hin z hzm).of ems esg
      generalize changesP p (chosenC (zs.map (·.2)) (lot.take i)) = p' at hsg eL okc ems esg okz ⊢
      have st : ∀ {b : Addr} {o : HO}, H b = some o → H'' b = some o := fun {b o} e => ks _ _ (nDg _ _ e) (s4 _ _ e)
      have eG' := st eG
      have ez := st (hZ z hzm)
      have hzat : atI (chR zs) ((lot[i] : Nat) : Int) = some (.ref z.1) := atI_nat (by unfold chR; rw [List.getElem?_map, hz]; rfl)
      refine ⟨_, rfl, _, rfl, G, _, _, V.ref z.1, rfl, rfl, SqT.of eG', hzat, ?_⟩
      generalize z.2 = ch at ez okz ⊢
      cases ch with
      | turn m =>
        refine ⟨_, rfl, z.1, _, rfl, .inr (SqT.of ez), rfl, _, rfl, iteF ?_⟩
        have eq' := st eq
        have ew' := st ew
        refine ⟨_, rfl, q, _, _, V.ref lw, rfl, rfl, SqT.of eq', atI_nat (j := 1) rfl, lw, rfl, ⟨_, SqL.of ew'⟩, fun D2 hD2 => ?_⟩
        refine lcG p.ms (fun x => if decide (decide (x ∈ p'.gs) ≠ decide (x = m)) = true then some (V.str x) else none) (walk_listL (K := K) (a := lw) p.ms V.str) (by omega) hD2 (yat_same _) (fun H6 s => SqL.of (s _ _ ew')) (fun j x y H6 H7 k1 hx sj hy k2 => ?_) (fun H5 s5 eL5 => ?_)
        · obtain ⟨rfl, hy⟩ := hy
          obtain rfl := map_get hx hy
          have kk := k2 _ (Same.refl _)
          refine ⟨rfl, _, rfl, _, rfl, Lf, _, rfl, .inl (SqL.of (sj _ _ eL)), rfl, flat_strs _, ?_⟩
          refine ⟨_, rfl, _, rfl, z.1, _, _, V.str m, rfl, rfl, SqT.of (sj _ _ ez), atI_nat (j := 0) rfl, rfl, rfl, _, rfl, ?_⟩
          have e : (!decide (V.bl (inV (.str x) (p'.gs.map V.str)) = V.bl (decide (V.str x = V.str m)))) = decide (decide (x ∈ p'.gs) ≠ decide (x = m)) := by
            have e1 : decide (V.str x = V.str m) = decide (x = m) := by
              rw [Bool.eq_iff_iff, decide_eq_true_eq, decide_eq_true_eq]
              exact ⟨fun h => by injection h, fun h => by rw [h]⟩
            have e2 : ∀ c d : Bool, (!decide (V.bl c = V.bl d)) = decide (c ≠ d) := by decide
            rw [e1, in_strs, e2]
          show if (!decide (V.bl (inV (.str x) (p'.gs.map V.str)) = V.bl (decide (V.str x = V.str m)))) = true then _ else _
          rw [e]
          refine ite2 (fun c => ?_) (fun c => ?_)
          · rw [if_pos c] at kk
            exact ⟨_, rfl, kk⟩
          · rw [if_neg c] at kk
            exact kk
        · rw [fm_filter] at eL5
          have eD5 := s5 _ _ eD
          refine ⟨D2, kvs', _, _, _, rfl, ks.same s5, eD5, SameG.step okc hsg okz, by omega, ?_⟩
          rw [eL5]
          show some (HO.lst _) = some (HO.lst ((p'.ms.filter fun x => decide (decide (x ∈ p'.gs) ≠ decide (x = m))).map V.str))
          rw [ems]
      | lead m x gg =>
        refine ⟨_, rfl, z.1, _, rfl, .inr (SqT.of ez), rfl, _, rfl, iteT ?_⟩
        refine ⟨_, rfl, z.1, _, _, V.str gg, rfl, rfl, SqT.of ez, atI_nat (j := 2) rfl, _, rfl, z.1, .lead m x gg, rfl, ez, fun kq H6 s6 ekq => ?_⟩
        have eD6 := s6 _ _ eD
        have nLD : Lf ≠ Dg := fun q => by rw [q, eD] at eL; cases eL
        refine ⟨Dg, _, rfl, DPut.t (k := (Chg.lead m x gg).key) eD6 ekq (by rw [sizeLine_eq]; omega), Lf, _, _, _, _, rfl, (ks.same s6).upd, upd_same, SameG.step okc hsg okz, ?_, ?_⟩
        · have := length_putK kvs' (kT m x) (.str gg)
          show (putK kvs' (kT m x) (.str gg)).length ≤ _
          omega
        · rw [upd_ne nLD]
          exact s6 _ _ eL
    · obtain ⟨Lf, kvs', v5, v6, v7, rfl, ks, eD, hsg, zl, eL⟩ := h
      rw [List.take_length] at hsg eL
      obtain ⟨okc, ems, esg⟩ := changes_ok ok (chosenC (zs.map (·.2)) lot) (by have := cin lot.length; rwa [List.take_length] at this)
      have sF : Same H H' := fun b o e => ks _ _ (nDg _ _ e) (s4 _ _ e)
      refine ⟨_, rfl, q, _, _, V.str p.sg, rfl, rfl, SqT.of (sF _ _ eq), atI_nat (j := 0) rfl, _, rfl, q, _, _, V.ref lw, rfl, rfl, SqT.of (sF _ _ eq), atI_nat (j := 1) rfl, _, rfl, _, rfl, by show 4 ≤ sizeLine; decide, fun t ht => ?_⟩
      refine k t _ (sF.trans (same_new ht)) ⟨lw, Lf, Dg, kvs', by rw [esg]; exact upd_same, keep1 (sF _ _ ew) ht, keep1 eL ht, keep1 eD ht, hsg⟩
end
end My
set_option pp.maxSteps 1500
namespace My
open PySem PySem.Spec PyProof.Rows L2 PySem.GX L2H LamX
/-! the least lots -/
def leastStep (hf : List Nat → Bool) (found : List (List Nat)) (lot : List Nat) : List (List Nat) := if (hf lot && !(found.any fun l => partB l lot)) = true then found ++ [lot] else found
def leastZ (hf : List Nat → Bool) (n : Nat) : List (List Nat) := (lotsL n).foldl (leastStep hf) []
def lotK (lot : List Nat) : List Key := lot.map fun k : Nat => Sum.inl (k : Int)
theorem lotK_it (lot : List Nat) : (lotK lot).map kV = itL lot := by
  unfold lotK itL
  rw [List.map_map]
  rfl
theorem parts_any (lot : List Nat) : ∀ fz : List (Addr × List Nat), (fz.filterMap fun x => if partB x.2 lot = true then some (V.ref x.1) else none).isEmpty = !((fz.map (·.2)).any fun l => partB l lot)
  | [] => rfl
  | a :: t => by
    rw [List.filterMap_cons, List.map_cons, List.any_cons]
    by_cases h : partB a.2 lot = true
    · rw [if_pos h, h]
      rfl
    · rw [if_neg h, show partB a.2 lot = false by simpa using h, Bool.false_or]
      exact parts_any lot t
theorem least_t {hf : List Nat → Bool} {found : List (List Nat)} {lot : List Nat} (h1 : hf lot = true) (h2 : (!(found.any fun l => partB l lot)) = true) : leastStep hf found lot = found ++ [lot] := by
  unfold leastStep
  rw [h1, Bool.true_and, if_pos h2]
theorem least_f {hf : List Nat → Bool} {found : List (List Nat)} {lot : List Nat} (h2 : ¬ (!(found.any fun l => partB l lot)) = true) : leastStep hf found lot = found := by
  unfold leastStep
  rw [if_neg]
  intro h
  rw [Bool.and_eq_true] at h
  exact h2 h.2
theorem least_n {hf : List Nat → Bool} {found : List (List Nat)} {lot : List Nat} (h1 : hf lot = false) : leastStep hf found lot = found := by
  unfold leastStep
  rw [h1, Bool.false_and, if_neg (by decide)]
theorem tabs_kpm {T : List (Addr × Str)} {H1 H' : Hp} {fl : Addr} {xs : List V} (t : Tabs T H1) (e : H1 fl = some (.lst xs)) (k : KpM fl H1 H') : Tabs T H' := fun z hz => by
  obtain ⟨ps, h1, h2, h3⟩ := t z hz
  have go : ∀ {a : Addr} {o : HO}, H1 a = some o → (∀ xs, o ≠ .lst xs) → H' a = some o := fun {a o} e2 n => k a o (fun q => n xs (by rw [q, e] at e2; exact (Option.some.inj e2).symm)) e2
  refine ⟨ps, go h1 (fun _ z => by cases z), h2, fun pos cv hc => ?_⟩
  obtain ⟨c, e1, e2⟩ := h3 pos cv hc
  exact ⟨c, e1, go e2 (fun _ z => by cases z)⟩
def lcScopeL : Scope := { kind := .function, names := [(".0", .local), ("_law_small", .local), ("_law_lot", .cell)], isGenerator := false, isCoroutine := false }
theorem op_eqNilZ {X : Cx} {K : PySem.W.Frag} (h : X.K = K) (hu : X.A.units < cLine) : OpR X (compareOp .Eq) (rEqNil K false) := by subst h; exact op_eqNil hu
theorem op_notInZ {X : Cx} {K : PySem.W.Frag} (h : X.K = K) : OpR X (compareOp .NotIn) (rIn K true) := by subst h; exact op_notIn_seq
theorem pi_tupZ {X : Cx} {K : PySem.W.Frag} {tg l : Expr} {tl : TE} (h : X.K = K) (hl : PE X l tl) : PI X tg l (iTup K tl) := by
  subst h
  exact pi_tup hl
def spLeastZ (T : List (Addr × Str)) : Sp := fun vs H Q _ => ∃ (n : Nat) (D : Addr) (kvs : List (List Key × V)) (hf : List Nat → Bool), vs = [.int (n : Int), .ref D] ∧ n ≤ 6 ∧ Tabs T H ∧ H D = some (.dT kvs) ∧ (∀ lot ∈ lotsL n, valV kvs (lotK lot) = some (.bl (hf lot))) ∧
  ∀ (t : Addr) (fz : List (Addr × List Nat)) (H' : Hp), ExtN H H' → Tabs T H' → H' t = some (.tup (fz.map fun z => V.ref z.1)) → (∀ z ∈ fz, H' z.1 = some (.tup (itL z.2))) → fz.map (·.2) = leastZ hf n → Q (.ref t) H'
section
variable {P : Program} {w : World} {K : PySem.W.Frag} {mg : Str → Option Value} {base : Heap}
abbrev nLe : List Str := ["_law_size", "_law_holds_here", "_law_found", "_law_lot", "_law_parts", "_law_small", "_law_at"]
theorem scLe : FnScope nLe ["_law_size", "_law_holds_here"] (defScope sLeastL) := ⟨rfl, rfl, rfl, by decide +kernel, rfl, by decide +kernel, by decide +kernel⟩
theorem ok_leastZ {f : Addr} {fd : FuncData} {T : List (Addr × Str)} (F : Fun K "_law_least_lots" "_law_least_lots" sLeastL f fd) (hLo : Hv P w K mg base 1 "_law_lots" ["_law_size"] (spLotsT T)) (hTu : mg "tuple" = none) : FnOk P w K mg base CX0 2 f fd ["_law_size", "_law_holds_here"] (spLeastZ T) := by
  refine F.ok scLe (fun vs H Q E h => ?_) (fun cdv A outer s H vs Q E hr h => ?_)
  · obtain ⟨n, D, kvs, hf, rfl, _⟩ := h
    rfl
  · obtain ⟨n, D, kvs, hf, rfl, hn, hT, eD, hv, k⟩ := h
    have hu := hu_of hr
    have hu0 : (A.deeper (envOfC "_law_least_lots" (defScope sLeastL) s.heap.objs.size f cdv)).units < cLine := by omega
    refine ⟨_, pss_cons (ps_set (i := 2) scLe.nd rfl (Or.inl rfl) (pe_lst pa_nil))
      (pss_cons (ps_for PassesOwn.never rfl (pi_list (pe_cl hLo hr rfl pass0 (pa_cons (pv 0) pa_nil))) (pg_name (i := 3) scLe.nd rfl (Or.inr rfl))
        (pss_cons (ps_setLc (i := 4) (own := [("_law_small", 5)]) (g := gName 5) (by rfl) scLe.nd rfl rfl (sw_true rfl rfl rfl (by decide +kernel)) (pi_list (pv 2)) (blkOk_by (N := nLe) (sc := defScope sLeastL) (by decide +kernel)) (fun _ _ _ _ _ => pg_name (i := 5) scLe.nd rfl (Or.inl rfl))
          (fun _ _ _ _ _ => pts_one (pt_cmpR (op_eqNilZ (K := K) rfl hu0) (pe_lc (own := [("_law_at", 6)]) (g := gName 6) rfl scLe.nd (pi_tupZ (K := K) rfl (pv 5)) (blkOk_by (N := nLe) (sc := lcScopeL) (by decide +kernel)) (fun _ _ _ _ _ => pg_name (i := 6) scLe.nd rfl (Or.inl rfl))
            (fun _ _ _ _ _ => pts_one (pt_cmpR (op_notInZ (K := K) rfl) (pv 6) (pv 3) (by rfl))) (fun _ _ _ _ _ => pv 6)) (pe_lst pa_nil) (nomark _)))
          (fun _ _ _ _ _ => pv 5))
        (pss_one (ps_if (PW.pt (pw_and (pt_val (pe_dget hu (pv 1) (pv 3) (fun _ _ => rfl))) (pw_and1 (pt_cmpR (op_eqNil hu0) (pv 4) (pe_lst pa_nil) (nomark _)))))
          (pss_one (ps_expr (pe_bm PySem.F.plainAttrs_list PySem.F.slot_list_append PySem.F.type_list_append mt_append (pv 2) (pa_cons (pv 3) pa_nil)))) pss_nil))))
      (pss_one (ps_ret (pe_callTy call_tuple_of (by rfl) hTu (by decide +kernel) (pa_cons (pv 2) pa_nil))))), ?_⟩
    refine ⟨by show 0 ≤ sizeLine; decide, fun fl hfl => ?_⟩
    have sH := same_new (o := .lst []) hfl
    have efl0 := upd_same (a := fl) (H := H) (o := .lst [])
    have nf : ∀ b o, H b = some o → b ≠ fl := fun b o e => ne_of_none e hfl
    generalize upd H fl (.lst []) = H0 at sH efl0 ⊢
    refine ⟨_, rfl, n, rfl, hn, hT.ext sH, fun l zs H1 eN T1 _ el hZ em => ⟨l, rfl, ⟨_, SqL.of el⟩, ?_⟩⟩
    have efl1 := eN _ _ efl0 (fun _ z => by cases z)
    have eD1 := eN _ _ (sH _ _ eD) (fun _ z => by cases z)
    have lz : zs.length = (lotsL n).length := by
      have := congrArg List.length em
      rwa [List.length_map, List.length_map] at this
    have len64 := lots_len n hn
    have lin := lots_in n hn
    have hz0 : 0 < zs.length ∨ zs = [] := by
      cases zs with
      | nil => exact .inr rfl
      | cons a t => exact .inl (Nat.succ_pos _)
    have nl : zs ≠ [] → l ≠ fl := fun hne z => by
      rw [z, efl1] at el
      injection el with el
      injection el with el
      cases zs with
      | nil => exact hne rfl
      | cons a t => cases el
    have nlD : D ≠ fl := nf _ _ eD
    refine for_it (walk_listL zs fun z => V.ref z.1) (fun i σ H' => ∃ (fz : List (Addr × List Nat)) (v3 v4 v5 v6 : Option V), σ = [some (.int (n : Int)), some (.ref D), some (.ref fl), v3, v4, v5, v6] ∧ KpM fl H1 H' ∧ H' fl = some (.lst (fz.map fun z => V.ref z.1)) ∧ (∀ z ∈ fz, H' z.1 = some (.tup (itL z.2))) ∧ fz.map (·.2) = ((lotsL n).take i).foldl (leastStep hf) [] ∧ fz.length ≤ i ∧ (i = 0 → H' = H1))
      ⟨[], none, none, none, none, rfl, KpM.refl _, efl1, (fun z hz => by cases hz), rfl, Nat.le_refl _, fun _ => rfl⟩ (fun i σ H' hle h => ?_) (fun i y σ H' H'' hi h hy => ?_) (fun σ H' h => ?_)
    · obtain ⟨fz, v3, v4, v5, v6, rfl, ks, _, _, _, _, h0⟩ := h
      rcases hz0 with hz | hz
      · exact SqL.of (ks _ _ (nl (fun z => by rw [z] at hz; cases hz)) el)
      · have : i = 0 := by rw [hz] at hle; exact Nat.le_zero.mp hle
        rw [h0 this]
        exact SqL.of el
    · obtain ⟨rfl, hy⟩ := hy
      obtain ⟨fz, v3, v4, v5, v6, rfl, ks, ef, hF, efz, lfz, _⟩ := h
      have hz : zs[i]? = some zs[i] := List.getElem?_eq_getElem hi
      obtain rfl := map_get hz hy
      have hg : (lotsL n)[i]? = some ((lotsL n)[i]'(by omega)) := List.getElem?_eq_getElem (by omega)
      have ezs : (zs[i]).2 = itL ((lotsL n)[i]'(by omega)) := by
        have := congrArg (fun q : List (List V) => q[i]?) em
        simp only [List.getElem?_map, hz, hg, Option.map_some] at this
        exact Option.some.inj this
      have hzm := hZ _ (List.mem_of_getElem? hz)
      rw [ezs] at hzm
      have hlotm := List.mem_of_getElem? hg
      have hlot := lin _ hlotm
      rw [List.take_add_one, hg, List.foldl_append]
      show tSeq _ _ _ _ _
      generalize (lotsL n)[i]'(by omega) = lot at hzm hlot hlotm
      generalize zs[i].1 = z at hzm
      have nz : z ≠ fl := fun q => by rw [q, efl1] at hzm; cases hzm
      have ez := ks _ _ nz hzm
      have eD2 := ks _ _ nlD eD1
      -- the parts
      refine ⟨_, rfl, fl, rfl, ⟨_, SqL.of ef⟩, fun Dp hDp => ?_⟩
      refine lcG fz (fun x => if partB x.2 lot = true then some (.ref x.1) else none) (walk_listL (K := K) (a := fl) fz fun z => V.ref z.1) (by omega) hDp (yat_same _) (fun H6 s => SqL.of (s _ _ ef)) (fun j x y H6 H7 k1 hx sj hy k2 => ?_) (fun H6 s6 e6 => ?_)
      · obtain ⟨rfl, hy⟩ := hy
        obtain rfl := map_get hx hy
        have ex := sj _ _ (hF x (List.mem_of_getElem? hx))
        have ez6 := sj _ _ ez
        refine ⟨rfl, _, rfl, x.1, rfl, ⟨_, SqT.of ex⟩, fun D2 hD2 => ?_⟩
        have zx : x.2.length ≤ 16000000 := by
          have h1 : x.2 ∈ fz.map (·.2) := List.mem_map.mpr ⟨x, List.mem_of_getElem? hx, rfl⟩
          rw [efz] at h1
          have h2 : ∀ (ls acc : List (List Nat)), (∀ a ∈ acc, a.length ≤ 6) → (∀ a ∈ ls, a.length ≤ 6) → ∀ a ∈ ls.foldl (leastStep hf) acc, a.length ≤ 6 := by
            intro ls
            induction ls with
            | nil => exact fun acc h _ => h
            | cons b r ih =>
              intro acc h g
              refine ih _ (fun a ha => ?_) fun a ha => g a (List.mem_cons_of_mem _ ha)
              unfold leastStep at ha
              split at ha
              · rcases List.mem_append.mp ha with m | m
                · exact h a m
                · rw [List.mem_singleton.mp m]
                  exact g b List.mem_cons_self
              · exact h a ha
          have := h2 _ [] (fun a ha => by cases ha) (fun a ha => (lin a (List.mem_of_mem_take ha)).1) _ h1
          omega
        refine lcG x.2 (fun q : Nat => if (!decide (q ∈ lot)) = true then some (V.int (q : Int)) else none) (walkT x.2 fun q : Nat => V.int (q : Int)) zx hD2 (yat_same _) (fun H8 s => SqT.of (s _ _ ex)) (fun j2 x2 y2 H8 H9 k3 hx2 sj2 hy2 k4 => ?_) (fun H8 s8 e8 => ?_)
        · obtain ⟨rfl, hy2⟩ := hy2
          obtain rfl := map_get hx2 hy2
          have kk := k4 _ (Same.refl _)
          refine ⟨rfl, _, rfl, _, rfl, z, _, rfl, .inr (SqT.of (sj2 _ _ ez6)), rfl, flat_ints _, _, rfl, ?_⟩
          show if (!inV (V.int (x2 : Int)) (itL lot)) = true then _ else _
          rw [in_itL]
          refine ite2 (fun c => ?_) (fun c => ?_)
          · rw [if_pos c] at kk
            exact ⟨_, rfl, kk⟩
          · rw [if_neg c] at kk
            exact kk
        · refine ⟨by show 0 ≤ sizeLine; decide, fun l0 h0 => ⟨D2, l0, _, rfl, rfl, SqL.of (keep1 e8 h0), SqL.of upd_same, _, rfl, ?_⟩⟩
          have kk := k2 _ (s8.trans (same_new (o := .lst []) h0))
          have epb : (x.2.filterMap fun q : Nat => if (!decide (q ∈ lot)) = true then some (V.int (q : Int)) else none).isEmpty = partB x.2 lot := by
            unfold partB
            generalize x.2 = xs
            clear zx ex e8
            induction xs with
            | nil => rfl
            | cons a t ih =>
              rw [List.filterMap_cons, List.all_cons]
              by_cases h : a ∈ lot
              · rw [decide_eq_true h, Bool.true_and]
                exact ih
              · rw [decide_eq_false h, Bool.false_and]
                rfl
          rw [epb]
          refine ite2 (fun c => ?_) (fun c => ?_)
          · have c : partB x.2 lot = true := c
            rw [if_pos c] at kk
            exact ⟨_, rfl, kk⟩
          · have c : ¬ partB x.2 lot = true := c
            rw [if_neg c] at kk
            exact kk
      · have ef6 := s6 _ _ ef
        have ez6 := s6 _ _ ez
        have eD6 := s6 _ _ eD2
        have dg := DGet.t (k := lotK lot) eD6 (by rw [lotK_it]; exact ez6)
        rw [hv lot hlotm] at dg
        have step : fz.map (·.2) = ((lotsL n).take i).foldl (leastStep hf) [] := efz
        have eany := parts_any lot fz
        refine ⟨_, rfl, _, rfl, D, V.bl (hf lot), rfl, dg, _, rfl, ?_⟩
        cases hh : hf lot with
        | false =>
          refine iteF ⟨fz, _, _, _, _, rfl, ks.same s6, ef6, fun x hx => s6 _ _ (hF x hx), ?_, by omega, fun h => by omega⟩
          exact efz.trans (least_n hh).symm
        | true =>
          refine iteT ⟨_, rfl, by show 0 ≤ sizeLine; decide, fun l0 h0 => ⟨Dp, l0, _, rfl, rfl, SqL.of (keep1 e6 h0), SqL.of upd_same, _, rfl, ?_⟩⟩
          have s7 := s6.trans (same_new (o := .lst []) h0)
          generalize upd H6 l0 (.lst []) = H7 at s7 ⊢
          have ef7 := s7 _ _ ef
          rw [eany]
          refine ite2 (fun c => ?_) (fun c => ?_)
          · refine ⟨_, rfl, .inl ⟨rfl, _, SqL.of ef7⟩, _, rfl, fl, _, _, rfl, rfl, ef7, by rw [List.length_map, sizeLine_eq]; omega, ?_⟩
            refine ⟨fz ++ [(z, lot)], _, _, _, _, rfl, (ks.same s7).upd, ?_, fun x hx => ?_, ?_, by rw [List.length_append]; show fz.length + 1 ≤ _; omega, fun h => by omega⟩
            · rw [upd_same, List.map_append]
              rfl
            · rcases List.mem_append.mp hx with m | m
              · have e := s7 _ _ (hF x m)
                rw [upd_ne (fun q => by rw [q, ef7] at e; cases e)]
                exact e
              · rw [List.mem_singleton.mp m, upd_ne nz]
                exact s7 _ _ ez
            · show _ = leastStep hf _ lot
              rw [efz] at c
              rw [List.map_append, efz, least_t hh c]
              rfl
          · refine ⟨fz, _, _, _, _, rfl, ks.same s7, ef7, fun x hx => s7 _ _ (hF x hx), ?_, by omega, fun h => by omega⟩
            rw [efz] at c
            exact efz.trans (least_f c).symm
    · obtain ⟨fz, v3, v4, v5, v6, rfl, ks, ef, hF, efz, lfz, _⟩ := h
      rw [lz, List.take_length] at efz
      refine ⟨_, rfl, fl, _, rfl, .inl ⟨SqL.of ef, fun t ht => ?_⟩⟩
      have sE : ExtN H H' := fun b o e nt => ks b o (nf _ _ e) (eN _ _ (sH _ _ e) nt)
      refine k t fz _ (fun b o e nt => ?_) ?_ upd_same (fun z hz => keep1 (hF z hz) ht) efz
      · have e1 := sE b o e nt
        rw [upd_ne (ne_of_none e1 ht)]
        exact e1
      · exact (tabs_kpm T1 efl1 ks).ext (same_new ht)
end
end My
namespace SW
open PySem PySem.Spec PyProof.Rows L2 PySem.GX L2H LamX My
/-! how long shown data are -/
theorem from_len : ∀ (ts : List Str) (k : Nat) (acc : Str), (textFrom k acc ts).length ≤ acc.length + (ts.map fun t => t.length + 2).sum
  | [], _, _ => Nat.le_refl _
  | t :: ts, k, acc => by
    have := from_len ts (k + 1) (acc ++ (if k > 0 then ", " else "" : String) ++ t)
    rw [len_app, len_app] at this
    have e : (Str.ofString (if k > 0 then ", " else "" : String)).length ≤ 2 := by
      by_cases c : k > 0
      · simp only [c, if_true]; decide +kernel
      · simp only [c, if_false]; decide +kernel
    show (textFrom (k + 1) (acc ++ (if k > 0 then ", " else "" : String) ++ t) ts).length ≤ _
    rw [List.map_cons, List.sum_cons]
    omega
theorem shown_map : ∀ ds : List PyData, PyData.shownAll ds = ds.map PyData.shown
  | [] => rfl
  | a :: t => by
    rw [List.map_cons, ← shown_map t]
    simp only [PyData.shownAll]
theorem able_map : ∀ ds : List PyData, (∀ d ∈ ds, d.showable = true) → PyData.showableAll ds = true
  | [], _ => rfl
  | a :: t, h => by
    simp only [PyData.showableAll, h a (by simp), able_map t (fun d hd => h d (by simp [hd])), Bool.and_self]
theorem depth_map {k : Nat} : ∀ ds : List PyData, (∀ d ∈ ds, d.depth ≤ k) → PyData.depthAll ds ≤ k
  | [], _ => Nat.zero_le _
  | a :: t, h => by
    have h1 := h a (by simp)
    have h2 := depth_map t (fun d hd => h d (by simp [hd]))
    simp only [PyData.depthAll]
    omega
theorem joinU_len {k : Nat} : ∀ ts : List Str, (∀ t ∈ ts, t.length ≤ k) → (Str.join ", " ts).length ≤ (k + 2) * ts.length
  | [], _ => Nat.zero_le _
  | a :: t, h => by
    have b := sum_le h
    rw [len_join_cons]
    have e : (", " : Str).length = 2 := rfl
    rw [e]
    rw [List.length_cons] at b ⊢
    have e2 : (k + 2) * (t.length + 1) = (t.length + 1) * k + 2 * (t.length + 1) := by
      rw [Nat.add_mul, Nat.mul_comm k]
    rw [e2]
    omega
theorem tuple_len {k : Nat} {ts : List Str} (h : ∀ t ∈ ts, t.length ≤ k) : (tupleText ts).length ≤ (k + 2) * ts.length + 3 := by
  unfold tupleText
  rw [len_app, len_app]
  have b := joinU_len ts h
  have d1 : ("(" : Str).length = 1 := by decide +kernel
  have d2 : (Str.ofString (if ts.length == 1 then ",)" else ")" : String)).length ≤ 2 := by
    by_cases c : (ts.length == 1) = true
    · rw [if_pos c]; decide +kernel
    · rw [if_neg c]; decide +kernel
  show _ + _ + (Str.ofString (if ts.length == 1 then ",)" else ")" : String)).length ≤ _
  omega
theorem list_len {k : Nat} {ts : List Str} (h : ∀ t ∈ ts, t.length ≤ k) : (listText ts).length ≤ (k + 2) * ts.length + 2 := by
  unfold listText
  rw [len_app]
  have a := from_len ts 0 "["
  have c1 : ("[" : Str).length = 1 := by decide +kernel
  have c2 : ("]" : Str).length = 1 := by decide +kernel
  have b : (ts.map fun t => t.length + 2).sum ≤ (k + 2) * ts.length := by
    clear a
    induction ts with
    | nil => exact Nat.zero_le _
    | cons t r ih =>
      have := ih fun u hu => h u (by simp [hu])
      have h1 := h t (by simp)
      rw [List.map_cons, List.sum_cons, List.length_cons, Nat.mul_succ]
      omega
  omega
/-- tuples of texts, in a tuple -/
def ttD (ls : List (List Str)) : List PyData := ls.map fun ws => .tuple (ws.map .str)
theorem txt_shown {y : Str} (hl : y.length ≤ 1000) (lo : Low y) : (PyData.str y).showable = true ∧ (PyData.str y).shown.length ≤ 10002 ∧ (PyData.str y).depth ≤ 1 := by
  refine ⟨by simp only [PyData.showable], ?_, by simp only [PyData.depth]; omega⟩
  have := repr_short lo
  simp only [PyData.shown]
  omega
theorem tup_shown {k m n : Nat} {ds : List PyData} (h : ∀ d ∈ ds, d.showable = true ∧ d.shown.length ≤ k ∧ d.depth ≤ m) (hn : ds.length ≤ n) : (PyData.tuple ds).showable = true ∧ (PyData.tuple ds).shown.length ≤ (k + 2) * n + 3 ∧ (PyData.tuple ds).depth ≤ m + 1 := by
  refine ⟨by simp only [PyData.showable]; exact able_map _ fun d hd => (h d hd).1, ?_, ?_⟩
  · have e : (PyData.tuple ds).shown = tupleText (ds.map PyData.shown) := by
      rw [← shown_map]
      simp only [PyData.shown]
    rw [e]
    have := tuple_len (k := k) (ts := ds.map PyData.shown) fun t ht => by
      obtain ⟨d, hd, rfl⟩ := List.mem_map.mp ht
      exact (h d hd).2.1
    rw [List.length_map] at this
    have m : (k + 2) * ds.length ≤ (k + 2) * n := Nat.mul_le_mul_left _ hn
    omega
  · have := depth_map (k := m) _ fun d hd => (h d hd).2.2
    simp only [PyData.depth]
    omega
theorem lst_shown {k m n : Nat} {ds : List PyData} (h : ∀ d ∈ ds, d.showable = true ∧ d.shown.length ≤ k ∧ d.depth ≤ m) (hn : ds.length ≤ n) : (PyData.list ds).showable = true ∧ (PyData.list ds).shown.length ≤ (k + 2) * n + 3 ∧ (PyData.list ds).depth ≤ m + 1 := by
  refine ⟨by simp only [PyData.showable]; exact able_map _ fun d hd => (h d hd).1, ?_, ?_⟩
  · have e : (PyData.list ds).shown = listText (ds.map PyData.shown) := by
      rw [← shown_map]
      simp only [PyData.shown]
    rw [e]
    have := list_len (k := k) (ts := ds.map PyData.shown) fun t ht => by
      obtain ⟨d, hd, rfl⟩ := List.mem_map.mp ht
      exact (h d hd).2.1
    rw [List.length_map] at this
    have m : (k + 2) * ds.length ≤ (k + 2) * n := Nat.mul_le_mul_left _ hn
    omega
  · have := depth_map (k := m) _ fun d hd => (h d hd).2.2
    simp only [PyData.depth]
    omega
theorem tt_shown {ls : List (List Str)} (hn : ls.length ≤ 10) (h : ∀ ws ∈ ls, ws.length ≤ 3 ∧ ∀ y ∈ ws, y.length ≤ 1000 ∧ Low y) : (PyData.tuple (ttD ls)).showable = true ∧ (PyData.tuple (ttD ls)).shown.length ≤ 400000 ∧ (PyData.tuple (ttD ls)).depth ≤ 3 := by
  have := tup_shown (k := 30015) (m := 2) (n := 10) (ds := ttD ls) (fun d hd => by
    obtain ⟨ws, hw, rfl⟩ := List.mem_map.mp hd
    obtain ⟨h3, hy⟩ := h ws hw
    have := tup_shown (k := 10002) (m := 1) (n := 3) (ds := ws.map PyData.str) (fun d hd => by
      obtain ⟨y, hy', rfl⟩ := List.mem_map.mp hd
      exact txt_shown (hy y hy').1 (hy y hy').2) (by rw [List.length_map]; exact h3)
    exact ⟨this.1, by have := this.2.1; omega, this.2.2⟩) (by unfold ttD; rw [List.length_map]; exact hn)
  exact ⟨this.1, by have := this.2.1; omega, this.2.2⟩
/-- tuples of numbers below 1000, in a tuple -/
def tnD (ls : List (List Nat)) : List PyData := ls.map fun l => .tuple (l.map fun n : Nat => .int (n : Int))
theorem num_shown : ∀ n : Nat, n ≤ 1000 → (PyData.int (n : Int)).showable = true ∧ (PyData.int (n : Int)).shown.length ≤ 10 ∧ (PyData.int (n : Int)).depth ≤ 1 := by decide +kernel
theorem tn_shown {ls : List (List Nat)} (hn : ls.length ≤ 64) (h : ∀ l ∈ ls, l.length ≤ 10 ∧ ∀ x ∈ l, x ≤ 1000) : (PyData.tuple (tnD ls)).showable = true ∧ (PyData.tuple (tnD ls)).shown.length ≤ 10000 ∧ (PyData.tuple (tnD ls)).depth ≤ 3 := by
  have := tup_shown (k := 123) (m := 2) (n := 64) (ds := tnD ls) (fun d hd => by
    obtain ⟨l, hl, rfl⟩ := List.mem_map.mp hd
    obtain ⟨h3, hx⟩ := h l hl
    have := tup_shown (k := 10) (m := 1) (n := 10) (ds := l.map fun n : Nat => PyData.int (n : Int)) (fun d hd => by
      obtain ⟨x, hx', rfl⟩ := List.mem_map.mp hd
      exact num_shown x (hx x hx')) (by rw [List.length_map]; exact h3)
    exact ⟨this.1, by have := this.2.1; omega, this.2.2⟩) (by unfold tnD; rw [List.length_map]; exact hn)
  exact ⟨this.1, by have := this.2.1; omega, this.2.2⟩
end SW
set_option pp.maxSteps 1500
namespace My
open PySem PySem.Spec PyProof.Rows L2 PySem.GX L2H LamX
def PrZ (P : Program) (w : World) (K : PySem.W.Frag) (mg : Str → Option Value) (base : Heap) (C : Addr) (x : Str) (sp : Sp) : Prop := ∃ (p g : Addr) (fd : FuncData), PropOf K C x p g ∧ FnOk P w K mg base CX0 1 g fd ["self"] sp ∧ Binds K fd ["self"] []
def Chg.txt : Chg → List Str
  | .turn m => [m]
  | .lead m x g => [m, sg x, g]
theorem Chg.vs_txt (c : Chg) : c.vs = c.txt.map V.str := by cases c <;> rfl
theorem sh_txts {K : PySem.W.Frag} {H : Hp} : ∀ ys : List Str, ShAll K H (ys.map V.str) (ys.map PyData.str)
  | [] => .nil
  | y :: t => .cons (.fl (.str y)) (sh_txts t)
theorem sh_ttA {K : PySem.W.Frag} {H : Hp} : ∀ zs : List (Addr × List Str), (∀ z ∈ zs, H z.1 = some (.tup (z.2.map V.str))) → ShAll K H (zs.map fun z => V.ref z.1) (SW.ttD (zs.map (·.2)))
  | [], _ => .nil
  | z :: t, h => .cons (.tup (SqT.of (h z List.mem_cons_self)) (sh_txts _)) (sh_ttA t fun y hy => h y (List.mem_cons_of_mem _ hy))
theorem sh_wish {K : PySem.W.Frag} {H : Hp} {W : Addr} {wz : List Wsh} (e : H W = some (.tup (wishR wz))) (h : WshH H wz) : Sh K H (.ref W) (.tuple (SW.ttD (wz.map fun z => [z.2.1, z.2.2]))) := by
  have := sh_ttA (K := K) (H := H) (wz.map fun z => (z.1, [z.2.1, z.2.2])) fun z hz => by
    obtain ⟨y, hy, rfl⟩ := List.mem_map.mp hz
    exact (h y hy).1
  rw [List.map_map, List.map_map] at this
  exact .tup (SqT.of e) this
theorem sh_chg {K : PySem.W.Frag} {H : Hp} {G : Addr} {cz : List ChA} (e : H G = some (.tup (chR cz))) (h : ChH H cz) : Sh K H (.ref G) (.tuple (SW.ttD (cz.map fun z => z.2.txt))) := by
  have := sh_ttA (K := K) (H := H) (cz.map fun z => (z.1, z.2.txt)) fun z hz => by
    obtain ⟨y, hy, rfl⟩ := List.mem_map.mp hz
    have := h y hy
    rw [Chg.vs_txt] at this
    exact this
  rw [List.map_map, List.map_map] at this
  exact .tup (SqT.of e) this
theorem sh_its {K : PySem.W.Frag} {H : Hp} : ∀ l : List Nat, ShAll K H (itL l) (l.map fun n : Nat => PyData.int (n : Int))
  | [] => .nil
  | n :: t => .cons (.fl (.int _)) (sh_its t)
theorem sh_lotsA {K : PySem.W.Frag} {H : Hp} : ∀ (fs : List (Addr × List V)) (ls : List (List Nat)), (∀ z ∈ fs, H z.1 = some (.tup z.2)) → fs.map (·.2) = ls.map itL → ShAll K H (fs.map fun z => V.ref z.1) (SW.tnD ls)
  | [], [], _, _ => .nil
  | [], _ :: _, _, h => by cases h
  | _ :: _, [], _, h => by cases h
  | z :: t, l :: ls, h, e => by
    rw [List.map_cons, List.map_cons] at e
    injection e with e1 e2
    have hz := h z List.mem_cons_self
    rw [e1] at hz
    exact .cons (.tup (SqT.of hz) (sh_its l)) (sh_lotsA t ls (fun y hy => h y (List.mem_cons_of_mem _ hy)) e2)
theorem mend_least {p : Parts} {wp : List (Str × Str)} {ms : List Chg} : mendLG p wp ms = leastZ (fun lot => wishesL (changesP p (chosenC ms lot)) wp) ms.length := by
  unfold mendLG leastZ
  congr 1
  funext found lot
  unfold mendStepG leastStep
  by_cases h : (found.any fun l => partB l lot) = true
  · rw [if_pos h, h, if_neg (by simp)]
  · have h' : (found.any fun l => partB l lot) = false := by simpa using h
    rw [if_neg h, h']
    simp
theorem wishes_all (p : Parts) : ∀ wz : List Wsh, (wz.filterMap fun z : Wsh => if wishL p z.2.1 z.2.2 = true then none else some (V.ref z.1)).isEmpty = wishesL p (wz.map (·.2))
  | [] => rfl
  | b :: t => by
    rw [List.filterMap_cons]
    unfold wishesL
    rw [List.map_cons, List.all_cons]
    cases hw : wishL p b.2.1 b.2.2 with
    | true =>
      rw [if_pos rfl, Bool.true_and]
      exact wishes_all p t
    | false =>
      rw [if_neg (by decide)]
      rfl
theorem least_in {hf : List Nat → Bool} {P : List Nat → Prop} : ∀ (ls acc : List (List Nat)), (∀ l ∈ acc, P l) → (∀ l ∈ ls, P l) → ∀ l ∈ ls.foldl (leastStep hf) acc, P l
  | [], _, h, _ => h
  | a :: t, acc, h, g => by
    refine least_in t _ (fun l hl => ?_) fun l hl => g l (List.mem_cons_of_mem _ hl)
    unfold leastStep at hl
    split at hl
    · rcases List.mem_append.mp hl with m | m
      · exact h l m
      · rw [List.mem_singleton.mp m]; exact g a (List.mem_cons_self ..)
    · exact h l hl
theorem least_len {hf : List Nat → Bool} : ∀ (ls acc : List (List Nat)), (ls.foldl (leastStep hf) acc).length ≤ acc.length + ls.length
  | [], _ => Nat.le_refl _
  | a :: t, acc => by
    have ih := least_len (hf := hf) t (leastStep hf acc a)
    have : (leastStep hf acc a).length ≤ acc.length + 1 := by
      unfold leastStep
      split
      · rw [List.length_append]; exact Nat.le_refl _
      · omega
    rw [List.foldl_cons, List.length_cons]
    omega
theorem least_shown {hf : List Nat → Bool} {n : Nat} (hn : n ≤ 6) : (PyData.tuple (SW.tnD (leastZ hf n))).showable = true ∧ (PyData.tuple (SW.tnD (leastZ hf n))).shown.length ≤ 10000 ∧ (PyData.tuple (SW.tnD (leastZ hf n))).depth ≤ 3 := by
  have h1 := least_len (hf := hf) (lotsL n) []
  have h2 := lots_len n hn
  have h3 := lots_in n hn
  refine SW.tn_shown (by unfold leastZ; rw [List.length_nil] at h1; omega) fun l hl => ?_
  have := least_in (hf := hf) (P := fun l => l.length ≤ 6 ∧ ∀ x ∈ l, x < n) (lotsL n) [] (fun l h => by cases h) h3 l hl
  exact ⟨by omega, fun x hx => by have := this.2 x hx; omega⟩
theorem showAll_of {ds : List PyData} (h : (PyData.tuple ds).showable = true) : PyData.showableAll ds = true := by simpa only [PyData.showable] using h
theorem lotK_inj : ∀ {a b : List Nat}, lotK a = lotK b → a = b
  | [], [], _ => rfl
  | [], _ :: _, h => by cases h
  | _ :: _, [], h => by cases h
  | x :: a, y :: b, h => by
    have h' : (Sum.inl (x : Int) : Key) :: lotK a = Sum.inl (y : Int) :: lotK b := h
    injection h' with h1 h2
    injection h1 with h1
    rw [lotK_inj h2, show x = y by omega]
/-- what the law's right stands on -/
structure R61 (P : Program) (w : World) (K : PySem.W.Frag) (mg : Str → Option Value) (base : Heap) (CU : Addr) (Tb : List (Addr × Str)) : Prop where
  T : RuC K CU
  hP : Hv P w K mg base 1 "_law_pick" ["_law_purse_here", "_law_size"] spPk
  hLt : Hv P w K mg base 2 "_law_letters" ["_law_purse_here", "_law_size"] spLetters
  hBx : Hv P w K mg base 3 "_law_box" ["_law_purse_here", "_law_letters_here"] spBox
  hTx : Hv P w K mg base 1 "_law_text" ["_law_box_here"] spTextB
  hWi : Hv P w K mg base 3 "_law_wish" ["_law_purse_here", "_law_letters_here"] spWishZ
  hCh : Hv P w K mg base 2 "_law_changes" ["_law_purse_here", "_law_box_here", "_law_most"] spChangesZ
  hWt : Hv P w K mg base 1 "_law_with" ["_law_box_here", "_law_changes_here", "_law_lot"] spWithZ
  hHo : Hv P w K mg base 3 "_law_holds" ["_law_box_here", "_law_wish_here"] spHoldsZ
  hLo : Hv P w K mg base 1 "_law_lots" ["_law_size"] (spLotsT Tb)
  hLe : Hv P w K mg base 2 "_law_least_lots" ["_law_size", "_law_holds_here"] (spLeastZ Tb)
  hMe : Hv P w K mg base 9 "mending" ["rule", "wishes", "changes"] (spMendingG CU)
  mkr : ∃ (f : Addr) (fd : FuncData), Mk K CU f ∧ FnOk P w K mg base CX0 5 f fd ["self", "text"] (spInit CU) ∧ Binds K fd ["self", "text"] [] ∧ mg "Rule" = some (.ref CU)
  PT : PrZ P w K mg base CU "text" (getSp CU "written")
  hTu : mg "tuple" = none
  hL : mg "len" = none
  hRa : mg "range" = none
  hRe : mg "repr" = none
def spRightP (T : List (Addr × Str)) : Sp := fun vs H Q _ => ∃ p : Addr, vs = [.ref p] ∧ Wl H p ∧ Tabs T H ∧ ∀ H' : Hp, Kp p H H' → Tabs T H' → Q (.bl true) H'
theorem BxZ.sb {H H' : Hp} {q p0 : Addr} {p : Parts} (h : BxZ H q p) (w : Wl H p0) (s : Sb p0 H H') : BxZ H' q p := by
  obtain ⟨lw, lf, g, kvs, a, b, c, d, e, z⟩ := h
  exact ⟨lw, lf, g, kvs, s _ _ (w.ne a fun _ _ _ z => by cases z) a, s _ _ (w.ne b (strs_ne3 _)) b, s _ _ (w.ne c (strs_ne3 _)) c, s _ _ (w.ne d fun _ _ _ z => by cases z) d, e, z⟩
theorem BxAt.sbZ {H H' : Hp} {q p0 : Addr} {x : Str} {ws fs : List Str} {kvs : List (List Key × V)} (h : BxAt H q x ws fs kvs) (w : Wl H p0) (s : Sb p0 H H') : BxAt H' q x ws fs kvs := by
  obtain ⟨lw, lf, g, a, b, c, d⟩ := h
  exact ⟨lw, lf, g, s _ _ (w.ne a fun _ _ _ z => by cases z) a, s _ _ (w.ne b (strs_ne3 _)) b, s _ _ (w.ne c (strs_ne3 _)) c, s _ _ (w.ne d fun _ _ _ z => by cases z) d⟩
theorem BxAt.sameZ {H H' : Hp} {q : Addr} {x : Str} {ws fs : List Str} {kvs : List (List Key × V)} (h : BxAt H q x ws fs kvs) (s : Same H H') : BxAt H' q x ws fs kvs := by
  obtain ⟨lw, lf, g, a, b, c, d⟩ := h
  exact ⟨lw, lf, g, s _ _ a, s _ _ b, s _ _ c, s _ _ d⟩
theorem tabs_sb {T : List (Addr × Str)} {H H' : Hp} {p : Addr} (t : Tabs T H) (w : Wl H p) (s : Sb p H H') : Tabs T H' := by
  obtain ⟨w0, w1, w2, _, _, e⟩ := w
  exact tabs_kpm t e s
section
variable {P : Program} {w : World} {K : PySem.W.Frag} {mg : Str → Option Value} {base : Heap} {CU : Addr} {Tb : List (Addr × Str)}
abbrev nR61 : List Str := ["_law_purse_here", "_law_letters_here", "_law_box_here", "_law_wishes_here", "_law_changes_here", "_law_holds_here", "_law_thing", "_law_lot", "_law_later", "_law_due", "_law_kept_here", "_law_turn", "_law_k", "_law_wish_here"]
theorem scR61 : FnScope nR61 ["_law_purse_here"] (defScope sRight) := ⟨rfl, rfl, rfl, by decide +kernel, rfl, by decide +kernel, by decide +kernel⟩
theorem ok_right61 {f : Addr} {fd : FuncData} (F : Fun K "_law_right" "_law_right" sRight f fd) (R : R61 P w K mg base CU Tb) : FnG P w K mg base CX0 10 f fd ["_law_purse_here"] (spRightP Tb) := by
  obtain ⟨fI, fdI, MI, GI, bI, gI⟩ := R.mkr
  obtain ⟨pT, gT, fT, hpT, FT, bT⟩ := R.PT
  refine F.okG scR61 (fun vs H Q E h => ?_) (fun cdv A outer s H vs Q E hgd hr h => ?_)
  · obtain ⟨p, rfl, _⟩ := h
    rfl
  · obtain ⟨p, rfl, hW, hT, y⟩ := h
    have hu := hu_of hr
    have hu0 := Nat.lt_of_succ_lt hu
    have hr1 := hr.mono (by decide : 1 ≤ 9)
    have hr2 := hr.mono (by decide : 2 ≤ 9)
    have hr3 := hr.mono (by decide : 3 ≤ 9)
    have hr6 := hr.mono (by decide : 6 ≤ 9)
    refine ⟨_, pss_cons (ps_set (i := 1) scR61.nd rfl (Or.inr rfl) (pe_cl R.hLt hr2 rfl pass0 (pa_cons (pv 0) (pa_cons (pe_op op_add pe_int (pe_cl R.hP hr1 rfl pass0 (pa_cons (pv 0) (pa_cons pe_int pa_nil)))) pa_nil))))
      (pss_cons (ps_set (i := 2) scR61.nd rfl (Or.inl rfl) (pe_cl R.hBx hr3 rfl pass0 (pa_cons (pv 0) (pa_cons (pv 1) pa_nil))))
      (pss_cons (ps_set (i := 3) scR61.nd rfl (Or.inl rfl) (pe_callTy call_tuple_of (by rfl) R.hTu (by decide +kernel) (pa_cons (pe_lc (own := [("_law_k", 12)]) (g := gName 12) (tt := tYes) rfl scR61.nd (pi_range1 rfl R.hRa (pa_cons (pe_cl R.hP hr1 rfl pass0 (pa_cons (pv 0) (pa_cons pe_int pa_nil))) pa_nil)) (blkOk_by (N := nR61) (sc := defScope sRight) (by decide +kernel)) (fun _ _ _ _ _ => pg_name (i := 12) scR61.nd rfl (Or.inl rfl)) (fun _ _ _ _ _ => pts_nil)
          (fun _ _ _ _ _ => pe_cl R.hWi hr3 rfl pass0 (pa_cons (pv 0) (pa_cons (pv 1) pa_nil)))) pa_nil)))
      (pss_cons (ps_set (i := 4) scR61.nd rfl (Or.inl rfl) (pe_callTy call_tuple_of (by rfl) R.hTu (by decide +kernel) (pa_cons (pe_slice sl_list (pe_cl R.hCh hr2 rfl pass0 (pa_cons (pv 0) (pa_cons (pv 2) (pa_cons pe_int pa_nil)))) po_none (po_some pe_int)) pa_nil)))
      (pss_cons (ps_par (i := 5) (j := 6) rfl scR61.nd rfl rfl (by decide) rfl rfl (pa_cons pe_dnewT (pa_cons (pe_make MI GI hr6 rfl gI bI .nil pass0 (pa_cons (pe_cl R.hTx hr1 rfl pass0 (pa_cons (pv 2) pa_nil)) pa_nil)) pa_nil)) rfl)
      (pss_cons (ps_for PassesOwn.never rfl (pi_list (pe_cl R.hLo hr1 rfl pass0 (pa_cons (pe_callB call_len_seq (by rfl) R.hL PySem.boot_len (pa_cons (pv 4) pa_nil)) pa_nil))) (pg_name (i := 7) scR61.nd rfl (Or.inl rfl))
        (pss_cons (ps_set (i := 8) scR61.nd rfl (Or.inr rfl) (pe_cl R.hWt hr1 rfl pass0 (pa_cons (pv 2) (pa_cons (pv 4) (pa_cons (pv 7) pa_nil)))))
        (pss_one (ps_dput hu (pv 5) (pv 7) (pe_cmpR (op_eqNil hu0) (pe_lc (own := [("_law_wish_here", 13)]) (g := gName 13) rfl scR61.nd (pi_tup (pv 3)) (blkOk_by (N := nR61) (sc := defScope sRight) (by decide +kernel)) (fun _ _ _ _ _ => pg_name (i := 13) scR61.nd rfl (Or.inl rfl))
            (fun _ _ _ _ _ => pts_one (pt_not (pt_val (pe_cl R.hHo hr3 rfl pass0 (pa_cons (pv 8) (pa_cons (pv 13) pa_nil)))))) (fun _ _ _ _ _ => pv 13)) (pe_lst pa_nil) (nomark _)) rfl))))
      (pss_cons (ps_set (i := 9) scR61.nd rfl (Or.inl rfl) (pe_cl R.hLe hr2 rfl pass0 (pa_cons (pe_callB call_len_seq (by rfl) R.hL PySem.boot_len (pa_cons (pv 4) pa_nil)) (pa_cons (pv 5) pa_nil))))
      (pss_cons (ps_set (i := 10) scR61.nd rfl (Or.inl rfl) (pe_callB (call_reprLK (K := K) rfl hgd hr.units) (by rfl) R.hRe (by decide +kernel) (pa_cons (pe_lst (pa_cons (pv 3) (pa_cons (pv 4) pa_nil))) pa_nil)))
      (pss_cons (ps_for PassesOwn.never rfl (pi_range1 rfl R.hRa (pa_cons pe_int pa_nil)) (pg_name (i := 11) scR61.nd rfl (Or.inl rfl))
        (pss_one (ps_if (pt_cmpR op_ne (pe_callB (call_reprT (K := K) rfl hgd hr.units) (by rfl) R.hRe (by decide +kernel) (pa_cons (pe_cl R.hMe hr rfl pass0 (pa_cons (pv 6) (pa_cons (pv 3) (pa_cons (pv 4) pa_nil)))) pa_nil)) (pe_callB (call_reprT (K := K) rfl hgd hr.units) (by rfl) R.hRe (by decide +kernel) (pa_cons (pv 9) pa_nil)) (nomark _)) (pss_one (ps_ret pe_bl)) pss_nil)))
      (pss_one (ps_ret (pe_and (pe_cmpR op_eq (pe_prop (pv 6) R.T.cl hpT FT hr2 bT .nil pass0 rfl) (pe_cl R.hTx hr1 rfl pass0 (pa_cons (pv 2) pa_nil)) (nomark _)) (pe_one (pe_cmpR op_eq (pe_callB (call_reprLK (K := K) rfl hgd hr.units) (by rfl) R.hRe (by decide +kernel) (pa_cons (pe_lst (pa_cons (pv 3) (pa_cons (pv 4) pa_nil))) pa_nil)) (pv 10) (nomark _)))))))))))))), ?_⟩
    refine ⟨_, rfl, _, rfl, p, 3, rfl, hW, by decide, by decide, fun d H1 d0 d1 s1 hW1 => ⟨_, _, rfl, rfl, p, (1 + d).toNat, by rw [Int.toNat_of_nonneg (by omega)]; rfl, hW1, by omega, by omega, fun x H2 hx zx s2 hW2 => ?_⟩⟩
    have x13 : 1 ≤ x.length ∧ x.length ≤ 3 ∧ ∀ c ∈ x.cps.toList, c ∈ abc.cps.toList := by
      have h := hx
      rw [areS1] at h
      simp only [Bool.and_eq_true, decide_eq_true_eq] at h
      have h2 := h.1.2
      rw [made_all, List.all_eq_true] at h2
      exact ⟨h.1.1.1, h.1.1.2, fun c hc => of_decide_eq_true (h2 c hc)⟩
    refine ⟨_, rfl, _, rfl, p, x, rfl, hW2, hx, fun q ws fs kvs H3 fine w5 k15 s3 hW3 bx _ => ?_⟩
    have s03 := (s1.trans s2).trans s3
    have hT3 : Tabs Tb H3 := tabs_sb hT hW s03
    have kp3 : Kp p H H3 := Kp.sb s03
    clear s1 s2 s3 hW1 hW2 s03 d0 d1 zx
    have pok := pok_of fine
    have bz3 : BxZ H3 q (partsF x ws fs kvs) := by
      obtain ⟨lw, lf, g, a, b, c, e⟩ := bx
      exact ⟨lw, lf, g, kvs, a, b, c, e, fun t ht c hc => led_is fine ht hc, by omega⟩
    have pms : (partsF x ws fs kvs).ms = ws := rfl
    -- the wishes
    refine ⟨_, rfl, p, 5, rfl, hW3, by decide, by decide, fun d H4 d0 d1 s4 hW4 => ?_⟩
    obtain ⟨n, rfl⟩ := Int.eq_ofNat_of_zero_le d0
    refine ⟨n, rfl, by omega, by omega, fun D hD => ?_⟩
    have nDp : D ≠ p := hW4.new hD
    refine lc_range (lo := 0) (n := n) (fun i H' => Wl H' p ∧ (∀ b o, b ≠ p → b ≠ D → H4 b = some o → H' b = some o) ∧ ∃ wz : List Wsh, wz.length = i ∧ WshH H' wz ∧ (∀ z ∈ wz, z.2.2.length ≤ 7) ∧ H' D = some (.lst (wishR wz)))
      ⟨hW4.upd_ nDp, fun b o n1 n2 e => by rw [upd_ne n2]; exact e, [], rfl, (fun z hz => by cases hz), (fun z hz => by cases hz), upd_same⟩ (fun i H' hi h => ?_) (fun H5 h => ?_)
    · obtain ⟨hW', st, wz, lz, hz, h7, eD⟩ := h
      refine ⟨rfl, _, rfl, _, rfl, p, x, rfl, hW', x13.1, by omega, x13.2.2, fun t wd r H6 sb hW6 rw_ lin l7 et new => ?_⟩
      have eD6 := sb _ _ nDp eD
      refine ⟨_, eD6, by unfold wishR; rw [List.length_map, sizeLine_eq]; omega, hW6.upd_ nDp, fun b o n1 n2 e => by rw [upd_ne n2]; exact sb _ _ n1 (st b o n1 n2 e), wz ++ [(t, wd, r)], by rw [List.length_append, lz]; rfl, fun z hm => ?_, fun z hm => ?_, ?_⟩
      · rcases List.mem_append.mp hm with m | m
        · obtain ⟨e, a, b⟩ := hz z m
          have e6 := sb _ _ (hW'.ne e fun _ _ _ z => by cases z) e
          refine ⟨?_, a, b⟩
          rw [upd_ne fun q => by rw [q, eD6] at e6; cases e6]
          exact e6
        · rw [List.mem_singleton.mp m]
          refine ⟨?_, rw_, lin⟩
          show upd H6 D _ t = _
          rw [upd_ne fun q => by rw [q, eD6] at et; cases et]
          exact et
      · rcases List.mem_append.mp hm with m | m
        · exact h7 z m
        · rw [List.mem_singleton.mp m]
          exact l7
      · rw [upd_same]
        unfold wishR
        rw [List.map_append]
        rfl
    obtain ⟨hW5, st5, wz, lz, hz5, h7, eD5⟩ := h
    have s35 : Sb p H3 H5 := fun b o n1 e => st5 b o n1 (ne_of_none (s4 _ _ n1 e) hD) (s4 _ _ n1 e)
    have n4 : n ≤ 4 := by omega
    refine ⟨D, _, rfl, .inl ⟨SqL.of eD5, fun W hWn => ?_⟩⟩
    have sb6 : Sb p H3 (upd H5 W (.tup (wishR wz))) := s35.trans (Sb.of (same_new hWn))
    have hW6 := hW5.same (same_new (o := .tup (wishR wz)) hWn)
    have eW6 : upd H5 W (.tup (wishR wz)) W = some (.tup (wishR wz)) := upd_same
    have hz6 : WshH (upd H5 W (.tup (wishR wz))) wz := fun z hm => ⟨keep1 (hz5 z hm).1 hWn, (hz5 z hm).2⟩
    generalize upd H5 W (.tup (wishR wz)) = H6 at sb6 hW6 eW6 hz6 ⊢
    clear hWn eD5 hz5 st5 s35 hW5 hD s4 hW4 d1
    have bz6 : BxZ H6 q (partsF x ws fs kvs) := bz3.sb hW3 sb6
    -- the changes
    refine ⟨_, rfl, _, rfl, p, q, partsF x ws fs kvs, 9, rfl, hW6, bz6.toF, pok, w5, by decide, fun l zs H7 s7 hW7 el hZ nd hin z9 => ?_⟩
    refine ⟨6, rfl, l, _, rfl, SqL.of el, fun l2 hl2 => ?_⟩
    rw [show (6 : Int) = ((6 : Nat) : Int) from rfl, cut_toV _ 6 (by decide)]
    refine ⟨l2, _, rfl, .inl ⟨SqL.of upd_same, fun G hG => ?_⟩⟩
    have ecz : (chR zs).take 6 = chR (zs.take 6) := by
      unfold chR
      rw [List.map_take]
    rw [ecz]
    rw [ecz] at hG
    have s78 := (same_new (o := .lst (chR (zs.take 6))) hl2).trans (same_new (o := .tup (chR (zs.take 6))) hG)
    have sb8 : Sb p H3 (upd (upd H7 l2 (.lst (chR (zs.take 6)))) G (.tup (chR (zs.take 6)))) := (sb6.trans s7).trans (Sb.of s78)
    have hW8 := hW7.same s78
    have eW8 := s78 _ _ (s7 _ _ (hW6.ne eW6 fun _ _ _ z => by cases z) eW6)
    have hz8 : WshH (upd (upd H7 l2 (.lst (chR (zs.take 6)))) G (.tup (chR (zs.take 6)))) wz := fun z hm => ⟨s78 _ _ (s7 _ _ (hW6.ne (hz6 z hm).1 fun _ _ _ z => by cases z) (hz6 z hm).1), (hz6 z hm).2⟩
    have hZ8 : ChH (upd (upd H7 l2 (.lst (chR (zs.take 6)))) G (.tup (chR (zs.take 6)))) (zs.take 6) := fun z hm => s78 _ _ (hZ z (List.mem_of_mem_take hm))
    have eG8 : upd (upd H7 l2 (.lst (chR (zs.take 6)))) G (.tup (chR (zs.take 6))) G = some (.tup (chR (zs.take 6))) := upd_same
    generalize upd (upd H7 l2 (.lst (chR (zs.take 6)))) G (.tup (chR (zs.take 6))) = H8 at sb8 hW8 eW8 hz8 hZ8 eG8 ⊢
    have nd6 : ((zs.take 6).map (·.2.key)).Nodup := by
      rw [List.map_take]
      exact nd.sublist (List.take_sublist _ _)
    have hin6 : ∀ z ∈ zs.take 6, ChgOk (partsF x ws fs kvs) z.2 := fun z hm => hin z (List.mem_of_mem_take hm)
    have z6 : (zs.take 6).length ≤ 6 := List.length_take_le _ _
    generalize zs.take 6 = cz at eG8 hZ8 nd6 hin6 z6 ⊢
    clear s78 hG hl2 el hZ nd hin z9 s7 hW7 sb6 hW6 eW6 hz6 bz6
    have bz8 : BxZ H8 q (partsF x ws fs kvs) := bz3.sb hW3 sb8
    have bx8 : BxAt H8 q x ws fs kvs := bx.sbZ hW3 sb8
    have hT8 : Tabs Tb H8 := tabs_sb hT3 hW3 sb8
    have kp8 : Kp p H H8 := kp3.trans (Kp.sb sb8)
    clear sb8 hW3 bz3 bx hT3 kp3
    -- the dict and the rule
    have sh := fine.short (by omega)
    refine fun Dh hDh => ⟨_, rfl, q, x, ws, fs, kvs, rfl, bx8.sameZ (same_new hDh), sh, fun H9 s9 a dy ny ndy ne => ⟨a, dy, textL x ws fs kvs, partsF x ws fs kvs, rfl, upd_same, text_small sh, text_ok fine, fine_parse fine, fun H10 keep rA => ⟨rfl, _, _, rfl, ?_⟩⟩⟩
    have sm : Same H9 (upd (upd H9 dy (.own a)) a (.ins CU dy [])) := (same_new ndy).trans (same_new (by rw [upd_ne ne.symm]; exact ny))
    have s10' : Same H9 H10 := fun b o e => keep b o (ne_of_none e ny) (sm b o e)
    have s10 : Same H8 H10 := ((same_new (o := .dT []) hDh).trans s9).trans s10'
    have eDh10 := s10' _ _ (s9 _ _ (upd_same (a := Dh) (H := H8) (o := .dT [])))
    have nDh : ∀ b o, H8 b = some o → b ≠ Dh := fun b o e => ne_of_none e hDh
    clear keep ne ny ndy sm s9 s10' hDh
    have lcz : (chR cz).length = cz.length := List.length_map _
    refine ⟨_, rfl, G, _, rfl, .inr (SqT.of (s10 _ _ eG8)), (chR cz).length, rfl, by omega, hT8.ext s10, fun l lz H11 eN T11 _ el hZl em => ⟨l, rfl, ⟨_, SqL.of el⟩, ?_⟩⟩
    rw [lcz] at em
    have go : ∀ {b : Addr} {o : HO}, H8 b = some o → (∀ ps, o ≠ .tbl ps) → H11 b = some o := fun {b o} e nt => eN _ _ (s10 _ _ e) nt
    have eW11 := go eW8 (fun _ z => by cases z)
    have eG11 := go eG8 (fun _ z => by cases z)
    have hz11 : WshH H11 wz := fun z hm => ⟨go (hz8 z hm).1 (fun _ z => by cases z), (hz8 z hm).2⟩
    have hZ11 : ChH H11 cz := fun z hm => go (hZ8 z hm) (fun _ z => by cases z)
    have bzs : ∀ H', KpM Dh H11 H' → BxZ H' q (partsF x ws fs kvs) := fun H' ks => by
      obtain ⟨lw, lf, g, kv, a, b, c, d, e, z⟩ := bz8
      exact ⟨lw, lf, g, kv, ks _ _ (nDh _ _ a) (go a (fun _ z => by cases z)), ks _ _ (nDh _ _ b) (go b (fun _ z => by cases z)), ks _ _ (nDh _ _ c) (go c (fun _ z => by cases z)), ks _ _ (nDh _ _ d) (go d (fun _ z => by cases z)), e, z⟩
    have bxs : ∀ H', KpM Dh H11 H' → BxAt H' q x ws fs kvs := fun H' ks => by
      obtain ⟨lw, lf, g, a, b, c, d⟩ := bx8
      exact ⟨lw, lf, g, ks _ _ (nDh _ _ a) (go a (fun _ z => by cases z)), ks _ _ (nDh _ _ b) (go b (fun _ z => by cases z)), ks _ _ (nDh _ _ c) (go c (fun _ z => by cases z)), ks _ _ (nDh _ _ d) (go d (fun _ z => by cases z))⟩
    have rAs : ∀ H', KpM Dh H11 H' → RuleAt H' CU a (textL x ws fs kvs) (partsF x ws fs kvs) := fun H' ks => by
      obtain ⟨dx, M, G, D, e1, e2, e3, e4⟩ := rA
      have off : ∀ {b : Addr} {o : HO}, H10 b = some o → (∀ kv, o ≠ .dT kv) → b ≠ Dh := fun {b o} e n z => by
        rw [z, eDh10] at e
        exact n _ (Option.some.inj e).symm
      have nD : D ≠ Dh := fun z => by
        rw [z, eDh10] at e4
        injection e4 with e4
        injection e4 with e4
        obtain ⟨ms, em2⟩ := pok.first
        have hc : x.cps.toList[0]'(by rw [Array.length_toList]; exact x13.1) ∈ x.cps.toList := List.getElem_mem _
        have := same_goals pok (firstL (partsF x ws fs kvs)) (by rw [em2]; simp) _ hc
        rw [← e4] at this
        cases this
      exact ⟨dx, M, G, D, ks _ _ (off e1 fun _ z => by cases z) (eN _ _ e1 (fun _ z => by cases z)), ks _ _ (off e2 fun _ z => by cases z) (eN _ _ e2 (fun _ z => by cases z)), ks _ _ (off e3 fun _ z => by cases z) (eN _ _ e3 (fun _ z => by cases z)), ks _ _ nD (eN _ _ e4 (fun _ z => by cases z))⟩
    have eDh11 := eN _ _ eDh10 (fun _ z => by cases z)
    have kp11 : Kp p H H11 := (kp8.trans (Kp.of s10)).trans (Kp.ext eN)
    have nDhH : ∀ b o, b ≠ p → (∀ ps, o ≠ .tbl ps) → H b = some o → b ≠ Dh := fun b o n1 nt e => nDh b o (kp8 b o n1 nt e)
    have nDp2 : Dh ≠ p := by
      obtain ⟨w0, w1, w2, _, _, e⟩ := hW8
      exact (nDh p _ e).symm
    have nW := nDh _ _ eW8
    have nG := nDh _ _ eG8
    have offZ : ∀ {b : Addr} {o : HO}, H11 b = some o → (∀ kv, o ≠ .dT kv) → b ≠ Dh := fun {b o} e n z => by
      rw [z, eDh11] at e
      exact n _ (Option.some.inj e).symm
    clear go eW8 eG8 hz8 hZ8 bz8 bx8 rA eDh10 eN kp8 hT8 s10 nDh
    -- each lot
    have llz : lz.length = (lotsL cz.length).length := by
      have := congrArg List.length em
      rwa [List.length_map, List.length_map] at this
    have len64 := lots_len cz.length z6
    have lin := lots_in cz.length z6
    refine for_it (walk_listL lz fun z => V.ref z.1) (fun i σ H' => ∃ (kv : List (List Key × V)) (v7 v8 v12 v13 : Option V), σ = [some (.ref p), some (.str x), some (.ref q), some (.ref W), some (.ref G), some (.ref Dh), some (.ref a), v7, v8, none, none, none, v12, v13] ∧ KpM Dh H11 H' ∧ H' Dh = some (.dT kv) ∧ kv.length ≤ i ∧ ∀ lot ∈ (lotsL cz.length).take i, valV kv (lotK lot) = some (.bl (wishesL (changesP (partsF x ws fs kvs) (chosenC (cz.map (·.2)) lot)) (wz.map (·.2)))))
      ⟨[], _, _, _, _, rfl, KpM.refl _, eDh11, Nat.le_refl _, fun lot hl => by cases hl⟩ (fun i σ H' hle h => ?_) (fun i yv σ H' H'' hi h hy => ?_) (fun σ H12 h => ?_)
    · obtain ⟨kv, v7, v8, v12, v13, rfl, ks, _⟩ := h
      exact SqL.of (ks _ _ (offZ el fun _ z => by cases z) el)
    · obtain ⟨rfl, hy⟩ := hy
      obtain ⟨kv, v7, v8, v12, v13, rfl, ks, eD, zk, hkv⟩ := h
      have hz : lz[i]? = some lz[i] := List.getElem?_eq_getElem hi
      obtain rfl := map_get hz hy
      have hg : (lotsL cz.length)[i]? = some ((lotsL cz.length)[i]'(by omega)) := List.getElem?_eq_getElem (by omega)
      have ezs : (lz[i]).2 = itL ((lotsL cz.length)[i]'(by omega)) := by
        have := congrArg (fun q : List (List V) => q[i]?) em
        simp only [List.getElem?_map, hz, hg, Option.map_some] at this
        exact Option.some.inj this
      have hzm := hZl _ (List.mem_of_getElem? hz)
      rw [ezs] at hzm
      have hlot := lin _ (List.mem_of_getElem? hg)
      have htk : (lotsL cz.length).take (i + 1) = (lotsL cz.length).take i ++ [(lotsL cz.length)[i]'(by omega)] := by
        rw [List.take_add_one, hg]
        rfl
      rw [htk]
      show tSeq _ _ _ _ _
      generalize (lotsL cz.length)[i]'(by omega) = lot at hzm hlot
      generalize lz[i].1 = z at hzm
      have ez := ks _ _ (offZ hzm fun _ z => by cases z) hzm
      have st : ∀ {b : Addr} {o : HO}, H11 b = some o → (∀ kv, o ≠ .dT kv) → H'' b = some o := fun {b o} e n => ks _ _ (offZ e n) e
      have eW' := ks _ _ nW eW11
      have eG' := ks _ _ nG eG11
      have hz' : WshH H'' wz := fun z hm => ⟨st (hz11 z hm).1 (fun _ z => by cases z), (hz11 z hm).2⟩
      have hZ' : ChH H'' cz := fun z hm => st (hZ11 z hm) (fun _ z => by cases z)
      have bz' := bzs _ ks
      refine ⟨_, rfl, _, rfl, _, rfl, q, G, z, partsF x ws fs kvs, cz, lot, rfl, bz', pok, w5, eG', hZ', hin6, ez, hlot.2, hlot.1, fun q' H13 s13 bf => ?_⟩
      obtain ⟨okc, ems, esg⟩ := changes_ok pok (chosenC (cz.map (·.2)) lot) fun c hc => by
        obtain ⟨kk, hk, rfl⟩ := List.mem_map.mp hc
        have hk2 := hlot.2 kk hk
        have hzz : cz[kk]? = some cz[kk] := List.getElem?_eq_getElem hk2
        show ChgOk _ ((cz.map (·.2)).getD kk (.turn Str.empty))
        rw [List.getD_eq_getElem?_getD, List.getElem?_map, hzz]
        exact hin6 _ (List.getElem_mem hk2)
      rw [← ems] at bf
      generalize hP' : changesP (partsF x ws fs kvs) (chosenC (cz.map (·.2)) lot) = P' at bf okc
      have eD13 := s13 _ _ eD
      have ez13 := s13 _ _ ez
      refine ⟨_, rfl, W, rfl, ⟨_, SqT.of (s13 _ _ eW')⟩, fun D2 hD2 => ?_⟩
      refine lcG wz (fun z : Wsh => if wishL P' z.2.1 z.2.2 = true then none else some (V.ref z.1)) (walkT wz fun z : Wsh => V.ref z.1) (by omega) hD2 (yat_same _) (fun H8 s => SqT.of (s _ _ (s13 _ _ eW'))) (fun j y2 y H6 H7 k1 hx2 sj hy k2 => ?_) (fun H14 s14 e14 => ?_)
      · obtain ⟨rfl, hy⟩ := hy
        obtain rfl := map_get hx2 hy
        obtain ⟨ey, ry, ly⟩ := hz' y2 (List.mem_of_getElem? hx2)
        refine ⟨rfl, _, rfl, _, rfl, q', y2.1, P', y2.2.1, y2.2.2, rfl, bf.same sj, okc, sj _ _ (s13 _ _ ey), ry, ly.1, fun H9 s9 => ⟨_, rfl, ?_⟩⟩
        have kk := k2 _ s9
        cases hw : wishL P' y2.2.1 y2.2.2 with
        | true =>
          rw [hw, if_pos rfl] at kk
          exact iteF kk
        | false =>
          rw [hw, if_neg (by decide)] at kk
          exact iteT ⟨_, rfl, kk⟩
      · refine ⟨by show 0 ≤ sizeLine; decide, fun l0 h0 => ⟨D2, l0, _, rfl, rfl, SqL.of (keep1 e14 h0), SqL.of upd_same, ?_⟩⟩
        have eall := wishes_all P' wz
        have eif : ∀ b : Bool, (if false = true then !b else b) = b := fun _ => rfl
        rw [eall, eif]
        have s15 := (s13.trans s14).trans (same_new (o := .lst []) h0)
        generalize upd H14 l0 (.lst []) = H15 at s15 ⊢
        have eD15 := s15 _ _ eD
        have ez15 := s15 _ _ ez
        refine ⟨_, rfl, _, rfl, Dh, _, rfl, DPut.t (k := lotK lot) eD15 (by rw [lotK_it]; exact ez15) (by rw [sizeLine_eq]; omega), _, _, _, _, _, rfl, (ks.same s15).upd, upd_same, ?_, fun lot2 hl2 => ?_⟩
        · have := length_putK kv (lotK lot) (.bl (wishesL P' (wz.map (·.2))))
          omega
        · rw [valV_put]
          by_cases e : lotK lot2 = lotK lot
          · rw [if_pos e, lotK_inj e, hP']
          · rw [if_neg e]
            refine hkv lot2 ?_
            rcases List.mem_append.mp hl2 with m | m
            · exact m
            · exact absurd (by rw [List.mem_singleton.mp m]) e
    -- what is due
    obtain ⟨kv, v7, v8, v12, v13, rfl, ks, eD, zk, hkv⟩ := h
    rw [llz, List.take_length] at hkv
    have eG12 := ks _ _ nG eG11
    have eW12 := ks _ _ nW eW11
    have T12 : Tabs Tb H12 := fun z hz => by
      obtain ⟨ps, h1, h2, h3⟩ := T11 z hz
      refine ⟨ps, ks _ _ (offZ h1 fun _ z => by cases z) h1, h2, fun pos cv hc => ?_⟩
      obtain ⟨c, e1, e2⟩ := h3 pos cv hc
      exact ⟨c, e1, ks _ _ (offZ e2 fun _ z => by cases z) e2⟩
    have hz12 : WshH H12 wz := fun z hm => ⟨ks _ _ (offZ (hz11 z hm).1 fun _ z => by cases z) (hz11 z hm).1, (hz11 z hm).2⟩
    have hZ12 : ChH H12 cz := fun z hm => ks _ _ (offZ (hZ11 z hm) fun _ z => by cases z) (hZ11 z hm)
    have bx12 := bxs _ ks
    have rA12 := rAs _ ks
    have kp12 : Kp p H H12 := fun b o n1 nt e => ks _ _ (nDhH b o n1 nt e) (kp11 b o n1 nt e)
    refine ⟨_, rfl, G, _, rfl, .inr (SqT.of eG12), _, rfl, (chR cz).length, Dh, kv, fun lot => wishesL (changesP (partsF x ws fs kvs) (chosenC (cz.map (·.2)) lot)) (wz.map (·.2)), rfl, by omega, T12, eD, by rw [lcz]; exact hkv, fun t fz H13 eN13 T13 et hfz efz => ?_⟩
    rw [lcz] at efz
    have eG13 := eN13 _ _ eG12 (fun _ z => by cases z)
    have eW13 := eN13 _ _ eW12 (fun _ z => by cases z)
    have hz13 : WshH H13 wz := fun z hm => ⟨eN13 _ _ (hz12 z hm).1 (fun _ z => by cases z), (hz12 z hm).2⟩
    have hZ13 : ChH H13 cz := fun z hm => eN13 _ _ (hZ12 z hm) (fun _ z => by cases z)
    have bx13 : BxAt H13 q x ws fs kvs := by
      obtain ⟨lw, lf, g, a, b, c, d⟩ := bx12
      exact ⟨lw, lf, g, eN13 _ _ a (fun _ z => by cases z), eN13 _ _ b (fun _ z => by cases z), eN13 _ _ c (fun _ z => by cases z), eN13 _ _ d (fun _ z => by cases z)⟩
    have rA13 : RuleAt H13 CU a (textL x ws fs kvs) (partsF x ws fs kvs) := by
      obtain ⟨dx, M, G, D, e1, e2, e3, e4⟩ := rA12
      exact ⟨dx, M, G, D, eN13 _ _ e1 (fun _ z => by cases z), eN13 _ _ e2 (fun _ z => by cases z), eN13 _ _ e3 (fun _ z => by cases z), eN13 _ _ e4 (fun _ z => by cases z)⟩
    have kp13 : Kp p H H13 := kp12.trans (Kp.ext eN13)
    clear eN13 eG12 eW12 hz12 hZ12 bx12 rA12 kp12 T12 ks eD hkv bzs bxs rAs
    have lowW : ∀ y, isWordL y = true → y.length ≤ 1000 ∧ Low y := fun y hy => by
      have all : ∀ d ∈ abc.cps.toList, d < 256 := by decide +kernel
      unfold isWordL at hy
      simp only [Bool.and_eq_true, decide_eq_true_eq] at hy
      have h2 := hy.2
      rw [made_all, List.all_eq_true] at h2
      exact ⟨by have := hy.1.2; omega, fun c hc => all c (of_decide_eq_true (h2 c hc))⟩
    have sW : (PyData.tuple (SW.ttD (wz.map fun z => [z.2.1, z.2.2]))).showable = true ∧ (PyData.tuple (SW.ttD (wz.map fun z => [z.2.1, z.2.2]))).shown.length ≤ 400000 ∧ (PyData.tuple (SW.ttD (wz.map fun z => [z.2.1, z.2.2]))).depth ≤ 3 := by
      refine SW.tt_shown (by rw [List.length_map]; omega) fun ys hys => ?_
      obtain ⟨z, hz, rfl⟩ := List.mem_map.mp hys
      obtain ⟨_, rw_, l1, l2⟩ := hz13 z hz
      refine ⟨by show 2 ≤ 3; decide, fun y hy => ?_⟩
      have hy : y = z.2.1 ∨ y = z.2.2 := by simpa using hy
      rcases hy with rfl | rfl
      · have lw : ∀ y : Str, RowW y → y.length ≤ 1000 ∧ Low y := fun y h => by
          rcases h with rfl | rfl
          · exact ⟨by decide +kernel, by unfold Low; decide +kernel⟩
          · exact ⟨by decide +kernel, by unfold Low; decide +kernel⟩
        exact lw _ rw_
      · refine ⟨l1, fun c hc => ?_⟩
        have all : ∀ d ∈ abc.cps.toList, d < 256 := by decide +kernel
        rw [made_all, List.all_eq_true] at l2
        exact all c (of_decide_eq_true (l2 c hc))
    have sG : (PyData.tuple (SW.ttD (cz.map fun z => z.2.txt))).showable = true ∧ (PyData.tuple (SW.ttD (cz.map fun z => z.2.txt))).shown.length ≤ 400000 ∧ (PyData.tuple (SW.ttD (cz.map fun z => z.2.txt))).depth ≤ 3 := by
      refine SW.tt_shown (by rw [List.length_map]; omega) fun ys hys => ?_
      obtain ⟨z, hz, rfl⟩ := List.mem_map.mp hys
      have hc := hin6 z hz
      have wd : ∀ m ∈ ws, m.length ≤ 1000 ∧ Low m := fun m hm => lowW m (moods_word fine.mds m hm)
      cases hch : z.2 with
      | turn m =>
        rw [hch] at hc
        exact ⟨by show 1 ≤ 3; decide, fun y hy => by rw [List.mem_singleton.mp hy]; exact wd m hc⟩
      | lead m c g =>
        rw [hch] at hc
        refine ⟨by show 3 ≤ 3; decide, fun y hy => ?_⟩
        have hy : y = m ∨ y = sg c ∨ y = g := by simpa [Chg.txt] using hy
        rcases hy with rfl | rfl | rfl
        · exact wd _ hc.1
        · refine ⟨by show 1 ≤ 1000; decide, fun d hd => ?_⟩
          have all : ∀ d ∈ abc.cps.toList, d < 256 := by decide +kernel
          have : d = c := by simpa [sg] using hd
          rw [this]
          exact all c (x13.2.2 c hc.2.1)
        · exact wd _ hc.2.2
    have sL : PyData.showableAll [PyData.tuple (SW.ttD (wz.map fun z => [z.2.1, z.2.2])), .tuple (SW.ttD (cz.map fun z => z.2.txt))] = true ∧ (PyData.list [PyData.tuple (SW.ttD (wz.map fun z => [z.2.1, z.2.2])), .tuple (SW.ttD (cz.map fun z => z.2.txt))]).shown.length ≤ 1000000 ∧ (PyData.list [PyData.tuple (SW.ttD (wz.map fun z => [z.2.1, z.2.2])), .tuple (SW.ttD (cz.map fun z => z.2.txt))]).depth ≤ 60 := by
      have e : ∀ d ∈ [PyData.tuple (SW.ttD (wz.map fun z => [z.2.1, z.2.2])), .tuple (SW.ttD (cz.map fun z => z.2.txt))], d.showable = true ∧ d.shown.length ≤ 400000 ∧ d.depth ≤ 3 := fun d hd => by
        have hd : d = PyData.tuple (SW.ttD (wz.map fun z => [z.2.1, z.2.2])) ∨ d = .tuple (SW.ttD (cz.map fun z => z.2.txt)) := by simpa using hd
        rcases hd with rfl | rfl
        · exact sW
        · exact sG
      have := SW.lst_shown e (n := 2) (by show 2 ≤ 2; decide)
      exact ⟨SW.able_map _ fun d hd => (e d hd).1, by have := this.2.1; omega, by have := this.2.2; omega⟩
    generalize hdl : [PyData.tuple (SW.ttD (wz.map fun z => [z.2.1, z.2.2])), .tuple (SW.ttD (cz.map fun z => z.2.txt))] = dl at sL
    have shL : ∀ {H' : Hp} {l9 : Addr}, H' l9 = some (.lst [.ref W, .ref G]) → H' W = some (.tup (wishR wz)) → WshH H' wz → H' G = some (.tup (chR cz)) → ChH H' cz → Sh K H' (.ref l9) (.list dl) := fun {H' l9} e1 e2 e3 e4 e5 => by
      rw [← hdl]
      exact .lst (SqL.of e1) (.cons (sh_wish e2 e3) (.cons (sh_chg e4 e5) .nil))
    clear hdl sW sG
    have zsh : (PyData.list dl).shown.length ≤ sizeLine := by rw [sizeLine_eq]; have := sL.2.1; omega
    refine ⟨_, rfl, _, rfl, by show 2 ≤ sizeLine; decide, fun l9 h9 => ?_⟩
    have s9 := same_new (o := .lst [.ref W, .ref G]) h9
    refine ⟨l9, dl, rfl, shL upd_same (s9 _ _ eW13) (fun z hm => ⟨s9 _ _ (hz13 z hm).1, (hz13 z hm).2⟩) (s9 _ _ eG13) (hZ13.same s9), sL.1, zsh, sL.2.2, ?_⟩
    generalize upd H13 l9 (.lst [.ref W, .ref G]) = H14 at s9 ⊢
    -- twice mended
    have due := least_shown (hf := fun lot => wishesL (changesP (partsF x ws fs kvs) (chosenC (cz.map (·.2)) lot)) (wz.map (·.2))) z6
    have eml : mendLG (partsF x ws fs kvs) (wz.map (·.2)) (cz.map (·.2)) = leastZ (fun lot => wishesL (changesP (partsF x ws fs kvs) (chosenC (cz.map (·.2)) lot)) (wz.map (·.2))) cz.length := by
      rw [mend_least, List.length_map]
    generalize leastZ (fun lot => wishesL (changesP (partsF x ws fs kvs) (chosenC (cz.map (·.2)) lot)) (wz.map (·.2))) cz.length = ls at due eml efz
    have zdue : (PyData.tuple (SW.tnD ls)).shown.length ≤ sizeLine := by rw [sizeLine_eq]; have := due.2.1; omega
    have sdue := showAll_of due.1
    have ddue : (PyData.tuple (SW.tnD ls)).depth ≤ 60 := by have := due.2.2; omega
    have shD : ∀ H', Same H13 H' → Sh K H' (.ref t) (.tuple (SW.tnD ls)) := fun H' s => by
      have := sh_lotsA (K := K) (H := H') (fz.map fun z => (z.1, itL z.2)) ls (fun z hz => by
        obtain ⟨y, hy, rfl⟩ := List.mem_map.mp hz
        exact s _ _ (hfz y hy)) (by rw [List.map_map, ← efz, List.map_map]; rfl)
      rw [List.map_map] at this
      exact .tup (SqT.of (s _ _ et)) this
    refine ⟨2, rfl, by decide, by decide, for_range (n := 2) (fun i σ H' => (∃ v7 v8 v11 v12 v13 : Option V, σ = [some (.ref p), some (.str x), some (.ref q), some (.ref W), some (.ref G), some (.ref Dh), some (.ref a), v7, v8, some (.ref t), some (.str (PyData.list dl).shown), v11, v12, v13]) ∧ Same H13 H') ⟨⟨_, _, _, _, _, rfl⟩, s9⟩ (fun i σ H15 hi h => ?_) (fun σ H15 h => ?_)⟩
    · obtain ⟨⟨v7, v8, v11, v12, v13, rfl⟩, s15⟩ := h
      refine ⟨_, rfl, _, rfl, _, rfl, a, W, G, textL x ws fs kvs, partsF x ws fs kvs, wz, cz, rfl, rA13.same s15, pok, by show ws.length ≤ 20; omega, s15 _ _ eW13, (fun z hm => ⟨s15 _ _ (hz13 z hm).1, (hz13 z hm).2⟩), by omega, s15 _ _ eG13, hZ13.same s15, z6, nd6, hin6, fun T fs2 H16 s16 eT hTf efs => ?_⟩
      rw [eml] at efs
      refine ⟨T, SW.tnD ls, rfl, .tup (SqT.of eT) (sh_lotsA fs2 ls hTf efs), sdue, zdue, ddue, _, rfl, t, SW.tnD ls, rfl, shD _ (s15.trans s16), sdue, zdue, ddue, rfl, _, rfl, if_false_of (by simp) ⟨⟨_, _, _, _, _, rfl⟩, s15.trans s16⟩⟩
    · obtain ⟨⟨v7, v8, v11, v12, v13, rfl⟩, s15⟩ := h
      obtain ⟨dx, M, G2, D2, e1, _, _, _⟩ := id (rA13.same s15)
      refine ⟨_, rfl, a, dx, _, rfl, e1, a, dx, _, .str (textL x ws fs kvs), rfl, e1, rfl, _, rfl, q, x, ws, fs, kvs, rfl, bx13.sameZ s15, sh, fun H16 s16 => ⟨rfl, _, rfl, ?_⟩⟩
      have s1316 := s15.trans s16
      refine if_true_of (by simp) ⟨_, rfl, _, rfl, by show 2 ≤ sizeLine; decide, fun l17 h17 => ?_⟩
      have s17 := s1316.trans (same_new (o := .lst [.ref W, .ref G]) h17)
      refine ⟨l17, dl, rfl, shL upd_same (s17 _ _ eW13) (fun z hm => ⟨s17 _ _ (hz13 z hm).1, (hz13 z hm).2⟩) (s17 _ _ eG13) (hZ13.same s17), sL.1, zsh, sL.2.2, _, rfl, rfl, ?_⟩
      rw [decide_eq_true rfl]
      exact y _ (kp13.trans (Kp.of s17)) (T13.ext s17)
end
end My
set_option pp.maxSteps 1500
namespace My
open PySem PySem.Spec PyProof.Rows L2 PySem.GX L2H NdefX LamX
/-! the law -/
theorem uniq_of {T : List (Addr × Str)} (nd : (T.map (·.1)).Nodup) {a b : Addr × Str} (ha : a ∈ T) (hb : b ∈ T) (e : a.1 = b.1) : b.2 = a.2 := by
  induction T with
  | nil => cases ha
  | cons z t ih =>
    rw [List.map_cons, List.nodup_cons] at nd
    rcases List.mem_cons.mp ha with h1 | h1
    · rcases List.mem_cons.mp hb with h2 | h2
      · rw [h1, h2]
      · exact (nd.1 (List.mem_map.mpr ⟨b, h2, by rw [← h1, e]⟩)).elim
    · rcases List.mem_cons.mp hb with h2 | h2
      · exact (nd.1 (List.mem_map.mpr ⟨a, h1, by rw [← h2, e]⟩)).elim
      · exact ih nd.2 h1 h2
abbrev nLawN : List Str := ["_law_script", "_law_k"]
def spLawT (T : List (Addr × Str)) (K : PySem.W.Frag) : Sp := fun vs H Q _ => ∃ (a : Addr) (ns : List Int), vs = [.ref a] ∧ SqL K H a (ns.map V.int) ∧ ns.length ≤ 63 ∧ Tabs T H ∧ ∀ H', Q (.bl true) H'
theorem all_repN (n : Nat) : (List.replicate n true).all id = true := by
  induction n with
  | zero => rfl
  | succ n ih => rw [List.replicate_succ, List.all_cons, ih]; rfl
theorem sq_extN {K : PySem.W.Frag} {H H' : Hp} {a : Addr} {xs : List V} (s : ExtN H H') (h : SqL K H a xs) : SqL K H' a xs := by
  rcases h with (h | ⟨o, h⟩) | h
  · exact .inl (.inl (s _ _ h fun _ z => by cases z))
  · exact .inl (.inr ⟨o, s _ _ h fun _ z => by cases z⟩)
  · exact .inr h
/-- the tables of the defs that make lambdas -/
abbrev quals4 : List Str := [qLt]
def tbOf (ts : List (Addr × Addr)) : List (Addr × Str) := (ts.map (·.2)).zip quals4
theorem tabs_tb {ts : List (Addr × Addr)} {H : Hp} (hT : ∀ q ∈ ts, H q.2 = some (.tbl #[])) : Tabs (tbOf ts) H := fun z hz => by
  have := (List.of_mem_zip (a := z.1) (b := z.2) (by unfold tbOf at hz; exact hz)).1
  obtain ⟨q, hq, e⟩ := List.mem_map.mp this
  have h := hT q hq
  rw [e] at h
  exact LamX.TabS.nil h
section
variable {P : Program} {w : World} {K : PySem.W.Frag} {mg : Str → Option Value} {base : Heap}
theorem scLawN : FnScope nLawN ["_law_script"] (defScope sLaw) := ⟨rfl, rfl, rfl, by decide +kernel, rfl, by decide +kernel, by decide +kernel⟩
theorem ok_lawN {f fR : Addr} {fd fdR : FuncData} {T : List (Addr × Str)} (F : Fun K "law" "law" sLaw f fd) (hAll : mg "all" = none) (hRange : mg "range" = none) (hMax : mg "max" = none) (hMin : mg "min" = none) (hL : mg "len" = none)
    (hCe : Hv P w K mg base 1 "_law_cell" ["_law_cells", "_law_k"] (spCell K)) (hPu : Hv P w K mg base 1 "_law_purse" ["_law_cell_here"] spPurse)
    (GR : FnG P w K mg base CX0 10 fR fdR ["_law_purse_here"] (spRightP T)) (bR : Binds K fdR ["_law_purse_here"] []) (gR : mg "_law_right" = some (.ref fR)) (kR : PySem.W.keepIn K (.ref fR) = true) :
    FnG P w K mg base CX0 11 f fd ["_law_script"] (spLawT T K) := by
  refine F.okG scLawN (fun vs H Q E h => ?_) (fun cdv A outer s H vs Q E hgd hr h => ?_)
  · obtain ⟨a, ns, rfl, _⟩ := h
    rfl
  · obtain ⟨a, ns, rfl, hS, hl, hT, k⟩ := h
    have hr1 := hr.mono (by decide : 1 ≤ 10)
    refine ⟨_, pss_one (ps_ret (pe_callB (cr_all rfl) (by rfl) hAll (by decide +kernel) (pa_cons
        (pe_lc (own := [("_law_k", 1)]) (g := gName 1) (tt := tYes) (te := tCall (spRightP T) [] E0 (tCons (tCall spPurse [] E0 (tCons (tCall (spCell K) [] E0 (tCons (tVar 0) (tCons (tVar 1) tNil))) tNil)) tNil)) rfl scLawN.nd
          (pi_range1 rfl hRange (pa_cons (pe_callB (call_max2 rfl) (by rfl) hMax (by decide +kernel) (pa_cons pe_int (pa_cons (pe_callB (call_min2 rfl) (by rfl) hMin (by decide +kernel) (pa_cons (pe_callB call_len_seq (by rfl) hL PySem.boot_len (pa_cons (pv 0) pa_nil)) (pa_cons pe_int pa_nil))) pa_nil))) pa_nil))
          (blkOk_by (N := nLawN) (sc := defScope sLaw) (by decide +kernel)) (fun _ _ _ _ _ => pg_name (i := 1) scLawN.nd rfl (Or.inl rfl)) (fun _ _ _ _ _ => pts_nil)
          (fun _ _ _ _ _ => pe_callG GR hgd hr rfl gR kR bR pass0 (pa_cons (pe_cl hPu hr1 rfl pass0 (pa_cons (pe_cl hCe hr1 rfl pass0 (pa_cons (pv 0) (pa_cons (pv 1) pa_nil))) pa_nil)) pa_nil))) pa_nil))), ?_⟩
    refine ⟨_, rfl, a, _, rfl, .inl hS, _, _, rfl, _, _, rfl, _, rfl, ?_, ?_, fun D hD => ?_⟩
    · rw [List.length_map]
      split <;> split <;> omega
    · rw [List.length_map]
      split <;> split <;> omega
    · rw [List.length_map] at *
      generalize hn : (if (if (3 : Int) < (ns.length : Int) then (3 : Int) else (ns.length : Int)) > 2 then (if (3 : Int) < (ns.length : Int) then (3 : Int) else (ns.length : Int)) else 2) = n
      have n1 : 0 ≤ n ∧ n ≤ 3 := by
        rw [← hn]
        constructor <;> split <;> split <;> omega
      refine lc_range (lo := 0) (n := n.toNat) (fun j H' => ExtN H H' ∧ Tabs T H' ∧ H' D = some (.lst (List.replicate j (V.bl true)))) ⟨ExtN.of (same_new hD), Tabs.ext hT (same_new hD), upd_same⟩ (fun j H' hj ⟨sH, tH, eD⟩ => ?_) (fun H' ⟨sH, tH, eD⟩ => ?_)
      · refine ⟨rfl, _, rfl, _, rfl, a, ns, _, rfl, sq_extN sH hS, (by omega), (by omega), fun z H1 s1 => ⟨z, rfl, fun p H2 s2 np hW => ⟨p, rfl, hW, (Tabs.ext tH s1).ext s2, fun H3 s3 t3 => ?_⟩⟩⟩
        have e1 := s1 _ _ eD
        have dp : D ≠ p := ne_of_none e1 np
        have eD2 : H3 D = some (.lst (List.replicate j (V.bl true))) := s3 D _ dp (fun _ z => by cases z) (s2 _ _ e1)
        refine ⟨_, eD2, ?_, fun b o e nt => ?_, Tabs.off t3 eD2, ?_⟩
        · rw [List.length_replicate, sizeLine_eq]
          omega
        · rw [upd_ne (ne_of_none e hD)]
          have z0 := s1 _ _ (sH _ _ e nt)
          exact s3 b o (ne_of_none z0 np) nt (s2 _ _ z0)
        · rw [upd_same, ← List.replicate_succ']
      · refine ⟨D, List.replicate n.toNat true, rfl, SqL.of (by rw [List.map_replicate]; exact eD), ?_⟩
        rw [all_repN]
        exact k H'
end
end My
namespace My
open PySem PySem.Spec PyProof.Rows L2 PySem.GX L2H LamX
section
variable {l : PySem.W.OpenLaw} {w : World} {K : PySem.W.Frag} {h : Heap} {mg : Str → Option Value}
theorem all_mk {fa : Addr} {CU clo Plo gol gro giw gas gam gag grg grr gwr gcr gws ggr gho gcw gix gcx gax gip gdx gme glc glu glp glt gla glb glx gld glf gle gl1 gl2 glo gl3 gl4 gl5 glg gll gri grm grh grt grl grx gry pG gpG pT gpT tT tK : Addr} {odol anol odro anro odiw aniw odas anas odam anam odag anag odrg anrg odrr anrr odwr anwr odcr ancr odws anws odgr angr odho anho odcw ancw odix anix odcx ancx odax anax odip anip oddx andx odme anme odlc anlc odlu anlu odlp anlp odlt anlt odla anla odlb anlb odlx anlx odld anld odlf anlf odle anle odl1 anl1 odl2 anl2 odlo anlo odl3 anl3 odl4 anl4 odl5 anl5 odlg anlg odll anll odri anri odrm anrm odrh anrh odrt anrt odrl anrl odrx anrx odry anry odpG anpG odpT anpT : Option Addr} {slol slro sliw slas slam slag slrg slrr slwr slcr slws slgr slho slcw slix slcx slax slip sldx slme sllc sllu sllp sllt slla sllb sllx slld sllf slle sll1 sll2 sllo sll3 sll4 sll5 sllg slll slri slrm slrh slrt slrl slrx slry slpG slpT : Array (Option Value)} {ocol kVol dcol pmol ctol cdol ocro kVro dcro pmro ctro cdro ociw kViw dciw pmiw ctiw cdiw ocas kVas dcas pmas ctas cdas ocam kVam dcam pmam ctam cdam ocag kVag dcag pmag ctag cdag ocrg kVrg dcrg pmrg ctrg cdrg ocrr kVrr dcrr pmrr ctrr cdrr ocwr kVwr dcwr pmwr ctwr cdwr occr kVcr dccr pmcr ctcr cdcr ocws kVws dcws pmws ctws cdws ocgr kVgr dcgr pmgr ctgr cdgr ocho kVho dcho pmho ctho cdho occw kVcw dccw pmcw ctcw cdcw ocix kVix dcix pmix ctix cdix occx kVcx dccx pmcx ctcx cdcx ocax kVax dcax pmax ctax cdax ocip kVip dcip pmip ctip cdip ocdx kVdx dcdx pmdx ctdx cddx ocme kVme dcme pmme ctme cdme oclc kVlc dclc pmlc ctlc cdlc oclu kVlu dclu pmlu ctlu cdlu oclp kVlp dclp pmlp ctlp cdlp oclt kVlt dclt pmlt ctlt cdlt ocla kVla dcla pmla ctla cdla oclb kVlb dclb pmlb ctlb cdlb oclx kVlx dclx pmlx ctlx cdlx ocld kVld dcld pmld ctld cdld oclf kVlf dclf pmlf ctlf cdlf ocle kVle dcle pmle ctle cdle ocl1 kVl1 dcl1 pml1 ctl1 cdl1 ocl2 kVl2 dcl2 pml2 ctl2 cdl2 oclo kVlo dclo pmlo ctlo ocl3 kVl3 dcl3 pml3 ctl3 cdl3 ocl4 kVl4 dcl4 pml4 ctl4 cdl4 ocl5 kVl5 dcl5 pml5 ctl5 cdl5 oclg kVlg dclg pmlg ctlg cdlg ocll kVll dcll pmll ctll cdll ocri kVri dcri pmri ctri cdri ocrm kVrm dcrm pmrm ctrm cdrm ocrh kVrh dcrh pmrh ctrh cdrh ocrt kVrt dcrt pmrt ctrt cdrt ocrl kVrl dcrl pmrl ctrl cdrl ocrx kVrx dcrx pmrx ctrx cdrx ocry kVry dcry pmry ctry cdry ocpG kVpG dcpG pmpG ctpG cdpG ocpT kVpT dcpT pmpT ctpT cdpT : Value} {tk0 tk1 tk2 tk3 tk4 tk5 : Tok} {rsG rsT : List Value} (X : K.In h) (G : h.Ns mainGlobals mg) (hfa : mg "law" = some (.ref fa))
    (acCU : PySem.W.nsIn K mainGlobals "Rule" = some (some (.ref CU)))
    (agol : PySem.W.nsIn K mainGlobals "made_of" = some (some (.ref gol)))
    (lgol : K.lookup gol = some ⟨ocol, odol, .func (PySem.W.fnOf "made_of" "made_of" (defArgs sMade) (defBody sMade) (defScope sMade) .none kVol dcol pmol anol cdol ctol), slol⟩)
    (cgol : PySem.W.codeIn K cdol "made_of" = true)
    (kgol : PySem.W.keepIn K (.ref gol) = true)
    (agro : PySem.W.nsIn K mainGlobals "is_row_of" = some (some (.ref gro)))
    (lgro : K.lookup gro = some ⟨ocro, odro, .func (PySem.W.fnOf "is_row_of" "is_row_of" (defArgs sRowOf) (defBody sRowOf) (defScope sRowOf) .none kVro dcro pmro anro cdro ctro), slro⟩)
    (cgro : PySem.W.codeIn K cdro "is_row_of" = true)
    (kgro : PySem.W.keepIn K (.ref gro) = true)
    (agiw : PySem.W.nsIn K mainGlobals "is_word" = some (some (.ref giw)))
    (lgiw : K.lookup giw = some ⟨ociw, odiw, .func (PySem.W.fnOf "is_word" "is_word" (defArgs sWord) (defBody sWord) (defScope sWord) .none kViw dciw pmiw aniw cdiw ctiw), sliw⟩)
    (cgiw : PySem.W.codeIn K cdiw "is_word" = true)
    (kgiw : PySem.W.keepIn K (.ref giw) = true)
    (agas : PySem.W.nsIn K mainGlobals "are_signs" = some (some (.ref gas)))
    (lgas : K.lookup gas = some ⟨ocas, odas, .func (PySem.W.fnOf "are_signs" "are_signs" (defArgs sSigns) (defBody sSigns) (defScope sSigns) .none kVas dcas pmas anas cdas ctas), slas⟩)
    (cgas : PySem.W.codeIn K cdas "are_signs" = true)
    (kgas : PySem.W.keepIn K (.ref gas) = true)
    (agam : PySem.W.nsIn K mainGlobals "are_moods" = some (some (.ref gam)))
    (lgam : K.lookup gam = some ⟨ocam, odam, .func (PySem.W.fnOf "are_moods" "are_moods" (defArgs sMoods) (defBody sMoods) (defScope sMoods) .none kVam dcam pmam anam cdam ctam), slam⟩)
    (cgam : PySem.W.codeIn K cdam "are_moods" = true)
    (kgam : PySem.W.keepIn K (.ref gam) = true)
    (agag : PySem.W.nsIn K mainGlobals "are_good" = some (some (.ref gag)))
    (lgag : K.lookup gag = some ⟨ocag, odag, .func (PySem.W.fnOf "are_good" "are_good" (defArgs sGood) (defBody sGood) (defScope sGood) .none kVag dcag pmag anag cdag ctag), slag⟩)
    (cgag : PySem.W.codeIn K cdag "are_good" = true)
    (kgag : PySem.W.keepIn K (.ref gag) = true)
    (agrg : PySem.W.nsIn K mainGlobals "read_goals" = some (some (.ref grg)))
    (lgrg : K.lookup grg = some ⟨ocrg, odrg, .func (PySem.W.fnOf "read_goals" "read_goals" (defArgs sGoals) (defBody sGoals) (defScope sGoals) .none kVrg dcrg pmrg anrg cdrg ctrg), slrg⟩)
    (cgrg : PySem.W.codeIn K cdrg "read_goals" = true)
    (kgrg : PySem.W.keepIn K (.ref grg) = true)
    (agrr : PySem.W.nsIn K mainGlobals "read_rule" = some (some (.ref grr)))
    (lgrr : K.lookup grr = some ⟨ocrr, odrr, .func (PySem.W.fnOf "read_rule" "read_rule" (defArgs sRead) (defBody sRead) (defScope sRead) .none kVrr dcrr pmrr anrr cdrr ctrr), slrr⟩)
    (cgrr : PySem.W.codeIn K cdrr "read_rule" = true)
    (kgrr : PySem.W.keepIn K (.ref grr) = true)
    (agwr : PySem.W.nsIn K mainGlobals "write_rule" = some (some (.ref gwr)))
    (lgwr : K.lookup gwr = some ⟨ocwr, odwr, .func (PySem.W.fnOf "write_rule" "write_rule" (defArgs sWriteR) (defBody sWriteR) (defScope sWriteR) .none kVwr dcwr pmwr anwr cdwr ctwr), slwr⟩)
    (cgwr : PySem.W.codeIn K cdwr "write_rule" = true)
    (kgwr : PySem.W.keepIn K (.ref gwr) = true)
    (agcr : PySem.W.nsIn K mainGlobals "check_rule" = some (some (.ref gcr)))
    (lgcr : K.lookup gcr = some ⟨occr, odcr, .func (PySem.W.fnOf "check_rule" "check_rule" (defArgs sCRule) (defBody sCRule) (defScope sCRule) .none kVcr dccr pmcr ancr cdcr ctcr), slcr⟩)
    (cgcr : PySem.W.codeIn K cdcr "check_rule" = true)
    (kgcr : PySem.W.keepIn K (.ref gcr) = true)
    (agws : PySem.W.nsIn K mainGlobals "is_wish" = some (some (.ref gws)))
    (lgws : K.lookup gws = some ⟨ocws, odws, .func (PySem.W.fnOf "is_wish" "is_wish" (defArgs sIsWish) (defBody sIsWish) (defScope sIsWish) .none kVws dcws pmws anws cdws ctws), slws⟩)
    (cgws : PySem.W.codeIn K cdws "is_wish" = true)
    (kgws : PySem.W.keepIn K (.ref gws) = true)
    (aggr : PySem.W.nsIn K mainGlobals "is_good_row" = some (some (.ref ggr)))
    (lggr : K.lookup ggr = some ⟨ocgr, odgr, .func (PySem.W.fnOf "is_good_row" "is_good_row" (defArgs sGoodRow) (defBody sGoodRow) (defScope sGoodRow) .none kVgr dcgr pmgr angr cdgr ctgr), slgr⟩)
    (cggr : PySem.W.codeIn K cdgr "is_good_row" = true)
    (kggr : PySem.W.keepIn K (.ref ggr) = true)
    (agho : PySem.W.nsIn K mainGlobals "holds" = some (some (.ref gho)))
    (lgho : K.lookup gho = some ⟨ocho, odho, .func (PySem.W.fnOf "holds" "holds" (defArgs sHoldsW) (defBody sHoldsW) (defScope sHoldsW) .none kVho dcho pmho anho cdho ctho), slho⟩)
    (cgho : PySem.W.codeIn K cdho "holds" = true)
    (kgho : PySem.W.keepIn K (.ref gho) = true)
    (agcw : PySem.W.nsIn K mainGlobals "check_wishes" = some (some (.ref gcw)))
    (lgcw : K.lookup gcw = some ⟨occw, odcw, .func (PySem.W.fnOf "check_wishes" "check_wishes" (defArgs sCkWish) (defBody sCkWish) (defScope sCkWish) .none kVcw dccw pmcw ancw cdcw ctcw), slcw⟩)
    (cgcw : PySem.W.codeIn K cdcw "check_wishes" = true)
    (kgcw : PySem.W.keepIn K (.ref gcw) = true)
    (agix : PySem.W.nsIn K mainGlobals "is_change" = some (some (.ref gix)))
    (lgix : K.lookup gix = some ⟨ocix, odix, .func (PySem.W.fnOf "is_change" "is_change" (defArgs sIsChange) (defBody sIsChange) (defScope sIsChange) .none kVix dcix pmix anix cdix ctix), slix⟩)
    (cgix : PySem.W.codeIn K cdix "is_change" = true)
    (kgix : PySem.W.keepIn K (.ref gix) = true)
    (agcx : PySem.W.nsIn K mainGlobals "check_changes" = some (some (.ref gcx)))
    (lgcx : K.lookup gcx = some ⟨occx, odcx, .func (PySem.W.fnOf "check_changes" "check_changes" (defArgs sCkChg) (defBody sCkChg) (defScope sCkChg) .none kVcx dccx pmcx ancx cdcx ctcx), slcx⟩)
    (cgcx : PySem.W.codeIn K cdcx "check_changes" = true)
    (kgcx : PySem.W.keepIn K (.ref gcx) = true)
    (agax : PySem.W.nsIn K mainGlobals "all_lots" = some (some (.ref gax)))
    (lgax : K.lookup gax = some ⟨ocax, odax, .func (PySem.W.fnOf "all_lots" "all_lots" (defArgs sAllLots) (defBody sAllLots) (defScope sAllLots) .none kVax dcax pmax anax cdax ctax), slax⟩)
    (cgax : PySem.W.codeIn K cdax "all_lots" = true)
    (kgax : PySem.W.keepIn K (.ref gax) = true)
    (agip : PySem.W.nsIn K mainGlobals "is_part" = some (some (.ref gip)))
    (lgip : K.lookup gip = some ⟨ocip, odip, .func (PySem.W.fnOf "is_part" "is_part" (defArgs sIsPart) (defBody sIsPart) (defScope sIsPart) .none kVip dcip pmip anip cdip ctip), slip⟩)
    (cgip : PySem.W.codeIn K cdip "is_part" = true)
    (kgip : PySem.W.keepIn K (.ref gip) = true)
    (agdx : PySem.W.nsIn K mainGlobals "changed_rule" = some (some (.ref gdx)))
    (lgdx : K.lookup gdx = some ⟨ocdx, oddx, .func (PySem.W.fnOf "changed_rule" "changed_rule" (defArgs sChanged) (defBody sChanged) (defScope sChanged) .none kVdx dcdx pmdx andx cddx ctdx), sldx⟩)
    (cgdx : PySem.W.codeIn K cddx "changed_rule" = true)
    (kgdx : PySem.W.keepIn K (.ref gdx) = true)
    (agme : PySem.W.nsIn K mainGlobals "mending" = some (some (.ref gme)))
    (lgme : K.lookup gme = some ⟨ocme, odme, .func (PySem.W.fnOf "mending" "mending" (defArgs sMending) (defBody sMending) (defScope sMending) .none kVme dcme pmme anme cdme ctme), slme⟩)
    (cgme : PySem.W.codeIn K cdme "mending" = true)
    (kgme : PySem.W.keepIn K (.ref gme) = true)
    (aglc : PySem.W.nsIn K mainGlobals "_law_cell" = some (some (.ref glc)))
    (lglc : K.lookup glc = some ⟨oclc, odlc, .func (PySem.W.fnOf "_law_cell" "_law_cell" (defArgs sCell) (defBody sCell) (defScope sCell) .none kVlc dclc pmlc anlc cdlc ctlc), sllc⟩)
    (cglc : PySem.W.codeIn K cdlc "_law_cell" = true)
    (kglc : PySem.W.keepIn K (.ref glc) = true)
    (aglu : PySem.W.nsIn K mainGlobals "_law_purse" = some (some (.ref glu)))
    (lglu : K.lookup glu = some ⟨oclu, odlu, .func (PySem.W.fnOf "_law_purse" "_law_purse" (defArgs sPurse) (defBody sPurse) (defScope sPurse) .none kVlu dclu pmlu anlu cdlu ctlu), sllu⟩)
    (cglu : PySem.W.codeIn K cdlu "_law_purse" = true)
    (kglu : PySem.W.keepIn K (.ref glu) = true)
    (aglp : PySem.W.nsIn K mainGlobals "_law_pick" = some (some (.ref glp)))
    (lglp : K.lookup glp = some ⟨oclp, odlp, .func (PySem.W.fnOf "_law_pick" "_law_pick" (defArgs sPick) (defBody sPick) (defScope sPick) .none kVlp dclp pmlp anlp cdlp ctlp), sllp⟩)
    (cglp : PySem.W.codeIn K cdlp "_law_pick" = true)
    (kglp : PySem.W.keepIn K (.ref glp) = true)
    (aglt : PySem.W.nsIn K mainGlobals "_law_letters" = some (some (.ref glt)))
    (lglt : K.lookup glt = some ⟨oclt, odlt, .func (PySem.W.fnOf "_law_letters" "_law_letters" (defArgs sLetters) (defBody sLetters) (defScope sLetters) .none kVlt dclt pmlt anlt cdlt ctlt), sllt⟩)
    (cglt : PySem.W.codeIn K cdlt "_law_letters" = true)
    (kglt : PySem.W.keepIn K (.ref glt) = true)
    (agla : PySem.W.nsIn K mainGlobals "_law_aim" = some (some (.ref gla)))
    (lgla : K.lookup gla = some ⟨ocla, odla, .func (PySem.W.fnOf "_law_aim" "_law_aim" (defArgs sAim) (defBody sAim) (defScope sAim) .none kVla dcla pmla anla cdla ctla), slla⟩)
    (cgla : PySem.W.codeIn K cdla "_law_aim" = true)
    (kgla : PySem.W.keepIn K (.ref gla) = true)
    (aglb : PySem.W.nsIn K mainGlobals "_law_box" = some (some (.ref glb)))
    (lglb : K.lookup glb = some ⟨oclb, odlb, .func (PySem.W.fnOf "_law_box" "_law_box" (defArgs sBox) (defBody sBox) (defScope sBox) .none kVlb dclb pmlb anlb cdlb ctlb), sllb⟩)
    (cglb : PySem.W.codeIn K cdlb "_law_box" = true)
    (kglb : PySem.W.keepIn K (.ref glb) = true)
    (aglx : PySem.W.nsIn K mainGlobals "_law_text" = some (some (.ref glx)))
    (lglx : K.lookup glx = some ⟨oclx, odlx, .func (PySem.W.fnOf "_law_text" "_law_text" (defArgs sText) (defBody sText) (defScope sText) .none kVlx dclx pmlx anlx cdlx ctlx), sllx⟩)
    (cglx : PySem.W.codeIn K cdlx "_law_text" = true)
    (kglx : PySem.W.keepIn K (.ref glx) = true)
    (agld : PySem.W.nsIn K mainGlobals "_law_end" = some (some (.ref gld)))
    (lgld : K.lookup gld = some ⟨ocld, odld, .func (PySem.W.fnOf "_law_end" "_law_end" (defArgs sEnd) (defBody sEnd) (defScope sEnd) .none kVld dcld pmld anld cdld ctld), slld⟩)
    (cgld : PySem.W.codeIn K cdld "_law_end" = true)
    (kgld : PySem.W.keepIn K (.ref gld) = true)
    (aglf : PySem.W.nsIn K mainGlobals "_law_is_fine" = some (some (.ref glf)))
    (lglf : K.lookup glf = some ⟨oclf, odlf, .func (PySem.W.fnOf "_law_is_fine" "_law_is_fine" (defArgs sFine) (defBody sFine) (defScope sFine) .none kVlf dclf pmlf anlf cdlf ctlf), sllf⟩)
    (cglf : PySem.W.codeIn K cdlf "_law_is_fine" = true)
    (kglf : PySem.W.keepIn K (.ref glf) = true)
    (agle : PySem.W.nsIn K mainGlobals "_law_line" = some (some (.ref gle)))
    (lgle : K.lookup gle = some ⟨ocle, odle, .func (PySem.W.fnOf "_law_line" "_law_line" (defArgs sLine) (defBody sLine) (defScope sLine) .none kVle dcle pmle anle cdle ctle), slle⟩)
    (cgle : PySem.W.codeIn K cdle "_law_line" = true)
    (kgle : PySem.W.keepIn K (.ref gle) = true)
    (agl1 : PySem.W.nsIn K mainGlobals "_law_changes" = some (some (.ref gl1)))
    (lgl1 : K.lookup gl1 = some ⟨ocl1, odl1, .func (PySem.W.fnOf "_law_changes" "_law_changes" (defArgs sChangesL) (defBody sChangesL) (defScope sChangesL) .none kVl1 dcl1 pml1 anl1 cdl1 ctl1), sll1⟩)
    (cgl1 : PySem.W.codeIn K cdl1 "_law_changes" = true)
    (kgl1 : PySem.W.keepIn K (.ref gl1) = true)
    (agl2 : PySem.W.nsIn K mainGlobals "_law_with" = some (some (.ref gl2)))
    (lgl2 : K.lookup gl2 = some ⟨ocl2, odl2, .func (PySem.W.fnOf "_law_with" "_law_with" (defArgs sWithL) (defBody sWithL) (defScope sWithL) .none kVl2 dcl2 pml2 anl2 cdl2 ctl2), sll2⟩)
    (cgl2 : PySem.W.codeIn K cdl2 "_law_with" = true)
    (kgl2 : PySem.W.keepIn K (.ref gl2) = true)
    (aglo : PySem.W.nsIn K mainGlobals "_law_lots" = some (some (.ref glo)))
    (lglo : K.lookup glo = some ⟨oclo, odlo, .func (PySem.W.fnOf "_law_lots" "_law_lots" (defArgs sLotsL) (defBody sLotsL) (defScope sLotsL) .none kVlo dclo pmlo anlo (.ref clo) ctlo), sllo⟩)
    (cglo : PySem.W.codeIn K (.ref clo) "_law_lots" = true)
    (kglo : PySem.W.keepIn K (.ref glo) = true)
    (agl3 : PySem.W.nsIn K mainGlobals "_law_least_lots" = some (some (.ref gl3)))
    (lgl3 : K.lookup gl3 = some ⟨ocl3, odl3, .func (PySem.W.fnOf "_law_least_lots" "_law_least_lots" (defArgs sLeastL) (defBody sLeastL) (defScope sLeastL) .none kVl3 dcl3 pml3 anl3 cdl3 ctl3), sll3⟩)
    (cgl3 : PySem.W.codeIn K cdl3 "_law_least_lots" = true)
    (kgl3 : PySem.W.keepIn K (.ref gl3) = true)
    (agl4 : PySem.W.nsIn K mainGlobals "_law_holds" = some (some (.ref gl4)))
    (lgl4 : K.lookup gl4 = some ⟨ocl4, odl4, .func (PySem.W.fnOf "_law_holds" "_law_holds" (defArgs sHolds) (defBody sHolds) (defScope sHolds) .none kVl4 dcl4 pml4 anl4 cdl4 ctl4), sll4⟩)
    (cgl4 : PySem.W.codeIn K cdl4 "_law_holds" = true)
    (kgl4 : PySem.W.keepIn K (.ref gl4) = true)
    (agl5 : PySem.W.nsIn K mainGlobals "_law_wish" = some (some (.ref gl5)))
    (lgl5 : K.lookup gl5 = some ⟨ocl5, odl5, .func (PySem.W.fnOf "_law_wish" "_law_wish" (defArgs sWishL) (defBody sWishL) (defScope sWishL) .none kVl5 dcl5 pml5 anl5 cdl5 ctl5), sll5⟩)
    (cgl5 : PySem.W.codeIn K cdl5 "_law_wish" = true)
    (kgl5 : PySem.W.keepIn K (.ref gl5) = true)
    (aglg : PySem.W.nsIn K mainGlobals "_law_right" = some (some (.ref glg)))
    (lglg : K.lookup glg = some ⟨oclg, odlg, .func (PySem.W.fnOf "_law_right" "_law_right" (defArgs sRight) (defBody sRight) (defScope sRight) .none kVlg dclg pmlg anlg cdlg ctlg), sllg⟩)
    (cglg : PySem.W.codeIn K cdlg "_law_right" = true)
    (kglg : PySem.W.keepIn K (.ref glg) = true)
    (agll : PySem.W.nsIn K mainGlobals "law" = some (some (.ref gll)))
    (lgll : K.lookup gll = some ⟨ocll, odll, .func (PySem.W.fnOf "law" "law" (defArgs sLaw) (defBody sLaw) (defScope sLaw) .none kVll dcll pmll anll cdll ctll), slll⟩)
    (cgll : PySem.W.codeIn K cdll "law" = true)
    (kgll : PySem.W.keepIn K (.ref gll) = true)
    (amri : PySem.W.findIn K (.ref CU) "__init__" = some (some (.ref gri)))
    (airi : PySem.W.isFn K (.ref gri) = true)
    (lgri : K.lookup gri = some ⟨ocri, odri, .func (PySem.W.fnOf "__init__" "Rule.__init__" (defArgs sInit) (defBody sInit) (defScope sInit) .none kVri dcri pmri anri cdri ctri), slri⟩)
    (cgri : PySem.W.codeIn K cdri "Rule.__init__" = true)
    (kgri : PySem.W.keepIn K (.ref gri) = true)
    (amrm : PySem.W.findIn K (.ref CU) "mood" = some (some (.ref grm)))
    (airm : PySem.W.isFn K (.ref grm) = true)
    (lgrm : K.lookup grm = some ⟨ocrm, odrm, .func (PySem.W.fnOf "mood" "Rule.mood" (defArgs sMood) (defBody sMood) (defScope sMood) .none kVrm dcrm pmrm anrm cdrm ctrm), slrm⟩)
    (cgrm : PySem.W.codeIn K cdrm "Rule.mood" = true)
    (kgrm : PySem.W.keepIn K (.ref grm) = true)
    (amrh : PySem.W.findIn K (.ref CU) "has" = some (some (.ref grh)))
    (airh : PySem.W.isFn K (.ref grh) = true)
    (lgrh : K.lookup grh = some ⟨ocrh, odrh, .func (PySem.W.fnOf "has" "Rule.has" (defArgs sHas) (defBody sHas) (defScope sHas) .none kVrh dcrh pmrh anrh cdrh ctrh), slrh⟩)
    (cgrh : PySem.W.codeIn K cdrh "Rule.has" = true)
    (kgrh : PySem.W.keepIn K (.ref grh) = true)
    (amrt : PySem.W.findIn K (.ref CU) "turn" = some (some (.ref grt)))
    (airt : PySem.W.isFn K (.ref grt) = true)
    (lgrt : K.lookup grt = some ⟨ocrt, odrt, .func (PySem.W.fnOf "turn" "Rule.turn" (defArgs sTurnR) (defBody sTurnR) (defScope sTurnR) .none kVrt dcrt pmrt anrt cdrt ctrt), slrt⟩)
    (cgrt : PySem.W.codeIn K cdrt "Rule.turn" = true)
    (kgrt : PySem.W.keepIn K (.ref grt) = true)
    (amrl : PySem.W.findIn K (.ref CU) "lead" = some (some (.ref grl)))
    (airl : PySem.W.isFn K (.ref grl) = true)
    (lgrl : K.lookup grl = some ⟨ocrl, odrl, .func (PySem.W.fnOf "lead" "Rule.lead" (defArgs sLeadR) (defBody sLeadR) (defScope sLeadR) .none kVrl dcrl pmrl anrl cdrl ctrl), slrl⟩)
    (cgrl : PySem.W.codeIn K cdrl "Rule.lead" = true)
    (kgrl : PySem.W.keepIn K (.ref grl) = true)
    (amrx : PySem.W.findIn K (.ref CU) "is_mood" = some (some (.ref grx)))
    (airx : PySem.W.isFn K (.ref grx) = true)
    (lgrx : K.lookup grx = some ⟨ocrx, odrx, .func (PySem.W.fnOf "is_mood" "Rule.is_mood" (defArgs sIsMood) (defBody sIsMood) (defScope sIsMood) .none kVrx dcrx pmrx anrx cdrx ctrx), slrx⟩)
    (cgrx : PySem.W.codeIn K cdrx "Rule.is_mood" = true)
    (kgrx : PySem.W.keepIn K (.ref grx) = true)
    (amry : PySem.W.findIn K (.ref CU) "is_sign" = some (some (.ref gry)))
    (airy : PySem.W.isFn K (.ref gry) = true)
    (lgry : K.lookup gry = some ⟨ocry, odry, .func (PySem.W.fnOf "is_sign" "Rule.is_sign" (defArgs sIsSign) (defBody sIsSign) (defScope sIsSign) .none kVry dcry pmry anry cdry ctry), slry⟩)
    (cgry : PySem.W.codeIn K cdry "Rule.is_sign" = true)
    (kgry : PySem.W.keepIn K (.ref gry) = true)
    (atG : PySem.W.findIn K (.ref CU) "signs" = some (some (.ref pG)))
    (gtG : PySem.W.specialIn K (.ref pG) "__get__" = some (some (.builtin "property.__get__")))
    (ttG : PySem.W.takesIn K (.ref pG) = some true)
    (rtG : PySem.W.recIn K pG "property" = some (.ref gpG :: rsG))
    (lgpG : K.lookup gpG = some ⟨ocpG, odpG, .func (PySem.W.fnOf "signs" "Rule.signs" (defArgs (inClass sRule 2)) (defBody (inClass sRule 2)) (defScope (inClass sRule 2)) .none kVpG dcpG pmpG anpG cdpG ctpG), slpG⟩)
    (cgpG : PySem.W.codeIn K cdpG "Rule.signs" = true)
    (kgpG : PySem.W.keepIn K (.ref gpG) = true)
    (atT : PySem.W.findIn K (.ref CU) "text" = some (some (.ref pT)))
    (gtT : PySem.W.specialIn K (.ref pT) "__get__" = some (some (.builtin "property.__get__")))
    (ttT : PySem.W.takesIn K (.ref pT) = some true)
    (rtT : PySem.W.recIn K pT "property" = some (.ref gpT :: rsT))
    (lgpT : K.lookup gpT = some ⟨ocpT, odpT, .func (PySem.W.fnOf "text" "Rule.text" (defArgs (inClass sRule 1)) (defBody (inClass sRule 1)) (defScope (inClass sRule 1)) .none kVpT dcpT pmpT anpT cdpT ctpT), slpT⟩)
    (cgpT : PySem.W.codeIn K cdpT "Rule.text" = true)
    (kgpT : PySem.W.keepIn K (.ref gpT) = true)
    (av0 : PySem.W.nsIn K mainGlobals "MOST_SIGNS" = some (some (.int 3 tk0)))
    (av1 : PySem.W.nsIn K mainGlobals "MOST_MOODS" = some (some (.int 300 tk1)))
    (av2 : PySem.W.nsIn K mainGlobals "MOST_ROW" = some (some (.int 1000 tk2)))
    (av3 : PySem.W.nsIn K mainGlobals "LONGEST_WORD" = some (some (.int 8 tk3)))
    (av4 : PySem.W.nsIn K mainGlobals "LETTERS" = some (some (.str abc tk4)))
    (av5 : PySem.W.nsIn K mainGlobals "MOST_CHANGES" = some (some (.int 6 tk5)))
    (at_T : PySem.W.nsIn K mainGlobals "TITLES" = some (some (.ref tT)))
    (ktT : ∀ H, SqT K H tT (titles.map V.str))
    (at_K : PySem.W.nsIn K mainGlobals "KINDS_WITHOUT_SETS" = some (some (.ref tK)))
    (ktK : ∀ H, SqT K H tK ([.str "last", .str "ends", .str "windows"] : List V))
    (pg : PySem.W.plainGet K CU Str.empty = true)
    (hd : PySem.W.hasDictIn K CU = true)
    (po : PySem.W.plainOver K CU = true)
    (sa : PySem.W.findIn K (.ref CU) "__setattr__" = some (some (.builtin "object.__setattr__")))
    (mk : PySem.W.makesIn K CU = true)
    (kc : PySem.W.keepIn K (.ref CU) = true)
    (nf0 : PySem.W.findIn K (.ref CU) "written" = some none)
    (nf1 : PySem.W.findIn K (.ref CU) "letters" = some none)
    (nf2 : PySem.W.findIn K (.ref CU) "words" = some none)
    (nf3 : PySem.W.findIn K (.ref CU) "chosen" = some none)
    (nf4 : PySem.W.findIn K (.ref CU) "goals" = some none)
    (ic1 : PySem.W.findIn K (.ref CU) "__class__" = some (some (.builtin "object.__class__")))
    (ic2 : PySem.W.specialIn K (.builtin "object.__class__") "__get__" = some (some (.builtin "getset_descriptor.__get__")))
    (ic3 : PySem.W.takesIn K (.builtin "object.__class__") = some true)
    (ic4 : PySem.W.mroIn K CU (.type "object") = some true)
    (ic5 : PySem.W.kitOne K (.ref CU) (.ref CU) = some true)
    (hcf : chkF K = true) :
    ∃ fd : FuncData, (∀ (s : Shared) (v : Value), BindsTo s fd ⟨[v], []⟩ [("_law_script", v)]) ∧ ∀ base : Heap, K.In base → base.Ns mainGlobals mg → (∀ q ∈ [(clo, Plo)], TabB base mg q.1 q.2) → FnG l.prog w K mg base CX0 11 fa fd ["_law_script"] (spLawT [(Plo, qLt)] K) := by
  have e := hfa.symm.trans (PySem.W.mg_of X G agll)
  cases e
  have fr := fun {x : Str} (hx : x ∈ frees) => free_of X G hcf hx
  have mcCU := PySem.W.mg_of X G acCU
  have Fol := fun_mk (st := sMade) lgol cgol kgol
  have bol := Fol.binds (ps := ["text", "letters"]) fun _ _ _ _ _ _ us hl => match us, hl with | [_, _], _ => rfl
  have mol := PySem.W.mg_of X G agol
  have Fro := fun_mk (st := sRowOf) lgro cgro kgro
  have bro := Fro.binds (ps := ["value", "letters"]) fun _ _ _ _ _ _ us hl => match us, hl with | [_, _], _ => rfl
  have mro := PySem.W.mg_of X G agro
  have Fiw := fun_mk (st := sWord) lgiw cgiw kgiw
  have biw := Fiw.binds (ps := ["text"]) fun _ _ _ _ _ _ us hl => match us, hl with | [_], _ => rfl
  have miw := PySem.W.mg_of X G agiw
  have Fas := fun_mk (st := sSigns) lgas cgas kgas
  have bas := Fas.binds (ps := ["words"]) fun _ _ _ _ _ _ us hl => match us, hl with | [_], _ => rfl
  have mas := PySem.W.mg_of X G agas
  have Fam := fun_mk (st := sMoods) lgam cgam kgam
  have bam := Fam.binds (ps := ["words"]) fun _ _ _ _ _ _ us hl => match us, hl with | [_], _ => rfl
  have mam := PySem.W.mg_of X G agam
  have Fag := fun_mk (st := sGood) lgag cgag kgag
  have bag := Fag.binds (ps := ["words", "moods"]) fun _ _ _ _ _ _ us hl => match us, hl with | [_, _], _ => rfl
  have mag := PySem.W.mg_of X G agag
  have Frg := fun_mk (st := sGoals) lgrg cgrg kgrg
  have brg := Frg.binds (ps := ["signs", "moods", "rows"]) fun _ _ _ _ _ _ us hl => match us, hl with | [_, _, _], _ => rfl
  have mrg := PySem.W.mg_of X G agrg
  have Frr := fun_mk (st := sRead) lgrr cgrr kgrr
  have brr := Frr.binds (ps := ["text"]) fun _ _ _ _ _ _ us hl => match us, hl with | [_], _ => rfl
  have mrr := PySem.W.mg_of X G agrr
  have Fwr := fun_mk (st := sWriteR) lgwr cgwr kgwr
  have bwr := Fwr.binds (ps := ["signs", "moods", "good", "goals"]) fun _ _ _ _ _ _ us hl => match us, hl with | [_, _, _, _], _ => rfl
  have mwr := PySem.W.mg_of X G agwr
  have Fcr := fun_mk (st := sCRule) lgcr cgcr kgcr
  have bcr := Fcr.binds (ps := ["value"]) fun _ _ _ _ _ _ us hl => match us, hl with | [_], _ => rfl
  have mcr := PySem.W.mg_of X G agcr
  have Fws := fun_mk (st := sIsWish) lgws cgws kgws
  have bws := Fws.binds (ps := ["value", "kinds"]) fun _ _ _ _ _ _ us hl => match us, hl with | [_, _], _ => rfl
  have mws := PySem.W.mg_of X G agws
  have Fgr := fun_mk (st := sGoodRow) lggr cggr kggr
  have bgr := Fgr.binds (ps := ["rule", "row"]) fun _ _ _ _ _ _ us hl => match us, hl with | [_, _], _ => rfl
  have mgr := PySem.W.mg_of X G aggr
  have Fho := fun_mk (st := sHoldsW) lgho cgho kgho
  have bho := Fho.binds (ps := ["rule", "wish"]) fun _ _ _ _ _ _ us hl => match us, hl with | [_, _], _ => rfl
  have mho := PySem.W.mg_of X G agho
  have Fcw := fun_mk (st := sCkWish) lgcw cgcw kgcw
  have bcw := Fcw.binds (ps := ["wishes"]) fun _ _ _ _ _ _ us hl => match us, hl with | [_], _ => rfl
  have mcw := PySem.W.mg_of X G agcw
  have Fix := fun_mk (st := sIsChange) lgix cgix kgix
  have bix := Fix.binds (ps := ["rule", "value"]) fun _ _ _ _ _ _ us hl => match us, hl with | [_, _], _ => rfl
  have mix := PySem.W.mg_of X G agix
  have Fcx := fun_mk (st := sCkChg) lgcx cgcx kgcx
  have bcx := Fcx.binds (ps := ["rule", "changes"]) fun _ _ _ _ _ _ us hl => match us, hl with | [_, _], _ => rfl
  have mcx := PySem.W.mg_of X G agcx
  have Fax := fun_mk (st := sAllLots) lgax cgax kgax
  have bax := Fax.binds (ps := ["number"]) fun _ _ _ _ _ _ us hl => match us, hl with | [_], _ => rfl
  have max := PySem.W.mg_of X G agax
  have Fip := fun_mk (st := sIsPart) lgip cgip kgip
  have bip := Fip.binds (ps := ["part", "lot"]) fun _ _ _ _ _ _ us hl => match us, hl with | [_, _], _ => rfl
  have mip := PySem.W.mg_of X G agip
  have Fdx := fun_mk (st := sChanged) lgdx cgdx kgdx
  have bdx := Fdx.binds (ps := ["rule", "changes"]) fun _ _ _ _ _ _ us hl => match us, hl with | [_, _], _ => rfl
  have mdx := PySem.W.mg_of X G agdx
  have Fme := fun_mk (st := sMending) lgme cgme kgme
  have bme := Fme.binds (ps := ["rule", "wishes", "changes"]) fun _ _ _ _ _ _ us hl => match us, hl with | [_, _, _], _ => rfl
  have mme := PySem.W.mg_of X G agme
  have Flc := fun_mk (st := sCell) lglc cglc kglc
  have blc := Flc.binds (ps := ["_law_cells", "_law_k"]) fun _ _ _ _ _ _ us hl => match us, hl with | [_, _], _ => rfl
  have mlc := PySem.W.mg_of X G aglc
  have Flu := fun_mk (st := sPurse) lglu cglu kglu
  have blu := Flu.binds (ps := ["_law_cell_here"]) fun _ _ _ _ _ _ us hl => match us, hl with | [_], _ => rfl
  have mlu := PySem.W.mg_of X G aglu
  have Flp := fun_mk (st := sPick) lglp cglp kglp
  have blp := Flp.binds (ps := ["_law_purse_here", "_law_size"]) fun _ _ _ _ _ _ us hl => match us, hl with | [_, _], _ => rfl
  have mlp := PySem.W.mg_of X G aglp
  have Flt := fun_mk (st := sLetters) lglt cglt kglt
  have blt := Flt.binds (ps := ["_law_purse_here", "_law_size"]) fun _ _ _ _ _ _ us hl => match us, hl with | [_, _], _ => rfl
  have mlt := PySem.W.mg_of X G aglt
  have Fla := fun_mk (st := sAim) lgla cgla kgla
  have bla := Fla.binds (ps := ["_law_purse_here", "_law_way", "_law_size", "_law_count", "_law_spot", "_law_step"]) fun _ _ _ _ _ _ us hl => match us, hl with | [_, _, _, _, _, _], _ => rfl
  have mla := PySem.W.mg_of X G agla
  have Flb := fun_mk (st := sBox) lglb cglb kglb
  have blb := Flb.binds (ps := ["_law_purse_here", "_law_letters_here"]) fun _ _ _ _ _ _ us hl => match us, hl with | [_, _], _ => rfl
  have mlb := PySem.W.mg_of X G aglb
  have Flx := fun_mk (st := sText) lglx cglx kglx
  have blx := Flx.binds (ps := ["_law_box_here"]) fun _ _ _ _ _ _ us hl => match us, hl with | [_], _ => rfl
  have mlx := PySem.W.mg_of X G aglx
  have Fld := fun_mk (st := sEnd) lgld cgld kgld
  have bld := Fld.binds (ps := ["_law_box_here", "_law_begin", "_law_line_here"]) fun _ _ _ _ _ _ us hl => match us, hl with | [_, _, _], _ => rfl
  have mld := PySem.W.mg_of X G agld
  have Flf := fun_mk (st := sFine) lglf cglf kglf
  have blf := Flf.binds (ps := ["_law_box_here", "_law_line_here"]) fun _ _ _ _ _ _ us hl => match us, hl with | [_, _], _ => rfl
  have mlf := PySem.W.mg_of X G aglf
  have Fle := fun_mk (st := sLine) lgle cgle kgle
  have ble := Fle.binds (ps := ["_law_purse_here", "_law_letters_here", "_law_size"]) fun _ _ _ _ _ _ us hl => match us, hl with | [_, _, _], _ => rfl
  have mle := PySem.W.mg_of X G agle
  have Fl1 := fun_mk (st := sChangesL) lgl1 cgl1 kgl1
  have bl1 := Fl1.binds (ps := ["_law_purse_here", "_law_box_here", "_law_most"]) fun _ _ _ _ _ _ us hl => match us, hl with | [_, _, _], _ => rfl
  have ml1 := PySem.W.mg_of X G agl1
  have Fl2 := fun_mk (st := sWithL) lgl2 cgl2 kgl2
  have bl2 := Fl2.binds (ps := ["_law_box_here", "_law_changes_here", "_law_lot"]) fun _ _ _ _ _ _ us hl => match us, hl with | [_, _, _], _ => rfl
  have ml2 := PySem.W.mg_of X G agl2
  have Flo := fun_mk (st := sLotsL) lglo cglo kglo
  have blo := Flo.binds (ps := ["_law_size"]) fun _ _ _ _ _ _ us hl => match us, hl with | [_], _ => rfl
  have mlo := PySem.W.mg_of X G aglo
  have Fl3 := fun_mk (st := sLeastL) lgl3 cgl3 kgl3
  have bl3 := Fl3.binds (ps := ["_law_size", "_law_holds_here"]) fun _ _ _ _ _ _ us hl => match us, hl with | [_, _], _ => rfl
  have ml3 := PySem.W.mg_of X G agl3
  have Fl4 := fun_mk (st := sHolds) lgl4 cgl4 kgl4
  have bl4 := Fl4.binds (ps := ["_law_box_here", "_law_wish_here"]) fun _ _ _ _ _ _ us hl => match us, hl with | [_, _], _ => rfl
  have ml4 := PySem.W.mg_of X G agl4
  have Fl5 := fun_mk (st := sWishL) lgl5 cgl5 kgl5
  have bl5 := Fl5.binds (ps := ["_law_purse_here", "_law_letters_here"]) fun _ _ _ _ _ _ us hl => match us, hl with | [_, _], _ => rfl
  have ml5 := PySem.W.mg_of X G agl5
  have Flg := fun_mk (st := sRight) lglg cglg kglg
  have blg := Flg.binds (ps := ["_law_purse_here"]) fun _ _ _ _ _ _ us hl => match us, hl with | [_], _ => rfl
  have mlg := PySem.W.mg_of X G aglg
  have Fll := fun_mk (st := sLaw) lgll cgll kgll
  have bll := Fll.binds (ps := ["_law_script"]) fun _ _ _ _ _ _ us hl => match us, hl with | [_], _ => rfl
  have mll := PySem.W.mg_of X G agll
  have Fri := fun_mk (st := sInit) lgri cgri kgri
  have bri := Fri.binds (ps := ["self", "text"]) fun _ _ _ _ _ _ us hl => match us, hl with | [_, _], _ => rfl
  have Frm := fun_mk (st := sMood) lgrm cgrm kgrm
  have brm := Frm.binds (ps := ["self", "row"]) fun _ _ _ _ _ _ us hl => match us, hl with | [_, _], _ => rfl
  have Frh := fun_mk (st := sHas) lgrh cgrh kgrh
  have brh := Frh.binds (ps := ["self", "row"]) fun _ _ _ _ _ _ us hl => match us, hl with | [_, _], _ => rfl
  have Frt := fun_mk (st := sTurnR) lgrt cgrt kgrt
  have brt := Frt.binds (ps := ["self", "mood"]) fun _ _ _ _ _ _ us hl => match us, hl with | [_, _], _ => rfl
  have Frl := fun_mk (st := sLeadR) lgrl cgrl kgrl
  have brl := Frl.binds (ps := ["self", "mood", "sign", "goal"]) fun _ _ _ _ _ _ us hl => match us, hl with | [_, _, _, _], _ => rfl
  have Frx := fun_mk (st := sIsMood) lgrx cgrx kgrx
  have brx := Frx.binds (ps := ["self", "mood"]) fun _ _ _ _ _ _ us hl => match us, hl with | [_, _], _ => rfl
  have Fry := fun_mk (st := sIsSign) lgry cgry kgry
  have bry := Fry.binds (ps := ["self", "sign"]) fun _ _ _ _ _ _ us hl => match us, hl with | [_, _], _ => rfl
  have FpG := fun_mk (st := (inClass sRule 2)) lgpG cgpG kgpG
  have bpG := FpG.binds (ps := ["self"]) fun _ _ _ _ _ _ us hl => match us, hl with | [_], _ => rfl
  have FpT := fun_mk (st := (inClass sRule 1)) lgpT cgpT kgpT
  have bpT := FpT.binds (ps := ["self"]) fun _ _ _ _ _ _ us hl => match us, hl with | [_], _ => rfl
  have v0 := PySem.W.mg_of X G av0
  have v1 := PySem.W.mg_of X G av1
  have v2 := PySem.W.mg_of X G av2
  have v3 := PySem.W.mg_of X G av3
  have v4 := PySem.W.mg_of X G av4
  have v5 := PySem.W.mg_of X G av5
  refine ⟨PySem.W.fnOf "law" "law" (defArgs sLaw) (defBody sLaw) (defScope sLaw) .none kVll dcll pmll anll cdll ctll, fun s v => .of_eq rfl, fun base _ _ hTB => ?_⟩
  have TBl : TabB base mg clo Plo := hTB (clo, Plo) (by simp)
  have T : RuC K CU := ⟨⟨pg, hd, po, sa⟩, nf0, nf1, nf2, nf3, nf4⟩
  have IU : InC K CU := ⟨T.cl, ic1, ic2, ic3, ic4, ic5⟩
  have hOl : Hv l.prog w K mg base 1 "made_of" ["text", "letters"] spMade := ⟨_, _, ok_made Fol (fr (by decide)), bol, mol, kgol⟩
  have hIw : Hv l.prog w K mg base 2 "is_word" ["text"] spWord := ⟨_, _, ok_word Fiw hOl (fr (by decide)) v3 v4, biw, miw, kgiw⟩
  have hAs : Hv l.prog w K mg base 2 "are_signs" ["words"] (spSigns K) := ⟨_, _, ok_signs Fas hOl v4 (fr (by decide)) (fr (by decide)) (fr (by decide)) v0, bas, mas, kgas⟩
  have hAm : Hv l.prog w K mg base 3 "are_moods" ["words"] (spMoods K) := ⟨_, _, ok_moods Fam hIw (fr (by decide)) (fr (by decide)) (fr (by decide)) v1, bam, mam, kgam⟩
  have hAg : Hv l.prog w K mg base 1 "are_good" ["words", "moods"] (spGood K) := ⟨_, _, ok_good Fag, bag, mag, kgag⟩
  have hRg : Hv l.prog w K mg base 1 "read_goals" ["signs", "moods", "rows"] spGoals := ⟨_, _, ok_goals Frg (fr (by decide)) (fr (by decide)), brg, mrg, kgrg⟩
  have hRr : Hv l.prog w K mg base 4 "read_rule" ["text"] spRead := ⟨_, _, ok_read Frr hAs hAm hAg hRg (PySem.W.mg_of X G at_T) ktT (fr (by decide)) (fr (by decide)), brr, mrr, kgrr⟩
  have GU := ok_init (P := l.prog) (w := w) (base := base) Fri T hRr (fr (by decide)) (fr (by decide))
  have MU : Mk K CU gri := ⟨mk, amri, airi, kc⟩
  have hRo : Hv l.prog w K mg base 2 "is_row_of" ["value", "letters"] spRow := ⟨_, _, ok_row Fro hOl (fr (by decide)) (fr (by decide)) (fr (by decide)) v2, bro, mro, kgro⟩
  have hRm : HvM l.prog w K mg base 3 CU "mood" ["self", "row"] (spMood CU) := ⟨_, _, ok_mood Frm T hRo, brm, ⟨amrm, airm, kgrm⟩⟩
  have hRh : HvM l.prog w K mg base 4 CU "has" ["self", "row"] (spHas CU) := ⟨_, _, ok_has Frh T hRm, brh, ⟨amrh, airh, kgrh⟩⟩
  have hRx : HvM l.prog w K mg base 1 CU "is_mood" ["self", "mood"] (spIsMood CU) := ⟨_, _, ok_isMood Frx T (fr (by decide)) (fr (by decide)), brx, ⟨amrx, airx, kgrx⟩⟩
  have scG : FnScope ["self"] ["self"] (defScope (inClass sRule 2)) := ⟨rfl, rfl, rfl, by decide +kernel, rfl, by decide +kernel, by decide +kernel⟩
  have GG : FnOk l.prog w K mg base CX0 1 gpG _ ["self"] (getSp CU "letters") := fn_getter lgpG cgpG scG rfl rfl T.cl nf1
  have PG : PrF l.prog w K mg base CU "signs" "letters" := ⟨pG, gpG, _, ⟨atG, gtG, ttG, _, rtG⟩, GG, bpG⟩
  have hWr : Hv l.prog w K mg base 1 "write_rule" ["signs", "moods", "good", "goals"] spWrite := ⟨_, _, ok_write Fwr, bwr, mwr, kgwr⟩
  have hRy : HvM l.prog w K mg base 1 CU "is_sign" ["self", "sign"] (spIsSign CU) := ⟨_, _, ok_isSign Fry T (fr (by decide)) (fr (by decide)) (fr (by decide)), bry, ⟨amry, airy, kgry⟩⟩
  have hRl : HvM l.prog w K mg base 7 CU "lead" ["self", "mood", "sign", "goal"] (spLead CU) := ⟨_, _, ok_lead Frl T hRx hRy hWr MU GU bri mcCU, brl, ⟨amrl, airl, kgrl⟩⟩
  have hRt : HvM l.prog w K mg base 7 CU "turn" ["self", "mood"] (spTurn CU) := ⟨_, _, ok_turn Frt T hRx hWr MU GU bri mcCU, brt, ⟨amrt, airt, kgrt⟩⟩
  have hCr : Hv l.prog w K mg base 1 "check_rule" ["value"] (spCkRule CU) := ⟨_, _, ok_ckRule Fcr IU (fr (by decide)) mcCU, bcr, mcr, kgcr⟩
  have hGr : Hv l.prog w K mg base 5 "is_good_row" ["rule", "row"] (spGoodRow CU) := ⟨_, _, ok_goodRow Fgr T hOl PG hRh, bgr, mgr, kggr⟩
  have hHo : Hv l.prog w K mg base 6 "holds" ["rule", "wish"] (spHoldsR CU) := ⟨_, _, ok_holdsR Fho hGr, bho, mho, kgho⟩
  have hWs : Hv l.prog w K mg base 3 "is_wish" ["value", "kinds"] spIsWishR := ⟨_, _, ok_isWishR Fws hRo v4 (fr (by decide)) (fr (by decide)) (fr (by decide)) (fr (by decide)), bws, mws, kgws⟩
  have hCw : Hv l.prog w K mg base 4 "check_wishes" ["wishes"] spCkWish := ⟨_, _, ok_ckWish Fcw hWs (PySem.W.mg_of X G at_K) (fr (by decide)) (fr (by decide)) (fr (by decide)), bcw, mcw, kgcw⟩
  have hIx : Hv l.prog w K mg base 2 "is_change" ["rule", "value"] (spIsChgG CU) := ⟨_, _, ok_isChgG Fix T hRx hRy (fr (by decide)) (fr (by decide)) (fr (by decide)), bix, mix, kgix⟩
  have hCx : Hv l.prog w K mg base 3 "check_changes" ["rule", "changes"] (spCkChgG CU) := ⟨_, _, ok_ckChgG Fcx hIx v5 (fr (by decide)) (fr (by decide)) (fr (by decide)), bcx, mcx, kgcx⟩
  have hAx : Hv l.prog w K mg base 1 "all_lots" ["number"] spAllLots := ⟨_, _, ok_allLots Fax (fr (by decide)) (fr (by decide)), bax, max, kgax⟩
  have hIp : Hv l.prog w K mg base 1 "is_part" ["part", "lot"] spIsPart := ⟨_, _, ok_isPart Fip (fr (by decide)), bip, mip, kgip⟩
  have hDx : Hv l.prog w K mg base 8 "changed_rule" ["rule", "changes"] (spChangedG CU) := ⟨_, _, ok_changedG Fdx T hRt hRl (fr (by decide)), bdx, mdx, kgdx⟩
  have hMe : Hv l.prog w K mg base 9 "mending" ["rule", "wishes", "changes"] (spMendingG CU) := ⟨_, _, ok_mendingG Fme hCr hCw hCx hAx hIp hDx hHo (fr (by decide)) (fr (by decide)) (fr (by decide)) (fr (by decide)), bme, mme, kgme⟩
  have hCe : Hv l.prog w K mg base 1 "_law_cell" ["_law_cells", "_law_k"] (spCell K) := ⟨_, _, ok_cell Flc (fr (by decide)) (fr (by decide)), blc, mlc, kglc⟩
  have hPu : Hv l.prog w K mg base 1 "_law_purse" ["_law_cell_here"] spPurse := ⟨_, _, ok_purse Flu (fr (by decide)) (fr (by decide)), blu, mlu, kglu⟩
  have hPk : Hv l.prog w K mg base 1 "_law_pick" ["_law_purse_here", "_law_size"] spPk := ⟨_, _, ok_pk Flp (fr (by decide)) (fr (by decide)), blp, mlp, kglp⟩
  have hLt : Hv l.prog w K mg base 2 "_law_letters" ["_law_purse_here", "_law_size"] spLetters := ⟨_, _, ok_letters Flt hPk (fr (by decide)), blt, mlt, kglt⟩
  have hAi : Hv l.prog w K mg base 2 "_law_aim" ["_law_purse_here", "_law_way", "_law_size", "_law_count", "_law_spot", "_law_step"] spAim := ⟨_, _, ok_aim Fla hPk (fr (by decide)), bla, mla, kgla⟩
  have hBx : Hv l.prog w K mg base 3 "_law_box" ["_law_purse_here", "_law_letters_here"] spBox := ⟨_, _, ok_box Flb hPk hAi (fr (by decide)) (fr (by decide)) (fr (by decide)), blb, mlb, kglb⟩
  have hTx : Hv l.prog w K mg base 1 "_law_text" ["_law_box_here"] spTextB := ⟨_, _, ok_textB Flx, blx, mlx, kglx⟩
  have hEn : Hv l.prog w K mg base 1 "_law_end" ["_law_box_here", "_law_begin", "_law_line_here"] spEndB := ⟨_, _, ok_endB Fld, bld, mld, kgld⟩
  have hFi : Hv l.prog w K mg base 2 "_law_is_fine" ["_law_box_here", "_law_line_here"] spFineZ := ⟨_, _, ok_fineZ Flf hEn, blf, mlf, kglf⟩
  have hLi : Hv l.prog w K mg base 2 "_law_line" ["_law_purse_here", "_law_letters_here", "_law_size"] spLineZ := ⟨_, _, ok_lineZ Fle hPk (fr (by decide)) (fr (by decide)), ble, mle, kgle⟩
  have hWi : Hv l.prog w K mg base 3 "_law_wish" ["_law_purse_here", "_law_letters_here"] spWishZ := ⟨_, _, ok_wishZ Fl5 hPk hLi, bl5, ml5, kgl5⟩
  have hHl : Hv l.prog w K mg base 3 "_law_holds" ["_law_box_here", "_law_wish_here"] spHoldsZ := ⟨_, _, ok_holdsZ Fl4 hFi, bl4, ml4, kgl4⟩
  have hCh : Hv l.prog w K mg base 2 "_law_changes" ["_law_purse_here", "_law_box_here", "_law_most"] spChangesZ := ⟨_, _, ok_changesZ Fl1 hPk (fr (by decide)) (fr (by decide)), bl1, ml1, kgl1⟩
  have hWt : Hv l.prog w K mg base 1 "_law_with" ["_law_box_here", "_law_changes_here", "_law_lot"] spWithZ := ⟨_, _, ok_withZ Fl2 (fr (by decide)) (fr (by decide)) (fr (by decide)), bl2, ml2, kgl2⟩
  have hLo : Hv l.prog w K mg base 1 "_law_lots" ["_law_size"] (spLotsT [(Plo, qLt)]) := ⟨_, _, ok_lotsL lglo cglo TBl (by simp) (by simp) (fr (by decide)) (fr (by decide)) (fr (by decide)) (fr (by decide)), blo, mlo, kglo⟩
  have hLe : Hv l.prog w K mg base 2 "_law_least_lots" ["_law_size", "_law_holds_here"] (spLeastZ [(Plo, qLt)]) := ⟨_, _, ok_leastZ Fl3 hLo (fr (by decide)), bl3, ml3, kgl3⟩
  have scT : FnScope ["self"] ["self"] (defScope (inClass sRule 1)) := ⟨rfl, rfl, rfl, by decide +kernel, rfl, by decide +kernel, by decide +kernel⟩
  have GT : FnOk l.prog w K mg base CX0 1 gpT _ ["self"] (getSp CU "written") := fn_getter lgpT cgpT scT rfl rfl T.cl nf0
  have R6 : R61 l.prog w K mg base CU [(Plo, qLt)] := {
    T := T
    hP := hPk
    hLt := hLt
    hBx := hBx
    hTx := hTx
    hWi := hWi
    hCh := hCh
    hWt := hWt
    hHo := hHl
    hLo := hLo
    hLe := hLe
    hMe := hMe
    mkr := ⟨_, _, MU, GU, bri, mcCU⟩
    PT := ⟨pT, gpT, _, ⟨atT, gtT, ttT, _, rtT⟩, GT, bpT⟩
    hTu := (fr (by decide))
    hL := (fr (by decide))
    hRa := (fr (by decide))
    hRe := (fr (by decide)) }
  exact ok_lawN Fll (fr (by decide)) (fr (by decide)) (fr (by decide)) (fr (by decide)) (fr (by decide)) hCe hPu (ok_right61 Flg R6) blg mlg kglg
end
end My
namespace L2
open PySem PySem.Spec PyProof.Rows
/-- the end over a part of the heap that a hook tells -/
theorem walk_GE {l : PySem.W.OpenLaw} {n k : Nat} {q : Program} {loose : List Str} {XP : (Str → Option Value) → Heap → Prop} {YP : World → Heap → Prop} {d : DefRec} {sp : PySem.W.Frag → Sp} {x : Str}
    (hn : l.most = some n) (hn2 : n ≤ sizeLine) (hdf : d.params.defaults = []) (hr : Room k callerA)
    (F : ∀ (w : World) (mg : Str → Option Value) (fa : Addr) (h : Heap), YP w h → h.Ns mainGlobals mg → mg d.name = some (.ref fa) →
      ∃ (K : PySem.W.Frag) (fd : FuncData), K.In h ∧ (∀ (s : Shared) (u : Value), BindsTo s fd ⟨[u], []⟩ [(x, u)]) ∧
        ∀ base : Heap, K.In base → base.Ns mainGlobals mg → FnG l.prog w K mg base CX0 k fa fd [x] (sp K))
    (hsp : ∀ (K : PySem.W.Frag) (H : Hp) (a : Addr) (ns : List Int), ns.length ≤ n → Only H → SqL K H a (ns.map V.int) → sp K [.ref a] H (fun v _ => v = .bl true) fun _ _ _ => False) :
    PySem.W.WalkO q loose XP YP l.row.toRowW d [] (fun f vs => PySem.call f vs) := by
  refine Att.attach_call hn hdf fun w s₀ s1 mg mb fa o pm cd doc a vs ns G Y ho hd hcd hmg hobj hints hlen hg => ?_
  obtain ⟨K, fd, KX, hb, hF⟩ := F w mg fa _ Y G.T.g hmg
  exact law_callG KX G.T.g G.T.b G.T.builtins G.T.nolimit hg hobj hints (Nat.le_trans hlen hn2) hr hF hb (fun H hO hS => hsp K H a ns hlen hO hS) fun _ _ _ z => z
/-- .. of a law whose defs make lambdas -/
theorem walk_GTE {l : PySem.W.OpenLaw} {n k : Nat} {q : Program} {loose : List Str} {XP : (Str → Option Value) → Heap → Prop} {YP : World → Heap → Prop} {d : DefRec} {sp : PySem.W.Frag → List (Addr × Addr) → Sp} {x : Str}
    (hn : l.most = some n) (hn2 : n ≤ sizeLine) (hdf : d.params.defaults = []) (hr : Room k callerA)
    (F : ∀ (w : World) (mg : Str → Option Value) (fa : Addr) (h : Heap), YP w h → h.Ns mainGlobals mg → mg d.name = some (.ref fa) →
      ∃ (K : PySem.W.Frag) (ts : List (Addr × Addr)) (fd : FuncData), K.In h ∧ (∀ q ∈ ts, h.get? q.2 = some (PySem.W.tabObj #[]) ∧ K.lookup q.2 = none ∧ PySem.W.CodeHd h q.1 q.2) ∧ (∀ (s : Shared) (u : Value), BindsTo s fd ⟨[u], []⟩ [(x, u)]) ∧
        ∀ base : Heap, K.In base → base.Ns mainGlobals mg → (∀ q ∈ ts, LamX.TabB base mg q.1 q.2) → FnG l.prog w K mg base CX0 k fa fd [x] (sp K ts))
    (hsp : ∀ (K : PySem.W.Frag) (ts : List (Addr × Addr)) (H : Hp) (a : Addr) (ns : List Int), ns.length ≤ n → (∀ q ∈ ts, H q.2 = some (.tbl #[])) → SqL K H a (ns.map V.int) → sp K ts [.ref a] H (fun v _ => v = .bl true) fun _ _ _ => False) :
    PySem.W.WalkO q loose XP YP l.row.toRowW d [] (fun f vs => PySem.call f vs) := by
  refine Att.attach_call hn hdf fun w s₀ s1 mg mb fa o pm cd doc a vs ns G Y ho hd hcd hmg hobj hints hlen hg => ?_
  obtain ⟨K, ts, fd, KX, t1, hb, hF⟩ := F w mg fa _ Y G.T.g hmg
  exact law_callGT KX G.T.g G.T.b G.T.builtins G.T.nolimit hg t1 G.T.bmain hobj hints (Nat.le_trans hlen hn2) hr hF hb (fun H hT hS => hsp K ts H a ns hlen hT hS) fun _ _ _ z => z
end L2
namespace My
open PySem PySem.Spec PyProof.Rows L2
theorem facts {w : World} {K : PySem.W.Frag} {h : Heap} {mg : Str → Option Value} {f : Addr} (X : K.In h) (G : h.Ns mainGlobals mg) (hfa : mg ("law" : Str) = some (.ref f)) (c : Hq.SaysQ qs fns tfs h K) :
    ∃ fd : FuncData, (∀ (s : Shared) (v : Value), BindsTo s fd ⟨[v], []⟩ [("_law_script", v)]) ∧ ∀ base : Heap, K.In base → base.Ns mainGlobals mg → (∀ q ∈ tfs.map (Hq.cTab K), LamX.TabB base mg q.1 q.2) → FnG PySem.Challenge.rw_shortlooks_k61_whole_mends_for_rows.prog w K mg base CX0 11 f fd ["_law_script"] (My.spLawT (My.tbOf (tfs.map (Hq.cTab K))) K) := by
  obtain ⟨oc0, od0, sl0, kV0, dc0, pm0, an0, cv0, ct0, l0, d0⟩ := c.def_ 0 (d := fn0) rfl
  obtain ⟨oc1, od1, sl1, kV1, dc1, pm1, an1, cv1, ct1, l1, d1⟩ := c.def_ 1 (d := fn1) rfl
  obtain ⟨oc2, od2, sl2, kV2, dc2, pm2, an2, cv2, ct2, l2, d2⟩ := c.def_ 2 (d := fn2) rfl
  obtain ⟨oc3, od3, sl3, kV3, dc3, pm3, an3, cv3, ct3, l3, d3⟩ := c.def_ 3 (d := fn3) rfl
  obtain ⟨oc4, od4, sl4, kV4, dc4, pm4, an4, cv4, ct4, l4, d4⟩ := c.def_ 4 (d := fn4) rfl
  obtain ⟨oc5, od5, sl5, kV5, dc5, pm5, an5, cv5, ct5, l5, d5⟩ := c.def_ 5 (d := fn5) rfl
  obtain ⟨oc6, od6, sl6, kV6, dc6, pm6, an6, cv6, ct6, l6, d6⟩ := c.def_ 6 (d := fn6) rfl
  obtain ⟨oc7, od7, sl7, kV7, dc7, pm7, an7, cv7, ct7, l7, d7⟩ := c.def_ 7 (d := fn7) rfl
  obtain ⟨oc8, od8, sl8, kV8, dc8, pm8, an8, cv8, ct8, l8, d8⟩ := c.def_ 8 (d := fn8) rfl
  obtain ⟨oc9, od9, sl9, kV9, dc9, pm9, an9, cv9, ct9, l9, d9⟩ := c.def_ 9 (d := fn9) rfl
  obtain ⟨oc10, od10, sl10, kV10, dc10, pm10, an10, cv10, ct10, l10, d10⟩ := c.def_ 10 (d := fn10) rfl
  obtain ⟨oc11, od11, sl11, kV11, dc11, pm11, an11, cv11, ct11, l11, d11⟩ := c.def_ 11 (d := fn11) rfl
  obtain ⟨oc12, od12, sl12, kV12, dc12, pm12, an12, cv12, ct12, l12, d12⟩ := c.def_ 12 (d := fn12) rfl
  obtain ⟨oc13, od13, sl13, kV13, dc13, pm13, an13, cv13, ct13, l13, d13⟩ := c.def_ 13 (d := fn13) rfl
  obtain ⟨oc14, od14, sl14, kV14, dc14, pm14, an14, cv14, ct14, l14, d14⟩ := c.def_ 14 (d := fn14) rfl
  obtain ⟨oc15, od15, sl15, kV15, dc15, pm15, an15, cv15, ct15, l15, d15⟩ := c.def_ 15 (d := fn15) rfl
  obtain ⟨oc16, od16, sl16, kV16, dc16, pm16, an16, cv16, ct16, l16, d16⟩ := c.def_ 16 (d := fn16) rfl
  obtain ⟨oc17, od17, sl17, kV17, dc17, pm17, an17, cv17, ct17, l17, d17⟩ := c.def_ 17 (d := fn17) rfl
  obtain ⟨oc18, od18, sl18, kV18, dc18, pm18, an18, cv18, ct18, l18, d18⟩ := c.def_ 18 (d := fn18) rfl
  obtain ⟨oc19, od19, sl19, kV19, dc19, pm19, an19, cv19, ct19, l19, d19⟩ := c.def_ 19 (d := fn19) rfl
  obtain ⟨oc20, od20, sl20, kV20, dc20, pm20, an20, cv20, ct20, l20, d20⟩ := c.def_ 20 (d := fn20) rfl
  obtain ⟨oc21, od21, sl21, kV21, dc21, pm21, an21, cv21, ct21, l21, d21⟩ := c.def_ 21 (d := fn21) rfl
  obtain ⟨oc22, od22, sl22, kV22, dc22, pm22, an22, cv22, ct22, l22, d22⟩ := c.def_ 22 (d := fn22) rfl
  obtain ⟨oc23, od23, sl23, kV23, dc23, pm23, an23, cv23, ct23, l23, d23⟩ := c.def_ 23 (d := fn23) rfl
  obtain ⟨oc24, od24, sl24, kV24, dc24, pm24, an24, cv24, ct24, l24, d24⟩ := c.def_ 24 (d := fn24) rfl
  obtain ⟨oc25, od25, sl25, kV25, dc25, pm25, an25, cv25, ct25, l25, d25⟩ := c.def_ 25 (d := fn25) rfl
  obtain ⟨oc26, od26, sl26, kV26, dc26, pm26, an26, cv26, ct26, l26, d26⟩ := c.def_ 26 (d := fn26) rfl
  obtain ⟨oc27, od27, sl27, kV27, dc27, pm27, an27, cv27, ct27, l27, d27⟩ := c.def_ 27 (d := fn27) rfl
  obtain ⟨oc28, od28, sl28, kV28, dc28, pm28, an28, cv28, ct28, l28, d28⟩ := c.def_ 28 (d := fn28) rfl
  obtain ⟨oc29, od29, sl29, kV29, dc29, pm29, an29, cv29, ct29, l29, d29⟩ := c.def_ 29 (d := fn29) rfl
  obtain ⟨oc30, od30, sl30, kV30, dc30, pm30, an30, cv30, ct30, l30, d30⟩ := c.def_ 30 (d := fn30) rfl
  obtain ⟨oc31, od31, sl31, kV31, dc31, pm31, an31, cv31, ct31, l31, d31⟩ := c.def_ 31 (d := fn31) rfl
  obtain ⟨oc32, od32, sl32, kV32, dc32, pm32, an32, cv32, ct32, l32, d32⟩ := c.def_ 32 (d := fn32) rfl
  obtain ⟨oc33, od33, sl33, kV33, dc33, pm33, an33, cv33, ct33, l33, d33⟩ := c.def_ 33 (d := fn33) rfl
  obtain ⟨oc34, od34, sl34, kV34, dc34, pm34, an34, cv34, ct34, l34, d34⟩ := c.def_ 34 (d := fn34) rfl
  obtain ⟨oc35, od35, sl35, kV35, dc35, pm35, an35, cv35, ct35, l35, d35⟩ := c.def_ 35 (d := fn35) rfl
  obtain ⟨oc36, od36, sl36, kV36, dc36, pm36, an36, cv36, ct36, l36, d36⟩ := c.def_ 36 (d := fn36) rfl
  obtain ⟨oc37, od37, sl37, kV37, dc37, pm37, an37, cv37, ct37, l37, d37⟩ := c.def_ 37 (d := fn37) rfl
  obtain ⟨oc38, od38, sl38, kV38, dc38, pm38, an38, cv38, ct38, l38, d38⟩ := c.def_ 38 (d := fn38) rfl
  obtain ⟨oc39, od39, sl39, kV39, dc39, pm39, an39, cv39, ct39, l39, d39⟩ := c.def_ 39 (d := fn39) rfl
  obtain ⟨oc40, od40, sl40, kV40, dc40, pm40, an40, cv40, ct40, l40, d40⟩ := c.def_ 40 (d := fn40) rfl
  obtain ⟨oc41, od41, sl41, kV41, dc41, pm41, an41, cv41, ct41, l41, d41⟩ := c.def_ 41 (d := fn41) rfl
  obtain ⟨oc42, od42, sl42, kV42, dc42, pm42, an42, cv42, ct42, l42, d42⟩ := c.def_ 42 (d := fn42) rfl
  obtain ⟨oc43, od43, sl43, kV43, dc43, pm43, an43, cv43, ct43, l43, d43⟩ := c.def_ 43 (d := fn43) rfl
  obtain ⟨oc44, od44, sl44, kV44, dc44, pm44, an44, cv44, ct44, l44, d44⟩ := c.def_ 44 (d := fn44) rfl
  obtain ⟨oc45, od45, sl45, kV45, dc45, pm45, an45, cv45, ct45, l45, d45⟩ := c.def_ 45 (d := fn45) rfl
  obtain ⟨oc46, od46, sl46, kV46, dc46, pm46, an46, cv46, ct46, l46, d46⟩ := c.def_ 46 (d := fn46) rfl
  obtain rfl := Hq.codeAt_ref l32 d32
  exact all_mk (Plo := Hq.tabAt K (Hq.codeAt K (He.ga K "_law_lots"))) X G hfa (of_decide_eq_true (c.fact 0 (f := q0) rfl)) (of_decide_eq_true (c.fact 1 (f := q1) rfl)) l0 d0 (of_decide_eq_true (c.fact 2 (f := q2) rfl)) (of_decide_eq_true (c.fact 3 (f := q3) rfl)) l1 d1 (of_decide_eq_true (c.fact 4 (f := q4) rfl)) (of_decide_eq_true (c.fact 5 (f := q5) rfl)) l2 d2 (of_decide_eq_true (c.fact 6 (f := q6) rfl)) (of_decide_eq_true (c.fact 7 (f := q7) rfl)) l3 d3 (of_decide_eq_true (c.fact 8 (f := q8) rfl)) (of_decide_eq_true (c.fact 9 (f := q9) rfl)) l4 d4 (of_decide_eq_true (c.fact 10 (f := q10) rfl)) (of_decide_eq_true (c.fact 11 (f := q11) rfl)) l5 d5 (of_decide_eq_true (c.fact 12 (f := q12) rfl)) (of_decide_eq_true (c.fact 13 (f := q13) rfl)) l6 d6 (of_decide_eq_true (c.fact 14 (f := q14) rfl)) (of_decide_eq_true (c.fact 15 (f := q15) rfl)) l7 d7 (of_decide_eq_true (c.fact 16 (f := q16) rfl)) (of_decide_eq_true (c.fact 17 (f := q17) rfl)) l8 d8 (of_decide_eq_true (c.fact 18 (f := q18) rfl)) (of_decide_eq_true (c.fact 19 (f := q19) rfl)) l9 d9 (of_decide_eq_true (c.fact 20 (f := q20) rfl)) (of_decide_eq_true (c.fact 21 (f := q21) rfl)) l10 d10 (of_decide_eq_true (c.fact 22 (f := q22) rfl)) (of_decide_eq_true (c.fact 23 (f := q23) rfl)) l11 d11 (of_decide_eq_true (c.fact 24 (f := q24) rfl)) (of_decide_eq_true (c.fact 25 (f := q25) rfl)) l12 d12 (of_decide_eq_true (c.fact 26 (f := q26) rfl)) (of_decide_eq_true (c.fact 27 (f := q27) rfl)) l13 d13 (of_decide_eq_true (c.fact 28 (f := q28) rfl)) (of_decide_eq_true (c.fact 29 (f := q29) rfl)) l14 d14 (of_decide_eq_true (c.fact 30 (f := q30) rfl)) (of_decide_eq_true (c.fact 31 (f := q31) rfl)) l15 d15 (of_decide_eq_true (c.fact 32 (f := q32) rfl)) (of_decide_eq_true (c.fact 33 (f := q33) rfl)) l16 d16 (of_decide_eq_true (c.fact 34 (f := q34) rfl)) (of_decide_eq_true (c.fact 35 (f := q35) rfl)) l17 d17 (of_decide_eq_true (c.fact 36 (f := q36) rfl)) (of_decide_eq_true (c.fact 37 (f := q37) rfl)) l18 d18 (of_decide_eq_true (c.fact 38 (f := q38) rfl)) (of_decide_eq_true (c.fact 39 (f := q39) rfl)) l19 d19 (of_decide_eq_true (c.fact 40 (f := q40) rfl)) (of_decide_eq_true (c.fact 41 (f := q41) rfl)) l20 d20 (of_decide_eq_true (c.fact 42 (f := q42) rfl)) (of_decide_eq_true (c.fact 43 (f := q43) rfl)) l21 d21 (of_decide_eq_true (c.fact 44 (f := q44) rfl)) (of_decide_eq_true (c.fact 45 (f := q45) rfl)) l22 d22 (of_decide_eq_true (c.fact 46 (f := q46) rfl)) (of_decide_eq_true (c.fact 47 (f := q47) rfl)) l23 d23 (of_decide_eq_true (c.fact 48 (f := q48) rfl)) (of_decide_eq_true (c.fact 49 (f := q49) rfl)) l24 d24 (of_decide_eq_true (c.fact 50 (f := q50) rfl)) (of_decide_eq_true (c.fact 51 (f := q51) rfl)) l25 d25 (of_decide_eq_true (c.fact 52 (f := q52) rfl)) (of_decide_eq_true (c.fact 53 (f := q53) rfl)) l26 d26 (of_decide_eq_true (c.fact 54 (f := q54) rfl)) (of_decide_eq_true (c.fact 55 (f := q55) rfl)) l27 d27 (of_decide_eq_true (c.fact 56 (f := q56) rfl)) (of_decide_eq_true (c.fact 57 (f := q57) rfl)) l28 d28 (of_decide_eq_true (c.fact 58 (f := q58) rfl)) (of_decide_eq_true (c.fact 59 (f := q59) rfl)) l29 d29 (of_decide_eq_true (c.fact 60 (f := q60) rfl)) (of_decide_eq_true (c.fact 61 (f := q61) rfl)) l30 d30 (of_decide_eq_true (c.fact 62 (f := q62) rfl)) (of_decide_eq_true (c.fact 63 (f := q63) rfl)) l31 d31 (of_decide_eq_true (c.fact 64 (f := q64) rfl)) (of_decide_eq_true (c.fact 65 (f := q65) rfl)) l32 d32 (of_decide_eq_true (c.fact 66 (f := q66) rfl)) (of_decide_eq_true (c.fact 67 (f := q67) rfl)) l33 d33 (of_decide_eq_true (c.fact 68 (f := q68) rfl)) (of_decide_eq_true (c.fact 69 (f := q69) rfl)) l34 d34 (of_decide_eq_true (c.fact 70 (f := q70) rfl)) (of_decide_eq_true (c.fact 71 (f := q71) rfl)) l35 d35 (of_decide_eq_true (c.fact 72 (f := q72) rfl)) (of_decide_eq_true (c.fact 73 (f := q73) rfl)) l36 d36 (of_decide_eq_true (c.fact 74 (f := q74) rfl)) (of_decide_eq_true (c.fact 75 (f := q75) rfl)) l37 d37 (of_decide_eq_true (c.fact 76 (f := q76) rfl)) (of_decide_eq_true (c.fact 77 (f := q77) rfl)) (of_decide_eq_true (c.fact 78 (f := q78) rfl)) l38 d38 (of_decide_eq_true (c.fact 79 (f := q79) rfl)) (of_decide_eq_true (c.fact 80 (f := q80) rfl)) (of_decide_eq_true (c.fact 81 (f := q81) rfl)) l39 d39 (of_decide_eq_true (c.fact 82 (f := q82) rfl)) (of_decide_eq_true (c.fact 83 (f := q83) rfl)) (of_decide_eq_true (c.fact 84 (f := q84) rfl)) l40 d40 (of_decide_eq_true (c.fact 85 (f := q85) rfl)) (of_decide_eq_true (c.fact 86 (f := q86) rfl)) (of_decide_eq_true (c.fact 87 (f := q87) rfl)) l41 d41 (of_decide_eq_true (c.fact 88 (f := q88) rfl)) (of_decide_eq_true (c.fact 89 (f := q89) rfl)) (of_decide_eq_true (c.fact 90 (f := q90) rfl)) l42 d42 (of_decide_eq_true (c.fact 91 (f := q91) rfl)) (of_decide_eq_true (c.fact 92 (f := q92) rfl)) (of_decide_eq_true (c.fact 93 (f := q93) rfl)) l43 d43 (of_decide_eq_true (c.fact 94 (f := q94) rfl)) (of_decide_eq_true (c.fact 95 (f := q95) rfl)) (of_decide_eq_true (c.fact 96 (f := q96) rfl)) l44 d44 (of_decide_eq_true (c.fact 97 (f := q97) rfl)) (of_decide_eq_true (c.fact 98 (f := q98) rfl)) (of_decide_eq_true (c.fact 99 (f := q99) rfl)) (of_decide_eq_true (c.fact 100 (f := q100) rfl)) (of_decide_eq_true (c.fact 101 (f := q101) rfl)) l45 d45 (of_decide_eq_true (c.fact 102 (f := q102) rfl)) (of_decide_eq_true (c.fact 103 (f := q103) rfl)) (of_decide_eq_true (c.fact 104 (f := q104) rfl)) (of_decide_eq_true (c.fact 105 (f := q105) rfl)) (of_decide_eq_true (c.fact 106 (f := q106) rfl)) l46 d46 (of_decide_eq_true (c.fact 107 (f := q107) rfl)) (of_decide_eq_true (c.fact 108 (f := q108) rfl)) (of_decide_eq_true (c.fact 109 (f := q109) rfl)) (of_decide_eq_true (c.fact 110 (f := q110) rfl)) (of_decide_eq_true (c.fact 111 (f := q111) rfl)) (of_decide_eq_true (c.fact 112 (f := q112) rfl)) (of_decide_eq_true (c.fact 113 (f := q113) rfl)) (of_decide_eq_true (c.fact 114 (f := q114) rfl)) (fun H => He.tupB_ok (vs := [.str "signs", .str "moods", .str "good"]) (c.fact 115 (f := q115) rfl) H) (of_decide_eq_true (c.fact 116 (f := q116) rfl)) (fun H => He.tupB_ok (vs := [.str "last", .str "ends", .str "windows"]) (c.fact 117 (f := q117) rfl) H) (of_decide_eq_true (c.fact 118 (f := q118) rfl)) (of_decide_eq_true (c.fact 119 (f := q119) rfl)) (of_decide_eq_true (c.fact 120 (f := q120) rfl)) (of_decide_eq_true (c.fact 121 (f := q121) rfl)) (of_decide_eq_true (c.fact 122 (f := q122) rfl)) (of_decide_eq_true (c.fact 123 (f := q123) rfl)) (of_decide_eq_true (c.fact 124 (f := q124) rfl)) (of_decide_eq_true (c.fact 125 (f := q125) rfl)) (of_decide_eq_true (c.fact 126 (f := q126) rfl)) (of_decide_eq_true (c.fact 127 (f := q127) rfl)) (of_decide_eq_true (c.fact 128 (f := q128) rfl)) (of_decide_eq_true (c.fact 129 (f := q129) rfl)) (of_decide_eq_true (c.fact 130 (f := q130) rfl)) (of_decide_eq_true (c.fact 131 (f := q131) rfl)) (of_decide_eq_true (c.fact 132 (f := q132) rfl)) (of_decide_eq_true (c.fact 133 (f := q133) rfl)) (c.fact 134 (f := q134) rfl)
end My
open PySem PySem.W PyProof.Rows
set_option maxRecDepth 100000 in
set_option maxHeartbeats 0 in
theorem PySem.Challenge.cw_shortlooks_k61_whole_mends_for_rows_holds : PySem.Challenge.rw_shortlooks_k61_whole_mends_for_rows.Holds := by
  w_on; o_law
  refine HandSHeadRun.head_any (r := OpenLaw.row PySem.Challenge.rw_shortlooks_k61_whole_mends_for_rows) (q := view (OpenLaw.row PySem.Challenge.rw_shortlooks_k61_whole_mends_for_rows).prog [115]) (H := My.hk) (ob := My.ob) (M := 30000) (loose := My.others) (d := HandSHeadRun.topDef (OpenLaw.row PySem.Challenge.rw_shortlooks_k61_whole_mends_for_rows).prog 115) (kwd := []) My.ob_eq
    (by kernel_rfl) (fun s => by kernel_rfl) My.run (by kernel_rfl) (by kernel_rfl) (by kernel_rfl) (by rfl) (by first | assumption | decide +kernel) (by decide +kernel) ⟨rfl, rfl, rfl, rfl, rfl, by decide +kernel⟩ ?hw ?hc
  case hw => w_witness2
  case hc =>
    refine L2.walk_GTE (l := PySem.Challenge.rw_shortlooks_k61_whole_mends_for_rows) (n := 63) (k := 11) (x := "_law_script") (sp := fun K ts => My.spLawT (My.tbOf ts) K) rfl (by decide) (by kernel_rfl) ⟨rfl, by decide, by decide⟩ ?F (fun _ ts _ a ns hl hT hS => ⟨a, ns, rfl, hS, hl, My.tabs_tb hT, fun _ => rfl⟩)
    intro w mg fa h Y G hmg0
    obtain ⟨K, KX, c⟩ := Y
    have hmg : mg ("law" : PySem.Str) = some (.ref fa) := by
      have e : (HandSHeadRun.topDef (OpenLaw.row PySem.Challenge.rw_shortlooks_k61_whole_mends_for_rows).prog 115).name = ("law" : PySem.Str) := by kernel_rfl
      rw [← e]
      exact hmg0
    obtain ⟨fd, hb, hF⟩ := My.facts (w := w) KX G hmg c
    exact ⟨K, _, fd, KX, c.tabs KX, hb, hF⟩
